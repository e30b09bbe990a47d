/-
  The contract of the document's own Tokens over texts of at most 4000 bytes. No condition.
-/
import Derived.Test.YtnifcgiajjmogaaGreatDoorLyV
namespace Go.Proofs.YtnifcgiajjmogaaGreatDoor.C
open Go.RowKit

theorem ti_of {w : World} {base n c : Nat} {A : Option Addr} {ts : List Tok} (h : w.ownsRow base 35 4 (.slice A n c) n (tksC ts)) (hl : ts.length = n) : TI w w.heap.size A n ts := by
  obtain ⟨A', c', hv, _, _, hti⟩ := TI.of_own h hl
  injection hv with h1 h2 h3
  subst h1
  exact hti
theorem lex_in {l : List UInt8} {ts : List Tok} (h4 : l.length ≤ 4000) (h : runL l 0 [] = .inl ts) : lexL l = if 1000 < ts.length then ([], 3, 0) else (ts, 0, 0) := by
  unfold lexL
  rw [if_neg (by omega), h]
theorem lex_out {l : List UInt8} {a : Nat} (h4 : l.length ≤ 4000) (h : runL l 0 [] = .inr a) : lexL l = ([], 20, a) := by
  unfold lexL
  rw [if_neg (by omega), h]

set_option maxRecDepth 100000 in
set_option maxHeartbeats 16000000 in
theorem tokens_ref0 (s : ByteArray) (w : World) (hs : s.size ≤ 4000) : Calls Tryz.prog 11 #[.string s] w (RefTold w (lexL s.data.toList)) := by
  obtain ⟨i0, hi, hz0, hz1, hz2⟩ := info_parts infoTok
  have HLI := Lib.hid (fun ts => lex_in (l := s.data.toList) (ts := ts) (by rw [size_list]; omega))
  have HLO := Lib.hid (fun a => lex_out (l := s.data.toList) (a := a) (by rw [size_list]; omega))
  have h4 : ¬ (4000 : Int) < (s.size : Int) := by omega
  go_enter Tryz.func11, Tryz.ntmps11
  go_wp2
  go_loopw [5, 6] (fun vv kv wr => ∃ (k n : Nat) (ts : List Tok) (A : Option Addr) (c : Nat), k ≤ s.size ∧ n ≤ k ∧ vv = .slice A n c ∧ kv = .int .i64 k ∧ Hid (ts.length = n) ∧ Hid (wr.ownsRow w.heap.size 35 4 (.slice A n c) n (tksC ts)) ∧ Hid (runL s.data.toList 0 [] = runL (s.data.toList.drop k) k ts) ∧ Below w.heap.size w wr) (fun _ kv _ => s.size - (intOf kv).toNat)
  case atStart => exact ⟨0, 0, [], none, 0, Nat.zero_le _, Nat.le_refl _, rfl, rfl, Lib.hid rfl, Lib.hid (World.ownsRow_nil _ _ _ _), Lib.hid rfl, Below.refl _ _⟩
  case round =>
    obtain ⟨k, n, ts, A, c, hk, hnk, rfl, rfl, HN, HO, HR, hbr⟩ := hrel
    have hsz := hbr.size
    by_cases hlt : k < s.size
    · have he : (s.extract k s.size).data.toList = s.data.toList.drop k := by rw [extract_list, ← size_list, List.take_length]
      have hes : (s.extract k s.size).size = s.size - k := by rw [← size_list, he, List.length_drop, size_list]
      have hbl := fun W => blank_ref (s.extract k s.size) W (by omega) (by omega)
      have hon := fun W h => one_ref_none (s.extract k s.size) W (by omega) (by omega) h
      have hos := fun W kd n m t h => one_ref_some (s.extract k s.size) W (by omega) (by omega) (k := kd) (n := n) (m := m) (t := t) h
      rw [he] at hbl hon hos
      have hne : s.data.toList.drop k ≠ [] := by
        intro e
        have := congrArg List.length e
        rw [List.length_drop, size_list] at this
        simp at this
        omega
      have hhd : (s.data.toList.drop k).head? = some (s[k]'hlt) := by rw [drop_ba hlt]; rfl
      have hdl : (s.data.toList.drop k).length = s.size - k := by rw [List.length_drop, size_list]
      have hdd : ∀ m, (s.data.toList.drop k).drop m = s.data.toList.drop (k + m) := fun m => by rw [List.drop_drop]
      have hkk : ∀ W, (Instr.index 9 (.string s) (.int .i64 (k : Nat))).run Tryz.prog W = .ok (.int .u8 (s[k]'hlt).toNat) W := fun W => index_run s k k _ rfl (by rw [Array.getElem?_toList]; exact Array.getElem?_eq_getElem hlt) W
      have hr := HR.out
      generalize s.data.toList.drop k = l at *
      generalize s[k]'hlt = b at *
      have hdv : ∀ (m : Nat) (ts' : List Tok), stepL l k ts = some (ts', m) → Hid (runL s.data.toList 0 [] = runL (s.data.toList.drop (k + m)) (k + m) ts') ∧ 1 ≤ m ∧ k + m ≤ s.size := fun m ts' h => by
        have h1 := stepL_len hne h
        refine ⟨Lib.hid ?_, h1.1, by omega⟩
        rw [hr, runL_some hne h h1.1, hdd]
      have HDV := Lib.hid hdv
      have HNO : Hid (stepL l k ts = none → lexL s.data.toList = ([], 20, k)) := Lib.hid (fun h => HLO.out k (by rw [hr, runL_none hne h]))
      have k0 : (0 : Int) ≤ (k : Int) := by omega
      have k1 : (k : Int) < (s.size : Int) := by omega
      have k2 : (k : Int) ≤ (s.size : Int) := by omega
      clear hdv hr he hes hdd hdl hne HR
      by_cases hb0 : blankL l = 0
      · have hbl0 : ∀ W, Calls Tryz.prog 19 #[.string (s.extract k s.size)] W fun e w' => e = .returned (.int .i64 0) ∧ w' = W := fun W => (hbl W).mono fun e w' ⟨h1, h2⟩ => ⟨by rw [h1, hb0]; rfl, h2⟩
        clear hbl
        by_cases hb10 : b.toNat = 10
        · have hl10 : l.head? = some 10 := by rw [hhd, ba_eq hb10]; rfl
          obtain ⟨HD, _, _⟩ := HDV.out _ _ (step_line hb0 hl10)
          have e1 : ((b.toNat : Int) == 10) = true := by simp; omega
          clear hon hos hhd hl10 hb0 hb10 HDV HNO
          rcases snoc_or ts with rfl | ⟨r, x, rfl⟩
          · obtain rfl : n = 0 := HN.out.symm
            go_wp2_with (go_at_call 19; refine (hbl0 _).mono ?_; rintro e w' ⟨rfl, rfl⟩)
            go_roundw
            case rel => exact ⟨k + 1, 0, [], A, c, by omega, by omega, rfl, by go_num, Lib.hid rfl, HO, HD, hbr⟩
            case measure => simp [intOf]; omega
          · obtain ⟨j, hj⟩ : ∃ j, r.length = j := ⟨_, rfl⟩
            obtain rfl : n = j + 1 := by rw [← HN.out, List.length_append, hj]; rfl
            obtain ⟨g, rfl, hc1, hc2⟩ := own_last HO.out hj
            have j0 : (0 : Int) ≤ (j : Int) := by omega
            have j1 : (j : Int) < (j : Int) + 1 := by omega
            have j2 : (0 : Int) < (j : Int) + 1 := by omega
            have j3 : ((j : Int) + 1 == 0) = false := by simp; omega
            clear hj
            by_cases h6 : x.k = 6
            · have hl : endL (r ++ [x]) k = r ++ [x] := by unfold endL; rw [lastK_snoc, if_pos h6]
              rw [hl] at HD
              have q : ((x.k : Int) == 6) = true := by simp; omega
              clear hl h6
              go_wp2_with (go_at_call 19; refine (hbl0 _).mono ?_; rintro e w' ⟨rfl, rfl⟩)
              go_roundw
              case rel => exact ⟨k + 1, j + 1, r ++ [x], _, c, by omega, by omega, by go_num, by go_num, HN, HO, HD, hbr⟩
              case measure => simp [intOf]; omega
            · have hl : endL (r ++ [x]) k = r ++ [x] ++ [⟨6, [], 0, k⟩] := by unfold endL; rw [lastK_snoc, if_neg h6]
              rw [hl] at HD
              have q : ((x.k : Int) == 6) = false := by simp; omega
              clear hl h6
              go_wp2_with (first | (go_at_call 19; refine (hbl0 _).mono ?_; rintro e w' ⟨rfl, rfl⟩) | (at_builtin; (refine wpList_append_own _ rfl _ _ 28 rfl w.heap.size 35 i0 (.agg #[.int .u8 0, .string ⟨#[]⟩, .int .i64 0, .int .i64 0]) 4 40 Tryz.underlying28 hi hz0 hz1 hz2 rfl (by decide) (.slice _ (j + 1) c) ((j + 1)) (tksC (r ++ [x])) rfl (HO.out.alloc _) ⟨_, 0, none⟩ 1 1 (tkC ⟨6, [], 0, k⟩) rfl rfl (tok_new _ ⟨6, [], 0, k⟩ _ _ rfl) (tok_one _) (by unfold maxLen; omega) (by omega) (by simp; omega) ?_); intro v' w3 hown' hgrow _; have hB3 : Below w.heap.size w w3 := ((hbr.alloc hsz _).grown hgrow (by simp; omega) (fun j e => (HO.out.lt j e).1)); obtain ⟨A', c', rfl, _, _⟩ := own_slice4 hown'; have hO3 : w3.ownsRow w.heap.size 35 4 (.slice A' ((j + 1) + 1) c') ((j + 1) + 1) (tksC ((r ++ [x]) ++ [⟨6, [], 0, k⟩])) := (by rw [tksC_snoc]; exact hown'); have HO3 := Lib.hid hO3; have HB3 := Lib.hid hB3; clear hown' hgrow hO3 hB3))
              go_roundw
              case rel => exact ⟨k + 1, j + 1 + 1, r ++ [x] ++ [⟨6, [], 0, k⟩], A', c', by omega, by omega, by go_num, by go_num, Lib.hid (by rw [List.length_append, HN.out]; rfl), HO3, HD, HB3.out⟩
              case measure => simp [intOf]; omega
        · have hl10 : l.head? ≠ some 10 := by
            rw [hhd]
            intro e
            injection e with e
            exact hb10 (by rw [e]; rfl)
          have e1 : ((b.toNat : Int) == 10) = false := by simp; omega
          cases htok : tokL l with
          | none =>
            have HF := Lib.hid (HNO.out (step_none hb0 hl10 htok))
            have hon0 := fun W => hon W htok
            clear hon hos hhd hl10 hb0 hb10 HDV HNO htok
            rcases snoc_or ts with rfl | ⟨r, x, rfl⟩
            · obtain rfl : n = 0 := HN.out.symm
              go_wp2_with (first | (go_at_call 19; refine (hbl0 _).mono ?_; rintro e w' ⟨rfl, rfl⟩) | (go_at_call 20; refine (hon0 _).mono ?_; rintro e w2 ⟨kd, tx, nn, rfl, hb2⟩))
              go_ret3
              rw [HF.out]
              exact ⟨none, 0, 0, rfl, by omega, TI.nil _ _ _, (hbr.trans (hb2.mono hsz)).alloc (hbr.trans (hb2.mono hsz)).size _⟩
            · obtain ⟨j, hj⟩ : ∃ j, r.length = j := ⟨_, rfl⟩
              obtain rfl : n = j + 1 := by rw [← HN.out, List.length_append, hj]; rfl
              obtain ⟨g, rfl, hc1, hc2⟩ := own_last HO.out hj
              have j0 : (0 : Int) ≤ (j : Int) := by omega
              have j1 : (j : Int) < (j : Int) + 1 := by omega
              have j2 : (0 : Int) < (j : Int) + 1 := by omega
              have j3 : ((j : Int) + 1 == 0) = false := by simp; omega
              clear hj
              go_wp2_with (first | (go_at_call 19; refine (hbl0 _).mono ?_; rintro e w' ⟨rfl, rfl⟩) | (go_at_call 20; refine (hon0 _).mono ?_; rintro e w2 ⟨kd, tx, nn, rfl, hb2⟩))
              go_ret3
              rw [HF.out]
              exact ⟨none, 0, 0, rfl, by omega, TI.nil _ _ _, (hbr.trans (hb2.mono hsz)).alloc (hbr.trans (hb2.mono hsz)).size _⟩
          | some y =>
            obtain ⟨kd, t, nn, m⟩ := y
            obtain ⟨HD, hm1, hm2⟩ := HDV.out _ _ (step_some hb0 hl10 htok)
            have hos0 := fun W => hos W _ _ _ _ htok
            have m0 : ((m : Int) == 0) = false := by simp; omega
            clear hon hos hhd hl10 hb0 hb10 HDV HNO htok
            rcases snoc_or ts with rfl | ⟨r, x, rfl⟩
            · obtain rfl : n = 0 := HN.out.symm
              go_wp2_with (first | (go_at_call 19; refine (hbl0 _).mono ?_; rintro e w' ⟨rfl, rfl⟩) | (go_at_call 20; refine (hos0 _).mono ?_; rintro e w2 ⟨rfl, hb2⟩) | (at_builtin; (refine wpList_append_own _ rfl _ _ 28 rfl w.heap.size 35 i0 (.agg #[.int .u8 0, .string ⟨#[]⟩, .int .i64 0, .int .i64 0]) 4 40 Tryz.underlying28 hi hz0 hz1 hz2 rfl (by decide) (.slice A 0 c) (0) (tksC []) rfl (((own_keep HO.out hb2).alloc _).alloc _) ⟨_, 0, none⟩ 1 1 (tkC ⟨kd, t, nn, k⟩) rfl rfl (tok_new _ ⟨kd, t, nn, k⟩ _ _ (by simp)) (tok_one _) (by unfold maxLen; omega) (by omega) (by simp; have := (hbr.trans (hb2.mono hsz)).size; omega) ?_); intro v' w3 hown' hgrow _; have hB3 : Below w.heap.size w w3 := ((((hbr.trans (hb2.mono hsz)).alloc (hbr.trans (hb2.mono hsz)).size _).alloc (by simp; have := (hbr.trans (hb2.mono hsz)).size; omega) _).grown hgrow (by simp; have := (hbr.trans (hb2.mono hsz)).size; omega) (fun j e => (HO.out.lt j e).1)); obtain ⟨A', c', rfl, _, _⟩ := own_slice4 hown'; have hO3 : w3.ownsRow w.heap.size 35 4 (.slice A' (0 + 1) c') (0 + 1) (tksC ([] ++ [⟨kd, t, nn, k⟩])) := (by rw [tksC_snoc]; exact hown'); have HO3 := Lib.hid hO3; have HB3 := Lib.hid hB3; clear hown' hgrow hO3 hB3))
              go_roundw
              case rel => exact ⟨k + m, 0 + 1, [] ++ [⟨kd, t, nn, k⟩], A', c', by omega, by omega, by go_num, by go_num, Lib.hid (by rw [List.length_append, HN.out]; rfl), HO3, HD, HB3.out⟩
              case measure => simp [intOf]; omega
            · obtain ⟨j, hj⟩ : ∃ j, r.length = j := ⟨_, rfl⟩
              obtain rfl : n = j + 1 := by rw [← HN.out, List.length_append, hj]; rfl
              obtain ⟨g, rfl, hc1, hc2⟩ := own_last HO.out hj
              have j0 : (0 : Int) ≤ (j : Int) := by omega
              have j1 : (j : Int) < (j : Int) + 1 := by omega
              have j2 : (0 : Int) < (j : Int) + 1 := by omega
              have j3 : ((j : Int) + 1 == 0) = false := by simp; omega
              clear hj
              go_wp2_with (first | (go_at_call 19; refine (hbl0 _).mono ?_; rintro e w' ⟨rfl, rfl⟩) | (go_at_call 20; refine (hos0 _).mono ?_; rintro e w2 ⟨rfl, hb2⟩) | (at_builtin; (refine wpList_append_own _ rfl _ _ 28 rfl w.heap.size 35 i0 (.agg #[.int .u8 0, .string ⟨#[]⟩, .int .i64 0, .int .i64 0]) 4 40 Tryz.underlying28 hi hz0 hz1 hz2 rfl (by decide) (.slice _ (j + 1) c) ((j + 1)) (tksC (r ++ [x])) rfl (((own_keep HO.out hb2).alloc _).alloc _) ⟨_, 0, none⟩ 1 1 (tkC ⟨kd, t, nn, k⟩) rfl rfl (tok_new _ ⟨kd, t, nn, k⟩ _ _ (by simp)) (tok_one _) (by unfold maxLen; omega) (by omega) (by simp; have := (hbr.trans (hb2.mono hsz)).size; omega) ?_); intro v' w3 hown' hgrow _; have hB3 : Below w.heap.size w w3 := ((((hbr.trans (hb2.mono hsz)).alloc (hbr.trans (hb2.mono hsz)).size _).alloc (by simp; have := (hbr.trans (hb2.mono hsz)).size; omega) _).grown hgrow (by simp; have := (hbr.trans (hb2.mono hsz)).size; omega) (fun j e => (HO.out.lt j e).1)); obtain ⟨A', c', rfl, _, _⟩ := own_slice4 hown'; have hO3 : w3.ownsRow w.heap.size 35 4 (.slice A' ((j + 1) + 1) c') ((j + 1) + 1) (tksC ((r ++ [x]) ++ [⟨kd, t, nn, k⟩])) := (by rw [tksC_snoc]; exact hown'); have HO3 := Lib.hid hO3; have HB3 := Lib.hid hB3; clear hown' hgrow hO3 hB3))
              go_roundw
              case rel => exact ⟨k + m, (j + 1) + 1, (r ++ [x]) ++ [⟨kd, t, nn, k⟩], A', c', by omega, by omega, by go_num, by go_num, Lib.hid (by rw [List.length_append, HN.out]; rfl), HO3, HD, HB3.out⟩
              case measure => simp [intOf]; omega
      · obtain ⟨m, hm⟩ : ∃ m, blankL l = m := ⟨_, rfl⟩
        have hd := HDV.out _ _ (step_blank hb0)
        rw [hm] at hd hbl
        obtain ⟨HD, hm1, hm2⟩ := hd
        have m0 : (0 : Int) < (m : Int) := by omega
        clear hon hos hhd hb0 hm HDV HNO hkk
        go_wp2_with (go_at_call 19; refine (hbl _).mono ?_; rintro e w' ⟨rfl, rfl⟩)
        go_roundw
        case rel => exact ⟨k + m, n, ts, A, c, by omega, by omega, rfl, by go_num, HN, HO, HD, hbr⟩
        case measure => simp [intOf]; omega
    · obtain rfl : k = s.size := by omega
      have hr := HR.out
      rw [← size_list, List.drop_length, runL_nil, size_list] at hr
      have hf := HLI.out _ hr
      have HF := Lib.hid hf
      clear hr hf HR hlt
      rcases snoc_or ts with rfl | ⟨r, x, rfl⟩
      · obtain rfl : n = 0 := HN.out.symm
        go_wp2
        go_ret3
        rw [HF.out]
        exact ⟨A, 0, c, rfl, by omega, ti_of HO.out rfl, hbr⟩
      · obtain ⟨j, hj⟩ : ∃ j, r.length = j := ⟨_, rfl⟩
        obtain rfl : n = j + 1 := by rw [← HN.out, List.length_append, hj]; rfl
        obtain ⟨g, rfl, hc1, hc2⟩ := own_last HO.out hj
        have j0 : (0 : Int) ≤ (j : Int) := by omega
        have j1 : (j : Int) < (j : Int) + 1 := by omega
        have j2 : (0 : Int) < (j : Int) + 1 := by omega
        have j3 : ((j : Int) + 1 == 0) = false := by simp; omega
        clear hj
        by_cases h6 : x.k = 6
        · have hl : endL (r ++ [x]) s.size = r ++ [x] := by unfold endL; rw [lastK_snoc, if_pos h6]
          have hf := HF.out
          rw [hl, HN.out] at hf
          have q : ((x.k : Int) != 6) = false := by simp; omega
          by_cases hbig : 1000 < j + 1
          · rw [if_pos hbig] at hf
            have HF2 := Lib.hid hf
            have b1 : (1000 : Int) < (j : Int) + 1 := by omega
            clear hf hl h6 HF
            go_wp2
            go_ret3
            rw [HF2.out]
            exact ⟨none, 0, 0, rfl, by omega, TI.nil _ _ _, hbr⟩
          · rw [if_neg hbig] at hf
            have HF2 := Lib.hid hf
            have b1 : ¬ (1000 : Int) < (j : Int) + 1 := by omega
            clear hf hl h6 HF
            go_wp2
            go_ret3
            rw [HF2.out]
            exact ⟨_, j + 1, c, rfl, by omega, ti_of HO.out HN.out, hbr⟩
        · have hl : endL (r ++ [x]) s.size = r ++ [x] ++ [⟨6, [], 0, s.size⟩] := by unfold endL; rw [lastK_snoc, if_neg h6]
          have hf := HF.out
          have hlen : (r ++ [x] ++ [(⟨6, [], 0, s.size⟩ : Tok)]).length = j + 1 + 1 := by rw [List.length_append, HN.out]; rfl
          rw [hl, hlen] at hf
          have q : ((x.k : Int) != 6) = true := nat_ne h6
          have HLEN := Lib.hid hlen
          by_cases hbig : 1000 < j + 1 + 1
          · rw [if_pos hbig] at hf
            have HF2 := Lib.hid hf
            have b1 : (1000 : Int) < (j : Int) + 1 + 1 := by omega
            clear hf hl h6 HF hlen
            go_wp2_with (at_builtin; (refine wpList_append_own _ rfl _ _ 28 rfl w.heap.size 35 i0 (.agg #[.int .u8 0, .string ⟨#[]⟩, .int .i64 0, .int .i64 0]) 4 40 Tryz.underlying28 hi hz0 hz1 hz2 rfl (by decide) (.slice _ (j + 1) c) ((j + 1)) (tksC (r ++ [x])) rfl (HO.out.alloc _) ⟨_, 0, none⟩ 1 1 (tkC ⟨6, [], 0, s.size⟩) rfl rfl (tok_new _ ⟨6, [], 0, s.size⟩ _ _ rfl) (tok_one _) (by unfold maxLen; omega) (by omega) (by simp; omega) ?_); intro v' w3 hown' hgrow _; have hB3 : Below w.heap.size w w3 := ((hbr.alloc hsz _).grown hgrow (by simp; omega) (fun j e => (HO.out.lt j e).1)); obtain ⟨A', c', rfl, _, _⟩ := own_slice4 hown'; have hO3 : w3.ownsRow w.heap.size 35 4 (.slice A' ((j + 1) + 1) c') ((j + 1) + 1) (tksC ((r ++ [x]) ++ [⟨6, [], 0, s.size⟩])) := (by rw [tksC_snoc]; exact hown'); have HO3 := Lib.hid hO3; have HB3 := Lib.hid hB3; clear hown' hgrow hO3 hB3)
            go_ret3
            rw [HF2.out]
            exact ⟨none, 0, 0, rfl, by omega, TI.nil _ _ _, HB3.out⟩
          · rw [if_neg hbig] at hf
            have HF2 := Lib.hid hf
            have b1 : ¬ (1000 : Int) < (j : Int) + 1 + 1 := by omega
            clear hf hl h6 HF hlen
            go_wp2_with (at_builtin; (refine wpList_append_own _ rfl _ _ 28 rfl w.heap.size 35 i0 (.agg #[.int .u8 0, .string ⟨#[]⟩, .int .i64 0, .int .i64 0]) 4 40 Tryz.underlying28 hi hz0 hz1 hz2 rfl (by decide) (.slice _ (j + 1) c) ((j + 1)) (tksC (r ++ [x])) rfl (HO.out.alloc _) ⟨_, 0, none⟩ 1 1 (tkC ⟨6, [], 0, s.size⟩) rfl rfl (tok_new _ ⟨6, [], 0, s.size⟩ _ _ rfl) (tok_one _) (by unfold maxLen; omega) (by omega) (by simp; omega) ?_); intro v' w3 hown' hgrow _; have hB3 : Below w.heap.size w w3 := ((hbr.alloc hsz _).grown hgrow (by simp; omega) (fun j e => (HO.out.lt j e).1)); obtain ⟨A', c', rfl, _, _⟩ := own_slice4 hown'; have hO3 : w3.ownsRow w.heap.size 35 4 (.slice A' ((j + 1) + 1) c') ((j + 1) + 1) (tksC ((r ++ [x]) ++ [⟨6, [], 0, s.size⟩])) := (by rw [tksC_snoc]; exact hown'); have HO3 := Lib.hid hO3; have HB3 := Lib.hid hB3; clear hown' hgrow hO3 hB3)
            go_ret3
            rw [HF2.out]
            exact ⟨A', j + 1 + 1, c', rfl, by omega, ti_of HO3.out HLEN.out, HB3.out⟩
theorem tokens_ref (s : ByteArray) (w : World) : Calls Tryz.prog 11 #[.string s] w (RefTold w (lexL s.data.toList)) := by
  rcases Nat.lt_or_ge 4000 s.size with h | h
  · exact tokens_ref_long s w h
  · exact tokens_ref0 s w h
end Go.Proofs.YtnifcgiajjmogaaGreatDoor.C
