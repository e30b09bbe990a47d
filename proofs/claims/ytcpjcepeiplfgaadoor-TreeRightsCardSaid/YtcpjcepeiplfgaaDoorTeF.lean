/-
  The document's own text of a cell, and kids. Condition: what the listed variables hold.
-/
import Derived.Test.YtcpjcepeiplfgaaDoorTeE
import Derived.Test.YtcpjcepeiplfgaaDoorTcK
namespace Go.Proofs.YtcpjcepeiplfgaaDoor.C
open Go.RowKit

theorem refTextOf_any (c : Int) (w : World) : Calls Tryd.prog 63 #[.int .i32 c] w fun e w' => e = .returned (.string (str (textL [c]))) ∧ Below w.heap.size w w' := by
  obtain ⟨W, hW⟩ : ∃ W, W = w.alloc (.cells #[.int .i32 c] 22) := ⟨_, rfl⟩
  have hb : Below w.heap.size w W := by rw [hW]; exact (Below.refl _ _).alloc (Nat.le_refl _) _
  have hs : W.heap.size = w.heap.size + 1 := by rw [hW]; simp
  have hri : RI .i32 W W.heap.size (some ⟨w.heap.size, 0, none⟩) 1 [c] := by
    refine ⟨rfl, fun _ => ⟨_, rfl, by show w.heap.size < _; omega, fun j u hj => ?_⟩⟩
    rcases j with _ | j
    · obtain rfl : c = u := by simpa using hj
      rw [hW, add_plain, World.cell?_alloc_new]
      rfl
    · simp at hj
  have hc := refText_any W W.heap.size (some ⟨w.heap.size, 0, none⟩) 1 1 [c] hri (Nat.le_refl _) (by omega)
  obtain ⟨s, hs'⟩ : ∃ s, str (textL [c]) = s := ⟨_, rfl⟩
  rw [hs'] at hc ⊢
  have HB := Lib.hid hb
  have HS := Lib.hid hs
  clear hri hs' hb hs
  go_enter Tryd.func63, Tryd.ntmps63
  go_wp2_with fail
  rw [← hW]
  refine hc.mono ?_
  rintro e w2 ⟨rfl, hb2⟩
  have HE : Hid (Below w.heap.size w w2) := Lib.hid (HB.out.trans (hb2.mono (by have := HS.out; omega)))
  clear hc hb2 hW
  go_wp2
  go_ret
  exact ⟨rfl, HE.out⟩
/-- the document's print of node k says what it should -/
def PrOk (t : Tr) (A : Option Addr) (c : Nat) (k : Int) : Prop := ∀ (w : World) (P : Nat → Prop) (xs : List (List Value)), NdsP w P A t.ns xs → (∀ b, P b → b < w.heap.size) → Gt w → (prI t k).length ≤ 20000000 → Calls Tryd.prog 45 #[.agg #[.slice A t.ns.length c, .int .i64 t.g], .int .i64 k] w fun e w' => e = .returned (.string (str (prI t k))) ∧ Below w.heap.size w w'
set_option maxRecDepth 100000 in
set_option maxHeartbeats 4000000 in
theorem refKids_any (t : Tr) (A : Option Addr) (c : Nat) (w : World) (P Q : Nat → Prop) (xs : List (List Value)) (ks : List Int) (vK : Value) (sep : List UInt8) (hN : NdsP w P A t.ns xs) (hP : ∀ b, P b → b < w.heap.size) (hG : Gt w) (hK : KsP w Q vK ks) (hQ : ∀ b, Q b → b < w.heap.size) (hsep : sep.length ≤ 1) (hok : ∀ k ∈ ks, PrOk t A c k) (hlen : (joinP sep (prI t) ks).length ≤ 20000000) :
    Calls Tryd.prog 65 #[.agg #[.slice A t.ns.length c, .int .i64 t.g], vK, .string (str sep)] w fun e w' => e = .returned (.string (str (joinP sep (prI t) ks))) ∧ Below w.heap.size w w' := by
  obtain ⟨S, hS⟩ : ∃ S, w.heap.size = S := ⟨_, rfl⟩
  obtain ⟨W, hW⟩ : ∃ W, W = w.alloc (.cells #[.slice A t.ns.length c, .int .i64 t.g] 34) := ⟨_, rfl⟩
  have hb : Below w.heap.size w W := by rw [hW]; exact (Below.refl _ _).alloc (Nat.le_refl _) _
  have hr : Rw W S 34 #[.slice A t.ns.length c, .int .i64 t.g] := by rw [hW, ← hS]; exact heap_alloc_new w _
  have HN : Hid (NdsP W P A t.ns xs) := Lib.hid (hN.keep (below_cells hb hP))
  have HK : Hid (KsP W Q vK ks) := Lib.hid (hK.keep (below_cells hb hQ))
  have HSW : Hid (S < W.heap.size) := Lib.hid hr.lt
  have HP : Hid (∀ b, P b → b < W.heap.size) := Lib.hid (fun b h => by have := hP b h; have := HSW.out; omega)
  have HQQ : Hid (∀ b, Q b → b < W.heap.size) := Lib.hid (fun b h => by have := hQ b h; have := HSW.out; omega)
  have HB : Hid (Below S w W) := Lib.hid (by rw [← hS]; exact hb)
  have HG : Hid (∀ w', Below S w w' → Gt w') := Lib.hid (fun w' hb => hG.next hb (by rw [← hS]; exact hG.lt))
  have HOK := Lib.hid hok
  have HLEN := Lib.hid hlen
  have HSEP := Lib.hid hsep
  have HRO := Lib.hid hr
  obtain ⟨AK, cK, rfl, -, hkm⟩ := hK
  obtain ⟨m, hm⟩ : ∃ m, m = ks.length := ⟨_, rfl⟩
  have HMM := Lib.hid hm
  rw [← hm] at hkm ⊢
  rw [hS]
  unfold maxLen at hkm
  have H0 := Lib.hid (Below.refl W.heap.size W)
  clear hN hP hG hQ hok hlen hsep hb hr hm
  go_enter Tryd.func65, Tryd.ntmps65
  go_upto_region 1 with fail
  rw [← hW]
  clear hW hS
  go_wp2
  go_loopw [7, 8] (fun sv iv wr => ∃ j : Nat, j ≤ m ∧ sv = .string (str (joinP sep (prI t) (ks.take j))) ∧ iv = .int .i64 j ∧ Hid (Below W.heap.size W wr)) (fun _ iv _ => m - (intOf iv).toNat)
  case atStart => exact ⟨0, Nat.zero_le _, rfl, rfl, H0⟩
  case round =>
    clear H0
    obtain ⟨j, hjm, rfl, rfl, HQ⟩ := hrel
    have HBS : Hid (Below S w wr) := Lib.hid (HB.out.trans (HQ.out.mono (by have := HSW.out; omega)))
    by_cases hlt : j < m
    · obtain ⟨k, hk⟩ : ∃ k, ks[j]? = some k := ⟨_, List.getElem?_eq_getElem (by have := HMM.out; omega)⟩
      obtain ⟨A', c', hv, hri, -⟩ := HK.out.keep (below_cells HQ.out HQQ.out)
      injection hv with hA _ hc
      subst hA hc
      obtain ⟨ak, u, rfl, -, hu, dk⟩ := hri.at_ (k := j) (by have := HMM.out; omega)
      rw [hk] at hu
      injection hu with hu
      subst hu
      have hjl : (joinP sep (prI t) (ks.take (j + 1))).length ≤ (joinP sep (prI t) ks).length := by
        have := joinP_le sep (prI t) (ks.take (j + 1)) (ks.drop (j + 1))
        rwa [List.take_append_drop] at this
      have htk : ks.take (j + 1) = ks.take j ++ [k] := take_one hk
      rw [htk, joinP_snoc] at hjl
      simp only [List.length_append] at hjl
      have hj2 : (joinP sep (prI t) (ks.take j)).length ≤ 20000000 ∧ (prI t k).length ≤ 20000000 := by have := HLEN.out; omega
      obtain ⟨sj, hsj⟩ : ∃ sj, str (joinP sep (prI t) (ks.take j)) = sj := ⟨_, rfl⟩
      have hsz : sj.size ≤ 20000000 := by rw [← hsj, str_sizeE]; exact hj2.1
      have HNR : Hid (NdsP wr P A t.ns xs) := Lib.hid (HN.out.keep (below_cells HQ.out HP.out))
      have HWR : Hid (W.heap.size ≤ wr.heap.size) := Lib.hid HQ.out.size
      have hrr := HRO.out.on HQ.out HSW.out
      have c0 : wr.cell? ⟨S, 0, none⟩ = some (.slice A t.ns.length c) := hrr.cell (i := 0) rfl
      have c1 : wr.cell? ⟨S, 1, none⟩ = some (.int .i64 t.g) := hrr.cell (i := 1) rfl
      have hcall := HOK.out k (List.mem_of_getElem? hk) wr.drew P xs (HNR.out.keep (w' := wr.drew) fun _ _ => rfl) (fun b hb => by have := HP.out b hb; have := HWR.out; show b < wr.heap.size; omega) (HG.out _ (below_drew HBS.out)) hj2.2
      obtain ⟨sk, hsk⟩ : ∃ sk, str (prI t k) = sk := ⟨_, rfl⟩
      have hkz : sk.size ≤ 20000000 := by rw [← hsk, str_sizeE]; exact hj2.2
      rw [hsk] at hcall
      obtain ⟨sp, hsp⟩ : ∃ sp, str sep = sp := ⟨_, rfl⟩
      have hpz : sp.size ≤ 1 := by rw [← hsp, str_sizeE]; exact HSEP.out
      have HNX : Hid (str (joinP sep (prI t) (ks.take (j + 1))) = (if j = 0 then sj else sj ++ sp) ++ sk) := Lib.hid (by
        rw [htk, joinP_snoc]
        by_cases h0 : j = 0
        · subst h0
          rw [if_pos rfl, if_pos (by simp), List.append_nil, ← hsj, ← hsk, str_appT]
        · rw [if_neg h0, if_neg (by intro h; have h1 := congrArg List.length h; rw [List.length_take, List.length_nil] at h1; have := HMM.out; omega), ← hsj, ← hsk, ← hsp, str_appT, str_appT])
      have wj : IntKind.i64.wrap ((j : Int) + 1) = (j : Int) + 1 := by rw [IntKind.wrap_i64]; omega
      have hlt' : (j : Int) < (m : Int) := by omega
      have HSP := Lib.hid hsp
      rw [hsj, hsp]
      clear hk hri hjl htk hj2 hsj hsk hsp hrr
      obtain ⟨sq, hsq⟩ : ∃ sq, (if j = 0 then sj else sj ++ sp) = sq := ⟨_, rfl⟩
      have HSQ := Lib.hid hsq
      have hqz : sq.size ≤ 20000001 := by
        rw [← hsq]
        split
        · omega
        · rw [ByteArray.size_append]; omega
      clear hsq
      have z1 : ¬ 9223372036854775807 < sj.size + sp.size := by omega
      have z2 : ¬ 9223372036854775807 < sq.size + sk.size := by omega
      go_upto_if 16 with fail
      go_cut [7] (fun sv wx => sv = .string sq ∧ wr = wx)
      case first =>
        by_cases h0 : j = 0
        · have h0' : ¬ (0 : Int) < (j : Int) := by omega
          have HE : Hid (sq = sj) := Lib.hid (by rw [← HSQ.out, if_pos h0])
          clear h0
          go_wp2
          go_meet
          exact ⟨by rw [HE.out], rfl⟩
        · have h0' : (0 : Int) < (j : Int) := by omega
          have HE : Hid (sq = sj ++ sp) := Lib.hid (by rw [← HSQ.out, if_neg h0])
          clear h0
          go_wp2
          go_meet
          exact ⟨by rw [HE.out], rfl⟩
      case rest =>
        generalize wc = wx at *
        obtain ⟨rfl, rfl⟩ := hcut
        go_upto_region 7 with fail
        have hS1 : (fun W' : World => W'.cell? ⟨S, 0, none⟩ = some (.slice A t.ns.length c) ∧ W'.cell? ⟨S, 1, none⟩ = some (.int .i64 t.g) ∧ W'.cell? (ak.add j) = some (.int .i64 k)) wr.drew := ⟨c0, c1, dk⟩
        refine wp_region_held (S := fun W' : World => W'.cell? ⟨S, 0, none⟩ = some (.slice A t.ns.length c) ∧ W'.cell? ⟨S, 1, none⟩ = some (.int .i64 t.g) ∧ W'.cell? (ak.add j) = some (.int .i64 k)) (by kernel_rfl) ?_
        change wpAnyH _ _ _ _ _ _ _ _ wr.drew
        iterate 6 (refine wpH rfl rfl ?_; try simp only [Act.put, g1, g2, g3, g4, g5, g6])
        refine wpAnyH_one (i := 6) (by kernel_rfl) rfl (fun K hK => ?_)
        simp only [g4, g5, g6]
        go_simp
        go_at_call 45
        with_reducible refine hcall.mono ?_
        rintro e w2 ⟨rfl, hb2⟩
        have hbw : Below wr.heap.size wr w2 := (below_drew (Below.refl _ wr)).trans hb2
        have HE : Hid (Below W.heap.size W w2) := Lib.hid (HQ.out.trans (hbw.mono HWR.out))
        have hS2 : (fun W' : World => W'.cell? ⟨S, 0, none⟩ = some (.slice A t.ns.length c) ∧ W'.cell? ⟨S, 1, none⟩ = some (.int .i64 t.g) ∧ W'.cell? (ak.add j) = some (.int .i64 k)) w2 := ⟨below_cell hbw c0, below_cell hbw c1, below_cell hbw dk⟩
        refine hK.out _ _ hS2 (fun _ => ?_)
        clear hK hcall hb2 hbw hS1
        try simp only [Act.put, g1, g2, g3, g4, g5, g6]
        refine wpH rfl rfl ?_
        try simp only [Act.put, g1, g2, g3, g4, g5, g6]
        refine wpAnyH_one (i := 8) (by kernel_rfl) rfl (fun K hK => ?_)
        simp only [g4, g5, g6]
        go_simp
        refine hK.out _ _ hS2 (fun _ => ?_)
        try simp only [Act.put, g1, g2, g3, g4, g5, g6]
        refine wpAnyH_done (by kernel_rfl) ?_ _
        clear hK hS2
        have HST : Hid (sq ++ sk = str (joinP sep (prI t) (ks.take (j + 1)))) := Lib.hid (by rw [HNX.out, HSQ.out])
        go_wp2
        go_roundw
        case rel => exact ⟨j + 1, by omega, by rw [← HST.out], by go_num, HE⟩
        case measure => simp [intOf]; omega
    · obtain rfl : j = m := by omega
      have HT : Hid (ks.take j = ks) := Lib.hid (by rw [HMM.out, List.take_length])
      rw [HT.out]
      go_wp2
      go_ret
      exact ⟨rfl, HBS.out⟩
end Go.Proofs.YtcpjcepeiplfgaaDoor.C
