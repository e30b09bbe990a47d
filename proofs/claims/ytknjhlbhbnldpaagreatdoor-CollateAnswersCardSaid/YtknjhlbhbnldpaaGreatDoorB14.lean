/-
  Joined: LiD. Each with what its own head says.
-/
import Derived.Test.YtknjhlbhbnldpaaGreatDoorB11
import Derived.Test.YtknjhlbhbnldpaaGreatDoorB12


namespace Go.Proofs.YtknjhlbhbnldpaaGreatDoor.C
open Go.RowKit
theorem placeV_at {o : List Elm} {cs : List Int} {i : Nat} {e : Elm} (he : o[i]? = some e) (hc : e.cells = cs) (h : ∀ x ∈ o.take i, x.cells ≠ cs) : placeV o cs = (i : Int) := by
  unfold placeV
  rw [placeL_someO he hc h]
theorem placeV_none {o : List Elm} {cs : List Int} (h : ∀ x ∈ o, x.cells ≠ cs) : placeV o cs = -1 := by
  unfold placeV
  rw [placeL_noneO h]
theorem placeV_first {o : List Elm} {xs : List Int} {i : Nat} {e : Elm} (he : o[i]? = some e) (_ : e.cells = xs) (h : placeV o xs = (i : Int)) : ((o.take i).any fun x => decide (x.cells = xs)) = false := by
  rw [List.any_eq_false]
  intro x hx
  rw [decide_eq_true_eq]
  intro hxe
  obtain ⟨k, hk⟩ := List.mem_iff_getElem?.1 hx
  rw [List.getElem?_take] at hk
  split at hk
  · rename_i hki
    unfold placeV at h
    cases hp : placeL o xs with
    | none => exact placeL_out hp x (List.mem_of_getElem? hk) hxe
    | some m =>
      rw [hp] at h
      simp only at h
      have hm : m = i := by omega
      subst hm
      unfold placeL at hp
      rw [List.findIdx?_eq_some_iff_getElem] at hp
      obtain ⟨hl, _, h3⟩ := hp
      have := h3 k hki
      rw [(List.getElem?_eq_some_iff.1 hk).2] at this
      exact this (decide_eq_true hxe)
  · cases hk
theorem placeV_any {o : List Elm} {xs : List Int} {i : Nat} {e : Elm} (he : o[i]? = some e) (hc : e.cells = xs) (h : ¬ placeV o xs = (i : Int)) : ((o.take i).any fun x => decide (x.cells = xs)) = true := by
  rw [← Bool.not_eq_false]
  intro hf
  rw [List.any_eq_false] at hf
  refine h (placeV_at he hc fun x hx => ?_)
  have := hf x hx
  simpa using this
set_option maxRecDepth 100000 in
set_option maxHeartbeats 2000000 in
theorem place07_any (w : World) (Bo Bc : Nat) (v : Value) (o : List Elm) (Ac : Option Addr) (n cc : Nat) (cs : List Int) (h : OrdR w Bo v o) (hc : RI .i32 w Bc Ac n cs) (hn : o.length ≤ 500) (hm : n ≤ maxLen) :
    Calls Tryz.prog 33 #[v, .slice Ac n cc] w fun e w' => e = .returned (.int .i64 (placeV o cs)) ∧ ∃ q, w' = w.drewN q := by
  obtain ⟨A, c, xs, rfl, -⟩ := id h
  have H := Lib.hid h
  have HC := Lib.hid hc
  have HM := Lib.hid hm
  clear h hc hm
  go_enter Tryz.func33, Tryz.ntmps33
  go_wp2
  go_loopw [5] (fun iv wr => ∃ i : Nat, i ≤ o.length ∧ iv = .int .i64 i ∧ Hid ((∃ q, wr = w.drewN q) ∧ ∀ x ∈ o.take i, x.cells ≠ cs)) (fun iv _ => o.length - (intOf iv).toNat)
  case atStart => exact ⟨0, Nat.zero_le _, rfl, Lib.hid ⟨⟨0, rfl⟩, by simp⟩⟩
  case round =>
    obtain ⟨i, hin, rfl, HQ⟩ := hrel
    by_cases hlt : i < o.length
    · obtain ⟨e, he⟩ : ∃ e, o[i]? = some e := ⟨_, List.getElem?_eq_getElem hlt⟩
      have hO : OrdR wr Bo (.slice A o.length c) o := by obtain ⟨⟨q, rfl⟩, _⟩ := HQ.out; exact H.out.drewN q
      have hC : RI .i32 wr Bc Ac n cs := by obtain ⟨⟨q, rfl⟩, _⟩ := HQ.out; exact HC.out.drewN q
      obtain ⟨ad, ca, Ax, cx, hA, _, u0, u1, u2, hpx⟩ := elmR_at hO he
      obtain ⟨_, _, _, hv, _, hOl⟩ := hO
      obtain ⟨_, _, _, _, hnk⟩ := hOl i e he
      injection hA with hA _ hC'
      subst hA hC'
      have i0 : (0 : Int) ≤ (i : Int) := by omega
      have i1 : (i : Int) < (o.length : Int) := by omega
      by_cases heq : e.cells = cs
      · have hs := same_yes wr _ _ Ax Ac e.cells.length cx n cc e.cells cs heq hpx hC hnk.2 HM.out
        have HF : Hid (placeV o cs = (i : Int)) := Lib.hid (placeV_at he heq HQ.out.2)
        have HQ1 : Hid (∃ q, wr = w.drewN q) := Lib.hid HQ.out.1
        clear hpx hC hOl hnk he heq hv u0 u2
        go_wp2_with fail
        with_reducible refine hs.mono ?_
        rintro r w1 ⟨rfl, hq⟩
        have HQ2 : Hid (∃ q, w1 = w.drewN q) := Lib.hid (by obtain ⟨q, rfl⟩ := HQ1.out; obtain ⟨q', rfl⟩ := hq; exact ⟨q + q', by rw [World.drewN_drewN]⟩)
        clear hs hq
        go_wp2
        go_ret
        exact ⟨by rw [HF.out]; rfl, HQ2.out⟩
      · have hs := same_no wr _ _ Ax Ac e.cells.length cx n cc e.cells cs heq hpx hC hnk.2 HM.out
        have HQ1 : Hid (∃ q, wr = w.drewN q) := Lib.hid HQ.out.1
        have HN : Hid (∀ x ∈ o.take (i + 1), x.cells ≠ cs) := Lib.hid (by
          rw [take_one he]
          intro x hx
          rcases List.mem_append.1 hx with hx | hx
          · exact HQ.out.2 x hx
          · rw [List.mem_singleton] at hx
            subst hx
            exact heq)
        clear hpx hC hOl hnk he heq hv u0 u2
        go_wp2_with fail
        with_reducible refine hs.mono ?_
        rintro r w1 ⟨rfl, hq⟩
        have HQ2 : Hid ((∃ q, w1 = w.drewN q) ∧ ∀ x ∈ o.take (i + 1), x.cells ≠ cs) := Lib.hid ⟨by obtain ⟨q, rfl⟩ := HQ1.out; obtain ⟨q', rfl⟩ := hq; exact ⟨q + q', by rw [World.drewN_drewN]⟩, HN.out⟩
        clear hs hq
        go_wp2
        go_roundw
        case rel => exact ⟨i + 1, by omega, by go_num, HQ2⟩
        case measure => simp [intOf]; omega
    · obtain rfl : i = o.length := by omega
      have HP : Hid (placeV o cs = -1) := Lib.hid (placeV_none (by
        have h1 := HQ.out.2
        rw [List.take_length] at h1
        exact h1))
      have HQ1 : Hid (∃ q, wr = w.drewN q) := Lib.hid HQ.out.1
      go_wp2
      go_ret
      exact ⟨by rw [HP.out]; rfl, HQ1.out⟩
theorem elemAt_no {o : List Elm} {i : Nat} {e : Elm} (h : o[i]? = some e) (hf : elemAt o i = false) : ordB o = false := by
  unfold ordB
  rw [range_all_false (List.getElem?_eq_some_iff.1 h).1 (by rw [hf]; rfl), Bool.and_false]
def oneB (nm : List UInt8) (xs : List Int) : Bool := match xs with
  | [u] => scalB u && nm.isEmpty
  | _ => false
theorem oneB_more {nm : List UInt8} {xs : List Int} (h : xs.length ≠ 1) : oneB nm xs = false := by
  unfold oneB
  split
  · exact absurd rfl h
  · rfl
theorem elemB_is (nm : List UInt8) (xs : List Int) (s : Int) : elemB ⟨nm, xs, s⟩ = (oneB nm xs || namedB nm xs) := by
  by_cases h1 : xs.length = 1
  · obtain ⟨u, rfl⟩ : ∃ u, xs = [u] := by
      match xs, h1 with
      | [u], _ => exact ⟨u, rfl⟩
    rw [elemB_one, namedB_no3 (by rw [quotB_parts4, decide_eq_false (by simp), Bool.false_and, Bool.false_and, Bool.false_and]), Bool.or_false]
    rfl
  · rw [elemB_more s h1, oneB_more h1, Bool.false_or]
    rfl
set_option maxRecDepth 100000 in
set_option maxHeartbeats 16000000 in
theorem orders07_any (w : World) (B : Nat) (v : Value) (o : List Elm) (h : OrdR w B v o) (hB : B ≤ w.heap.size) (hn : o.length ≤ 500) :
    Calls Tryz.prog 61 #[v] w fun e w' => e = .returned (.bool (ordB o)) ∧ Below w.heap.size w w' := by
  obtain ⟨A, c, xs0, rfl, -⟩ := id h
  have H := Lib.hid h
  have HB := Lib.hid hB
  clear h hB
  go_enter Tryz.func61, Tryz.ntmps61
  go_wp2
  go_loopw [3] (fun iv wr => ∃ i : Nat, i ≤ o.length ∧ iv = .int .i64 i ∧ Hid (Below w.heap.size w wr ∧ ∀ j, j < i → (!elemAt o j) = false)) (fun iv _ => o.length - (intOf iv).toNat)
  case atStart => exact ⟨0, Nat.zero_le _, rfl, Lib.hid ⟨Below.refl _ _, by intro j hj; omega⟩⟩
  case round =>
    obtain ⟨wp, hwp⟩ : ∃ wp, wp = wr := ⟨_, rfl⟩
    subst hwp
    obtain ⟨i, hin, rfl, HQ⟩ := hrel
    by_cases hlt : i < o.length
    rotate_left
    · obtain rfl : i = o.length := by omega
      have HF : Hid (ordB o = true) := Lib.hid (by unfold ordB; rw [range_all_true HQ.out.2, decide_eq_true hn]; rfl)
      have hn5 : (o.length : Int) ≤ 500 := by omega
      go_wp2
      go_ret
      exact ⟨by rw [HF.out]; rfl, HQ.out.1⟩
    obtain ⟨e, he⟩ : ∃ e, o[i]? = some e := ⟨_, List.getElem?_eq_getElem hlt⟩
    have hO : OrdR wp B (.slice A o.length c) o := H.out.on HQ.out.1 HB.out
    obtain ⟨ad, ca, Ac, cc, hA, hbad, u0, u1, u2, hpx⟩ := elmR_at hO he
    have hO' := hO
    obtain ⟨_, _, _, _, _, hOl⟩ := hO'
    obtain ⟨_, _, _, _, hnk⟩ := hOl i e he
    injection hA with hA _ hC'
    subst hA hC'
    obtain ⟨nm, xs, sm⟩ := e
    dsimp only at u0 u1 u2 hpx hnk
    have i0 : (0 : Int) ≤ (i : Int) := by omega
    have i1 : (i : Int) < (o.length : Int) := by omega
    obtain ⟨n, hxn⟩ : ∃ n, n = xs.length := ⟨_, rfl⟩
    rw [← hxn] at u1 hpx hnk
    have HE := Lib.hid he
    have HXN := Lib.hid hxn
    have HNK := Lib.hid hnk
    have hel := elemB_is nm xs sm
    have HEL : Hid (elemAt o i = (elemB ⟨nm, xs, sm⟩ && !((o.take i).any fun x => decide (x.cells = xs)) && sameAt o i ⟨nm, xs, sm⟩ && (nm.isEmpty || !((o.take i).any fun x => decide (x.name = nm))))) := Lib.hid (elemAt_is he)
    obtain ⟨W1, hW1⟩ : ∃ W1, W1 = wp.alloc (.cells #[.string (str nm), .slice Ac n cc, .int .i64 sm] 39) := ⟨_, rfl⟩
    have hb1 : Below wp.heap.size wp W1 := by rw [hW1]; exact (Below.refl _ _).alloc (Nat.le_refl _) _
    have hs1 : wp.heap.size < W1.heap.size := by rw [hW1]; simp
    have HB1 : Hid (Below w.heap.size w W1) := Lib.hid (HQ.out.1.trans (hb1.mono HQ.out.1.size))
    have hBp : B ≤ wp.heap.size := Nat.le_trans HB.out HQ.out.1.size
    have HX1 : Hid (Three W1 wp.heap.size 39 (.string (str nm)) (.slice Ac n cc) (.int .i64 sm)) := Lib.hid (by rw [hW1]; exact Three.new wp _ _ _ _)
    have HOW : Hid (OrdR W1 B (.slice (some ad) o.length c) o) := Lib.hid (hO.on hb1 hBp)
    have HRW : Hid (RI .i32 W1 B Ac n xs) := Lib.hid (hpx.keep fun p hp => hb1.cell (by omega))
    have HBW : Hid (B ≤ W1.heap.size) := Lib.hid (Nat.le_trans hBp hb1.size)
    obtain ⟨j, sj, hjr⟩ : ∃ (j : Nat) (sj : Int), W1.cell? ⟨(ad.add (j * 3)).block, (ad.add (j * 3)).off + 2, none⟩ = some (.int .i64 sj) ∧ (ad.add (j * 3)).block < W1.heap.size ∧ (0 ≤ sm → sm ≤ i → sm = (j : Int) ∧ j < o.length ∧ o[j]? = some ⟨(o.getD j ⟨[], [], 0⟩).name, (o.getD j ⟨[], [], 0⟩).cells, sj⟩) := by
      have key : ∀ (j : Nat) (ej : Elm), o[j]? = some ej → W1.cell? ⟨(ad.add (j * 3)).block, (ad.add (j * 3)).off + 2, none⟩ = some (.int .i64 ej.same) ∧ (ad.add (j * 3)).block < W1.heap.size := by
        intro j ej hj
        obtain ⟨ad', c', _, _, hA', hbk, _, _, y2, _⟩ := elmR_at HOW.out hj
        injection hA' with hA' _ hC'
        injection hA' with hA'
        subst hA' hC'
        exact ⟨y2, by rw [block_of_add]; have := HBW.out; omega⟩
      by_cases hs : 0 ≤ sm ∧ sm ≤ i
      · obtain ⟨j, rfl⟩ : ∃ j : Nat, sm = (j : Int) := ⟨sm.toNat, by omega⟩
        obtain ⟨ej, hj⟩ : ∃ ej, o[j]? = some ej := ⟨_, List.getElem?_eq_getElem (by omega)⟩
        refine ⟨j, ej.same, (key j ej hj).1, (key j ej hj).2, fun _ _ => ⟨rfl, by omega, ?_⟩⟩
        rw [List.getD_eq_getElem?_getD, hj]
        rfl
      · exact ⟨i, sm, (key i _ he).1, (key i _ he).2, fun h1 h2 => absurd ⟨h1, h2⟩ hs⟩
    obtain ⟨hjc, hjb, hjr⟩ := hjr
    have HJ := Lib.hid hjr
    have HST : Hid (∀ u, Below W1.heap.size W1 u → u.cell? ⟨wp.heap.size, 0, none⟩ = some (.string (str nm)) ∧ u.cell? ⟨wp.heap.size, 1, none⟩ = some (.slice Ac n cc) ∧ u.cell? ⟨wp.heap.size, 2, none⟩ = some (.int .i64 sm) ∧ u.cell? ⟨(ad.add (j * 3)).block, (ad.add (j * 3)).off + 2, none⟩ = some (.int .i64 sj)) := Lib.hid (fun u hu => by
      obtain ⟨a0, a1, a2⟩ := (show Three u wp.heap.size _ _ _ _ from (hu.block _ HX1.out.lt).trans HX1.out).cells
      exact ⟨a0, a1, a2, (hu.cell (p := ⟨_, _, none⟩) hjb).trans hjc⟩)
    have HNA : Hid (∀ u, Below W1.heap.size W1 u → Calls Tryz.prog 90 #[.agg #[.string (str nm), .slice Ac n cc, .int .i64 sm]] u fun e w' => e = .returned (.bool (namedB nm xs)) ∧ Below u.heap.size u w') := Lib.hid (fun u hu => named07_any u B Ac n cc nm xs sm (HRW.out.keep fun p hp => hu.cell (by have := HBW.out; omega)) (Nat.le_trans HBW.out hu.size) HNK.out.1 HNK.out.2)
    have HPL : Hid (∀ u, Below W1.heap.size W1 u → Calls Tryz.prog 33 #[.slice (some ad) o.length c, .slice Ac n cc] u fun e w' => e = .returned (.int .i64 (placeV o xs)) ∧ ∃ q, w' = u.drewN q) := Lib.hid (fun u hu => place07_any u B B _ o Ac n cc xs (HOW.out.on hu HBW.out) (HRW.out.keep fun p hp => hu.cell (by have := HBW.out; omega)) hn HNK.out.2)
    clear hO hOl hb1 hpx he hnk hxn hjr hjc hjb hBp
    go_upto_region 5 with fail
    rw [← hW1]
    clear hW1 u0 u1 u2
    go_cut [5] (fun s wx => s = .bool (oneB nm xs) ∧ W1 = wx)
    case first =>
      obtain ⟨s0, s1, s2, _⟩ := HST.out W1 (Below.refl _ _)
      by_cases hn1 : n = 1
      · obtain ⟨ax, u, hax, hbl, hu, hc⟩ := HRW.out.at_ (k := 0) (by omega)
        subst hax
        have hz : ax.add 0 = ax := by
          unfold Addr.add
          cases ax
          simp
        rw [hz] at hc
        have hxs : xs = [u] := by
          have hl := HXN.out
          match xs, hl, hu with
          | [x], _, hu => simp at hu; rw [hu]
          | [], hl, _ => simp at hl; omega
          | _ :: _ :: _, hl, _ => simp at hl; omega
        have HONE : Hid (oneB nm xs = (scalB u && nm.isEmpty)) := Lib.hid (by rw [hxs]; rfl)
        have hem := str_empty nm
        subst hn1
        clear hxs hu hbl hz
        cases hsb : scalB u with
        | false =>
          have hsc := scalar07_is u W1 hsb
          have HSB := Lib.hid hsb
          clear hsb
          go_wp2_with fail
          with_reducible refine hsc.mono ?_
          rintro e1 w2 ⟨rfl, rfl⟩
          go_wp2
          go_meet
          exact ⟨by rw [HONE.out, HSB.out]; rfl, rfl⟩
        | true =>
          have hsc := scalar07_is u W1 hsb
          have HSB := Lib.hid hsb
          obtain ⟨r, hr⟩ : ∃ r, r = nm.isEmpty := ⟨_, rfl⟩
          rw [← hr] at hem
          have HRR := Lib.hid hr
          clear hr hsb
          go_wp2_with fail
          with_reducible refine hsc.mono ?_
          rintro e1 w2 ⟨rfl, rfl⟩
          go_wp2
          go_meet
          exact ⟨by rw [HONE.out, HSB.out, ← HRR.out]; rfl, rfl⟩
      · have e1 : ¬ (n : Int) = 1 := by omega
        have e2 : ((n : Int) == 1) = false := by simpa using e1
        have HONE : Hid (oneB nm xs = false) := Lib.hid (oneB_more (by have := HXN.out; omega))
        clear hn1
        go_wp2
        go_meet
        exact ⟨by rw [HONE.out], rfl⟩
    case rest =>
      generalize wc = wz at *
      obtain ⟨rfl, rfl⟩ := hcut
      obtain ⟨s0, s1, s2, s3⟩ := HST.out W1 (Below.refl _ _)
      have key : ((oneB nm xs = false ∧ namedB nm xs = false ∧ Hid (elemAt o i = false)) ∨ ((oneB nm xs = true ∨ oneB nm xs = false ∧ namedB nm xs = true) ∧ (placeV o xs == (i : Int)) = false ∧ Hid (elemAt o i = false)) ∨ ((oneB nm xs = true ∨ oneB nm xs = false ∧ namedB nm xs = true) ∧ placeV o xs = (i : Int) ∧ sm < 0 ∧ Hid (elemAt o i = false)) ∨ ((oneB nm xs = true ∨ oneB nm xs = false ∧ namedB nm xs = true) ∧ placeV o xs = (i : Int) ∧ ¬ sm < 0 ∧ (i : Int) < sm ∧ Hid (elemAt o i = false))) ∨
          ((oneB nm xs = true ∨ oneB nm xs = false ∧ namedB nm xs = true) ∧ placeV o xs = (i : Int) ∧ sm = (j : Int) ∧ ¬ (j : Int) < 0 ∧ (0 : Int) ≤ (j : Int) ∧ (j : Int) < (o.length : Int) ∧ ¬ (i : Int) < (j : Int) ∧ (((sj == (j : Int)) = false ∧ Hid (elemAt o i = false)) ∨ ((sj == (j : Int)) = true ∧ Hid (elemAt o i = (nm.isEmpty || !((o.take i).any fun x => decide (x.name = nm))))))) := by
        have hsel : elemB ⟨nm, xs, sm⟩ = true ∨ (oneB nm xs = false ∧ namedB nm xs = false) := by
          rw [hel]
          cases oneB nm xs <;> cases namedB nm xs <;> simp
        rcases hsel with hb | ⟨h1, h2⟩
        rotate_left
        · exact .inl (.inl ⟨h1, h2, Lib.hid (by rw [HEL.out, hel, h1, h2]; rfl)⟩)
        have hs2 : oneB nm xs = true ∨ oneB nm xs = false ∧ namedB nm xs = true := by
          rw [hel] at hb
          cases h1 : oneB nm xs with
          | true => exact .inl rfl
          | false => rw [h1, Bool.false_or] at hb; exact .inr ⟨rfl, hb⟩
        by_cases hpv : placeV o xs = (i : Int)
        rotate_left
        · exact .inl (.inr (.inl ⟨hs2, by simpa using hpv, Lib.hid (by rw [HEL.out, placeV_any HE.out rfl hpv, Bool.not_true, Bool.and_false, Bool.false_and, Bool.false_and])⟩))
        have hany := placeV_first HE.out rfl hpv
        by_cases hneg : sm < 0
        · exact .inl (.inr (.inr (.inl ⟨hs2, hpv, hneg, Lib.hid (by
            rw [HEL.out, show sameAt o i ⟨nm, xs, sm⟩ = false by unfold sameAt; rw [decide_eq_false (fun h => by simp only at h; omega), Bool.false_and], Bool.and_false, Bool.false_and])⟩)))
        by_cases hgr : (i : Int) < sm
        · exact .inl (.inr (.inr (.inr ⟨hs2, hpv, hneg, hgr, Lib.hid (by
            rw [HEL.out, show sameAt o i ⟨nm, xs, sm⟩ = false by unfold sameAt; rw [decide_eq_false (fun h => by simp only at h; omega), Bool.false_and], Bool.and_false, Bool.false_and])⟩)))
        obtain ⟨hj1, hj2, hj3⟩ := HJ.out (by omega) (by omega)
        have hsa : sameAt o i ⟨nm, xs, sm⟩ = decide (sj = (j : Int)) := by
          unfold sameAt
          simp only
          rw [hj1, Int.toNat_natCast, hj3]
          simp only
          rw [decide_eq_true (show (0 : Int) ≤ (j : Int) ∧ (j : Int) ≤ (i : Int) by omega), Bool.true_and]
        refine .inr ⟨hs2, hpv, hj1, by omega, by omega, by omega, by omega, ?_⟩
        by_cases hsj : sj = (j : Int)
        · exact .inr ⟨by simpa using hsj, Lib.hid (by rw [HEL.out, hb, hany, hsa, decide_eq_true hsj]; rfl)⟩
        · exact .inl ⟨by simpa using hsj, Lib.hid (by rw [HEL.out, hsa, decide_eq_false hsj, Bool.and_false, Bool.false_and])⟩
      clear hel
      rcases key with hA | hB
      · rcases hA with ⟨hone, hna, HF⟩ | ⟨hone | ⟨hone, hna⟩, e46, HF⟩ | ⟨hone | ⟨hone, hna⟩, hpv, hneg, HF⟩ | ⟨hone | ⟨hone, hna⟩, hpv, hneg, hgr, HF⟩
        all_goals have HFF := Lib.hid (elemAt_no HE.out HF.out)
        all_goals rw [hone]
        all_goals try rw [hna] at HNA
        all_goals try rw [hpv] at HPL
        all_goals try have d46 : (placeV o xs != (i : Int)) = true := by unfold bne; rw [e46]; rfl
        all_goals try have d51 : decide (sm < 0) = true := decide_eq_true hneg
        all_goals try have d51 : decide (sm < 0) = false := decide_eq_false hneg
        all_goals try have d57 : decide ((i : Int) < sm) = true := decide_eq_true hgr
        all_goals clear HF HEL HJ hone
        all_goals
          (go_wp2
           refine wp_region_held (S := fun W' : World => W'.cell? ⟨wp.heap.size, 0, none⟩ = some (.string (str nm)) ∧ W'.cell? ⟨wp.heap.size, 1, none⟩ = some (.slice Ac n cc) ∧ W'.cell? ⟨wp.heap.size, 2, none⟩ = some (.int .i64 sm) ∧ W'.cell? ⟨(ad.add (j * 3)).block, (ad.add (j * 3)).off + 2, none⟩ = some (.int .i64 sj)) (by kernel_rfl) ?_
           change wpAnyH _ _ _ _ _ _ _ _ W1.drew
           have hS1 : (fun W' : World => W'.cell? ⟨wp.heap.size, 0, none⟩ = some (.string (str nm)) ∧ W'.cell? ⟨wp.heap.size, 1, none⟩ = some (.slice Ac n cc) ∧ W'.cell? ⟨wp.heap.size, 2, none⟩ = some (.int .i64 sm) ∧ W'.cell? ⟨(ad.add (j * 3)).block, (ad.add (j * 3)).off + 2, none⟩ = some (.int .i64 sj)) W1.drew := HST.out W1.drew (below_drew (Below.refl _ _))
           have HC1 : Hid (Below W1.heap.size W1 W1.drew) := Lib.hid (below_drew (Below.refl _ _))
           iterate 4 (first | (refine wpHs rfl rfl rfl ?_; try simp only [Act.put, g1, g2, g3, g4, g5, g6]) | (refine wpH rfl rfl ?_; try simp only [Act.put, g1, g2, g3, g4, g5, g6]))
           first
             | (refine wpAnyH_take (i := 4) (v := undef) rfl (by kernel_rfl) (by kernel_rfl) (by kernel_rfl) (fun _ _ _ h => h) (Or.inr ⟨rfl, rfl⟩) (by assumption) ?_
                try simp only [Act.put, g1, g2, g3, g4, g5, g6]
                generalize W1.drew = u1 at *)
             | (have hcc := HNA.out W1.drew HC1.out
                refine wpAnyH_one (i := 4) (by kernel_rfl) rfl (fun K hK => ?_)
                simp only [g4, g5, g6]
                go_simp
                go_at_call 90
                with_reducible refine hcc.mono ?_
                rintro e1 u1 ⟨rfl, hbn⟩
                have hc1 : Below W1.heap.size W1 u1 := ⟨hbn.os, hbn.tape, hbn.output, hbn.size, hbn.block⟩
                refine hK.out _ _ (HST.out u1 hc1) (fun hS2 => ?_)
                clear HC1
                have HC1 := Lib.hid hc1
                clear hcc hbn hc1 hS1)
           iterate 6 (first | (refine wpHs rfl rfl rfl ?_; try simp only [Act.put, g1, g2, g3, g4, g5, g6]) | (refine wpH rfl rfl ?_; try simp only [Act.put, g1, g2, g3, g4, g5, g6]))
           first
             | (refine wpAnyH_take (i := 12) (v := undef) rfl (by kernel_rfl) (by kernel_rfl) (by kernel_rfl) (fun _ _ _ h => h) (Or.inr ⟨rfl, rfl⟩) (by assumption) ?_
                try simp only [Act.put, g1, g2, g3, g4, g5, g6])
             | (refine wpAnyH_take (i := 12) (v := ?_) rfl (by kernel_rfl) (by kernel_rfl) (by kernel_rfl) (fun _ _ _ h => h) (Or.inl ⟨rfl, fun x hx => ?_⟩) (by assumption) ?_
                rotate_left
                · (try dsimp only at hx); simp only [g4, g5, g6]; go_split_ands; go_simp; try with_reducible rfl
                try simp only [Act.put, g1, g2, g3, g4, g5, g6])
           first
             | (refine wpAnyH_take (i := 11) (v := undef) rfl (by kernel_rfl) (by kernel_rfl) (by kernel_rfl) (fun _ _ _ h => h) (Or.inr ⟨rfl, rfl⟩) (by assumption) ?_
                try simp only [Act.put, g1, g2, g3, g4, g5, g6]
                have HC2 := HC1)
             | (have hpl := HPL.out u1 HC1.out
                refine wpAnyH_one (i := 11) (by kernel_rfl) rfl (fun K hK => ?_)
                simp only [g4, g5, g6]
                go_simp
                go_at_call 33
                with_reducible refine hpl.mono ?_
                rintro e1 u2 ⟨rfl, hq⟩
                have hc2 : Below W1.heap.size W1 u2 := by obtain ⟨q, rfl⟩ := hq; exact below_drewN HC1.out q
                have HC2 := Lib.hid hc2
                refine hK.out _ _ (HST.out u2 hc2) (fun hS3 => ?_)
                clear hpl hq hc2)
           iterate 24 (first | (refine wpHs rfl rfl rfl ?_; try simp only [Act.put, g1, g2, g3, g4, g5, g6]) | (refine wpH rfl rfl ?_; try simp only [Act.put, g1, g2, g3, g4, g5, g6]))
           refine wpAnyH_done (by kernel_rfl) ?_ _)
        all_goals go_wp2
        all_goals go_ret
        all_goals exact ⟨by rw [HFF.out]; rfl, HB1.out.trans (HC2.out.mono HB1.out.size)⟩
      · obtain ⟨hsel, hpv, hsm, hn0, j0, j1, hgr, hst⟩ := hB
        rw [hpv] at HPL
        subst hsm
        have d51 : decide ((j : Int) < 0) = false := decide_eq_false hn0
        have d57 : decide ((i : Int) < (j : Int)) = false := decide_eq_false hgr
        have hgr2 : ¬ i < j := by omega
        have d58 : decide (i < j) = false := decide_eq_false hgr2
        clear hpv HEL HJ
        rcases hst with ⟨e68, HF⟩ | ⟨e68, HF⟩
        · have HFF := Lib.hid (elemAt_no HE.out HF.out)
          have d68 : (sj != (j : Int)) = true := by unfold bne; rw [e68]; rfl
          clear HF
          rcases hsel with hone | ⟨hone, hna⟩
          all_goals rw [hone]
          all_goals try rw [hna] at HNA
          all_goals clear hone
          all_goals
            (go_wp2
             refine wp_region_held (S := fun W' : World => W'.cell? ⟨wp.heap.size, 0, none⟩ = some (.string (str nm)) ∧ W'.cell? ⟨wp.heap.size, 1, none⟩ = some (.slice Ac n cc) ∧ W'.cell? ⟨wp.heap.size, 2, none⟩ = some (.int .i64 (j : Int)) ∧ W'.cell? ⟨(ad.add (j * 3)).block, (ad.add (j * 3)).off + 2, none⟩ = some (.int .i64 sj)) (by kernel_rfl) ?_
             change wpAnyH _ _ _ _ _ _ _ _ W1.drew
             have hS1 : (fun W' : World => W'.cell? ⟨wp.heap.size, 0, none⟩ = some (.string (str nm)) ∧ W'.cell? ⟨wp.heap.size, 1, none⟩ = some (.slice Ac n cc) ∧ W'.cell? ⟨wp.heap.size, 2, none⟩ = some (.int .i64 (j : Int)) ∧ W'.cell? ⟨(ad.add (j * 3)).block, (ad.add (j * 3)).off + 2, none⟩ = some (.int .i64 sj)) W1.drew := HST.out W1.drew (below_drew (Below.refl _ _))
             have HC1 : Hid (Below W1.heap.size W1 W1.drew) := Lib.hid (below_drew (Below.refl _ _))
             iterate 4 (first | (refine wpHs rfl rfl rfl ?_; try simp only [Act.put, g1, g2, g3, g4, g5, g6]) | (refine wpH rfl rfl ?_; try simp only [Act.put, g1, g2, g3, g4, g5, g6]))
             first
               | (refine wpAnyH_take (i := 4) (v := undef) rfl (by kernel_rfl) (by kernel_rfl) (by kernel_rfl) (fun _ _ _ h => h) (Or.inr ⟨rfl, rfl⟩) (by assumption) ?_
                  try simp only [Act.put, g1, g2, g3, g4, g5, g6]
                  generalize W1.drew = u1 at *)
               | (have hcc := HNA.out W1.drew HC1.out
                  refine wpAnyH_one (i := 4) (by kernel_rfl) rfl (fun K hK => ?_)
                  simp only [g4, g5, g6]
                  go_simp
                  go_at_call 90
                  with_reducible refine hcc.mono ?_
                  rintro e1 u1 ⟨rfl, hbn⟩
                  have hc1 : Below W1.heap.size W1 u1 := ⟨hbn.os, hbn.tape, hbn.output, hbn.size, hbn.block⟩
                  refine hK.out _ _ (HST.out u1 hc1) (fun hS2 => ?_)
                  clear HC1
                  have HC1 := Lib.hid hc1
                  clear hcc hbn hc1 hS1)
             iterate 6 (first | (refine wpHs rfl rfl rfl ?_; try simp only [Act.put, g1, g2, g3, g4, g5, g6]) | (refine wpH rfl rfl ?_; try simp only [Act.put, g1, g2, g3, g4, g5, g6]))
             first
               | (refine wpAnyH_take (i := 12) (v := undef) rfl (by kernel_rfl) (by kernel_rfl) (by kernel_rfl) (fun _ _ _ h => h) (Or.inr ⟨rfl, rfl⟩) (by assumption) ?_
                  try simp only [Act.put, g1, g2, g3, g4, g5, g6])
               | (refine wpAnyH_take (i := 12) (v := ?_) rfl (by kernel_rfl) (by kernel_rfl) (by kernel_rfl) (fun _ _ _ h => h) (Or.inl ⟨rfl, fun x hx => ?_⟩) (by assumption) ?_
                  rotate_left
                  · (try dsimp only at hx); simp only [g4, g5, g6]; go_split_ands; go_simp; try with_reducible rfl
                  try simp only [Act.put, g1, g2, g3, g4, g5, g6])
             first
               | (refine wpAnyH_take (i := 11) (v := undef) rfl (by kernel_rfl) (by kernel_rfl) (by kernel_rfl) (fun _ _ _ h => h) (Or.inr ⟨rfl, rfl⟩) (by assumption) ?_
                  try simp only [Act.put, g1, g2, g3, g4, g5, g6]
                  have HC2 := HC1)
               | (have hpl := HPL.out u1 HC1.out
                  refine wpAnyH_one (i := 11) (by kernel_rfl) rfl (fun K hK => ?_)
                  simp only [g4, g5, g6]
                  go_simp
                  go_at_call 33
                  with_reducible refine hpl.mono ?_
                  rintro e1 u2 ⟨rfl, hq⟩
                  have hc2 : Below W1.heap.size W1 u2 := by obtain ⟨q, rfl⟩ := hq; exact below_drewN HC1.out q
                  have HC2 := Lib.hid hc2
                  refine hK.out _ _ (HST.out u2 hc2) (fun hS3 => ?_)
                  clear hpl hq hc2)
             iterate 24 (first | (refine wpHs rfl rfl rfl ?_; try simp only [Act.put, g1, g2, g3, g4, g5, g6]) | (refine wpH rfl rfl ?_; try simp only [Act.put, g1, g2, g3, g4, g5, g6]))
             refine wpAnyH_done (by kernel_rfl) ?_ _)
          all_goals go_wp2
          all_goals go_ret
          all_goals exact ⟨by rw [HFF.out]; rfl, HB1.out.trans (HC2.out.mono HB1.out.size)⟩
        · have d68 : (sj != (j : Int)) = false := by unfold bne; rw [e68]; rfl
          rcases hsel with hone | ⟨hone, hna⟩
          all_goals rw [hone]
          all_goals try rw [hna] at HNA
          all_goals clear hone
          all_goals
            (go_wp2
             refine wp_region_held (S := fun W' : World => W'.cell? ⟨wp.heap.size, 0, none⟩ = some (.string (str nm)) ∧ W'.cell? ⟨wp.heap.size, 1, none⟩ = some (.slice Ac n cc) ∧ W'.cell? ⟨wp.heap.size, 2, none⟩ = some (.int .i64 (j : Int)) ∧ W'.cell? ⟨(ad.add (j * 3)).block, (ad.add (j * 3)).off + 2, none⟩ = some (.int .i64 sj)) (by kernel_rfl) ?_
             change wpAnyH _ _ _ _ _ _ _ _ W1.drew
             have hS1 : (fun W' : World => W'.cell? ⟨wp.heap.size, 0, none⟩ = some (.string (str nm)) ∧ W'.cell? ⟨wp.heap.size, 1, none⟩ = some (.slice Ac n cc) ∧ W'.cell? ⟨wp.heap.size, 2, none⟩ = some (.int .i64 (j : Int)) ∧ W'.cell? ⟨(ad.add (j * 3)).block, (ad.add (j * 3)).off + 2, none⟩ = some (.int .i64 sj)) W1.drew := HST.out W1.drew (below_drew (Below.refl _ _))
             have HC1 : Hid (Below W1.heap.size W1 W1.drew) := Lib.hid (below_drew (Below.refl _ _))
             iterate 4 (first | (refine wpHs rfl rfl rfl ?_; try simp only [Act.put, g1, g2, g3, g4, g5, g6]) | (refine wpH rfl rfl ?_; try simp only [Act.put, g1, g2, g3, g4, g5, g6]))
             first
               | (refine wpAnyH_take (i := 4) (v := undef) rfl (by kernel_rfl) (by kernel_rfl) (by kernel_rfl) (fun _ _ _ h => h) (Or.inr ⟨rfl, rfl⟩) (by assumption) ?_
                  try simp only [Act.put, g1, g2, g3, g4, g5, g6]
                  generalize W1.drew = u1 at *)
               | (have hcc := HNA.out W1.drew HC1.out
                  refine wpAnyH_one (i := 4) (by kernel_rfl) rfl (fun K hK => ?_)
                  simp only [g4, g5, g6]
                  go_simp
                  go_at_call 90
                  with_reducible refine hcc.mono ?_
                  rintro e1 u1 ⟨rfl, hbn⟩
                  have hc1 : Below W1.heap.size W1 u1 := ⟨hbn.os, hbn.tape, hbn.output, hbn.size, hbn.block⟩
                  refine hK.out _ _ (HST.out u1 hc1) (fun hS2 => ?_)
                  clear HC1
                  have HC1 := Lib.hid hc1
                  clear hcc hbn hc1 hS1)
             iterate 6 (first | (refine wpHs rfl rfl rfl ?_; try simp only [Act.put, g1, g2, g3, g4, g5, g6]) | (refine wpH rfl rfl ?_; try simp only [Act.put, g1, g2, g3, g4, g5, g6]))
             first
               | (refine wpAnyH_take (i := 12) (v := undef) rfl (by kernel_rfl) (by kernel_rfl) (by kernel_rfl) (fun _ _ _ h => h) (Or.inr ⟨rfl, rfl⟩) (by assumption) ?_
                  try simp only [Act.put, g1, g2, g3, g4, g5, g6])
               | (refine wpAnyH_take (i := 12) (v := ?_) rfl (by kernel_rfl) (by kernel_rfl) (by kernel_rfl) (fun _ _ _ h => h) (Or.inl ⟨rfl, fun x hx => ?_⟩) (by assumption) ?_
                  rotate_left
                  · (try dsimp only at hx); simp only [g4, g5, g6]; go_split_ands; go_simp; try with_reducible rfl
                  try simp only [Act.put, g1, g2, g3, g4, g5, g6])
             first
               | (refine wpAnyH_take (i := 11) (v := undef) rfl (by kernel_rfl) (by kernel_rfl) (by kernel_rfl) (fun _ _ _ h => h) (Or.inr ⟨rfl, rfl⟩) (by assumption) ?_
                  try simp only [Act.put, g1, g2, g3, g4, g5, g6]
                  have HC2 := HC1)
               | (have hpl := HPL.out u1 HC1.out
                  refine wpAnyH_one (i := 11) (by kernel_rfl) rfl (fun K hK => ?_)
                  simp only [g4, g5, g6]
                  go_simp
                  go_at_call 33
                  with_reducible refine hpl.mono ?_
                  rintro e1 u2 ⟨rfl, hq⟩
                  have hc2 : Below W1.heap.size W1 u2 := by obtain ⟨q, rfl⟩ := hq; exact below_drewN HC1.out q
                  have HC2 := Lib.hid hc2
                  refine hK.out _ _ (HST.out u2 hc2) (fun hS3 => ?_)
                  clear hpl hq hc2)
             iterate 24 (first | (refine wpHs rfl rfl rfl ?_; try simp only [Act.put, g1, g2, g3, g4, g5, g6]) | (refine wpH rfl rfl ?_; try simp only [Act.put, g1, g2, g3, g4, g5, g6]))
             refine wpAnyH_done (by kernel_rfl) ?_ _)
          all_goals
            (have HEL2 := HF
             have HBZ := HC2
             clear HC1 HC2 HNA HPL HF
             go_wp2
             go_loopw [6] (fun kv wi => ∃ k : Nat, k ≤ i ∧ kv = .int .i64 k ∧ Hid (Below W1.heap.size W1 wi ∧ (nm = [] ∨ ∀ x ∈ o.take k, x.name ≠ nm))) (fun kv _ => i - (intOf kv).toNat)
             case atStart => exact ⟨0, Nat.zero_le _, rfl, Lib.hid ⟨HBZ.out, .inr (by simp)⟩⟩
             case round =>
               obtain ⟨wi, hwi⟩ : ∃ wi, wi = wr := ⟨_, rfl⟩
               subst hwi
               obtain ⟨k, hki, rfl, HQ2⟩ := hrel
               by_cases hk : k < i
               · obtain ⟨ek, hek⟩ : ∃ ek, o[k]? = some ek := ⟨_, List.getElem?_eq_getElem (by omega)⟩
                 have hO : OrdR wi B (.slice (some ad) o.length c) o := HOW.out.on HQ2.out.1 HBW.out
                 obtain ⟨ad', c', _, _, hA', hbk, y1, _, _, _⟩ := elmR_at hO hek
                 injection hA' with hA' _ hC'
                 injection hA' with hA'
                 subst hA' hC'
                 obtain ⟨y0, _, _, _⟩ := HST.out wi HQ2.out.1
                 obtain ⟨nk, xk, sk⟩ := ek
                 dsimp only at y1
                 have HEK := Lib.hid hek
                 have k0 : (0 : Int) ≤ (k : Int) := by omega
                 have k1 : (k : Int) < (o.length : Int) := by omega
                 have k2 : (k : Int) < (i : Int) := by omega
                 clear hO hek hbk
                 by_cases hn0 : nm = []
                 · have hem : (str nm).toList.isEmpty = true := by rw [str_empty, hn0]; rfl
                   have HN0 := Lib.hid hn0
                   clear hn0
                   go_wp2
                   refine wp_region_held (S := fun W' : World => W'.cell? ⟨wp.heap.size, 0, none⟩ = some (.string (str nm)) ∧ W'.cell? (ad.add (k * 3)) = some (.string (str nk))) (by kernel_rfl) ?_
                   change wpAnyH _ _ _ _ _ _ _ _ wi.drew
                   have hS1 : (fun W' : World => W'.cell? ⟨wp.heap.size, 0, none⟩ = some (.string (str nm)) ∧ W'.cell? (ad.add (k * 3)) = some (.string (str nk))) wi.drew := ⟨y0, y1⟩
                   iterate 13 (first | (refine wpHs rfl rfl rfl ?_; try simp only [Act.put, g1, g2, g3, g4, g5, g6]) | (refine wpH rfl rfl ?_; try simp only [Act.put, g1, g2, g3, g4, g5, g6]))
                   refine wpAnyH_done (by kernel_rfl) ?_ _
                   have HQ3 : Hid (Below W1.heap.size W1 wi.drew) := Lib.hid (below_drew HQ2.out.1)
                   clear hS1 y0 y1
                   go_wp2
                   go_roundw
                   case rel => exact ⟨k + 1, by omega, by go_num, Lib.hid ⟨HQ3.out, .inl HN0.out⟩⟩
                   case measure => simp [intOf]; omega
                 · have hem : (str nm).toList.isEmpty = false := by rw [str_empty]; cases nm with
                     | nil => exact absurd rfl hn0
                     | cons _ _ => rfl
                   by_cases hnk : nk = nm
                   · have HF : Hid (ordB o = false) := Lib.hid (elemAt_no HE.out (by
                       rw [HEL2.out, show ((o.take i).any fun x => decide (x.name = nm)) = true from List.any_eq_true.2 ⟨⟨nk, xk, sk⟩, List.mem_of_getElem? (i := k) (by rw [List.getElem?_take, if_pos hk]; exact HEK.out), decide_eq_true hnk⟩, show nm.isEmpty = false by rw [← str_empty]; exact hem]
                       rfl))
                     subst hnk
                     clear hn0
                     go_wp2
                     refine wp_region_held (S := fun W' : World => W'.cell? ⟨wp.heap.size, 0, none⟩ = some (.string (str nk)) ∧ W'.cell? (ad.add (k * 3)) = some (.string (str nk))) (by kernel_rfl) ?_
                     change wpAnyH _ _ _ _ _ _ _ _ wi.drew
                     have hS1 : (fun W' : World => W'.cell? ⟨wp.heap.size, 0, none⟩ = some (.string (str nk)) ∧ W'.cell? (ad.add (k * 3)) = some (.string (str nk))) wi.drew := ⟨y0, y1⟩
                     iterate 13 (first | (refine wpHs rfl rfl rfl ?_; try simp only [Act.put, g1, g2, g3, g4, g5, g6]) | (refine wpH rfl rfl ?_; try simp only [Act.put, g1, g2, g3, g4, g5, g6]))
                     refine wpAnyH_done (by kernel_rfl) ?_ _
                     have HQ3 : Hid (Below W1.heap.size W1 wi.drew) := Lib.hid (below_drew HQ2.out.1)
                     clear hS1 y0 y1
                     go_wp2
                     go_ret
                     exact ⟨by rw [HF.out]; rfl, HB1.out.trans (HQ3.out.mono HB1.out.size)⟩
                   · have e86 := str_ne0 hnk
                     have HNX : Hid (∀ x ∈ o.take (k + 1), x.name ≠ nm) := Lib.hid (by
                       rw [take_one HEK.out]
                       intro x hx
                       rcases List.mem_append.1 hx with hx | hx
                       · exact (HQ2.out.2.resolve_left hn0) x hx
                       · rw [List.mem_singleton] at hx
                         subst hx
                         exact hnk)
                     clear hn0 hnk
                     go_wp2
                     refine wp_region_held (S := fun W' : World => W'.cell? ⟨wp.heap.size, 0, none⟩ = some (.string (str nm)) ∧ W'.cell? (ad.add (k * 3)) = some (.string (str nk))) (by kernel_rfl) ?_
                     change wpAnyH _ _ _ _ _ _ _ _ wi.drew
                     have hS1 : (fun W' : World => W'.cell? ⟨wp.heap.size, 0, none⟩ = some (.string (str nm)) ∧ W'.cell? (ad.add (k * 3)) = some (.string (str nk))) wi.drew := ⟨y0, y1⟩
                     iterate 13 (first | (refine wpHs rfl rfl rfl ?_; try simp only [Act.put, g1, g2, g3, g4, g5, g6]) | (refine wpH rfl rfl ?_; try simp only [Act.put, g1, g2, g3, g4, g5, g6]))
                     refine wpAnyH_done (by kernel_rfl) ?_ _
                     have HQ3 : Hid (Below W1.heap.size W1 wi.drew) := Lib.hid (below_drew HQ2.out.1)
                     clear hS1 y0 y1
                     go_wp2
                     go_roundw
                     case rel => exact ⟨k + 1, by omega, by go_num, Lib.hid ⟨HQ3.out, .inr HNX.out⟩⟩
                     case measure => simp [intOf]; omega
               · obtain rfl : k = i := by omega
                 have HT : Hid ((!elemAt o k) = false) := Lib.hid (by
                   rw [HEL2.out]
                   rcases HQ2.out.2 with h0 | h0
                   · rw [h0]; rfl
                   · rw [show ((o.take k).any fun x => decide (x.name = nm)) = false from by
                       rw [List.any_eq_false]
                       intro x hx
                       simpa using h0 x hx]
                     simp)
                 go_wp2
                 go_roundw
                 case rel => exact ⟨k + 1, by omega, by go_num, Lib.hid ⟨HB1.out.trans (HQ2.out.1.mono HB1.out.size), fun j hj => by
                   rcases (by omega : j < k ∨ j = k) with h1 | h1
                   · exact HQ.out.2 j h1
                   · rw [h1]; exact HT.out⟩⟩
                 case measure => simp [intOf]; omega)
end Go.Proofs.YtknjhlbhbnldpaaGreatDoor.C
