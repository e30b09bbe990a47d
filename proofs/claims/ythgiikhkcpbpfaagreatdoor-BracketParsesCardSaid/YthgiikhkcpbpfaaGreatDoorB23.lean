/-
  Joined: KoX, KpI, KpJ, KpP. Each with what its own head says.
-/
import Derived.Test.YthgiikhkcpbpfaaGreatDoorB19
import Derived.Test.YthgiikhkcpbpfaaGreatDoorB20


namespace Go.Proofs.YthgiikhkcpbpfaaGreatDoor.C
open Go.RowKit
theorem byte_in {a : Int} (h : (Lit.int .u8 a).wf = true) : 0 ≤ a ∧ a < 256 := by
 have hmin : IntKind.u8.min = 0 := rfl
 have hmax : IntKind.u8.max = 255 := rfl
 simp only [Lit.wf, Bool.and_eq_true, decide_eq_true_eq] at h
 omega
theorem i32_in {a : Int} (h : (Lit.int .i32 a).wf = true) : -2147483648 ≤ a ∧ a < 2147483648 := by
 have hmin : IntKind.i32.min = -2147483648 := rfl
 have hmax : IntKind.i32.max = 2147483647 := rfl
 simp only [Lit.wf, Bool.and_eq_true, decide_eq_true_eq] at h
 omega
theorem RI.on {ki : IntKind} {w w' : World} {B B' n : Nat} {A : Option Addr} {zs : List Int} (h : RI ki w B A n zs) (hb : Below B' w w') (hB : B ≤ B') : RI ki w' B A n zs := h.keep fun p hp => hb.cell (p := p) (by omega)
theorem own_apart {w w' : World} {T n sz : Nat} {A : Option Addr} {c : Nat} {xs : List Value} {e : TypeId} (h : w'.ownsRow w.heap.size e sz (.slice A n c) n xs) (hT : T < w.heap.size) (hn : 0 < n) : ∀ ad, A = some ad → ad.block ≠ T := by
 intro ad ha
 obtain ⟨g, cap, hv, hg, hlt⟩ := h.form hn
 subst ha
 injection hv with hv
 injection hv with hv
 subst hv
 simp only
 omega
theorem genL_new (zs : List Int) (hb : Byt zs) : NewOk (genL zs) := by
 obtain ⟨hs, _⟩ := genL_small zs hb
 refine ⟨⟨by have := hs.fc; omega, fun e he => ⟨by have := (hs.n1 e he).1; omega, ?_⟩⟩, by have := hs.fu; omega, by have := hs.fl; omega, fun e he => by have := hs.n2 e he; omega⟩
 have := (clsG_rs _ _ e he).2
 omega
theorem genL_locR {w : World} {lo : Nat} {v1 v2 v3 v4 : Value} {zs : List Int} (hb : Byt zs) (h : LocAt w lo v1 v2 v3 v4 (genL zs)) : LocR w w.heap.size v1 v2 v3 v4 (genL zs) := by
 obtain ⟨_, g1, g2, _⟩ := genL_ok zs hb
 exact LocR.of h (fun c hc => by have := g1 c hc; unfold maxLen; omega) (fun e he => by have := g2 e he; unfold maxLen; omega)
theorem genL_right {zs : List Int} (hb : Byt zs) : rightL (genL zs) = true := (genL_ok zs hb).1
end Go.Proofs.YthgiikhkcpbpfaaGreatDoor.C


namespace Go.Proofs.YthgiikhkcpbpfaaGreatDoor.C
open Go.RowKit
theorem find_at {α : Type} {l : List α} {f : α → Bool} {k : Nat} {p : α} (hp : l[k]? = some p) (hf : f p = true) (hx : ∀ x ∈ l.take k, f x = false) : l.find? f = some p := by
 induction l generalizing k with
 | nil => cases hp
 | cons q r ih =>
  cases k with
  | zero =>
   obtain rfl : q = p := by simpa using hp
   rw [List.find?_cons, hf]
  | succ j =>
   rw [List.find?_cons, hx q (by rw [List.take_succ_cons]; exact List.mem_cons_self)]
   exact ih (by simpa using hp) fun x hxm => hx x (by rw [List.take_succ_cons]; exact List.mem_cons_of_mem _ hxm)
theorem take_no {α : Type} {l : List α} {f : α → Bool} {k : Nat} {p : α} (hp : l[k]? = some p) (hf : f p = false) (hx : ∀ x ∈ l.take k, f x = false) : ∀ x ∈ l.take (k + 1), f x = false := by
 rw [take_one hp]
 intro x hxm
 rcases List.mem_append.1 hxm with hxm | hxm
 ·exact hx x hxm
 ·rw [List.mem_singleton] at hxm
  subst hxm
  exact hf
theorem find_out {α : Type} {l : List α} {f : α → Bool} (hx : ∀ x ∈ l.take l.length, f x = false) : l.find? f = none := by
 rw [List.find?_eq_none]
 intro x hxm
 rw [hx x (by rw [List.take_length]; exact hxm)]
 decide
set_option maxRecDepth 100000 in
set_option maxHeartbeats 4000000 in
theorem class08_any (w : World) (B : Nat) (v1 v2 v3 v4 : Value) (l : Loc) (nm : List UInt8) (h : LocR w B v1 v2 v3 v4 l) (hB : B ≤ w.heap.size) :
  Calls Tryz.prog 124 #[.agg #[v1, v2, v3, v4], .string (str nm)] w fun e w' => Below w.heap.size w w' ∧ ∃ v, e = .returned (.tuple #[v, .bool (rangesL l.cls nm).isSome]) ∧ PrsR w' B v ((rangesL l.cls nm).getD []) := by
 obtain ⟨W, hW⟩ : ∃ W, W = w.alloc (.cells #[v1, v2, v3, v4] 27) := ⟨_, rfl⟩
 have hb : Below w.heap.size w W := by rw [hW]; exact (Below.refl _ _).alloc (Nat.le_refl _) _
 have hrow : Rw W w.heap.size 27 #[v1, v2, v3, v4] := by rw [hW]; exact heap_alloc_new w _
 obtain ⟨r1, -, -, -, n1, -, -⟩ := h.on hb hB
 obtain ⟨A, c, xs, rfl, hsi, hel⟩ := r1
 have p0 : W.cell? ⟨w.heap.size, 0, none⟩ = some (.slice A l.cls.length c) := hrow.cell rfl
 have HSI := Lib.hid hsi
 have HEL := Lib.hid hel
 have HB := Lib.hid hb
 unfold maxLen at n1
 clear hsi hel hb hrow h
 subst hW
 go_enter Tryz.func124, Tryz.ntmps124
 go_wp2
 go_loop [6] (fun i => ∃ k : Nat, k ≤ l.cls.length ∧ i = .int .i64 k ∧ Hid (∀ x ∈ l.cls.take k, (x.name == nm) = false)) (fun i => l.cls.length - (intOf i).toNat)
 case atStart => exact ⟨0, Nat.zero_le _, rfl, Lib.hid (by simp)⟩
 case round =>
  obtain ⟨k, hk, rfl, HQ⟩ := hrel
  by_cases hlt : k < l.cls.length
  ·obtain ⟨p, hp⟩ : ∃ p, l.cls[k]? = some p := ⟨_, List.getElem?_eq_getElem hlt⟩
   obtain ⟨ad, a, b, rfl, hbl, hx, hc0, hc1⟩ := HSI.out.at2 hlt
   obtain ⟨u, hx', hpr, _⟩ := HEL.out k p hp
   obtain ⟨rfl, rfl⟩ : a = .string (str p.name) ∧ b = u := by rw [hx] at hx'; simpa using hx'
   have i0 : (0 : Int) ≤ (k : Int) := by omega
   have i1 : (k : Int) < (l.cls.length : Int) := by omega
   have HP := Lib.hid hp
   have HPR := Lib.hid hpr
   by_cases e : p.name = nm
   ·have e2 : ((str p.name).toList == (str nm).toList) = true := by rw [e]; exact beq_self_eq_true _
    have HV : Hid (rangesL l.cls nm = some p.rs) := Lib.hid (by unfold rangesL; rw [find_at HP.out (by simpa using e) HQ.out]; rfl)
    obtain ⟨bA, bc, rfl, _⟩ := hpr
    clear hp hx hx' e hbl
    go_wp2
    go_ret2
    exact ⟨HB.out, _, by rw [HV.out]; rfl, by rw [HV.out]; exact HPR.out⟩
   ·have e2 : ((str p.name).toList == (str nm).toList) = false := by
     rw [beq_eq_false_iff_ne]
     intro h
     rw [Lib.toList_data, Lib.toList_data] at h
     exact e h
    have HN := Lib.hid (take_no (f := fun x : Cls => x.name == nm) HP.out (beq_eq_false_iff_ne.2 e) HQ.out)
    clear hp hx hx' hpr e hbl
    go_wp2
    go_round
    case rel => exact ⟨k + 1, by omega, by go_num, HN⟩
    case measure => simp [intOf]; omega
  ·obtain rfl : k = l.cls.length := by omega
   have HV : Hid (rangesL l.cls nm = none) := Lib.hid (by unfold rangesL; rw [find_out HQ.out]; rfl)
   go_wp2
   go_ret2
   exact ⟨HB.out, _, by rw [HV.out]; rfl, by rw [HV.out]; exact ⟨none, 0, rfl, SI.nil _ _ _ _⟩⟩
end Go.Proofs.YthgiikhkcpbpfaaGreatDoor.C


namespace Go.Proofs.YthgiikhkcpbpfaaGreatDoor.C
open Go.RowKit
def NmTold (w w' : World) (xs : List Int) (e : Ending) : Prop := Below w.heap.size w w' ∧ ∃ A c, e = .returned (.slice A xs.length c) ∧ RI .i32 w' w'.heap.size A xs.length xs
theorem namedO_is {o : List Elm} {nm : List UInt8} (h0 : nm ≠ []) : namedO o nm = (o.find? fun e => e.name == nm).map Elm.cells := if_neg h0
set_option maxRecDepth 100000 in
set_option maxHeartbeats 4000000 in
theorem named08_any (w : World) (B : Nat) (v1 v2 v3 v4 : Value) (l : Loc) (nm : List UInt8) (h : LocR w B v1 v2 v3 v4 l) (hB : B ≤ w.heap.size) (h5 : l.ord.length ≤ 500) (hn : nm.length ≤ 1099511627776) :
  Calls Tryz.prog 164 #[.agg #[v1, v2, v3, v4], .string (str nm)] w fun e w' => NmTold w w' (namedT l.ord nm) e := by
 obtain ⟨W, hW⟩ : ∃ W, W = w.alloc (.cells #[v1, v2, v3, v4] 27) := ⟨_, rfl⟩
 have hb : Below w.heap.size w W := by rw [hW]; exact (Below.refl _ _).alloc (Nat.le_refl _) _
 have hrow : Rw W w.heap.size 27 #[v1, v2, v3, v4] := by rw [hW]; exact heap_alloc_new w _
 obtain ⟨-, -, -, r4, -, -, -⟩ := h.on hb hB
 obtain ⟨A, c, xs, rfl, -⟩ := id r4
 have p3 : W.cell? ⟨w.heap.size, 3, none⟩ = some (.slice A l.ord.length c) := hrow.cell rfl
 have HR4 := Lib.hid r4
 have HB := Lib.hid hb
 have HBW : Hid (B ≤ W.heap.size) := Lib.hid (Nat.le_trans hB hb.size)
 have hof := refOf_any (str nm) W (by rw [show (str nm).size = nm.length from List.size_toArray]; exact hn)
 clear r4 hb hrow h
 have HW := Lib.hid hW
 clear hW
 have hW := HW.out
 subst hW
 go_enter Tryz.func164, Tryz.ntmps164
 go_wp2
 go_loop [5] (fun i => ∃ k : Nat, k ≤ l.ord.length ∧ i = .int .i64 k ∧ Hid (nm ≠ [] → ∀ x ∈ l.ord.take k, (x.name == nm) = false)) (fun i => l.ord.length - (intOf i).toNat)
 case atStart => exact ⟨0, Nat.zero_le _, rfl, Lib.hid (by simp)⟩
 case round =>
  obtain ⟨k, hk, rfl, HQ⟩ := hrel
  by_cases hlt : k < l.ord.length
  ·obtain ⟨p, hp⟩ : ∃ p, l.ord[k]? = some p := ⟨_, List.getElem?_eq_getElem hlt⟩
   obtain ⟨ad, cx, Ac, cc, hv, hbl, hc0, hc1, -, hri⟩ := elmR_at HR4.out hp
   injection hv with hA _ hc
   subst hA hc
   have i0 : (0 : Int) ≤ (k : Int) := by omega
   have i1 : (k : Int) < (l.ord.length : Int) := by omega
   have HP := Lib.hid hp
   have HRI := Lib.hid hri
   obtain ⟨pn, pc, ps⟩ := p
   simp only at hc0 hc1
   by_cases h0 : nm = []
   ·have hne : (str nm).toList.isEmpty = true := by rw [Lib.toList_data, h0]; rfl
    have HN : Hid (nm ≠ [] → ∀ x ∈ l.ord.take (k + 1), (x.name == nm) = false) := Lib.hid (fun h => absurd h0 h)
    clear hp hri hbl h0
    go_wp2
    go_round
    case rel => exact ⟨k + 1, by omega, by go_num, HN⟩
    case measure => simp [intOf]; omega
   ·have hne : (str nm).toList.isEmpty = false := by
     rw [Lib.toList_data]
     show nm.isEmpty = false
     cases hl : nm with
     | nil => exact absurd hl h0
     | cons a r => rfl
    by_cases e : pn = nm
    ·have e2 : ((str pn).toList == (str nm).toList) = true := by rw [e]; exact beq_self_eq_true _
     have HV : Hid (namedT l.ord nm = pc) := Lib.hid (by unfold namedT; rw [namedO_is h0, find_at HP.out (by simpa using e) (HQ.out h0)]; rfl)
     have HF := Lib.hid (show NmTold w _ pc (.returned (.slice Ac pc.length cc)) from ⟨HB.out, Ac, cc, rfl, HRI.out.more HBW.out⟩)
     clear hp hri e hbl h0
     go_wp2
     go_ret
     rw [HV.out]
     exact HF.out
    ·have e2 : ((str pn).toList == (str nm).toList) = false := by
      rw [beq_eq_false_iff_ne]
      intro h
      rw [Lib.toList_data, Lib.toList_data] at h
      exact e h
     have HN : Hid (nm ≠ [] → ∀ x ∈ l.ord.take (k + 1), (x.name == nm) = false) := Lib.hid (fun h => take_no (f := fun x : Elm => x.name == nm) HP.out (beq_eq_false_iff_ne.2 e) (HQ.out h))
     clear hp hri e hbl h0
     go_wp2
     go_round
     case rel => exact ⟨k + 1, by omega, by go_num, HN⟩
     case measure => simp [intOf]; omega
  ·obtain rfl : k = l.ord.length := by omega
   have HNO : Hid (namedO l.ord nm = none) := Lib.hid (by
    by_cases h0 : nm = []
    ·rw [h0]; rfl
    ·rw [namedO_is h0, find_out (HQ.out h0)]; rfl)
   go_wp2_with fail
   refine hof.mono ?_
   rintro e w3 ⟨v, rfl, ho, hb3⟩
   obtain ⟨xs2, hxs⟩ : ∃ xs2, xs2 = ofL (str nm) := ⟨_, rfl⟩
   rw [← hxs] at ho
   obtain ⟨A3, c3, rfl⟩ := row_form ho
   have hri := RI.of_own (zs := xs2) ho
   have HRI := Lib.hid hri
   have HE : Hid (Below w.heap.size w w3) := Lib.hid (HB.out.trans (hb3.mono HB.out.size))
   have HX := Lib.hid hxs
   clear hof ho hb3 hxs p3
   by_cases hl1 : xs2.length = 1
   ·obtain ⟨x, rfl⟩ : ∃ x, xs2 = [x] := by
     match xs2, hl1 with
     | [x], _ => exact ⟨x, rfl⟩
    obtain ⟨ad, rfl, _, hcs⟩ := hri.2 (by simp)
    have z0 : w3.cell? ad = some (.int .i32 x) := by have := hcs 0 _ rfl; rwa [Addr.add_zero'] at this
    simp only [List.length_singleton]
    by_cases hx0 : 0 ≤ x
    ·have HV : Hid (namedT l.ord nm = [x]) := Lib.hid (by unfold namedT; rw [HNO.out]; simp only; rw [← HX.out, if_pos ⟨rfl, hx0⟩])
     have HF := Lib.hid (show NmTold w w3 [x] (.returned (.slice (some ad) 1 c3)) from ⟨HE.out, some ad, c3, rfl, HRI.out⟩)
     clear hri hcs hl1
     go_wp2
     go_ret
     rw [HV.out]
     exact HF.out
    ·have HV : Hid (namedT l.ord nm = []) := Lib.hid (by unfold namedT; rw [HNO.out]; simp only; rw [← HX.out, if_neg (fun h => hx0 h.2)])
     clear hri hcs hl1
     have HF := Lib.hid (show NmTold w w3 [] (.returned (.slice none 0 0)) from ⟨HE.out, none, 0, rfl, rfl, fun h => absurd h (by simp)⟩)
     go_wp2
     go_ret
     rw [HV.out]
     exact HF.out
   ·have HV : Hid (namedT l.ord nm = []) := Lib.hid (by unfold namedT; rw [HNO.out]; simp only; rw [← HX.out, if_neg (fun h => hl1 h.1)])
    have hl2 : ¬ (xs2.length : Int) = 1 := by omega
    clear hri
    have HF := Lib.hid (show NmTold w w3 [] (.returned (.slice none 0 0)) from ⟨HE.out, none, 0, rfl, rfl, fun h => absurd h (by simp)⟩)
    go_wp2
    go_ret
    rw [HV.out]
    exact HF.out
end Go.Proofs.YthgiikhkcpbpfaaGreatDoor.C


namespace Go.Proofs.YthgiikhkcpbpfaaGreatDoor.C
open Go.RowKit
section
variable {w0 w w' : World} {S T : Nat} {l : Loc} {v1 v2 v3 v4 : Value}
theorem PSt.cls {vs : List Value} {x : Value} {g cap : Nat} (k : Cls) (h : PSt w0 S T l v1 v2 v3 v4 w) (e1 : vs.length = l.cls.length) (e2 : w.ownsRow S 79 2 v1 l.cls.length (clsC l.cls vs)) (e3 : ∀ (i : Nat) (k : Cls) (x : Value), l.cls[i]? = some k → vs[i]? = some x → w.ownsRow S 46 2 x k.rs.length (prsC k.rs)) (hx : w.ownsRow S 46 2 x k.rs.length (prsC k.rs)) (hg : w.grownBy w' v1.ownBlock) (ho : w'.ownsRow S 79 2 (.slice (some ⟨g, 0, none⟩) (l.cls.length + 1) cap) (l.cls.length + 1) (clsC l.cls vs ++ [.string (str k.name), x])) :
  PSt w0 S T { l with cls := l.cls ++ [k] } (.slice (some ⟨g, 0, none⟩) (l.cls.length + 1) cap) v2 v3 v4 (w'.setCell ⟨T, 0, none⟩ (.slice (some ⟨g, 0, none⟩) (l.cls.length + 1) cap)) := by
 have hty := row_tyK e2
 obtain ⟨z, r, b, -, c4, c2, c3⟩ := h.step (Fr.of_grown hg) (fun j hj => (e2.lt j hj).1) (fun j hx => ⟨fun e => row_neK e2 h.r (by decide) (e ▸ hx), fun e => row_neK e2 h.z (by decide) (e ▸ hx)⟩) hty
 have q2 := c2 (fun g hg hx => by
  obtain ⟨c', hc'⟩ := ownsRow_ty h.loc.2.1 hg
  have := hty g _ _ _ hx hc'
  exact absurd this (by decide))
 have q3 := c3 (fun g hg hx => by
  obtain ⟨c', hc'⟩ := ownsRow_ty h.loc.2.2.1 hg
  have := hty g _ _ _ hx hc'
  exact absurd this (by decide))
 exact PSt.put z r h.st ⟨ClsAt.snoc k e1 e2 e3 hx hg ho, q2, q3, c4 (by decide)⟩ h.ne b rfl
end
theorem plainCls_len : plainCls.length = 12 := by decide +kernel
end Go.Proofs.YthgiikhkcpbpfaaGreatDoor.C
