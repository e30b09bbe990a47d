/-
  Joined: KoZ. Each with what its own head says.
-/
import Derived.Test.YthgiikhkcpbpfaaGreatDoorB16
import Derived.Test.YthgiikhkcpbpfaaGreatDoorB18


namespace Go.Proofs.YthgiikhkcpbpfaaGreatDoor.C
open Go.RowKit
variable {F : Nat}
def namedO (o : List Elm) (nm : List UInt8) : Option (List Int) := if nm = [] then none else (o.find? fun e => e.name == nm).map Elm.cells
def namedT (o : List Elm) (nm : List UInt8) : List Int := match namedO o nm with
 | some c => c
 | none => if (ofL (str nm)).length = 1 ∧ 0 ≤ (ofL (str nm)).headD 0 then ofL (str nm) else []
theorem namedO_some {o : List Elm} {nm : List UInt8} {c : List Int} (h : namedO o nm = some c) : nm ≠ [] ∧ ∃ (i : Nat) (e : Elm), o[i]? = some e ∧ e.name = nm ∧ e.cells = c := by
 unfold namedO at h
 by_cases h0 : nm = []
 ·rw [if_pos h0] at h; cases h
 ·rw [if_neg h0] at h
  cases hf : o.find? fun e => e.name == nm with
  | none => rw [hf] at h; cases h
  | some k =>
   rw [hf] at h
   have hm := List.mem_of_find?_eq_some hf
   have hn := List.find?_some hf
   obtain ⟨i, hi⟩ := List.mem_iff_getElem?.1 hm
   exact ⟨h0, i, k, hi, by simpa using hn, by simpa using h⟩
theorem namedO_none {o : List Elm} {nm : List UInt8} (h : namedO o nm = none) : ∀ e ∈ o, e.name ≠ [] → e.name ≠ nm := by
 intro e he h1 e2
 unfold namedO at h
 rw [if_neg (by rw [← e2]; exact h1)] at h
 cases hf : o.find? fun e => e.name == nm with
 | none =>
  have := List.find?_eq_none.1 hf e he
  simp [e2] at this
 | some k => rw [hf] at h; cases h
set_option maxRecDepth 100000 in
set_option maxHeartbeats 2000000 in
theorem namedO_any (w : World) (T : Nat) (L : Loc) (n : Int) (nm : List UInt8) (h : TabG F w T L n) (hR : rightL L = true) :
  Calls Tryz.prog 147 #[.pointer (some ⟨T, 1, none⟩), .string (str nm)] w fun e w' => TabG F w' T L n ∧ Fr w w' (· = T) ∧
   ∃ A c, e = .returned (.tuple #[.slice A ((namedO L.ord nm).getD []).length c, .bool (namedO L.ord nm).isSome]) ∧ RI .i32 w' T A ((namedO L.ord nm).getD []).length ((namedO L.ord nm).getD []) := by
 have hord := right_ord hR
 obtain ⟨l, v1, v2, v3, v4, hr, h1, h2, h3, h4, h5, h6, h7, k1, k2, k3, k4, k5, k6⟩ := h
 have hget := getSC_any T 6 _ l w 183 (.pointer (some ⟨T, 1, none⟩)) (PName T L.ord) hr k2 (fun W W' M h hf => h.fr hf) (fun args w => run_enter Tryz.func183 (by kernel_rfl) rfl args w) (fillName T _ l w v4 L.ord h3 h7.2.2.2.1 hord hr.lt)
 have hmf : ∀ (fn : Fn) (first cap : Array Value) (w : World), (Instr.makeFunc fn first cap).run Tryz.prog w = .ok (.func fn first cap) w := fun _ _ _ _ => rfl
 have HS : Hid (∀ w' l', Fr w w' (· = T) → Row w' T 131 l' → Lk l' 6 (PName T L.ord w') → Else l l' 6 → TabG F w' T L n) := Lib.hid (fun w' l' hf hr' hk' he => TabG.step hf hr hr' 6 (by simp) he ⟨h1, h2, h3, h4, h5, h6, h7⟩ (.inr ⟨by omega, k1⟩) (.inl hk') (.inr ⟨by omega, k3⟩) (.inr ⟨by omega, k4⟩) (.inr ⟨by omega, k5⟩) (.inr ⟨by omega, k6⟩))
 clear hr h1 h2 h3 h4 h5 h6 h7 k1 k2 k3 k4 k5 k6 hord
 go_enter Tryz.func147, Tryz.ntmps147
 go_wp2_with fail
 refine hget.mono ?_
 rintro e w1 ⟨M, rfl, hp, hf, l', hr', hk', he⟩
 have HQ : Hid (TabG F w1 T L n ∧ Fr w w1 (· = T)) := Lib.hid ⟨HS.out _ _ hf hr' hk' he, hf⟩
 obtain ⟨_, vs, hlen, hm, hev⟩ := hp
 clear hget hf hr' hk' he
 cases hl : namedO L.ord nm with
 | some cs =>
  have HL := Lib.hid hl
  obtain ⟨h0, i, k, hi, hn, hrs⟩ := namedO_some hl
  have hv : vs[i]? = some (vs[i]'(by rw [hlen]; exact (List.getElem?_eq_some_iff.1 hi).1)) := List.getElem?_eq_getElem _
  generalize vs[i]'(by rw [hlen]; exact (List.getElem?_eq_some_iff.1 hi).1) = u at hv
  have hz : (L.ord.zip vs)[i]? = some (k, u) := by rw [List.getElem?_zip_eq_some]; exact ⟨hi, hv⟩
  obtain ⟨Ac, cc, rfl, hri⟩ := hev i k u hi hv
  have q := hm.look_yes (P := Tryz.prog) Tryz.underlying104 Tryz.underlying9 (key := .string (str nm)) (v := .slice Ac k.cells.length cc) (by first | trivial | rfl) (by
   rw [← hn]
   exact List.mem_map.2 ⟨_, List.mem_filter.2 ⟨List.mem_of_getElem? hz, by
    cases hl2 : k.name with
    | nil => exact absurd (hn.symm.trans hl2) h0
    | cons a r => rfl⟩, rfl⟩) true
  subst hrs
  have HE : Hid (TabG F w1 T L n ∧ Fr w w1 (· = T) ∧ RI .i32 w1 T Ac k.cells.length k.cells) := Lib.hid ⟨HQ.out.1, HQ.out.2, hri⟩
  clear hm hev hz hv hi hl hri hlen hn h0
  go_wp2
  go_ret2
  exact ⟨HE.out.1, HE.out.2.1, Ac, cc, by rw [HL.out]; rfl, by rw [HL.out]; exact HE.out.2.2⟩
 | none =>
  have HL := Lib.hid hl
  have hno := namedO_none hl
  have q := hm.look_no (P := Tryz.prog) Tryz.underlying104 Tryz.underlying9 (key := .string (str nm)) (by first | trivial | rfl) (by
   intro h
   rw [List.map_map] at h
   obtain ⟨x, hx, e⟩ := List.mem_map.1 h
   have e' := strV_inj e
   obtain ⟨hx1, hx2⟩ := List.mem_filter.1 hx
   exact hno x.1 (List.of_mem_zip hx1).1 (by intro h4; rw [h4] at hx2; cases hx2) e') (zeroCells w1) true
  have HE : Hid (TabG F w1 T L n ∧ Fr w w1 (· = T) ∧ RI .i32 w1 T none 0 []) := Lib.hid ⟨HQ.out.1, HQ.out.2, rfl, fun h => absurd h (by omega)⟩
  clear hm hev hl hno hlen
  go_wp2
  go_ret2
  exact ⟨HE.out.1, HE.out.2.1, none, 0, by rw [HL.out]; rfl, by rw [HL.out]; exact HE.out.2.2⟩
set_option maxRecDepth 100000 in
set_option maxHeartbeats 2000000 in
theorem named_any (w : World) (T : Nat) (L : Loc) (n : Int) (nm : List UInt8) (h : TabG F w T L n) (h0 : 0 ≤ n) (h1 : n < 4611686018427387904) (hR : rightL L = true) (hn : nm.length ≤ 1099511627776) :
  Calls Tryz.prog 102 #[.pointer (some ⟨T, 0, none⟩), .string (str nm)] w fun e w' => ∃ v, e = .returned v ∧ w'.ownsRow w.heap.size 30 1 v (namedT L.ord nm).length (celC (namedT L.ord nm)) ∧ TabG F w' T L (n + 1) ∧ Fr w w' (· = T) := by
 have hc := count_any w T L n h h0 h1
 clear h
 go_enter Tryz.func102, Tryz.ntmps102
 go_wp2_with fail
 refine hc.mono ?_
 rintro e w1 ⟨rfl, ht, hf⟩
 have hna := namedO_any w1 T L (n + 1) nm ht hR
 have HF1 := Lib.hid hf
 clear hc ht hf
 go_wp2_with fail
 refine hna.mono ?_
 rintro e w2 ⟨ht, hf, A, c, rfl, hri⟩
 have HF2 := Lib.hid (HF1.out.trans hf)
 have HT2 := Lib.hid ht
 clear hna hf ht
 cases hl : namedO L.ord nm with
 | some cs =>
  have HV : Hid (namedT L.ord nm = cs) := Lib.hid (by unfold namedT; rw [hl])
  have hlc : cs.length ≤ 1073741824 := by
   obtain ⟨_, i, k, hi, _, rfl⟩ := namedO_some hl
   have := len4 (right_ord hR) (List.mem_of_getElem? hi)
   omega
  rw [hl] at hri
  simp only [Option.getD_some, Option.isSome_some] at hri ⊢
  have hcl := cloneC_any w2 T A cs.length c cs hri hlc
  clear hri hl
  go_wp2_with fail
  refine hcl.mono ?_
  rintro e w3 ⟨v, rfl, ho, hb⟩
  have HE : Hid (w3.ownsRow w.heap.size 30 1 v cs.length (celC cs) ∧ TabG F w3 T L (n + 1) ∧ Fr w w3 (· = T)) := Lib.hid ⟨own_low ho HF2.out.size, HT2.out.keep hb, HF2.out.trans (.of_below hb)⟩
  clear hcl ho hb
  go_wp2
  go_ret
  exact ⟨_, rfl, by rw [HV.out]; exact HE.out.1, HE.out.2⟩
 | none =>
  have HL := Lib.hid hl
  rw [hl] at hri
  simp only [Option.getD_none, Option.isSome_none, List.length_nil] at hri ⊢
  have hof := of_any (str nm) w2 (by rw [show (str nm).size = nm.length from List.size_toArray]; exact hn)
  clear hri hl
  go_wp2_with fail
  refine hof.mono ?_
  rintro e w3 ⟨v, rfl, ho, hb⟩
  obtain ⟨xs, hxs⟩ : ∃ xs, xs = ofL (str nm) := ⟨_, rfl⟩
  rw [← hxs] at ho
  obtain ⟨A3, c3, rfl⟩ := row_form ho
  have HE : Hid (w3.ownsRow w.heap.size 30 1 (.slice A3 xs.length c3) xs.length (celC xs) ∧ TabG F w3 T L (n + 1) ∧ Fr w w3 (· = T)) := Lib.hid ⟨own_low ho HF2.out.size, HT2.out.keep hb, HF2.out.trans (.of_below hb)⟩
  have HX := Lib.hid hxs
  have hri := RI.of_own (zs := xs) ho
  clear hof ho hb hxs
  by_cases hl1 : xs.length = 1
  ·obtain ⟨x, rfl⟩ : ∃ x, xs = [x] := by
    match xs, hl1 with
    | [x], _ => exact ⟨x, rfl⟩
   obtain ⟨ad, rfl, _, hcs⟩ := hri.2 (by simp)
   have z0 : w3.cell? ad = some (.int .i32 x) := by have := hcs 0 _ rfl; rwa [Addr.add_zero'] at this
   simp only [List.length_singleton]
   by_cases hx0 : 0 ≤ x
   ·have HV : Hid (namedT L.ord nm = [x]) := Lib.hid (by unfold namedT; rw [HL.out]; simp only; rw [← HX.out, if_pos ⟨rfl, hx0⟩])
    clear hri hcs hl1
    go_wp2
    go_ret
    exact ⟨_, rfl, by rw [HV.out]; exact HE.out.1, HE.out.2⟩
   ·have HV : Hid (namedT L.ord nm = []) := Lib.hid (by unfold namedT; rw [HL.out]; simp only; rw [← HX.out, if_neg (fun h => hx0 h.2)])
    clear hri hcs hl1
    go_wp2
    go_ret
    exact ⟨_, rfl, by rw [HV.out]; exact World.ownsRow_nil _ _ _ _, HE.out.2⟩
  ·have HV : Hid (namedT L.ord nm = []) := Lib.hid (by unfold namedT; rw [HL.out]; simp only; rw [← HX.out, if_neg (fun h => hl1 h.1)])
   have hl2 : ¬ (xs.length : Int) = 1 := by omega
   clear hri
   go_wp2
   go_ret
   exact ⟨_, rfl, by rw [HV.out]; exact World.ownsRow_nil _ _ _ _, HE.out.2⟩
end Go.Proofs.YthgiikhkcpbpfaaGreatDoor.C
