/-
  Maps: a value put anew under a key that is there. No condition.
-/
import Derived.Test.YtknjhlbhbnldpaaGreatDoorQKoV
namespace Go.Proofs.YtknjhlbhbnldpaaGreatDoor.C
open Go.RowKit

section
variable {P : Program} {w : World} {M : Nat} {kd : TypeDesc} {l : List (Value × Value)} {t k e : TypeId} {key : Value}
theorem MapIs.put_same (h : MapIs w M kd l) (ht : P.underlying t = some (.map k e)) (hk : P.underlying k = some kd) (hkey : MapKept.IsKey kd key) {i : Nat} {v0 : Value} (hm : l[i]? = some (key, v0)) (val : Value) :
  ∃ o, (Instr.mapUpdate t (.map (some M)) key val).run P w = .ok () (putObj w M o) ∧ MapIs (putObj w M o) M kd (l.set i (key, val)) := by
 obtain ⟨es, clock, h1, h2, h3, h4⟩ := h
 have hM : M < w.heap.size := (Array.getElem?_eq_some_iff.1 h1).1
 have hks : ∀ x ∈ es.toList, MapKept.IsKey kd x.key := fun x hx => h3 (x.key, x.val) (by rw [← h2]; exact List.mem_map_of_mem hx)
 rcases MapKept.findNow_spec hkey es.toList 0 hks with ⟨_, hn⟩ | ⟨j, x, hf, hj, hx⟩
 ·exfalso
  have := List.mem_of_getElem? hm
  rw [← h2, List.mem_map] at this
  obtain ⟨x, hx, hxe⟩ := this
  exact hn x hx (congrArg Prod.fst hxe)
 ·have hj' : es[j]? = some x := by simpa using hj
  have hc : (Instr.checkKey false 10000 k key).run P w = .ok () w := MapKept.run_checkKey hk hkey false 9999
  have hij : i = j := by
   have e1 : l[j]? = some (x.key, x.val) := by rw [← h2, List.getElem?_map, hj]; rfl
   have e2 : (l.map Prod.fst)[j]? = some key := by rw [List.getElem?_map, e1, hx]; rfl
   have e3 : (l.map Prod.fst)[i]? = some key := by rw [List.getElem?_map, hm]; rfl
   have q1 := List.getElem?_eq_some_iff.1 e2
   have q2 := List.getElem?_eq_some_iff.1 e3
   rcases Nat.lt_trichotomy i j with hlt | hlt | hlt
   ·exact absurd (q2.2.trans q1.2.symm) ((List.pairwise_iff_getElem.1 h4) i j q2.1 q1.1 hlt)
   ·exact hlt
   ·exact absurd (q1.2.trans q2.2.symm) ((List.pairwise_iff_getElem.1 h4) j i q1.1 q2.1 hlt)
  subst hij
  refine ⟨_, by simp [Instr.mapUpdate, run_underlying ht, MapKept.run_getObj_map h1, hc, MapKept.run_findKey hk hf, hj', hx, MapKept.run_keyThatStays hkey, MapKept.run_setObj_map _ h1, Result.andThen, putObj]; rfl, ?_⟩
  refine ⟨_, _, putObj_at _ hM, ?_, ?_, ?_⟩
  ·rw [Array.toList_modify, ← h2]
   refine List.ext_getElem? fun n => ?_
   rw [List.getElem?_map, List.getElem?_modify, List.getElem?_set, List.getElem?_map]
   by_cases hin : i = n
   ·subst hin
    rw [if_pos rfl, if_pos (by rw [List.length_map]; exact (List.getElem?_eq_some_iff.1 hj).1), hj]
    simp
   ·simp [hin]
  ·intro x hx
   rcases List.mem_or_eq_of_mem_set hx with hx | rfl
   ·exact h3 x hx
   ·exact hkey
  ·have e4 : (l.set i (key, val)).map Prod.fst = l.map Prod.fst := by
    rw [List.map_set]
    refine List.ext_getElem? fun n => ?_
    rw [List.getElem?_set]
    by_cases hin : i = n
    ·subst hin
     have e2 : (l.map Prod.fst)[i]? = some key := by rw [List.getElem?_map, hm]; rfl
     rw [if_pos rfl, if_pos (List.getElem?_eq_some_iff.1 e2).1, e2]
    ·rw [if_neg hin]
   rw [e4]
   exact h4
end
end Go.Proofs.YtknjhlbhbnldpaaGreatDoor.C
