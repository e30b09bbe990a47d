/-
  Joined: LcM, LcJ, LcK, LcL. Each with what its own head says.
-/
import Derived.MapKept
import Derived.Laws.NewBlocks
import Derived.WideMake
import Derived.Laws.NewDeep
import Derived.Lib.SmallJoins
import Derived.Test.YthaibekbefndlaaGreatDoorH07

namespace Go.Proofs.YthaibekbefndlaaGreatDoor.C
open Go.RowKit

def putObj (w : World) (b : Nat) (o : Obj) : World := { w with heap := w.heap.setIfInBounds b o }
theorem putObj_size (w : World) (b : Nat) (o : Obj) : (putObj w b o).heap.size = w.heap.size := by simp [putObj]
theorem putObj_at {w : World} {b : Nat} (o : Obj) (hb : b < w.heap.size) : (putObj w b o).heap[b]? = some o := by simp [putObj, hb]
theorem putObj_else (w : World) {b j : Nat} (o : Obj) (h : j ≠ b) : (putObj w b o).heap[j]? = w.heap[j]? := by
 simp only [putObj]
 rw [Array.getElem?_setIfInBounds_ne (Ne.symm h)]
theorem putObj_below {B : Nat} {a w : World} (h : Below B a w) {b : Nat} (hb : B ≤ b) (o : Obj) : Below B a (putObj w b o) :=
 h.trans ⟨rfl, rfl, rfl, by rw [putObj_size]; exact Nat.le_refl _, fun k hk => putObj_else w o (by omega)⟩

section
variable {P : Program}
theorem run_insert (t k e : TypeId) (kd : TypeDesc) (ht : P.underlying t = some (.map k e)) (hk : P.underlying k = some kd) (w : World) (b : Nat) (es : Array MapEntry) (clock : Nat) (key val : Value)
  (hb : w.heap[b]? = some (.map es clock)) (hkey : MapKept.IsKey kd key) (hf : Instr.findNow kd key es.toList 0 = some none) :
  (Instr.mapUpdate t (.map (some b)) key val).run P w = .ok () (putObj w b (.map (es.push { key := key, val := val, born := clock }) (clock + 1))) := by
 have hc : (Instr.checkKey false 10000 k key).run P w = .ok () w := MapKept.run_checkKey hk hkey false 9999
 simp [Instr.mapUpdate, run_underlying ht, MapKept.run_getObj_map hb, hc, MapKept.run_findKey hk hf, MapKept.run_setObj_map _ hb, Result.andThen, putObj]
theorem run_look_yes (t k e : TypeId) (kd : TypeDesc) (ht : P.underlying t = some (.map k e)) (hk : P.underlying k = some kd) (w : World) (b : Nat) (es : Array MapEntry) (clock : Nat) (key val : Value) (i : Nat)
  (hb : w.heap[b]? = some (.map es clock)) (hkey : MapKept.IsKey kd key) (hf : Instr.findNow kd key es.toList 0 = some (some (i, val))) (c : Bool) :
  (Instr.lookup t (.map (some b)) key c).run P w = .ok (if c then .tuple #[val, .bool true] else val) w := by
 have hc : (Instr.checkKey es.isEmpty 10000 k key).run P w = .ok () w := MapKept.run_checkKey hk hkey _ 9999
 simp [Instr.lookup, run_underlying ht, MapKept.run_getObj_map hb, hc, MapKept.run_findKey hk hf, Result.andThen]
theorem run_look_no (t k e : TypeId) (kd : TypeDesc) (ht : P.underlying t = some (.map k e)) (hk : P.underlying k = some kd) (w : World) (b : Nat) (es : Array MapEntry) (clock : Nat) (key z : Value)
  (hz : (zeroValue e).run P w = .ok z w) (hb : w.heap[b]? = some (.map es clock)) (hkey : MapKept.IsKey kd key) (hf : Instr.findNow kd key es.toList 0 = some none) (c : Bool) :
  (Instr.lookup t (.map (some b)) key c).run P w = .ok (if c then .tuple #[z, .bool false] else z) w := by
 have hc : (Instr.checkKey es.isEmpty 10000 k key).run P w = .ok () w := MapKept.run_checkKey hk hkey _ 9999
 simp [Instr.lookup, run_underlying ht, MapKept.run_getObj_map hb, hc, MapKept.run_findKey hk hf, hz, Result.andThen]
end

def MapIs (w : World) (M : Nat) (kd : TypeDesc) (l : List (Value × Value)) : Prop :=
 ∃ es clock, w.heap[M]? = some (.map es clock) ∧ es.toList.map (fun e => (e.key, e.val)) = l ∧ (∀ x ∈ l, MapKept.IsKey kd x.1) ∧ (l.map Prod.fst).Nodup
section
variable {P : Program} {w : World} {M : Nat} {kd : TypeDesc} {l : List (Value × Value)} {t k e : TypeId} {key v : Value}
theorem MapIs.lt (h : MapIs w M kd l) : M < w.heap.size := by obtain ⟨es, c, h1, _⟩ := h; exact (Array.getElem?_eq_some_iff.1 h1).1
theorem MapIs.at_ {w' : World} (h : MapIs w M kd l) (hb : w'.heap[M]? = w.heap[M]?) : MapIs w' M kd l := by
 obtain ⟨es, c, h1, h2⟩ := h
 exact ⟨es, c, hb.trans h1, h2⟩
theorem MapIs.drewN (h : MapIs w M kd l) (n : Nat) : MapIs (w.drewN n) M kd l := h
theorem MapIs.new (w : World) (kd : TypeDesc) : MapIs (w.alloc (.map #[] 0)) w.heap.size kd [] := ⟨#[], 0, heap_alloc_new w _, rfl, by simp, by simp⟩
theorem MapIs.look_yes (h : MapIs w M kd l) (ht : P.underlying t = some (.map k e)) (hk : P.underlying k = some kd) (hkey : MapKept.IsKey kd key) (hm : (key, v) ∈ l) (c : Bool) :
  (Instr.lookup t (.map (some M)) key c).run P w = .ok (if c then .tuple #[v, .bool true] else v) w := by
 obtain ⟨es, clock, h1, h2, h3, h4⟩ := h
 have hks : ∀ x ∈ es.toList, MapKept.IsKey kd x.key := fun x hx => h3 (x.key, x.val) (by rw [← h2]; exact List.mem_map_of_mem hx)
 rcases MapKept.findNow_spec hkey es.toList 0 hks with ⟨_, hn⟩ | ⟨j, x, hf, hj, hx⟩
 ·rw [← h2, List.mem_map] at hm
  obtain ⟨x, hx, hxe⟩ := hm
  exact absurd (congrArg Prod.fst hxe) (hn x hx)
 ·have hv : x.val = v := by
   have hin : (x.key, x.val) ∈ l := by rw [← h2]; exact List.mem_map_of_mem (List.mem_of_getElem? hj)
   rw [hx] at hin
   have key_inj : ∀ (l : List (Value × Value)), (l.map Prod.fst).Nodup → (key, x.val) ∈ l → (key, v) ∈ l → x.val = v := by
    intro l
    induction l with
    | nil => intro _ h; cases h
    | cons a r ih =>
     intro hn ha hb
     rw [List.map_cons, List.nodup_cons] at hn
     rcases List.mem_cons.1 ha with ha | ha <;> rcases List.mem_cons.1 hb with hb | hb
     ·rw [← ha] at hb; exact (congrArg Prod.snd hb).symm
     ·exact absurd (by rw [← ha]; exact List.mem_map.2 ⟨_, hb, rfl⟩) hn.1
     ·exact absurd (by rw [← hb]; exact List.mem_map.2 ⟨_, ha, rfl⟩) hn.1
     ·exact ih hn.2 ha hb
   exact key_inj l h4 hin hm
  rw [← hv]
  exact run_look_yes t k e kd ht hk w M es clock key x.val _ h1 hkey hf c
theorem MapIs.look_no (h : MapIs w M kd l) (ht : P.underlying t = some (.map k e)) (hk : P.underlying k = some kd) (hkey : MapKept.IsKey kd key) (hm : key ∉ l.map Prod.fst) {z : Value} (hz : (zeroValue e).run P w = .ok z w) (c : Bool) :
  (Instr.lookup t (.map (some M)) key c).run P w = .ok (if c then .tuple #[z, .bool false] else z) w := by
 obtain ⟨es, clock, h1, h2, h3, h4⟩ := h
 have hks : ∀ x ∈ es.toList, MapKept.IsKey kd x.key := fun x hx => h3 (x.key, x.val) (by rw [← h2]; exact List.mem_map_of_mem hx)
 rcases MapKept.findNow_spec hkey es.toList 0 hks with ⟨hf, _⟩ | ⟨j, x, hf, hj, hx⟩
 ·exact run_look_no t k e kd ht hk w M es clock key z hz h1 hkey hf c
 ·exfalso
  apply hm
  rw [← h2, List.map_map, List.mem_map]
  exact ⟨x, List.mem_of_getElem? hj, hx⟩
theorem MapIs.put_new (h : MapIs w M kd l) (ht : P.underlying t = some (.map k e)) (hk : P.underlying k = some kd) (hkey : MapKept.IsKey kd key) (hm : key ∉ l.map Prod.fst) (val : Value) :
  ∃ o, (Instr.mapUpdate t (.map (some M)) key val).run P w = .ok () (putObj w M o) ∧ MapIs (putObj w M o) M kd (l ++ [(key, val)]) := by
 have hlt := h.lt
 obtain ⟨es, clock, h1, h2, h3, h4⟩ := h
 have hks : ∀ x ∈ es.toList, MapKept.IsKey kd x.key := fun x hx => h3 (x.key, x.val) (by rw [← h2]; exact List.mem_map_of_mem hx)
 rcases MapKept.findNow_spec hkey es.toList 0 hks with ⟨hf, _⟩ | ⟨j, x, hf, hj, hx⟩
 ·refine ⟨_, run_insert t k e kd ht hk w M es clock key val h1 hkey hf, _, _, putObj_at _ hlt, ?_, ?_, ?_⟩
  ·rw [Array.toList_push, List.map_append, h2]; rfl
  ·intro x hx
   rcases List.mem_append.1 hx with hx | hx
   ·exact h3 x hx
   ·rw [List.mem_singleton] at hx; subst hx; exact hkey
  ·rw [List.map_append, List.nodup_append]
   refine ⟨h4, by simp, ?_⟩
   intro a ha b hb
   simp only [List.map_cons, List.map_nil, List.mem_singleton] at hb
   subst hb
   rintro rfl
   exact hm ha
 ·exfalso
  apply hm
  rw [← h2, List.map_map, List.mem_map]
  exact ⟨x, List.mem_of_getElem? hj, hx⟩
theorem MapIs.put_old (h : MapIs w M kd l) (ht : P.underlying t = some (.map k e)) (hk : P.underlying k = some kd) (hkey : MapKept.IsKey kd key) (hm : key ∈ l.map Prod.fst) (val : Value) :
  ∃ o, (Instr.mapUpdate t (.map (some M)) key val).run P w = .ok () (putObj w M o) := by
 obtain ⟨es, clock, h1, h2, h3, h4⟩ := h
 have hks : ∀ x ∈ es.toList, MapKept.IsKey kd x.key := fun x hx => h3 (x.key, x.val) (by rw [← h2]; exact List.mem_map_of_mem hx)
 rcases MapKept.findNow_spec hkey es.toList 0 hks with ⟨_, hn⟩ | ⟨j, x, hf, hj, hx⟩
 ·exfalso
  rw [← h2, List.map_map, List.mem_map] at hm
  obtain ⟨x, hx, hxe⟩ := hm
  exact hn x hx hxe
 ·have hj' : es[j]? = some x := by simpa using hj
  have hc : (Instr.checkKey false 10000 k key).run P w = .ok () w := MapKept.run_checkKey hk hkey false 9999
  exact ⟨_, by simp [Instr.mapUpdate, run_underlying ht, MapKept.run_getObj_map h1, hc, MapKept.run_findKey hk hf, hj', hx, MapKept.run_keyThatStays hkey, MapKept.run_setObj_map _ h1, Result.andThen, putObj]; rfl⟩
end
theorem putObj_only {w : World} {M : Nat} (o : Obj) : w.grownBy (putObj w M o) (some M) := ⟨rfl, rfl, rfl, by rw [putObj_size]; exact Nat.le_refl _, fun i _ hne => putObj_else w o (fun e => hne (by rw [e]))⟩
def FT (w : World) (t : TypeId) (kd : TypeDesc) (A M : Nat) (keys : List Value) : Prop :=
 w.heap[A]? = some (.cells #[.map (some M)] t (0, 0)) ∧ MapIs w M kd (keys.map fun k => (k, .bool true))
theorem FT.next {w w' : World} {t : TypeId} {kd : TypeDesc} {A M : Nat} {keys : List Value} (h : FT w t kd A M keys) (hA : w'.heap[A]? = w.heap[A]?) (hM : w'.heap[M]? = w.heap[M]?) : FT w' t kd A M keys := ⟨hA.trans h.1, h.2.at_ hM⟩
theorem FT.cell {w : World} {t : TypeId} {kd : TypeDesc} {A M : Nat} {keys : List Value} (h : FT w t kd A M keys) : w.cell? ⟨A, 0, none⟩ = some (.map (some M)) := by simp [World.cell?, h.1]
theorem FT.ne {w : World} {t : TypeId} {kd : TypeDesc} {A M : Nat} {keys : List Value} (h : FT w t kd A M keys) : A ≠ M := by
 rintro rfl
 obtain ⟨es, c, h1, _⟩ := h.2
 rw [h.1] at h1
 cases h1
theorem map_keys (keys : List Value) : (keys.map fun k => (k, Value.bool true)).map Prod.fst = keys := by induction keys <;> simp_all

theorem zeroBoolS (w : World) : (zeroValue 4).run Tryz.prog w = .ok (.bool false) w := by kernel_rfl
set_option maxRecDepth 100000 in
set_option maxHeartbeats 1000000 in
theorem firstS_any (w : World) : Calls Tryz.prog 54 #[] w fun e w' => e = .returned (.func (.func 99) #[] #[.pointer (some ⟨w.heap.size + 1, 0, none⟩)]) ∧ FT w' 151 .string (w.heap.size + 1) w.heap.size [] ∧ Below w.heap.size w w' ∧ w'.heap.size = w.heap.size + 2 := by
 have hmf : ∀ (fn : Fn) (first cap : Array Value) (w : World), (Instr.makeFunc fn first cap).run Tryz.prog w = .ok (.func fn first cap) w := fun _ _ _ _ => rfl
 have hmm := @run_makeMap Tryz.prog
 have hA := heap_alloc_new (w.alloc (.map #[] 0)) (.cells #[.map (some w.heap.size)] 151)
 rw [World.size_alloc] at hA
 have hM : MapIs ((w.alloc (.map #[] 0)).alloc (.cells #[.map (some w.heap.size)] 151)) w.heap.size .string [] := (MapIs.new w .string).at_ (heap_lt _ _ (by simp))
 have HF : Hid (FT ((w.alloc (.map #[] 0)).alloc (.cells #[.map (some w.heap.size)] 151)) 151 .string (w.heap.size + 1) w.heap.size []) := Lib.hid ⟨hA, hM⟩
 clear hA hM
 go_enter Tryz.func54, Tryz.ntmps54
 go_wp2
 go_ret
 exact ⟨rfl, HF.out, ((Below.refl _ w).alloc (Nat.le_refl _) _).alloc (by simp) _, by simp⟩
set_option maxRecDepth 100000 in
set_option maxHeartbeats 1000000 in
theorem isNewS_yes (w : World) (A M : Nat) (keys : List Value) (s : ByteArray) (h : FT w 151 .string A M keys) (hs : (.string s) ∉ keys) :
  Calls Tryz.prog 99 #[(.string s), .pointer (some ⟨A, 0, none⟩)] w fun e w' => e = .returned (.bool true) ∧ FT w' 151 .string A M (keys ++ [(.string s)]) ∧ w.grownBy w' (some M) := by
 have hc := h.cell
 have hne := h.ne
 have q1 := h.2.look_no Tryz.underlying151 Tryz.underlying9 (key := (.string s)) (by first | trivial | rfl) (by rw [map_keys]; exact hs) (zeroBoolS w) false
 obtain ⟨o, q2, hM⟩ := h.2.put_new Tryz.underlying151 Tryz.underlying9 (key := (.string s)) (by first | trivial | rfl) (by rw [map_keys]; exact hs) (.bool true)
 have HF : Hid (FT (putObj w M o) 151 .string A M (keys ++ [(.string s)])) := Lib.hid ⟨(putObj_else w o hne).trans h.1, by rw [List.map_append]; exact hM⟩
 have HO : Hid (w.grownBy (putObj w M o) (some M)) := Lib.hid (putObj_only o)
 clear h hM hs
 go_enter Tryz.func99, Tryz.ntmps99
 go_wp2
 go_ret
 exact ⟨rfl, HF.out, HO.out⟩
set_option maxRecDepth 100000 in
set_option maxHeartbeats 1000000 in
theorem isNewS_no (w : World) (A M : Nat) (keys : List Value) (s : ByteArray) (h : FT w 151 .string A M keys) (hs : (.string s) ∈ keys) :
  Calls Tryz.prog 99 #[(.string s), .pointer (some ⟨A, 0, none⟩)] w fun e w' => e = .returned (.bool false) ∧ w.grownBy w' (some M) := by
 have hc := h.cell
 have q1 := h.2.look_yes Tryz.underlying151 Tryz.underlying9 (key := (.string s)) (v := .bool true) (by first | trivial | rfl) (List.mem_map_of_mem hs) false
 obtain ⟨o, q2⟩ := h.2.put_old Tryz.underlying151 Tryz.underlying9 (key := (.string s)) (by first | trivial | rfl) (by rw [map_keys]; exact hs) (.bool true)
 have HO : Hid (w.grownBy (putObj w M o) (some M)) := Lib.hid (putObj_only o)
 clear h hs
 go_enter Tryz.func99, Tryz.ntmps99
 go_wp2
 go_ret
 exact ⟨rfl, HO.out⟩

theorem zeroBoolI (w : World) : (zeroValue 4).run Tryz.prog w = .ok (.bool false) w := by kernel_rfl
set_option maxRecDepth 100000 in
set_option maxHeartbeats 1000000 in
theorem firstI_any (w : World) : Calls Tryz.prog 125 #[] w fun e w' => e = .returned (.func (.func 170) #[] #[.pointer (some ⟨w.heap.size + 1, 0, none⟩)]) ∧ FT w' 200 (.int .i64) (w.heap.size + 1) w.heap.size [] ∧ Below w.heap.size w w' ∧ w'.heap.size = w.heap.size + 2 := by
 have hmf : ∀ (fn : Fn) (first cap : Array Value) (w : World), (Instr.makeFunc fn first cap).run Tryz.prog w = .ok (.func fn first cap) w := fun _ _ _ _ => rfl
 have hmm := @run_makeMap Tryz.prog
 have hA := heap_alloc_new (w.alloc (.map #[] 0)) (.cells #[.map (some w.heap.size)] 200)
 rw [World.size_alloc] at hA
 have hM : MapIs ((w.alloc (.map #[] 0)).alloc (.cells #[.map (some w.heap.size)] 200)) w.heap.size (.int .i64) [] := (MapIs.new w (.int .i64)).at_ (heap_lt _ _ (by simp))
 have HF : Hid (FT ((w.alloc (.map #[] 0)).alloc (.cells #[.map (some w.heap.size)] 200)) 200 (.int .i64) (w.heap.size + 1) w.heap.size []) := Lib.hid ⟨hA, hM⟩
 clear hA hM
 go_enter Tryz.func125, Tryz.ntmps125
 go_wp2
 go_ret
 exact ⟨rfl, HF.out, ((Below.refl _ w).alloc (Nat.le_refl _) _).alloc (by simp) _, by simp⟩
set_option maxRecDepth 100000 in
set_option maxHeartbeats 1000000 in
theorem isNewI_yes (w : World) (A M : Nat) (keys : List Value) (s : Int) (h : FT w 200 (.int .i64) A M keys) (hs : (.int .i64 s) ∉ keys) :
  Calls Tryz.prog 170 #[(.int .i64 s), .pointer (some ⟨A, 0, none⟩)] w fun e w' => e = .returned (.bool true) ∧ FT w' 200 (.int .i64) A M (keys ++ [(.int .i64 s)]) ∧ w.grownBy w' (some M) := by
 have hc := h.cell
 have hne := h.ne
 have q1 := h.2.look_no Tryz.underlying200 Tryz.underlying3 (key := (.int .i64 s)) (by first | trivial | rfl) (by rw [map_keys]; exact hs) (zeroBoolI w) false
 obtain ⟨o, q2, hM⟩ := h.2.put_new Tryz.underlying200 Tryz.underlying3 (key := (.int .i64 s)) (by first | trivial | rfl) (by rw [map_keys]; exact hs) (.bool true)
 have HF : Hid (FT (putObj w M o) 200 (.int .i64) A M (keys ++ [(.int .i64 s)])) := Lib.hid ⟨(putObj_else w o hne).trans h.1, by rw [List.map_append]; exact hM⟩
 have HO : Hid (w.grownBy (putObj w M o) (some M)) := Lib.hid (putObj_only o)
 clear h hM hs
 go_enter Tryz.func170, Tryz.ntmps170
 go_wp2
 go_ret
 exact ⟨rfl, HF.out, HO.out⟩
set_option maxRecDepth 100000 in
set_option maxHeartbeats 1000000 in
theorem isNewI_no (w : World) (A M : Nat) (keys : List Value) (s : Int) (h : FT w 200 (.int .i64) A M keys) (hs : (.int .i64 s) ∈ keys) :
  Calls Tryz.prog 170 #[(.int .i64 s), .pointer (some ⟨A, 0, none⟩)] w fun e w' => e = .returned (.bool false) ∧ w.grownBy w' (some M) := by
 have hc := h.cell
 have q1 := h.2.look_yes Tryz.underlying200 Tryz.underlying3 (key := (.int .i64 s)) (v := .bool true) (by first | trivial | rfl) (List.mem_map_of_mem hs) false
 obtain ⟨o, q2⟩ := h.2.put_old Tryz.underlying200 Tryz.underlying3 (key := (.int .i64 s)) (by first | trivial | rfl) (by rw [map_keys]; exact hs) (.bool true)
 have HO : Hid (w.grownBy (putObj w M o) (some M)) := Lib.hid (putObj_only o)
 clear h hs
 go_enter Tryz.func170, Tryz.ntmps170
 go_wp2
 go_ret
 exact ⟨rfl, HO.out⟩

theorem zeroBoolC (w : World) : (zeroValue 4).run Tryz.prog w = .ok (.bool false) w := by kernel_rfl
set_option maxRecDepth 100000 in
set_option maxHeartbeats 1000000 in
theorem firstC_any (w : World) : Calls Tryz.prog 60 #[] w fun e w' => e = .returned (.func (.func 105) #[] #[.pointer (some ⟨w.heap.size + 1, 0, none⟩)]) ∧ FT w' 153 (.int .i32) (w.heap.size + 1) w.heap.size [] ∧ Below w.heap.size w w' ∧ w'.heap.size = w.heap.size + 2 := by
 have hmf : ∀ (fn : Fn) (first cap : Array Value) (w : World), (Instr.makeFunc fn first cap).run Tryz.prog w = .ok (.func fn first cap) w := fun _ _ _ _ => rfl
 have hmm := @run_makeMap Tryz.prog
 have hA := heap_alloc_new (w.alloc (.map #[] 0)) (.cells #[.map (some w.heap.size)] 153)
 rw [World.size_alloc] at hA
 have hM : MapIs ((w.alloc (.map #[] 0)).alloc (.cells #[.map (some w.heap.size)] 153)) w.heap.size (.int .i32) [] := (MapIs.new w (.int .i32)).at_ (heap_lt _ _ (by simp))
 have HF : Hid (FT ((w.alloc (.map #[] 0)).alloc (.cells #[.map (some w.heap.size)] 153)) 153 (.int .i32) (w.heap.size + 1) w.heap.size []) := Lib.hid ⟨hA, hM⟩
 clear hA hM
 go_enter Tryz.func60, Tryz.ntmps60
 go_wp2
 go_ret
 exact ⟨rfl, HF.out, ((Below.refl _ w).alloc (Nat.le_refl _) _).alloc (by simp) _, by simp⟩
set_option maxRecDepth 100000 in
set_option maxHeartbeats 1000000 in
theorem isNewC_yes (w : World) (A M : Nat) (keys : List Value) (s : Int) (h : FT w 153 (.int .i32) A M keys) (hs : (.int .i32 s) ∉ keys) :
  Calls Tryz.prog 105 #[(.int .i32 s), .pointer (some ⟨A, 0, none⟩)] w fun e w' => e = .returned (.bool true) ∧ FT w' 153 (.int .i32) A M (keys ++ [(.int .i32 s)]) ∧ w.grownBy w' (some M) := by
 have hc := h.cell
 have hne := h.ne
 have q1 := h.2.look_no Tryz.underlying153 Tryz.underlying35 (key := (.int .i32 s)) (by first | trivial | rfl) (by rw [map_keys]; exact hs) (zeroBoolC w) false
 obtain ⟨o, q2, hM⟩ := h.2.put_new Tryz.underlying153 Tryz.underlying35 (key := (.int .i32 s)) (by first | trivial | rfl) (by rw [map_keys]; exact hs) (.bool true)
 have HF : Hid (FT (putObj w M o) 153 (.int .i32) A M (keys ++ [(.int .i32 s)])) := Lib.hid ⟨(putObj_else w o hne).trans h.1, by rw [List.map_append]; exact hM⟩
 have HO : Hid (w.grownBy (putObj w M o) (some M)) := Lib.hid (putObj_only o)
 clear h hM hs
 go_enter Tryz.func105, Tryz.ntmps105
 go_wp2
 go_ret
 exact ⟨rfl, HF.out, HO.out⟩
set_option maxRecDepth 100000 in
set_option maxHeartbeats 1000000 in
theorem isNewC_no (w : World) (A M : Nat) (keys : List Value) (s : Int) (h : FT w 153 (.int .i32) A M keys) (hs : (.int .i32 s) ∈ keys) :
  Calls Tryz.prog 105 #[(.int .i32 s), .pointer (some ⟨A, 0, none⟩)] w fun e w' => e = .returned (.bool false) ∧ w.grownBy w' (some M) := by
 have hc := h.cell
 have q1 := h.2.look_yes Tryz.underlying153 Tryz.underlying35 (key := (.int .i32 s)) (v := .bool true) (by first | trivial | rfl) (List.mem_map_of_mem hs) false
 obtain ⟨o, q2⟩ := h.2.put_old Tryz.underlying153 Tryz.underlying35 (key := (.int .i32 s)) (by first | trivial | rfl) (by rw [map_keys]; exact hs) (.bool true)
 have HO : Hid (w.grownBy (putObj w M o) (some M)) := Lib.hid (putObj_only o)
 clear h hs
 go_enter Tryz.func105, Tryz.ntmps105
 go_wp2
 go_ret
 exact ⟨rfl, HO.out⟩
end Go.Proofs.YthaibekbefndlaaGreatDoor.C

namespace Go.Proofs.YthaibekbefndlaaGreatDoor.C
open Go.RowKit

structure Fr (w w' : World) (X : Nat → Prop) : Prop where
 os : w'.os = w.os
 tape : w'.tape = w.tape
 output : w'.output = w.output
 size : w.heap.size ≤ w'.heap.size
 block : ∀ b, b < w.heap.size → ¬ X b → w'.heap[b]? = w.heap[b]?
section
variable {a b c w w' : World} {X Y : Nat → Prop}
theorem Fr.of_moved {R : Nat} (h : Moved w w' R) : Fr w w' (· = R) := ⟨h.os, h.tape, h.output, h.size, fun j hj hn => h.block j hj (fun e => hn (by injection e))⟩
theorem Fr.of_grown {row : Option Nat} (h : w.grownBy w' row) : Fr w w' (fun j => row = some j) := ⟨h.os, h.tape, h.output, h.size, fun j hj hn => h.block j hj (fun e => hn e.symm)⟩
theorem Fr.of_below (h : Below w.heap.size w w') : Fr w w' X := ⟨h.os, h.tape, h.output, h.size, fun j hj _ => h.block j hj⟩
theorem Fr.trans (h : Fr a b X) (k : Fr b c X) : Fr a c X := ⟨k.os.trans h.os, k.tape.trans h.tape, k.output.trans h.output, Nat.le_trans h.size k.size, fun j hj hn => (k.block j (Nat.lt_of_lt_of_le hj h.size) hn).trans (h.block j hj hn)⟩
theorem Fr.mono (h : Fr a b X) (hX : ∀ j, j < a.heap.size → X j → Y j) : Fr a b Y := ⟨h.os, h.tape, h.output, h.size, fun j hj hn => h.block j hj (fun hx => hn (hX j hj hx))⟩
theorem Fr.next (h : Fr a b X) (k : Fr b c Y) (hY : ∀ j, j < a.heap.size → Y j → X j) : Fr a c X := ⟨k.os.trans h.os, k.tape.trans h.tape, k.output.trans h.output, Nat.le_trans h.size k.size, fun j hj hn => (k.block j (Nat.lt_of_lt_of_le hj h.size) (fun hy => hn (hY j hj hy))).trans (h.block j hj hn)⟩
theorem Fr.alloc (h : Fr a b X) (o : Obj) : Fr a (b.alloc o) X := h.trans (.of_below ((Below.refl _ _).alloc (Nat.le_refl _) o))
theorem Fr.drew (h : Fr a b X) : Fr a b.drew X := ⟨h.os, h.tape, h.output, h.size, h.block⟩
theorem Fr.set (h : Fr a b X) (p : Addr) (u : Value) (hp : p.block < a.heap.size → X p.block) : Fr a (b.setCell p u) X :=
 ⟨h.os, h.tape, h.output, by simpa [World.setCell] using h.size, fun j hj hn => (Below.heap_setCell b p u j (fun e => hn (e ▸ hp (e ▸ hj)))).trans (h.block j hj hn)⟩
theorem Fr.below {B : Nat} (h : Fr a b X) (hX : ∀ j, j < a.heap.size → X j → B ≤ j) (hB : B ≤ a.heap.size) : Below B a b := ⟨h.os, h.tape, h.output, h.size, fun j hj => h.block j (by omega) (fun hx => by have := hX j (by omega) hx; omega)⟩
theorem ownsRow_fr {base size n : Nat} {e : TypeId} {v : Value} {xs : List Value} (h : w.ownsRow base e size v n xs) (hf : Fr w w' X) (hx : ∀ g, v.ownBlock = some g → ¬ X g) : w'.ownsRow base e size v n xs := by
 have hl := h.lt
 obtain ⟨h1, h2⟩ := h
 refine ⟨h1, h2.imp id ?_⟩
 rintro ⟨g, cap, cur, rfl, hg, hh, r⟩
 exact ⟨g, cap, cur, rfl, hg, (hf.block g (hl g rfl).2 (hx g rfl)).trans hh, r⟩
theorem One.fr {j : Nat} {t : TypeId} {v : Value} (h : One w j t v) (hf : Fr w w' X) (hx : ¬ X j) : One w' j t v := (hf.block j h.lt hx).trans h
theorem Two.fr {j : Nat} {t : TypeId} {u v : Value} (h : Two w j t u v) (hf : Fr w w' X) (hx : ¬ X j) : Two w' j t u v := (hf.block j h.lt hx).trans h
theorem CU.fr {R k : Nat} {T : TV} {v1 v2 v3 v4 v5 : Value} (h : CU w R T k v1 v2 v3 v4 v5) (hf : Fr w w' X) (hx : ∀ j, X j → R < j) : CU w' R T k v1 v2 v3 v4 v5 := by
 have hlt := h.lt
 obtain ⟨h1, h2, h3⟩ := h
 refine ⟨(hf.block R hlt (fun e => by have := hx R e; omega)).trans h1, h2.keep fun p hp => World.cell?_of_block (hf.block p.block (by omega) (fun e => by have := hx _ e; omega)), h3⟩
theorem One.drew {j : Nat} {t : TypeId} {v : Value} (h : One w j t v) : One w.drew j t v := h
theorem MapIs.fr {M : Nat} {kd : TypeDesc} {l : List (Value × Value)} (h : MapIs w M kd l) (hf : Fr w w' X) (hx : ¬ X M) : MapIs w' M kd l := h.at_ (hf.block M h.lt hx)
theorem FT.lt {t : TypeId} {kd : TypeDesc} {A M : Nat} {keys : List Value} (h : FT w t kd A M keys) : A < w.heap.size := (Array.getElem?_eq_some_iff.1 h.1).1
theorem FT.fr {t : TypeId} {kd : TypeDesc} {A M : Nat} {keys : List Value} (h : FT w t kd A M keys) (hf : Fr w w' X) (hA : ¬ X A) (hM : ¬ X M) : FT w' t kd A M keys := h.next (hf.block A h.lt hA) (hf.block M h.2.lt hM)
end
theorem CU.one {w : World} {R k : Nat} {T : TV} {v1 v2 v3 v4 v5 : Value} (h : CU w R T k v1 v2 v3 v4 v5) (i : Nat) : w.frozen? ⟨R, i, none⟩ = false := by simp [World.frozen?, h.1]
theorem set_row {w : World} {R i : Nat} {l : List Value} {t : TypeId} (h : w.heap[R]? = some (.cells l.toArray t (0, 0))) (u : Value) : (w.setCell ⟨R, i, none⟩ u).heap[R]? = some (.cells (l.set i u).toArray t (0, 0)) := by
 obtain ⟨hlt, hk⟩ := Array.getElem?_eq_some_iff.1 h
 show (w.heap.modify R _)[R]? = _
 rw [Array.getElem?_eq_getElem (by rw [Array.size_modify]; exact hlt), Array.getElem_modify_self, hk]
 simp
theorem TI.fr_set {w : World} {R k : Nat} {T : TV} {v1 v2 v3 v4 v5 : Value} (h : CU w R T k v1 v2 v3 v4 v5) (i : Nat) (u : Value) : TI (w.setCell ⟨R, i, none⟩ u) R T.A T.n T.ts :=
 h.2.1.keep fun p hp => World.cell?_of_block (Below.heap_setCell w ⟨R, i, none⟩ u p.block (by show p.block ≠ R; omega))
theorem CU.set1 {w : World} {R k : Nat} {T : TV} {v1 v2 v3 v4 v5 : Value} (h : CU w R T k v1 v2 v3 v4 v5) (u : Value) : CU (w.setCell ⟨R, 2, none⟩ u) R T k u v2 v3 v4 v5 := ⟨set_row (i := 2) (l := [_, _, _, _, _, _, _]) h.1 u, TI.fr_set h 2 u, h.2.2⟩
theorem CU.set2 {w : World} {R k : Nat} {T : TV} {v1 v2 v3 v4 v5 : Value} (h : CU w R T k v1 v2 v3 v4 v5) (u : Value) : CU (w.setCell ⟨R, 3, none⟩ u) R T k v1 u v3 v4 v5 := ⟨set_row (i := 3) (l := [_, _, _, _, _, _, _]) h.1 u, TI.fr_set h 3 u, h.2.2⟩
theorem CU.set3 {w : World} {R k : Nat} {T : TV} {v1 v2 v3 v4 v5 : Value} (h : CU w R T k v1 v2 v3 v4 v5) (u : Value) : CU (w.setCell ⟨R, 4, none⟩ u) R T k v1 v2 u v4 v5 := ⟨set_row (i := 4) (l := [_, _, _, _, _, _, _]) h.1 u, TI.fr_set h 4 u, h.2.2⟩
theorem CU.set4 {w : World} {R k : Nat} {T : TV} {v1 v2 v3 v4 v5 : Value} (h : CU w R T k v1 v2 v3 v4 v5) (u : Value) : CU (w.setCell ⟨R, 5, none⟩ u) R T k v1 v2 v3 u v5 := ⟨set_row (i := 5) (l := [_, _, _, _, _, _, _]) h.1 u, TI.fr_set h 5 u, h.2.2⟩

def clsC (cs : List Cls) (vs : List Value) : List Value := (cs.zip vs).flatMap fun x => [.string (str x.1.name), x.2]
theorem clsC_snoc {cs : List Cls} {vs : List Value} (h : vs.length = cs.length) (c : Cls) (v : Value) : clsC (cs ++ [c]) (vs ++ [v]) = clsC cs vs ++ [.string (str c.name), v] := by
 unfold clsC
 rw [List.zip_append h.symm]
 simp
def ClsAt (w : World) (lo : Nat) (v : Value) (cs : List Cls) : Prop :=
 ∃ vs : List Value, vs.length = cs.length ∧ w.ownsRow lo 47 2 v cs.length (clsC cs vs) ∧ ∀ (i : Nat) (c : Cls) (x : Value), cs[i]? = some c → vs[i]? = some x → w.ownsRow lo 51 2 x c.rs.length (prsC c.rs)
theorem ClsAt.nil (w : World) (lo : Nat) : ClsAt w lo (.slice none 0 0) [] := ⟨[], rfl, ⟨rfl, .inl ⟨rfl, rfl⟩⟩, by simp⟩
theorem ownsRow_ty {w : World} {base size n : Nat} {e : TypeId} {v : Value} {xs : List Value} (h : w.ownsRow base e size v n xs) {g : Nat} (hg : v.ownBlock = some g) : ∃ c, w.heap[g]? = some (.cells c e (0, 0)) := by
 rcases h.2 with ⟨rfl, _⟩ | ⟨g', cap, cur, rfl, _, hh, _⟩
 ·cases hg
 ·injection hg with hg
  subst hg
  exact ⟨cur, hh⟩
theorem ClsAt.fr {w w' : World} {X : Nat → Prop} {lo : Nat} {v : Value} {cs : List Cls} (h : ClsAt w lo v cs) (hf : Fr w w' X) (hx : ∀ g c z t, X g → w.heap[g]? = some (.cells c t z) → t ≠ 47 ∧ t ≠ 51) : ClsAt w' lo v cs := by
 obtain ⟨vs, h1, h2, h3⟩ := h
 refine ⟨vs, h1, ownsRow_fr h2 hf ?_, fun i c x hc hv => ownsRow_fr (h3 i c x hc hv) hf ?_⟩
 ·intro g hg hX
  obtain ⟨c, hc⟩ := ownsRow_ty h2 hg
  exact (hx g _ _ _ hX hc).1 rfl
 ·intro g hg hX
  obtain ⟨c, hc⟩ := ownsRow_ty (h3 i c x hc hv) hg
  exact (hx g _ _ _ hX hc).2 rfl
theorem ClsAt.frR {w w' : World} {R k : Nat} {T : TV} {v1 v2 v3 v4 v5 : Value} {lo : Nat} {v : Value} {cs : List Cls} (h : ClsAt w lo v cs) (hc : CU w R T k v1 v2 v3 v4 v5) (hf : Fr w w' (· = R)) : ClsAt w' lo v cs := h.fr hf (by
 rintro g c z t rfl hg
 rw [hc.1] at hg
 simp at hg
 obtain ⟨-, rfl, -⟩ := hg
 decide)
theorem ClsAt.frM {w w' : World} {M : Nat} {kd : TypeDesc} {l : List (Value × Value)} {lo : Nat} {v : Value} {cs : List Cls} (h : ClsAt w lo v cs) (hm : MapIs w M kd l) (hf : Fr w w' (· = M)) : ClsAt w' lo v cs := h.fr hf (by
 rintro g c z t rfl hg
 obtain ⟨es, q, h1, _⟩ := hm
 rw [h1] at hg
 cases hg)
theorem ClsAt.next {w w' : World} {lo : Nat} {v : Value} {cs : List Cls} (h : ClsAt w lo v cs) (hb : Below w.heap.size w w') : ClsAt w' lo v cs := h.fr (X := fun _ => False) (.of_below hb) (by rintro _ _ _ _ ⟨⟩)
theorem ClsAt.snoc {w w' : World} {lo g cap : Nat} {v x : Value} {cs : List Cls} {vs : List Value} (c : Cls) (h1 : vs.length = cs.length) (h2 : w.ownsRow lo 47 2 v cs.length (clsC cs vs)) (h3 : ∀ (i : Nat) (c : Cls) (x : Value), cs[i]? = some c → vs[i]? = some x → w.ownsRow lo 51 2 x c.rs.length (prsC c.rs))
  (hx : w.ownsRow lo 51 2 x c.rs.length (prsC c.rs))
  (hg : w.grownBy w' v.ownBlock) (ho : w'.ownsRow lo 47 2 (.slice (some ⟨g, 0, none⟩) (cs.length + 1) cap) (cs.length + 1) (clsC cs vs ++ [.string (str c.name), x])) :
  ClsAt w' lo (.slice (some ⟨g, 0, none⟩) (cs.length + 1) cap) (cs ++ [c]) := by
 have key : ∀ {n : Nat} {u : Value} {xs : List Value}, w.ownsRow lo 51 2 u n xs → w'.ownsRow lo 51 2 u n xs := fun hu => hu.kept hg (by
  rcases hb : (Value.ownBlock _) with _ | g1
  ·exact .inl rfl
  ·refine .inr fun e => ?_
   obtain ⟨c1, hc1⟩ := ownsRow_ty hu hb
   obtain ⟨c2, hc2⟩ := ownsRow_ty h2 e.symm
   rw [hc1] at hc2
   injection hc2 with hc2
   injection hc2 with _ hc2
   cases hc2)
 refine ⟨vs ++ [x], by simp [h1], by rw [clsC_snoc h1, List.length_append]; exact ho, ?_⟩
 intro i d y hd hy
 rcases Nat.lt_or_ge i cs.length with hi | hi
 ·rw [List.getElem?_append_left hi] at hd
  rw [List.getElem?_append_left (by omega)] at hy
  exact key (h3 i d y hd hy)
 ·rw [List.getElem?_append_right hi] at hd
  rw [List.getElem?_append_right (by omega), h1] at hy
  have e0 : i - cs.length = 0 := by
   rcases hq : i - cs.length with _ | q
   ·rfl
   ·rw [hq] at hd
    simp at hd
  rw [e0] at hd hy
  simp at hd hy
  subst hd hy
  exact key hx
end Go.Proofs.YthaibekbefndlaaGreatDoor.C

namespace Go.Proofs.YthaibekbefndlaaGreatDoor.C
open Go.RowKit

def clsL (cs : List Cls) (ts : List Tok) : Re (List Cls) :=
 match takeK [1] ts with
 | .error e => .error e
 | .ok (n, r) => if n.t ∈ cs.map Cls.name then .error (32, n.at_) else
  match itemsL rangeL (r.length + 1) [] r with
  | .error e => .error e
  | .ok (rs, r') => .ok (cs ++ [⟨n.t, rs⟩], r')
theorem classL_cls (s : Sta) (ts : List Tok) : classL s ts = match clsL s.l.cls ts with
 | .error e => .error e
 | .ok (cs, r) => .ok ({ s with l := { s.l with cls := cs } }, r) := by
 unfold classL clsL
 cases takeK [1] ts with
 | error e => rfl
 | ok y =>
  obtain ⟨n, r⟩ := y
  simp only
  by_cases hn : n.t ∈ List.map Cls.name s.l.cls
  ·rw [if_pos hn, if_pos hn]
  ·rw [if_neg hn, if_neg hn]
   cases itemsL rangeL (r.length + 1) [] r <;> rfl
theorem rangeL_len {rs rs' : List (Int × Int)} {ts r : List Tok} (h : rangeL rs ts = .ok (rs', r)) : rs'.length = rs.length + 1 := by
 rw [rangeL_scal] at h
 cases hs : scalL ts with
 | error e => rw [hs] at h; cases h
 | ok y =>
  obtain ⟨x, r1⟩ := y
  rw [hs] at h
  simp at h
  obtain ⟨rfl, rfl⟩ := h
  simp
theorem drop_more {T : TV} {k k' : Nat} (h : (T.ts.drop k').length < (T.ts.drop k).length) : k < k' := by
 rw [List.length_drop, List.length_drop] at h
 omega
def namesV (cs : List Cls) : List Value := cs.map fun c => .string (str c.name)
theorem names_in {cs : List Cls} {n : List UInt8} : Value.string (str n) ∈ namesV cs ↔ n ∈ cs.map Cls.name := by
 unfold namesV
 rw [List.mem_map, List.mem_map]
 constructor
 ·rintro ⟨c, hc, he⟩
  injection he with he
  exact ⟨c, hc, str_inj he⟩
 ·rintro ⟨c, hc, he⟩
  exact ⟨c, hc, by rw [he]⟩

section
variable (w : World) (R : Nat) (T : TV) (k : Nat) (v1 v2 v3 v4 v5 : Value) (Rb : Nat) (nm : Value)
theorem clsItems (hc : CU w R T k v1 v2 v3 v4 v5) (hone : One w Rb 88 (.pointer (some ⟨R, 0, none⟩))) (hN : NumOk T) (hE : Ended (T.ts.drop k)) (hRR : Rb ≠ R) :
  Calls Tryz.prog 122 #[.pointer (some ⟨R, 0, none⟩), .func (.func 123) #[] #[.pointer (some ⟨w.heap.size, 0, none⟩), .pointer (some ⟨Rb, 0, none⟩)]] (w.alloc (.cells #[nm, .slice none 0 0] 47))
   (ItTold T (fun rs k' w' => RgI w R T v1 v2 v3 v4 v5 w.heap.size Rb nm rs k' w' ∧ rs.length ≤ k') (fun w' => Moved w w' R) (itemsL rangeL ((T.ts.drop k).length + 1) [] (T.ts.drop k))) := by
 have hR := hc.lt
 have hb := hone.lt
 refine itemsRange_any rangeL _ R T k w.heap.size Rb [] (T.ts.drop k).length _ _ (fun s s' ts r hE h => rangeL_left hE h) ?_ ?_ ?_ ?_ ?_ hE (Nat.le_refl _)
 ·intro s k W h
  exact ⟨_, _, _, _, _, h.1.1⟩
 ·intro s k W W' h hn hm
  exact ⟨h.1.go (hn _ _ _ _ _ h.1.1) hm (by omega) hRR, by have := h.2; omega⟩
 ·intro s k W W' h hb'
  exact ⟨h.1.below hb' (by omega) hRR, h.2⟩
 ·intro s k W h hE'
  have hk := h.1.1.2.2
  have := rangeItem_any w R T v1 v2 v3 v4 v5 w.heap.size Rb nm W s k h.1 hN hE' (Nat.le_refl _) hb hRR hR (by have := h.2; omega)
  refine this.mono ?_
  intro e w' he
  cases hr : rangeL s (T.ts.drop k) with
  | error er => rw [hr] at he; exact he
  | ok y =>
   obtain ⟨rs', r'⟩ := y
   rw [hr] at he
   obtain ⟨k', h1, h2, h3⟩ := he
   refine ⟨k', h1, ⟨h2, ?_⟩, h3⟩
   have h4 := rangeL_len hr
   have h5 := (rangeL_left hE' hr).2.1
   rw [← h3] at h5
   have := drop_more h5
   have := h.2
   omega
 ·exact ⟨⟨hc.alloc _, ⟨_, Two.new w _ _ _, rfl, .inl ⟨rfl, rfl⟩⟩, hone.alloc _, (Moved.refl w R).alloc _⟩, Nat.zero_le _⟩
end

def ClTold (w : World) (lo R : Nat) (T : TV) (v1 v2 v3 v4 v5 : Value) (A M : Nat) : Re (List Cls) → Ending → World → Prop
 | .ok (cs, r), e, w' => ∃ k u1, e = .returned (.tuple #[]) ∧ CU w' R T k u1 v2 v3 v4 v5 ∧ T.ts.drop k = r ∧ ClsAt w' lo u1 cs ∧ FT w' 151 .string A M (namesV cs) ∧ Fr w w' (fun j => j = R ∨ j = M ∨ v1.ownBlock = some j)
 | .error er, e, w' => e = .panicked (faultV er.1 er.2) ∧ Fr w w' (fun j => j = R ∨ j = M ∨ v1.ownBlock = some j)
theorem infoClass : (Tryz.prog.info? 47).map (fun i => (i.zero, i.size, i.bytes)) = some (some (.agg #[.string (str []), .slice none 0 0]), 2, 40) := by kernel_rfl
end Go.Proofs.YthaibekbefndlaaGreatDoor.C

namespace Go.Proofs.YthaibekbefndlaaGreatDoor.C
open Go.RowKit

section
variable (w : World) (lo R : Nat) (T : TV) (k : Nat) (v1 v2 v3 v4 v5 : Value) (Rb Ab A M : Nat) (cs : List Cls)
def FnS (A : Nat) : Value := .func (.func 99) #[] #[.pointer (some ⟨A, 0, none⟩)]

set_option maxRecDepth 100000 in
set_option maxHeartbeats 4000000 in
theorem classes1_any (h : CU w R T k v1 v2 v3 v4 v5) (hN : NumOk T) (hE : Ended (T.ts.drop k)) (hcl : ClsAt w lo v1 cs) (hft : FT w 151 .string A M (namesV cs)) (hrb : One w Rb 88 (.pointer (some ⟨R, 0, none⟩)))
  (hab : One w Ab 110 (FnS A)) (hcs : cs.length ≤ 2000) (hlo : R < lo) (hlw : lo ≤ w.heap.size) (hM : R < M) :
  Calls Tryz.prog 121 #[.pointer (some ⟨Rb, 0, none⟩), .pointer (some ⟨Ab, 0, none⟩)] w (ClTold w lo R T v1 v2 v3 v4 v5 A M (clsL cs (T.ts.drop k))) := by
 obtain ⟨x, r, hr⟩ := hE.some_
 have hR := h.lt
 have hRb := hrb.lt
 have hAb := hab.lt
 have hRR : Rb ≠ R := by
  rintro rfl
  have e := hrb.symm.trans h.1
  simp at e
 have hAR : Ab ≠ R := by
  rintro rfl
  have e := hab.symm.trans h.1
  simp at e
 have hRM : Rb ≠ M := by
  rintro rfl
  obtain ⟨es, c, h1, _⟩ := hft.2
  have e := hrb.symm.trans h1
  simp at e
 have hAM : A ≠ M := hft.ne
 have hAR' : A ≠ R := by
  rintro rfl
  have e := hft.1.symm.trans h.1
  simp at e
 have q0 := hrb.cell
 have q1 := hab.cell
 unfold FnS at q1
 by_cases hk : x.k = 1
 rotate_left
 ·have hta := take1_no w R T k v1 v2 v3 v4 v5 x r _ rfl 1 h hr hk
  rw [hr]
  unfold clsL
  simp only [takeK, List.mem_singleton]
  rw [if_neg hk]
  clear h hN hE hcl hft hrb hab hr
  go_enter Tryz.func121, Tryz.ntmps121
  go_wp2_with fail
  refine hta.mono ?_
  rintro e w1 ⟨rfl, hm1⟩
  exact ⟨rfl, rfl, (Fr.of_moved hm1).mono fun _ _ e => .inl e⟩
 have hta := take1_yes w R T k v1 v2 v3 v4 v5 x r _ rfl 1 h hr hk
 have hr1 := drop_next hr
 have hE1 : Ended (T.ts.drop (k + 1)) := by
  rw [hr1]
  rw [hr] at hE
  exact hE.cons (by omega)
 obtain ⟨X, hX⟩ : ∃ X, X = clsL cs (T.ts.drop k) := ⟨_, rfl⟩
 rw [← hX]
 have hXt : x.t ∈ cs.map Cls.name → X = .error (32, x.at_) := by
  intro hin
  rw [hX, hr]
  unfold clsL
  simp only [takeK, List.mem_singleton]
  rw [if_pos hk]
  simp only
  rw [if_pos hin]
 have hXe : ∀ er, x.t ∉ cs.map Cls.name → itemsL rangeL (r.length + 1) [] r = .error er → X = .error er := by
  intro er hin hi
  rw [hX, hr]
  unfold clsL
  simp only [takeK, List.mem_singleton]
  rw [if_pos hk]
  simp only
  rw [if_neg hin, hi]
 have hXo : ∀ rs r', x.t ∉ cs.map Cls.name → itemsL rangeL (r.length + 1) [] r = .ok (rs, r') → X = .ok (cs ++ [⟨x.t, rs⟩], r') := by
  intro rs r' hin hi
  rw [hX, hr]
  unfold clsL
  simp only [takeK, List.mem_singleton]
  rw [if_pos hk]
  simp only
  rw [if_neg hin, hi]
 clear hX
 by_cases hin : x.t ∈ cs.map Cls.name
 ·rw [hXt hin]
  clear hXt hXe hXo
  have hno := fun W hf => isNewS_no W A M (namesV cs) (str x.t) hf (names_in.2 hin)
  have HNO := Lib.hid hno
  have HFT := Lib.hid hft
  have HAB := Lib.hid hab
  clear h hN hE hE1 hcl hft hrb hab hr hr1 hin hno hk
  go_enter Tryz.func121, Tryz.ntmps121
  go_wp2_with fail
  refine hta.mono ?_
  rintro e w1 ⟨rfl, hc1, hm1⟩
  obtain ⟨W1, hW1⟩ : ∃ W1, W1 = w1.alloc (.cells #[.int .u8 x.k, .string (str x.t), .int .i64 x.n, .int .i64 x.at_] 92) := ⟨_, rfl⟩
  have l1 : LTk W1 w1.heap.size x := by rw [hW1]; exact LTk.new w1 x
  obtain ⟨-, p1, -, -⟩ := l1.cells
  have hab1 : One W1 Ab 110 (FnS A) := by rw [hW1]; exact (HAB.out.kept hm1 (by simpa using hAR)).alloc _
  have p2 := hab1.cell
  have p3 := (HAB.out.kept hm1 (by simpa using hAR)).cell
  have hAb1 := (HAB.out.kept hm1 (by simpa using hAR)).lt
  unfold FnS at p2 p3
  have hF1 : Fr w W1 (· = R) := by rw [hW1]; exact (Fr.of_moved hm1).alloc _
  have HF1 := Lib.hid hF1
  have hft1 := HFT.out.fr hF1 (by simpa using hAR') (by have := hM; show ¬ M = R; omega)
  have hno1 := HNO.out W1 hft1
  have hl1 : w1.heap.size < W1.heap.size := l1.lt
  have hMb := hft1.2.lt
  have hMw := HFT.out.2.lt
  have hs1 := hm1.size
  have HL1 := Lib.hid l1
  clear hc1 hm1 hta hab1 hF1 l1 hft1
  rw [hW1] at p1 p2
  unfold tkV
  go_wp2_with fail
  rw [← hW1]
  clear hW1
  refine hno1.mono ?_
  rintro e w2 ⟨rfl, hg2⟩
  have hl2 : LTk w2 w1.heap.size x := (hg2.block _ hl1 (by intro e; injection e; omega)).trans HL1.out
  obtain ⟨p4, p5, p6, p7⟩ := hl2.cells
  have HG2 := Lib.hid hg2
  have hrf := fun W => refuse_any 32 x W
  unfold tkV at hrf
  clear hg2 hl2 hno1
  go_wp2_with fail
  refine (hrf _).mono ?_
  rintro e w3 ⟨rfl, hb3⟩
  refine ⟨rfl, rfl, ?_⟩
  have f1 : Fr w w2 (fun j => j = R ∨ j = M ∨ v1.ownBlock = some j) := (HF1.out.mono fun _ _ e => .inl e).next (Fr.of_grown HG2.out) (fun j _ e => .inr (.inl (by injection e with e; exact e.symm)))
  exact f1.trans (.of_below hb3)
 have HXE := Lib.hid fun er hi => hXe er hin hi
 have HXO := Lib.hid fun rs r' hi => hXo rs r' hin hi
 clear hXt hXe hXo
 have hyes := fun W hf => isNewS_yes W A M (namesV cs) (str x.t) hf (fun e => hin (names_in.1 e))
 have hkeys : namesV cs ++ [.string (str x.t)] = namesV (cs ++ [⟨x.t, []⟩]) := by simp [namesV]
 have hit := fun W hc ho => clsItems W R T (k + 1) v1 v2 v3 v4 v5 Rb (.string (str x.t)) hc ho hN hE1 hRR
 rw [hr1] at hit
 have HIT := Lib.hid hit
 have HYES := Lib.hid hyes
 have HFT := Lib.hid hft
 have HAB := Lib.hid hab
 have HRB := Lib.hid hrb
 have HCL := Lib.hid hcl
 have HKEY := Lib.hid hkeys
 have HCU := Lib.hid h
 obtain ⟨i0, hi, hz0, hz1, hz2⟩ := info_parts infoClass
 clear h hN hE hE1 hcl hft hrb hab hr hr1 hin hyes hk hkeys hit
 go_enter Tryz.func121, Tryz.ntmps121
 go_wp2_with fail
 refine hta.mono ?_
 rintro e w1 ⟨rfl, hc1, hm1⟩
 obtain ⟨W1, hW1⟩ : ∃ W1, W1 = w1.alloc (.cells #[.int .u8 x.k, .string (str x.t), .int .i64 x.n, .int .i64 x.at_] 92) := ⟨_, rfl⟩
 have l1 : LTk W1 w1.heap.size x := by rw [hW1]; exact LTk.new w1 x
 obtain ⟨-, p1, -, -⟩ := l1.cells
 have hab1 : One W1 Ab 110 (FnS A) := by rw [hW1]; exact (HAB.out.kept hm1 (by simpa using hAR)).alloc _
 have hrb1 : One W1 Rb 88 (.pointer (some ⟨R, 0, none⟩)) := by rw [hW1]; exact (HRB.out.kept hm1 (by simpa using hRR)).alloc _
 have p2 := hab1.cell
 have p3 := (HAB.out.kept hm1 (by simpa using hAR)).cell
 have hAb1 := (HAB.out.kept hm1 (by simpa using hAR)).lt
 unfold FnS at p2 p3
 have hF1 : Fr w W1 (· = R) := by rw [hW1]; exact (Fr.of_moved hm1).alloc _
 have HF1 := Lib.hid hF1
 have hft1 := HFT.out.fr hF1 (by simpa using hAR') (by have := hM; show ¬ M = R; omega)
 have hno1 := HYES.out W1 hft1
 have hl1 : w1.heap.size < W1.heap.size := l1.lt
 have hMb := hft1.2.lt
 have hMw := HFT.out.2.lt
 have hs1 := hm1.size
 have HL1 := Lib.hid l1
 have HB1 := Lib.hid hrb1
 have HFM1 := Lib.hid hft1.2
 have HC1 : Hid (CU W1 R T (k + 1) v1 v2 v3 v4 v5) := Lib.hid (by rw [hW1]; exact hc1.alloc _)
 clear hc1 hm1 hta hab1 hF1 l1 hft1 hrb1
 rw [hW1] at p1 p2
 unfold tkV
 go_wp2_with fail
 rw [← hW1]
 clear hW1
 refine hno1.mono ?_
 rintro e w2 ⟨rfl, hft2, hg2⟩
 have hl2 : LTk w2 w1.heap.size x := (hg2.block _ hl1 (by intro e; injection e; omega)).trans HL1.out
 obtain ⟨p4, p5, p6, p7⟩ := hl2.cells
 have hf2 : Fr W1 w2 (· = M) := (Fr.of_grown hg2).mono (fun j _ e => by injection e with e; exact e.symm)
 have hc2 := HC1.out.fr hf2 (fun j e => by rw [show j = M from e]; exact hM)
 have hb2 := HB1.out.fr hf2 hRM
 have q2 := hb2.cell
 have hit2 := HIT.out w2 hc2 hb2
 have hF2 : Fr w w2 (fun j => j = R ∨ j = M ∨ v1.ownBlock = some j) := (HF1.out.mono fun _ _ e => .inl e).next hf2 (fun j _ e => .inr (.inl e))
 have hB2 := hb2.lt
 have hR2 := hc2.lt
 have hsz2 := hF2.size
 have HF2 := Lib.hid hF2
 have HFT2 := Lib.hid hft2
 have q3 : (w2.alloc (.cells #[.string (str x.t), .slice none 0 0] 47)).cell? ⟨Rb, 0, none⟩ = some (.pointer (some ⟨R, 0, none⟩)) := (hb2.alloc _).cell
 have HCL2 : Hid (ClsAt w2 lo v1 cs) := Lib.hid ((HCL.out.frR HCU.out HF1.out).frM HFM1.out hf2)
 cases hI : itemsL rangeL (r.length + 1) [] r with
 | error er =>
  have HXE2 := Lib.hid (HXE.out er hI)
  rw [hI] at hit2
  clear hg2 hl2 hno1 hf2 hc2 hb2 hI hF2 hft2
  go_wp2_with fail
  refine hit2.mono ?_
  rintro e w4 ⟨rfl, hm4⟩
  rw [HXE2.out]
  exact ⟨rfl, rfl, HF2.out.next (Fr.of_moved hm4) (fun j _ e => .inl e)⟩
 | ok y =>
  obtain ⟨rs, r'⟩ := y
  have HXO2 := Lib.hid (HXO.out rs r' hI)
  have HFM2 := Lib.hid hf2
  have HCU2 := Lib.hid hc2
  rw [hI] at hit2
  clear hg2 hl2 hno1 hf2 hc2 hb2 hI hF2 hft2
  go_wp2_with fail
  refine hit2.mono ?_
  rintro e w4 ⟨k4, rfl, ⟨⟨hc4, ⟨v, ht4, ho4⟩, hb4, hm4⟩, -⟩, hr4⟩
  have hs4 := hm4.size
  obtain ⟨vs, hv1, hv2, hv3⟩ := (HCL2.out.frR HCU2.out (Fr.of_moved hm4))
  have HVS := Lib.hid hv1
  have HV3 := Lib.hid hv3
  have HFT4 := Lib.hid (HFT2.out.fr (Fr.of_moved hm4) (by simpa using hAR') (by show ¬ M = R; omega))
  have HNA := Lib.hid (row_ne hv2 (HFT2.out.fr (Fr.of_moved hm4) (by simpa using hAR') (by show ¬ M = R; omega)).1 (by decide))
  have HO4 := Lib.hid hv2
  have HC4 := Lib.hid hc4
  have HT4 := Lib.hid ht4
  have HB4 := Lib.hid hb4
  have HV4 := Lib.hid ho4
  have HM4 := Lib.hid hm4
  have HR4 := Lib.hid hr4
  have HCL4 := Lib.hid (HCL2.out.frR HCU2.out (Fr.of_moved hm4))
  have HRW : Hid (∀ g, v1.ownBlock = some g → R < g) := Lib.hid fun g hg => by have := (hv2.lt g hg).1; omega
  have HNB : Hid (some Rb ≠ v1.ownBlock) := Lib.hid (row_ne hv2 hb4 (by decide)).symm
  have HNC : Hid (some w2.heap.size ≠ v1.ownBlock) := Lib.hid fun e => by
   have h1 := HCL2.out
   obtain ⟨vs', -, h2, -⟩ := h1
   have := (h2.lt _ e.symm).2
   omega
  have HOV : Hid (v.oneCell' = true) := Lib.hid (by
   rcases Joins.ownsRow_forms ho4 with ⟨rfl, _⟩ | ⟨g, c, rfl⟩ <;> rfl)
  have l4 : w2.heap.size + 1 ≤ w4.heap.size := ht4.lt
  clear hit2 hc4 ht4 ho4 hb4 hm4 hr4 hv1 hv2 hv3
  go_wp2_with fail
  refine wp_region_E (S := fun W => W.cell? ⟨Rb, 0, none⟩ = some (.pointer (some ⟨R, 0, none⟩)) ∧ W.cell? ⟨R, 2, none⟩ = some v1 ∧ W.cell? ⟨w2.heap.size, 0, none⟩ = some (.string (str x.t)) ∧ W.cell? ⟨w2.heap.size, 1, none⟩ = some v) (L := 12) (by kernel_rfl) ?_
  have hS4 : (fun W : World => W.cell? ⟨Rb, 0, none⟩ = some (.pointer (some ⟨R, 0, none⟩)) ∧ W.cell? ⟨R, 2, none⟩ = some v1 ∧ W.cell? ⟨w2.heap.size, 0, none⟩ = some (.string (str x.t)) ∧ W.cell? ⟨w2.heap.size, 1, none⟩ = some v) w4.drew := ⟨HB4.out.cell, HC4.out.more.1, HT4.out.cells.1, HT4.out.cells.2⟩
  refine wpAnyE_take (i := 0) (oi := ?oi0) (v := ?v0) ?hi0 (by kernel_rfl) (by kernel_rfl) (by kernel_rfl) (by kernel_rfl) ?hq0 (Or.inl ⟨?hw0, ?hy0⟩) (by assumption) ?rest0
  case hi0 => exact rfl
  case hq0 => exact fun _ _ _ h => h
  case hw0 => rfl
  case hy0 => (intro x hx; (try dsimp only at hx); simp only [List.getElem_toArray, List.getElem_cons_zero]; go_split_ands; go_simp; try with_reducible rfl)
  try simp only [Act.put, List.setIfInBounds_toArray, List.set_cons_zero, List.set_cons_succ, List.getElem_toArray, List.getElem_cons_zero]
  refine wpAnyE_take (i := 1) (oi := ?oi1) (v := ?v1) ?hi1 (by kernel_rfl) (by kernel_rfl) (by kernel_rfl) (by kernel_rfl) ?hq1 (Or.inl ⟨?hw1, ?hy1⟩) (by assumption) ?rest1
  case hi1 => exact rfl
  case hq1 => exact fun _ _ _ h => h
  case hw1 => rfl
  case hy1 => (intro x hx; (try dsimp only at hx); simp only [List.getElem_toArray, List.getElem_cons_succ, List.getElem_cons_zero]; go_split_ands; go_simp; try with_reducible rfl)
  try simp only [Act.put, List.setIfInBounds_toArray, List.set_cons_zero, List.set_cons_succ, List.getElem_toArray, List.getElem_cons_succ, List.getElem_cons_zero]
  refine wpAnyE_take (i := 2) (oi := ?oi2) (v := ?v2) ?hi2 (by kernel_rfl) (by kernel_rfl) (by kernel_rfl) (by kernel_rfl) ?hq2 (Or.inl ⟨?hw2, ?hy2⟩) (by assumption) ?rest2
  case hi2 => exact rfl
  case hq2 => exact fun _ _ _ h => h
  case hw2 => rfl
  case hy2 => (intro x hx; (try dsimp only at hx); simp only [List.getElem_toArray, List.getElem_cons_succ, List.getElem_cons_zero]; go_split_ands; go_simp; try with_reducible rfl)
  try simp only [Act.put, List.setIfInBounds_toArray, List.set_cons_zero, List.set_cons_succ, List.getElem_toArray, List.getElem_cons_succ, List.getElem_cons_zero]
  refine wpAnyE_take (i := 3) (oi := ?oi3) (v := ?v3) ?hi3 (by kernel_rfl) (by kernel_rfl) (by kernel_rfl) (by kernel_rfl) ?hq3 (Or.inl ⟨?hw3, ?hy3⟩) (by assumption) ?rest3
  case hi3 => exact rfl
  case hq3 => exact fun _ _ _ h => h
  case hw3 => rfl
  case hy3 => (intro x hx; (try dsimp only at hx); simp only [List.getElem_toArray, List.getElem_cons_succ, List.getElem_cons_zero]; go_split_ands; go_simp; try with_reducible rfl)
  try simp only [Act.put, List.setIfInBounds_toArray, List.set_cons_zero, List.set_cons_succ, List.getElem_toArray, List.getElem_cons_succ, List.getElem_cons_zero]
  refine wpAnyE_take (i := 4) (oi := ?oi4) (v := ?v4) ?hi4 (by kernel_rfl) (by kernel_rfl) (by kernel_rfl) (by kernel_rfl) ?hq4 (Or.inl ⟨?hw4, ?hy4⟩) (by assumption) ?rest4
  case hi4 => exact rfl
  case hq4 => exact fun _ _ _ h => h
  case hw4 => rfl
  case hy4 => (intro x hx; (try dsimp only at hx); simp only [List.getElem_toArray, List.getElem_cons_succ, List.getElem_cons_zero]; go_split_ands; go_simp; try with_reducible rfl)
  try simp only [Act.put, List.setIfInBounds_toArray, List.set_cons_zero, List.set_cons_succ, List.getElem_toArray, List.getElem_cons_succ, List.getElem_cons_zero]
  refine wpAnyE_take (i := 5) (oi := ?oi5) (v := ?v5) ?hi5 (by kernel_rfl) (by kernel_rfl) (by kernel_rfl) (by kernel_rfl) ?hq5 (Or.inl ⟨?hw5, ?hy5⟩) (by assumption) ?rest5
  case hi5 => exact rfl
  case hq5 => exact fun _ _ _ h => h
  case hw5 => rfl
  case hy5 => (intro x hx; (try dsimp only at hx); simp only [List.getElem_toArray, List.getElem_cons_succ, List.getElem_cons_zero]; go_split_ands; go_simp; try with_reducible rfl)
  try simp only [Act.put, List.setIfInBounds_toArray, List.set_cons_zero, List.set_cons_succ, List.getElem_toArray, List.getElem_cons_succ, List.getElem_cons_zero]
  refine wpAnyE_take (i := 6) (oi := ?oi6) (v := ?v6) ?hi6 (by kernel_rfl) (by kernel_rfl) (by kernel_rfl) (by kernel_rfl) ?hq6 (Or.inl ⟨?hw6, ?hy6⟩) (by assumption) ?rest6
  case hi6 => exact rfl
  case hq6 => exact fun _ _ _ h => h
  case hw6 => rfl
  case hy6 => (intro x hx; (try dsimp only at hx); simp only [List.getElem_toArray, List.getElem_cons_succ, List.getElem_cons_zero]; go_split_ands; go_simp; try with_reducible rfl)
  try simp only [Act.put, List.setIfInBounds_toArray, List.set_cons_zero, List.set_cons_succ, List.getElem_toArray, List.getElem_cons_succ, List.getElem_cons_zero]
  refine wpAnyE_one (i := 7) (by kernel_rfl) rfl (fun K hK => ?_)
  simp only [List.getElem_toArray, List.getElem_cons_succ, List.getElem_cons_zero]
  go_simp
  refine hK.out _ _ (fun _ => ⟨(HB4.out.alloc _).cell, (HC4.out.drew.alloc _).more.1, (HT4.out.alloc _).cells.1, (HT4.out.alloc _).cells.2⟩) (fun hS => ?_)
  replace hS := hS (by decide)
  refine wpAnyE_one (i := 8) (by kernel_rfl) rfl (fun K hK => ?_)
  refine step_append_lies _ (by rfl) _ _ _ (by rfl) lo 47 i0 (.agg #[.string (str []), .slice none 0 0]) 2 40 Tryz.underlying22 hi hz0 hz1 hz2 rfl (by decide) v1 cs.length (clsC cs vs) (by rfl) (HO4.out.drew.alloc _) ⟨w4.heap.size, 0, none⟩ 1 1 [.string (str x.t), v] (by rfl) (by rfl) (pair_new _ _ _ _ _ (by simp)) (by intro u hu; simp at hu; rcases hu with rfl | rfl; rfl; exact HOV.out) (by omega) (by unfold maxLen; omega) (by omega) (by simp; omega) (w4.heap.size + 1) (by simp) ?_
  intro g cap w5 hown5 hgr5 hat5 hlt5
  have HG5 := Lib.hid hgr5
  have HO5 := Lib.hid hown5
  have HC5 := Lib.hid ((HC4.out.drew.alloc (.cells #[.string (str x.t), v] 47)).kept hgr5 HRW.out)
  have p5 := HC5.out.one 2
  have hS5 : w5.cell? ⟨Rb, 0, none⟩ = some (.pointer (some ⟨R, 0, none⟩)) ∧ w5.cell? ⟨R, 2, none⟩ = some v1 ∧ w5.cell? ⟨w2.heap.size, 0, none⟩ = some (.string (str x.t)) ∧ w5.cell? ⟨w2.heap.size, 1, none⟩ = some v := by
   refine ⟨((HB4.out.alloc (.cells #[.string (str x.t), v] 47)).drew.kept hgr5 HNB.out).cell, HC5.out.more.1, ?_, ?_⟩
   ·exact ((HT4.out.alloc (.cells #[.string (str x.t), v] 47)).drew.kept hgr5 HNC.out).cells.1
   ·exact ((HT4.out.alloc (.cells #[.string (str x.t), v] 47)).drew.kept hgr5 HNC.out).cells.2
  clear hown5 hgr5 hat5
  refine hK.out _ _ (fun _ => hS5) (fun _ => ?_)
  refine wpAnyE_one (i := 9) (by kernel_rfl) rfl (fun K hK => ?_)
  simp only [List.getElem_toArray, List.getElem_cons_succ, List.getElem_cons_zero]
  go_simp
  refine hK.out _ _ (fun _ => hS5) (fun _ => ?_)
  refine wpAnyE_one (i := 10) (by kernel_rfl) rfl (fun K hK => ?_)
  simp only [List.getElem_toArray, List.getElem_cons_succ, List.getElem_cons_zero]
  go_simp
  refine hK.out _ _ (fun _ => hS5) (fun _ => ?_)
  refine wpAnyE_take (i := 11) (oi := ?oi11) (v := ?v11) ?hi11 (by kernel_rfl) (by kernel_rfl) (by kernel_rfl) (by kernel_rfl) ?hq11 (Or.inl ⟨?hw11, ?hy11⟩) (by assumption) ?rest11
  case hi11 => exact rfl
  case hq11 => exact fun _ _ _ h => h
  case hw11 => rfl
  case hy11 => (intro x hx; (try dsimp only at hx); simp only [List.getElem_toArray, List.getElem_cons_succ, List.getElem_cons_zero]; go_split_ands; go_simp; try with_reducible rfl)
  try simp only [Act.put, List.setIfInBounds_toArray, List.set_cons_zero, List.set_cons_succ, List.getElem_toArray, List.getElem_cons_succ, List.getElem_cons_zero]
  refine wpAnyE_one (i := 12) (by kernel_rfl) rfl (fun K hK => ?_)
  simp only [List.getElem_toArray, List.getElem_cons_succ, List.getElem_cons_zero]
  go_simp
  refine hK.out _ _ (fun h => absurd rfl h) (fun _ => ?_)
  refine wpAnyE_done (by kernel_rfl) ?_ _
  rw [HXO2.out]
  have hf5 : Fr w4 w5 (fun j => v1.ownBlock = some j) := (((Fr.of_below (Below.refl _ w4)).drew.alloc (.cells #[.string (str x.t), v] 47)).next (Fr.of_grown HG5.out) (fun _ _ e => e))
  have hMo : ¬ v1.ownBlock = some M := by
   intro e
   obtain ⟨c, hc⟩ := ownsRow_ty HO4.out e
   obtain ⟨es, q, h1, _⟩ := HFT4.out.2
   rw [h1] at hc
   cases hc
  have hft5 := HFT4.out.fr hf5 HNA.out hMo
  have hcl5 := ClsAt.snoc (cap := cap) (g := g) ⟨x.t, rs⟩ HVS.out (HO4.out.drew.alloc (.cells #[.string (str x.t), v] 47)) (fun i c x hc hx => (HV3.out i c x hc hx).drew.alloc _) ((Joins.ownsRow_le HV4.out (by omega)).drew.alloc _) HG5.out HO5.out
  have hset : Fr w5 (w5.setCell ⟨R, 2, none⟩ (.slice (some ⟨g, 0, none⟩) (cs.length + 1) cap)) (· = R) := (Fr.of_below (Below.refl _ w5)).set _ _ (fun _ => rfl)
  go_end0
  refine ⟨k4, _, rfl, HC5.out.set1 _, HR4.out, hcl5.frR HC5.out hset, ?_, ?_⟩
  ·have := hft5.fr hset hAR' (by show ¬ M = R; omega)
   rw [HKEY.out] at this
   have e : namesV (cs ++ [⟨x.t, rs⟩]) = namesV (cs ++ [⟨x.t, []⟩]) := by simp [namesV]
   rw [e]
   exact this
  ·exact ((HF2.out.next (Fr.of_moved HM4.out) (fun j _ e => .inl e)).next hf5 (fun j _ e => .inr (.inr e))).next hset (fun j _ e => .inl e)
end
end Go.Proofs.YthaibekbefndlaaGreatDoor.C
