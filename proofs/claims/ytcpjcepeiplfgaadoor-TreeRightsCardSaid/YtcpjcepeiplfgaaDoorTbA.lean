/-
  Maps as lists of keys and values. No condition.
-/
import Derived.Test.YtcpjcepeiplfgaaDoorTaW
import Derived.MapKept
import Derived.Laws.NewBlocks
import Derived.WideMake
import Derived.Laws.NewDeep
namespace Go.Proofs.YtcpjcepeiplfgaaDoor.C
open Go.RowKit

/-- the world with another object at a block that it has -/
def putObj (w : World) (b : Nat) (o : Obj) : World := { w with heap := w.heap.setIfInBounds b o }
theorem putObj_size (w : World) (b : Nat) (o : Obj) : (putObj w b o).heap.size = w.heap.size := by simp [putObj]
theorem putObj_at {w : World} {b : Nat} (o : Obj) (hb : b < w.heap.size) : (putObj w b o).heap[b]? = some o := by simp [putObj, hb]
theorem putObj_else (w : World) {b j : Nat} (o : Obj) (h : j ≠ b) : (putObj w b o).heap[j]? = w.heap[j]? := by
  simp only [putObj]
  rw [Array.getElem?_setIfInBounds_ne (Ne.symm h)]
theorem putObj_below {B : Nat} {a w : World} (h : Below B a w) {b : Nat} (hb : B ≤ b) (o : Obj) : Below B a (putObj w b o) :=
  h.trans ⟨rfl, rfl, rfl, by rw [putObj_size]; exact Nat.le_refl _, fun k hk => putObj_else w o (by omega)⟩

section
variable {P : Program}
theorem run_insert (t k e : TypeId) (kd : TypeDesc) (ht : P.underlying t = some (.map k e)) (hk : P.underlying k = some kd) (w : World) (b : Nat) (es : Array MapEntry) (clock : Nat) (key val : Value)
    (hb : w.heap[b]? = some (.map es clock)) (hkey : MapKept.IsKey kd key) (hf : Instr.findNow kd key es.toList 0 = some none) :
    (Instr.mapUpdate t (.map (some b)) key val).run P w = .ok () (putObj w b (.map (es.push { key := key, val := val, born := clock }) (clock + 1))) := by
  have hc : (Instr.checkKey false 10000 k key).run P w = .ok () w := MapKept.run_checkKey hk hkey false 9999
  simp [Instr.mapUpdate, run_underlying ht, MapKept.run_getObj_map hb, hc, MapKept.run_findKey hk hf, MapKept.run_setObj_map _ hb, Result.andThen, putObj]
theorem run_look_yes (t k e : TypeId) (kd : TypeDesc) (ht : P.underlying t = some (.map k e)) (hk : P.underlying k = some kd) (w : World) (b : Nat) (es : Array MapEntry) (clock : Nat) (key val : Value) (i : Nat)
    (hb : w.heap[b]? = some (.map es clock)) (hkey : MapKept.IsKey kd key) (hf : Instr.findNow kd key es.toList 0 = some (some (i, val))) (c : Bool) :
    (Instr.lookup t (.map (some b)) key c).run P w = .ok (if c then .tuple #[val, .bool true] else val) w := by
  have hc : (Instr.checkKey es.isEmpty 10000 k key).run P w = .ok () w := MapKept.run_checkKey hk hkey _ 9999
  simp [Instr.lookup, run_underlying ht, MapKept.run_getObj_map hb, hc, MapKept.run_findKey hk hf, Result.andThen]
theorem run_look_no (t k e : TypeId) (kd : TypeDesc) (ht : P.underlying t = some (.map k e)) (hk : P.underlying k = some kd) (w : World) (b : Nat) (es : Array MapEntry) (clock : Nat) (key z : Value)
    (hz : (zeroValue e).run P w = .ok z w) (hb : w.heap[b]? = some (.map es clock)) (hkey : MapKept.IsKey kd key) (hf : Instr.findNow kd key es.toList 0 = some none) (c : Bool) :
    (Instr.lookup t (.map (some b)) key c).run P w = .ok (if c then .tuple #[z, .bool false] else z) w := by
  have hc : (Instr.checkKey es.isEmpty 10000 k key).run P w = .ok () w := MapKept.run_checkKey hk hkey _ 9999
  simp [Instr.lookup, run_underlying ht, MapKept.run_getObj_map hb, hc, MapKept.run_findKey hk hf, hz, Result.andThen]
end

/-- block M is a map of these keys and values, in the order in which they came -/
def MapIs (w : World) (M : Nat) (kd : TypeDesc) (l : List (Value × Value)) : Prop :=
  ∃ es clock, w.heap[M]? = some (.map es clock) ∧ es.toList.map (fun e => (e.key, e.val)) = l ∧ (∀ x ∈ l, MapKept.IsKey kd x.1) ∧ (l.map Prod.fst).Nodup
section
variable {P : Program} {w : World} {M : Nat} {kd : TypeDesc} {l : List (Value × Value)} {t k e : TypeId} {key v : Value}
theorem MapIs.lt (h : MapIs w M kd l) : M < w.heap.size := by obtain ⟨es, c, h1, _⟩ := h; exact (Array.getElem?_eq_some_iff.1 h1).1
theorem MapIs.at_ {w' : World} (h : MapIs w M kd l) (hb : w'.heap[M]? = w.heap[M]?) : MapIs w' M kd l := by
  obtain ⟨es, c, h1, h2⟩ := h
  exact ⟨es, c, hb.trans h1, h2⟩
theorem MapIs.drewN (h : MapIs w M kd l) (n : Nat) : MapIs (w.drewN n) M kd l := h
theorem MapIs.new (w : World) (kd : TypeDesc) : MapIs (w.alloc (.map #[] 0)) w.heap.size kd [] := ⟨#[], 0, heap_alloc_new w _, rfl, by simp, by simp⟩
theorem MapIs.look_yes (h : MapIs w M kd l) (ht : P.underlying t = some (.map k e)) (hk : P.underlying k = some kd) (hkey : MapKept.IsKey kd key) (hm : (key, v) ∈ l) (c : Bool) :
    (Instr.lookup t (.map (some M)) key c).run P w = .ok (if c then .tuple #[v, .bool true] else v) w := by
  obtain ⟨es, clock, h1, h2, h3, h4⟩ := h
  have hks : ∀ x ∈ es.toList, MapKept.IsKey kd x.key := fun x hx => h3 (x.key, x.val) (by rw [← h2]; exact List.mem_map_of_mem hx)
  rcases MapKept.findNow_spec hkey es.toList 0 hks with ⟨_, hn⟩ | ⟨j, x, hf, hj, hx⟩
  · rw [← h2, List.mem_map] at hm
    obtain ⟨x, hx, hxe⟩ := hm
    exact absurd (congrArg Prod.fst hxe) (hn x hx)
  · have hv : x.val = v := by
      have hin : (x.key, x.val) ∈ l := by rw [← h2]; exact List.mem_map_of_mem (List.mem_of_getElem? hj)
      rw [hx] at hin
      have key_inj : ∀ (l : List (Value × Value)), (l.map Prod.fst).Nodup → (key, x.val) ∈ l → (key, v) ∈ l → x.val = v := by
        intro l
        induction l with
        | nil => intro _ h; cases h
        | cons a r ih =>
          intro hn ha hb
          rw [List.map_cons, List.nodup_cons] at hn
          rcases List.mem_cons.1 ha with ha | ha <;> rcases List.mem_cons.1 hb with hb | hb
          · rw [← ha] at hb; exact (congrArg Prod.snd hb).symm
          · exact absurd (by rw [← ha]; exact List.mem_map.2 ⟨_, hb, rfl⟩) hn.1
          · exact absurd (by rw [← hb]; exact List.mem_map.2 ⟨_, ha, rfl⟩) hn.1
          · exact ih hn.2 ha hb
      exact key_inj l h4 hin hm
    rw [← hv]
    exact run_look_yes t k e kd ht hk w M es clock key x.val _ h1 hkey hf c
theorem MapIs.look_no (h : MapIs w M kd l) (ht : P.underlying t = some (.map k e)) (hk : P.underlying k = some kd) (hkey : MapKept.IsKey kd key) (hm : key ∉ l.map Prod.fst) {z : Value} (hz : (zeroValue e).run P w = .ok z w) (c : Bool) :
    (Instr.lookup t (.map (some M)) key c).run P w = .ok (if c then .tuple #[z, .bool false] else z) w := by
  obtain ⟨es, clock, h1, h2, h3, h4⟩ := h
  have hks : ∀ x ∈ es.toList, MapKept.IsKey kd x.key := fun x hx => h3 (x.key, x.val) (by rw [← h2]; exact List.mem_map_of_mem hx)
  rcases MapKept.findNow_spec hkey es.toList 0 hks with ⟨hf, _⟩ | ⟨j, x, hf, hj, hx⟩
  · exact run_look_no t k e kd ht hk w M es clock key z hz h1 hkey hf c
  · exfalso
    apply hm
    rw [← h2, List.map_map, List.mem_map]
    exact ⟨x, List.mem_of_getElem? hj, hx⟩
theorem MapIs.put_new (h : MapIs w M kd l) (ht : P.underlying t = some (.map k e)) (hk : P.underlying k = some kd) (hkey : MapKept.IsKey kd key) (hm : key ∉ l.map Prod.fst) (val : Value) :
    ∃ o, (Instr.mapUpdate t (.map (some M)) key val).run P w = .ok () (putObj w M o) ∧ MapIs (putObj w M o) M kd (l ++ [(key, val)]) := by
  have hlt := h.lt
  obtain ⟨es, clock, h1, h2, h3, h4⟩ := h
  have hks : ∀ x ∈ es.toList, MapKept.IsKey kd x.key := fun x hx => h3 (x.key, x.val) (by rw [← h2]; exact List.mem_map_of_mem hx)
  rcases MapKept.findNow_spec hkey es.toList 0 hks with ⟨hf, _⟩ | ⟨j, x, hf, hj, hx⟩
  · refine ⟨_, run_insert t k e kd ht hk w M es clock key val h1 hkey hf, _, _, putObj_at _ hlt, ?_, ?_, ?_⟩
    · rw [Array.toList_push, List.map_append, h2]; rfl
    · intro x hx
      rcases List.mem_append.1 hx with hx | hx
      · exact h3 x hx
      · rw [List.mem_singleton] at hx; subst hx; exact hkey
    · rw [List.map_append, List.nodup_append]
      refine ⟨h4, by simp, ?_⟩
      intro a ha b hb
      simp only [List.map_cons, List.map_nil, List.mem_singleton] at hb
      subst hb
      rintro rfl
      exact hm ha
  · exfalso
    apply hm
    rw [← h2, List.map_map, List.mem_map]
    exact ⟨x, List.mem_of_getElem? hj, hx⟩
theorem MapIs.put_old (h : MapIs w M kd l) (ht : P.underlying t = some (.map k e)) (hk : P.underlying k = some kd) (hkey : MapKept.IsKey kd key) (hm : key ∈ l.map Prod.fst) (val : Value) :
    ∃ o, (Instr.mapUpdate t (.map (some M)) key val).run P w = .ok () (putObj w M o) := by
  obtain ⟨es, clock, h1, h2, h3, h4⟩ := h
  have hks : ∀ x ∈ es.toList, MapKept.IsKey kd x.key := fun x hx => h3 (x.key, x.val) (by rw [← h2]; exact List.mem_map_of_mem hx)
  rcases MapKept.findNow_spec hkey es.toList 0 hks with ⟨_, hn⟩ | ⟨j, x, hf, hj, hx⟩
  · exfalso
    rw [← h2, List.map_map, List.mem_map] at hm
    obtain ⟨x, hx, hxe⟩ := hm
    exact hn x hx hxe
  · have hj' : es[j]? = some x := by simpa using hj
    have hc : (Instr.checkKey false 10000 k key).run P w = .ok () w := MapKept.run_checkKey hk hkey false 9999
    exact ⟨_, by simp [Instr.mapUpdate, run_underlying ht, MapKept.run_getObj_map h1, hc, MapKept.run_findKey hk hf, hj', hx, MapKept.run_keyThatStays hkey, MapKept.run_setObj_map _ h1, Result.andThen, putObj]; rfl⟩
end
/-- only block M has turned -/
theorem putObj_only {w : World} {M : Nat} (o : Obj) : w.grownBy (putObj w M o) (some M) := ⟨rfl, rfl, rfl, by rw [putObj_size]; exact Nat.le_refl _, fun i _ hne => putObj_else w o (fun e => hne (by rw [e]))⟩
theorem map_keys (keys : List Value) : (keys.map fun k => (k, Value.bool true)).map Prod.fst = keys := by induction keys <;> simp_all
end Go.Proofs.YtcpjcepeiplfgaaDoor.C
