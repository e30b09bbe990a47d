/-
  Maps of constant keys that a call makes, and what codec.encodings hands back: a map of three structs of functions, two of them closures over what unmarked was given; nothing that was there changes. No condition.
-/
import Derived.Test.YtijlecfjgcohhaaDoorUtfM
import Derived.WideMake
import Derived.Laws.NewBlocks
import Derived.Laws.NewDeep
namespace Go.Proofs.YtijlecfjgcohhaaDoor.C
open Go.RowKit

/-- the world with another object at a block that it has -/
def putObj (w : World) (b : Nat) (o : Obj) : World := { w with heap := w.heap.setIfInBounds b o }
theorem putObj_size (w : World) (b : Nat) (o : Obj) : (putObj w b o).heap.size = w.heap.size := by simp [putObj]
theorem putObj_at {w : World} {b : Nat} (o : Obj) (hb : b < w.heap.size) : (putObj w b o).heap[b]? = some o := by simp [putObj, hb]
theorem putObj_else (w : World) {b j : Nat} (o : Obj) (h : j ≠ b) : (putObj w b o).heap[j]? = w.heap[j]? := by
  simp only [putObj]
  rw [Array.getElem?_setIfInBounds_ne (Ne.symm h)]
theorem putObj_below {B : Nat} {a w : World} (h : Below B a w) {b : Nat} (hb : B ≤ b) (o : Obj) : Below B a (putObj w b o) :=
  h.trans ⟨rfl, rfl, rfl, by rw [putObj_size]; exact Nat.le_refl _, fun k hk => putObj_else w o (by omega)⟩

section
variable {P : Program}
theorem run_insert (t k e : TypeId) (kd : TypeDesc) (ht : P.underlying t = some (.map k e)) (hk : P.underlying k = some kd) (w : World) (b : Nat) (es : Array MapEntry) (clock : Nat) (key val : Value)
    (hb : w.heap[b]? = some (.map es clock)) (hkey : MapKept.IsKey kd key) (hf : Instr.findNow kd key es.toList 0 = some none) :
    (Instr.mapUpdate t (.map (some b)) key val).run P w = .ok () (putObj w b (.map (es.push { key := key, val := val, born := clock }) (clock + 1))) := by
  have hc : (Instr.checkKey false 10000 k key).run P w = .ok () w := MapKept.run_checkKey hk hkey false 9999
  simp [Instr.mapUpdate, run_underlying ht, MapKept.run_getObj_map hb, hc, MapKept.run_findKey hk hf, MapKept.run_setObj_map _ hb, Result.andThen, putObj]
theorem run_look_yes (t k e : TypeId) (kd : TypeDesc) (ht : P.underlying t = some (.map k e)) (hk : P.underlying k = some kd) (w : World) (b : Nat) (es : Array MapEntry) (clock : Nat) (key val : Value) (i : Nat)
    (hb : w.heap[b]? = some (.map es clock)) (hkey : MapKept.IsKey kd key) (hf : Instr.findNow kd key es.toList 0 = some (some (i, val))) (c : Bool) :
    (Instr.lookup t (.map (some b)) key c).run P w = .ok (if c then .tuple #[val, .bool true] else val) w := by
  have hc : (Instr.checkKey es.isEmpty 10000 k key).run P w = .ok () w := MapKept.run_checkKey hk hkey _ 9999
  simp [Instr.lookup, run_underlying ht, MapKept.run_getObj_map hb, hc, MapKept.run_findKey hk hf, Result.andThen]
theorem run_look_no (t k e : TypeId) (kd : TypeDesc) (ht : P.underlying t = some (.map k e)) (hk : P.underlying k = some kd) (w : World) (b : Nat) (es : Array MapEntry) (clock : Nat) (key z : Value)
    (hz : (zeroValue e).run P w = .ok z w) (hb : w.heap[b]? = some (.map es clock)) (hkey : MapKept.IsKey kd key) (hf : Instr.findNow kd key es.toList 0 = some none) (c : Bool) :
    (Instr.lookup t (.map (some b)) key c).run P w = .ok (if c then .tuple #[z, .bool false] else z) w := by
  have hc : (Instr.checkKey es.isEmpty 10000 k key).run P w = .ok () w := MapKept.run_checkKey hk hkey _ 9999
  simp [Instr.lookup, run_underlying ht, MapKept.run_getObj_map hb, hc, MapKept.run_findKey hk hf, hz, Result.andThen]
end

theorem run_store_func {P : Program} (w : World) (a : Addr) (fn : Fn) (x y : Array Value) (hc : (w.cell? a).isSome = true) (hf : w.frozen? a = false) : (store a (.func fn x y)).run P w = .ok () (w.setCell a (.func fn x y)) := by
  obtain ⟨u, hu⟩ := Option.isSome_iff_exists.1 hc
  rw [run_store P w a _ _ rfl, hu]
  simp [hf]

/-- the closure that decodes: what it was given lies in new memory -/
def DecV (w : World) (B : Nat) (enc : Int) (f : FuncId) (v : Value) : Prop :=
  ∃ p q : Nat, v = .func (.func 40) #[] #[.pointer (some ⟨p, 0, none⟩), .pointer (some ⟨q, 0, none⟩)] ∧ B ≤ p ∧ p < w.heap.size ∧ B ≤ q ∧ q < w.heap.size ∧
    w.cell? ⟨p, 0, none⟩ = some (.int .u8 enc) ∧ w.cell? ⟨q, 0, none⟩ = some (.func (.func f) #[] #[])
/-- the closure that encodes -/
def EncV (w : World) (B : Nat) (f : FuncId) (v : Value) : Prop :=
  ∃ p : Nat, v = .func (.func 41) #[] #[.pointer (some ⟨p, 0, none⟩)] ∧ B ≤ p ∧ p < w.heap.size ∧ w.cell? ⟨p, 0, none⟩ = some (.func (.func f) #[] #[])
theorem DecV.keep {w w' : World} {B enc f v} (h : DecV w B enc f v) (hk : ∀ j, B ≤ j → j < w.heap.size → w'.heap[j]? = w.heap[j]?) (hs : w.heap.size ≤ w'.heap.size) : DecV w' B enc f v := by
  obtain ⟨p, q, e, p0, p1, q0, q1, hp, hq⟩ := h
  exact ⟨p, q, e, p0, by omega, q0, by omega, (World.cell?_of_block (hk p p0 p1)).trans hp, (World.cell?_of_block (hk q q0 q1)).trans hq⟩
theorem EncV.keep {w w' : World} {B f v} (h : EncV w B f v) (hk : ∀ j, B ≤ j → j < w.heap.size → w'.heap[j]? = w.heap[j]?) (hs : w.heap.size ≤ w'.heap.size) : EncV w' B f v := by
  obtain ⟨p, e, p0, p1, hp⟩ := h
  exact ⟨p, e, p0, by omega, (World.cell?_of_block (hk p p0 p1)).trans hp⟩

set_option maxRecDepth 100000 in
theorem unmarked_any (w : World) (enc : Int) (f g : FuncId) :
    Calls Tryd.prog 28 #[.int .u8 enc, .func (.func f) #[] #[], .func (.func g) #[] #[]] w fun e w' => ∃ v1 v2, e = .returned (.agg #[v1, v2]) ∧ DecV w' w.heap.size enc f v1 ∧ EncV w' w.heap.size g v2 ∧ Below w.heap.size w w' := by
  have hmf : ∀ (fn : Fn) (first cap : Array Value) (w : World), (Instr.makeFunc fn first cap).run Tryd.prog w = .ok (.func fn first cap) w := fun _ _ _ _ => rfl
  have hst := @run_store_func Tryd.prog
  go_enter Tryd.func28, Tryd.ntmps28
  go_wp2
  refine bodyPost_ret (v := .agg #[.func (.func 40) #[] #[.pointer (some ⟨w.heap.size, 0, none⟩), .pointer (some ⟨w.heap.size + 1, 0, none⟩)], .func (.func 41) #[] #[.pointer (some ⟨w.heap.size + 1 + 1, 0, none⟩)]]) (by simp [results, Tryd.results28, go_sem]) rfl ?_
  refine ⟨_, _, rfl, ⟨_, _, rfl, Nat.le_refl _, by simp; omega, by omega, by simp, by simp [go_sem], by simp [go_sem]⟩, ⟨_, rfl, by omega, by simp, by simp [go_sem]⟩, ?_⟩
  exact ((((Below.refl _ w).alloc (Nat.le_refl _) _).alloc (by simp) _).alloc (by simp; omega) _).alloc (by simp; omega) _

/-- what encodings hands back: a map of three structs of two functions each -/
def EncsTold (w : World) (e : Ending) (w' : World) : Prop :=
  ∃ b v1 v2 v3 v4, e = .returned (.map (some b)) ∧ w'.heap[b]? = some (.map #[{ key := .int .u8 1, val := .agg #[v1, v2], born := 0 }, { key := .int .u8 2, val := .agg #[.func (.func 31) #[] #[], .func (.func 32) #[] #[]], born := 1 }, { key := .int .u8 3, val := .agg #[v3, v4], born := 2 }] 3) ∧
    DecV w' w.heap.size 1 29 v1 ∧ EncV w' w.heap.size 30 v2 ∧ DecV w' w.heap.size 3 33 v3 ∧ EncV w' w.heap.size 34 v4 ∧ Below w.heap.size w w'
theorem DecV.less {w : World} {B B' enc f v} (h : DecV w B enc f v) (hB : B' ≤ B) : DecV w B' enc f v := by
  obtain ⟨p, q, e, p0, p1, q0, q1, hp, hq⟩ := h
  exact ⟨p, q, e, by omega, p1, by omega, q1, hp, hq⟩
theorem EncV.less {w : World} {B B' f v} (h : EncV w B f v) (hB : B' ≤ B) : EncV w B' f v := by
  obtain ⟨p, e, p0, p1, hp⟩ := h
  exact ⟨p, e, by omega, p1, hp⟩

abbrev TM : TypeId := 54
theorem zeroEnc (w : World) : (zeroValue 52).run Tryd.prog w = .ok (.agg #[.nilFunc, .nilFunc]) w := by kernel_rfl

set_option maxRecDepth 100000 in
set_option maxHeartbeats 1000000 in
theorem encodings_any (w : World) : Calls Tryd.prog 22 #[] w (EncsTold w) := by
  have hmm := @run_makeMap Tryd.prog
  have hins := fun (w : World) b es clock key val => run_insert (P := Tryd.prog) 54 5 52 (.int .u8) Tryd.underlying54 Tryd.underlying5 w b es clock key val
  obtain ⟨w0, hw0⟩ : ∃ w0, w0 = w.alloc (.map #[] 0) := ⟨_, rfl⟩
  have hs0 : w0.heap.size = w.heap.size + 1 := by rw [hw0]; simp
  have hm0 : w0.heap[w.heap.size]? = some (.map #[] 0) := by rw [hw0]; exact heap_alloc_new w _
  have hb0 : Below w.heap.size w w0 := by rw [hw0]; exact (Below.refl _ _).alloc (Nat.le_refl _) _
  go_enter Tryd.func22, Tryd.ntmps22
  go_wp2_with fail
  rw [← hw0]
  clear hw0
  with_reducible refine (unmarked_any w0 1 29 30).mono ?_
  rintro e w1 ⟨v1, v2, rfl, hd1, he1, hb1⟩
  have hs1 := hb1.size
  have hm1 : w1.heap[w.heap.size]? = some (.map #[] 0) := (hb1.block _ (by omega)).trans hm0
  have hz1 : w.heap.size < w1.heap.size := by omega
  obtain ⟨w2, hw2⟩ : ∃ w2, w2 = putObj w1 w.heap.size (.map #[{ key := .int .u8 1, val := .agg #[v1, v2], born := 0 }] 1) := ⟨_, rfl⟩
  have hi1 : (Instr.mapUpdate 54 (.map (some w.heap.size)) (.int .u8 1) (.agg #[v1, v2])).run Tryd.prog w1 = .ok () w2 := by rw [hw2]; exact hins w1 w.heap.size #[] 0 _ _ hm1 rfl rfl
  have hm2 : w2.heap[w.heap.size]? = some (.map #[{ key := .int .u8 1, val := .agg #[v1, v2], born := 0 }] 1) := by rw [hw2]; exact putObj_at _ hz1
  have hs2 : w2.heap.size = w1.heap.size := by rw [hw2]; exact putObj_size _ _ _
  have hk2 : ∀ j, j ≠ w.heap.size → w2.heap[j]? = w1.heap[j]? := fun j hj => by rw [hw2]; exact putObj_else _ _ hj
  have hb2 : Below w.heap.size w1 w2 := by rw [hw2]; exact putObj_below (Below.refl _ _) (Nat.le_refl _) _
  obtain ⟨w3, hw3⟩ : ∃ w3, w3 = putObj w2 w.heap.size (.map #[{ key := .int .u8 1, val := .agg #[v1, v2], born := 0 }, { key := .int .u8 2, val := .agg #[.func (.func 31) #[] #[], .func (.func 32) #[] #[]], born := 1 }] 2) := ⟨_, rfl⟩
  have hi2 : (Instr.mapUpdate 54 (.map (some w.heap.size)) (.int .u8 2) (.agg #[.func (.func 31) #[] #[], .func (.func 32) #[] #[]])).run Tryd.prog w2 = .ok () w3 := by rw [hw3]; exact hins w2 w.heap.size _ 1 _ _ hm2 rfl rfl
  have hm3 : w3.heap[w.heap.size]? = some (.map #[{ key := .int .u8 1, val := .agg #[v1, v2], born := 0 }, { key := .int .u8 2, val := .agg #[.func (.func 31) #[] #[], .func (.func 32) #[] #[]], born := 1 }] 2) := by rw [hw3]; exact putObj_at _ (by omega)
  have hs3 : w3.heap.size = w2.heap.size := by rw [hw3]; exact putObj_size _ _ _
  have hk3 : ∀ j, j ≠ w.heap.size → w3.heap[j]? = w2.heap[j]? := fun j hj => by rw [hw3]; exact putObj_else _ _ hj
  have hb3 : Below w.heap.size w2 w3 := by rw [hw3]; exact putObj_below (Below.refl _ _) (Nat.le_refl _) _
  have hd3 := hd1.keep (w' := w3) (fun j h1 h2 => (hk3 j (by omega)).trans (hk2 j (by omega))) (by omega)
  have he3 := he1.keep (w' := w3) (fun j h1 h2 => (hk3 j (by omega)).trans (hk2 j (by omega))) (by omega)
  clear hm0 hm1 hw2 hw3 hm2 hd1 he1
  go_wp2_with fail
  with_reducible refine (unmarked_any w3 3 33 34).mono ?_
  rintro e w4 ⟨v3, v4, rfl, hd4, he4, hb4⟩
  have hs4 := hb4.size
  have hm4 : w4.heap[w.heap.size]? = some (.map #[{ key := .int .u8 1, val := .agg #[v1, v2], born := 0 }, { key := .int .u8 2, val := .agg #[.func (.func 31) #[] #[], .func (.func 32) #[] #[]], born := 1 }] 2) := (hb4.block _ (by omega)).trans hm3
  obtain ⟨w5, hw5⟩ : ∃ w5, w5 = putObj w4 w.heap.size (.map #[{ key := .int .u8 1, val := .agg #[v1, v2], born := 0 }, { key := .int .u8 2, val := .agg #[.func (.func 31) #[] #[], .func (.func 32) #[] #[]], born := 1 }, { key := .int .u8 3, val := .agg #[v3, v4], born := 2 }] 3) := ⟨_, rfl⟩
  have hi3 : (Instr.mapUpdate 54 (.map (some w.heap.size)) (.int .u8 3) (.agg #[v3, v4])).run Tryd.prog w4 = .ok () w5 := by rw [hw5]; exact hins w4 w.heap.size _ 2 _ _ hm4 rfl rfl
  have hm5 : w5.heap[w.heap.size]? = some (.map #[{ key := .int .u8 1, val := .agg #[v1, v2], born := 0 }, { key := .int .u8 2, val := .agg #[.func (.func 31) #[] #[], .func (.func 32) #[] #[]], born := 1 }, { key := .int .u8 3, val := .agg #[v3, v4], born := 2 }] 3) := by rw [hw5]; exact putObj_at _ (by omega)
  have hs5 : w5.heap.size = w4.heap.size := by rw [hw5]; exact putObj_size _ _ _
  have hk5 : ∀ j, j ≠ w.heap.size → w5.heap[j]? = w4.heap[j]? := fun j hj => by rw [hw5]; exact putObj_else _ _ hj
  have hb5 : Below w.heap.size w4 w5 := by rw [hw5]; exact putObj_below (Below.refl _ _) (Nat.le_refl _) _
  have hd5 := hd4.keep (w' := w5) (fun j h1 h2 => hk5 j (by omega)) (by omega)
  have he5 := he4.keep (w' := w5) (fun j h1 h2 => hk5 j (by omega)) (by omega)
  have hd6 := hd3.keep (w' := w5) (fun j h1 h2 => (hk5 j (by omega)).trans (hb4.block j h2)) (by omega)
  have he6 := he3.keep (w' := w5) (fun j h1 h2 => (hk5 j (by omega)).trans (hb4.block j h2)) (by omega)
  have hbA : Below w.heap.size w w5 := hb0.trans ((hb1.mono (by omega)).trans (hb2.trans (hb3.trans ((hb4.mono (by omega)).trans hb5))))
  clear hm3 hm4 hw5 hd3 he3 hd4 he4 hi1 hi2
  go_wp2
  go_ret
  exact ⟨_, _, _, _, _, rfl, hm5, hd6.less (by omega), he6.less (by omega), hd5.less (by omega), he5.less (by omega), hbA⟩
end Go.Proofs.YtijlecfjgcohhaaDoor.C
