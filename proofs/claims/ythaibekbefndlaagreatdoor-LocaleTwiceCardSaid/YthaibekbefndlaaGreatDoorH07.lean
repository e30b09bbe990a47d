/-
  Joined: LcO, LcM, LeA, LeB. Each with what its own head says.
-/
import Derived.Deep.RegionHeld3
import Derived.Deep.RegionWith
import Derived.OrdersHeld
import Derived.MapKept
import Derived.Laws.NewBlocks
import Derived.WideMake
import Derived.Laws.NewDeep
import Derived.Lib.SmallJoins
import Derived.Laws.BitsLemmas
import Derived.Deep.WholeRow
import Derived.Test.YthaibekbefndlaaGreatDoorH03
import Derived.Test.YthaibekbefndlaaGreatDoorH04

namespace Go.Proofs.YthaibekbefndlaaGreatDoor.C
open Go.RowKit

section
variable {P : Program} {ops : Array Oper} {Q : Exit → Act → World → Prop} {md : Region.Mode} {S : World → Prop}
def wpAnyE (P : Program) (md : Region.Mode) (ops : Array Oper) (Q : Exit → Act → World → Prop) (S : World → Prop) (L : Nat) : Nat → Array Bool → Act → World → Prop
 | 0, listed, a, w => Region.ready md ops listed = [] ∧ Q .normal a w
 | fuel + 1, listed, a, w =>
  (Region.ready md ops listed = [] → Q .normal a w) ∧
  ∀ i ∈ Region.ready md ops listed, wpOp P ops Q i (fun a' w' => (i ≠ L → S w') ∧ wpAnyE P md ops Q S L fuel (listed.setIfInBounds i true) a' w') a w
theorem wpAny_of_E {L : Nat} : ∀ (fuel : Nat) (listed : Array Bool) (a : Act) (w : World), wpAnyE P md ops Q S L fuel listed a w → wpAny P md ops Q fuel listed a w
 | 0, _, _, _, h => h
 | fuel + 1, _, _, _, h => ⟨h.1, fun i hi => wpOp_mono (fun a' w' h' => wpAny_of_E fuel _ a' w' h'.2) (h.2 i hi)⟩
def waitsFor (md : Region.Mode) (ops : Array Oper) (L i : Nat) : Bool := match ops[L]? with
 | some o => o.after.any fun e => Region.binds md e && (e.on == i)
 | none => false
theorem wpAnyE_first {L i : Nat} {oi : Oper} {v : Value} (hi : ops[i]? = some oi) (hsel : ∀ (j : Nat) (o : Oper) cs b, ops[j]? = some o → o.op ≠ .select cs b) (hL : waitsFor md ops L i = true)
  (hQ : ∀ c a w, Q (.panic c) (a.put oi.dst v) w → Q (.panic c) a w) :
  ∀ (fuel : Nat) (listed : Array Bool) (a : Act) (w : World),
   (∀ j oj, ops[j]? = some oj → j ≠ i → listed.getD j true = false → (∀ e ∈ oj.after, Region.binds md e = true → e.on ≠ i) → oi.apart ops oj = true) →
   i ∈ Region.ready md ops listed → YieldsIf P ops S oi v a → S w →
   wpAnyE P md ops Q S L fuel (listed.setIfInBounds i true) (a.put oi.dst v) w → wpAnyE P md ops Q S L (fuel + 1) listed a w := by
 intro fuel
 induction fuel with
 | zero =>
  intro listed a w _ hr hy hS H
  refine ⟨fun h => (by rw [h] at hr; cases hr), fun j hj => ?_⟩
  by_cases hji : j = i
  ·subst hji; exact hy.wpOp hi hS ⟨fun _ => hS, H⟩
  ·have := ready_mono hj hji
   rw [H.1] at this
   cases this
 | succ fuel ih =>
  intro listed a w hfree hr hy hS H
  refine ⟨fun h => (by rw [h] at hr; cases hr), fun j hj => ?_⟩
  by_cases hji : j = i
  ·subst hji; exact hy.wpOp hi hS ⟨fun _ => hS, H⟩
  ·have h1 := H.2 j (ready_mono hj hji)
   obtain ⟨hjun, oj, hoj, hall⟩ := mem_ready.1 hj
   have hnot : ∀ e ∈ oj.after, Region.binds md e = true → e.on ≠ i := fun e he hb heq => by
    have h1 := hall e he hb
    have h0 := (mem_ready.1 hr).1
    rw [heq] at h1
    rcases Nat.lt_or_ge i listed.size with h' | h'
    ·simp [h'] at h0 h1; rw [h0] at h1; cases h1
    ·simp [Array.getElem?_eq_none h'] at h1
   have hjL : j ≠ L := by
    rintro rfl
    unfold waitsFor at hL
    rw [hoj] at hL
    simp only [Array.any_eq_true] at hL
    obtain ⟨q, hq, he⟩ := hL
    simp only [Bool.and_eq_true, beq_iff_eq] at he
    exact hnot _ (Array.getElem_mem hq) he.1 he.2
   have h2 := wpOp_putIf hoj (hfree j oj hoj hji hjun hnot) (fun cs b => hsel i oi cs b hi) (fun cs b => hsel j oj cs b hoj) hQ hy h1
   have hfree' : ∀ k ok, ops[k]? = some ok → k ≠ i → (listed.setIfInBounds j true).getD k true = false →
     (∀ e ∈ ok.after, Region.binds md e = true → e.on ≠ i) → oi.apart ops ok = true := fun k ok hk hki hun hno => by
    refine hfree k ok hk hki ?_ hno
    by_cases hjk : j = k
    ·subst hjk; exact hjun
    ·rw [getD_set_ne true hjk] at hun; exact hun
   refine wpOp_mono (fun a' w' h3 => ⟨fun _ => h3.2.1 hjL, ih (listed.setIfInBounds j true) a' w' hfree' (ready_mono hr (Ne.symm hji)) h3.1 (h3.2.1 hjL) ?_⟩) h2
   rw [Array.setIfInBounds_comm _ _ hji]
   exact h3.2.2
theorem wpAnyE_take {L i : Nat} {oi : Oper} {v : Value} {fuel : Nat} {listed : Array Bool} {a : Act} {w : World} (hi : ops[i]? = some oi)
  (hs : Region.noSelect ops = true) (hf : Region.free md ops listed i = true) (hr : (Region.ready md ops listed).contains i = true) (hL : waitsFor md ops L i = true)
  (hQ : ∀ c a w, Q (.panic c) (a.put oi.dst v) w → Q (.panic c) a w) (hy : YieldsIf P ops S oi v a) (hS : S w)
  (h : wpAnyE P md ops Q S L fuel (listed.setIfInBounds i true) (a.put oi.dst v) w) : wpAnyE P md ops Q S L (fuel + 1) listed a w :=
 wpAnyE_first hi (Region.noSelect_spec hs) hL hQ fuel listed a w (Region.free_spec hi hf) (by simpa using hr) hy hS h
theorem wpAnyE_one {L i : Nat} {o : Oper} {fuel : Nat} {listed : Array Bool} {a : Act} {w : World} (hr : Region.ready md ops listed = [i]) (ho : ops[i]? = some o)
  (h : ∀ K : Act → World → Prop, Hid (∀ a' w', (i ≠ L → S w') → ((i ≠ L → S w') → wpAnyE P md ops Q S L fuel (listed.setIfInBounds i true) a' w') → K a' w') →
   if Region.wanted o (yielded ops a.tmps) = true then Oper.wp P o a w K Q else K (a.put o.dst undef) w) : wpAnyE P md ops Q S L (fuel + 1) listed a w := by
 refine ⟨fun h0 => (by rw [hr] at h0; cases h0), fun j hj => ?_⟩
 rw [hr, List.mem_singleton] at hj
 subst hj
 have h1 := h (fun a' w' => (j ≠ L → S w') ∧ wpAnyE P md ops Q S L fuel (listed.setIfInBounds j true) a' w') (Lib.hid fun a' w' hs hh => ⟨hs, hh hs⟩)
 unfold wpOp
 simp only [ho]
 split
 ·rename_i hw
  rw [if_pos hw] at h1
  exact .inl h1
 ·rename_i hw
  rw [if_neg hw] at h1
  exact h1
theorem wpAnyE_done {L : Nat} {listed : Array Bool} {a : Act} {w : World} (hr : Region.ready md ops listed = []) (h : Q .normal a w) : ∀ fuel, wpAnyE P md ops Q S L fuel listed a w
 | 0 => ⟨hr, h⟩
 | _ + 1 => ⟨fun _ => h, by rw [hr]; simp⟩
theorem wp_region_E {L id : Nat} {a : Act} {w : World} (hm : P.follows .mixedOrders = true)
  (h : wpAnyE P .any ops Q S L ops.size (Array.replicate ops.size false) a w.drew) : (Code.region id ops true).wp P Q a w :=
 wp_region_any hm (wpAny_of_E _ _ _ _ h)
end
end Go.Proofs.YthaibekbefndlaaGreatDoor.C

namespace Go.Proofs.YthaibekbefndlaaGreatDoor.C
open Go.RowKit

def putObj (w : World) (b : Nat) (o : Obj) : World := { w with heap := w.heap.setIfInBounds b o }
theorem putObj_size (w : World) (b : Nat) (o : Obj) : (putObj w b o).heap.size = w.heap.size := by simp [putObj]
theorem putObj_at {w : World} {b : Nat} (o : Obj) (hb : b < w.heap.size) : (putObj w b o).heap[b]? = some o := by simp [putObj, hb]
theorem putObj_else (w : World) {b j : Nat} (o : Obj) (h : j ≠ b) : (putObj w b o).heap[j]? = w.heap[j]? := by
 simp only [putObj]
 rw [Array.getElem?_setIfInBounds_ne (Ne.symm h)]
theorem putObj_below {B : Nat} {a w : World} (h : Below B a w) {b : Nat} (hb : B ≤ b) (o : Obj) : Below B a (putObj w b o) :=
 h.trans ⟨rfl, rfl, rfl, by rw [putObj_size]; exact Nat.le_refl _, fun k hk => putObj_else w o (by omega)⟩

section
variable {P : Program}
theorem run_insert (t k e : TypeId) (kd : TypeDesc) (ht : P.underlying t = some (.map k e)) (hk : P.underlying k = some kd) (w : World) (b : Nat) (es : Array MapEntry) (clock : Nat) (key val : Value)
  (hb : w.heap[b]? = some (.map es clock)) (hkey : MapKept.IsKey kd key) (hf : Instr.findNow kd key es.toList 0 = some none) :
  (Instr.mapUpdate t (.map (some b)) key val).run P w = .ok () (putObj w b (.map (es.push { key := key, val := val, born := clock }) (clock + 1))) := by
 have hc : (Instr.checkKey false 10000 k key).run P w = .ok () w := MapKept.run_checkKey hk hkey false 9999
 simp [Instr.mapUpdate, run_underlying ht, MapKept.run_getObj_map hb, hc, MapKept.run_findKey hk hf, MapKept.run_setObj_map _ hb, Result.andThen, putObj]
theorem run_look_yes (t k e : TypeId) (kd : TypeDesc) (ht : P.underlying t = some (.map k e)) (hk : P.underlying k = some kd) (w : World) (b : Nat) (es : Array MapEntry) (clock : Nat) (key val : Value) (i : Nat)
  (hb : w.heap[b]? = some (.map es clock)) (hkey : MapKept.IsKey kd key) (hf : Instr.findNow kd key es.toList 0 = some (some (i, val))) (c : Bool) :
  (Instr.lookup t (.map (some b)) key c).run P w = .ok (if c then .tuple #[val, .bool true] else val) w := by
 have hc : (Instr.checkKey es.isEmpty 10000 k key).run P w = .ok () w := MapKept.run_checkKey hk hkey _ 9999
 simp [Instr.lookup, run_underlying ht, MapKept.run_getObj_map hb, hc, MapKept.run_findKey hk hf, Result.andThen]
theorem run_look_no (t k e : TypeId) (kd : TypeDesc) (ht : P.underlying t = some (.map k e)) (hk : P.underlying k = some kd) (w : World) (b : Nat) (es : Array MapEntry) (clock : Nat) (key z : Value)
  (hz : (zeroValue e).run P w = .ok z w) (hb : w.heap[b]? = some (.map es clock)) (hkey : MapKept.IsKey kd key) (hf : Instr.findNow kd key es.toList 0 = some none) (c : Bool) :
  (Instr.lookup t (.map (some b)) key c).run P w = .ok (if c then .tuple #[z, .bool false] else z) w := by
 have hc : (Instr.checkKey es.isEmpty 10000 k key).run P w = .ok () w := MapKept.run_checkKey hk hkey _ 9999
 simp [Instr.lookup, run_underlying ht, MapKept.run_getObj_map hb, hc, MapKept.run_findKey hk hf, hz, Result.andThen]
end

def MapIs (w : World) (M : Nat) (kd : TypeDesc) (l : List (Value × Value)) : Prop :=
 ∃ es clock, w.heap[M]? = some (.map es clock) ∧ es.toList.map (fun e => (e.key, e.val)) = l ∧ (∀ x ∈ l, MapKept.IsKey kd x.1) ∧ (l.map Prod.fst).Nodup
section
variable {P : Program} {w : World} {M : Nat} {kd : TypeDesc} {l : List (Value × Value)} {t k e : TypeId} {key v : Value}
theorem MapIs.lt (h : MapIs w M kd l) : M < w.heap.size := by obtain ⟨es, c, h1, _⟩ := h; exact (Array.getElem?_eq_some_iff.1 h1).1
theorem MapIs.at_ {w' : World} (h : MapIs w M kd l) (hb : w'.heap[M]? = w.heap[M]?) : MapIs w' M kd l := by
 obtain ⟨es, c, h1, h2⟩ := h
 exact ⟨es, c, hb.trans h1, h2⟩
theorem MapIs.drewN (h : MapIs w M kd l) (n : Nat) : MapIs (w.drewN n) M kd l := h
theorem MapIs.new (w : World) (kd : TypeDesc) : MapIs (w.alloc (.map #[] 0)) w.heap.size kd [] := ⟨#[], 0, heap_alloc_new w _, rfl, by simp, by simp⟩
theorem MapIs.look_yes (h : MapIs w M kd l) (ht : P.underlying t = some (.map k e)) (hk : P.underlying k = some kd) (hkey : MapKept.IsKey kd key) (hm : (key, v) ∈ l) (c : Bool) :
  (Instr.lookup t (.map (some M)) key c).run P w = .ok (if c then .tuple #[v, .bool true] else v) w := by
 obtain ⟨es, clock, h1, h2, h3, h4⟩ := h
 have hks : ∀ x ∈ es.toList, MapKept.IsKey kd x.key := fun x hx => h3 (x.key, x.val) (by rw [← h2]; exact List.mem_map_of_mem hx)
 rcases MapKept.findNow_spec hkey es.toList 0 hks with ⟨_, hn⟩ | ⟨j, x, hf, hj, hx⟩
 ·rw [← h2, List.mem_map] at hm
  obtain ⟨x, hx, hxe⟩ := hm
  exact absurd (congrArg Prod.fst hxe) (hn x hx)
 ·have hv : x.val = v := by
   have hin : (x.key, x.val) ∈ l := by rw [← h2]; exact List.mem_map_of_mem (List.mem_of_getElem? hj)
   rw [hx] at hin
   have key_inj : ∀ (l : List (Value × Value)), (l.map Prod.fst).Nodup → (key, x.val) ∈ l → (key, v) ∈ l → x.val = v := by
    intro l
    induction l with
    | nil => intro _ h; cases h
    | cons a r ih =>
     intro hn ha hb
     rw [List.map_cons, List.nodup_cons] at hn
     rcases List.mem_cons.1 ha with ha | ha <;> rcases List.mem_cons.1 hb with hb | hb
     ·rw [← ha] at hb; exact (congrArg Prod.snd hb).symm
     ·exact absurd (by rw [← ha]; exact List.mem_map.2 ⟨_, hb, rfl⟩) hn.1
     ·exact absurd (by rw [← hb]; exact List.mem_map.2 ⟨_, ha, rfl⟩) hn.1
     ·exact ih hn.2 ha hb
   exact key_inj l h4 hin hm
  rw [← hv]
  exact run_look_yes t k e kd ht hk w M es clock key x.val _ h1 hkey hf c
theorem MapIs.look_no (h : MapIs w M kd l) (ht : P.underlying t = some (.map k e)) (hk : P.underlying k = some kd) (hkey : MapKept.IsKey kd key) (hm : key ∉ l.map Prod.fst) {z : Value} (hz : (zeroValue e).run P w = .ok z w) (c : Bool) :
  (Instr.lookup t (.map (some M)) key c).run P w = .ok (if c then .tuple #[z, .bool false] else z) w := by
 obtain ⟨es, clock, h1, h2, h3, h4⟩ := h
 have hks : ∀ x ∈ es.toList, MapKept.IsKey kd x.key := fun x hx => h3 (x.key, x.val) (by rw [← h2]; exact List.mem_map_of_mem hx)
 rcases MapKept.findNow_spec hkey es.toList 0 hks with ⟨hf, _⟩ | ⟨j, x, hf, hj, hx⟩
 ·exact run_look_no t k e kd ht hk w M es clock key z hz h1 hkey hf c
 ·exfalso
  apply hm
  rw [← h2, List.map_map, List.mem_map]
  exact ⟨x, List.mem_of_getElem? hj, hx⟩
theorem MapIs.put_new (h : MapIs w M kd l) (ht : P.underlying t = some (.map k e)) (hk : P.underlying k = some kd) (hkey : MapKept.IsKey kd key) (hm : key ∉ l.map Prod.fst) (val : Value) :
  ∃ o, (Instr.mapUpdate t (.map (some M)) key val).run P w = .ok () (putObj w M o) ∧ MapIs (putObj w M o) M kd (l ++ [(key, val)]) := by
 have hlt := h.lt
 obtain ⟨es, clock, h1, h2, h3, h4⟩ := h
 have hks : ∀ x ∈ es.toList, MapKept.IsKey kd x.key := fun x hx => h3 (x.key, x.val) (by rw [← h2]; exact List.mem_map_of_mem hx)
 rcases MapKept.findNow_spec hkey es.toList 0 hks with ⟨hf, _⟩ | ⟨j, x, hf, hj, hx⟩
 ·refine ⟨_, run_insert t k e kd ht hk w M es clock key val h1 hkey hf, _, _, putObj_at _ hlt, ?_, ?_, ?_⟩
  ·rw [Array.toList_push, List.map_append, h2]; rfl
  ·intro x hx
   rcases List.mem_append.1 hx with hx | hx
   ·exact h3 x hx
   ·rw [List.mem_singleton] at hx; subst hx; exact hkey
  ·rw [List.map_append, List.nodup_append]
   refine ⟨h4, by simp, ?_⟩
   intro a ha b hb
   simp only [List.map_cons, List.map_nil, List.mem_singleton] at hb
   subst hb
   rintro rfl
   exact hm ha
 ·exfalso
  apply hm
  rw [← h2, List.map_map, List.mem_map]
  exact ⟨x, List.mem_of_getElem? hj, hx⟩
theorem MapIs.put_old (h : MapIs w M kd l) (ht : P.underlying t = some (.map k e)) (hk : P.underlying k = some kd) (hkey : MapKept.IsKey kd key) (hm : key ∈ l.map Prod.fst) (val : Value) :
  ∃ o, (Instr.mapUpdate t (.map (some M)) key val).run P w = .ok () (putObj w M o) := by
 obtain ⟨es, clock, h1, h2, h3, h4⟩ := h
 have hks : ∀ x ∈ es.toList, MapKept.IsKey kd x.key := fun x hx => h3 (x.key, x.val) (by rw [← h2]; exact List.mem_map_of_mem hx)
 rcases MapKept.findNow_spec hkey es.toList 0 hks with ⟨_, hn⟩ | ⟨j, x, hf, hj, hx⟩
 ·exfalso
  rw [← h2, List.map_map, List.mem_map] at hm
  obtain ⟨x, hx, hxe⟩ := hm
  exact hn x hx hxe
 ·have hj' : es[j]? = some x := by simpa using hj
  have hc : (Instr.checkKey false 10000 k key).run P w = .ok () w := MapKept.run_checkKey hk hkey false 9999
  exact ⟨_, by simp [Instr.mapUpdate, run_underlying ht, MapKept.run_getObj_map h1, hc, MapKept.run_findKey hk hf, hj', hx, MapKept.run_keyThatStays hkey, MapKept.run_setObj_map _ h1, Result.andThen, putObj]; rfl⟩
end
theorem putObj_only {w : World} {M : Nat} (o : Obj) : w.grownBy (putObj w M o) (some M) := ⟨rfl, rfl, rfl, by rw [putObj_size]; exact Nat.le_refl _, fun i _ hne => putObj_else w o (fun e => hne (by rw [e]))⟩
def FT (w : World) (t : TypeId) (kd : TypeDesc) (A M : Nat) (keys : List Value) : Prop :=
 w.heap[A]? = some (.cells #[.map (some M)] t (0, 0)) ∧ MapIs w M kd (keys.map fun k => (k, .bool true))
theorem FT.next {w w' : World} {t : TypeId} {kd : TypeDesc} {A M : Nat} {keys : List Value} (h : FT w t kd A M keys) (hA : w'.heap[A]? = w.heap[A]?) (hM : w'.heap[M]? = w.heap[M]?) : FT w' t kd A M keys := ⟨hA.trans h.1, h.2.at_ hM⟩
theorem FT.cell {w : World} {t : TypeId} {kd : TypeDesc} {A M : Nat} {keys : List Value} (h : FT w t kd A M keys) : w.cell? ⟨A, 0, none⟩ = some (.map (some M)) := by simp [World.cell?, h.1]
theorem FT.ne {w : World} {t : TypeId} {kd : TypeDesc} {A M : Nat} {keys : List Value} (h : FT w t kd A M keys) : A ≠ M := by
 rintro rfl
 obtain ⟨es, c, h1, _⟩ := h.2
 rw [h.1] at h1
 cases h1
theorem map_keys (keys : List Value) : (keys.map fun k => (k, Value.bool true)).map Prod.fst = keys := by induction keys <;> simp_all

theorem zeroBoolS (w : World) : (zeroValue 4).run Tryz.prog w = .ok (.bool false) w := by kernel_rfl
set_option maxRecDepth 100000 in
set_option maxHeartbeats 1000000 in
theorem firstS_any (w : World) : Calls Tryz.prog 54 #[] w fun e w' => e = .returned (.func (.func 99) #[] #[.pointer (some ⟨w.heap.size + 1, 0, none⟩)]) ∧ FT w' 151 .string (w.heap.size + 1) w.heap.size [] ∧ Below w.heap.size w w' ∧ w'.heap.size = w.heap.size + 2 := by
 have hmf : ∀ (fn : Fn) (first cap : Array Value) (w : World), (Instr.makeFunc fn first cap).run Tryz.prog w = .ok (.func fn first cap) w := fun _ _ _ _ => rfl
 have hmm := @run_makeMap Tryz.prog
 have hA := heap_alloc_new (w.alloc (.map #[] 0)) (.cells #[.map (some w.heap.size)] 151)
 rw [World.size_alloc] at hA
 have hM : MapIs ((w.alloc (.map #[] 0)).alloc (.cells #[.map (some w.heap.size)] 151)) w.heap.size .string [] := (MapIs.new w .string).at_ (heap_lt _ _ (by simp))
 have HF : Hid (FT ((w.alloc (.map #[] 0)).alloc (.cells #[.map (some w.heap.size)] 151)) 151 .string (w.heap.size + 1) w.heap.size []) := Lib.hid ⟨hA, hM⟩
 clear hA hM
 go_enter Tryz.func54, Tryz.ntmps54
 go_wp2
 go_ret
 exact ⟨rfl, HF.out, ((Below.refl _ w).alloc (Nat.le_refl _) _).alloc (by simp) _, by simp⟩
set_option maxRecDepth 100000 in
set_option maxHeartbeats 1000000 in
theorem isNewS_yes (w : World) (A M : Nat) (keys : List Value) (s : ByteArray) (h : FT w 151 .string A M keys) (hs : (.string s) ∉ keys) :
  Calls Tryz.prog 99 #[(.string s), .pointer (some ⟨A, 0, none⟩)] w fun e w' => e = .returned (.bool true) ∧ FT w' 151 .string A M (keys ++ [(.string s)]) ∧ w.grownBy w' (some M) := by
 have hc := h.cell
 have hne := h.ne
 have q1 := h.2.look_no Tryz.underlying151 Tryz.underlying9 (key := (.string s)) (by first | trivial | rfl) (by rw [map_keys]; exact hs) (zeroBoolS w) false
 obtain ⟨o, q2, hM⟩ := h.2.put_new Tryz.underlying151 Tryz.underlying9 (key := (.string s)) (by first | trivial | rfl) (by rw [map_keys]; exact hs) (.bool true)
 have HF : Hid (FT (putObj w M o) 151 .string A M (keys ++ [(.string s)])) := Lib.hid ⟨(putObj_else w o hne).trans h.1, by rw [List.map_append]; exact hM⟩
 have HO : Hid (w.grownBy (putObj w M o) (some M)) := Lib.hid (putObj_only o)
 clear h hM hs
 go_enter Tryz.func99, Tryz.ntmps99
 go_wp2
 go_ret
 exact ⟨rfl, HF.out, HO.out⟩
set_option maxRecDepth 100000 in
set_option maxHeartbeats 1000000 in
theorem isNewS_no (w : World) (A M : Nat) (keys : List Value) (s : ByteArray) (h : FT w 151 .string A M keys) (hs : (.string s) ∈ keys) :
  Calls Tryz.prog 99 #[(.string s), .pointer (some ⟨A, 0, none⟩)] w fun e w' => e = .returned (.bool false) ∧ w.grownBy w' (some M) := by
 have hc := h.cell
 have q1 := h.2.look_yes Tryz.underlying151 Tryz.underlying9 (key := (.string s)) (v := .bool true) (by first | trivial | rfl) (List.mem_map_of_mem hs) false
 obtain ⟨o, q2⟩ := h.2.put_old Tryz.underlying151 Tryz.underlying9 (key := (.string s)) (by first | trivial | rfl) (by rw [map_keys]; exact hs) (.bool true)
 have HO : Hid (w.grownBy (putObj w M o) (some M)) := Lib.hid (putObj_only o)
 clear h hs
 go_enter Tryz.func99, Tryz.ntmps99
 go_wp2
 go_ret
 exact ⟨rfl, HO.out⟩

theorem zeroBoolI (w : World) : (zeroValue 4).run Tryz.prog w = .ok (.bool false) w := by kernel_rfl
set_option maxRecDepth 100000 in
set_option maxHeartbeats 1000000 in
theorem firstI_any (w : World) : Calls Tryz.prog 125 #[] w fun e w' => e = .returned (.func (.func 170) #[] #[.pointer (some ⟨w.heap.size + 1, 0, none⟩)]) ∧ FT w' 200 (.int .i64) (w.heap.size + 1) w.heap.size [] ∧ Below w.heap.size w w' ∧ w'.heap.size = w.heap.size + 2 := by
 have hmf : ∀ (fn : Fn) (first cap : Array Value) (w : World), (Instr.makeFunc fn first cap).run Tryz.prog w = .ok (.func fn first cap) w := fun _ _ _ _ => rfl
 have hmm := @run_makeMap Tryz.prog
 have hA := heap_alloc_new (w.alloc (.map #[] 0)) (.cells #[.map (some w.heap.size)] 200)
 rw [World.size_alloc] at hA
 have hM : MapIs ((w.alloc (.map #[] 0)).alloc (.cells #[.map (some w.heap.size)] 200)) w.heap.size (.int .i64) [] := (MapIs.new w (.int .i64)).at_ (heap_lt _ _ (by simp))
 have HF : Hid (FT ((w.alloc (.map #[] 0)).alloc (.cells #[.map (some w.heap.size)] 200)) 200 (.int .i64) (w.heap.size + 1) w.heap.size []) := Lib.hid ⟨hA, hM⟩
 clear hA hM
 go_enter Tryz.func125, Tryz.ntmps125
 go_wp2
 go_ret
 exact ⟨rfl, HF.out, ((Below.refl _ w).alloc (Nat.le_refl _) _).alloc (by simp) _, by simp⟩
set_option maxRecDepth 100000 in
set_option maxHeartbeats 1000000 in
theorem isNewI_yes (w : World) (A M : Nat) (keys : List Value) (s : Int) (h : FT w 200 (.int .i64) A M keys) (hs : (.int .i64 s) ∉ keys) :
  Calls Tryz.prog 170 #[(.int .i64 s), .pointer (some ⟨A, 0, none⟩)] w fun e w' => e = .returned (.bool true) ∧ FT w' 200 (.int .i64) A M (keys ++ [(.int .i64 s)]) ∧ w.grownBy w' (some M) := by
 have hc := h.cell
 have hne := h.ne
 have q1 := h.2.look_no Tryz.underlying200 Tryz.underlying3 (key := (.int .i64 s)) (by first | trivial | rfl) (by rw [map_keys]; exact hs) (zeroBoolI w) false
 obtain ⟨o, q2, hM⟩ := h.2.put_new Tryz.underlying200 Tryz.underlying3 (key := (.int .i64 s)) (by first | trivial | rfl) (by rw [map_keys]; exact hs) (.bool true)
 have HF : Hid (FT (putObj w M o) 200 (.int .i64) A M (keys ++ [(.int .i64 s)])) := Lib.hid ⟨(putObj_else w o hne).trans h.1, by rw [List.map_append]; exact hM⟩
 have HO : Hid (w.grownBy (putObj w M o) (some M)) := Lib.hid (putObj_only o)
 clear h hM hs
 go_enter Tryz.func170, Tryz.ntmps170
 go_wp2
 go_ret
 exact ⟨rfl, HF.out, HO.out⟩
set_option maxRecDepth 100000 in
set_option maxHeartbeats 1000000 in
theorem isNewI_no (w : World) (A M : Nat) (keys : List Value) (s : Int) (h : FT w 200 (.int .i64) A M keys) (hs : (.int .i64 s) ∈ keys) :
  Calls Tryz.prog 170 #[(.int .i64 s), .pointer (some ⟨A, 0, none⟩)] w fun e w' => e = .returned (.bool false) ∧ w.grownBy w' (some M) := by
 have hc := h.cell
 have q1 := h.2.look_yes Tryz.underlying200 Tryz.underlying3 (key := (.int .i64 s)) (v := .bool true) (by first | trivial | rfl) (List.mem_map_of_mem hs) false
 obtain ⟨o, q2⟩ := h.2.put_old Tryz.underlying200 Tryz.underlying3 (key := (.int .i64 s)) (by first | trivial | rfl) (by rw [map_keys]; exact hs) (.bool true)
 have HO : Hid (w.grownBy (putObj w M o) (some M)) := Lib.hid (putObj_only o)
 clear h hs
 go_enter Tryz.func170, Tryz.ntmps170
 go_wp2
 go_ret
 exact ⟨rfl, HO.out⟩

theorem zeroBoolC (w : World) : (zeroValue 4).run Tryz.prog w = .ok (.bool false) w := by kernel_rfl
set_option maxRecDepth 100000 in
set_option maxHeartbeats 1000000 in
theorem firstC_any (w : World) : Calls Tryz.prog 60 #[] w fun e w' => e = .returned (.func (.func 105) #[] #[.pointer (some ⟨w.heap.size + 1, 0, none⟩)]) ∧ FT w' 153 (.int .i32) (w.heap.size + 1) w.heap.size [] ∧ Below w.heap.size w w' ∧ w'.heap.size = w.heap.size + 2 := by
 have hmf : ∀ (fn : Fn) (first cap : Array Value) (w : World), (Instr.makeFunc fn first cap).run Tryz.prog w = .ok (.func fn first cap) w := fun _ _ _ _ => rfl
 have hmm := @run_makeMap Tryz.prog
 have hA := heap_alloc_new (w.alloc (.map #[] 0)) (.cells #[.map (some w.heap.size)] 153)
 rw [World.size_alloc] at hA
 have hM : MapIs ((w.alloc (.map #[] 0)).alloc (.cells #[.map (some w.heap.size)] 153)) w.heap.size (.int .i32) [] := (MapIs.new w (.int .i32)).at_ (heap_lt _ _ (by simp))
 have HF : Hid (FT ((w.alloc (.map #[] 0)).alloc (.cells #[.map (some w.heap.size)] 153)) 153 (.int .i32) (w.heap.size + 1) w.heap.size []) := Lib.hid ⟨hA, hM⟩
 clear hA hM
 go_enter Tryz.func60, Tryz.ntmps60
 go_wp2
 go_ret
 exact ⟨rfl, HF.out, ((Below.refl _ w).alloc (Nat.le_refl _) _).alloc (by simp) _, by simp⟩
set_option maxRecDepth 100000 in
set_option maxHeartbeats 1000000 in
theorem isNewC_yes (w : World) (A M : Nat) (keys : List Value) (s : Int) (h : FT w 153 (.int .i32) A M keys) (hs : (.int .i32 s) ∉ keys) :
  Calls Tryz.prog 105 #[(.int .i32 s), .pointer (some ⟨A, 0, none⟩)] w fun e w' => e = .returned (.bool true) ∧ FT w' 153 (.int .i32) A M (keys ++ [(.int .i32 s)]) ∧ w.grownBy w' (some M) := by
 have hc := h.cell
 have hne := h.ne
 have q1 := h.2.look_no Tryz.underlying153 Tryz.underlying35 (key := (.int .i32 s)) (by first | trivial | rfl) (by rw [map_keys]; exact hs) (zeroBoolC w) false
 obtain ⟨o, q2, hM⟩ := h.2.put_new Tryz.underlying153 Tryz.underlying35 (key := (.int .i32 s)) (by first | trivial | rfl) (by rw [map_keys]; exact hs) (.bool true)
 have HF : Hid (FT (putObj w M o) 153 (.int .i32) A M (keys ++ [(.int .i32 s)])) := Lib.hid ⟨(putObj_else w o hne).trans h.1, by rw [List.map_append]; exact hM⟩
 have HO : Hid (w.grownBy (putObj w M o) (some M)) := Lib.hid (putObj_only o)
 clear h hM hs
 go_enter Tryz.func105, Tryz.ntmps105
 go_wp2
 go_ret
 exact ⟨rfl, HF.out, HO.out⟩
set_option maxRecDepth 100000 in
set_option maxHeartbeats 1000000 in
theorem isNewC_no (w : World) (A M : Nat) (keys : List Value) (s : Int) (h : FT w 153 (.int .i32) A M keys) (hs : (.int .i32 s) ∈ keys) :
  Calls Tryz.prog 105 #[(.int .i32 s), .pointer (some ⟨A, 0, none⟩)] w fun e w' => e = .returned (.bool false) ∧ w.grownBy w' (some M) := by
 have hc := h.cell
 have q1 := h.2.look_yes Tryz.underlying153 Tryz.underlying35 (key := (.int .i32 s)) (v := .bool true) (by first | trivial | rfl) (List.mem_map_of_mem hs) false
 obtain ⟨o, q2⟩ := h.2.put_old Tryz.underlying153 Tryz.underlying35 (key := (.int .i32 s)) (by first | trivial | rfl) (by rw [map_keys]; exact hs) (.bool true)
 have HO : Hid (w.grownBy (putObj w M o) (some M)) := Lib.hid (putObj_only o)
 clear h hs
 go_enter Tryz.func105, Tryz.ntmps105
 go_wp2
 go_ret
 exact ⟨rfl, HO.out⟩
end Go.Proofs.YthaibekbefndlaaGreatDoor.C

namespace Go.Proofs.YthaibekbefndlaaGreatDoor.C
open Go.RowKit

set_option maxRecDepth 100000 in
set_option maxHeartbeats 1000000 in
theorem isScalar_any (c : Int) (w : World) : Calls Tryz.prog 63 #[.int .i32 c] w fun e w' => e = .returned (.bool (scalB c)) ∧ w' = w := by
 have hr := right_any c
 by_cases h0 : 0 ≤ c
 ·have hs : scalB c = rightB c := by unfold scalB; simp [h0]
  have HS := Lib.hid hs
  clear hs
  go_enter Tryz.func63, Tryz.ntmps63
  go_wp2_with (go_at_call 108; refine (hr _).mono ?_; rintro e w2 ⟨rfl, rfl⟩)
  go_ret
  exact ⟨by rw [HS.out]; rfl, rfl⟩
 ·have hs : scalB c = false := by unfold scalB; simp [h0]
  have HS := Lib.hid hs
  clear hs hr
  go_enter Tryz.func63, Tryz.ntmps63
  go_wp2
  go_ret
  exact ⟨by rw [HS.out]; rfl, rfl⟩

theorem contains_any (b : Nat) (x : UInt8) (v : Bool) (w : World) (hc : w.cell? ⟨b, x.toNat, none⟩ = some (.bool v)) :
  Calls Tryz.prog 187 #[.pointer (some ⟨b, 0, none⟩), .int .u8 x.toNat] w fun e w' => e = .returned (.bool v) ∧ w' = w := Any.asciiSet_contains Tryz.lays228 b x v w hc
theorem makeSet_any (chars : ByteArray) (w : World) (hs : chars.size < 4294967281) (hascii : ∀ (j : Nat) b, chars.data.toList[j]? = some b → b.toNat < 128) :
  Calls Tryz.prog 152 #[.string chars] w fun e w' => e = .returned (.tuple #[.agg (Lib.setCells chars.data.toList), .bool true]) ∧ w' = w.alloc (.cells (Lib.setCells chars.data.toList) 186) := Any.strings_makeASCIISet Tryz.lays227 (fun _ => by kernel_rfl) (by kernel_rfl) chars w hs hascii
def SetAt (w : World) (b : Nat) (cs : List UInt8) : Prop := ∀ x : UInt8, w.cell? ⟨b, x.toNat, none⟩ = some (.bool (cs.contains x))
theorem list_split {z : ByteArray} {m : Nat} (h : z.size = m + 1) : ∃ x : UInt8, z.data.toList = z.data.toList.take m ++ [x] ∧ z[m]'(by omega) = x := by
 have hm : m < z.data.toList.length := by rw [← Lib.size_eq]; omega
 refine ⟨z[m]'(by omega), ?_, rfl⟩
 have h1 := Lib.data_getElem? z m (by omega)
 have h2 := List.take_append_drop m z.data.toList
 rw [List.drop_eq_getElem?_toList_append, h1, List.drop_eq_nil_of_le (by rw [← Lib.size_eq]; omega)] at h2
 exact h2.symm
theorem list_front {z : ByteArray} {m : Nat} (h : z.size = m + 1) : ∃ x : UInt8, z.data.toList = x :: z.data.toList.drop 1 ∧ z[0]'(by omega) = x := by
 have hm : 0 < z.data.toList.length := by rw [← Lib.size_eq]; omega
 refine ⟨z[0]'(by omega), ?_, rfl⟩
 have h1 := Lib.data_getElem? z 0 (by omega)
 have h2 := List.drop_eq_getElem?_toList_append (l := z.data.toList) (i := 0)
 rw [List.drop_zero, h1] at h2
 exact h2
def AllIn (cs : List UInt8) (z : ByteArray) : Bool := z.data.toList.all cs.contains
theorem allIn_nil {cs : List UInt8} {z : ByteArray} (h : z.size = 0) : AllIn cs z = true := by
 have : z.data.toList = [] := List.eq_nil_of_length_eq_zero (by rw [← Lib.size_eq]; exact h)
 unfold AllIn
 rw [this]
 rfl
def TrimTold (s : ByteArray) (cs : List UInt8) (w : World) (e : Ending) (w' : World) : Prop := (∃ z : ByteArray, e = .returned (.string z) ∧ z.size ≤ s.size ∧ ((AllIn cs s = true ∧ z.size = 0) ∨ (AllIn cs s = false ∧ AllIn cs z = false))) ∧ w' = w

set_option maxRecDepth 100000 in
set_option maxHeartbeats 2000000 in
theorem trimRight_any (s : ByteArray) (w : World) (b : Nat) (cs : List UInt8) (hs : s.size ≤ 9223372036854775807) (hc : SetAt w b cs) :
  Calls Tryz.prog 154 #[.string s, .pointer (some ⟨b, 0, none⟩)] w (TrimTold s cs w) := by
 have HC := Lib.hid hc
 clear hc
 go_enter Tryz.func154, Tryz.ntmps154
 go_wp2
 go_loopg [0] s.size (fun g s0 wx => ∃ z : ByteArray, s0 = .string z ∧ z.size = g ∧ z.size ≤ s.size ∧ wx = w ∧ Hid (AllIn cs s = AllIn cs z))
 case atStart => exact ⟨s, rfl, rfl, Nat.le_refl _, rfl, Lib.hid rfl⟩
 case round =>
  obtain ⟨z, rfl, hg, hle, rfl, HA⟩ := hrel
  cases gk with
  | zero =>
   have hz0 : ¬ (0 : Int) < (z.size : Int) := by omega
   go_wp2
   go_ret
   exact ⟨⟨z, rfl, hle, .inl ⟨HA.out.trans (allIn_nil hg), hg⟩⟩, rfl⟩
  | succ m =>
   obtain ⟨x, hx, hxi⟩ := list_split hg
   have hz0 : (0 : Int) < (z.size : Int) := by omega
   have hzm : (z.size : Int) - 1 = (m : Int) := by omega
   have hmz : m < z.size := by omega
   have hmi : (m : Int) < (z.size : Int) := by omega
   have hm0 : (0 : Int) ≤ (m : Int) := by omega
   have hml : (m : Int) ≤ (z.size : Int) := by omega
   have HX := Lib.hid hx
   have hcx := contains_any b x _ wr (HC.out x)
   cases hin : cs.contains x with
   | false =>
    rw [hin] at hcx
    have HIN := Lib.hid hin
    clear hx hin
    go_wp2_with (go_at_call 187; refine hcx.mono ?_; rintro e w' ⟨rfl, rfl⟩)
    go_ret
    have hf : AllIn cs z = false := by
     unfold AllIn
     rw [HX.out, List.all_append]
     simp only [List.all_cons, List.all_nil, Bool.and_true]
     rw [HIN.out, Bool.and_false]
    exact ⟨⟨z, rfl, hle, .inr ⟨HA.out.trans hf, hf⟩⟩, rfl⟩
   | true =>
    rw [hin] at hcx
    have HIN := Lib.hid hin
    have hez : (z.extract 0 m).data.toList = z.data.toList.take m := by rw [Lib.extract_data]; simp
    have hes : (z.extract 0 m).size = m := by rw [Lib.size_eq, hez, List.length_take, ← Lib.size_eq]; omega
    have hA2 : AllIn cs z = AllIn cs (z.extract 0 m) := by
     unfold AllIn
     rw [hez]
     conv => lhs; rw [HX.out, List.all_append]
     simp only [List.all_cons, List.all_nil, Bool.and_true]
     rw [HIN.out, Bool.and_true]
    have HA2 := Lib.hid hA2
    have HES := Lib.hid hes
    clear hx hin hez hes hA2
    go_wp2_with (go_at_call 187; refine hcx.mono ?_; rintro e w' ⟨rfl, rfl⟩)
    go_roundg m
    case measure => omega
    case rel => exact ⟨z.extract 0 m, by rfl, HES.out, by have := HES.out; omega, rfl, Lib.hid (HA.out.trans HA2.out)⟩

set_option maxRecDepth 100000 in
set_option maxHeartbeats 2000000 in
theorem trimLeft_any (s : ByteArray) (w : World) (b : Nat) (cs : List UInt8) (hc : SetAt w b cs) :
  Calls Tryz.prog 153 #[.string s, .pointer (some ⟨b, 0, none⟩)] w (TrimTold s cs w) := by
 have HC := Lib.hid hc
 clear hc
 go_enter Tryz.func153, Tryz.ntmps153
 go_wp2
 go_loopg [0] s.size (fun g s0 wx => ∃ z : ByteArray, s0 = .string z ∧ z.size = g ∧ z.size ≤ s.size ∧ wx = w ∧ Hid (AllIn cs s = AllIn cs z))
 case atStart => exact ⟨s, rfl, rfl, Nat.le_refl _, rfl, Lib.hid rfl⟩
 case round =>
  obtain ⟨z, rfl, hg, hle, rfl, HA⟩ := hrel
  cases gk with
  | zero =>
   have hz0 : ¬ (0 : Int) < (z.size : Int) := by omega
   go_wp2
   go_ret
   exact ⟨⟨z, rfl, hle, .inl ⟨HA.out.trans (allIn_nil hg), hg⟩⟩, rfl⟩
  | succ m =>
   obtain ⟨x, hx, hxi⟩ := list_front hg
   have hz0 : (0 : Int) < (z.size : Int) := by omega
   have hmz : 0 < z.size := by omega
   have hml : (1 : Int) ≤ (z.size : Int) := by omega
   have HX := Lib.hid hx
   have hcx := contains_any b x _ wr (HC.out x)
   cases hin : cs.contains x with
   | false =>
    rw [hin] at hcx
    have HIN := Lib.hid hin
    clear hx hin
    go_wp2_with (go_at_call 187; refine hcx.mono ?_; rintro e w' ⟨rfl, rfl⟩)
    go_ret
    have hf : AllIn cs z = false := by
     unfold AllIn
     rw [HX.out, List.all_cons, HIN.out, Bool.false_and]
    exact ⟨⟨z, rfl, hle, .inr ⟨HA.out.trans hf, hf⟩⟩, rfl⟩
   | true =>
    rw [hin] at hcx
    have HIN := Lib.hid hin
    have hez : (z.extract 1 z.size).data.toList = z.data.toList.drop 1 := Lib.extract_to_end z 1
    have hes : (z.extract 1 z.size).size = m := by rw [Lib.size_eq, hez, List.length_drop, ← Lib.size_eq]; omega
    have hA2 : AllIn cs z = AllIn cs (z.extract 1 z.size) := by
     unfold AllIn
     rw [hez]
     conv => lhs; rw [HX.out, List.all_cons, HIN.out, Bool.true_and]
    have HA2 := Lib.hid hA2
    have HES := Lib.hid hes
    clear hx hin hez hes hA2
    go_wp2_with (go_at_call 187; refine hcx.mono ?_; rintro e w' ⟨rfl, rfl⟩)
    go_roundg m
    case measure => omega
    case rel => exact ⟨z.extract 1 z.size, by rw [hg], HES.out, by have := HES.out; omega, rfl, Lib.hid (HA.out.trans HA2.out)⟩

def TrimmedTold (s : ByteArray) (cs : List UInt8) (w : World) (e : Ending) (w' : World) : Prop := (∃ z : ByteArray, e = .returned (.string z) ∧ (z.size == 0) = AllIn cs s) ∧ Below w.heap.size w w'
theorem isEmpty_size (z : ByteArray) : z.toList.isEmpty = (z.size == 0) := by
 rw [Lib.toList_data]
 have := Lib.size_eq z
 cases h : z.data.toList with
 | nil => rw [h] at this; simp at this; simp [this]
 | cons a r => rw [h] at this; simp at this; simp [this]
set_option maxRecDepth 100000 in
set_option maxHeartbeats 4000000 in
theorem trim_any (s cut : ByteArray) (w : World) (hs : s.size ≤ 9223372036854775807) (h2 : 2 ≤ cut.size) (hcs : cut.size < 4294967281) (hascii : ∀ (j : Nat) b, cut.data.toList[j]? = some b → b.toNat < 128) :
  Calls Tryz.prog 102 #[.string s, .string cut] w (TrimmedTold s cut.data.toList w) := by
 have hM := makeSet_any cut w hcs hascii
 have hemp : cut.toList.isEmpty = false := by
  rw [isEmpty_size]
  exact beq_eq_false_iff_ne.2 (by omega)
 have hn1 : ((cut.size : Int) == 1) = false := beq_eq_false_iff_ne.2 (by omega)
 clear hascii
 by_cases h0 : s.size = 0
 ·have hse : s.toList.isEmpty = true := by rw [isEmpty_size, h0]; rfl
  have HE : Hid ((s.size == 0) = AllIn cut.data.toList s) := Lib.hid (by rw [allIn_nil h0, h0]; rfl)
  clear hM h0
  go_enter Tryz.func102, Tryz.ntmps102
  go_wp2
  go_ret
  exact ⟨⟨s, rfl, HE.out⟩, Below.refl _ _⟩
 have hse : s.toList.isEmpty = false := by rw [isEmpty_size]; exact beq_eq_false_iff_ne.2 h0
 have hsz := Lib.setCells_size cut.data.toList
 obtain ⟨cs, hcs2⟩ : ∃ cs, cs = cut.data.toList := ⟨_, rfl⟩
 rw [← hcs2] at hM hsz ⊢
 clear hcs2
 have hsc : (storeCells ⟨w.heap.size + 1, 0, none⟩ (Lib.setCells cs).toList 0).run Tryz.prog ((w.alloc (.cells (Lib.setCells cs) 186)).alloc (.cells (Array.replicate 256 (.bool false)) 186)) = .ok () ((w.alloc (.cells (Lib.setCells cs) 186)).alloc (.cells (Lib.setCells cs) 186)) := by
  have := run_storeCells_new (P := Tryz.prog) (w.alloc (.cells (Lib.setCells cs) 186)) 186 (Array.replicate 256 (.bool false)) (Lib.setCells cs) (by rw [hsz]; kernel_rfl) (by rw [hsz, Array.size_replicate]) (Lib.setCells_one _)
  simpa using this
 have hcellAt : SetAt ((w.alloc (.cells (Lib.setCells cs) 186)).alloc (.cells (Lib.setCells cs) 186)) (w.heap.size + 1) cs := fun x => by
  rw [World.cell?_alloc_at _ _ _ _ (by simp), Lib.setCells_at]
 have HC := Lib.hid hcellAt
 have hzv : ∀ W, (zeroValue 186).run Tryz.prog W = .ok (.agg (Array.replicate 256 (.bool false))) W := fun _ => by kernel_rfl
 clear hcellAt h0
 go_enter Tryz.func102, Tryz.ntmps102
 go_wp2_with fail
 refine hM.mono ?_
 rintro e w' ⟨rfl, rfl⟩
 go_wp2_with fail
 refine (trimRight_any s _ (w.heap.size + 1) cs hs HC.out).mono ?_
 rintro e w1 ⟨⟨z, rfl, hz, hca⟩, rfl⟩
 have HCA := Lib.hid hca
 clear hca
 go_wp2_with fail
 refine (trimLeft_any z _ (w.heap.size + 1) cs HC.out).mono ?_
 rintro e w1 ⟨⟨y, rfl, hy, hcb⟩, rfl⟩
 have HY : Hid ((y.size == 0) = AllIn cs s) := Lib.hid (by
  rcases HCA.out with ⟨a1, a2⟩ | ⟨a1, a2⟩
  ·rw [a1]
   rcases hcb with ⟨_, b2⟩ | ⟨b1, _⟩
   ·rw [b2]; rfl
   ·rw [allIn_nil a2] at b1; cases b1
  ·rw [a1]
   rcases hcb with ⟨b1, _⟩ | ⟨_, b2⟩
   ·rw [a2] at b1; cases b1
   ·refine beq_eq_false_iff_ne.2 (fun h => ?_)
    rw [allIn_nil h] at b2
    cases b2)
 clear hcb hsc
 go_wp2
 go_ret
 exact ⟨⟨y, rfl, HY.out⟩, ((Below.refl _ _).alloc (Nat.le_refl _) _).alloc (by simp) _⟩
end Go.Proofs.YthaibekbefndlaaGreatDoor.C

namespace Go.Proofs.YthaibekbefndlaaGreatDoor.C
open Go.RowKit

set_option maxRecDepth 100000 in
set_option maxHeartbeats 1000000 in
theorem isOf_any (cut s : ByteArray) (w : World) (r : Bool) (hr : (!(s.size == 0) && AllIn cut.data.toList s) = r) (hs : s.size ≤ 9223372036854775807) (h2 : 2 ≤ cut.size) (hcs : cut.size < 4294967281) (hascii : ∀ (j : Nat) b, cut.data.toList[j]? = some b → b.toNat < 128) :
  Calls Tryz.prog 57 #[.string cut, .string s] w fun e w' => e = .returned (.bool r) ∧ Below w.heap.size w w' := by
 have ht := trim_any s cut w hs h2 hcs hascii
 unfold TrimmedTold at ht
 by_cases h0 : s.size = 0
 ·have hse : s.toList.isEmpty = true := by rw [isEmpty_size, h0]; rfl
  have hrf : r = false := by rw [← hr, h0]; rfl
  subst hrf
  clear ht hr h0
  go_enter Tryz.func57, Tryz.ntmps57
  go_wp2
  go_ret
  exact ⟨rfl, Below.refl _ _⟩
 have hse : s.toList.isEmpty = false := by rw [isEmpty_size]; exact beq_eq_false_iff_ne.2 h0
 have hr2 : AllIn cut.data.toList s = r := by rw [← hr, beq_eq_false_iff_ne.2 h0]; rfl
 rw [hr2] at ht
 clear hr hr2 h0 hascii
 go_enter Tryz.func57, Tryz.ntmps57
 go_wp2_with fail
 refine ht.mono ?_
 rintro e w1 ⟨⟨z, rfl, hz⟩, hb⟩
 have hze : z.toList.isEmpty = r := by rw [isEmpty_size, hz]
 have HB := Lib.hid hb
 clear hz hb ht
 go_wp2
 go_ret
 exact ⟨rfl, HB.out⟩
def wSigns : ByteArray := ⟨#[97, 98, 99, 100, 101, 102, 103, 104, 105, 106, 107, 108, 109, 110, 111, 112, 113, 114, 115, 116, 117, 118, 119, 120, 121, 122, 65, 66, 67, 68, 69, 70, 71, 72, 73, 74, 75, 76, 77, 78, 79, 80, 81, 82, 83, 84, 85, 86, 87, 88, 89, 90, 48, 49, 50, 51, 52, 53, 54, 55, 56, 57, 45, 95]⟩
def hSigns : ByteArray := ⟨#[48, 49, 50, 51, 52, 53, 54, 55, 56, 57, 97, 98, 99, 100, 101, 102, 65, 66, 67, 68, 69, 70]⟩
theorem w_signs : ∀ b : UInt8, wSigns.data.toList.contains b = isW b := by
 have : ∀ n : Fin 256, wSigns.data.toList.contains (UInt8.ofNat n.val) = isW (UInt8.ofNat n.val) := by decide +kernel
 intro b
 have h := this ⟨b.toNat, UInt8.toNat_lt b⟩
 simpa using h
theorem h_signs : ∀ b : UInt8, hSigns.data.toList.contains b = (digV b).isSome := by
 have : ∀ n : Fin 256, hSigns.data.toList.contains (UInt8.ofNat n.val) = (digV (UInt8.ofNat n.val)).isSome := by decide +kernel
 intro b
 have h := this ⟨b.toNat, UInt8.toNat_lt b⟩
 simpa using h
theorem w_ascii : ∀ (j : Nat) b, wSigns.data.toList[j]? = some b → b.toNat < 128 := by
 intro j b hb
 have := List.mem_of_getElem? hb
 revert this
 exact (show ∀ b ∈ wSigns.data.toList, b.toNat < 128 by decide) b
theorem h_ascii : ∀ (j : Nat) b, hSigns.data.toList[j]? = some b → b.toNat < 128 := by
 intro j b hb
 have := List.mem_of_getElem? hb
 revert this
 exact (show ∀ b ∈ hSigns.data.toList, b.toNat < 128 by decide) b
theorem all_eq {α : Type} {p q : α → Bool} (h : ∀ x, p x = q x) (l : List α) : l.all p = l.all q := by rw [show p = q from funext h]
theorem isEmpty_list (s : ByteArray) : (s.size == 0) = s.data.toList.isEmpty := by rw [← isEmpty_size, Lib.toList_data]
theorem isWord_any (s : ByteArray) (w : World) (hs : s.size ≤ 9223372036854775807) : Calls Tryz.prog 57 #[.string ⟨#[97, 98, 99, 100, 101, 102, 103, 104, 105, 106, 107, 108, 109, 110, 111, 112, 113, 114, 115, 116, 117, 118, 119, 120, 121, 122, 65, 66, 67, 68, 69, 70, 71, 72, 73, 74, 75, 76, 77, 78, 79, 80, 81, 82, 83, 84, 85, 86, 87, 88, 89, 90, 48, 49, 50, 51, 52, 53, 54, 55, 56, 57, 45, 95]⟩, .string s] w fun e w' => e = .returned (.bool (wordlyB s.data.toList)) ∧ Below w.heap.size w w' :=
 isOf_any wSigns s w _ (by unfold wordlyB AllIn; rw [isEmpty_list, all_eq w_signs]) hs (by decide) (by decide) w_ascii
theorem isHex_any (s : ByteArray) (w : World) (hs : s.size ≤ 9223372036854775807) : Calls Tryz.prog 57 #[.string ⟨#[48, 49, 50, 51, 52, 53, 54, 55, 56, 57, 97, 98, 99, 100, 101, 102, 65, 66, 67, 68, 69, 70]⟩, .string s] w fun e w' => e = .returned (.bool (!s.data.toList.isEmpty && s.data.toList.all fun b => (digV b).isSome)) ∧ Below w.heap.size w w' :=
 isOf_any hSigns s w _ (by unfold AllIn; rw [isEmpty_list, all_eq h_signs]) hs (by decide) (by decide) h_ascii
theorem hexN_all : ∀ (d : List UInt8) (n : Nat), (hexN d n).isSome = d.all fun b => (digV b).isSome
 | [], n => rfl
 | b :: r, n => by
  unfold hexN
  cases h : digV b with
  | none => simp [h]
  | some v =>
   simp only [List.all_cons, h, Option.isSome_some, Bool.true_and]
   exact hexN_all r _

set_option maxRecDepth 100000 in
set_option maxHeartbeats 2000000 in
theorem isRange_any (w : World) (r : Int × Int) : Calls Tryz.prog 59 #[.agg #[.int .i32 r.1, .int .i32 r.2]] w fun e w' => e = .returned (.bool (rangeB r)) ∧ Below w.heap.size w w' := by
 obtain ⟨a, b⟩ := r
 obtain ⟨W, hW⟩ : ∃ W, W = w.alloc (.cells #[.int .i32 a, .int .i32 b] 51) := ⟨_, rfl⟩
 have hb : Below w.heap.size w W := by rw [hW]; exact (Below.refl _ _).alloc (Nat.le_refl _) _
 have HB := Lib.hid hb
 have h1 := fun W => isScalar_any a W
 have h2 := fun W => isScalar_any b W
 have hr : rangeB (a, b) = (scalB a && scalB b && decide (a ≤ b)) := rfl
 rw [hr]
 clear hr hb
 have hal : ∀ W, Calls Tryz.prog 63 #[.int .i32 a] W fun e w' => e = .returned (.bool (scalB a)) ∧ w' = W := h1
 cases ha : scalB a with
 | false =>
  rw [ha] at h1
  clear h2
  go_enter Tryz.func59, Tryz.ntmps59
  go_wp2_with (go_at_call 63; refine (h1 _).mono ?_; rintro e w' ⟨rfl, rfl⟩)
  go_ret
  rw [← hW]
  exact ⟨rfl, HB.out⟩
 | true =>
  rw [ha] at h1
  cases hb2 : scalB b with
  | false =>
   rw [hb2] at h2
   clear ha hb2 hal
   go_enter Tryz.func59, Tryz.ntmps59
   go_wp2_with (first
    | (go_at_call 63; with_reducible refine (h1 _).mono ?_; rintro e w' ⟨rfl, rfl⟩)
    | (go_at_call 63; with_reducible refine (h2 _).mono ?_; rintro e w' ⟨rfl, rfl⟩))
   go_ret
   rw [← hW]
   exact ⟨rfl, HB.out⟩
  | true =>
   rw [hb2] at h2
   clear ha hb2 hal
   go_enter Tryz.func59, Tryz.ntmps59
   go_wp2_with (first
    | (go_at_call 63; with_reducible refine (h1 _).mono ?_; rintro e w' ⟨rfl, rfl⟩)
    | (go_at_call 63; with_reducible refine (h2 _).mono ?_; rintro e w' ⟨rfl, rfl⟩))
   go_ret
   rw [← hW]
   exact ⟨rfl, HB.out⟩
end Go.Proofs.YthaibekbefndlaaGreatDoor.C
