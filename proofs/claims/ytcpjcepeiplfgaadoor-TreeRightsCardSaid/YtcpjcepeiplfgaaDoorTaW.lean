/-
  Words that name no function of a program: frames, owned rows, drawn statements. No condition.
-/
import Derived.Test.YtcpjcepeiplfgaaDoorLnW
import Derived.OrdersHeld
import Derived.Lib.SmallJoins
import Derived.Deep.AppendLies
import Derived.OwnWalk
namespace Go.Proofs.YtcpjcepeiplfgaaDoor.C
open Go.RowKit

theorem below_drew {B : Nat} {a w : World} (h : Below B a w) : Below B a w.drew := ⟨h.os, h.tape, h.output, h.size, h.block⟩
theorem heap_lt (w : World) (o : Obj) {j : Nat} (h : j < w.heap.size) : (w.alloc o).heap[j]? = w.heap[j]? := by
  show (w.heap.push o)[j]? = _
  rw [Array.getElem?_push, if_neg (by omega)]
section
variable {P : Program} {ops : Array Oper} {Q : Exit → Act → World → Prop} {md : Region.Mode} {S : World → Prop}
/-- whatever order is picked from here on, and S holds behind every operation but number L -/
def wpAnyE (P : Program) (md : Region.Mode) (ops : Array Oper) (Q : Exit → Act → World → Prop) (S : World → Prop) (L : Nat) : Nat → Array Bool → Act → World → Prop
  | 0, listed, a, w => Region.ready md ops listed = [] ∧ Q .normal a w
  | fuel + 1, listed, a, w =>
    (Region.ready md ops listed = [] → Q .normal a w) ∧
    ∀ i ∈ Region.ready md ops listed, wpOp P ops Q i (fun a' w' => (i ≠ L → S w') ∧ wpAnyE P md ops Q S L fuel (listed.setIfInBounds i true) a' w') a w
theorem wpAny_of_E {L : Nat} : ∀ (fuel : Nat) (listed : Array Bool) (a : Act) (w : World), wpAnyE P md ops Q S L fuel listed a w → wpAny P md ops Q fuel listed a w
  | 0, _, _, _, h => h
  | fuel + 1, _, _, _, h => ⟨h.1, fun i hi => wpOp_mono (fun a' w' h' => wpAny_of_E fuel _ a' w' h'.2) (h.2 i hi)⟩
/-- operation L waits for operation i -/
def waitsFor (md : Region.Mode) (ops : Array Oper) (L i : Nat) : Bool := match ops[L]? with
  | some o => o.after.any fun e => Region.binds md e && (e.on == i)
  | none => false
theorem wpAnyE_first {L i : Nat} {oi : Oper} {v : Value} (hi : ops[i]? = some oi) (hsel : ∀ (j : Nat) (o : Oper) cs b, ops[j]? = some o → o.op ≠ .select cs b) (hL : waitsFor md ops L i = true)
    (hQ : ∀ c a w, Q (.panic c) (a.put oi.dst v) w → Q (.panic c) a w) :
    ∀ (fuel : Nat) (listed : Array Bool) (a : Act) (w : World),
      (∀ j oj, ops[j]? = some oj → j ≠ i → listed.getD j true = false → (∀ e ∈ oj.after, Region.binds md e = true → e.on ≠ i) → oi.apart ops oj = true) →
      i ∈ Region.ready md ops listed → YieldsIf P ops S oi v a → S w →
      wpAnyE P md ops Q S L fuel (listed.setIfInBounds i true) (a.put oi.dst v) w → wpAnyE P md ops Q S L (fuel + 1) listed a w := by
  intro fuel
  induction fuel with
  | zero =>
    intro listed a w _ hr hy hS H
    refine ⟨fun h => (by rw [h] at hr; cases hr), fun j hj => ?_⟩
    by_cases hji : j = i
    · subst hji; exact hy.wpOp hi hS ⟨fun _ => hS, H⟩
    · have := ready_mono hj hji
      rw [H.1] at this
      cases this
  | succ fuel ih =>
    intro listed a w hfree hr hy hS H
    refine ⟨fun h => (by rw [h] at hr; cases hr), fun j hj => ?_⟩
    by_cases hji : j = i
    · subst hji; exact hy.wpOp hi hS ⟨fun _ => hS, H⟩
    · have h1 := H.2 j (ready_mono hj hji)
      obtain ⟨hjun, oj, hoj, hall⟩ := mem_ready.1 hj
      have hnot : ∀ e ∈ oj.after, Region.binds md e = true → e.on ≠ i := fun e he hb heq => by
        have h1 := hall e he hb
        have h0 := (mem_ready.1 hr).1
        rw [heq] at h1
        rcases Nat.lt_or_ge i listed.size with h' | h'
        · simp [h'] at h0 h1; rw [h0] at h1; cases h1
        · simp [Array.getElem?_eq_none h'] at h1
      have hjL : j ≠ L := by
        rintro rfl
        unfold waitsFor at hL
        rw [hoj] at hL
        simp only [Array.any_eq_true] at hL
        obtain ⟨q, hq, he⟩ := hL
        simp only [Bool.and_eq_true, beq_iff_eq] at he
        exact hnot _ (Array.getElem_mem hq) he.1 he.2
      have h2 := wpOp_putIf hoj (hfree j oj hoj hji hjun hnot) (fun cs b => hsel i oi cs b hi) (fun cs b => hsel j oj cs b hoj) hQ hy h1
      have hfree' : ∀ k ok, ops[k]? = some ok → k ≠ i → (listed.setIfInBounds j true).getD k true = false →
          (∀ e ∈ ok.after, Region.binds md e = true → e.on ≠ i) → oi.apart ops ok = true := fun k ok hk hki hun hno => by
        refine hfree k ok hk hki ?_ hno
        by_cases hjk : j = k
        · subst hjk; exact hjun
        · rw [getD_set_ne true hjk] at hun; exact hun
      refine wpOp_mono (fun a' w' h3 => ⟨fun _ => h3.2.1 hjL, ih (listed.setIfInBounds j true) a' w' hfree' (ready_mono hr (Ne.symm hji)) h3.1 (h3.2.1 hjL) ?_⟩) h2
      rw [Array.setIfInBounds_comm _ _ hji]
      exact h3.2.2
/-- take number i first -/
theorem wpAnyE_take {L i : Nat} {oi : Oper} {v : Value} {fuel : Nat} {listed : Array Bool} {a : Act} {w : World} (hi : ops[i]? = some oi)
    (hs : Region.noSelect ops = true) (hf : Region.free md ops listed i = true) (hr : (Region.ready md ops listed).contains i = true) (hL : waitsFor md ops L i = true)
    (hQ : ∀ c a w, Q (.panic c) (a.put oi.dst v) w → Q (.panic c) a w) (hy : YieldsIf P ops S oi v a) (hS : S w)
    (h : wpAnyE P md ops Q S L fuel (listed.setIfInBounds i true) (a.put oi.dst v) w) : wpAnyE P md ops Q S L (fuel + 1) listed a w :=
  wpAnyE_first hi (Region.noSelect_spec hs) hL hQ fuel listed a w (Region.free_spec hi hf) (by simpa using hr) hy hS h
/-- one alone may come up -/
theorem wpAnyE_one {L i : Nat} {o : Oper} {fuel : Nat} {listed : Array Bool} {a : Act} {w : World} (hr : Region.ready md ops listed = [i]) (ho : ops[i]? = some o)
    (h : ∀ K : Act → World → Prop, Hid (∀ a' w', (i ≠ L → S w') → ((i ≠ L → S w') → wpAnyE P md ops Q S L fuel (listed.setIfInBounds i true) a' w') → K a' w') →
      if Region.wanted o (yielded ops a.tmps) = true then Oper.wp P o a w K Q else K (a.put o.dst undef) w) : wpAnyE P md ops Q S L (fuel + 1) listed a w := by
  refine ⟨fun h0 => (by rw [hr] at h0; cases h0), fun j hj => ?_⟩
  rw [hr, List.mem_singleton] at hj
  subst hj
  have h1 := h (fun a' w' => (j ≠ L → S w') ∧ wpAnyE P md ops Q S L fuel (listed.setIfInBounds j true) a' w') (Lib.hid fun a' w' hs hh => ⟨hs, hh hs⟩)
  unfold wpOp
  simp only [ho]
  split
  · rename_i hw
    rw [if_pos hw] at h1
    exact .inl h1
  · rename_i hw
    rw [if_neg hw] at h1
    exact h1
theorem wpAnyE_done {L : Nat} {listed : Array Bool} {a : Act} {w : World} (hr : Region.ready md ops listed = []) (h : Q .normal a w) : ∀ fuel, wpAnyE P md ops Q S L fuel listed a w
  | 0 => ⟨hr, h⟩
  | _ + 1 => ⟨fun _ => h, by rw [hr]; simp⟩
theorem wp_region_E {L id : Nat} {a : Act} {w : World} (hm : P.follows .mixedOrders = true)
    (h : wpAnyE P .any ops Q S L ops.size (Array.replicate ops.size false) a w.drew) : (Code.region id ops true).wp P Q a w :=
  wp_region_any hm (wpAny_of_E _ _ _ _ h)
end
/-- of the blocks that stood, only these may have turned -/
structure Fr (w w' : World) (X : Nat → Prop) : Prop where
  os : w'.os = w.os
  tape : w'.tape = w.tape
  output : w'.output = w.output
  size : w.heap.size ≤ w'.heap.size
  block : ∀ b, b < w.heap.size → ¬ X b → w'.heap[b]? = w.heap[b]?
section
variable {a b c w w' : World} {X Y : Nat → Prop}
theorem Fr.of_grown {row : Option Nat} (h : w.grownBy w' row) : Fr w w' (fun j => row = some j) := ⟨h.os, h.tape, h.output, h.size, fun j hj hn => h.block j hj (fun e => hn e.symm)⟩
theorem Fr.of_below (h : Below w.heap.size w w') : Fr w w' X := ⟨h.os, h.tape, h.output, h.size, fun j hj _ => h.block j hj⟩
theorem Fr.trans (h : Fr a b X) (k : Fr b c X) : Fr a c X := ⟨k.os.trans h.os, k.tape.trans h.tape, k.output.trans h.output, Nat.le_trans h.size k.size, fun j hj hn => (k.block j (Nat.lt_of_lt_of_le hj h.size) hn).trans (h.block j hj hn)⟩
theorem Fr.mono (h : Fr a b X) (hX : ∀ j, j < a.heap.size → X j → Y j) : Fr a b Y := ⟨h.os, h.tape, h.output, h.size, fun j hj hn => h.block j hj (fun hx => hn (hX j hj hx))⟩
/-- what comes behind may touch what is new, too -/
theorem Fr.next (h : Fr a b X) (k : Fr b c Y) (hY : ∀ j, j < a.heap.size → Y j → X j) : Fr a c X := ⟨k.os.trans h.os, k.tape.trans h.tape, k.output.trans h.output, Nat.le_trans h.size k.size, fun j hj hn => (k.block j (Nat.lt_of_lt_of_le hj h.size) (fun hy => hn (hY j hj hy))).trans (h.block j hj hn)⟩
theorem Fr.alloc (h : Fr a b X) (o : Obj) : Fr a (b.alloc o) X := h.trans (.of_below ((Below.refl _ _).alloc (Nat.le_refl _) o))
theorem Fr.drew (h : Fr a b X) : Fr a b.drew X := ⟨h.os, h.tape, h.output, h.size, h.block⟩
theorem Fr.set (h : Fr a b X) (p : Addr) (u : Value) (hp : p.block < a.heap.size → X p.block) : Fr a (b.setCell p u) X :=
  ⟨h.os, h.tape, h.output, by simpa [World.setCell] using h.size, fun j hj hn => (Below.heap_setCell b p u j (fun e => hn (e ▸ hp (e ▸ hj)))).trans (h.block j hj hn)⟩
theorem Fr.below {B : Nat} (h : Fr a b X) (hX : ∀ j, j < a.heap.size → X j → B ≤ j) (hB : B ≤ a.heap.size) : Below B a b := ⟨h.os, h.tape, h.output, h.size, fun j hj => h.block j (by omega) (fun hx => by have := hX j (by omega) hx; omega)⟩
theorem ownsRow_fr {base size n : Nat} {e : TypeId} {v : Value} {xs : List Value} (h : w.ownsRow base e size v n xs) (hf : Fr w w' X) (hx : ∀ g, v.ownBlock = some g → ¬ X g) : w'.ownsRow base e size v n xs := by
  have hl := h.lt
  obtain ⟨h1, h2⟩ := h
  refine ⟨h1, h2.imp id ?_⟩
  rintro ⟨g, cap, cur, rfl, hg, hh, r⟩
  exact ⟨g, cap, cur, rfl, hg, (hf.block g (hl g rfl).2 (hx g rfl)).trans hh, r⟩
end
theorem set_row {w : World} {R i : Nat} {l : List Value} {t : TypeId} (h : w.heap[R]? = some (.cells l.toArray t (0, 0))) (u : Value) : (w.setCell ⟨R, i, none⟩ u).heap[R]? = some (.cells (l.set i u).toArray t (0, 0)) := by
  obtain ⟨hlt, hk⟩ := Array.getElem?_eq_some_iff.1 h
  show (w.heap.modify R _)[R]? = _
  rw [Array.getElem?_eq_getElem (by rw [Array.size_modify]; exact hlt), Array.getElem_modify_self, hk]
  simp
theorem ownsRow_ty {w : World} {base size n : Nat} {e : TypeId} {v : Value} {xs : List Value} (h : w.ownsRow base e size v n xs) {g : Nat} (hg : v.ownBlock = some g) : ∃ c, w.heap[g]? = some (.cells c e (0, 0)) := by
  rcases h.2 with ⟨rfl, _⟩ | ⟨g', cap, cur, rfl, _, hh, _⟩
  · cases hg
  · injection hg with hg
    subst hg
    exact ⟨cur, hh⟩
/-- a slice of structs of sz cells each: its value (address A, length n) reads as these rows of cells, below block B; nil let in -/
def SI (sz : Nat) (w : World) (B : Nat) (A : Option Addr) (n : Nat) (xs : List (List Value)) : Prop :=
  xs.length = n ∧ (∀ x ∈ xs, x.length = sz) ∧ (0 < n → ∃ ad, A = some ad ∧ ad.block < B ∧ ∀ j x, xs[j]? = some x → ∀ i u, x[i]? = some u → w.cell? (ad.add (j * sz + i)) = some u)
section
variable {sz : Nat} {w w' : World} {B B' n : Nat} {A : Option Addr} {xs : List (List Value)}
theorem SI.len (h : SI sz w B A n xs) : xs.length = n := h.1
theorem SI.nil (sz : Nat) (w : World) (B : Nat) (A : Option Addr) : SI sz w B A 0 [] := ⟨rfl, by simp, fun h => absurd h (by omega)⟩
theorem SI.keep (h : SI sz w B A n xs) (hk : ∀ p : Addr, p.block < B → w'.cell? p = w.cell? p) : SI sz w' B A n xs :=
  ⟨h.1, h.2.1, fun hn => by
    obtain ⟨ad, e, hb, hc⟩ := h.2.2 hn
    exact ⟨ad, e, hb, fun j x hx i u hu => (hk _ (by rw [block_of_add]; exact hb)).trans (hc j x hx i u hu)⟩⟩
theorem SI.more (h : SI sz w B A n xs) (hB : B ≤ B') : SI sz w B' A n xs :=
  ⟨h.1, h.2.1, fun hn => by
    obtain ⟨ad, e, hb, hc⟩ := h.2.2 hn
    exact ⟨ad, e, by omega, hc⟩⟩
theorem SI.on (h : SI sz w B A n xs) (hb : Below B' w w') (hB : B ≤ B') : SI sz w' B A n xs := h.keep fun p hp => hb.cell (p := p) (by omega)
theorem SI.drewN (h : SI sz w B A n xs) (k : Nat) : SI sz (w.drewN k) B A n xs := h
theorem SI.at_ (h : SI sz w B A n xs) {k : Nat} (hk : k < n) : ∃ ad x, A = some ad ∧ ad.block < B ∧ xs[k]? = some x ∧ x.length = sz ∧ ∀ i u, x[i]? = some u → w.cell? (ad.add (k * sz + i)) = some u := by
  obtain ⟨ad, e, hb, hc⟩ := h.2.2 (by omega)
  have hl : k < xs.length := by have := h.1; omega
  exact ⟨ad, xs[k], e, hb, List.getElem?_eq_getElem hl, h.2.1 _ (List.getElem_mem hl), hc k _ (List.getElem?_eq_getElem hl)⟩
theorem add_more' (a : Addr) (j i : Nat) (hi : 0 < i) : (⟨(a.add j).block, (a.add j).off + i, none⟩ : Addr) = a.add (j + i) := by
  unfold Addr.add
  by_cases h : j = 0
  · subst h
    rw [if_pos rfl, Nat.zero_add, if_neg (by omega)]
  · rw [if_neg h, if_neg (by omega), Nat.add_assoc]
end
theorem SI.at2 {w : World} {B n : Nat} {A : Option Addr} {xs : List (List Value)} (h : SI 2 w B A n xs) {k : Nat} (hk : k < n) : ∃ ad u v, A = some ad ∧ ad.block < B ∧ xs[k]? = some [u, v] ∧ w.cell? (ad.add (k * 2)) = some u ∧ w.cell? ⟨(ad.add (k * 2)).block, (ad.add (k * 2)).off + 1, none⟩ = some v := by
  obtain ⟨ad, x, e, hb, hx, hl, hc⟩ := h.at_ hk
  match x, hl with
  | [u, v], _ => exact ⟨ad, u, v, e, hb, hx, hc 0 u rfl, by rw [add_more' _ _ _ (by omega)]; exact hc 1 v rfl⟩
theorem SI.at3 {w : World} {B n : Nat} {A : Option Addr} {xs : List (List Value)} (h : SI 3 w B A n xs) {k : Nat} (hk : k < n) : ∃ ad u v z, A = some ad ∧ ad.block < B ∧ xs[k]? = some [u, v, z] ∧ w.cell? (ad.add (k * 3)) = some u ∧ w.cell? ⟨(ad.add (k * 3)).block, (ad.add (k * 3)).off + 1, none⟩ = some v ∧ w.cell? ⟨(ad.add (k * 3)).block, (ad.add (k * 3)).off + 2, none⟩ = some z := by
  obtain ⟨ad, x, e, hb, hx, hl, hc⟩ := h.at_ hk
  match x, hl with
  | [u, v, z], _ => exact ⟨ad, u, v, z, e, hb, hx, hc 0 u rfl, by rw [add_more' _ _ _ (by omega)]; exact hc 1 v rfl, by rw [add_more' _ _ _ (by omega)]; exact hc 2 z rfl⟩
theorem flat_at {sz : Nat} : ∀ {xs : List (List Value)} {j i : Nat} {x : List Value} {u : Value}, (∀ x ∈ xs, x.length = sz) → xs[j]? = some x → x[i]? = some u → xs.flatten[j * sz + i]? = some u
  | [], j, i, x, u, _, hx, _ => by simp at hx
  | y :: r, 0, i, x, u, h, hx, hu => by
    simp at hx
    subst hx
    have hi : i < y.length := (List.getElem?_eq_some_iff.1 hu).1
    rw [List.flatten_cons, List.getElem?_append_left (by omega)]
    simpa using hu
  | y :: r, j + 1, i, x, u, h, hx, hu => by
    have hy := h y (by simp)
    rw [List.flatten_cons, List.getElem?_append_right (by rw [hy, Nat.succ_mul]; omega), hy]
    have := flat_at (xs := r) (j := j) (fun z hz => h z (List.mem_cons_of_mem _ hz)) (by simpa using hx) hu
    rw [show (j + 1) * sz + i - sz = j * sz + i by rw [Nat.succ_mul]; omega]
    exact this
theorem SI.of_own {w : World} {base sz n c : Nat} {e : TypeId} {A : Option Addr} {xs : List (List Value)} (h : w.ownsRow base e sz (.slice A n c) n xs.flatten) (hl : xs.length = n) (hx : ∀ x ∈ xs, x.length = sz) : SI sz w w.heap.size A n xs := by
  refine ⟨hl, hx, fun hn => ?_⟩
  rcases h.2 with ⟨_, h0⟩ | ⟨g, cap, cur, he, _⟩
  · omega
  · injection he with he _ _
    subst he
    refine ⟨_, rfl, (h.lt g rfl).2, fun j x hj i u hu => ?_⟩
    exact h.cells rfl _ _ (flat_at hx hj hu)
theorem row_form {w : World} {lo n sz : Nat} {v : Value} {xs : List Value} {e : TypeId} (h : w.ownsRow lo e sz v n xs) : ∃ A c, v = .slice A n c := by
  rcases Joins.ownsRow_forms h with ⟨rfl, h0⟩ | ⟨g, c, rfl⟩
  · exact ⟨none, 0, by rw [h0]⟩
  · exact ⟨_, _, rfl⟩
theorem own_len {w : World} {lo n sz : Nat} {v : Value} {xs : List Value} {e : TypeId} (h : w.ownsRow lo e sz v n xs) : n ≤ maxLen := by
  rcases h.2 with ⟨_, h0⟩ | ⟨g, cap, cur, _, _, _, h1, h2, _⟩
  · rw [h0]; exact Nat.zero_le _
  · omega
/-- a variable of several cells -/
def Rw (w : World) (b : Nat) (t : TypeId) (xs : Array Value) : Prop := w.heap[b]? = some (.cells xs t (0, 0))
theorem Rw.lt {w : World} {b : Nat} {t : TypeId} {xs : Array Value} (h : Rw w b t xs) : b < w.heap.size := (Array.getElem?_eq_some_iff.1 h).1
theorem Rw.cell {w : World} {b : Nat} {t : TypeId} {xs : Array Value} (h : Rw w b t xs) {i : Nat} {v : Value} (hi : xs[i]? = some v) : w.cell? ⟨b, i, none⟩ = some v := by simp [World.cell?, show w.heap[b]? = _ from h, hi]
theorem Rw.on {w w' : World} {b B : Nat} {t : TypeId} {xs : Array Value} (h : Rw w b t xs) (hb : Below B w w') (hB : b < B) : Rw w' b t xs := (hb.block b hB).trans h
theorem own_next {w w' : World} {b n sz : Nat} {v : Value} {xs : List Value} {e : TypeId} (h : w.ownsRow b e sz v n xs) (hb : Below w.heap.size w w') : w'.ownsRow b e sz v n xs := ownsRow_fr h (X := fun _ => False) (.of_below hb) (by rintro _ _ ⟨⟩)
theorem own_low {w : World} {b b' n sz : Nat} {v : Value} {xs : List Value} {e : TypeId} (h : w.ownsRow b e sz v n xs) (hb : b' ≤ b) : w.ownsRow b' e sz v n xs := ⟨h.1, h.2.imp id fun ⟨g, cap, cur, a, c, d⟩ => ⟨g, cap, cur, a, Nat.le_trans hb c, d⟩⟩
theorem below_cell {w w' : World} (hb : Below w.heap.size w w') {p : Addr} {v : Value} (h : w.cell? p = some v) : w'.cell? p = some v := (hb.cell (p := p) (World.block_lt_of_cell? w _ h)).trans h
theorem own_newK {W : World} {B n sz : Nat} {e : TypeId} {l : List Value} (hB : B ≤ W.heap.size) (hl : l.length = n * sz) (hn : n ≤ maxLen) : (W.alloc (.cells l.toArray e)).ownsRow B e sz (.slice (some ⟨W.heap.size, 0, none⟩) n n) n l :=
  ⟨hl, .inr ⟨W.heap.size, n, l.toArray, rfl, hB, heap_alloc_new W _, Nat.le_refl _, hn, by simpa using hl, by rw [List.toList_toArray, List.take_of_length_le (by omega)]⟩⟩
section
variable {w0 w w' : World} {S T : Nat} {l : Loc} {v1 v2 v3 v4 : Value}
theorem row_neK {base sz n : Nat} {e t : TypeId} {v : Value} {xs : List Value} {b : Nat} {cs : Array Value} (h : w.ownsRow base e sz v n xs) (hb : w.heap[b]? = some (.cells cs t (0, 0))) (hne : t ≠ e) : v.ownBlock ≠ some b := by
  intro hg
  obtain ⟨c', hc'⟩ := ownsRow_ty h hg
  have := hb.symm.trans hc'
  simp at this
  exact hne this.2
theorem row_tyK {base sz n : Nat} {e : TypeId} {v : Value} {xs : List Value} (h : w.ownsRow base e sz v n xs) : ∀ g c z t, (v.ownBlock = some g) → w.heap[g]? = some (.cells c t z) → t = e := by
  intro g c z t hx hh
  obtain ⟨c', hc'⟩ := ownsRow_ty h hx
  have := hh.symm.trans hc'
  simp at this
  exact this.2.1
end
theorem keepN {w w' : World} {base sz n : Nat} {e : TypeId} {v : Value} {xs : List Value} {X : Nat → Prop} (h : w.ownsRow base e sz v n xs) (hf : Fr w w' X) (hx : ∀ g c z t, X g → w.heap[g]? = some (.cells c t z) → t ≠ e) : w'.ownsRow base e sz v n xs :=
  ownsRow_fr h hf fun g hg hX => by
    obtain ⟨c, hc⟩ := ownsRow_ty h hg
    exact hx g _ _ _ hX hc rfl
theorem wp_nameW {P : Program} {c : Code} {Q : Exit → Act → World → Prop} {a : Act} {w : World} (h : ∀ W, W = w → c.wp P Q a W) : c.wp P Q a w := h w rfl
theorem two_new (w : World) (a b : Value) (t : TypeId) : ∀ j u, [a, b][j]? = some u → (w.alloc (.cells #[a, b] t)).cell? ((⟨w.heap.size, 0, none⟩ : Addr).add j) = some u := by
  intro j u hu
  rw [add_plain, Nat.zero_add, World.cell?_alloc_new]
  simpa using hu
theorem trip_new (w : World) (k : Nat) (a b c : Value) (t : TypeId) (hk : w.heap.size = k) : ∀ j u, [a, b, c][j]? = some u → (w.alloc (.cells #[a, b, c] t)).cell? ((⟨k, 0, none⟩ : Addr).add j) = some u := by
  subst hk
  intro j u hu
  rw [add_plain, Nat.zero_add, World.cell?_alloc_new]
  simpa using hu
theorem wp_name {P : Program} {c : Code} {Q : Exit → Act → World → Prop} {a : Act} {w : World} (h : ∀ a', a' = a → c.wp P Q a' w) : c.wp P Q a w := h a rfl
def nums : List Nat := [0, 1, 2, 3, 4, 5, 6, 7, 8, 9, 10, 11, 12, 13, 14, 15, 16, 17, 18, 19, 20, 21, 22, 23, 24, 25, 26, 27, 28, 29, 30, 31, 32, 33, 34, 35, 36, 37, 38, 39, 40, 41, 42, 43, 44, 45, 46, 47, 48, 49, 50, 51, 52, 53, 54, 55, 56, 57, 58, 59, 60, 61, 62, 63, 64, 65, 66, 67, 68, 69, 70, 71, 72, 73, 74, 75, 76, 77, 78, 79, 80, 81, 82, 83, 84, 85, 86, 87, 88, 89, 90, 91, 92, 93, 94, 95, 96, 97, 98, 99, 100, 101, 102, 103, 104, 105, 106, 107, 108, 109, 110, 111, 112, 113, 114, 115, 116, 117, 118, 119]
def nextF (l : Array Bool) : List Nat := nums.drop (l.toList.findIdx (!·))
theorem g1 {α : Type} (xs : List α) (i : Nat) (v : α) : xs.toArray.setIfInBounds i v = (xs.set i v).toArray := List.setIfInBounds_toArray _ _ _
theorem g2 {α : Type} (x : α) (xs : List α) (v : α) : (x :: xs).set 0 v = v :: xs := rfl
theorem g3 {α : Type} (x : α) (xs : List α) (i : Nat) (v : α) : (x :: xs).set (i + 1) v = x :: xs.set i v := rfl
theorem g4 {α : Type} (xs : List α) (i : Nat) (h : i < xs.toArray.size) : xs.toArray[i] = xs[i]'(by simpa using h) := rfl
theorem g5 {α : Type} (x : α) (xs : List α) (i : Nat) (h : i + 1 < (x :: xs).length) : (x :: xs)[i + 1] = xs[i]'(by simpa using h) := rfl
theorem g6 {α : Type} (x : α) (xs : List α) (h : 0 < (x :: xs).length) : (x :: xs)[0] = x := rfl
section
variable {P : Program} {ops : Array Oper} {Q : Exit → Act → World → Prop} {md : Region.Mode} {S : World → Prop}
theorem wpHn (n : Nat) {oi : Oper} {v : Value} {fuel : Nat} {listed : Array Bool} {a : Act} {w : World} (hi : ops[n]? = some oi)
    (h : wpAnyH P md ops Q S fuel (listed.setIfInBounds n true) (a.put oi.dst v) w)
    (hb : (Region.noSelect ops && Region.free md ops listed n && (Region.ready md ops listed).contains n) = true := by kernel_rfl)
    (hQ : ∀ c a w, Q (.panic c) (a.put oi.dst v) w → Q (.panic c) a w := by exact fun _ _ _ h => h) (hw : Region.wanted oi (yielded ops a.tmps) = true := by rfl)
    (hy : ∀ x, S x → (execOp a.eval oi).run P x = .ok (.value v) x := by (intro x hx; (try dsimp only at hx); simp only [g4, g5, g6]; go_split_ands; go_simp; try with_reducible rfl)) (hS : S w := by assumption) : wpAnyH P md ops Q S (fuel + 1) listed a w := by
  simp only [Bool.and_eq_true] at hb
  exact wpAnyH_take hi hb.1.1 hb.1.2 hb.2 hQ (.inl ⟨hw, hy⟩) hS h
theorem wpHt (n : Nat) {oi : Oper} {fuel : Nat} {listed : Array Bool} {a : Act} {w : World} (hi : ops[n]? = some oi) (hw : Region.wanted oi (yielded ops a.tmps) = false)
    (h : wpAnyH P md ops Q S fuel (listed.setIfInBounds n true) (a.put oi.dst undef) w)
    (hb : (Region.noSelect ops && Region.free md ops listed n && (Region.ready md ops listed).contains n) = true := by kernel_rfl)
    (hQ : ∀ c a w, Q (.panic c) (a.put oi.dst undef) w → Q (.panic c) a w := by exact fun _ _ _ h => h) (hS : S w := by assumption) : wpAnyH P md ops Q S (fuel + 1) listed a w := by
  simp only [Bool.and_eq_true] at hb
  exact wpAnyH_take hi hb.1.1 hb.1.2 hb.2 hQ (.inr ⟨hw, rfl⟩) hS h
theorem wpEn (n : Nat) {L : Nat} {oi : Oper} {v : Value} {fuel : Nat} {listed : Array Bool} {a : Act} {w : World} (hi : ops[n]? = some oi)
    (h : wpAnyE P md ops Q S L fuel (listed.setIfInBounds n true) (a.put oi.dst v) w)
    (hb : (Region.noSelect ops && Region.free md ops listed n && (Region.ready md ops listed).contains n && waitsFor md ops L n) = true := by kernel_rfl)
    (hQ : ∀ c a w, Q (.panic c) (a.put oi.dst v) w → Q (.panic c) a w := by exact fun _ _ _ h => h) (hw : Region.wanted oi (yielded ops a.tmps) = true := by rfl)
    (hy : ∀ x, S x → (execOp a.eval oi).run P x = .ok (.value v) x := by (intro x hx; (try dsimp only at hx); simp only [g4, g5, g6]; go_split_ands; go_simp; try with_reducible rfl)) (hS : S w := by assumption) : wpAnyE P md ops Q S L (fuel + 1) listed a w := by
  simp only [Bool.and_eq_true] at hb
  exact wpAnyE_take hi hb.1.1.1 hb.1.1.2 hb.1.2 hb.2 hQ (.inl ⟨hw, hy⟩) hS h
theorem wpH {n : Nat} {r : List Nat} {oi : Oper} {v : Value} {fuel : Nat} {listed : Array Bool} {a : Act} {w : World} (_hn : nextF listed = n :: r) (hi : ops[n]? = some oi)
    (h : wpAnyH P md ops Q S fuel (listed.setIfInBounds n true) (a.put oi.dst v) w)
    (hb : (Region.noSelect ops && Region.free md ops listed n && (Region.ready md ops listed).contains n) = true := by kernel_rfl)
    (hQ : ∀ c a w, Q (.panic c) (a.put oi.dst v) w → Q (.panic c) a w := by exact fun _ _ _ h => h) (hw : Region.wanted oi (yielded ops a.tmps) = true := by rfl)
    (hy : ∀ x, S x → (execOp a.eval oi).run P x = .ok (.value v) x := by (intro x hx; (try dsimp only at hx); simp only [g4, g5, g6]; go_split_ands; go_simp; try with_reducible rfl)) (hS : S w := by assumption) : wpAnyH P md ops Q S (fuel + 1) listed a w :=
  wpHn n hi h hb hQ hw hy hS
theorem wpHs {n : Nat} {r : List Nat} {oi : Oper} {fuel : Nat} {listed : Array Bool} {a : Act} {w : World} (_hn : nextF listed = n :: r) (hi : ops[n]? = some oi) (hw : Region.wanted oi (yielded ops a.tmps) = false)
    (h : wpAnyH P md ops Q S fuel (listed.setIfInBounds n true) (a.put oi.dst undef) w)
    (hb : (Region.noSelect ops && Region.free md ops listed n && (Region.ready md ops listed).contains n) = true := by kernel_rfl)
    (hQ : ∀ c a w, Q (.panic c) (a.put oi.dst undef) w → Q (.panic c) a w := by exact fun _ _ _ h => h) (hS : S w := by assumption) : wpAnyH P md ops Q S (fuel + 1) listed a w :=
  wpHt n hi hw h hb hQ hS
theorem wpE {L n : Nat} {r : List Nat} {oi : Oper} {v : Value} {fuel : Nat} {listed : Array Bool} {a : Act} {w : World} (_hn : nextF listed = n :: r) (hi : ops[n]? = some oi)
    (h : wpAnyE P md ops Q S L fuel (listed.setIfInBounds n true) (a.put oi.dst v) w)
    (hb : (Region.noSelect ops && Region.free md ops listed n && (Region.ready md ops listed).contains n && waitsFor md ops L n) = true := by kernel_rfl)
    (hQ : ∀ c a w, Q (.panic c) (a.put oi.dst v) w → Q (.panic c) a w := by exact fun _ _ _ h => h) (hw : Region.wanted oi (yielded ops a.tmps) = true := by rfl)
    (hy : ∀ x, S x → (execOp a.eval oi).run P x = .ok (.value v) x := by (intro x hx; (try dsimp only at hx); simp only [g4, g5, g6]; go_split_ands; go_simp; try with_reducible rfl)) (hS : S w := by assumption) : wpAnyE P md ops Q S L (fuel + 1) listed a w :=
  wpEn n hi h hb hQ hw hy hS
end
/-- one alone may come up -/
theorem wpAnyH_one {P : Program} {ops : Array Oper} {Q : Exit → Act → World → Prop} {md : Region.Mode} {S : World → Prop} {i : Nat} {o : Oper} {fuel : Nat} {listed : Array Bool} {a : Act} {w : World} (hr : Region.ready md ops listed = [i]) (ho : ops[i]? = some o)
    (h : ∀ K : Act → World → Prop, Hid (∀ a' w', S w' → (S w' → wpAnyH P md ops Q S fuel (listed.setIfInBounds i true) a' w') → K a' w') →
      if Region.wanted o (yielded ops a.tmps) = true then Oper.wp P o a w K Q else K (a.put o.dst undef) w) : wpAnyH P md ops Q S (fuel + 1) listed a w := by
  refine ⟨fun h0 => (by rw [hr] at h0; cases h0), fun j hj => ?_⟩
  rw [hr, List.mem_singleton] at hj
  subst hj
  have h1 := h (fun a' w' => S w' ∧ wpAnyH P md ops Q S fuel (listed.setIfInBounds j true) a' w') (Lib.hid fun a' w' hs hh => ⟨hs, hh hs⟩)
  unfold wpOp
  simp only [ho]
  split
  · rename_i hw
    rw [if_pos hw] at h1
    exact .inl h1
  · rename_i hw
    rw [if_neg hw] at h1
    exact h1
theorem wpAnyH_two {P : Program} {ops : Array Oper} {Q : Exit → Act → World → Prop} {md : Region.Mode} {S : World → Prop} {i j : Nat} {oi oj : Oper} {fuel : Nat} {listed : Array Bool} {a : Act} {w : World} (hr : Region.ready md ops listed = [i, j]) (hi : ops[i]? = some oi) (hj : ops[j]? = some oj)
    (h1 : ∀ K : Act → World → Prop, Hid (∀ a' w', S w' → (S w' → wpAnyH P md ops Q S fuel (listed.setIfInBounds i true) a' w') → K a' w') →
      if Region.wanted oi (yielded ops a.tmps) = true then Oper.wp P oi a w K Q else K (a.put oi.dst undef) w)
    (h2 : ∀ K : Act → World → Prop, Hid (∀ a' w', S w' → (S w' → wpAnyH P md ops Q S fuel (listed.setIfInBounds j true) a' w') → K a' w') →
      if Region.wanted oj (yielded ops a.tmps) = true then Oper.wp P oj a w K Q else K (a.put oj.dst undef) w) : wpAnyH P md ops Q S (fuel + 1) listed a w := by
  refine ⟨fun h0 => (by rw [hr] at h0; cases h0), fun x hx => ?_⟩
  rw [hr] at hx
  rcases List.mem_cons.1 hx with rfl | hx
  · have k := h1 (fun a' w' => S w' ∧ wpAnyH P md ops Q S fuel (listed.setIfInBounds x true) a' w') (Lib.hid fun a' w' hs hh => ⟨hs, hh hs⟩)
    unfold wpOp
    simp only [hi]
    split
    · rename_i hw
      rw [if_pos hw] at k
      exact .inl k
    · rename_i hw
      rw [if_neg hw] at k
      exact k
  · rw [List.mem_singleton] at hx
    subst hx
    have k := h2 (fun a' w' => S w' ∧ wpAnyH P md ops Q S fuel (listed.setIfInBounds x true) a' w') (Lib.hid fun a' w' hs hh => ⟨hs, hh hs⟩)
    unfold wpOp
    simp only [hj]
    split
    · rename_i hw
      rw [if_pos hw] at k
      exact .inl k
    · rename_i hw
      rw [if_neg hw] at k
      exact k
theorem take_one {α : Type} {l : List α} {i : Nat} {x : α} (h : l[i]? = some x) : l.take (i + 1) = l.take i ++ [x] := by rw [List.take_add_one, h]; rfl
/-- the cells of a row of pairs of numbers -/
def prsC (l : List (Int × Int)) : List Value := l.flatMap fun x => [.int .i32 x.1, .int .i32 x.2]
def prRow (r : Int × Int) : List Value := [.int .i32 r.1, .int .i32 r.2]
/-- the cells of a slice of cells -/
def celC (c : List Int) : List Value := c.map (Value.int .i32)
end Go.Proofs.YtcpjcepeiplfgaaDoor.C
