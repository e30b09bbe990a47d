/-
  What stands while the tree of choices is made: its box, the places that are no kid's yet. No condition.
-/
import Derived.Test.YtcpjcepeiplfgaaDoorTaC
import Derived.WalkSmall
namespace Go.Proofs.YtcpjcepeiplfgaaDoor.C
open Go.RowKit

/-- blocks that no store of the loop touches -/
def XO (w : World) (S T U : Nat) (vo : Value) : Nat → Prop := fun b => S < b ∧ b ≠ T ∧ b ≠ U ∧ b < w.heap.size ∧ vo.ownBlock ≠ some b
structure TgSt (w0 : World) (S T U : Nat) (t : Tr) (o : List Int) (vo : Value) (w : World) : Prop where
  b : Below S w0 w
  tr : ∃ A c xs, Rw w T 34 #[.slice A t.ns.length c, .int .i64 t.g] ∧ NdsP w (XO w S T U vo) A t.ns xs ∧ AptW w A c xs
  o : w.ownsRow S 3 1 vo o.length (o.map (Value.int .i64))
  r : Rw w S 34 #[.slice none 0 0, .int .i64 0]
  st : S < T
section
variable {w0 w w' w2 : World} {S T U : Nat} {t t' : Tr} {o : List Int} {vo : Value}
theorem TgSt.lt (h : TgSt w0 S T U t o vo w) : T < w.heap.size := by
  obtain ⟨A, c, xs, h1, _⟩ := h.tr
  exact h1.lt
theorem TgSt.next (h : TgSt w0 S T U t o vo w) (hb : Below w.heap.size w w') : TgSt w0 S T U t o vo w' := by
  obtain ⟨A, c, xs, h1, h2, ha⟩ := h.tr
  refine ⟨h.b.trans (hb.mono (Nat.le_of_lt h.r.lt)), ⟨A, c, xs, h1.on hb h1.lt, (h2.keep (below_cells hb fun b hb => hb.2.2.2.1)).mono fun b _ hx => ?_, ha.keep h2 fun b hx => hb.block b hx.2.2.2.1⟩, own_next h.o hb, h.r.on hb h.r.lt, h.st⟩
  exact ⟨hx.1, hx.2.1, hx.2.2.1, Nat.lt_of_lt_of_le hx.2.2.2.1 hb.size, hx.2.2.2.2⟩
theorem TgSt.toU (h : TgSt w0 S T U t o vo w) {U' : Nat} (hU : w.heap.size ≤ U') : TgSt w0 S T U' t o vo w := by
  obtain ⟨A, c, xs, h1, h2, ha⟩ := h.tr
  exact ⟨h.b, ⟨A, c, xs, h1, h2.mono fun b _ hx => ⟨hx.1, hx.2.1, by have := hx.2.2.2.1; omega, hx.2.2.2.1, hx.2.2.2.2⟩, ha⟩, h.o, h.r, h.st⟩
theorem TgSt.neT (h : TgSt w0 S T U t o vo w) : vo.ownBlock ≠ some T := by
  obtain ⟨A, c, xs, h1, _⟩ := h.tr
  exact row_neK h.o h1 (by decide)
theorem TgSt.laid {A : Option Addr} {n c : Nat} (h : TgSt w0 S T U t o vo w) (hU : U < w.heap.size ∨ w2.heap.size ≤ U) (hb : Below w.heap.size w w2) (hO : NdsO w2 (w.heap.size + 3) (XO w S T U vo) (.slice A n c) t'.ns) (hn : n = t'.ns.length) : ∃ xs, NdsP w2 (XO w2 S T U vo) A t'.ns xs ∧ AptW w2 A c xs := by
  refine hO.readsA hn (fun b hb2 => ?_) (fun b hb2 => by have := hb2.2.2.2.1; omega)
  rcases hb2 with hx | ⟨h1, h2⟩
  · exact ⟨hx.1, hx.2.1, hx.2.2.1, Nat.lt_of_lt_of_le hx.2.2.2.1 hb.size, hx.2.2.2.2⟩
  · have hT := h.lt
    have hS := h.st
    refine ⟨by omega, by omega, by omega, h2, fun e => ?_⟩
    have := (h.o.lt b e).2
    omega
theorem TgSt.setT {A : Option Addr} {c : Nat} {xs : List (List Value)} (h : TgSt w0 S T U t o vo w) (hn : NdsP w (XO w S T U vo) A t'.ns xs) (ha : AptW w A c xs) : TgSt w0 S T U t' o vo ((w.setCell ⟨T, 0, none⟩ (.slice A t'.ns.length c)).setCell ⟨T, 1, none⟩ (.int .i64 t'.g)) := by
  have hf : Fr w ((w.setCell ⟨T, 0, none⟩ (.slice A t'.ns.length c)).setCell ⟨T, 1, none⟩ (.int .i64 t'.g)) (· = T) := ((Fr.of_below (X := (· = T)) (Below.refl _ w)).set ⟨T, 0, none⟩ _ (fun _ => rfl)).set ⟨T, 1, none⟩ _ (fun _ => rfl)
  obtain ⟨A0, c0, xs0, h1, _⟩ := h.tr
  have hne := h.neT
  have hsz : ((w.setCell ⟨T, 0, none⟩ (.slice A t'.ns.length c)).setCell ⟨T, 1, none⟩ (.int .i64 t'.g)).heap.size = w.heap.size := by simp [World.setCell]
  refine ⟨h.b.trans (hf.below (by rintro j _ rfl; exact Nat.le_of_lt h.st) (Nat.le_of_lt h.r.lt)), ⟨A, c, xs, set_row (i := 1) (l := [_, _]) (set_row (i := 0) (l := [_, _]) h1 _) _, ?_, ha.keep hn fun b hb => hf.block b hb.2.2.2.1 hb.2.1⟩, ownsRow_fr h.o hf (fun g hg e => hne (by rw [hg, e])), (hf.block S h.r.lt (by have := h.st; omega)).trans h.r, h.st⟩
  exact (hn.keep (fr_cells hf fun b hb => ⟨hb.2.2.2.1, hb.2.1⟩)).mono fun b _ hx => ⟨hx.1, hx.2.1, hx.2.2.1, by rw [hsz]; exact hx.2.2.2.1, hx.2.2.2.2⟩
theorem TgSt.setU {a b x y : Value} (h : TgSt w0 S T U t o vo w) (hu : Rw w U 34 #[a, b]) (hTU : T < U) : TgSt w0 S T U t o vo ((w.setCell ⟨U, 0, none⟩ x).setCell ⟨U, 1, none⟩ y) ∧ Rw ((w.setCell ⟨U, 0, none⟩ x).setCell ⟨U, 1, none⟩ y) U 34 #[x, y] ∧ ∀ {A : Option Addr} {c : Nat} {ns : List Nd} {xs : List (List Value)}, NdsP w (XO w S T U vo) A ns xs → AptW w A c xs → NdsP ((w.setCell ⟨U, 0, none⟩ x).setCell ⟨U, 1, none⟩ y) (XO ((w.setCell ⟨U, 0, none⟩ x).setCell ⟨U, 1, none⟩ y) S T U vo) A ns xs ∧ AptW ((w.setCell ⟨U, 0, none⟩ x).setCell ⟨U, 1, none⟩ y) A c xs := by
  have hf : Fr w ((w.setCell ⟨U, 0, none⟩ x).setCell ⟨U, 1, none⟩ y) (· = U) := ((Fr.of_below (X := (· = U)) (Below.refl _ w)).set ⟨U, 0, none⟩ _ (fun _ => rfl)).set ⟨U, 1, none⟩ _ (fun _ => rfl)
  obtain ⟨A0, c0, xs0, h1, h2, ha⟩ := h.tr
  have hne := row_neK h.o hu (by decide)
  have hsz : ((w.setCell ⟨U, 0, none⟩ x).setCell ⟨U, 1, none⟩ y).heap.size = w.heap.size := by simp [World.setCell]
  have key : ∀ {A : Option Addr} {c : Nat} {ns : List Nd} {xs : List (List Value)}, NdsP w (XO w S T U vo) A ns xs → AptW w A c xs → NdsP ((w.setCell ⟨U, 0, none⟩ x).setCell ⟨U, 1, none⟩ y) (XO ((w.setCell ⟨U, 0, none⟩ x).setCell ⟨U, 1, none⟩ y) S T U vo) A ns xs ∧ AptW ((w.setCell ⟨U, 0, none⟩ x).setCell ⟨U, 1, none⟩ y) A c xs := fun hn ha => ⟨(hn.keep (fr_cells hf fun b hb => ⟨hb.2.2.2.1, hb.2.2.1⟩)).mono fun b _ hx => ⟨hx.1, hx.2.1, hx.2.2.1, by rw [hsz]; exact hx.2.2.2.1, hx.2.2.2.2⟩, ha.keep hn fun b hb => hf.block b hb.2.2.2.1 hb.2.2.1⟩
  refine ⟨⟨h.b.trans (hf.below (by rintro j _ rfl; have := h.st; omega) (Nat.le_of_lt h.r.lt)), ⟨A0, c0, xs0, (hf.block T h1.lt (by omega)).trans h1, key h2 ha⟩, ownsRow_fr h.o hf (fun g hg e => hne (by rw [hg, e])), (hf.block S h.r.lt (by have := h.st; omega)).trans h.r, h.st⟩, set_row (i := 1) (l := [_, _]) (set_row (i := 0) (l := [_, _]) hu _) _, key⟩
theorem TgSt.app {g cap : Nat} {o' : List Int} (h : TgSt w0 S T U t o vo w) (hgr : w.grownBy w' vo.ownBlock) (hown : w'.ownsRow S 3 1 (.slice (some ⟨g, 0, none⟩) o'.length cap) o'.length (o'.map (Value.int .i64))) (hat : vo.ownBlock = some g ∨ w.heap.size ≤ g) : TgSt w0 S T U t o' (.slice (some ⟨g, 0, none⟩) o'.length cap) w' := by
  obtain ⟨A, c, xs, h1, h2, ha⟩ := h.tr
  have hf := Fr.of_grown hgr
  have hne := h.neT
  refine ⟨h.b.trans (hf.below (fun j _ hj => (h.o.lt j hj).1) (Nat.le_of_lt h.r.lt)), ⟨A, c, xs, (hf.block T h1.lt hne).trans h1, (h2.keep (fr_cells hf fun b hb => ⟨hb.2.2.2.1, hb.2.2.2.2⟩)).mono fun b _ hx => ⟨hx.1, hx.2.1, hx.2.2.1, Nat.lt_of_lt_of_le hx.2.2.2.1 hf.size, fun e => ?_⟩, ha.keep h2 fun b hb => hf.block b hb.2.2.2.1 hb.2.2.2.2⟩, hown, (hf.block S h.r.lt (row_neK h.o h.r (by decide))).trans h.r, h.st⟩
  have e2 : g = b := by simpa [Value.ownBlock] using e
  subst e2
  rcases hat with e3 | e3
  · exact hx.2.2.2.2 e3
  · have := hx.2.2.2.1
    omega
end
theorem pairs_at : ∀ {zs : List Int} {k : Nat} {a b : Int}, zs[2 * k]? = some a → zs[2 * k + 1]? = some b → (pairsG zs)[k]? = some (a, b)
  | [], _, _, _, h, _ => by simp at h
  | [_], 0, _, _, _, h => by simp at h
  | [_], k + 1, _, _, h, _ => by
    rw [List.getElem?_eq_none (by simp; omega)] at h; cases h
  | x :: y :: r, 0, a, b, h1, h2 => by
    obtain rfl : x = a := by simpa using h1
    obtain rfl : y = b := by simpa using h2
    rfl
  | x :: y :: r, k + 1, a, b, h1, h2 => pairs_at (zs := r) (k := k) (by rw [show 2 * (k + 1) = 2 * k + 1 + 1 from by omega] at h1; simpa using h1) (by rw [show 2 * (k + 1) + 1 = 2 * k + 1 + 1 + 1 from by omega] at h2; simpa using h2)
theorem pairs_len : ∀ (zs : List Int), (pairsG zs).length = zs.length / 2
  | [] => rfl
  | [_] => by simp [pairsG]
  | _ :: _ :: r => by rw [pairsG, List.length_cons, pairs_len r, List.length_cons, List.length_cons]; omega
theorem runG_next {zs : List Int} {k : Nat} {a b : Int} (h1 : zs[2 * k]? = some a) (h2 : zs[2 * k + 1]? = some b) : runG zs (k + 1) = stepG (runG zs k) a b := by
  unfold runG
  rw [List.take_add_one, pairs_at h1 h2, List.foldl_append]
  rfl
theorem runG_end {zs : List Int} {k : Nat} (hk : k ≤ 20) (h : ¬ (2 * k + 1 < zs.length ∧ 2 * k < 40)) : runG zs k = runG zs 20 := by
  unfold runG
  have hl := pairs_len zs
  by_cases e : k = 20
  · rw [e]
  · have h1 : zs.length ≤ 2 * k + 1 := by omega
    rw [List.take_of_length_le (by omega), List.take_of_length_le (by omega)]
end Go.Proofs.YtcpjcepeiplfgaaDoor.C
