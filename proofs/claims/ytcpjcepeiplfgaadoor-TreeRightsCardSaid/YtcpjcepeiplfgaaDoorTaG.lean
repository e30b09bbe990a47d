/-
  What stands behind the append, the join and the end of the statements' Tree(c). No condition.
-/
import Derived.Test.YtcpjcepeiplfgaaDoorTaF
namespace Go.Proofs.YtcpjcepeiplfgaaDoor.C
open Go.RowKit

section
variable {w0 w w' w2 w3 : World} {S T U : Nat} {t t' : Tr} {o : List Int} {vo : Value}
theorem LdSt.back (h : LdSt w0 S T U t o vo w) : TgSt w0 S T T t o vo w := by
  obtain ⟨A, c, xs, h1, h2, ha⟩ := h.st.tr
  exact ⟨h.st.b, ⟨A, c, xs, h1, h2.mono fun b _ hx => ⟨hx.1, hx.2.1, hx.2.1, hx.2.2.2.1, hx.2.2.2.2⟩, ha⟩, h.st.o, h.st.r, h.st.st⟩
theorem LdSt.push {k : Int} {g cap q m : Nat} (h : LdSt w0 S T U t o vo w) (hq : o.length = q) (hm : q + 1 = m) (hown : w'.ownsRow S 3 1 (.slice (some ⟨g, 0, none⟩) m cap) m (o.map (Value.int .i64) ++ [.int .i64 k])) (hgr : w.grownBy w' vo.ownBlock) (hat : vo.ownBlock = some g ∨ g = w.heap.size) : LdSt w0 S T U t (o ++ [k]) (.slice (some ⟨g, 0, none⟩) m cap) w' := by
  subst hq
  subst hm
  have e : (o ++ [k]).length = o.length + 1 := by simp
  have h1 := h.app (o' := o ++ [k]) (g := g) (cap := cap) hgr (by rw [e, List.map_append]; exact hown) (hat.imp id fun e => Nat.le_of_eq e.symm)
  rw [e] at h1
  exact h1
theorem row_get {g cap m : Nat} {l : List Int} (h : w.ownsRow S 3 1 (.slice (some ⟨g, 0, none⟩) m cap) m (l.map (Value.int .i64))) : (∀ j u, l[j]? = some u → w.cell? ((⟨g, 0, none⟩ : Addr).add j) = some (.int .i64 u)) ∧ m ≤ cap ∧ cap ≤ maxLen := by
  obtain ⟨A, c, e, h1, h2, h3⟩ := own_slice2 h
  cases e
  refine ⟨fun j u hj => ?_, h1, h2⟩
  have hlt : j < l.length := (List.getElem?_eq_some_iff.1 hj).1
  obtain ⟨ad, e, _, hc⟩ := h3.2 (by have := h3.len; omega)
  cases e
  exact hc j u hj
theorem tree_end {A : Option Addr} {c : Nat} {ns : List Nd} {xs : List (List Value)} {l : Array Value} (h : TgSt w0 S T T t o vo w) (hb : Below w.heap.size w w2) (hN : NdsP w2 (XN (XO w S T T vo) w w2) A ns xs) (hap : AptW w2 A c xs) (hw3 : w3 = w2.alloc (.cells l 34)) (x y : Value) : Rw ((w3.setCell ⟨S, 0, none⟩ x).setCell ⟨S, 1, none⟩ y) S 34 #[x, y] ∧ Below S w0 ((w3.setCell ⟨S, 0, none⟩ x).setCell ⟨S, 1, none⟩ y) ∧ NdsP ((w3.setCell ⟨S, 0, none⟩ x).setCell ⟨S, 1, none⟩ y) (fun b => S ≤ b ∧ b < ((w3.setCell ⟨S, 0, none⟩ x).setCell ⟨S, 1, none⟩ y).heap.size) A ns xs ∧ AptW ((w3.setCell ⟨S, 0, none⟩ x).setCell ⟨S, 1, none⟩ y) A c xs := by
  have hS := h.r.lt
  have hb3 : Below w2.heap.size w2 w3 := by rw [hw3]; exact (Below.refl _ _).alloc (Nat.le_refl _) _
  have hr3 : Rw w3 S 34 #[.slice none 0 0, .int .i64 0] := (h.r.on hb hS).on hb3 (Nat.lt_of_lt_of_le hS hb.size)
  have hf : Fr w3 ((w3.setCell ⟨S, 0, none⟩ x).setCell ⟨S, 1, none⟩ y) (· = S) := ((Fr.of_below (X := (· = S)) (Below.refl _ w3)).set ⟨S, 0, none⟩ x (fun _ => rfl)).set ⟨S, 1, none⟩ y (fun _ => rfl)
  have hsz : ((w3.setCell ⟨S, 0, none⟩ x).setCell ⟨S, 1, none⟩ y).heap.size = w3.heap.size := by simp [World.setCell]
  have h1 : NdsP w3 (fun b => S < b ∧ b < w3.heap.size) A ns xs := (hN.keep (below_cells hb3 fun b hb' => by
    rcases hb' with h | h
    · exact Nat.lt_of_lt_of_le h.2.2.2.1 hb.size
    · exact h.2)).mono fun b hlt hx => ⟨by
      rcases hx with h | h
      · exact h.1
      · exact Nat.lt_of_lt_of_le hS h.1, hlt⟩
  refine ⟨set_row (i := 1) (l := [_, _]) (set_row (i := 0) (l := [_, _]) hr3 x) y, ((h.b.trans ((hb.mono (Nat.le_of_lt hS)).trans (hb3.mono (Nat.le_trans (Nat.le_of_lt hS) hb.size)))).setCell (p := ⟨S, 0, none⟩) (Nat.le_refl _) x).setCell (p := ⟨S, 1, none⟩) (Nat.le_refl _) y, ?_, ?_⟩
  case refine_2 =>
    refine (hap.keep (w' := w3) hN fun b hb' => hb3.block b ?_).keep h1 fun b hb' => hf.block b hb'.2 (Nat.ne_of_gt hb'.1)
    rcases hb' with h | h
    · exact Nat.lt_of_lt_of_le h.2.2.2.1 hb.size
    · exact h.2
  exact (h1.keep (fr_cells (P := fun b => S < b ∧ b < w3.heap.size) hf fun b hb => ⟨hb.2, Nat.ne_of_gt hb.1⟩)).mono fun b _ hx => ⟨Nat.le_of_lt hx.1, by rw [hsz]; exact hx.2⟩
end
theorem int_newE2 (w : World) (y z : Int) : RIp .i64 (w.alloc (.cells #[.int .i64 y, .int .i64 z] 3)) (· = w.heap.size) (some ⟨w.heap.size, 0, none⟩) 2 [y, z] := by
  refine ⟨rfl, fun _ => ⟨_, rfl, rfl, fun j u hj => ?_⟩⟩
  rcases j with _ | _ | j
  · obtain rfl : y = u := by simpa using hj
    rw [add_plain, World.cell?_alloc_new]
    rfl
  · obtain rfl : z = u := by simpa using hj
    rw [add_plain, World.cell?_alloc_new]
    rfl
  · simp at hj
theorem one_new (w : World) (z : Int) : ∀ j u, [Value.int .i64 z][j]? = some u → (w.alloc (.cells #[.int .i64 z] 3)).cell? ((⟨w.heap.size, 0, none⟩ : Addr).add j) = some u := by
  intro j u hj
  rcases j with _ | j
  · obtain rfl : Value.int .i64 z = u := by simpa using hj
    rw [add_plain, World.cell?_alloc_new]
    rfl
  · simp at hj
end Go.Proofs.YtcpjcepeiplfgaaDoor.C
