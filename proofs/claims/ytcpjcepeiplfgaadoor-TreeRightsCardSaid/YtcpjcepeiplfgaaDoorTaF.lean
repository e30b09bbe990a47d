/-
  What stands behind each laying in the statements' Tree(c). No condition.
-/
import Derived.Test.YtcpjcepeiplfgaaDoorTaD
import Derived.Test.YtcpjcepeiplfgaaDoorTbP
namespace Go.Proofs.YtcpjcepeiplfgaaDoor.C
open Go.RowKit

structure LdSt (w0 : World) (S T U : Nat) (t : Tr) (o : List Int) (vo : Value) (w : World) : Prop where
  st : TgSt w0 S T U t o vo w
  u : ∃ a b, Rw w U 34 #[a, b]
  tu : T < U
section
variable {w0 wz w2 w3 w4 : World} {S T U c' : Nat} {t t' : Tr} {o : List Int} {vo : Value} {A' : Option Addr}
theorem first_lay (h : TgSt w0 S T T t o vo wz) (hb : Below wz.heap.size wz w2) (hO : NdsO w2 (wz.heap.size + 3) (XO wz S T T vo) (.slice A' t'.ns.length c') t'.ns) (hU : w2.heap.size = U) (hw3 : w3 = w2.alloc (.cells #[.slice A' t'.ns.length c', .int .i64 t'.g] 34)) : LdSt w0 S T U t' o vo ((w3.setCell ⟨T, 0, none⟩ (.slice A' t'.ns.length c')).setCell ⟨T, 1, none⟩ (.int .i64 t'.g)) := by
  have hTz := h.lt
  obtain ⟨xs, hN, hap⟩ := h.laid (.inl hTz) hb hO rfl
  have hb3 : Below w2.heap.size w2 w3 := by rw [hw3]; exact (Below.refl _ _).alloc (Nat.le_refl _) _
  have hs3 : w3.heap.size = U + 1 := by rw [hw3]; simp; omega
  have h2 : TgSt w0 S T U t o vo w2 := (h.next hb).toU (Nat.le_of_eq hU)
  have h3 : TgSt w0 S T U t o vo w3 := h2.next hb3
  have hN3 : NdsP w3 (XO w3 S T U vo) A' t'.ns xs := (hN.keep (below_cells hb3 fun b hb => hb.2.2.2.1)).mono fun b _ hx => ⟨hx.1, hx.2.1, by have := hx.2.2.2.1; omega, Nat.lt_of_lt_of_le hx.2.2.2.1 hb3.size, hx.2.2.2.2⟩
  have hTU : T < U := by have := hb.size; omega
  have hr3 : Rw w3 U 34 #[.slice A' t'.ns.length c', .int .i64 t'.g] := by rw [hw3, ← hU]; exact heap_alloc_new w2 _
  refine ⟨h3.setT hN3 (hap.keep hN fun b hb => hb3.block b hb.2.2.2.1), ⟨.slice A' t'.ns.length c', .int .i64 t'.g, ?_⟩, hTU⟩
  exact (Below.heap_setCell _ ⟨T, 1, none⟩ _ U (by show U ≠ T; omega)).trans ((Below.heap_setCell _ ⟨T, 0, none⟩ _ U (by show U ≠ T; omega)).trans hr3)
theorem LdSt.next (h : LdSt w0 S T U t o vo wz) (hb : Below wz.heap.size wz w2) : LdSt w0 S T U t o vo w2 := by
  obtain ⟨a, b, hu⟩ := h.u
  exact ⟨h.st.next hb, ⟨a, b, hu.on hb hu.lt⟩, h.tu⟩
theorem next_lay (h : LdSt w0 S T U t o vo wz) (hb : Below wz.heap.size wz w2) (hO : NdsO w2 (wz.heap.size + 3) (XO wz S T U vo) (.slice A' t'.ns.length c') t'.ns) : LdSt w0 S T U t' o vo ((((w2.setCell ⟨U, 0, none⟩ (.slice A' t'.ns.length c')).setCell ⟨U, 1, none⟩ (.int .i64 t'.g)).setCell ⟨T, 0, none⟩ (.slice A' t'.ns.length c')).setCell ⟨T, 1, none⟩ (.int .i64 t'.g)) := by
  obtain ⟨a, b, hu⟩ := h.u
  obtain ⟨xs, hN, hap⟩ := h.st.laid (.inl hu.lt) hb hO rfl
  have h2 := h.st.next hb
  have hu2 := hu.on hb hu.lt
  obtain ⟨h3, hu3, hk⟩ := h2.setU (x := .slice A' t'.ns.length c') (y := .int .i64 t'.g) hu2 h.tu
  refine ⟨h3.setT (hk hN hap).1 (hk hN hap).2, ⟨.slice A' t'.ns.length c', .int .i64 t'.g, ?_⟩, h.tu⟩
  have := h.tu
  exact (Below.heap_setCell _ ⟨T, 1, none⟩ _ U (by show U ≠ T; omega)).trans ((Below.heap_setCell _ ⟨T, 0, none⟩ _ U (by show U ≠ T; omega)).trans hu3)
theorem TgSt.pop {p : List Int} {a b : Int} {g cap : Nat} {w : World} (h : TgSt w0 S T U t (p ++ [a, b]) (.slice (some ⟨g, 0, none⟩) (p.length + 2) cap) w) : TgSt w0 S T U t p (.slice (some ⟨g, 0, none⟩) p.length cap) w := by
  refine ⟨h.b, ?_, ?_, h.r, h.st⟩
  · obtain ⟨A, c, xs, h1, h2⟩ := h.tr
    exact ⟨A, c, xs, h1, h2⟩
  · have h1 := h.o
    rw [show (p ++ [a, b]).length = p.length + 1 + 1 from by simp, show p.length + 2 = p.length + 1 + 1 from rfl, List.map_append, List.map_cons, List.map_cons, List.map_nil] at h1
    have h2 : w.ownsRow S 3 1 (.slice (some ⟨g, 0, none⟩) (p.length + 1 + 1) cap) (p.length + 1 + 1) ((p.map (Value.int .i64) ++ [.int .i64 a]) ++ [.int .i64 b]) := by rw [List.append_assoc]; exact h1
    exact ownsRow_pop (by simp) (ownsRow_pop (by simp) h2)
theorem LdSt.pop {p : List Int} {a b : Int} {g cap : Nat} {w : World} (h : LdSt w0 S T U t (p ++ [a, b]) (.slice (some ⟨g, 0, none⟩) (p.length + 2) cap) w) : LdSt w0 S T U t p (.slice (some ⟨g, 0, none⟩) p.length cap) w := ⟨h.st.pop, h.u, h.tu⟩
theorem LdSt.app {o' : List Int} {g cap : Nat} {w w' : World} (h : LdSt w0 S T U t o vo w) (hgr : w.grownBy w' vo.ownBlock) (hown : w'.ownsRow S 3 1 (.slice (some ⟨g, 0, none⟩) o'.length cap) o'.length (o'.map (Value.int .i64))) (hat : vo.ownBlock = some g ∨ w.heap.size ≤ g) : LdSt w0 S T U t o' (.slice (some ⟨g, 0, none⟩) o'.length cap) w' := by
  obtain ⟨a, b, hu⟩ := h.u
  refine ⟨h.st.app hgr hown hat, ⟨a, b, (hgr.block U hu.lt (fun e => row_neK h.st.o hu (by decide) e.symm)).trans hu⟩, h.tu⟩
theorem LdSt.cells {w : World} (h : LdSt w0 S T U t o vo w) : ∃ A c xs a b, (w.cell? ⟨T, 0, none⟩ = some (.slice A t.ns.length c) ∧ w.cell? ⟨T, 1, none⟩ = some (.int .i64 t.g)) ∧ (w.frozen? ⟨T, 0, none⟩ = false ∧ w.frozen? ⟨T, 1, none⟩ = false) ∧ (w.cell? ⟨U, 0, none⟩ = some a ∧ w.cell? ⟨U, 1, none⟩ = some b) ∧ (w.frozen? ⟨U, 0, none⟩ = false ∧ w.frozen? ⟨U, 1, none⟩ = false) ∧ NdsP w (XO w S T U vo) A t.ns xs := by
  obtain ⟨A, c, xs, h1, h2, -⟩ := h.st.tr
  obtain ⟨a, b, hu⟩ := h.u
  exact ⟨A, c, xs, a, b, ⟨h1.cell (i := 0) rfl, h1.cell (i := 1) rfl⟩, ⟨rw_frozen h1 0, rw_frozen h1 1⟩, ⟨hu.cell (i := 0) rfl, hu.cell (i := 1) rfl⟩, ⟨rw_frozen hu 0, rw_frozen hu 1⟩, h2⟩
theorem LdSt.mid {w : World} (h : LdSt w0 S T U t o vo w) (x y : Value) : (((w.setCell ⟨U, 0, none⟩ x).setCell ⟨U, 1, none⟩ y).cell? ⟨U, 0, none⟩ = some x ∧ ((w.setCell ⟨U, 0, none⟩ x).setCell ⟨U, 1, none⟩ y).cell? ⟨U, 1, none⟩ = some y) ∧ (∃ a b, ((w.setCell ⟨U, 0, none⟩ x).setCell ⟨U, 1, none⟩ y).cell? ⟨T, 0, none⟩ = some a ∧ ((w.setCell ⟨U, 0, none⟩ x).setCell ⟨U, 1, none⟩ y).cell? ⟨T, 1, none⟩ = some b) ∧ ((w.setCell ⟨U, 0, none⟩ x).setCell ⟨U, 1, none⟩ y).frozen? ⟨T, 0, none⟩ = false ∧ ((w.setCell ⟨U, 0, none⟩ x).setCell ⟨U, 1, none⟩ y).frozen? ⟨T, 1, none⟩ = false := by
  obtain ⟨a, b, hu⟩ := h.u
  obtain ⟨h3, hu3, -⟩ := h.st.setU (x := x) (y := y) hu h.tu
  obtain ⟨A, c, xs, h1, -⟩ := h3.tr
  exact ⟨⟨hu3.cell (i := 0) rfl, hu3.cell (i := 1) rfl⟩, ⟨_, _, h1.cell (i := 0) rfl, h1.cell (i := 1) rfl⟩, rw_frozen h1 0, rw_frozen h1 1⟩
theorem LdSt.byte {w : World} (h : LdSt w0 S T U t o vo w) {p : Addr} {u : Value} (hp : p.block < S) (hu : w0.cell? p = some u) : w.cell? p = some u := (h.st.b.cell (p := p) hp).trans hu
end
theorem InvG.olen {s : TS} {m : Nat} (h : InvG s m) : s.o.length ≤ m := by
  have := len_sub (r := (List.range s.t.ns.length).map fun i : Nat => (0 : Int) + (i : Int)) h.od (fun k hk => mem_from (by have := h.ob k hk; omega))
  rw [List.length_map, List.length_range] at this
  exact Nat.le_trans this h.len
theorem grp_size (t : Tr) (a : Int) : (grpG t a).ns.length ≤ t.ns.length + 1 ∧ t.ns.length ≤ (grpG t a).ns.length ∧ t.g ≤ (grpG t a).g ∧ (grpG t a).g ≤ t.g + 1 := by
  unfold grpG
  split
  · simp [layT, nd]
    omega
  · simp
    omega
theorem tim_size (t : Tr) (a b : Int) : (timG t a b).ns.length ≤ t.ns.length + 1 ∧ t.ns.length ≤ (timG t a b).ns.length ∧ (timG t a b).g = t.g := by
  unfold timG
  split <;> simp [layT, nd]
end Go.Proofs.YtcpjcepeiplfgaaDoor.C
