/-
  Words on lists of lines in memory: a row whose elements are a slice and a bool each; an append of a slice within a fence. No condition.
-/
import Derived.Test.YtlecioifjdmmmaaLnD
namespace Go.Proofs.Ytlecioifjdmmmaa.C
open Go.RowKit Go.Shelf

theorem infoLine : (Try.prog.info? 32).map (fun i => (i.zero, i.size, i.bytes)) = some (some (.agg #[.slice none 0 0, .bool false]), 2, 32) := by kernel_rfl

/-- a slice of lines: its value (address A, length n) reads as the lines ls, below block B; nil let in -/
def LI (w : World) (B : Nat) (A : Option Addr) (n : Nat) (ls : List (List Int × Bool)) : Prop :=
  ls.length = n ∧ (0 < n → ∃ ad, A = some ad ∧ ad.block < B ∧ ∀ j x, ls[j]? = some x → ∃ Aj nj cj, w.cell? (ad.add (j * 2)) = some (.slice Aj nj cj) ∧ w.cell? (ad.add (j * 2 + 1)) = some (.bool x.2) ∧ nj ≤ cj ∧ cj ≤ maxLen ∧ RI .i32 w B Aj nj x.1)
section
variable {w w' : World} {B B' n : Nat} {A : Option Addr} {ls : List (List Int × Bool)}
theorem LI.len (h : LI w B A n ls) : ls.length = n := h.1
theorem LI.nil (w : World) (B : Nat) (A : Option Addr) : LI w B A 0 [] := ⟨rfl, fun h => absurd h (by omega)⟩
theorem LI.keep (h : LI w B A n ls) (hk : ∀ p : Addr, p.block < B → w'.cell? p = w.cell? p) : LI w' B A n ls :=
  ⟨h.1, fun hn => by
    obtain ⟨ad, e, hb, hc⟩ := h.2 hn
    refine ⟨ad, e, hb, fun j x hx => ?_⟩
    obtain ⟨Aj, nj, cj, h1, h2, h3, h4, h5⟩ := hc j x hx
    exact ⟨Aj, nj, cj, (hk _ (by rw [block_of_add]; exact hb)).trans h1, (hk _ (by rw [block_of_add]; exact hb)).trans h2, h3, h4, h5.keep hk⟩⟩
theorem LI.more (h : LI w B A n ls) (hB : B ≤ B') : LI w B' A n ls :=
  ⟨h.1, fun hn => by
    obtain ⟨ad, e, hb, hc⟩ := h.2 hn
    refine ⟨ad, e, by omega, fun j x hx => ?_⟩
    obtain ⟨Aj, nj, cj, h1, h2, h3, h4, h5⟩ := hc j x hx
    exact ⟨Aj, nj, cj, h1, h2, h3, h4, h5.more hB⟩⟩
theorem LI.on (h : LI w B A n ls) (hb : Below B' w w') (hB : B ≤ B') : LI w' B A n ls := h.keep fun p hp => hb.cell (p := p) (by omega)
theorem LI.at_ {k : Nat} (h : LI w B A n ls) (hk : k < n) : ∃ ad x Aj nj cj, A = some ad ∧ ad.block < B ∧ ls[k]? = some x ∧ w.cell? (ad.add (k * 2)) = some (.slice Aj nj cj) ∧ w.cell? (ad.add (k * 2 + 1)) = some (.bool x.2) ∧ nj ≤ cj ∧ cj ≤ maxLen ∧ RI .i32 w B Aj nj x.1 := by
  obtain ⟨ad, e, hb, hc⟩ := h.2 (by omega)
  have hl : k < ls.length := by have := h.1; omega
  obtain ⟨Aj, nj, cj, h1, h2, h3, h4, h5⟩ := hc k _ (List.getElem?_eq_getElem hl)
  exact ⟨ad, ls[k], Aj, nj, cj, e, hb, List.getElem?_eq_getElem hl, h1, h2, h3, h4, h5⟩
end

theorem add_next (a : Addr) (j : Nat) : (⟨(a.add j).block, (a.add j).off + 1, none⟩ : Addr) = a.add (j + 1) := by
  unfold Addr.add
  by_cases h : j = 0
  · subst h
    rfl
  · rw [if_neg h, if_neg (by omega), Nat.add_assoc]
/-- an element's two cells, as a walk reads them -/
theorem LI.at2 {w : World} {B n : Nat} {A : Option Addr} {ls : List (List Int × Bool)} {k : Nat} (h : LI w B A n ls) (hk : k < n) : ∃ ad x Aj nj cj, A = some ad ∧ ad.block < B ∧ ls[k]? = some x ∧ w.cell? (ad.add (k * 2)) = some (.slice Aj nj cj) ∧ w.cell? ⟨(ad.add (k * 2)).block, (ad.add (k * 2)).off + 1, none⟩ = some (.bool x.2) ∧ nj ≤ cj ∧ cj ≤ maxLen ∧ RI .i32 w B Aj nj x.1 := by
  obtain ⟨ad, x, Aj, nj, cj, h1, h2, h3, h4, h5, h6, h7, h8⟩ := h.at_ hk
  exact ⟨ad, x, Aj, nj, cj, h1, h2, h3, h4, by rw [add_next]; exact h5, h6, h7, h8⟩

/-- the cells of a row of lines, each line's own cells a row of the call's own -/
def LC (w : World) (base : Nat) (cs : List Value) (ls : List (List Int × Bool)) : Prop :=
  cs.length = 2 * ls.length ∧ ∀ j x, ls[j]? = some x → ∃ u, cs[j * 2]? = some u ∧ cs[j * 2 + 1]? = some (.bool x.2) ∧ w.ownsRow base 25 1 u x.1.length (x.1.map (Value.int .i32))
theorem LC.nil (w : World) (base : Nat) : LC w base [] [] := ⟨rfl, fun j x hx => by simp at hx⟩
theorem LC.kept {w w' : World} {base : Nat} {cs : List Value} {ls : List (List Int × Bool)} (h : LC w base cs ls) (hk : ∀ u n xs, w.ownsRow base 25 1 u n xs → w'.ownsRow base 25 1 u n xs) : LC w' base cs ls :=
  ⟨h.1, fun j x hx => by
    obtain ⟨u, h1, h2, h3⟩ := h.2 j x hx
    exact ⟨u, h1, h2, hk _ _ _ h3⟩⟩
theorem LC.snoc {w : World} {base : Nat} {cs : List Value} {ls : List (List Int × Bool)} (h : LC w base cs ls) (x : List Int × Bool) (u : Value) (hu : w.ownsRow base 25 1 u x.1.length (x.1.map (Value.int .i32))) : LC w base (cs ++ [u, .bool x.2]) (ls ++ [x]) := by
  refine ⟨by have := h.1; simp; omega, fun j y hy => ?_⟩
  have hlen := h.1
  rcases Nat.lt_or_ge j ls.length with hj | hj
  · rw [List.getElem?_append_left hj] at hy
    obtain ⟨v, h1, h2, h3⟩ := h.2 j y hy
    exact ⟨v, by rw [List.getElem?_append_left (by omega)]; exact h1, by rw [List.getElem?_append_left (by omega)]; exact h2, h3⟩
  · rw [List.getElem?_append_right hj] at hy
    have hj0 : j = ls.length := by
      rcases Nat.eq_zero_or_pos (j - ls.length) with h0 | h0
      · omega
      · rw [List.getElem?_eq_none (by simp; omega)] at hy
        cases hy
    subst hj0
    simp at hy
    subst hy
    refine ⟨u, ?_, ?_, hu⟩
    · rw [List.getElem?_append_right (by omega), show ls.length * 2 - cs.length = 0 by omega]
      rfl
    · rw [List.getElem?_append_right (by omega), show ls.length * 2 + 1 - cs.length = 1 by omega]
      rfl
/-- a row of lines that is owned reads as lines -/
theorem LI.of_own {w : World} {base : Nat} {v : Value} {n : Nat} {cs : List Value} {ls : List (List Int × Bool)} (h : w.ownsRow base 32 2 v n cs) (hc : LC w base cs ls) : ∃ A c, v = .slice A n c ∧ n ≤ c ∧ c ≤ maxLen ∧ LI w w.heap.size A n ls := by
  have hl : ls.length = n := by
    have h1 := h.1
    have h2 := hc.1
    omega
  rcases h.2 with ⟨rfl, rfl⟩ | ⟨g, c, cur, rfl, _, hg, hnc, hm, _⟩
  · obtain rfl : ls = [] := List.eq_nil_of_length_eq_zero hl
    exact ⟨none, 0, rfl, Nat.le_refl _, Nat.zero_le _, LI.nil _ _ _⟩
  · refine ⟨_, c, rfl, hnc, hm, hl, fun h0 => ⟨_, rfl, (Array.getElem?_eq_some_iff.1 hg).1, fun j x hx => ?_⟩⟩
    obtain ⟨u, h1, h2, h3⟩ := hc.2 j x hx
    obtain ⟨Aj, cj, rfl, h4, h5, h6⟩ := own_slice2 h3
    exact ⟨Aj, _, cj, h.cells (g := g) rfl _ _ h1, h.cells (g := g) rfl _ _ h2, h4, h5, h6⟩

/-- an owned row is no block of cells of another type -/
theorem row_ne {w : World} {base : Nat} {e : TypeId} {size n : Nat} {u : Value} {xs : List Value} (h : w.ownsRow base e size u n xs) {g : Nat} {cur : Array Value} {t : TypeId} {f : Nat × Nat} (hg : w.heap[g]? = some (.cells cur t f)) (hte : t ≠ e) : u.ownBlock ≠ some g := by
  intro he
  rcases h.2 with ⟨rfl, _⟩ | ⟨g', c, cur', rfl, _, hg', _⟩
  · simp [Value.ownBlock] at he
  · obtain rfl : g' = g := by simpa [Value.ownBlock] using he
    rw [hg] at hg'
    simp at hg'
    exact hte hg'.2.1
theorem rows_ne {w : World} {base base' : Nat} {e e' : TypeId} {size size' n n' : Nat} {u v : Value} {xs ys : List Value} (h : w.ownsRow base e size u n xs) (k : w.ownsRow base' e' size' v n' ys) (hte : e' ≠ e) : u.ownBlock = none ∨ u.ownBlock ≠ v.ownBlock := by
  rcases k.2 with ⟨rfl, _⟩ | ⟨g, c, cur, rfl, _, hg, _⟩
  · cases hu : u.ownBlock with
    | none => exact .inl rfl
    | some b => exact .inr (by simp [Value.ownBlock])
  · exact .inr (row_ne h hg hte)
/-- what is no cells turns: an owned row stays -/
theorem own_turn {X Y : World} {base : Nat} {e : TypeId} {size n : Nat} {u : Value} {xs : List Value} (h : X.ownsRow base e size u n xs) {row : Option Nat} (hg : X.grownBy Y row) (hr : ∀ r, row = some r → ∃ o : Obj, X.heap[r]? = some o ∧ o.isCells = false) : Y.ownsRow base e size u n xs := by
  refine h.kept hg ?_
  rcases h.2 with ⟨rfl, _⟩ | ⟨g, cap, cur, rfl, _, hgb, _⟩
  · exact .inl rfl
  · refine .inr fun e' => ?_
    obtain ⟨o, ho, hc⟩ := hr g (by simpa [Value.ownBlock] using e'.symm)
    rw [hgb] at ho; cases ho; cases hc

/-- a variable that is a line -/
def PairAt (w : World) (b : Nat) (u v : Value) : Prop := w.heap[b]? = some (.cells #[u, v] 32 (0, 0))
theorem PairAt.c0 {w : World} {b : Nat} {u v : Value} (h : PairAt w b u v) : w.cell? ⟨b, 0, none⟩ = some u := by simp [World.cell?, show w.heap[b]? = _ from h]
theorem PairAt.c1 {w : World} {b : Nat} {u v : Value} (h : PairAt w b u v) : w.cell? ⟨b, 1, none⟩ = some v := by simp [World.cell?, show w.heap[b]? = _ from h]
theorem PairAt.f {w : World} {b : Nat} {u v : Value} (h : PairAt w b u v) (j : Nat) : w.frozen? ⟨b, j, none⟩ = false := by simp [World.frozen?, show w.heap[b]? = _ from h]
theorem PairAt.lt {w : World} {b : Nat} {u v : Value} (h : PairAt w b u v) : b < w.heap.size := (Array.getElem?_eq_some_iff.1 h).1
theorem PairAt.new (w : World) (u v : Value) : PairAt (w.alloc (.cells #[u, v] 32)) w.heap.size u v := World.alloc_heap_new w _
theorem PairAt.kept {w w' : World} {row : Option Nat} {b : Nat} {u v : Value} (h : PairAt w b u v) (hg : w.grownBy w' row) (hne : some b ≠ row) : PairAt w' b u v := (hg.block b h.lt hne).trans h
theorem PairAt.own {α : Type} (b : Nat) (u v : α → Value) : Own (fun s W => PairAt W b (u s) (v s)) := fun s X Y row hs hg hrow =>
  hs.kept hg (fun e' => by obtain ⟨o, ho, hc⟩ := hrow b e'.symm; rw [show X.heap[b]? = _ from hs] at ho; cases ho; cases hc)
theorem PairAt.set {w : World} {b : Nat} {u v : Value} (u' : Value) (h : PairAt w b u v) : PairAt (w.setCell ⟨b, 0, none⟩ u') b u' v := by
  obtain ⟨hlt, hk⟩ := Array.getElem?_eq_some_iff.1 h
  show (w.heap.modify b _)[b]? = _
  rw [Array.getElem?_eq_getElem (by rw [Array.size_modify]; exact hlt), Array.getElem_modify_self, hk]
  rfl

section
variable {P : Program} (w : World)
theorem wpListIn_append_ri {F : Fence} {fn : Nat} {ops : Array Oper} {rest : List Oper} {o : Oper} {a : Act} {Q : Exit → Act → World → Prop} (hgd : o.guard = none) (s x : Operand) (t : TypeId)
    (ho : o.op = Op.call { callee := Callee.builtin Builtin.append, args := #[s, x], argTypes := #[t, t] })
    (base : Nat) (e : TypeId) (i : TypeInfo) (z : Value) (bytes : Nat) (ht : P.underlying t = some (.slice e)) (hi : P.info? e = some i) (hz : i.zero = some z)
    (hsize : i.size = 1) (hby : i.bytes = bytes) (hzs : z.cells.size = 1)
    (v : Value) (n : Nat) (xs : List Value) (hs : a.eval s = v) (hown : w.ownsRow base e 1 v n xs) (ki : IntKind)
    (B : Nat) (A : Option Addr) (m c : Nat) (zs : List Int) (hx : a.eval x = .slice A m c) (hr : RI ki w B A m zs)
    (h63 : n + m ≤ maxLen) (hbytes : (n + m) * bytes ≤ 140737488355328) (hbase : base ≤ w.heap.size)
    (h : ∀ v' w', w'.ownsRow base e 1 v' (n + m) (xs ++ zs.map (Value.int ki)) → w.grownBy w' v.ownBlock → wpListIn F fn P ops Q rest (a.put o.dst v') w') : wpListIn F fn P ops Q (o :: rest) a w := by
  refine wpListIn_plain hgd fun K hK' => ?_
  obtain ⟨v', w', hrun, h2, h3⟩ := run_append_ri (P := P) w base t o.type e i z bytes ht hi hz hsize hby hzs v n xs hown ki B A m c zs hr h63 hbytes hbase
  unfold Oper.wpIn
  refine ⟨?_, ?_⟩
  · simp [Oper.about, ho, resolve, Target.leads, Sem.run_pure]
  · rw [Oper.semAt_plain F _ _ (by rw [ho]; intro c hc'; cases hc')]
    simp [execOp, ho, resolve, invoke, builtin, hs, hx, hrun, Result.andThen]
    exact hK' _ _ (h v' w' h2 h3)
end
end Go.Proofs.Ytlecioifjdmmmaa.C
