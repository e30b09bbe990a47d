/-
  The contract of lex.Tokens: the plain tokens of any text, or what is wrong and where; tokens lie in new memory. Condition: what is asked of the listed variables ('Gl').
-/
import Derived.Test.YtnifcgiajjmogaaGreatDoorLxY
namespace Go.Proofs.YtnifcgiajjmogaaGreatDoor.C
open Go.RowKit

/-- a slice of tokens: its value (address A, length n) reads as the tokens ts, below block B; nil let in -/
def TI (w : World) (B : Nat) (A : Option Addr) (n : Nat) (ts : List Tok) : Prop :=
  ts.length = n ∧ (0 < n → ∃ ad, A = some ad ∧ ad.block < B ∧ ∀ j x, ts[j]? = some x → ∀ i u, (tkC x)[i]? = some u → w.cell? (ad.add (j * 4 + i)) = some u)
section
variable {w w' : World} {B B' n : Nat} {A : Option Addr} {ts : List Tok}
theorem TI.len (h : TI w B A n ts) : ts.length = n := h.1
theorem TI.nil (w : World) (B : Nat) (A : Option Addr) : TI w B A 0 [] := ⟨rfl, fun h => absurd h (by omega)⟩
theorem TI.keep (h : TI w B A n ts) (hk : ∀ p : Addr, p.block < B → w'.cell? p = w.cell? p) : TI w' B A n ts :=
  ⟨h.1, fun hn => by
    obtain ⟨ad, e, hb, hc⟩ := h.2 hn
    exact ⟨ad, e, hb, fun j x hx i u hu => (hk _ (by rw [block_of_add]; exact hb)).trans (hc j x hx i u hu)⟩⟩
theorem TI.more (h : TI w B A n ts) (hB : B ≤ B') : TI w B' A n ts :=
  ⟨h.1, fun hn => by
    obtain ⟨ad, e, hb, hc⟩ := h.2 hn
    exact ⟨ad, e, by omega, hc⟩⟩
theorem TI.on (h : TI w B A n ts) (hb : Below B' w w') (hB : B ≤ B') : TI w' B A n ts := h.keep fun p hp => hb.cell (p := p) (by omega)
theorem TI.drewN (h : TI w B A n ts) (k : Nat) : TI (w.drewN k) B A n ts := h
theorem TI.at_ (h : TI w B A n ts) {k : Nat} (hk : k < n) : ∃ ad x, A = some ad ∧ ad.block < B ∧ ts[k]? = some x ∧ (∀ i u, (tkC x)[i]? = some u → w.cell? (ad.add (k * 4 + i)) = some u) := by
  obtain ⟨ad, e, hb, hc⟩ := h.2 (by omega)
  have hl : k < ts.length := by have := h.1; omega
  exact ⟨ad, ts[k], e, hb, List.getElem?_eq_getElem hl, hc k _ (List.getElem?_eq_getElem hl)⟩
theorem TI.of_own {base : Nat} {v : Value} (h : w.ownsRow base 35 4 v n (tksC ts)) (hl : ts.length = n) : ∃ A c, v = .slice A n c ∧ n ≤ c ∧ c ≤ maxLen ∧ TI w w.heap.size A n ts := by
  rcases h.2 with ⟨rfl, h0⟩ | ⟨g, c, cur, rfl, _, hg, hnc, hm, _⟩
  · obtain rfl : n = 0 := by have := h.1; rw [h0] at this; simp at this; omega
    obtain rfl : ts = [] := List.eq_nil_of_length_eq_zero hl
    exact ⟨none, 0, rfl, Nat.le_refl _, Nat.zero_le _, TI.nil _ _ _⟩
  · refine ⟨_, c, rfl, hnc, hm, hl, fun _ => ⟨_, rfl, (Array.getElem?_eq_some_iff.1 hg).1, fun j x hx i u hu => ?_⟩⟩
    have hi : i < 4 := by
      have := (List.getElem?_eq_some_iff.1 hu).1
      simpa [tkC] using this
    exact h.cells (g := g) rfl _ _ ((tks_at hx i hi).trans hu)
end

theorem rd_new (w : World) (s : ByteArray) (h : glN ≤ w.heap.size) : RD (w.alloc (.cells #[.string s, .int .i64 0, .slice none 0 0] 41)) w.heap.size s 0 [] :=
  ⟨h, .slice none 0 0, heap_new _ _, World.ownsRow_nil _ _ _ _⟩

/-- the world when a reader begins -/
def tokW (w : World) (s : ByteArray) : World := ((w.alloc (.cells #[.int .u16 0] 29)).alloc (.cells #[.int .i64 0] 3)).alloc (.cells #[.string s, .int .i64 0, .slice none 0 0] 41)
theorem tokW_below (w : World) (s : ByteArray) : Below w.heap.size w (tokW w s) := (((Below.refl _ _).alloc (Nat.le_refl _) _).alloc (by simp) _).alloc (by simp; omega) _
theorem tokW_rd (w : World) (s : ByteArray) (hG : Gl w) : RD (tokW w s) (w.heap.size + 1 + 1) s 0 [] := by
  have := rd_new ((w.alloc (.cells #[.int .u16 0] 29)).alloc (.cells #[.int .i64 0] 3)) s (by have := hG.top; simp; omega)
  simp only [World.size_alloc] at this
  exact this
theorem tokW_err (w : World) (s : ByteArray) : ErrAt (tokW w s) w.heap.size (w.heap.size + 1) := by
  refine ⟨?_, ?_, by omega⟩
  · unfold tokW
    rw [heap_lt _ _ (by simp; omega), heap_lt _ _ (by simp), heap_new]
  · unfold tokW
    rw [heap_lt _ _ (by simp)]
    have := heap_new (w.alloc (.cells #[.int .u16 0] 29)) (.cells #[.int .i64 0] 3)
    simpa using this
theorem ErrAt.on {w w' : World} {E A R : Nat} (h : ErrAt w E A) (hb : Below R w w') (h1 : E < R) (h2 : A < R) : ErrAt w' E A :=
  ⟨(hb.block E h1).trans h.1, (hb.block A h2).trans h.2.1, h.2.2⟩

set_option maxRecDepth 100000 in
set_option maxHeartbeats 4000000 in
theorem tok_err (s : ByteArray) (w : World) (hG : Gl w) (t : TypeId) (pv : Value) (er : Nat) (k : Int)
    (hread : ∀ W R, RD W R s 0 [] → Gl W → Calls Tryz.prog 15 #[.pointer (some ⟨R, 0, none⟩)] W fun e w' => e = .panicked [{ v := .iface t pv, recovered := false }] ∧ Below R W w')
    (hw : ∀ R W, Calls Tryz.prog 14 #[.pointer (some ⟨R, 0, none⟩), .iface t pv] W fun e w' => e = .returned (.tuple #[.int .u16 er, .int .i64 k]) ∧ Below W.heap.size W w') :
    Calls Tryz.prog 8 #[.string s] w fun e w' => e = .returned (.tuple #[.slice none 0 0, .int .u16 er, .int .i64 k]) ∧ Below w.heap.size w w' := by
  have hmf : ∀ (fn : Fn) (first cap : Array Value) (w : World), (Instr.makeFunc fn first cap).run Tryz.prog w = .ok (.func fn first cap) w := fun _ _ _ _ => rfl
  have hr := hread _ _ (tokW_rd w s hG) (hG.next (tokW_below w s))
  have HB := Lib.hid (tokW_below w s)
  have HE := Lib.hid (tokW_err w s)
  clear hG
  unfold tokW at hr HB HE
  go_enter_defers Tryz.func8, Tryz.ntmps8
  go_wp2_with fail
  refine hr.mono ?_
  rintro e w1 ⟨rfl, hb1⟩
  have hE1 := HE.out.on hb1 (by omega) (by omega)
  have HB1 := Lib.hid (HB.out.trans (hb1.mono (by omega)))
  clear hb1 HB HE hr
  obtain ⟨E, hEq⟩ : ∃ E, w.heap.size = E := ⟨_, rfl⟩
  rw [hEq] at hE1 HB1 ⊢
  have HEq := Lib.hid hEq
  clear hEq
  go_wp2
  refine leaves_cons (f := 13) (args := #[.pointer (some ⟨E + 1 + 1, 0, none⟩), .pointer (some ⟨E, 0, none⟩), .pointer (some ⟨E + 1, 0, none⟩)]) (by simp) (by simp [go_sem]) ?_
  refine (catch_of _ _ _ _ t pv [] er k hE1 (hw _)).mono ?_
  rintro e u' w2 ⟨rfl, rfl, w3, hb3, rfl⟩
  obtain ⟨k1, k2, hne⟩ := hE1
  have k3 := (hb3.block E (Array.getElem?_eq_some_iff.1 k1).1).trans k1
  have k4 := (hb3.block (E + 1) (Array.getElem?_eq_some_iff.1 k2).1).trans k2
  have c3 : w3.cell? ⟨E, 0, none⟩ = some (.int .u16 0) := by simp [World.cell?, k3]
  have c4 : w3.cell? ⟨E + 1, 0, none⟩ = some (.int .i64 0) := by simp [World.cell?, k4]
  have hB : Below E w ((w3.setCell ⟨E, 0, none⟩ (.int .u16 er)).setCell ⟨E + 1, 0, none⟩ (.int .i64 k)) :=
    ((HB1.out.trans (hb3.mono (by have := HB1.out.size; have := (Array.getElem?_eq_some_iff.1 k1).1; omega))).setCell (p := ⟨E, 0, none⟩) (Nat.le_refl E) _).setCell (p := ⟨E + 1, 0, none⟩) (by show E ≤ E + 1; omega) _
  clear k1 k2 k3 k4
  simp [Leaves, settle, results, Tryz.results8, go_sem, c3, c4]
  rw [HEq.out]
  exact hB

set_option maxRecDepth 100000 in
set_option maxHeartbeats 4000000 in
theorem tok_ok (s : ByteArray) (w : World) (hG : Gl w) (ts : List Tok)
    (hread : ∀ W R, RD W R s 0 [] → Gl W → Calls Tryz.prog 15 #[.pointer (some ⟨R, 0, none⟩)] W fun e w' => e = .returned (.tuple #[]) ∧ (∃ k, RD w' R s k ts) ∧ Bk R W w') :
    Calls Tryz.prog 8 #[.string s] w fun e w' => ∃ A n c, e = .returned (.tuple #[.slice A n c, .int .u16 0, .int .i64 0]) ∧ n ≤ c ∧ c ≤ maxLen ∧ TI w' w'.heap.size A n ts ∧ Below w.heap.size w w' := by
  have hmf : ∀ (fn : Fn) (first cap : Array Value) (w : World), (Instr.makeFunc fn first cap).run Tryz.prog w = .ok (.func fn first cap) w := fun _ _ _ _ => rfl
  have hr := hread _ _ (tokW_rd w s hG) (hG.next (tokW_below w s))
  have HB := Lib.hid (tokW_below w s)
  have HE := Lib.hid (tokW_err w s)
  clear hG
  unfold tokW at hr HB HE
  go_enter_defers Tryz.func8, Tryz.ntmps8
  go_wp2_with fail
  refine hr.mono ?_
  rintro e w1 ⟨rfl, ⟨kk, hrd⟩, hb1⟩
  have hE1 := HE.out.on hb1.1 (by omega) (by omega)
  have HB1 := Lib.hid (HB.out.trans (hb1.1.mono (by omega)))
  clear hb1 HB HE hr
  obtain ⟨E, hEq⟩ : ∃ E, w.heap.size = E := ⟨_, rfl⟩
  rw [hEq] at hE1 HB1 hrd ⊢
  have HEq := Lib.hid hEq
  clear hEq
  obtain ⟨_, v, hb, hown⟩ := hrd
  obtain ⟨A, c, rfl, _, _⟩ := own_slice4 hown
  obtain ⟨_, _, d2, _, _⟩ := rd_cells hb
  obtain ⟨k1, k2, hne⟩ := hE1
  have c1 : w1.cell? ⟨E, 0, none⟩ = some (.int .u16 0) := by simp [World.cell?, k1]
  have c2 : w1.cell? ⟨E + 1, 0, none⟩ = some (.int .i64 0) := by simp [World.cell?, k2]
  have f1 : w1.frozen? ⟨E, 0, none⟩ = false := by simp [World.frozen?, k1]
  have f2 : w1.frozen? ⟨E + 1, 0, none⟩ = false := by simp [World.frozen?, k2]
  have hn1 := row_ne hown k1 (by decide)
  have hn2 := row_ne hown k2 (by decide)
  have hB : Below E w ((w1.setCell ⟨E, 0, none⟩ (.int .u16 0)).setCell ⟨E + 1, 0, none⟩ (.int .i64 0)) :=
    (HB1.out.setCell (p := ⟨E, 0, none⟩) (Nat.le_refl E) _).setCell (p := ⟨E + 1, 0, none⟩) (by show E ≤ E + 1; omega) _
  have hO : ((w1.setCell ⟨E, 0, none⟩ (.int .u16 0)).setCell ⟨E + 1, 0, none⟩ (.int .i64 0)).ownsRow (E + 1 + 1) 35 4 (.slice A ts.length c) ts.length (tksC ts) :=
    (hown.kept (Lib.grownBy_setCell w1 E 0 _) (.inr hn1)).kept (Lib.grownBy_setCell _ (E + 1) 0 _) (.inr hn2)
  obtain ⟨A', c', he, h1, h2, h3⟩ := TI.of_own hO rfl
  obtain ⟨rfl, rfl⟩ : A' = A ∧ c' = c := by injection he with e1 e2 e3; exact ⟨e1.symm, e3.symm⟩
  have HF := Lib.hid (And.intro h1 (And.intro h2 (And.intro h3 hB)))
  clear k1 k2 hb hown hO he h3 hB HB1
  obtain ⟨n, hn⟩ : ∃ n, ts.length = n := ⟨_, rfl⟩
  rw [hn] at d2 HF h1
  clear hn
  go_wp2
  refine leaves_cons (f := 13) (args := #[.pointer (some ⟨E + 1 + 1, 0, none⟩), .pointer (some ⟨E, 0, none⟩), .pointer (some ⟨E + 1, 0, none⟩)]) (by simp) (by simp [go_sem]) ?_
  refine (catch_idle _ _ _ _).mono ?_
  rintro e u' w2 ⟨rfl, rfl, rfl⟩
  simp [Leaves, settle, results, Tryz.results8, go_sem, c1, c2]
  refine ⟨_, _, _, ⟨rfl, rfl, rfl⟩, HF.out.1, HF.out.2.1, ?_, ?_⟩
  · have := HF.out.2.2.1
    simpa using this
  · rw [HEq.out]
    exact HF.out.2.2.2

/-- what Tokens answers: tokens in new memory, what is wrong, where -/
def TokTold (w : World) (r : List Tok × Nat × Nat) (e : Ending) (w' : World) : Prop :=
  ∃ A n c, e = .returned (.tuple #[.slice A n c, .int .u16 r.2.1, .int .i64 r.2.2]) ∧ n ≤ c ∧ c ≤ maxLen ∧ TI w' w'.heap.size A n r.1 ∧ Below w.heap.size w w'
theorem tok_none {s : ByteArray} {w : World} {er k : Nat} (h : Calls Tryz.prog 8 #[.string s] w fun e w' => e = .returned (.tuple #[.slice none 0 0, .int .u16 er, .int .i64 k]) ∧ Below w.heap.size w w') :
    Calls Tryz.prog 8 #[.string s] w (TokTold w ([], er, k)) :=
  h.mono fun _ _ ⟨he, hb⟩ => ⟨none, 0, 0, he, Nat.le_refl _, Nat.zero_le _, TI.nil _ _ _, hb⟩
theorem tokens_any (s : ByteArray) (w : World) (hG : Gl w) : Calls Tryz.prog 8 #[.string s] w (TokTold w (lexL s.data.toList)) := by
  unfold lexL
  by_cases h4 : 4000 < s.data.toList.length
  · rw [if_pos h4]
    rw [size_list] at h4
    exact tok_none (tok_err s w hG _ _ 3 0 (fun W R hW _ => read_long W R 0 s [] hW h4) (fun R W => whatIs_long W R))
  · rw [if_neg h4]
    have hs : s.size ≤ 4000 := by rw [size_list] at h4; omega
    cases hr : runL s.data.toList 0 [] with
    | inr k =>
      refine tok_none (tok_err s w hG _ _ 20 k (fun W R hW hGW => ?_) (fun R W => whatIs_bad W R k))
      have := read_any W R s hW hGW hs
      rw [hr] at this
      exact this
    | inl ts =>
      simp only
      by_cases hb : 1000 < ts.length
      · rw [if_pos hb]
        refine tok_none (tok_err s w hG _ _ 3 0 (fun W R hW hGW => ?_) (fun R W => whatIs_long W R))
        have := read_any W R s hW hGW hs
        rw [hr] at this
        refine this.mono fun e w' h => ?_
        rw [readTold_inl, if_pos hb] at h
        exact h
      · rw [if_neg hb]
        refine tok_ok s w hG ts (fun W R hW hGW => ?_)
        have := read_any W R s hW hGW hs
        rw [hr] at this
        refine this.mono fun e w' h => ?_
        rw [readTold_inl, if_neg hb] at h
        exact h
end Go.Proofs.YtnifcgiajjmogaaGreatDoor.C
