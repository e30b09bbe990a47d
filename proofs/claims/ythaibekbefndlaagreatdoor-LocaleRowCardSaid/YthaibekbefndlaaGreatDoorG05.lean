/-
  Joined: MLxZ, MLxH, MLxK, MLxL, LcP, LcA, LcB. Each with what its own head says.
-/
import Derived.Test.YthaibekbefndlaaGreatDoorG04
import Derived.WalkLawsBesides
import Derived.Laws.CopyRow
import Derived.Laws.BitsAllLaws
import Derived.Laws.IdiomStrings
import Derived.Test.YthaibekbefndlaaGreatDoorG00
import Derived.Deep.RegionHeld3

namespace Go.Proofs.YthaibekbefndlaaGreatDoor.C
open Go.RowKit

/-- a slice of tokens: its value (address A, length n) reads as the tokens ts, below block B; nil let in -/
def TI (w : World) (B : Nat) (A : Option Addr) (n : Nat) (ts : List Tok) : Prop :=
  ts.length = n ∧ (0 < n → ∃ ad, A = some ad ∧ ad.block < B ∧ ∀ j x, ts[j]? = some x → ∀ i u, (tkC x)[i]? = some u → w.cell? (ad.add (j * 4 + i)) = some u)
section
variable {w w' : World} {B B' n : Nat} {A : Option Addr} {ts : List Tok}
theorem TI.len (h : TI w B A n ts) : ts.length = n := h.1
theorem TI.nil (w : World) (B : Nat) (A : Option Addr) : TI w B A 0 [] := ⟨rfl, fun h => absurd h (by omega)⟩
theorem TI.keep (h : TI w B A n ts) (hk : ∀ p : Addr, p.block < B → w'.cell? p = w.cell? p) : TI w' B A n ts :=
  ⟨h.1, fun hn => by
    obtain ⟨ad, e, hb, hc⟩ := h.2 hn
    exact ⟨ad, e, hb, fun j x hx i u hu => (hk _ (by rw [block_of_add]; exact hb)).trans (hc j x hx i u hu)⟩⟩
theorem TI.more (h : TI w B A n ts) (hB : B ≤ B') : TI w B' A n ts :=
  ⟨h.1, fun hn => by
    obtain ⟨ad, e, hb, hc⟩ := h.2 hn
    exact ⟨ad, e, by omega, hc⟩⟩
theorem TI.on (h : TI w B A n ts) (hb : Below B' w w') (hB : B ≤ B') : TI w' B A n ts := h.keep fun p hp => hb.cell (p := p) (by omega)
theorem TI.drewN (h : TI w B A n ts) (k : Nat) : TI (w.drewN k) B A n ts := h
theorem TI.at_ (h : TI w B A n ts) {k : Nat} (hk : k < n) : ∃ ad x, A = some ad ∧ ad.block < B ∧ ts[k]? = some x ∧ (∀ i u, (tkC x)[i]? = some u → w.cell? (ad.add (k * 4 + i)) = some u) := by
  obtain ⟨ad, e, hb, hc⟩ := h.2 (by omega)
  have hl : k < ts.length := by have := h.1; omega
  exact ⟨ad, ts[k], e, hb, List.getElem?_eq_getElem hl, hc k _ (List.getElem?_eq_getElem hl)⟩
theorem TI.of_own {base : Nat} {v : Value} (h : w.ownsRow base 92 4 v n (tksC ts)) (hl : ts.length = n) : ∃ A c, v = .slice A n c ∧ n ≤ c ∧ c ≤ maxLen ∧ TI w w.heap.size A n ts := by
  rcases h.2 with ⟨rfl, h0⟩ | ⟨g, c, cur, rfl, _, hg, hnc, hm, _⟩
  · obtain rfl : n = 0 := by have := h.1; rw [h0] at this; simp at this; omega
    obtain rfl : ts = [] := List.eq_nil_of_length_eq_zero hl
    exact ⟨none, 0, rfl, Nat.le_refl _, Nat.zero_le _, TI.nil _ _ _⟩
  · refine ⟨_, c, rfl, hnc, hm, hl, fun _ => ⟨_, rfl, (Array.getElem?_eq_some_iff.1 hg).1, fun j x hx i u hu => ?_⟩⟩
    have hi : i < 4 := by
      have := (List.getElem?_eq_some_iff.1 hu).1
      simpa [tkC] using this
    exact h.cells (g := g) rfl _ _ ((tks_at hx i hi).trans hu)
end

theorem rd_new (w : World) (s : ByteArray) (h : glN ≤ w.heap.size) : RD (w.alloc (.cells #[.string s, .int .i64 0, .slice none 0 0] 85)) w.heap.size s 0 [] :=
  ⟨h, .slice none 0 0, heap_new _ _, World.ownsRow_nil _ _ _ _⟩

/-- the world when a reader begins -/
def tokW (w : World) (s : ByteArray) : World := ((w.alloc (.cells #[.int .u16 0] 28)).alloc (.cells #[.int .i64 0] 3)).alloc (.cells #[.string s, .int .i64 0, .slice none 0 0] 85)
theorem tokW_below (w : World) (s : ByteArray) : Below w.heap.size w (tokW w s) := (((Below.refl _ _).alloc (Nat.le_refl _) _).alloc (by simp) _).alloc (by simp; omega) _
theorem tokW_rd (w : World) (s : ByteArray) (hG : Gl w) : RD (tokW w s) (w.heap.size + 1 + 1) s 0 [] := by
  have := rd_new ((w.alloc (.cells #[.int .u16 0] 28)).alloc (.cells #[.int .i64 0] 3)) s (by have := hG.top; simp; omega)
  simp only [World.size_alloc] at this
  exact this
theorem tokW_err (w : World) (s : ByteArray) : ErrAt (tokW w s) w.heap.size (w.heap.size + 1) := by
  refine ⟨?_, ?_, by omega⟩
  · unfold tokW
    rw [heap_lt _ _ (by simp; omega), heap_lt _ _ (by simp), heap_new]
  · unfold tokW
    rw [heap_lt _ _ (by simp)]
    have := heap_new (w.alloc (.cells #[.int .u16 0] 28)) (.cells #[.int .i64 0] 3)
    simpa using this
theorem ErrAt.on {w w' : World} {E A R : Nat} (h : ErrAt w E A) (hb : Below R w w') (h1 : E < R) (h2 : A < R) : ErrAt w' E A :=
  ⟨(hb.block E h1).trans h.1, (hb.block A h2).trans h.2.1, h.2.2⟩

set_option maxRecDepth 100000 in
set_option maxHeartbeats 4000000 in
theorem tok_err (s : ByteArray) (w : World) (hG : Gl w) (t : TypeId) (pv : Value) (er : Nat) (k : Int)
    (hread : ∀ W R, RD W R s 0 [] → Gl W → Calls Tryz.prog 35 #[.pointer (some ⟨R, 0, none⟩)] W fun e w' => e = .panicked [{ v := .iface t pv, recovered := false }] ∧ Below R W w')
    (hw : ∀ R W, Calls Tryz.prog 34 #[.pointer (some ⟨R, 0, none⟩), .iface t pv] W fun e w' => e = .returned (.tuple #[.int .u16 er, .int .i64 k]) ∧ Below W.heap.size W w') :
    Calls Tryz.prog 18 #[.string s] w fun e w' => e = .returned (.tuple #[.slice none 0 0, .int .u16 er, .int .i64 k]) ∧ Below w.heap.size w w' := by
  have hmf : ∀ (fn : Fn) (first cap : Array Value) (w : World), (Instr.makeFunc fn first cap).run Tryz.prog w = .ok (.func fn first cap) w := fun _ _ _ _ => rfl
  have hr := hread _ _ (tokW_rd w s hG) (hG.next (tokW_below w s))
  have HB := Lib.hid (tokW_below w s)
  have HE := Lib.hid (tokW_err w s)
  clear hG
  unfold tokW at hr HB HE
  go_enter_defers Tryz.func18, Tryz.ntmps18
  go_wp2_with fail
  refine hr.mono ?_
  rintro e w1 ⟨rfl, hb1⟩
  have hE1 := HE.out.on hb1 (by omega) (by omega)
  have HB1 := Lib.hid (HB.out.trans (hb1.mono (by omega)))
  clear hb1 HB HE hr
  obtain ⟨E, hEq⟩ : ∃ E, w.heap.size = E := ⟨_, rfl⟩
  rw [hEq] at hE1 HB1 ⊢
  have HEq := Lib.hid hEq
  clear hEq
  go_wp2
  refine leaves_cons (f := 33) (args := #[.pointer (some ⟨E + 1 + 1, 0, none⟩), .pointer (some ⟨E, 0, none⟩), .pointer (some ⟨E + 1, 0, none⟩)]) (by simp) (by simp [go_sem]) ?_
  refine (catch_of _ _ _ _ t pv [] er k hE1 (hw _)).mono ?_
  rintro e u' w2 ⟨rfl, rfl, w3, hb3, rfl⟩
  obtain ⟨k1, k2, hne⟩ := hE1
  have k3 := (hb3.block E (Array.getElem?_eq_some_iff.1 k1).1).trans k1
  have k4 := (hb3.block (E + 1) (Array.getElem?_eq_some_iff.1 k2).1).trans k2
  have c3 : w3.cell? ⟨E, 0, none⟩ = some (.int .u16 0) := by simp [World.cell?, k3]
  have c4 : w3.cell? ⟨E + 1, 0, none⟩ = some (.int .i64 0) := by simp [World.cell?, k4]
  have hB : Below E w ((w3.setCell ⟨E, 0, none⟩ (.int .u16 er)).setCell ⟨E + 1, 0, none⟩ (.int .i64 k)) :=
    ((HB1.out.trans (hb3.mono (by have := HB1.out.size; have := (Array.getElem?_eq_some_iff.1 k1).1; omega))).setCell (p := ⟨E, 0, none⟩) (Nat.le_refl E) _).setCell (p := ⟨E + 1, 0, none⟩) (by show E ≤ E + 1; omega) _
  clear k1 k2 k3 k4
  simp [Leaves, settle, results, Tryz.results18, go_sem, c3, c4]
  rw [HEq.out]
  exact hB

set_option maxRecDepth 100000 in
set_option maxHeartbeats 4000000 in
theorem tok_ok (s : ByteArray) (w : World) (hG : Gl w) (ts : List Tok)
    (hread : ∀ W R, RD W R s 0 [] → Gl W → Calls Tryz.prog 35 #[.pointer (some ⟨R, 0, none⟩)] W fun e w' => e = .returned (.tuple #[]) ∧ (∃ k, RD w' R s k ts) ∧ Bk R W w') :
    Calls Tryz.prog 18 #[.string s] w fun e w' => ∃ A n c, e = .returned (.tuple #[.slice A n c, .int .u16 0, .int .i64 0]) ∧ n ≤ c ∧ c ≤ maxLen ∧ TI w' w'.heap.size A n ts ∧ Below w.heap.size w w' := by
  have hmf : ∀ (fn : Fn) (first cap : Array Value) (w : World), (Instr.makeFunc fn first cap).run Tryz.prog w = .ok (.func fn first cap) w := fun _ _ _ _ => rfl
  have hr := hread _ _ (tokW_rd w s hG) (hG.next (tokW_below w s))
  have HB := Lib.hid (tokW_below w s)
  have HE := Lib.hid (tokW_err w s)
  clear hG
  unfold tokW at hr HB HE
  go_enter_defers Tryz.func18, Tryz.ntmps18
  go_wp2_with fail
  refine hr.mono ?_
  rintro e w1 ⟨rfl, ⟨kk, hrd⟩, hb1⟩
  have hE1 := HE.out.on hb1.1 (by omega) (by omega)
  have HB1 := Lib.hid (HB.out.trans (hb1.1.mono (by omega)))
  clear hb1 HB HE hr
  obtain ⟨E, hEq⟩ : ∃ E, w.heap.size = E := ⟨_, rfl⟩
  rw [hEq] at hE1 HB1 hrd ⊢
  have HEq := Lib.hid hEq
  clear hEq
  obtain ⟨_, v, hb, hown⟩ := hrd
  obtain ⟨A, c, rfl, _, _⟩ := own_slice4 hown
  obtain ⟨_, _, d2, _, _⟩ := rd_cells hb
  obtain ⟨k1, k2, hne⟩ := hE1
  have c1 : w1.cell? ⟨E, 0, none⟩ = some (.int .u16 0) := by simp [World.cell?, k1]
  have c2 : w1.cell? ⟨E + 1, 0, none⟩ = some (.int .i64 0) := by simp [World.cell?, k2]
  have f1 : w1.frozen? ⟨E, 0, none⟩ = false := by simp [World.frozen?, k1]
  have f2 : w1.frozen? ⟨E + 1, 0, none⟩ = false := by simp [World.frozen?, k2]
  have hn1 := row_ne hown k1 (by decide)
  have hn2 := row_ne hown k2 (by decide)
  have hB : Below E w ((w1.setCell ⟨E, 0, none⟩ (.int .u16 0)).setCell ⟨E + 1, 0, none⟩ (.int .i64 0)) :=
    (HB1.out.setCell (p := ⟨E, 0, none⟩) (Nat.le_refl E) _).setCell (p := ⟨E + 1, 0, none⟩) (by show E ≤ E + 1; omega) _
  have hO : ((w1.setCell ⟨E, 0, none⟩ (.int .u16 0)).setCell ⟨E + 1, 0, none⟩ (.int .i64 0)).ownsRow (E + 1 + 1) 92 4 (.slice A ts.length c) ts.length (tksC ts) :=
    (hown.kept (Lib.grownBy_setCell w1 E 0 _) (.inr hn1)).kept (Lib.grownBy_setCell _ (E + 1) 0 _) (.inr hn2)
  obtain ⟨A', c', he, h1, h2, h3⟩ := TI.of_own hO rfl
  obtain ⟨rfl, rfl⟩ : A' = A ∧ c' = c := by injection he with e1 e2 e3; exact ⟨e1.symm, e3.symm⟩
  have HF := Lib.hid (And.intro h1 (And.intro h2 (And.intro h3 hB)))
  clear k1 k2 hb hown hO he h3 hB HB1
  obtain ⟨n, hn⟩ : ∃ n, ts.length = n := ⟨_, rfl⟩
  rw [hn] at d2 HF h1
  clear hn
  go_wp2
  refine leaves_cons (f := 33) (args := #[.pointer (some ⟨E + 1 + 1, 0, none⟩), .pointer (some ⟨E, 0, none⟩), .pointer (some ⟨E + 1, 0, none⟩)]) (by simp) (by simp [go_sem]) ?_
  refine (catch_idle _ _ _ _).mono ?_
  rintro e u' w2 ⟨rfl, rfl, rfl⟩
  simp [Leaves, settle, results, Tryz.results18, go_sem, c1, c2]
  refine ⟨_, _, _, ⟨rfl, rfl, rfl⟩, HF.out.1, HF.out.2.1, ?_, ?_⟩
  · have := HF.out.2.2.1
    simpa using this
  · rw [HEq.out]
    exact HF.out.2.2.2

/-- what Tokens answers: tokens in new memory, what is wrong, where -/
def TokTold (w : World) (r : List Tok × Nat × Nat) (e : Ending) (w' : World) : Prop :=
  ∃ A n c, e = .returned (.tuple #[.slice A n c, .int .u16 r.2.1, .int .i64 r.2.2]) ∧ n ≤ c ∧ c ≤ maxLen ∧ TI w' w'.heap.size A n r.1 ∧ Below w.heap.size w w'
theorem tok_none {s : ByteArray} {w : World} {er k : Nat} (h : Calls Tryz.prog 18 #[.string s] w fun e w' => e = .returned (.tuple #[.slice none 0 0, .int .u16 er, .int .i64 k]) ∧ Below w.heap.size w w') :
    Calls Tryz.prog 18 #[.string s] w (TokTold w ([], er, k)) :=
  h.mono fun _ _ ⟨he, hb⟩ => ⟨none, 0, 0, he, Nat.le_refl _, Nat.zero_le _, TI.nil _ _ _, hb⟩
theorem tokens_any (s : ByteArray) (w : World) (hG : Gl w) : Calls Tryz.prog 18 #[.string s] w (TokTold w (lexL s.data.toList)) := by
  unfold lexL
  by_cases h4 : 4000 < s.data.toList.length
  · rw [if_pos h4]
    rw [size_list] at h4
    exact tok_none (tok_err s w hG _ _ 3 0 (fun W R hW _ => read_long W R 0 s [] hW h4) (fun R W => whatIs_long W R))
  · rw [if_neg h4]
    have hs : s.size ≤ 4000 := by rw [size_list] at h4; omega
    cases hr : runL s.data.toList 0 [] with
    | inr k =>
      refine tok_none (tok_err s w hG _ _ 20 k (fun W R hW hGW => ?_) (fun R W => whatIs_bad W R k))
      have := read_any W R s hW hGW hs
      rw [hr] at this
      exact this
    | inl ts =>
      simp only
      by_cases hb : 1000 < ts.length
      · rw [if_pos hb]
        refine tok_none (tok_err s w hG _ _ 3 0 (fun W R hW hGW => ?_) (fun R W => whatIs_long W R))
        have := read_any W R s hW hGW hs
        rw [hr] at this
        refine this.mono fun e w' h => ?_
        rw [readTold_inl, if_pos hb] at h
        exact h
      · rw [if_neg hb]
        refine tok_ok s w hG ts (fun W R hW hGW => ?_)
        have := read_any W R s hW hGW hs
        rw [hr] at this
        refine this.mono fun e w' h => ?_
        rw [readTold_inl, if_neg hb] at h
        exact h
end Go.Proofs.YthaibekbefndlaaGreatDoor.C

namespace Go.Proofs.YthaibekbefndlaaGreatDoor.C
open Go.RowKit


set_option maxHeartbeats 1000000 in
theorem tz64_16 (w : World) (h : w.cell? ⟨10, 15, none⟩ = some (.int .u8 4)) : Calls Tryz.prog 260 #[.int .u64 16] w fun e w' => e = .returned (.int .i64 4) ∧ w = w' := by
  have key : IntKind.u64.wrap (bits BinOp.and IntKind.u64 16 (IntKind.u64.wrap (-16)) * 285870213051353865) / 288230376151711744 = 15 := by decide +kernel
  go_enter Tryz.func260, Tryz.ntmps260
  go_wp2_with (simp only [key])
  all_goals go_ret
  all_goals exact ⟨rfl, rfl⟩

set_option maxHeartbeats 1000000 in
theorem isPow_16 (w : World) : Calls Tryz.prog 249 #[.int .i64 16] w fun e w' => e = .returned (.bool true) ∧ w = w' := by
  go_enter Tryz.func249, Tryz.ntmps249
  go_wp2
  all_goals go_ret
  all_goals exact ⟨rfl, rfl⟩

set_option maxHeartbeats 1000000 in
theorem tz_16 (w : World) (h : w.cell? ⟨10, 15, none⟩ = some (.int .u8 4)) : Calls Tryz.prog 250 #[.int .u64 16] w fun e w' => e = .returned (.int .i64 4) ∧ w = w' := by
  go_enter Tryz.func250, Tryz.ntmps250
  go_wp2_with fail
  refine (tz64_16 w h).mono ?_
  rintro e w' ⟨rfl, rfl⟩
  go_wp2
  all_goals go_ret
  all_goals exact ⟨rfl, rfl⟩

/-- an array of 65 bytes, all 0 -/
def zeros65 : Array Value := (Lib.byteCells (List.replicate 65 0)).toArray
theorem zeroArray (w : World) : (zeroValue 260).run Tryz.prog w = .ok (.agg zeros65) w := by kernel_rfl

/-- the array's block while digits are laid from its end on -/
def Digits (w : World) (g k : Nat) (d : List UInt8) : Prop := ∃ z : List UInt8, z.length = k ∧ w.heap[g]? = some (.cells (Lib.byteCells (z ++ d)).toArray 260 (0, 0))

theorem digits_start (w : World) : Digits (w.alloc (.cells zeros65 260)) w.heap.size 65 [] :=
  ⟨List.replicate 65 0, by simp, by rw [List.append_nil]; exact heap_alloc_new w _⟩
theorem digits_cell {w : World} {g k : Nat} {d : List UInt8} (h : Digits w g (k + 1) d) : ∃ x, w.cell? ⟨g, k, none⟩ = some (.int .u8 x) := by
  obtain ⟨z, hz, hg⟩ := h
  have hk : k < (z ++ d).length := by simp; omega
  refine ⟨((z ++ d)[k]).toNat, ?_⟩
  rw [cell_of_row w g k _ _ _ hg]
  simp only [Lib.byteCells, List.getElem?_toArray, List.getElem?_map, List.getElem?_eq_getElem hk, Option.map_some]
theorem digits_frozen {w : World} {g k : Nat} {d : List UInt8} (h : Digits w g (k + 1) d) : w.frozen? ⟨g, k, none⟩ = false := by
  obtain ⟨z, hz, hg⟩ := h
  simp [World.frozen?, hg]
theorem digits_set {w : World} {g k : Nat} {d : List UInt8} (h : Digits w g (k + 1) d) (c : UInt8) : Digits (w.setCell ⟨g, k, none⟩ (.int .u8 c.toNat)) g k (c :: d) := by
  obtain ⟨z, hz, hg⟩ := h
  refine ⟨z.take k, by simp; omega, ?_⟩
  simp only [World.setCell, Array.getElem?_modify, hg]
  simp only [if_true, Option.map_some, Option.some.injEq, Obj.cells.injEq, and_true]
  simp only [Lib.byteCells, List.setIfInBounds_toArray]
  congr 1
  rw [← List.map_set (f := fun b : UInt8 => Value.int .u8 b.toNat)]
  congr 1
  obtain ⟨z', y, rfl⟩ : ∃ z' y, z = z' ++ [y] := ⟨z.dropLast, z.getLast (by intro e; subst e; simp at hz), (List.dropLast_concat_getLast _).symm⟩
  simp at hz
  subst hz
  simp
theorem digits_cells {w : World} {g k : Nat} {d : List UInt8} (h : Digits w g k d) : ∀ j u, (Lib.byteCells d)[j]? = some u → w.cell? ((⟨g, k, none⟩ : Addr).add j) = some u := by
  obtain ⟨z, hz, hg⟩ := h
  intro j u hu
  have e : (⟨g, k, none⟩ : Addr).add j = ⟨g, k + j, none⟩ := by
    unfold Addr.add; split
    · subst_vars; rfl
    · rfl
  rw [e, cell_of_row w g (k + j) _ _ _ hg, ← hu]
  simp only [Lib.byteCells, List.map_append, List.getElem?_toArray]
  rw [List.getElem?_append_right (by simp; omega)]
  simp [hz]

theorem dig_at : ∀ (x : Nat) (h : x < (ByteArray.mk #[48, 49, 50, 51, 52, 53, 54, 55, 56, 57, 97, 98, 99, 100, 101, 102, 103, 104, 105, 106, 107, 108, 109, 110, 111, 112, 113, 114, 115, 116, 117, 118, 119, 120, 121, 122]).size), x < 16 → (ByteArray.mk #[48, 49, 50, 51, 52, 53, 54, 55, 56, 57, 97, 98, 99, 100, 101, 102, 103, 104, 105, 106, 107, 108, 109, 110, 111, 112, 113, 114, 115, 116, 117, 118, 119, 120, 121, 122])[x]'h = dig x
  | 0, _, _ => rfl
  | 1, _, _ => rfl
  | 2, _, _ => rfl
  | 3, _, _ => rfl
  | 4, _, _ => rfl
  | 5, _, _ => rfl
  | 6, _, _ => rfl
  | 7, _, _ => rfl
  | 8, _, _ => rfl
  | 9, _, _ => rfl
  | 10, _, _ => rfl
  | 11, _, _ => rfl
  | 12, _, _ => rfl
  | 13, _, _ => rfl
  | 14, _, _ => rfl
  | 15, _, _ => rfl
  | (x + 16), _, h => absurd h (by omega)
theorem and15 (u : Nat) (h : u < 18446744073709551616) : bits BinOp.and IntKind.u64 (u : Int) 15 = ((u % 16 : Nat) : Int) := by
  have := bits_and_u64_nat u 15 h (by omega)
  rw [show ((15 : Nat) : Int) = 15 from rfl] at this
  rw [this]
  have e : u &&& 15 = u % 16 := Nat.and_two_pow_sub_one_eq_mod u 4
  rw [e]
theorem arrayLen65 : Tryz.prog.arrayLen 260 = 65 := by kernel_rfl
theorem elem65 : Tryz.prog.elem 260 = 5 := by kernel_rfl
theorem under65 : Tryz.prog.underlying 260 = some (.array (Tryz.prog.arrayLen 260) (Tryz.prog.elem 260)) := by kernel_rfl
theorem sizeOf5 (W : World) : (sizeOf 5).run Tryz.prog W = .ok 1 W := by kernel_rfl
theorem slice65 (g k : Nat) (hk : k < 65) (W : World) : (Instr.sliceAt 260 (.pointer (some ⟨g, 0, none⟩)) (some (.int .i64 k)) none none).run Tryz.prog W = .ok (.slice (some ⟨g, k, none⟩) (65 - k) (65 - k)) W := by
  rw [run_sliceAt_array_l W 260 ⟨g, 0, none⟩ under65 .i64 k (by omega) (by rw [arrayLen65]; omega), elem65, sizeOf5, arrayLen65]
  simp only [Result.andThen, slicedAt, Int.toNat_natCast]
  rw [if_neg (by omega)]
  congr 3
  unfold Addr.add
  split <;> simp_all
end Go.Proofs.YthaibekbefndlaaGreatDoor.C

namespace Go.Proofs.YthaibekbefndlaaGreatDoor.C
open Go.RowKit

set_option maxHeartbeats 1000000 in
theorem formatStr_16 (w : World) (u : Nat) (hu : u < 16 ^ 16) (hT : w.cell? ⟨10, 15, none⟩ = some (.int .u8 4)) :
    Calls Tryz.prog 233 #[.slice none 0 0, .int .u64 u, .int .i64 16, .bool false, .bool false] w fun e w' => e = .returned (.tuple #[.slice none 0 0, .string (str (hexL u))]) ∧ Below w.heap.size w w' := by
  have HU := Lib.hid hu
  clear hu
  have hz := zeroArray
  have hT1 : ∀ o, (w.alloc o).cell? ⟨10, 15, none⟩ = some (.int .u8 4) := fun o => by rw [World.cell?_alloc_lt w o _ (World.block_lt_of_cell? w _ hT)]; exact hT
  go_enter Tryz.func233, Tryz.ntmps233
  go_wp2_with fail
  refine (isPow_16 _).mono ?_
  rintro e w' ⟨rfl, rfl⟩
  go_wp2_with fail
  refine (tz_16 _ (hT1 _)).mono ?_
  rintro e w' ⟨rfl, rfl⟩
  go_wp2_with fail
  go_loopw [1, 13] (fun uv iv wr => ∃ (uu k : Nat) (d : List UInt8), uv = .int .u64 uu ∧ iv = .int .i64 k ∧ uu < 18446744073709551616 ∧ HexSt u uu d k ∧ Digits wr w.heap.size k d ∧ Below w.heap.size w wr) (fun uv _ _ => (intOf uv).toNat)
  case atStart => exact ⟨u, 65, [], rfl, rfl, by have := HU.out; simpa using this, hexSt_zero HU.out, digits_start w, (Below.refl _ _).alloc (Nat.le_refl _) _⟩
  case round =>
    obtain ⟨uu, k, d, rfl, rfl, huu, hst, hdg, hb⟩ := hrel
    obtain ⟨hk1, hk2⟩ := hexSt_left hst
    obtain ⟨k, rfl⟩ : ∃ k', k = k' + 1 := ⟨k - 1, by omega⟩
    obtain ⟨x, hcell⟩ := digits_cell hdg
    have hfz := digits_frozen hdg
    have HS := Lib.hid hst
    have HD := Lib.hid hdg
    clear hst hdg
    by_cases hlt : uu < 16
    · have hend := hexSt_end HS.out hlt
      have hlen : (dig uu :: d).length = 65 - k := by have := HS.out.2.1; simp; omega
      have hdg2 : ∀ h, Digits (wr.setCell ⟨w.heap.size, k, none⟩ (.int .u8 ((ByteArray.mk #[48, 49, 50, 51, 52, 53, 54, 55, 56, 57, 97, 98, 99, 100, 101, 102, 103, 104, 105, 106, 107, 108, 109, 110, 111, 112, 113, 114, 115, 116, 117, 118, 119, 120, 121, 122])[uu]'h).toNat)) w.heap.size k (dig uu :: d) := fun h => by rw [dig_at _ _ hlt]; exact digits_set HD.out _
      have HE := Lib.hid hend
      have HL := Lib.hid hlen
      have HD2 := Lib.hid hdg2
      clear hend hlen hdg2
      have hsl := slice65 w.heap.size k (by omega)
      have hcv : ∀ h, (convert 38 9 (.slice (some ⟨w.heap.size, k, none⟩) (65 - k) (65 - k))).run Tryz.prog (wr.setCell ⟨w.heap.size, k, none⟩ (.int .u8 ((ByteArray.mk #[48, 49, 50, 51, 52, 53, 54, 55, 56, 57, 97, 98, 99, 100, 101, 102, 103, 104, 105, 106, 107, 108, 109, 110, 111, 112, 113, 114, 115, 116, 117, 118, 119, 120, 121, 122])[uu]'h).toNat)) = .ok (.string (str (dig uu :: d))) (wr.setCell ⟨w.heap.size, k, none⟩ (.int .u8 ((ByteArray.mk #[48, 49, 50, 51, 52, 53, 54, 55, 56, 57, 97, 98, 99, 100, 101, 102, 103, 104, 105, 106, 107, 108, 109, 110, 111, 112, 113, 114, 115, 116, 117, 118, 119, 120, 121, 122])[uu]'h).toNat)) := fun h => by
        have := run_convert_bytes_back (P := Tryz.prog) (wr.setCell ⟨w.heap.size, k, none⟩ (.int .u8 ((ByteArray.mk #[48, 49, 50, 51, 52, 53, 54, 55, 56, 57, 97, 98, 99, 100, 101, 102, 103, 104, 105, 106, 107, 108, 109, 110, 111, 112, 113, 114, 115, 116, 117, 118, 119, 120, 121, 122])[uu]'h).toNat)) 38 9 5 ⟨w.heap.size, k, none⟩ (65 - k) (dig uu :: d) Tryz.underlying38 Tryz.underlying5 Tryz.underlying9 (fun j hj => digits_cells (HD2.out h) j _ (by unfold Lib.byteCells; rw [List.getElem?_map, List.getElem?_eq_getElem hj]; rfl))
        rwa [HL.out] at this
      go_wp2
      go_ret2
      exact ⟨by rw [HE.out]; rfl, hb.setCell (Nat.le_refl _) _⟩
    · have hand := and15 uu huu
      have hm : uu % 16 < 16 := Nat.mod_lt _ (by omega)
      go_wp2
      go_roundw
      case rel => exact ⟨uu / 16, k, dig (uu % 16) :: d, by go_num, rfl, by omega, hexSt_step HS.out hlt, by rw [dig_at _ _ hm]; exact digits_set HD.out _, hb.setCell (Nat.le_refl _) _⟩
      case measure => simp [intOf]; omega


set_option maxHeartbeats 1000000 in
theorem formatInt0_16 (w : World) (u : Nat) (hu : u < 1152921504606846976) (hT : w.cell? ⟨10, 15, none⟩ = some (.int .u8 4)) :
    Calls Tryz.prog 242 #[.int .i64 u, .int .i64 16] w fun e w' => e = .returned (.string (str (hexL u))) ∧ Below w.heap.size w w' := by
  have hf := formatStr_16 w u (Nat.lt_of_lt_of_le hu (by decide)) hT
  go_enter Tryz.func242, Tryz.ntmps242
  go_wp2_with fail
  refine hf.mono ?_
  rintro e w1 ⟨rfl, hb⟩
  go_wp2
  go_ret
  exact ⟨rfl, hb⟩
set_option maxHeartbeats 1000000 in
theorem formatInt_16 (w : World) (u : Nat) (hu : u < 1152921504606846976) (hT : w.cell? ⟨10, 15, none⟩ = some (.int .u8 4)) :
    Calls Tryz.prog 223 #[.int .i64 u, .int .i64 16] w fun e w' => e = .returned (.string (str (hexL u))) ∧ Below w.heap.size w w' := by
  have hf := formatInt0_16 w u hu hT
  go_enter Tryz.func223, Tryz.ntmps223
  go_wp2_with fail
  refine hf.mono ?_
  rintro e w1 ⟨rfl, hb⟩
  go_wp2
  go_ret
  exact ⟨rfl, hb⟩

theorem repeat_one (c : UInt8) : ∀ n, Lib.repeatL [c] n = List.replicate n c
  | 0 => rfl
  | n + 1 => by
    show [c] ++ Lib.repeatL [c] n = _
    rw [repeat_one c n]
    rfl
theorem dig_ascii (n : Nat) (h : n < 16) : (dig n).toNat < 128 := by
  have : ∀ n : Nat, n < 16 → (dig n).toNat < 128 := by decide +kernel
  exact this n h
theorem hexL_ascii : ∀ (m n : Nat), n < m → ∀ b ∈ hexL n, b.toNat < 128
  | 0, n, h => by omega
  | m + 1, n, h => by
    intro b hb
    by_cases h1 : n < 16
    · rw [hexL_small h1] at hb
      simp at hb
      subst hb
      exact dig_ascii n h1
    · rw [hexL_big h1] at hb
      simp at hb
      rcases hb with hb | rfl
      · exact hexL_ascii m (n / 16) (by omega) b hb
      · exact dig_ascii _ (Nat.mod_lt _ (by omega))
theorem str_append (a b : List UInt8) : str a ++ str b = str (a ++ b) := by
  rw [← str_of (str a ++ str b)]
  simp [str]
theorem upper_any (l : List UInt8) (h : ∀ b ∈ l, b.toNat < 128) (hl : l.length ≤ 1000) (w : World) :
    Calls Tryz.prog 222 #[.string (str l)] w fun e w' => e = .returned (.string (str (l.map Lib.upperB))) ∧ Below w.heap.size w w' := by
  have := Tryz.strings_ToUpper_ascii (str l) w (by rw [str_size]; omega) (fun j b hb => h b (List.mem_of_getElem? hb))
  exact this
theorem repeat_any (n : Nat) (hn : n ≤ 1000) (w : World) :
    Calls Tryz.prog 224 #[.string ⟨#[48]⟩, .int .i64 n] w fun e w' => e = .returned (.string (str (List.replicate n 48))) ∧ Below w.heap.size w w' := by
  have := Tryz.strings_Repeat ⟨#[48]⟩ n w (by omega) (by show 1 * n ≤ _; omega)
  rw [show (ByteArray.mk #[48]).data.toList = [48] from rfl, repeat_one] at this
  exact this
set_option maxRecDepth 100000 in
set_option maxHeartbeats 1000000 in
theorem digitsOf_any (n : Nat) (hn : n < 1048576 * 1048576) (w : World) (hG : Gl w) :
    Calls Tryz.prog 200 #[.int .i64 n] w fun e w' => e = .returned (.string (str (greatL n))) ∧ Below w.heap.size w w' := by
  have hf := formatInt_16 w n (by omega) hG.2.1
  have hlen := hexL_len 9 n (by omega)
  have hup := fun W => upper_any (hexL n) (hexL_ascii (n + 1) n (by omega)) (by omega) W
  have hrep := fun W => repeat_any (4 - (hexL n).length) (by omega) W
  have hcat : (str (List.replicate (4 - (hexL n).length) 48)).size + (hexL n).length ≤ 9223372036854775807 := by rw [str_size, List.length_replicate]; omega
  have hz := str_size ((hexL n).map Lib.upperB)
  rw [List.length_map] at hz
  have he : str (List.replicate (4 - (hexL n).length) 48) ++ str ((hexL n).map Lib.upperB) = str (greatL n) := str_append _ _
  obtain ⟨m, hm⟩ : ∃ m, (hexL n).length = m := ⟨_, rfl⟩
  rw [hm] at hz hrep hlen he hcat
  generalize str (hexL n) = X at *
  generalize str ((hexL n).map Lib.upperB) = Y at *
  generalize str (List.replicate (4 - m) 48) = Z at *
  have HE := Lib.hid he
  have n0 : (0 : Int) ≤ (n : Int) := by omega
  clear hm he
  by_cases h4 : m ≤ 4
  · obtain ⟨q, hq⟩ : ∃ q : Nat, 4 - m = q := ⟨_, rfl⟩
    rw [hq] at hrep
    have hq1 : (4 : Int) - (m : Int) = (q : Int) := by omega
    have q0 : (0 : Int) ≤ (q : Int) := by omega
    have q1 : (m : Int) ≤ 4 := by omega
    clear hq
    go_enter Tryz.func200, Tryz.ntmps200
    go_wp2_with (first
      | (go_at_call 223; refine hf.mono ?_; rintro e w1 ⟨rfl, hb1⟩)
      | (go_at_call 222; refine (hup _).mono ?_; rintro e w2 ⟨rfl, hb2⟩)
      | (go_at_call 224; refine (hrep _).mono ?_; rintro e w3 ⟨rfl, hb3⟩))
    go_ret
    exact ⟨by rw [← HE.out]; rfl, (hb1.trans (hb2.mono hb1.size)).trans (hb3.mono (Nat.le_trans hb1.size hb2.size))⟩
  · have hq : 4 - m = 0 := by omega
    rw [hq] at hrep
    have q1 : max ((4 : Int) - (m : Int)) 0 = 0 := by omega
    have hrep' : ∀ W, Calls Tryz.prog 224 #[.string ⟨#[48]⟩, .int .i64 0] W fun e w' => e = .returned (.string Z) ∧ Below W.heap.size W w' := hrep
    clear hq hrep
    go_enter Tryz.func200, Tryz.ntmps200
    go_wp2_with (first
      | (go_at_call 223; refine hf.mono ?_; rintro e w1 ⟨rfl, hb1⟩)
      | (go_at_call 222; refine (hup _).mono ?_; rintro e w2 ⟨rfl, hb2⟩)
      | (go_at_call 224; refine (hrep' _).mono ?_; rintro e w3 ⟨rfl, hb3⟩))
    go_ret
    exact ⟨by rw [← HE.out]; rfl, (hb1.trans (hb2.mono hb1.size)).trans (hb3.mono (Nat.le_trans hb1.size hb2.size))⟩

/-- a token's text, as it is printed -/
def prt (x : Tok) : List UInt8 :=
  if x.k = 3 then [60, 85] ++ greatL x.n ++ [62, 32] else if x.k = 5 then [60] ++ x.t ++ [62, 32] else if x.k = 4 then [34] ++ x.t ++ [34, 32] else if x.k = 6 then [10] else x.t ++ [32]
def prtL (ts : List Tok) : List UInt8 := ts.flatMap prt
theorem prt_str1 (a b c : List UInt8) : (⟨a.toArray⟩ : ByteArray) ++ str b ++ ⟨c.toArray⟩ = str (a ++ b ++ c) := by
  show str a ++ str b ++ str c = _
  rw [str_append, str_append]
theorem prt_str2 (b c : List UInt8) : str b ++ (⟨c.toArray⟩ : ByteArray) = str (b ++ c) := str_append b c

theorem hexL_pos (n : Nat) : (hexL n).length ≠ 0 := by
  by_cases h : n < 16
  · rw [hexL_small h]; simp
  · rw [hexL_big h]; simp
theorem greatL_len {n : Nat} (hn : n < 1048576 * 1048576) : (greatL n).length ≤ 14 := by
  have := hexL_len 9 n (by omega)
  unfold greatL
  simp
  omega
set_option maxRecDepth 100000 in
set_option maxHeartbeats 4000000 in
theorem printed_any (x : Tok) (a0 : Int) (w : World) (hG : Gl w) (hn : x.n < 1048576 * 1048576) (ht : x.t.length ≤ 5000) :
    Calls Tryz.prog 181 #[.agg #[.int .u8 x.k, .string (str x.t), .int .i64 x.n, .int .i64 a0]] w fun e w' => e = .returned (.string (str (prt x))) ∧ Below w.heap.size w w' := by
  obtain ⟨kd, t, n, at_⟩ := x
  simp only at hn ht ⊢
  obtain ⟨c, hc⟩ : ∃ c : Int, (kd : Int) = c := ⟨_, rfl⟩
  rw [hc]
  have hb0 : Below w.heap.size w (w.alloc (.cells #[.int .u8 c, .string (str t), .int .i64 n, .int .i64 a0] 92)) := (Below.refl _ _).alloc (Nat.le_refl _) _
  have hd := digitsOf_any n hn _ (hG.next hb0)
  have hgl := greatL_len hn
  have HB := Lib.hid hb0
  have s1 := str_size t
  have s2 := str_size (greatL n)
  have s3 : (str t).size ≤ 5000 := by omega
  have s4 : (str (greatL n)).size ≤ 5000 := by omega
  clear hG hb0 s1 s2 hgl ht
  by_cases h3 : kd = 3
  · have HP := Lib.hid (show (⟨#[60, 85]⟩ : ByteArray) ++ str (greatL n) ++ ⟨#[62, 32]⟩ = str (prt ⟨kd, t, n, at_⟩) by unfold prt; rw [if_pos h3]; exact prt_str1 _ _ _)
    obtain rfl : c = 3 := by omega
    clear hc h3
    generalize str (greatL n) = X at *
    generalize str t = T at *
    go_enter Tryz.func181, Tryz.ntmps181
    go_wp2_with (go_at_call 200; refine hd.mono ?_; rintro e w1 ⟨rfl, hb1⟩)
    go_ret
    exact ⟨by rw [← HP.out]; rfl, HB.out.trans (hb1.mono (by simp))⟩
  by_cases h5 : kd = 5
  · have HP := Lib.hid (show (⟨#[60]⟩ : ByteArray) ++ str t ++ ⟨#[62, 32]⟩ = str (prt ⟨kd, t, n, at_⟩) by unfold prt; rw [if_neg h3, if_pos h5]; exact prt_str1 _ _ _)
    obtain rfl : c = 5 := by omega
    clear hc h3 h5 hd s4
    generalize str t = T at *
    go_enter Tryz.func181, Tryz.ntmps181
    go_wp2
    go_ret
    exact ⟨by rw [← HP.out]; rfl, HB.out⟩
  by_cases h4 : kd = 4
  · have HP := Lib.hid (show (⟨#[34]⟩ : ByteArray) ++ str t ++ ⟨#[34, 32]⟩ = str (prt ⟨kd, t, n, at_⟩) by unfold prt; rw [if_neg h3, if_neg h5, if_pos h4]; exact prt_str1 _ _ _)
    obtain rfl : c = 4 := by omega
    clear hc h3 h5 h4 hd s4
    generalize str t = T at *
    go_enter Tryz.func181, Tryz.ntmps181
    go_wp2
    go_ret
    exact ⟨by rw [← HP.out]; rfl, HB.out⟩
  by_cases h6 : kd = 6
  · have HP := Lib.hid (show (⟨#[10]⟩ : ByteArray) = str (prt ⟨kd, t, n, at_⟩) by unfold prt; rw [if_neg h3, if_neg h5, if_neg h4, if_pos h6]; rfl)
    obtain rfl : c = 6 := by omega
    clear hc h3 h5 h4 h6 hd s4
    generalize str t = T at *
    go_enter Tryz.func181, Tryz.ntmps181
    go_wp2
    go_ret
    exact ⟨by rw [← HP.out]; rfl, HB.out⟩
  · have HP := Lib.hid (show str t ++ (⟨#[32]⟩ : ByteArray) = str (prt ⟨kd, t, n, at_⟩) by unfold prt; rw [if_neg h3, if_neg h5, if_neg h4, if_neg h6]; exact prt_str2 _ _)
    have q3 : (c == 3) = false := by simp; omega
    have q5 : (c == 5) = false := by simp; omega
    have q4 : (c == 4) = false := by simp; omega
    have q6 : (c == 6) = false := by simp; omega
    clear hc h3 h5 h4 h6 hd s4
    generalize str t = T at *
    go_enter Tryz.func181, Tryz.ntmps181
    go_wp2
    go_ret
    exact ⟨by rw [← HP.out]; rfl, HB.out⟩
end Go.Proofs.YthaibekbefndlaaGreatDoor.C

namespace Go.Proofs.YthaibekbefndlaaGreatDoor.C
open Go.RowKit

theorem builder_keep {w w' : World} {B b : Nat} {bs : List Value} (h : Lib.IsBuilder 208 5 B b bs w) (hb : Below w.heap.size w w') : Lib.IsBuilder 208 5 B b bs w' := by
  rcases h with ⟨h0, v, h1, h2, h3⟩ | ⟨h0, v, h1, h2, h3⟩
  · exact .inl ⟨h0, v, (hb.block b (Array.getElem?_eq_some_iff.1 h1).1).trans h1, own_keep h2 hb, h3⟩
  · exact .inr ⟨h0, v, (hb.block b (Array.getElem?_eq_some_iff.1 h1).1).trans h1, own_keep h2 hb, h3⟩
theorem builder_new (w : World) : Lib.IsBuilder 208 5 w.heap.size w.heap.size [] (w.alloc (.cells #[.pointer none, .slice none 0 0] 208)) :=
  .inl ⟨Nat.le_refl _, .slice none 0 0, heap_new _ _, World.ownsRow_nil _ _ _ _, by simp [Value.ownBlock]⟩
theorem prt_len (x : Tok) (ht : x.t.length ≤ 5000) (hn : x.n < 1048576 * 1048576) : (prt x).length ≤ 5020 := by
  have := greatL_len hn
  unfold prt
  repeat' split
  all_goals simp
  all_goals omega
theorem prtL_len : ∀ (ts : List Tok), (∀ x ∈ ts, x.t.length ≤ 5000 ∧ x.n < 1048576 * 1048576) → (prtL ts).length ≤ 5020 * ts.length
  | [], _ => by simp [prtL]
  | x :: r, h => by
    have h1 := prt_len x (h x (by simp)).1 (h x (by simp)).2
    have h2 := prtL_len r (fun y hy => h y (by simp [hy]))
    have : prtL (x :: r) = prt x ++ prtL r := rfl
    rw [this, List.length_append, List.length_cons]
    omega
theorem prtL_snoc (ts : List Tok) (x : Tok) : prtL (ts ++ [x]) = prtL ts ++ prt x := by simp [prtL]
theorem strCells_str (l : List UInt8) : Lib.strCells (str l) = Lib.byteCells l := rfl

theorem add_more (a : Addr) (j i : Nat) (hi : 0 < i) : (⟨(a.add j).block, (a.add j).off + i, none⟩ : Addr) = a.add (j + i) := by
  unfold Addr.add
  by_cases h : j = 0
  · subst h
    rw [if_pos rfl, Nat.zero_add, if_neg (by omega)]
  · rw [if_neg h, if_neg (by omega), Nat.add_assoc]
/-- a token's four cells, as a walk reads them -/
theorem TI.at4 {w : World} {B n : Nat} {A : Option Addr} {ts : List Tok} (h : TI w B A n ts) {k : Nat} (hk : k < n) : ∃ ad x, A = some ad ∧ ad.block < B ∧ ts[k]? = some x ∧ w.cell? (ad.add (k * 4)) = some (.int .u8 x.k) ∧ w.cell? ⟨(ad.add (k * 4)).block, (ad.add (k * 4)).off + 1, none⟩ = some (.string (str x.t)) ∧ w.cell? ⟨(ad.add (k * 4)).block, (ad.add (k * 4)).off + 2, none⟩ = some (.int .i64 x.n) ∧ w.cell? ⟨(ad.add (k * 4)).block, (ad.add (k * 4)).off + 3, none⟩ = some (.int .i64 x.at_) := by
  obtain ⟨ad, x, h1, h2, h3, h4⟩ := h.at_ hk
  exact ⟨ad, x, h1, h2, h3, h4 0 _ rfl, by rw [add_more _ _ _ (by omega)]; exact h4 1 _ rfl, by rw [add_more _ _ _ (by omega)]; exact h4 2 _ rfl, by rw [add_more _ _ _ (by omega)]; exact h4 3 _ rfl⟩

/-- behind a token: what the loop carries on -/
theorem print_step {W w1 w2 : World} {B k : Nat} {ts : List Tok} {x : Tok} {o : Obj} (hx : ts[k]? = some x) (_hI : Lib.IsBuilder 208 5 B B (Lib.byteCells (prtL (ts.take k))) W) (hB : B ≤ W.heap.size) (hb1 : Below (W.alloc o).heap.size (W.alloc o) w1)
    (hA : Lib.BuilderAt 208 5 B B (.pointer (some ⟨B, 0, none⟩)) (Lib.byteCells (prtL (ts.take k)) ++ Lib.strCells (str (prt x))) w2) (hb2 : Below B w1 w2) :
    Lib.IsBuilder 208 5 B B (Lib.byteCells (prtL (ts.take (k + 1)))) w2 ∧ Below B W w2 := by
  rw [take_snoc hx, prtL_snoc, Lib.byteCells_append]
  exact ⟨.inr hA, ((((Below.refl B W).alloc hB o).trans (hb1.mono (by simp; omega))).trans hb2)⟩

set_option maxRecDepth 100000 in
set_option maxHeartbeats 4000000 in
theorem print_any (w : World) (B : Nat) (A : Option Addr) (n c : Nat) (ts : List Tok) (h : TI w B A n ts) (hB : B ≤ w.heap.size) (hG : Gl w) (hn : n ≤ 5000) (hok : ∀ x ∈ ts, x.t.length ≤ 5000 ∧ x.n < 1048576 * 1048576) :
    Calls Tryz.prog 139 #[.slice A n c] w fun e w' => e = .returned (.string (str (prtL ts))) ∧ Below w.heap.size w w' := by
  have hl := h.len
  have H := Lib.hid h
  have HG := Lib.hid hG
  have HK := Lib.hid hok
  have HL := Lib.hid hl
  have hI0 := Lib.hid (builder_new w)
  have hB0 : Below w.heap.size w (w.alloc (.cells #[.pointer none, .slice none 0 0] 208)) := (Below.refl _ _).alloc (Nat.le_refl _) _
  have HB0 := Lib.hid hB0
  clear h hG hok hl hB0
  go_enter Tryz.func139, Tryz.ntmps139
  go_wp2
  obtain ⟨E, hE⟩ : ∃ E, w.heap.size = E := ⟨_, rfl⟩
  rw [hE] at hI0 HB0 hB ⊢
  have HE := Lib.hid hE
  clear hE
  go_loopw [8] (fun iv wr => ∃ k : Nat, k ≤ n ∧ iv = .int .i64 k ∧ Hid (Lib.IsBuilder 208 5 E E (Lib.byteCells (prtL (ts.take k))) wr) ∧ Hid (Below E w wr)) (fun iv _ => n - (intOf iv).toNat)
  case atStart => exact ⟨0, Nat.zero_le _, rfl, hI0, HB0⟩
  case round =>
    obtain ⟨k, hk, rfl, HI, HW⟩ := hrel
    by_cases hlt : k < n
    · obtain ⟨ad, x, rfl, hbl, hx, q0, q1, q2, q3⟩ := (H.out.on HW.out hB).at4 hlt
      have HX := Lib.hid hx
      obtain ⟨hxt, hxn⟩ := HK.out x (List.mem_of_getElem? hx)
      have k0 : (0 : Int) ≤ (k : Int) := by omega
      have k1 : (k : Int) < (n : Int) := by omega
      have hEw : E ≤ wr.heap.size := by have := HW.out.size; have := HE.out; omega
      have hGw := HG.out.on HW.out (by rw [← HE.out]; exact HG.out.top)
      have hpr := fun o (hb : Below wr.heap.size wr (wr.alloc o)) => printed_any x x.at_ (wr.alloc o) (hGw.next hb) hxn hxt
      have hlen1 := prtL_len (ts.take k) (fun y hy => HK.out y (List.mem_of_mem_take hy))
      have hlen2 := prt_len x hxt hxn
      have hlen3 : (ts.take k).length ≤ 5000 := by rw [List.length_take]; omega
      clear hx
      go_wp2_with fail
      refine (hpr _ ((Below.refl _ _).alloc (Nat.le_refl _) _)).mono ?_
      rintro e w1 ⟨rfl, hb1⟩
      have hI1 := builder_keep (builder_keep HI.out ((Below.refl _ _).alloc (Nat.le_refl _) _)) hb1
      have hs1 := hb1.size
      rw [World.size_alloc] at hs1
      have HB1 := Lib.hid hb1
      clear hb1
      go_wp2_with fail
      refine (builder_write E E _ (str (prt x)) w1 hI1 (by rw [Lib.byteCells_length, str_size]; omega) (by omega)).mono ?_
      rintro e w2 ⟨rfl, hA, hb2⟩
      obtain ⟨hI2, hW2⟩ := print_step HX.out HI.out hEw HB1.out hA hb2
      have HI2 := Lib.hid hI2
      have HW2 := Lib.hid (HW.out.trans hW2)
      clear hA hb2 hI2 hW2 hI1
      go_wp2
      go_roundw
      case rel => exact ⟨k + 1, by omega, by go_num, HI2, HW2⟩
      case measure => simp [intOf]; omega
    · obtain rfl : k = n := by omega
      have hEw : E ≤ wr.heap.size := by have := HW.out.size; have := HE.out; omega
      have hst := Tryz.Builder_String_any E E _ wr HI.out hEw
      go_wp2_with fail
      refine hst.mono ?_
      rintro e w2 ⟨rfl, hb2⟩
      have HB2 := Lib.hid (HW.out.trans hb2)
      clear hb2
      go_wp2
      go_ret
      have h1 : ts.take k = ts := List.take_of_length_le (by rw [HL.out]; exact Nat.le_refl _)
      exact ⟨by rw [h1]; rfl, by rw [HE.out]; exact HB2.out⟩
end Go.Proofs.YthaibekbefndlaaGreatDoor.C

namespace Go.Proofs.YthaibekbefndlaaGreatDoor.C

/-- a class: its name, its ranges -/
structure Cls where
  name : List UInt8
  rs : List (Int × Int)
deriving DecidableEq
/-- an element: its name, its cells, the place of the first one that it is as good as -/
structure Elm where
  name : List UInt8
  cells : List Int
  same : Int
deriving DecidableEq
structure Loc where
  cls : List Cls
  up : List (Int × Int)
  lo : List (Int × Int)
  ord : List Elm
deriving DecidableEq
/-- what was read: a locale, and what is declared -/
structure Sta where
  l : Loc
  d : List (List UInt8 × List Int)

abbrev Er := Nat × Nat
abbrev Re (α : Type) := Except Er (α × List Tok)
def noL : Loc := ⟨[], [], [], []⟩

def wClass : List UInt8 := [99, 108, 97, 115, 115]
def wUpper : List UInt8 := [116, 111, 117, 112, 112, 101, 114]
def wLower : List UInt8 := [116, 111, 108, 111, 119, 101, 114]
def wElem : List UInt8 := [99, 111, 108, 108, 97, 116, 105, 110, 103, 45, 101, 108, 101, 109, 101, 110, 116]
def wOrder : List UInt8 := [111, 114, 100, 101, 114]
def wFrom : List UInt8 := [102, 114, 111, 109]
def sSemi : List UInt8 := [59]
def sThru : List UInt8 := [46, 46, 46]
def sOpen : List UInt8 := [40]
def sComma : List UInt8 := [44]
def sShut : List UInt8 := [41]

/-- the next token, which must be of these kinds -/
def takeK (ks : List Nat) : List Tok → Re Tok
  | [] => .error (30, 0)
  | t :: r => if t.k ∈ ks then .ok (t, r) else .error (30, t.at_)
def takeT (k : Nat) (s : List UInt8) : List Tok → Re Unit
  | [] => .error (30, 0)
  | t :: r => if t.k = k ∧ t.t = s then .ok ((), r) else .error (30, t.at_)
/-- is this sign next? -/
def isSign (s : List UInt8) : List Tok → Bool
  | [] => false
  | t :: _ => decide (t.k = 2 ∧ t.t = s)
def notBelow (a : Tok) (ts : List Tok) : Re Tok :=
  match takeK [3] ts with
  | .error e => .error e
  | .ok (b, r) => if b.n < a.n then .error (30, b.at_) else .ok (b, r)
/-- items, one or more, a sign between -/
def itemsL {σ : Type} (item : σ → List Tok → Re σ) : Nat → σ → List Tok → Re σ
  | 0, _, _ => .error (30, 0)
  | f + 1, s, ts => match item s ts with
    | .error e => .error e
    | .ok (s', r) => if isSign sSemi r then itemsL item f s' (r.drop 1) else .ok (s', r)
def rangeL (rs : List (Int × Int)) (ts : List Tok) : Re (List (Int × Int)) :=
  match takeK [3] ts with
  | .error e => .error e
  | .ok (a, r) => if isSign sThru r then
      match notBelow a (r.drop 1) with
      | .error e => .error e
      | .ok (b, r') => .ok (rs ++ [((a.n : Int), (b.n : Int))], r')
    else .ok (rs ++ [((a.n : Int), (a.n : Int))], r)
def pairL (l : List (Int × Int)) (ts : List Tok) : Re (List (Int × Int)) :=
  match takeT 2 sOpen ts with
  | .error e => .error e
  | .ok (_, r1) => match takeK [3] r1 with
    | .error e => .error e
    | .ok (a, r2) => if (a.n : Int) ∈ l.map Prod.fst then .error (32, a.at_) else
      match takeT 2 sComma r2 with
      | .error e => .error e
      | .ok (_, r3) => match takeK [3] r3 with
        | .error e => .error e
        | .ok (b, r4) => match takeT 2 sShut r4 with
          | .error e => .error e
          | .ok (_, r5) => .ok (l ++ [((a.n : Int), (b.n : Int))], r5)
def classL (s : Sta) (ts : List Tok) : Re Sta :=
  match takeK [1] ts with
  | .error e => .error e
  | .ok (n, r) => if n.t ∈ s.l.cls.map Cls.name then .error (32, n.at_) else
    match itemsL rangeL (r.length + 1) [] r with
    | .error e => .error e
    | .ok (rs, r') => .ok ({ s with l := { s.l with cls := s.l.cls ++ [⟨n.t, rs⟩] } }, r')
def upperL (s : Sta) (ts : List Tok) : Re Sta :=
  match itemsL pairL (ts.length + 1) s.l.up ts with
  | .error e => .error e
  | .ok (x, r) => .ok ({ s with l := { s.l with up := x } }, r)
def lowerL (s : Sta) (ts : List Tok) : Re Sta :=
  match itemsL pairL (ts.length + 1) s.l.lo ts with
  | .error e => .error e
  | .ok (x, r) => .ok ({ s with l := { s.l with lo := x } }, r)
/-- the cells of a declared name -/
def lookD (d : List (List UInt8 × List Int)) (n : List UInt8) : Option (List Int) := (d.find? (fun x => decide (x.1 = n))).map Prod.snd
/-- the cells of a text -/
def cellsOf (t : List UInt8) : List Int := ofL ⟨t.toArray⟩
def elementL (s : Sta) (ts : List Tok) : Re Sta :=
  match takeK [5] ts with
  | .error e => .error e
  | .ok (n, r1) => if (lookD s.d n.t).isSome then .error (32, n.at_) else
    match takeT 1 wFrom r1 with
    | .error e => .error e
    | .ok (_, r2) => match takeK [4] r2 with
      | .error e => .error e
      | .ok (q, r3) => if (cellsOf q.t).length < 2 ∨ 4 < (cellsOf q.t).length then .error (3, q.at_) else .ok ({ s with d := s.d ++ [(n.t, cellsOf q.t)] }, r3)
/-- where cells are in an order -/
def placeL (o : List Elm) (c : List Int) : Option Nat := o.findIdx? (fun e => decide (e.cells = c))
/-- the cells of an item -/
def itemL (d : List (List UInt8 × List Int)) (a : Tok) : Except Er (List Int) :=
  if a.k = 3 then .ok [(a.n : Int)] else match lookD d a.t with
    | some c => .ok c
    | none => .error (31, a.at_)
/-- each scalar of so many numbers -/
def runAll (a : Tok) (o : List Elm) (c : Nat) : Nat → Except Er (List Elm)
  | 0 => .ok o
  | k + 1 => if rightN c then (if o.length = 500 then .error (3, a.at_) else runAll a (o ++ [⟨a.t, [(c : Int)], o.length⟩]) (c + 1) k) else runAll a o (c + 1) k
def amongB (o : List Elm) (lo hi : Int) : Bool := o.any fun e => match e.cells with
  | [c] => decide (lo ≤ c ∧ c ≤ hi)
  | _ => false
def orderL (s : Sta) (ts : List Tok) : Re Sta :=
  match takeK [3, 5] ts with
  | .error e => .error e
  | .ok (a, r) => if a.k = 3 ∧ isSign sThru r = true then
      match notBelow a (r.drop 1) with
      | .error e => .error e
      | .ok (b, r') => if amongB s.l.ord a.n b.n then .error (32, a.at_) else
        match runAll a s.l.ord a.n (b.n + 1 - a.n) with
        | .error e => .error e
        | .ok o => .ok ({ s with l := { s.l with ord := o } }, r')
    else match itemL s.d a with
      | .error e => .error e
      | .ok c => if (placeL s.l.ord c).isSome then .error (32, a.at_) else
        if s.l.ord.length = 500 then .error (3, a.at_) else
        if isSign sSemi r then
          match takeK [3, 5] (r.drop 1) with
          | .error e => .error e
          | .ok (b, r') => match itemL s.d b with
            | .error e => .error e
            | .ok c' => match placeL s.l.ord c' with
              | none => .error (31, b.at_)
              | some j => .ok ({ s with l := { s.l with ord := s.l.ord ++ [⟨a.t, c, ((s.l.ord[j]?).map Elm.same).getD 0⟩] } }, r')
        else .ok ({ s with l := { s.l with ord := s.l.ord ++ [⟨a.t, c, s.l.ord.length⟩] } }, r)
/-- one line -/
def lineL (s : Sta) (ts : List Tok) : Re Sta :=
  match takeK [1] ts with
  | .error e => .error e
  | .ok (w, r) =>
    match (if w.t = wClass then classL s r else if w.t = wUpper then upperL s r else if w.t = wLower then lowerL s r else if w.t = wElem then elementL s r else if w.t = wOrder then orderL s r else .error (30, w.at_)) with
    | .error e => .error e
    | .ok (s', r') => match takeK [6] r' with
      | .error e => .error e
      | .ok (_, r'') => .ok (s', r'')
def linesL : Nat → Sta → List Tok → Except Er Loc
  | 0, _, _ => .error (30, 0)
  | f + 1, s, ts => if ts.isEmpty then .ok s.l else match lineL s ts with
    | .error e => .error e
    | .ok (s', r) => linesL f s' r
def readL (ts : List Tok) : Except Er Loc := linesL (ts.length + 1) ⟨noL, []⟩ ts
/-- the answer: a locale, what is wrong, where -/
def parseL (t : List UInt8) : Loc × Nat × Nat :=
  match lexL t with
  | (ts, 0, _) => match readL ts with
    | .ok l => (l, 0, 0)
    | .error e => (noL, e.1, e.2)
  | (_, e, at_) => (noL, e, at_)
end Go.Proofs.YthaibekbefndlaaGreatDoor.C

namespace Go.Proofs.YthaibekbefndlaaGreatDoor.C
open Go.RowKit

/-- what is wrong, and where: what was panicked with -/
def faultV (er at_ : Int) : List PanicEntry := [{ v := .iface 66 (.agg #[.int .u16 er, .int .i64 at_]), recovered := false }]
def tkV (x : Tok) : Value := .agg #[.int .u8 x.k, .string (str x.t), .int .i64 x.n, .int .i64 x.at_]
set_option maxRecDepth 100000 in
set_option maxHeartbeats 1000000 in
theorem refuse_any (er : Int) (x : Tok) (w : World) : Calls Tryz.prog 38 #[.int .u16 er, tkV x] w fun e w' => e = .panicked (faultV er x.at_) ∧ Below w.heap.size w w' := by
  unfold tkV faultV
  go_enter Tryz.func38, Tryz.ntmps38
  go_wp2
  exact ⟨rfl, rfl, (Below.refl _ _).alloc (Nat.le_refl _) _⟩

/-- the first place of a byte in a list of kinds -/
def inKs (ks : List Int) (v : Int) : Bool := ks.contains v
set_option maxHeartbeats 1000000 in
theorem index8_any (w : World) (B : Nat) (A : Option Addr) (n c : Nat) (ks : List Int) (v : Int) (h : RI .u8 w B A n ks) (hn : n ≤ 1000) :
    Calls Tryz.prog 137 #[.slice A n c, .int .u8 v] w fun e w' => (∃ i : Int, e = .returned (.int .i64 i) ∧ (decide (0 ≤ i) = inKs ks v)) ∧ w' = w := by
  have H := Lib.hid h
  have hl := h.len
  clear h
  have HL := Lib.hid hl
  clear hl
  go_enter Tryz.func137, Tryz.ntmps137
  go_wp2
  go_loop [8] (fun i => ∃ k : Nat, k ≤ n ∧ i = .int .i64 k ∧ Hid (v ∉ ks.take k)) (fun i => n - (intOf i).toNat)
  case atStart => exact ⟨0, Nat.zero_le _, rfl, Lib.hid (by simp)⟩
  case round =>
    obtain ⟨k, hk, rfl, HN⟩ := hrel
    by_cases hlt : k < n
    · obtain ⟨ad, u, rfl, hb, hu, hc⟩ := H.out.at_ hlt
      have HU := Lib.hid hu
      clear hu
      by_cases hv : v = u
      · subst hv
        go_wp2
        go_ret
        refine ⟨⟨_, rfl, ?_⟩, rfl⟩
        have hm : v ∈ ks := List.mem_of_getElem? HU.out
        simp [inKs, hm]
      · have hv' : (v == u) = false := by simpa using hv
        go_wp2
        go_round
        case rel => exact ⟨k + 1, by omega, by go_num, Lib.hid (by
          rw [List.take_add_one, HU.out]
          simp only [Option.toList_some, List.mem_append, List.mem_singleton, not_or]
          exact ⟨HN.out, hv⟩)⟩
        case measure => simp [intOf]; omega
    · obtain rfl : k = n := by omega
      go_wp2
      go_ret
      refine ⟨⟨_, rfl, ?_⟩, rfl⟩
      have hm := HN.out
      rw [List.take_of_length_le (by rw [HL.out]; exact Nat.le_refl _)] at hm
      simp [inKs, hm]
set_option maxHeartbeats 1000000 in
theorem contains8_is (w : World) (B : Nat) (A : Option Addr) (n c : Nat) (ks : List Int) (v : Int) (h : RI .u8 w B A n ks) (hn : n ≤ 1000) (b : Bool) (hb : inKs ks v = b) :
    Calls Tryz.prog 80 #[.slice A n c, .int .u8 v] w fun e w' => e = .returned (.bool b) ∧ w' = w := by
  have hi := index8_any w B A n c ks v h hn
  rw [hb] at hi
  clear h hb
  go_enter Tryz.func80, Tryz.ntmps80
  go_wp2_with fail
  refine hi.mono ?_
  rintro e w' ⟨⟨i, rfl, hi2⟩, rfl⟩
  have HI := Lib.hid hi2
  clear hi2
  cases b with
  | true =>
    have h0 : 0 ≤ i := by simpa using HI.out
    go_wp2
    go_ret
    exact ⟨rfl, rfl⟩
  | false =>
    have h0 : decide (0 ≤ i) = false := HI.out
    go_wp2
    go_ret
    exact ⟨rfl, rfl⟩

/-- tokens, and where they lie -/
structure TV where
  A : Option Addr
  n : Nat
  c : Nat
  ts : List Tok
/-- block R is a reader of these tokens, at place k; its other cells -/
def CU (w : World) (R : Nat) (T : TV) (k : Nat) (v1 v2 v3 v4 v5 : Value) : Prop :=
  w.heap[R]? = some (.cells #[.slice T.A T.n T.c, .int .i64 k, v1, v2, v3, v4, v5] 64 (0, 0)) ∧ TI w R T.A T.n T.ts ∧ T.n ≤ 1001 ∧ k ≤ T.n
/-- the reader alone has changed -/
def Moved (w w' : World) (R : Nat) : Prop := w.grownBy w' (some R)
section
variable {w w' : World} {R k : Nat} {T : TV} {v1 v2 v3 v4 v5 : Value}
theorem CU.lt (h : CU w R T k v1 v2 v3 v4 v5) : R < w.heap.size := (Array.getElem?_eq_some_iff.1 h.1).1
theorem CU.next (h : CU w R T k v1 v2 v3 v4 v5) (hb : Below w.heap.size w w') : CU w' R T k v1 v2 v3 v4 v5 := by
  have hlt := h.lt
  exact ⟨(hb.block R hlt).trans h.1, h.2.1.keep fun p hp => hb.cell (p := p) (by omega), h.2.2⟩
theorem CU.drewN (h : CU w R T k v1 v2 v3 v4 v5) (n : Nat) : CU (w.drewN n) R T k v1 v2 v3 v4 v5 := h
theorem CU.seek (h : CU w R T k v1 v2 v3 v4 v5) {k' : Nat} (hk : k' ≤ T.n) : CU (w.setCell ⟨R, 1, none⟩ (.int .i64 k')) R T k' v1 v2 v3 v4 v5 := by
  obtain ⟨h1, h2, h3, h4⟩ := h
  refine ⟨?_, h2.keep fun p hp => World.cell?_setCell_other w _ p _ (fun e => by subst e; exact absurd hp (Nat.lt_irrefl _)), h3, hk⟩
  obtain ⟨hlt, hk⟩ := Array.getElem?_eq_some_iff.1 h1
  show (w.heap.modify R _)[R]? = _
  rw [Array.getElem?_eq_getElem (by rw [Array.size_modify]; exact hlt), Array.getElem_modify_self, hk]
  rfl
theorem CU.cells (h : CU w R T k v1 v2 v3 v4 v5) : w.cell? ⟨R, 0, none⟩ = some (.slice T.A T.n T.c) ∧ w.cell? ⟨R, 1, none⟩ = some (.int .i64 k) ∧ w.frozen? ⟨R, 1, none⟩ = false := by
  simp [World.cell?, World.frozen?, h.1]
theorem CU.more (h : CU w R T k v1 v2 v3 v4 v5) : w.cell? ⟨R, 2, none⟩ = some v1 ∧ w.cell? ⟨R, 3, none⟩ = some v2 ∧ w.cell? ⟨R, 4, none⟩ = some v3 ∧ w.cell? ⟨R, 5, none⟩ = some v4 ∧ w.cell? ⟨R, 6, none⟩ = some v5 := by
  simp [World.cell?, h.1]
theorem CU.left (h : CU w R T k v1 v2 v3 v4 v5) : T.ts.length = T.n := h.2.1.len
theorem CU.tok {x : Tok} {r : List Tok} (h : CU w R T k v1 v2 v3 v4 v5) (hr : T.ts.drop k = x :: r) : k < T.n ∧ T.ts.drop (k + 1) = r ∧ ∃ ad, T.A = some ad ∧ ad.block < R ∧ w.cell? (ad.add (k * 4)) = some (.int .u8 x.k) ∧ w.cell? ⟨(ad.add (k * 4)).block, (ad.add (k * 4)).off + 1, none⟩ = some (.string (str x.t)) ∧ w.cell? ⟨(ad.add (k * 4)).block, (ad.add (k * 4)).off + 2, none⟩ = some (.int .i64 x.n) ∧ w.cell? ⟨(ad.add (k * 4)).block, (ad.add (k * 4)).off + 3, none⟩ = some (.int .i64 x.at_) := by
  have hk : k < T.ts.length := by
    rcases Nat.lt_or_ge k T.ts.length with h1 | h1
    · exact h1
    · rw [List.drop_eq_nil_of_le h1] at hr; cases hr
  have hx : T.ts[k]? = some x ∧ T.ts.drop (k + 1) = r := by
    rw [List.drop_eq_getElem_cons hk] at hr
    injection hr with h1 h2
    exact ⟨by rw [List.getElem?_eq_getElem hk, h1], h2⟩
  have hl := h.left
  obtain ⟨ad, y, e1, e2, e3, e4, e5, e6, e7⟩ := h.2.1.at4 (k := k) (by omega)
  rw [hx.1] at e3
  injection e3 with e3
  subst e3
  exact ⟨by omega, hx.2, ad, e1, e2, e4, e5, e6, e7⟩
theorem Moved.of_below (h : Below w.heap.size w w') : Moved w w' R := ⟨h.os, h.tape, h.output, h.size, fun i hi _ => h.block i hi⟩
theorem Moved.trans {a b c : World} (h : Moved a b R) (k : Moved b c R) : Moved a c R := ⟨k.os.trans h.os, k.tape.trans h.tape, k.output.trans h.output, Nat.le_trans h.size k.size, fun i hi hne => (k.block i (Nat.lt_of_lt_of_le hi h.size) hne).trans (h.block i hi hne)⟩
theorem Moved.refl (w : World) (R : Nat) : Moved w w R := ⟨rfl, rfl, rfl, Nat.le_refl _, fun _ _ _ => rfl⟩
theorem Moved.seek (h : Moved w w' R) (i : Nat) (u : Value) : Moved w (w'.setCell ⟨R, i, none⟩ u) R := ⟨h.os, h.tape, h.output, by simpa [World.setCell] using h.size, fun j hj hne => (Below.heap_setCell w' ⟨R, i, none⟩ u j (fun e => hne (by rw [e]))).trans (h.block j hj hne)⟩
theorem Moved.alloc (h : Moved w w' R) (o : Obj) : Moved w (w'.alloc o) R := h.trans (.of_below ((Below.refl _ _).alloc (Nat.le_refl _) o))
theorem Moved.below {B : Nat} (h : Moved w w' R) (hB : B ≤ R) (hw : B ≤ w.heap.size) : Below B w w' := ⟨h.os, h.tape, h.output, h.size, fun i hi => h.block i (by omega) (fun e => by injection e; omega)⟩
end
end Go.Proofs.YthaibekbefndlaaGreatDoor.C

namespace Go.Proofs.YthaibekbefndlaaGreatDoor.C
open Go.RowKit

theorem below_drew {B : Nat} {a w : World} (h : Below B a w) : Below B a w.drew := ⟨h.os, h.tape, h.output, h.size, h.block⟩
theorem CU.drew {w : World} {R k : Nat} {T : TV} {v1 v2 v3 v4 v5 : Value} (h : CU w R T k v1 v2 v3 v4 v5) : CU w.drew R T k v1 v2 v3 v4 v5 := h
theorem Moved.drew {w w' : World} {R : Nat} (h : Moved w w' R) : Moved w w'.drew R := ⟨h.os, h.tape, h.output, h.size, h.block⟩
theorem CU.alloc {w : World} {R k : Nat} {T : TV} {v1 v2 v3 v4 v5 : Value} (h : CU w R T k v1 v2 v3 v4 v5) (o : Obj) : CU (w.alloc o) R T k v1 v2 v3 v4 v5 := h.next ((Below.refl _ _).alloc (Nat.le_refl _) o)
theorem CU.far {w : World} {R k : Nat} {T : TV} {v1 v2 v3 v4 v5 : Value} (h : CU w R T k v1 v2 v3 v4 v5) {p : Addr} (hp : R < p.block) (u : Value) : CU (w.setCell p u) R T k v1 v2 v3 v4 v5 := by
  obtain ⟨h1, h2, h3⟩ := h
  exact ⟨(Below.heap_setCell w p u R (by omega)).trans h1, h2.keep fun q hq => World.cell?_setCell_other w p q u (fun e => by subst e; omega), h3⟩

set_option maxRecDepth 100000 in
set_option maxHeartbeats 4000000 in
theorem take_yes (w : World) (R : Nat) (T : TV) (k : Nat) (v1 v2 v3 v4 v5 : Value) (x : Tok) (r : List Tok) (B : Nat) (A : Option Addr) (m c : Nat) (ks : List Int)
    (h : CU w R T k v1 v2 v3 v4 v5) (hr : T.ts.drop k = x :: r) (hK : RI .u8 w B A m ks) (hm : m ≤ 1000) (hB : B ≤ w.heap.size) (hin : inKs ks x.k = true) :
    Calls Tryz.prog 37 #[.pointer (some ⟨R, 0, none⟩), .slice A m c] w fun e w' => e = .returned (tkV x) ∧ CU w' R T (k + 1) v1 v2 v3 v4 v5 ∧ Moved w w' R := by
  obtain ⟨hkn, _, ad, hA, hbl, q0, q1, q2, q3⟩ := h.tok hr
  obtain ⟨c0, c1, f1⟩ := h.cells
  have hlt := h.lt
  have hn := h.2.2.1
  have hcon : ∀ W, Below w.heap.size w W → Calls Tryz.prog 80 #[.slice A m c, .int .u8 x.k] W fun e w' => e = .returned (.bool true) ∧ w' = W := fun W hW => contains8_is W B A m c ks x.k (hK.keep fun p hp => hW.cell (p := p) (by omega)) hm true hin
  have HC := Lib.hid hcon
  have H := Lib.hid h
  have k0 : (0 : Int) ≤ (k : Int) := by omega
  have k1 : (k : Int) < (T.n : Int) := by omega
  rw [hA] at c0
  clear hcon h hr hK hin
  go_enter Tryz.func37, Tryz.ntmps37
  go_wp2
  go_region_held3 (fun w' => w'.cell? ⟨R, 0, none⟩ = some (.slice (some ad) T.n T.c) ∧ w'.cell? ⟨R, 1, none⟩ = some (.int .i64 k) ∧ w'.cell? (ad.add (k * 4)) = some (.int .u8 x.k) ∧ w'.cell? ⟨(ad.add (k * 4)).block, (ad.add (k * 4)).off + 1, none⟩ = some (.string (str x.t)) ∧ w'.cell? ⟨(ad.add (k * 4)).block, (ad.add (k * 4)).off + 2, none⟩ = some (.int .i64 x.n) ∧ w'.cell? ⟨(ad.add (k * 4)).block, (ad.add (k * 4)).off + 3, none⟩ = some (.int .i64 x.at_)) (go_keep) (fail)
  go_wp2_with (go_at_call 80; refine (HC.out _ (below_drew (((Below.refl _ _).alloc (Nat.le_refl _) _).alloc (by simp) _))).mono ?_; rintro e w' ⟨rfl, rfl⟩)
  refine bodyPost_ret (v := tkV x) (by simp [results, Tryz.results37, go_sem, tkV]) rfl ⟨rfl, ?_, ?_⟩
  · exact (((H.out.seek (k' := k + 1) (by omega)).alloc _).alloc _).drew
  · exact ((((Moved.refl w R).seek 1 _).alloc _).alloc _).drew

set_option maxRecDepth 100000 in
set_option maxHeartbeats 4000000 in
theorem take_no (w : World) (R : Nat) (T : TV) (k : Nat) (v1 v2 v3 v4 v5 : Value) (x : Tok) (r : List Tok) (B : Nat) (A : Option Addr) (m c : Nat) (ks : List Int)
    (h : CU w R T k v1 v2 v3 v4 v5) (hr : T.ts.drop k = x :: r) (hK : RI .u8 w B A m ks) (hm : m ≤ 1000) (hB : B ≤ w.heap.size) (hin : inKs ks x.k = false) :
    Calls Tryz.prog 37 #[.pointer (some ⟨R, 0, none⟩), .slice A m c] w fun e w' => e = .panicked (faultV 30 x.at_) ∧ Below w.heap.size w w' := by
  obtain ⟨hkn, _, ad, hA, hbl, q0, q1, q2, q3⟩ := h.tok hr
  obtain ⟨c0, c1, f1⟩ := h.cells
  have hlt := h.lt
  have hn := h.2.2.1
  have hcon : ∀ W, Below w.heap.size w W → Calls Tryz.prog 80 #[.slice A m c, .int .u8 x.k] W fun e w' => e = .returned (.bool false) ∧ w' = W := fun W hW => contains8_is W B A m c ks x.k (hK.keep fun p hp => hW.cell (p := p) (by omega)) hm false hin
  have HC := Lib.hid hcon
  have k0 : (0 : Int) ≤ (k : Int) := by omega
  have k1 : (k : Int) < (T.n : Int) := by omega
  rw [hA] at c0
  clear hcon h hr hK hin
  go_enter Tryz.func37, Tryz.ntmps37
  go_wp2
  go_region_held3 (fun w' => w'.cell? ⟨R, 0, none⟩ = some (.slice (some ad) T.n T.c) ∧ w'.cell? ⟨R, 1, none⟩ = some (.int .i64 k) ∧ w'.cell? (ad.add (k * 4)) = some (.int .u8 x.k) ∧ w'.cell? ⟨(ad.add (k * 4)).block, (ad.add (k * 4)).off + 1, none⟩ = some (.string (str x.t)) ∧ w'.cell? ⟨(ad.add (k * 4)).block, (ad.add (k * 4)).off + 2, none⟩ = some (.int .i64 x.n) ∧ w'.cell? ⟨(ad.add (k * 4)).block, (ad.add (k * 4)).off + 3, none⟩ = some (.int .i64 x.at_)) (go_keep) (fail)
  have hb : Below w.heap.size w (((w.alloc (.cells #[.int .u8 0, .string ⟨#[]⟩, .int .i64 0, .int .i64 0] 92)).alloc (.cells #[.int .u8 x.k, .string (str x.t), .int .i64 x.n, .int .i64 x.at_] 92)).drew) := below_drew (((Below.refl _ _).alloc (Nat.le_refl _) _).alloc (by simp) _)
  have HB := Lib.hid hb
  clear hb
  go_wp2_with (first
    | (go_at_call 80; refine (HC.out _ HB.out).mono ?_; rintro e w' ⟨rfl, rfl⟩)
    | (go_at_call 38; refine (refuse_any 30 x _).mono ?_; rintro e w2 ⟨rfl, hb2⟩))
  exact ⟨rfl, rfl, HB.out.trans (hb2.mono HB.out.size)⟩
end Go.Proofs.YthaibekbefndlaaGreatDoor.C
