/-
  Joined: MLxZ, MLxL, LcA, LcB, LcC, MLxM, LeG. Each with what its own head says.
-/
import Derived.Deep.WholeRow
import Derived.Lib.AppendStr
import Derived.Lib.QuoteHex
import Derived.Lib.BufferRead
import Derived.Shelf.Bytes.SlSmallAll
import Derived.Test.YthaibekbefndlaaGreatDoorZ08
import Derived.Test.YthaibekbefndlaaGreatDoorZ05

namespace Go.Proofs.YthaibekbefndlaaGreatDoor.C
open Go.RowKit

def TI (w : World) (B : Nat) (A : Option Addr) (n : Nat) (ts : List Tok) : Prop :=
 ts.length = n ∧ (0 < n → ∃ ad, A = some ad ∧ ad.block < B ∧ ∀ j x, ts[j]? = some x → ∀ i u, (tkC x)[i]? = some u → w.cell? (ad.add (j * 4 + i)) = some u)
section
variable {w w' : World} {B B' n : Nat} {A : Option Addr} {ts : List Tok}
theorem TI.len (h : TI w B A n ts) : ts.length = n := h.1
theorem TI.nil (w : World) (B : Nat) (A : Option Addr) : TI w B A 0 [] := ⟨rfl, fun h => absurd h (by omega)⟩
theorem TI.keep (h : TI w B A n ts) (hk : ∀ p : Addr, p.block < B → w'.cell? p = w.cell? p) : TI w' B A n ts :=
 ⟨h.1, fun hn => by
  obtain ⟨ad, e, hb, hc⟩ := h.2 hn
  exact ⟨ad, e, hb, fun j x hx i u hu => (hk _ (by rw [block_of_add]; exact hb)).trans (hc j x hx i u hu)⟩⟩
theorem TI.more (h : TI w B A n ts) (hB : B ≤ B') : TI w B' A n ts :=
 ⟨h.1, fun hn => by
  obtain ⟨ad, e, hb, hc⟩ := h.2 hn
  exact ⟨ad, e, by omega, hc⟩⟩
theorem TI.on (h : TI w B A n ts) (hb : Below B' w w') (hB : B ≤ B') : TI w' B A n ts := h.keep fun p hp => hb.cell (p := p) (by omega)
theorem TI.drewN (h : TI w B A n ts) (k : Nat) : TI (w.drewN k) B A n ts := h
theorem TI.at_ (h : TI w B A n ts) {k : Nat} (hk : k < n) : ∃ ad x, A = some ad ∧ ad.block < B ∧ ts[k]? = some x ∧ (∀ i u, (tkC x)[i]? = some u → w.cell? (ad.add (k * 4 + i)) = some u) := by
 obtain ⟨ad, e, hb, hc⟩ := h.2 (by omega)
 have hl : k < ts.length := by have := h.1; omega
 exact ⟨ad, ts[k], e, hb, List.getElem?_eq_getElem hl, hc k _ (List.getElem?_eq_getElem hl)⟩
theorem TI.of_own {base : Nat} {v : Value} (h : w.ownsRow base 92 4 v n (tksC ts)) (hl : ts.length = n) : ∃ A c, v = .slice A n c ∧ n ≤ c ∧ c ≤ maxLen ∧ TI w w.heap.size A n ts := by
 rcases h.2 with ⟨rfl, h0⟩ | ⟨g, c, cur, rfl, _, hg, hnc, hm, _⟩
 ·obtain rfl : n = 0 := by have := h.1; rw [h0] at this; simp at this; omega
  obtain rfl : ts = [] := List.eq_nil_of_length_eq_zero hl
  exact ⟨none, 0, rfl, Nat.le_refl _, Nat.zero_le _, TI.nil _ _ _⟩
 ·refine ⟨_, c, rfl, hnc, hm, hl, fun _ => ⟨_, rfl, (Array.getElem?_eq_some_iff.1 hg).1, fun j x hx i u hu => ?_⟩⟩
  have hi : i < 4 := by
   have := (List.getElem?_eq_some_iff.1 hu).1
   simpa [tkC] using this
  exact h.cells (g := g) rfl _ _ ((tks_at hx i hi).trans hu)
end

theorem rd_new (w : World) (s : ByteArray) (h : glN ≤ w.heap.size) : RD (w.alloc (.cells #[.string s, .int .i64 0, .slice none 0 0] 85)) w.heap.size s 0 [] :=
 ⟨h, .slice none 0 0, heap_new _ _, World.ownsRow_nil _ _ _ _⟩

def tokW (w : World) (s : ByteArray) : World := ((w.alloc (.cells #[.int .u16 0] 28)).alloc (.cells #[.int .i64 0] 3)).alloc (.cells #[.string s, .int .i64 0, .slice none 0 0] 85)
theorem tokW_below (w : World) (s : ByteArray) : Below w.heap.size w (tokW w s) := (((Below.refl _ _).alloc (Nat.le_refl _) _).alloc (by simp) _).alloc (by simp; omega) _
theorem tokW_rd (w : World) (s : ByteArray) (hG : Gl w) : RD (tokW w s) (w.heap.size + 1 + 1) s 0 [] := by
 have := rd_new ((w.alloc (.cells #[.int .u16 0] 28)).alloc (.cells #[.int .i64 0] 3)) s (by have := hG.top; simp; omega)
 simp only [World.size_alloc] at this
 exact this
theorem tokW_err (w : World) (s : ByteArray) : ErrAt (tokW w s) w.heap.size (w.heap.size + 1) := by
 refine ⟨?_, ?_, by omega⟩
 ·unfold tokW
  rw [heap_lt _ _ (by simp; omega), heap_lt _ _ (by simp), heap_new]
 ·unfold tokW
  rw [heap_lt _ _ (by simp)]
  have := heap_new (w.alloc (.cells #[.int .u16 0] 28)) (.cells #[.int .i64 0] 3)
  simpa using this
theorem ErrAt.on {w w' : World} {E A R : Nat} (h : ErrAt w E A) (hb : Below R w w') (h1 : E < R) (h2 : A < R) : ErrAt w' E A :=
 ⟨(hb.block E h1).trans h.1, (hb.block A h2).trans h.2.1, h.2.2⟩

set_option maxRecDepth 100000 in
set_option maxHeartbeats 4000000 in
theorem tok_err (s : ByteArray) (w : World) (hG : Gl w) (t : TypeId) (pv : Value) (er : Nat) (k : Int)
  (hread : ∀ W R, RD W R s 0 [] → Gl W → Calls Tryz.prog 35 #[.pointer (some ⟨R, 0, none⟩)] W fun e w' => e = .panicked [{ v := .iface t pv, recovered := false }] ∧ Below R W w')
  (hw : ∀ R W, Calls Tryz.prog 34 #[.pointer (some ⟨R, 0, none⟩), .iface t pv] W fun e w' => e = .returned (.tuple #[.int .u16 er, .int .i64 k]) ∧ Below W.heap.size W w') :
  Calls Tryz.prog 18 #[.string s] w fun e w' => e = .returned (.tuple #[.slice none 0 0, .int .u16 er, .int .i64 k]) ∧ Below w.heap.size w w' := by
 have hmf : ∀ (fn : Fn) (first cap : Array Value) (w : World), (Instr.makeFunc fn first cap).run Tryz.prog w = .ok (.func fn first cap) w := fun _ _ _ _ => rfl
 have hr := hread _ _ (tokW_rd w s hG) (hG.next (tokW_below w s))
 have HB := Lib.hid (tokW_below w s)
 have HE := Lib.hid (tokW_err w s)
 clear hG
 unfold tokW at hr HB HE
 go_enter_defers Tryz.func18, Tryz.ntmps18
 go_wp2_with fail
 refine hr.mono ?_
 rintro e w1 ⟨rfl, hb1⟩
 have hE1 := HE.out.on hb1 (by omega) (by omega)
 have HB1 := Lib.hid (HB.out.trans (hb1.mono (by omega)))
 clear hb1 HB HE hr
 obtain ⟨E, hEq⟩ : ∃ E, w.heap.size = E := ⟨_, rfl⟩
 rw [hEq] at hE1 HB1 ⊢
 have HEq := Lib.hid hEq
 clear hEq
 go_wp2
 refine leaves_cons (f := 33) (args := #[.pointer (some ⟨E + 1 + 1, 0, none⟩), .pointer (some ⟨E, 0, none⟩), .pointer (some ⟨E + 1, 0, none⟩)]) (by simp) (by simp [go_sem]) ?_
 refine (catch_of _ _ _ _ t pv [] er k hE1 (hw _)).mono ?_
 rintro e u' w2 ⟨rfl, rfl, w3, hb3, rfl⟩
 obtain ⟨k1, k2, hne⟩ := hE1
 have k3 := (hb3.block E (Array.getElem?_eq_some_iff.1 k1).1).trans k1
 have k4 := (hb3.block (E + 1) (Array.getElem?_eq_some_iff.1 k2).1).trans k2
 have c3 : w3.cell? ⟨E, 0, none⟩ = some (.int .u16 0) := by simp [World.cell?, k3]
 have c4 : w3.cell? ⟨E + 1, 0, none⟩ = some (.int .i64 0) := by simp [World.cell?, k4]
 have hB : Below E w ((w3.setCell ⟨E, 0, none⟩ (.int .u16 er)).setCell ⟨E + 1, 0, none⟩ (.int .i64 k)) :=
  ((HB1.out.trans (hb3.mono (by have := HB1.out.size; have := (Array.getElem?_eq_some_iff.1 k1).1; omega))).setCell (p := ⟨E, 0, none⟩) (Nat.le_refl E) _).setCell (p := ⟨E + 1, 0, none⟩) (by show E ≤ E + 1; omega) _
 clear k1 k2 k3 k4
 simp [Leaves, settle, results, Tryz.results18, go_sem, c3, c4]
 rw [HEq.out]
 exact hB

set_option maxRecDepth 100000 in
set_option maxHeartbeats 4000000 in
theorem tok_ok (s : ByteArray) (w : World) (hG : Gl w) (ts : List Tok)
  (hread : ∀ W R, RD W R s 0 [] → Gl W → Calls Tryz.prog 35 #[.pointer (some ⟨R, 0, none⟩)] W fun e w' => e = .returned (.tuple #[]) ∧ (∃ k, RD w' R s k ts) ∧ Bk R W w') :
  Calls Tryz.prog 18 #[.string s] w fun e w' => ∃ A n c, e = .returned (.tuple #[.slice A n c, .int .u16 0, .int .i64 0]) ∧ n ≤ c ∧ c ≤ maxLen ∧ TI w' w'.heap.size A n ts ∧ Below w.heap.size w w' := by
 have hmf : ∀ (fn : Fn) (first cap : Array Value) (w : World), (Instr.makeFunc fn first cap).run Tryz.prog w = .ok (.func fn first cap) w := fun _ _ _ _ => rfl
 have hr := hread _ _ (tokW_rd w s hG) (hG.next (tokW_below w s))
 have HB := Lib.hid (tokW_below w s)
 have HE := Lib.hid (tokW_err w s)
 clear hG
 unfold tokW at hr HB HE
 go_enter_defers Tryz.func18, Tryz.ntmps18
 go_wp2_with fail
 refine hr.mono ?_
 rintro e w1 ⟨rfl, ⟨kk, hrd⟩, hb1⟩
 have hE1 := HE.out.on hb1.1 (by omega) (by omega)
 have HB1 := Lib.hid (HB.out.trans (hb1.1.mono (by omega)))
 clear hb1 HB HE hr
 obtain ⟨E, hEq⟩ : ∃ E, w.heap.size = E := ⟨_, rfl⟩
 rw [hEq] at hE1 HB1 hrd ⊢
 have HEq := Lib.hid hEq
 clear hEq
 obtain ⟨_, v, hb, hown⟩ := hrd
 obtain ⟨A, c, rfl, _, _⟩ := own_slice4 hown
 obtain ⟨_, _, d2, _, _⟩ := rd_cells hb
 obtain ⟨k1, k2, hne⟩ := hE1
 have c1 : w1.cell? ⟨E, 0, none⟩ = some (.int .u16 0) := by simp [World.cell?, k1]
 have c2 : w1.cell? ⟨E + 1, 0, none⟩ = some (.int .i64 0) := by simp [World.cell?, k2]
 have f1 : w1.frozen? ⟨E, 0, none⟩ = false := by simp [World.frozen?, k1]
 have f2 : w1.frozen? ⟨E + 1, 0, none⟩ = false := by simp [World.frozen?, k2]
 have hn1 := row_ne hown k1 (by decide)
 have hn2 := row_ne hown k2 (by decide)
 have hB : Below E w ((w1.setCell ⟨E, 0, none⟩ (.int .u16 0)).setCell ⟨E + 1, 0, none⟩ (.int .i64 0)) :=
  (HB1.out.setCell (p := ⟨E, 0, none⟩) (Nat.le_refl E) _).setCell (p := ⟨E + 1, 0, none⟩) (by show E ≤ E + 1; omega) _
 have hO : ((w1.setCell ⟨E, 0, none⟩ (.int .u16 0)).setCell ⟨E + 1, 0, none⟩ (.int .i64 0)).ownsRow (E + 1 + 1) 92 4 (.slice A ts.length c) ts.length (tksC ts) :=
  (hown.kept (Lib.grownBy_setCell w1 E 0 _) (.inr hn1)).kept (Lib.grownBy_setCell _ (E + 1) 0 _) (.inr hn2)
 obtain ⟨A', c', he, h1, h2, h3⟩ := TI.of_own hO rfl
 obtain ⟨rfl, rfl⟩ : A' = A ∧ c' = c := by injection he with e1 e2 e3; exact ⟨e1.symm, e3.symm⟩
 have HF := Lib.hid (And.intro h1 (And.intro h2 (And.intro h3 hB)))
 clear k1 k2 hb hown hO he h3 hB HB1
 obtain ⟨n, hn⟩ : ∃ n, ts.length = n := ⟨_, rfl⟩
 rw [hn] at d2 HF h1
 clear hn
 go_wp2
 refine leaves_cons (f := 33) (args := #[.pointer (some ⟨E + 1 + 1, 0, none⟩), .pointer (some ⟨E, 0, none⟩), .pointer (some ⟨E + 1, 0, none⟩)]) (by simp) (by simp [go_sem]) ?_
 refine (catch_idle _ _ _ _).mono ?_
 rintro e u' w2 ⟨rfl, rfl, rfl⟩
 simp [Leaves, settle, results, Tryz.results18, go_sem, c1, c2]
 refine ⟨_, _, _, ⟨rfl, rfl, rfl⟩, HF.out.1, HF.out.2.1, ?_, ?_⟩
 ·have := HF.out.2.2.1
  simpa using this
 ·rw [HEq.out]
  exact HF.out.2.2.2

def TokTold (w : World) (r : List Tok × Nat × Nat) (e : Ending) (w' : World) : Prop :=
 ∃ A n c, e = .returned (.tuple #[.slice A n c, .int .u16 r.2.1, .int .i64 r.2.2]) ∧ n ≤ c ∧ c ≤ maxLen ∧ TI w' w'.heap.size A n r.1 ∧ Below w.heap.size w w'
theorem tok_none {s : ByteArray} {w : World} {er k : Nat} (h : Calls Tryz.prog 18 #[.string s] w fun e w' => e = .returned (.tuple #[.slice none 0 0, .int .u16 er, .int .i64 k]) ∧ Below w.heap.size w w') :
  Calls Tryz.prog 18 #[.string s] w (TokTold w ([], er, k)) :=
 h.mono fun _ _ ⟨he, hb⟩ => ⟨none, 0, 0, he, Nat.le_refl _, Nat.zero_le _, TI.nil _ _ _, hb⟩
theorem tokens_any (s : ByteArray) (w : World) (hG : Gl w) : Calls Tryz.prog 18 #[.string s] w (TokTold w (lexL s.data.toList)) := by
 unfold lexL
 by_cases h4 : 4000 < s.data.toList.length
 ·rw [if_pos h4]
  rw [size_list] at h4
  exact tok_none (tok_err s w hG _ _ 3 0 (fun W R hW _ => read_long W R 0 s [] hW h4) (fun R W => whatIs_long W R))
 ·rw [if_neg h4]
  have hs : s.size ≤ 4000 := by rw [size_list] at h4; omega
  cases hr : runL s.data.toList 0 [] with
  | inr k =>
   refine tok_none (tok_err s w hG _ _ 20 k (fun W R hW hGW => ?_) (fun R W => whatIs_bad W R k))
   have := read_any W R s hW hGW hs
   rw [hr] at this
   exact this
  | inl ts =>
   simp only
   by_cases hb : 1000 < ts.length
   ·rw [if_pos hb]
    refine tok_none (tok_err s w hG _ _ 3 0 (fun W R hW hGW => ?_) (fun R W => whatIs_long W R))
    have := read_any W R s hW hGW hs
    rw [hr] at this
    refine this.mono fun e w' h => ?_
    rw [readTold_inl, if_pos hb] at h
    exact h
   ·rw [if_neg hb]
    refine tok_ok s w hG ts (fun W R hW hGW => ?_)
    have := read_any W R s hW hGW hs
    rw [hr] at this
    refine this.mono fun e w' h => ?_
    rw [readTold_inl, if_neg hb] at h
    exact h
end Go.Proofs.YthaibekbefndlaaGreatDoor.C

namespace Go.Proofs.YthaibekbefndlaaGreatDoor.C
open Go.RowKit

theorem builder_keep {w w' : World} {B b : Nat} {bs : List Value} (h : Lib.IsBuilder 208 5 B b bs w) (hb : Below w.heap.size w w') : Lib.IsBuilder 208 5 B b bs w' := by
 rcases h with ⟨h0, v, h1, h2, h3⟩ | ⟨h0, v, h1, h2, h3⟩
 ·exact .inl ⟨h0, v, (hb.block b (Array.getElem?_eq_some_iff.1 h1).1).trans h1, own_keep h2 hb, h3⟩
 ·exact .inr ⟨h0, v, (hb.block b (Array.getElem?_eq_some_iff.1 h1).1).trans h1, own_keep h2 hb, h3⟩
theorem builder_new (w : World) : Lib.IsBuilder 208 5 w.heap.size w.heap.size [] (w.alloc (.cells #[.pointer none, .slice none 0 0] 208)) :=
 .inl ⟨Nat.le_refl _, .slice none 0 0, heap_new _ _, World.ownsRow_nil _ _ _ _, by simp [Value.ownBlock]⟩
theorem prt_len (x : Tok) (ht : x.t.length ≤ 5000) (hn : x.n < 1048576 * 1048576) : (prt x).length ≤ 5020 := by
 have := greatL_len hn
 unfold prt
 repeat' split
 all_goals simp
 all_goals omega
theorem prtL_len : ∀ (ts : List Tok), (∀ x ∈ ts, x.t.length ≤ 5000 ∧ x.n < 1048576 * 1048576) → (prtL ts).length ≤ 5020 * ts.length
 | [], _ => by simp [prtL]
 | x :: r, h => by
  have h1 := prt_len x (h x (by simp)).1 (h x (by simp)).2
  have h2 := prtL_len r (fun y hy => h y (by simp [hy]))
  have : prtL (x :: r) = prt x ++ prtL r := rfl
  rw [this, List.length_append, List.length_cons]
  omega
theorem prtL_take (ts : List Tok) (k : Nat) : (prtL (ts.take k)).length ≤ (prtL ts).length := by
 have h : prtL ts = prtL (ts.take k) ++ prtL (ts.drop k) := by
  unfold prtL
  rw [← List.flatMap_append, List.take_append_drop]
 rw [h, List.length_append]
 omega
theorem prtL_snoc (ts : List Tok) (x : Tok) : prtL (ts ++ [x]) = prtL ts ++ prt x := by simp [prtL]
theorem add_more (a : Addr) (j i : Nat) (hi : 0 < i) : (⟨(a.add j).block, (a.add j).off + i, none⟩ : Addr) = a.add (j + i) := by
 unfold Addr.add
 by_cases h : j = 0
 ·subst h
  rw [if_pos rfl, Nat.zero_add, if_neg (by omega)]
 ·rw [if_neg h, if_neg (by omega), Nat.add_assoc]
theorem TI.at4 {w : World} {B n : Nat} {A : Option Addr} {ts : List Tok} (h : TI w B A n ts) {k : Nat} (hk : k < n) : ∃ ad x, A = some ad ∧ ad.block < B ∧ ts[k]? = some x ∧ w.cell? (ad.add (k * 4)) = some (.int .u8 x.k) ∧ w.cell? ⟨(ad.add (k * 4)).block, (ad.add (k * 4)).off + 1, none⟩ = some (.string (str x.t)) ∧ w.cell? ⟨(ad.add (k * 4)).block, (ad.add (k * 4)).off + 2, none⟩ = some (.int .i64 x.n) ∧ w.cell? ⟨(ad.add (k * 4)).block, (ad.add (k * 4)).off + 3, none⟩ = some (.int .i64 x.at_) := by
 obtain ⟨ad, x, h1, h2, h3, h4⟩ := h.at_ hk
 exact ⟨ad, x, h1, h2, h3, h4 0 _ rfl, by rw [add_more _ _ _ (by omega)]; exact h4 1 _ rfl, by rw [add_more _ _ _ (by omega)]; exact h4 2 _ rfl, by rw [add_more _ _ _ (by omega)]; exact h4 3 _ rfl⟩

theorem print_step {W w1 w2 : World} {B k : Nat} {ts : List Tok} {x : Tok} {o : Obj} (hx : ts[k]? = some x) (_hI : Lib.IsBuilder 208 5 B B (Lib.byteCells (prtL (ts.take k))) W) (hB : B ≤ W.heap.size) (hb1 : Below (W.alloc o).heap.size (W.alloc o) w1)
  (hA : Lib.BuilderAt 208 5 B B (.pointer (some ⟨B, 0, none⟩)) (Lib.byteCells (prtL (ts.take k)) ++ Lib.strCells (str (prt x))) w2) (hb2 : Below B w1 w2) :
  Lib.IsBuilder 208 5 B B (Lib.byteCells (prtL (ts.take (k + 1)))) w2 ∧ Below B W w2 := by
 rw [take_snoc hx, prtL_snoc, Lib.byteCells_append]
 exact ⟨.inr hA, ((((Below.refl B W).alloc hB o).trans (hb1.mono (by simp; omega))).trans hb2)⟩

set_option maxRecDepth 100000 in
set_option maxHeartbeats 4000000 in
theorem print_any (w : World) (B : Nat) (A : Option Addr) (n c : Nat) (ts : List Tok) (h : TI w B A n ts) (hB : B ≤ w.heap.size) (hG : Gl w) (hn : n ≤ 5000) (hok : ∀ x ∈ ts, x.n < 1048576 * 1048576) (hs : (prtL ts).length ≤ 140737488355328) :
  Calls Tryz.prog 139 #[.slice A n c] w fun e w' => e = .returned (.string (str (prtL ts))) ∧ Below w.heap.size w w' := by
 have hl := h.len
 have H := Lib.hid h
 have HG := Lib.hid hG
 have HK := Lib.hid hok
 have HS := Lib.hid hs
 have HL := Lib.hid hl
 have hI0 := Lib.hid (builder_new w)
 have hB0 : Below w.heap.size w (w.alloc (.cells #[.pointer none, .slice none 0 0] 208)) := (Below.refl _ _).alloc (Nat.le_refl _) _
 have HB0 := Lib.hid hB0
 clear h hG hok hl hB0 hs
 go_enter Tryz.func139, Tryz.ntmps139
 go_wp2
 obtain ⟨E, hE⟩ : ∃ E, w.heap.size = E := ⟨_, rfl⟩
 rw [hE] at hI0 HB0 hB ⊢
 have HE := Lib.hid hE
 clear hE
 go_loopw [8] (fun iv wr => ∃ k : Nat, k ≤ n ∧ iv = .int .i64 k ∧ Hid (Lib.IsBuilder 208 5 E E (Lib.byteCells (prtL (ts.take k))) wr) ∧ Hid (Below E w wr)) (fun iv _ => n - (intOf iv).toNat)
 case atStart => exact ⟨0, Nat.zero_le _, rfl, hI0, HB0⟩
 case round =>
  obtain ⟨k, hk, rfl, HI, HW⟩ := hrel
  by_cases hlt : k < n
  ·obtain ⟨ad, x, rfl, hbl, hx, q0, q1, q2, q3⟩ := (H.out.on HW.out hB).at4 hlt
   have HX := Lib.hid hx
   have hxn := HK.out x (List.mem_of_getElem? hx)
   have hlen1 : (prtL (ts.take k)).length + (prt x).length ≤ 140737488355328 := by
    have h := prtL_take ts (k + 1)
    rw [take_snoc hx, prtL_snoc, List.length_append] at h
    exact Nat.le_trans h HS.out
   have hxt : (prt x).length ≤ 140737488355328 := by omega
   have k0 : (0 : Int) ≤ (k : Int) := by omega
   have k1 : (k : Int) < (n : Int) := by omega
   have hEw : E ≤ wr.heap.size := by have := HW.out.size; have := HE.out; omega
   have hGw := HG.out.on HW.out (by rw [← HE.out]; exact HG.out.top)
   have hpr := fun o (hb : Below wr.heap.size wr (wr.alloc o)) => printed_any x x.at_ (wr.alloc o) (hGw.next hb) hxn hxt
   clear hx
   go_wp2_with fail
   refine (hpr _ ((Below.refl _ _).alloc (Nat.le_refl _) _)).mono ?_
   rintro e w1 ⟨rfl, hb1⟩
   have hI1 := builder_keep (builder_keep HI.out ((Below.refl _ _).alloc (Nat.le_refl _) _)) hb1
   have hs1 := hb1.size
   rw [World.size_alloc] at hs1
   have HB1 := Lib.hid hb1
   clear hb1
   go_wp2_with fail
   refine (builder_write E E _ (str (prt x)) w1 hI1 (by rw [Lib.byteCells_length, str_size]; omega) (by omega)).mono ?_
   rintro e w2 ⟨rfl, hA, hb2⟩
   obtain ⟨hI2, hW2⟩ := print_step HX.out HI.out hEw HB1.out hA hb2
   have HI2 := Lib.hid hI2
   have HW2 := Lib.hid (HW.out.trans hW2)
   clear hA hb2 hI2 hW2 hI1
   go_wp2
   go_roundw
   case rel => exact ⟨k + 1, by omega, by go_num, HI2, HW2⟩
   case measure => simp [intOf]; omega
  ·obtain rfl : k = n := by omega
   have hEw : E ≤ wr.heap.size := by have := HW.out.size; have := HE.out; omega
   have hst := Tryz.Builder_String_any E E _ wr HI.out hEw
   go_wp2_with fail
   refine hst.mono ?_
   rintro e w2 ⟨rfl, hb2⟩
   have HB2 := Lib.hid (HW.out.trans hb2)
   clear hb2
   go_wp2
   go_ret
   have h1 : ts.take k = ts := List.take_of_length_le (by rw [HL.out]; exact Nat.le_refl _)
   exact ⟨by rw [h1]; rfl, by rw [HE.out]; exact HB2.out⟩
end Go.Proofs.YthaibekbefndlaaGreatDoor.C

namespace Go.Proofs.YthaibekbefndlaaGreatDoor.C
open Go.RowKit

def faultV (er at_ : Int) : List PanicEntry := [{ v := .iface 66 (.agg #[.int .u16 er, .int .i64 at_]), recovered := false }]
def tkV (x : Tok) : Value := .agg #[.int .u8 x.k, .string (str x.t), .int .i64 x.n, .int .i64 x.at_]
set_option maxRecDepth 100000 in
set_option maxHeartbeats 1000000 in
theorem refuse_any (er : Int) (x : Tok) (w : World) : Calls Tryz.prog 38 #[.int .u16 er, tkV x] w fun e w' => e = .panicked (faultV er x.at_) ∧ Below w.heap.size w w' := by
 unfold tkV faultV
 go_enter Tryz.func38, Tryz.ntmps38
 go_wp2
 exact ⟨rfl, rfl, (Below.refl _ _).alloc (Nat.le_refl _) _⟩

def inKs (ks : List Int) (v : Int) : Bool := ks.contains v
set_option maxHeartbeats 1000000 in
theorem index8_any (w : World) (B : Nat) (A : Option Addr) (n c : Nat) (ks : List Int) (v : Int) (h : RI .u8 w B A n ks) (hn : n ≤ 1000) :
  Calls Tryz.prog 137 #[.slice A n c, .int .u8 v] w fun e w' => (∃ i : Int, e = .returned (.int .i64 i) ∧ (decide (0 ≤ i) = inKs ks v)) ∧ w' = w := by
 have H := Lib.hid h
 have hl := h.len
 clear h
 have HL := Lib.hid hl
 clear hl
 go_enter Tryz.func137, Tryz.ntmps137
 go_wp2
 go_loop [8] (fun i => ∃ k : Nat, k ≤ n ∧ i = .int .i64 k ∧ Hid (v ∉ ks.take k)) (fun i => n - (intOf i).toNat)
 case atStart => exact ⟨0, Nat.zero_le _, rfl, Lib.hid (by simp)⟩
 case round =>
  obtain ⟨k, hk, rfl, HN⟩ := hrel
  by_cases hlt : k < n
  ·obtain ⟨ad, u, rfl, hb, hu, hc⟩ := H.out.at_ hlt
   have HU := Lib.hid hu
   clear hu
   by_cases hv : v = u
   ·subst hv
    go_wp2
    go_ret
    refine ⟨⟨_, rfl, ?_⟩, rfl⟩
    have hm : v ∈ ks := List.mem_of_getElem? HU.out
    simp [inKs, hm]
   ·have hv' : (v == u) = false := by simpa using hv
    go_wp2
    go_round
    case rel => exact ⟨k + 1, by omega, by go_num, Lib.hid (by
     rw [List.take_add_one, HU.out]
     simp only [Option.toList_some, List.mem_append, List.mem_singleton, not_or]
     exact ⟨HN.out, hv⟩)⟩
    case measure => simp [intOf]; omega
  ·obtain rfl : k = n := by omega
   go_wp2
   go_ret
   refine ⟨⟨_, rfl, ?_⟩, rfl⟩
   have hm := HN.out
   rw [List.take_of_length_le (by rw [HL.out]; exact Nat.le_refl _)] at hm
   simp [inKs, hm]
set_option maxHeartbeats 1000000 in
theorem contains8_is (w : World) (B : Nat) (A : Option Addr) (n c : Nat) (ks : List Int) (v : Int) (h : RI .u8 w B A n ks) (hn : n ≤ 1000) (b : Bool) (hb : inKs ks v = b) :
  Calls Tryz.prog 80 #[.slice A n c, .int .u8 v] w fun e w' => e = .returned (.bool b) ∧ w' = w := by
 have hi := index8_any w B A n c ks v h hn
 rw [hb] at hi
 clear h hb
 go_enter Tryz.func80, Tryz.ntmps80
 go_wp2_with fail
 refine hi.mono ?_
 rintro e w' ⟨⟨i, rfl, hi2⟩, rfl⟩
 have HI := Lib.hid hi2
 clear hi2
 cases b with
 | true =>
  have h0 : 0 ≤ i := by simpa using HI.out
  go_wp2
  go_ret
  exact ⟨rfl, rfl⟩
 | false =>
  have h0 : decide (0 ≤ i) = false := HI.out
  go_wp2
  go_ret
  exact ⟨rfl, rfl⟩

structure TV where
 A : Option Addr
 n : Nat
 c : Nat
 ts : List Tok
def CU (w : World) (R : Nat) (T : TV) (k : Nat) (v1 v2 v3 v4 v5 : Value) : Prop :=
 w.heap[R]? = some (.cells #[.slice T.A T.n T.c, .int .i64 k, v1, v2, v3, v4, v5] 64 (0, 0)) ∧ TI w R T.A T.n T.ts ∧ T.n ≤ 1001 ∧ k ≤ T.n
def Moved (w w' : World) (R : Nat) : Prop := w.grownBy w' (some R)
section
variable {w w' : World} {R k : Nat} {T : TV} {v1 v2 v3 v4 v5 : Value}
theorem CU.lt (h : CU w R T k v1 v2 v3 v4 v5) : R < w.heap.size := (Array.getElem?_eq_some_iff.1 h.1).1
theorem CU.next (h : CU w R T k v1 v2 v3 v4 v5) (hb : Below w.heap.size w w') : CU w' R T k v1 v2 v3 v4 v5 := by
 have hlt := h.lt
 exact ⟨(hb.block R hlt).trans h.1, h.2.1.keep fun p hp => hb.cell (p := p) (by omega), h.2.2⟩
theorem CU.drewN (h : CU w R T k v1 v2 v3 v4 v5) (n : Nat) : CU (w.drewN n) R T k v1 v2 v3 v4 v5 := h
theorem CU.seek (h : CU w R T k v1 v2 v3 v4 v5) {k' : Nat} (hk : k' ≤ T.n) : CU (w.setCell ⟨R, 1, none⟩ (.int .i64 k')) R T k' v1 v2 v3 v4 v5 := by
 obtain ⟨h1, h2, h3, h4⟩ := h
 refine ⟨?_, h2.keep fun p hp => World.cell?_setCell_other w _ p _ (fun e => by subst e; exact absurd hp (Nat.lt_irrefl _)), h3, hk⟩
 obtain ⟨hlt, hk⟩ := Array.getElem?_eq_some_iff.1 h1
 show (w.heap.modify R _)[R]? = _
 rw [Array.getElem?_eq_getElem (by rw [Array.size_modify]; exact hlt), Array.getElem_modify_self, hk]
 rfl
theorem CU.cells (h : CU w R T k v1 v2 v3 v4 v5) : w.cell? ⟨R, 0, none⟩ = some (.slice T.A T.n T.c) ∧ w.cell? ⟨R, 1, none⟩ = some (.int .i64 k) ∧ w.frozen? ⟨R, 1, none⟩ = false := by
 simp [World.cell?, World.frozen?, h.1]
theorem CU.more (h : CU w R T k v1 v2 v3 v4 v5) : w.cell? ⟨R, 2, none⟩ = some v1 ∧ w.cell? ⟨R, 3, none⟩ = some v2 ∧ w.cell? ⟨R, 4, none⟩ = some v3 ∧ w.cell? ⟨R, 5, none⟩ = some v4 ∧ w.cell? ⟨R, 6, none⟩ = some v5 := by
 simp [World.cell?, h.1]
theorem CU.left (h : CU w R T k v1 v2 v3 v4 v5) : T.ts.length = T.n := h.2.1.len
theorem CU.tok {x : Tok} {r : List Tok} (h : CU w R T k v1 v2 v3 v4 v5) (hr : T.ts.drop k = x :: r) : k < T.n ∧ T.ts.drop (k + 1) = r ∧ ∃ ad, T.A = some ad ∧ ad.block < R ∧ w.cell? (ad.add (k * 4)) = some (.int .u8 x.k) ∧ w.cell? ⟨(ad.add (k * 4)).block, (ad.add (k * 4)).off + 1, none⟩ = some (.string (str x.t)) ∧ w.cell? ⟨(ad.add (k * 4)).block, (ad.add (k * 4)).off + 2, none⟩ = some (.int .i64 x.n) ∧ w.cell? ⟨(ad.add (k * 4)).block, (ad.add (k * 4)).off + 3, none⟩ = some (.int .i64 x.at_) := by
 have hk : k < T.ts.length := by
  rcases Nat.lt_or_ge k T.ts.length with h1 | h1
  ·exact h1
  ·rw [List.drop_eq_nil_of_le h1] at hr; cases hr
 have hx : T.ts[k]? = some x ∧ T.ts.drop (k + 1) = r := by
  rw [List.drop_eq_getElem_cons hk] at hr
  injection hr with h1 h2
  exact ⟨by rw [List.getElem?_eq_getElem hk, h1], h2⟩
 have hl := h.left
 obtain ⟨ad, y, e1, e2, e3, e4, e5, e6, e7⟩ := h.2.1.at4 (k := k) (by omega)
 rw [hx.1] at e3
 injection e3 with e3
 subst e3
 exact ⟨by omega, hx.2, ad, e1, e2, e4, e5, e6, e7⟩
theorem Moved.of_below (h : Below w.heap.size w w') : Moved w w' R := ⟨h.os, h.tape, h.output, h.size, fun i hi _ => h.block i hi⟩
theorem Moved.trans {a b c : World} (h : Moved a b R) (k : Moved b c R) : Moved a c R := ⟨k.os.trans h.os, k.tape.trans h.tape, k.output.trans h.output, Nat.le_trans h.size k.size, fun i hi hne => (k.block i (Nat.lt_of_lt_of_le hi h.size) hne).trans (h.block i hi hne)⟩
theorem Moved.refl (w : World) (R : Nat) : Moved w w R := ⟨rfl, rfl, rfl, Nat.le_refl _, fun _ _ _ => rfl⟩
theorem Moved.seek (h : Moved w w' R) (i : Nat) (u : Value) : Moved w (w'.setCell ⟨R, i, none⟩ u) R := ⟨h.os, h.tape, h.output, by simpa [World.setCell] using h.size, fun j hj hne => (Below.heap_setCell w' ⟨R, i, none⟩ u j (fun e => hne (by rw [e]))).trans (h.block j hj hne)⟩
theorem Moved.alloc (h : Moved w w' R) (o : Obj) : Moved w (w'.alloc o) R := h.trans (.of_below ((Below.refl _ _).alloc (Nat.le_refl _) o))
theorem Moved.below {B : Nat} (h : Moved w w' R) (hB : B ≤ R) (hw : B ≤ w.heap.size) : Below B w w' := ⟨h.os, h.tape, h.output, h.size, fun i hi => h.block i (by omega) (fun e => by injection e; omega)⟩
end
end Go.Proofs.YthaibekbefndlaaGreatDoor.C

namespace Go.Proofs.YthaibekbefndlaaGreatDoor.C
open Go.RowKit

theorem below_drew {B : Nat} {a w : World} (h : Below B a w) : Below B a w.drew := ⟨h.os, h.tape, h.output, h.size, h.block⟩
theorem CU.drew {w : World} {R k : Nat} {T : TV} {v1 v2 v3 v4 v5 : Value} (h : CU w R T k v1 v2 v3 v4 v5) : CU w.drew R T k v1 v2 v3 v4 v5 := h
theorem Moved.drew {w w' : World} {R : Nat} (h : Moved w w' R) : Moved w w'.drew R := ⟨h.os, h.tape, h.output, h.size, h.block⟩
theorem CU.alloc {w : World} {R k : Nat} {T : TV} {v1 v2 v3 v4 v5 : Value} (h : CU w R T k v1 v2 v3 v4 v5) (o : Obj) : CU (w.alloc o) R T k v1 v2 v3 v4 v5 := h.next ((Below.refl _ _).alloc (Nat.le_refl _) o)
theorem CU.far {w : World} {R k : Nat} {T : TV} {v1 v2 v3 v4 v5 : Value} (h : CU w R T k v1 v2 v3 v4 v5) {p : Addr} (hp : R < p.block) (u : Value) : CU (w.setCell p u) R T k v1 v2 v3 v4 v5 := by
 obtain ⟨h1, h2, h3⟩ := h
 exact ⟨(Below.heap_setCell w p u R (by omega)).trans h1, h2.keep fun q hq => World.cell?_setCell_other w p q u (fun e => by subst e; omega), h3⟩

set_option maxRecDepth 100000 in
set_option maxHeartbeats 4000000 in
theorem take_yes (w : World) (R : Nat) (T : TV) (k : Nat) (v1 v2 v3 v4 v5 : Value) (x : Tok) (r : List Tok) (B : Nat) (A : Option Addr) (m c : Nat) (ks : List Int)
  (h : CU w R T k v1 v2 v3 v4 v5) (hr : T.ts.drop k = x :: r) (hK : RI .u8 w B A m ks) (hm : m ≤ 1000) (hB : B ≤ w.heap.size) (hin : inKs ks x.k = true) :
  Calls Tryz.prog 37 #[.pointer (some ⟨R, 0, none⟩), .slice A m c] w fun e w' => e = .returned (tkV x) ∧ CU w' R T (k + 1) v1 v2 v3 v4 v5 ∧ Moved w w' R := by
 obtain ⟨hkn, _, ad, hA, hbl, q0, q1, q2, q3⟩ := h.tok hr
 obtain ⟨c0, c1, f1⟩ := h.cells
 have hlt := h.lt
 have hn := h.2.2.1
 have hcon : ∀ W, Below w.heap.size w W → Calls Tryz.prog 80 #[.slice A m c, .int .u8 x.k] W fun e w' => e = .returned (.bool true) ∧ w' = W := fun W hW => contains8_is W B A m c ks x.k (hK.keep fun p hp => hW.cell (p := p) (by omega)) hm true hin
 have HC := Lib.hid hcon
 have H := Lib.hid h
 have k0 : (0 : Int) ≤ (k : Int) := by omega
 have k1 : (k : Int) < (T.n : Int) := by omega
 rw [hA] at c0
 clear hcon h hr hK hin
 go_enter Tryz.func37, Tryz.ntmps37
 go_wp2
 go_region_held3 (fun w' => w'.cell? ⟨R, 0, none⟩ = some (.slice (some ad) T.n T.c) ∧ w'.cell? ⟨R, 1, none⟩ = some (.int .i64 k) ∧ w'.cell? (ad.add (k * 4)) = some (.int .u8 x.k) ∧ w'.cell? ⟨(ad.add (k * 4)).block, (ad.add (k * 4)).off + 1, none⟩ = some (.string (str x.t)) ∧ w'.cell? ⟨(ad.add (k * 4)).block, (ad.add (k * 4)).off + 2, none⟩ = some (.int .i64 x.n) ∧ w'.cell? ⟨(ad.add (k * 4)).block, (ad.add (k * 4)).off + 3, none⟩ = some (.int .i64 x.at_)) (go_keep) (fail)
 go_wp2_with (go_at_call 80; refine (HC.out _ (below_drew (((Below.refl _ _).alloc (Nat.le_refl _) _).alloc (by simp) _))).mono ?_; rintro e w' ⟨rfl, rfl⟩)
 refine bodyPost_ret (v := tkV x) (by simp [results, Tryz.results37, go_sem, tkV]) rfl ⟨rfl, ?_, ?_⟩
 ·exact (((H.out.seek (k' := k + 1) (by omega)).alloc _).alloc _).drew
 ·exact ((((Moved.refl w R).seek 1 _).alloc _).alloc _).drew

set_option maxRecDepth 100000 in
set_option maxHeartbeats 4000000 in
theorem take_no (w : World) (R : Nat) (T : TV) (k : Nat) (v1 v2 v3 v4 v5 : Value) (x : Tok) (r : List Tok) (B : Nat) (A : Option Addr) (m c : Nat) (ks : List Int)
  (h : CU w R T k v1 v2 v3 v4 v5) (hr : T.ts.drop k = x :: r) (hK : RI .u8 w B A m ks) (hm : m ≤ 1000) (hB : B ≤ w.heap.size) (hin : inKs ks x.k = false) :
  Calls Tryz.prog 37 #[.pointer (some ⟨R, 0, none⟩), .slice A m c] w fun e w' => e = .panicked (faultV 30 x.at_) ∧ Below w.heap.size w w' := by
 obtain ⟨hkn, _, ad, hA, hbl, q0, q1, q2, q3⟩ := h.tok hr
 obtain ⟨c0, c1, f1⟩ := h.cells
 have hlt := h.lt
 have hn := h.2.2.1
 have hcon : ∀ W, Below w.heap.size w W → Calls Tryz.prog 80 #[.slice A m c, .int .u8 x.k] W fun e w' => e = .returned (.bool false) ∧ w' = W := fun W hW => contains8_is W B A m c ks x.k (hK.keep fun p hp => hW.cell (p := p) (by omega)) hm false hin
 have HC := Lib.hid hcon
 have k0 : (0 : Int) ≤ (k : Int) := by omega
 have k1 : (k : Int) < (T.n : Int) := by omega
 rw [hA] at c0
 clear hcon h hr hK hin
 go_enter Tryz.func37, Tryz.ntmps37
 go_wp2
 go_region_held3 (fun w' => w'.cell? ⟨R, 0, none⟩ = some (.slice (some ad) T.n T.c) ∧ w'.cell? ⟨R, 1, none⟩ = some (.int .i64 k) ∧ w'.cell? (ad.add (k * 4)) = some (.int .u8 x.k) ∧ w'.cell? ⟨(ad.add (k * 4)).block, (ad.add (k * 4)).off + 1, none⟩ = some (.string (str x.t)) ∧ w'.cell? ⟨(ad.add (k * 4)).block, (ad.add (k * 4)).off + 2, none⟩ = some (.int .i64 x.n) ∧ w'.cell? ⟨(ad.add (k * 4)).block, (ad.add (k * 4)).off + 3, none⟩ = some (.int .i64 x.at_)) (go_keep) (fail)
 have hb : Below w.heap.size w (((w.alloc (.cells #[.int .u8 0, .string ⟨#[]⟩, .int .i64 0, .int .i64 0] 92)).alloc (.cells #[.int .u8 x.k, .string (str x.t), .int .i64 x.n, .int .i64 x.at_] 92)).drew) := below_drew (((Below.refl _ _).alloc (Nat.le_refl _) _).alloc (by simp) _)
 have HB := Lib.hid hb
 clear hb
 go_wp2_with (first
  | (go_at_call 80; refine (HC.out _ HB.out).mono ?_; rintro e w' ⟨rfl, rfl⟩)
  | (go_at_call 38; refine (refuse_any 30 x _).mono ?_; rintro e w2 ⟨rfl, hb2⟩))
 exact ⟨rfl, rfl, HB.out.trans (hb2.mono HB.out.size)⟩
end Go.Proofs.YthaibekbefndlaaGreatDoor.C

namespace Go.Proofs.YthaibekbefndlaaGreatDoor.C
open Go.RowKit

theorem kinds_one (w : World) (k : Int) (t : TypeId) : RI .u8 (w.alloc (.cells #[.int .u8 k] t)) (w.heap.size + 1) (some ⟨w.heap.size, 0, none⟩) 1 [k] :=
 ⟨rfl, fun _ => ⟨_, rfl, Nat.lt_succ_self _, fun j u hu => by
  rw [add_plain, Nat.zero_add, World.cell?_alloc_new]
  match j, hu with
  | 0, hu => simp at hu; subst hu; rfl⟩⟩
theorem kinds_two (w : World) (k l : Int) (t : TypeId) : RI .u8 (w.alloc (.cells #[.int .u8 k, .int .u8 l] t)) (w.heap.size + 1) (some ⟨w.heap.size, 0, none⟩) 2 [k, l] :=
 ⟨rfl, fun _ => ⟨_, rfl, Nat.lt_succ_self _, fun j u hu => by
  rw [add_plain, Nat.zero_add, World.cell?_alloc_new]
  match j, hu with
  | 0, hu => simp at hu; subst hu; rfl
  | 1, hu => simp at hu; subst hu; rfl⟩⟩
theorem str_inj {a b : List UInt8} (h : str a = str b) : a = b := by
 have := congrArg (fun z : ByteArray => z.data.toList) h
 simpa using this
theorem str_ne0 {a b : List UInt8} (h : a ≠ b) : ((str a).toList == (str b).toList) = false := by
 rw [Lib.toList_data, Lib.toList_data, str_list, str_list]
 simpa using h
theorem str_ne {a b : List UInt8} (h : a ≠ b) : (!((str a).toList == (str b).toList)) = true := by rw [str_ne0 h]; rfl
theorem str_same (a : List UInt8) : ((str a).toList == (str a).toList) = true := by simp
section
variable (w : World) (R : Nat) (T : TV) (k : Nat) (v1 v2 v3 v4 v5 : Value) (x : Tok) (r : List Tok)

theorem CU.region {w : World} {R k : Nat} {T : TV} {v1 v2 v3 v4 v5 : Value} {x : Tok} {r : List Tok} (h : CU w R T k v1 v2 v3 v4 v5) (hr : T.ts.drop k = x :: r) : ∃ ad, w.cell? ⟨R, 0, none⟩ = some (.slice (some ad) T.n T.c) ∧ w.cell? ⟨R, 1, none⟩ = some (.int .i64 k) ∧ w.cell? (ad.add (k * 4)) = some (.int .u8 x.k) ∧ w.cell? ⟨(ad.add (k * 4)).block, (ad.add (k * 4)).off + 1, none⟩ = some (.string (str x.t)) ∧ w.cell? ⟨(ad.add (k * 4)).block, (ad.add (k * 4)).off + 2, none⟩ = some (.int .i64 x.n) ∧ w.cell? ⟨(ad.add (k * 4)).block, (ad.add (k * 4)).off + 3, none⟩ = some (.int .i64 x.at_) ∧ w.frozen? ⟨R, 1, none⟩ = false ∧ (0 : Int) ≤ (k : Int) ∧ (k : Int) < (T.n : Int) ∧ k < T.n ∧ T.n ≤ 1001 ∧ ad.block < R := by
 obtain ⟨hkn, _, ad, hA, hbl, q0, q1, q2, q3⟩ := h.tok hr
 obtain ⟨c0, c1, f1⟩ := h.cells
 rw [hA] at c0
 exact ⟨ad, c0, c1, q0, q1, q2, q3, f1, by omega, by omega, hkn, h.2.2.1, hbl⟩
set_option maxRecDepth 100000 in
set_option maxHeartbeats 4000000 in
theorem skips_yes (s : List UInt8) (h : CU w R T k v1 v2 v3 v4 v5) (hr : T.ts.drop k = x :: r) (hs : isSign s (x :: r) = true) :
  Calls Tryz.prog 130 #[.pointer (some ⟨R, 0, none⟩), .string (str s)] w fun e w' => e = .returned (.bool true) ∧ CU w' R T (k + 1) v1 v2 v3 v4 v5 ∧ Moved w w' R := by
 obtain ⟨ad, c0, c1, q0, q1, q2, q3, f1, k0, k1, hkn, hn, hbl⟩ := h.region hr
 have hlt := h.lt
 have H := Lib.hid h
 have hk2 : x.k = 2 ∧ x.t = s := by simpa [isSign] using hs
 obtain ⟨hkk, rfl⟩ := hk2
 have hsame := str_same x.t
 rw [hkk] at q0
 clear h hr hs
 go_enter Tryz.func130, Tryz.ntmps130
 go_wp2
 go_region_held3 (fun w' => w'.cell? ⟨R, 0, none⟩ = some (.slice (some ad) T.n T.c) ∧ w'.cell? ⟨R, 1, none⟩ = some (.int .i64 k) ∧ w'.cell? (ad.add (k * 4)) = some (.int .u8 2) ∧ w'.cell? ⟨(ad.add (k * 4)).block, (ad.add (k * 4)).off + 1, none⟩ = some (.string (str x.t)) ∧ w'.cell? ⟨(ad.add (k * 4)).block, (ad.add (k * 4)).off + 2, none⟩ = some (.int .i64 x.n) ∧ w'.cell? ⟨(ad.add (k * 4)).block, (ad.add (k * 4)).off + 3, none⟩ = some (.int .i64 x.at_)) (go_keep) (fail)
 go_wp2
 go_ret
 exact ⟨rfl, ((H.out.seek (k' := k + 1) (by omega)).alloc _).drew, (((Moved.refl w R).seek 1 _).alloc _).drew⟩
set_option maxRecDepth 100000 in
set_option maxHeartbeats 4000000 in
theorem skips_no (s : List UInt8) (h : CU w R T k v1 v2 v3 v4 v5) (hr : T.ts.drop k = x :: r) (hs : isSign s (x :: r) = false) :
  Calls Tryz.prog 130 #[.pointer (some ⟨R, 0, none⟩), .string (str s)] w fun e w' => e = .returned (.bool false) ∧ Below w.heap.size w w' := by
 obtain ⟨ad, c0, c1, q0, q1, q2, q3, f1, k0, k1, hkn, hn, hbl⟩ := h.region hr
 have hlt := h.lt
 have hk2 : ¬ (x.k = 2 ∧ x.t = s) := by simpa [isSign] using hs
 by_cases hkk : x.k = 2
 ·have hne := str_ne (fun e => hk2 ⟨hkk, e⟩)
  rw [hkk] at q0
  clear h hr hs hk2 hkk
  go_enter Tryz.func130, Tryz.ntmps130
  go_wp2
  go_region_held3 (fun w' => w'.cell? ⟨R, 0, none⟩ = some (.slice (some ad) T.n T.c) ∧ w'.cell? ⟨R, 1, none⟩ = some (.int .i64 k) ∧ w'.cell? (ad.add (k * 4)) = some (.int .u8 2) ∧ w'.cell? ⟨(ad.add (k * 4)).block, (ad.add (k * 4)).off + 1, none⟩ = some (.string (str x.t)) ∧ w'.cell? ⟨(ad.add (k * 4)).block, (ad.add (k * 4)).off + 2, none⟩ = some (.int .i64 x.n) ∧ w'.cell? ⟨(ad.add (k * 4)).block, (ad.add (k * 4)).off + 3, none⟩ = some (.int .i64 x.at_)) (go_keep) (fail)
  go_wp2
  go_ret
  exact ⟨rfl, below_drew ((Below.refl _ _).alloc (Nat.le_refl _) _)⟩
 ·have hk3 : ¬ (x.k : Int) = 2 := by omega
  clear h hr hs hk2 hkk
  go_enter Tryz.func130, Tryz.ntmps130
  go_wp2
  go_region_held3 (fun w' => w'.cell? ⟨R, 0, none⟩ = some (.slice (some ad) T.n T.c) ∧ w'.cell? ⟨R, 1, none⟩ = some (.int .i64 k) ∧ w'.cell? (ad.add (k * 4)) = some (.int .u8 x.k) ∧ w'.cell? ⟨(ad.add (k * 4)).block, (ad.add (k * 4)).off + 1, none⟩ = some (.string (str x.t)) ∧ w'.cell? ⟨(ad.add (k * 4)).block, (ad.add (k * 4)).off + 2, none⟩ = some (.int .i64 x.n) ∧ w'.cell? ⟨(ad.add (k * 4)).block, (ad.add (k * 4)).off + 3, none⟩ = some (.int .i64 x.at_)) (go_keep) (fail)
  go_wp2
  go_ret
  exact ⟨rfl, below_drew ((Below.refl _ _).alloc (Nat.le_refl _) _)⟩
end
end Go.Proofs.YthaibekbefndlaaGreatDoor.C

namespace Go.Proofs.YthaibekbefndlaaGreatDoor.C
open Go.RowKit

theorem run_step {l l' : List UInt8} {at_ m : Nat} {acc acc' : List Tok} {r : List Tok ⊕ Nat} (h0 : l ≠ []) (h : stepL l at_ acc = some (acc', m)) (hm : 1 ≤ m) (hl : l.drop m = l') (hr : runL l' (at_ + m) acc' = r) : runL l at_ acc = r := by
 rw [runL_some h0 h hm, hl, hr]
theorem TI.cell {w : World} {B n : Nat} {A : Option Addr} {ts : List Tok} (h : TI w B A n ts) {ad : Addr} (hA : A = some ad) {k : Nat} {x : Tok} (hx : ts[k]? = some x) (i : Nat) (u : Value) (hu : (tkC x)[i]? = some u) : w.cell? (ad.add (k * 4 + i)) = some u := by
 have hk : k < n := by rw [← h.len]; exact (List.getElem?_eq_some_iff.1 hx).1
 obtain ⟨ad', x', h1, h2, h3, h4⟩ := h.at_ hk
 rw [hA] at h1
 injection h1 with h1
 subst h1
 rw [hx] at h3
 injection h3 with h3
 subst h3
 exact h4 i u hu
theorem TI.some_ {w : World} {B n : Nat} {A : Option Addr} {ts : List Tok} (h : TI w B A n ts) (hn : 0 < n) : ∃ ad, A = some ad ∧ ad.block < B := by
 obtain ⟨ad, e, hb, _⟩ := h.2 hn
 exact ⟨ad, e, hb⟩
theorem add_pos (a : Addr) (j : Nat) (h : 0 < j) : a.add j = ⟨a.block, a.off + j, none⟩ := by
 unfold Addr.add
 rw [if_neg (by omega)]

end Go.Proofs.YthaibekbefndlaaGreatDoor.C

namespace Go.Proofs.YthaibekbefndlaaGreatDoor.C
open Go.RowKit

theorem dig_inj : ∀ a, a < 16 → ∀ b, b < 16 → dig a = dig b → a = b := by decide +kernel
theorem dig_no : ∀ a, a < 16 → dig a ≠ 125 := by decide +kernel
theorem hexL_ne : ∀ (n : Nat), hexL n ≠ [] := by
 intro n
 by_cases h : n < 16
 ·rw [hexL_small h]; simp
 ·rw [hexL_big h]; simp
theorem hexL_no (n : Nat) : (125 : UInt8) ∉ hexL n := by
 induction n using Nat.strongRecOn with
 | _ n ih =>
  by_cases h : n < 16
  ·rw [hexL_small h, List.mem_singleton]
   exact fun e => dig_no n h e.symm
  ·rw [hexL_big h, List.mem_append, List.mem_singleton]
   rintro (e | e)
   ·exact ih (n / 16) (by omega) e
   ·exact dig_no (n % 16) (by omega) e.symm
theorem hexL_inj : ∀ (a b : Nat), hexL a = hexL b → a = b := by
 intro a
 induction a using Nat.strongRecOn with
 | _ a ih =>
  intro b h
  by_cases ha : a < 16
  ·by_cases hb : b < 16
   ·rw [hexL_small ha, hexL_small hb] at h
    exact dig_inj a ha b hb (by simpa using h)
   ·rw [hexL_small ha, hexL_big hb] at h
    have := congrArg List.length h
    simp at this
    exact absurd this (hexL_ne _)
  ·by_cases hb : b < 16
   ·rw [hexL_small hb, hexL_big ha] at h
    have := congrArg List.length h
    simp at this
    exact absurd this (hexL_ne _)
   ·rw [hexL_big ha, hexL_big hb] at h
    have h2 := List.append_inj' h rfl
    have h3 := ih (a / 16) (by omega) (b / 16) h2.1
    have h4 := dig_inj (a % 16) (by omega) (b % 16) (by omega) (by simpa using h2.2)
    omega
theorem shown_kind {c : Int} (hc : rightB c = true) : (∃ m : Nat, m < 256 ∧ c = -1 - m ∧ shown c = [92, 120, dig (m / 16), dig (m % 16)]) ∨ (c = 92 ∧ shown c = [92, 92]) ∨ (c = 10 ∧ shown c = [92, 110]) ∨
  (∃ n : Nat, 32 ≤ n ∧ n ≤ 126 ∧ n ≠ 92 ∧ c = n ∧ shown c = [n.toUInt8]) ∨ (∃ n : Nat, c = n ∧ shown c = 92 :: 117 :: 123 :: (hexL n ++ [125])) := by
 have hr : -256 ≤ c ∧ c < 55296 ∨ 57343 < c ∧ c ≤ 1114111 := by
  unfold rightB at hc
  simpa using hc
 by_cases h1 : -256 ≤ c ∧ c < 0
 ·exact .inl ⟨(-1 - c).toNat, by omega, by omega, by unfold shown; rw [if_pos h1]⟩
 ·by_cases h2 : c = 92
  ·exact .inr (.inl ⟨h2, by subst h2; rfl⟩)
  ·by_cases h3 : c = 10
   ·exact .inr (.inr (.inl ⟨h3, by subst h3; rfl⟩))
   ·by_cases h4 : 32 ≤ c ∧ c ≤ 126
    ·refine .inr (.inr (.inr (.inl ⟨c.toNat, by omega, by omega, by omega, by omega, ?_⟩)))
     unfold shown
     rw [if_neg h1, if_neg (fun h => h hr), if_neg h2, if_neg h3, if_pos h4]
    ·refine .inr (.inr (.inr (.inr ⟨c.toNat, by omega, ?_⟩)))
     unfold shown
     rw [if_neg h1, if_neg (fun h => h hr), if_neg h2, if_neg h3, if_neg h4]
     simp
theorem u8_eq {a b : Nat} (ha : a < 256) (hb : b < 256) (h : a.toUInt8 = b.toUInt8) : a = b := by
 have := congrArg UInt8.toNat h
 simp at this
 omega
theorem split_125 : ∀ {a b x y : List UInt8}, (125 : UInt8) ∉ a → (125 : UInt8) ∉ b → a ++ 125 :: x = b ++ 125 :: y → a = b ∧ x = y
 | [], [], x, y, _, _, h => ⟨rfl, by simpa using h⟩
 | [], c :: b, x, y, _, hb, h => by
  simp at h
  exact absurd (h.1 ▸ List.mem_cons_self) hb
 | c :: a, [], x, y, ha, _, h => by
  simp at h
  exact absurd (h.1 ▸ List.mem_cons_self) ha
 | c :: a, d :: b, x, y, ha, hb, h => by
  simp only [List.cons_append, List.cons.injEq] at h
  obtain ⟨h1, h2⟩ := split_125 (fun e => ha (List.mem_cons_of_mem _ e)) (fun e => hb (List.mem_cons_of_mem _ e)) h.2
  exact ⟨by rw [h.1, h1], h2⟩
theorem u8_92 {n : Nat} (h1 : n ≤ 126) (h : n.toUInt8 = 92) : n = 92 := u8_eq (by omega) (by omega) h
theorem shown_cut {a b : Int} (ha : rightB a = true) (hb : rightB b = true) {x y : List UInt8} (h : shown a ++ x = shown b ++ y) : a = b ∧ x = y := by
 rcases shown_kind ha with ⟨m, m1, m2, e1⟩ | ⟨m2, e1⟩ | ⟨m2, e1⟩ | ⟨m, m0, m1, m3, m2, e1⟩ | ⟨m, m2, e1⟩ <;>
 rcases shown_kind hb with ⟨n, n1, n2, e2⟩ | ⟨n2, e2⟩ | ⟨n2, e2⟩ | ⟨n, n0, n1, n3, n2, e2⟩ | ⟨n, n2, e2⟩ <;>
 rw [e1, e2] at h <;> simp only [List.cons_append, List.nil_append, List.cons.injEq, List.append_assoc] at h
 ·have h1 := dig_inj (m / 16) (by omega) (n / 16) (by omega) h.2.2.1
  have h2 := dig_inj (m % 16) (by omega) (n % 16) (by omega) h.2.2.2.1
  exact ⟨by omega, h.2.2.2.2⟩
 ·exact absurd h.2.1 (by decide)
 ·exact absurd h.2.1 (by decide)
 ·exact absurd (u8_92 n1 h.1.symm) n3
 ·exact absurd h.2.1 (by decide)
 ·exact absurd h.2.1 (by decide)
 ·exact ⟨by omega, h.2.2⟩
 ·exact absurd h.2.1 (by decide)
 ·exact absurd (u8_92 n1 h.1.symm) n3
 ·exact absurd h.2.1 (by decide)
 ·exact absurd h.2.1 (by decide)
 ·exact absurd h.2.1 (by decide)
 ·exact ⟨by omega, h.2.2⟩
 ·exact absurd (u8_92 n1 h.1.symm) n3
 ·exact absurd h.2.1 (by decide)
 ·exact absurd (u8_92 m1 h.1) m3
 ·exact absurd (u8_92 m1 h.1) m3
 ·exact absurd (u8_92 m1 h.1) m3
 ·have := u8_eq (by omega) (by omega) h.1
  exact ⟨by omega, h.2⟩
 ·exact absurd (u8_92 m1 h.1) m3
 ·exact absurd h.2.1 (by decide)
 ·exact absurd h.2.1 (by decide)
 ·exact absurd h.2.1 (by decide)
 ·exact absurd (u8_92 n1 h.1.symm) n3
 ·obtain ⟨h1, h2⟩ := split_125 (hexL_no m) (hexL_no n) h.2.2.2
  have := hexL_inj m n h1
  exact ⟨by omega, h2⟩
theorem shown_ne (c : Int) : shown c ≠ [] := by
 unfold shown
 repeat' split
 all_goals simp
theorem textL_inj : ∀ {a b : List Int}, (∀ c ∈ a, rightB c = true) → (∀ c ∈ b, rightB c = true) → textL a = textL b → a = b
 | [], [], _, _, _ => rfl
 | [], c :: b, _, _, h => by
  have h' : [] = shown c ++ textL b := by simpa [textL] using h
  exact absurd (List.append_eq_nil_iff.1 h'.symm).1 (shown_ne c)
 | c :: a, [], _, _, h => by
  have h' : shown c ++ textL a = [] := by simpa [textL] using h
  exact absurd (List.append_eq_nil_iff.1 h').1 (shown_ne c)
 | c :: a, d :: b, ha, hb, h => by
  have h' : shown c ++ textL a = shown d ++ textL b := by simpa [textL] using h
  obtain ⟨h1, h2⟩ := shown_cut (ha c (by simp)) (hb d (by simp)) h'
  rw [h1, textL_inj (fun x hx => ha x (by simp [hx])) (fun x hx => hb x (by simp [hx])) h2]
end Go.Proofs.YthaibekbefndlaaGreatDoor.C
