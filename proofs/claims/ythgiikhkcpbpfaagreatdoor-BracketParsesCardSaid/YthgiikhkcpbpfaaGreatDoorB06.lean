/-
  Joined: MLxB, MLxX, MLxY, MLxK, MLxL, LcC, LcO, LcK, LjU, LcL, LcD, LcQ, MUtfF, LeG, LgF, LjB. Each with what its own head says.
-/
import Derived.Lib.SmallJoins
import Derived.Laws.BitsLemmas
import Derived.Lib.Slices
import Derived.Laws.Strings3
import Derived.Laws.RangeString
import Derived.Laws.RangeAny
import Derived.Deep.WholeRow
import Derived.Lib.AppendStr
import Derived.Lib.QuoteHex
import Derived.Lib.BufferRead
import Derived.Test.YthgiikhkcpbpfaaGreatDoorRows
import Derived.OpenShut
import Derived.ShutString
import Derived.ChangeOld
import Derived.Carry
import Derived.Deep.DeepHandedRow
import Derived.Lib.LaidTab
import Derived.Stop.LaidErr
import Derived.LaidLaws
import Derived.Lay
import Derived.Laws.Concat
import Derived.Shelf.Bytes.SlSmallAll
import Derived.Lib.BufferKept
import Derived.Test.YthgiikhkcpbpfaaGreatDoorB03


namespace Go.Proofs.YthgiikhkcpbpfaaGreatDoor.C
open Go.RowKit
def greatL (n : Nat) : List UInt8 := List.replicate (4 - (hexL n).length) 48 ++ (hexL n).map Lib.upperB
end Go.Proofs.YthgiikhkcpbpfaaGreatDoor.C


namespace Go.Proofs.YthgiikhkcpbpfaaGreatDoor.C
open Go.RowKit
theorem run_store_func {P : Program} (w : World) (a : Addr) (fn : Fn) (x y : Array Value) (hc : (w.cell? a).isSome = true) (hf : w.frozen? a = false) : (store a (.func fn x y)).run P w = .ok () (w.setCell a (.func fn x y)) := by
 obtain ⟨u, hu⟩ := Option.isSome_iff_exists.1 hc
 rw [run_store P w a _ _ rfl, hu]
 simp [hf]
end Go.Proofs.YthgiikhkcpbpfaaGreatDoor.C


namespace Go.Proofs.YthgiikhkcpbpfaaGreatDoor.C
open Go.RowKit
def ErrAt (w : World) (E A : Nat) : Prop := w.heap[E]? = some (.cells #[.int .u16 0] 36 (0, 0)) ∧ w.heap[A]? = some (.cells #[.int .i64 0] 3 (0, 0)) ∧ E ≠ A
end Go.Proofs.YthgiikhkcpbpfaaGreatDoor.C


namespace Go.Proofs.YthgiikhkcpbpfaaGreatDoor.C
open Go.RowKit
def prt (x : Tok) : List UInt8 :=
 if x.k = 3 then [60, 85] ++ greatL x.n ++ [62, 32] else if x.k = 5 then [60] ++ x.t ++ [62, 32] else if x.k = 4 then [34] ++ x.t ++ [34, 32] else if x.k = 6 then [10] else x.t ++ [32]
def prtL (ts : List Tok) : List UInt8 := ts.flatMap prt
theorem greatL_len {n : Nat} (hn : n < 1048576 * 1048576) : (greatL n).length ≤ 14 := by
 have := hexL_len 9 n (by omega)
 unfold greatL
 simp
 omega
end Go.Proofs.YthgiikhkcpbpfaaGreatDoor.C


namespace Go.Proofs.YthgiikhkcpbpfaaGreatDoor.C
open Go.RowKit
theorem prt_len (x : Tok) (ht : x.t.length ≤ 5000) (hn : x.n < 1048576 * 1048576) : (prt x).length ≤ 5020 := by
 have := greatL_len hn
 unfold prt
 repeat' split
 all_goals simp
 all_goals omega
theorem prtL_len : ∀ (ts : List Tok), (∀ x ∈ ts, x.t.length ≤ 5000 ∧ x.n < 1048576 * 1048576) → (prtL ts).length ≤ 5020 * ts.length
 | [], _ => by simp [prtL]
 | x :: r, h => by
  have h1 := prt_len x (h x (by simp)).1 (h x (by simp)).2
  have h2 := prtL_len r (fun y hy => h y (by simp [hy]))
  have : prtL (x :: r) = prt x ++ prtL r := rfl
  rw [this, List.length_append, List.length_cons]
  omega
end Go.Proofs.YthgiikhkcpbpfaaGreatDoor.C


namespace Go.Proofs.YthgiikhkcpbpfaaGreatDoor.C
open Go.RowKit
theorem str_inj {a b : List UInt8} (h : str a = str b) : a = b := by
 have := congrArg (fun z : ByteArray => z.data.toList) h
 exact this
section
variable (w : World) (R : Nat) (T : TV) (k : Nat) (v1 v2 v3 v4 v5 : Value) (x : Tok) (r : List Tok)
end
end Go.Proofs.YthgiikhkcpbpfaaGreatDoor.C


namespace Go.Proofs.YthgiikhkcpbpfaaGreatDoor.C
open Go.RowKit
section
variable {P : Program} {ops : Array Oper} {Q : Exit → Act → World → Prop} {md : Region.Mode} {S : World → Prop}
def wpAnyE (P : Program) (md : Region.Mode) (ops : Array Oper) (Q : Exit → Act → World → Prop) (S : World → Prop) (L : Nat) : Nat → Array Bool → Act → World → Prop
 | 0, listed, a, w => Region.ready md ops listed = [] ∧ Q .normal a w
 | fuel + 1, listed, a, w =>
  (Region.ready md ops listed = [] → Q .normal a w) ∧
  ∀ i ∈ Region.ready md ops listed, wpOp P ops Q i (fun a' w' => (i ≠ L → S w') ∧ wpAnyE P md ops Q S L fuel (listed.setIfInBounds i true) a' w') a w
theorem wpAny_of_E {L : Nat} : ∀ (fuel : Nat) (listed : Array Bool) (a : Act) (w : World), wpAnyE P md ops Q S L fuel listed a w → wpAny P md ops Q fuel listed a w
 | 0, _, _, _, h => h
 | fuel + 1, _, _, _, h => ⟨h.1, fun i hi => wpOp_mono (fun a' w' h' => wpAny_of_E fuel _ a' w' h'.2) (h.2 i hi)⟩
def waitsFor (md : Region.Mode) (ops : Array Oper) (L i : Nat) : Bool := match ops[L]? with
 | some o => o.after.any fun e => Region.binds md e && (e.on == i)
 | none => false
theorem wpAnyE_first {L i : Nat} {oi : Oper} {v : Value} (hi : ops[i]? = some oi) (hsel : ∀ (j : Nat) (o : Oper) cs b, ops[j]? = some o → o.op ≠ .select cs b) (hL : waitsFor md ops L i = true)
  (hQ : ∀ c a w, Q (.panic c) (a.put oi.dst v) w → Q (.panic c) a w) :
  ∀ (fuel : Nat) (listed : Array Bool) (a : Act) (w : World),
   (∀ j oj, ops[j]? = some oj → j ≠ i → listed.getD j true = false → (∀ e ∈ oj.after, Region.binds md e = true → e.on ≠ i) → oi.apart ops oj = true) →
   i ∈ Region.ready md ops listed → YieldsIf P ops S oi v a → S w →
   wpAnyE P md ops Q S L fuel (listed.setIfInBounds i true) (a.put oi.dst v) w → wpAnyE P md ops Q S L (fuel + 1) listed a w := by
 intro fuel
 induction fuel with
 | zero =>
  intro listed a w _ hr hy hS H
  refine ⟨fun h => (by rw [h] at hr; cases hr), fun j hj => ?_⟩
  by_cases hji : j = i
  ·subst hji; exact hy.wpOp hi hS ⟨fun _ => hS, H⟩
  ·have := ready_mono hj hji
   rw [H.1] at this
   cases this
 | succ fuel ih =>
  intro listed a w hfree hr hy hS H
  refine ⟨fun h => (by rw [h] at hr; cases hr), fun j hj => ?_⟩
  by_cases hji : j = i
  ·subst hji; exact hy.wpOp hi hS ⟨fun _ => hS, H⟩
  ·have h1 := H.2 j (ready_mono hj hji)
   obtain ⟨hjun, oj, hoj, hall⟩ := mem_ready.1 hj
   have hnot : ∀ e ∈ oj.after, Region.binds md e = true → e.on ≠ i := fun e he hb heq => by
    have h1 := hall e he hb
    have h0 := (mem_ready.1 hr).1
    rw [heq] at h1
    rcases Nat.lt_or_ge i listed.size with h' | h'
    ·simp [h'] at h0 h1; rw [h0] at h1; cases h1
    ·simp [Array.getElem?_eq_none h'] at h1
   have hjL : j ≠ L := by
    rintro rfl
    unfold waitsFor at hL
    rw [hoj] at hL
    simp only [Array.any_eq_true] at hL
    obtain ⟨q, hq, he⟩ := hL
    simp only [Bool.and_eq_true, beq_iff_eq] at he
    exact hnot _ (Array.getElem_mem hq) he.1 he.2
   have h2 := wpOp_putIf hoj (hfree j oj hoj hji hjun hnot) (fun cs b => hsel i oi cs b hi) (fun cs b => hsel j oj cs b hoj) hQ hy h1
   have hfree' : ∀ k ok, ops[k]? = some ok → k ≠ i → (listed.setIfInBounds j true).getD k true = false →
     (∀ e ∈ ok.after, Region.binds md e = true → e.on ≠ i) → oi.apart ops ok = true := fun k ok hk hki hun hno => by
    refine hfree k ok hk hki ?_ hno
    by_cases hjk : j = k
    ·subst hjk; exact hjun
    ·rw [getD_set_ne true hjk] at hun; exact hun
   refine wpOp_mono (fun a' w' h3 => ⟨fun _ => h3.2.1 hjL, ih (listed.setIfInBounds j true) a' w' hfree' (ready_mono hr (Ne.symm hji)) h3.1 (h3.2.1 hjL) ?_⟩) h2
   rw [Array.setIfInBounds_comm _ _ hji]
   exact h3.2.2
theorem wpAnyE_take {L i : Nat} {oi : Oper} {v : Value} {fuel : Nat} {listed : Array Bool} {a : Act} {w : World} (hi : ops[i]? = some oi)
  (hs : Region.noSelect ops = true) (hf : Region.free md ops listed i = true) (hr : (Region.ready md ops listed).contains i = true) (hL : waitsFor md ops L i = true)
  (hQ : ∀ c a w, Q (.panic c) (a.put oi.dst v) w → Q (.panic c) a w) (hy : YieldsIf P ops S oi v a) (hS : S w)
  (h : wpAnyE P md ops Q S L fuel (listed.setIfInBounds i true) (a.put oi.dst v) w) : wpAnyE P md ops Q S L (fuel + 1) listed a w :=
 wpAnyE_first hi (Region.noSelect_spec hs) hL hQ fuel listed a w (Region.free_spec hi hf) (by simpa using hr) hy hS h
theorem wpAnyE_one {L i : Nat} {o : Oper} {fuel : Nat} {listed : Array Bool} {a : Act} {w : World} (hr : Region.ready md ops listed = [i]) (ho : ops[i]? = some o)
  (h : ∀ K : Act → World → Prop, Hid (∀ a' w', (i ≠ L → S w') → ((i ≠ L → S w') → wpAnyE P md ops Q S L fuel (listed.setIfInBounds i true) a' w') → K a' w') →
   if Region.wanted o (yielded ops a.tmps) = true then Oper.wp P o a w K Q else K (a.put o.dst undef) w) : wpAnyE P md ops Q S L (fuel + 1) listed a w := by
 refine ⟨fun h0 => (by rw [hr] at h0; cases h0), fun j hj => ?_⟩
 rw [hr, List.mem_singleton] at hj
 subst hj
 have h1 := h (fun a' w' => (j ≠ L → S w') ∧ wpAnyE P md ops Q S L fuel (listed.setIfInBounds j true) a' w') (Lib.hid fun a' w' hs hh => ⟨hs, hh hs⟩)
 unfold wpOp
 simp only [ho]
 split
 ·rename_i hw
  rw [if_pos hw] at h1
  exact .inl h1
 ·rename_i hw
  rw [if_neg hw] at h1
  exact h1
theorem wpAnyE_done {L : Nat} {listed : Array Bool} {a : Act} {w : World} (hr : Region.ready md ops listed = []) (h : Q .normal a w) : ∀ fuel, wpAnyE P md ops Q S L fuel listed a w
 | 0 => ⟨hr, h⟩
 | _ + 1 => ⟨fun _ => h, by rw [hr]; simp⟩
theorem wp_region_E {L id : Nat} {a : Act} {w : World} (hm : P.follows .mixedOrders = true)
  (h : wpAnyE P .any ops Q S L ops.size (Array.replicate ops.size false) a w.drew) : (Code.region id ops true).wp P Q a w :=
 wp_region_any hm (wpAny_of_E _ _ _ _ h)
end
end Go.Proofs.YthgiikhkcpbpfaaGreatDoor.C


namespace Go.Proofs.YthgiikhkcpbpfaaGreatDoor.C
open Go.RowKit
section
variable (w : World) (R : Nat) (T : TV) (k : Nat) (v1 v2 v3 v4 v5 : Value) (Rb : Nat) (nm : Value)
end
theorem infoClass : (Tryz.prog.info? 79).map (fun i => (i.zero, i.size, i.bytes)) = some (some (.agg #[.string (str []), .slice none 0 0]), 2, 40) := by kernel_rfl
end Go.Proofs.YthgiikhkcpbpfaaGreatDoor.C


namespace Go.Proofs.YthgiikhkcpbpfaaGreatDoor.C
open Go.RowKit
theorem g1 {α : Type} (xs : List α) (i : Nat) (v : α) : xs.toArray.setIfInBounds i v = (xs.set i v).toArray := List.setIfInBounds_toArray _ _ _
theorem g2 {α : Type} (x : α) (xs : List α) (v : α) : (x :: xs).set 0 v = v :: xs := rfl
theorem g3 {α : Type} (x : α) (xs : List α) (i : Nat) (v : α) : (x :: xs).set (i + 1) v = x :: xs.set i v := rfl
theorem g4 {α : Type} (xs : List α) (i : Nat) (h : i < xs.toArray.size) : xs.toArray[i] = xs[i]'(by simpa using h) := rfl
theorem g5 {α : Type} (x : α) (xs : List α) (i : Nat) (h : i + 1 < (x :: xs).length) : (x :: xs)[i + 1] = xs[i]'(by simpa using h) := rfl
theorem g6 {α : Type} (x : α) (xs : List α) (h : 0 < (x :: xs).length) : (x :: xs)[0] = x := rfl
section
variable {P : Program} {ops : Array Oper} {Q : Exit → Act → World → Prop} {md : Region.Mode} {S : World → Prop}
theorem wpHn (n : Nat) {oi : Oper} {v : Value} {fuel : Nat} {listed : Array Bool} {a : Act} {w : World} (hi : ops[n]? = some oi)
  (h : wpAnyH P md ops Q S fuel (listed.setIfInBounds n true) (a.put oi.dst v) w)
  (hb : (Region.noSelect ops && Region.free md ops listed n && (Region.ready md ops listed).contains n) = true := by kernel_rfl)
  (hQ : ∀ c a w, Q (.panic c) (a.put oi.dst v) w → Q (.panic c) a w := by exact fun _ _ _ h => h) (hw : Region.wanted oi (yielded ops a.tmps) = true := by rfl)
  (hy : ∀ x, S x → (execOp a.eval oi).run P x = .ok (.value v) x := by (intro x hx; (try dsimp only at hx); simp only [g4, g5, g6]; go_split_ands; go_simp; try with_reducible rfl)) (hS : S w := by assumption) : wpAnyH P md ops Q S (fuel + 1) listed a w := by
 simp only [Bool.and_eq_true] at hb
 exact wpAnyH_take hi hb.1.1 hb.1.2 hb.2 hQ (.inl ⟨hw, hy⟩) hS h
theorem wpHt (n : Nat) {oi : Oper} {fuel : Nat} {listed : Array Bool} {a : Act} {w : World} (hi : ops[n]? = some oi) (hw : Region.wanted oi (yielded ops a.tmps) = false)
  (h : wpAnyH P md ops Q S fuel (listed.setIfInBounds n true) (a.put oi.dst undef) w)
  (hb : (Region.noSelect ops && Region.free md ops listed n && (Region.ready md ops listed).contains n) = true := by kernel_rfl)
  (hQ : ∀ c a w, Q (.panic c) (a.put oi.dst undef) w → Q (.panic c) a w := by exact fun _ _ _ h => h) (hS : S w := by assumption) : wpAnyH P md ops Q S (fuel + 1) listed a w := by
 simp only [Bool.and_eq_true] at hb
 exact wpAnyH_take hi hb.1.1 hb.1.2 hb.2 hQ (.inr ⟨hw, rfl⟩) hS h
theorem wpEn (n : Nat) {L : Nat} {oi : Oper} {v : Value} {fuel : Nat} {listed : Array Bool} {a : Act} {w : World} (hi : ops[n]? = some oi)
  (h : wpAnyE P md ops Q S L fuel (listed.setIfInBounds n true) (a.put oi.dst v) w)
  (hb : (Region.noSelect ops && Region.free md ops listed n && (Region.ready md ops listed).contains n && waitsFor md ops L n) = true := by kernel_rfl)
  (hQ : ∀ c a w, Q (.panic c) (a.put oi.dst v) w → Q (.panic c) a w := by exact fun _ _ _ h => h) (hw : Region.wanted oi (yielded ops a.tmps) = true := by rfl)
  (hy : ∀ x, S x → (execOp a.eval oi).run P x = .ok (.value v) x := by (intro x hx; (try dsimp only at hx); simp only [g4, g5, g6]; go_split_ands; go_simp; try with_reducible rfl)) (hS : S w := by assumption) : wpAnyE P md ops Q S L (fuel + 1) listed a w := by
 simp only [Bool.and_eq_true] at hb
 exact wpAnyE_take hi hb.1.1.1 hb.1.1.2 hb.1.2 hb.2 hQ (.inl ⟨hw, hy⟩) hS h
theorem wpH {n : Nat} {r : List Nat} {oi : Oper} {v : Value} {fuel : Nat} {listed : Array Bool} {a : Act} {w : World} (_hn : nextF listed = n :: r) (hi : ops[n]? = some oi)
  (h : wpAnyH P md ops Q S fuel (listed.setIfInBounds n true) (a.put oi.dst v) w)
  (hb : (Region.noSelect ops && Region.free md ops listed n && (Region.ready md ops listed).contains n) = true := by kernel_rfl)
  (hQ : ∀ c a w, Q (.panic c) (a.put oi.dst v) w → Q (.panic c) a w := by exact fun _ _ _ h => h) (hw : Region.wanted oi (yielded ops a.tmps) = true := by rfl)
  (hy : ∀ x, S x → (execOp a.eval oi).run P x = .ok (.value v) x := by (intro x hx; (try dsimp only at hx); simp only [g4, g5, g6]; go_split_ands; go_simp; try with_reducible rfl)) (hS : S w := by assumption) : wpAnyH P md ops Q S (fuel + 1) listed a w :=
 wpHn n hi h hb hQ hw hy hS
theorem wpHs {n : Nat} {r : List Nat} {oi : Oper} {fuel : Nat} {listed : Array Bool} {a : Act} {w : World} (_hn : nextF listed = n :: r) (hi : ops[n]? = some oi) (hw : Region.wanted oi (yielded ops a.tmps) = false)
  (h : wpAnyH P md ops Q S fuel (listed.setIfInBounds n true) (a.put oi.dst undef) w)
  (hb : (Region.noSelect ops && Region.free md ops listed n && (Region.ready md ops listed).contains n) = true := by kernel_rfl)
  (hQ : ∀ c a w, Q (.panic c) (a.put oi.dst undef) w → Q (.panic c) a w := by exact fun _ _ _ h => h) (hS : S w := by assumption) : wpAnyH P md ops Q S (fuel + 1) listed a w :=
 wpHt n hi hw h hb hQ hS
theorem wpE {L n : Nat} {r : List Nat} {oi : Oper} {v : Value} {fuel : Nat} {listed : Array Bool} {a : Act} {w : World} (_hn : nextF listed = n :: r) (hi : ops[n]? = some oi)
  (h : wpAnyE P md ops Q S L fuel (listed.setIfInBounds n true) (a.put oi.dst v) w)
  (hb : (Region.noSelect ops && Region.free md ops listed n && (Region.ready md ops listed).contains n && waitsFor md ops L n) = true := by kernel_rfl)
  (hQ : ∀ c a w, Q (.panic c) (a.put oi.dst v) w → Q (.panic c) a w := by exact fun _ _ _ h => h) (hw : Region.wanted oi (yielded ops a.tmps) = true := by rfl)
  (hy : ∀ x, S x → (execOp a.eval oi).run P x = .ok (.value v) x := by (intro x hx; (try dsimp only at hx); simp only [g4, g5, g6]; go_split_ands; go_simp; try with_reducible rfl)) (hS : S w := by assumption) : wpAnyE P md ops Q S L (fuel + 1) listed a w :=
 wpEn n hi h hb hQ hw hy hS
end
end Go.Proofs.YthgiikhkcpbpfaaGreatDoor.C


namespace Go.Proofs.YthgiikhkcpbpfaaGreatDoor.C
open Go.RowKit
section
variable (w : World) (lo R : Nat) (T : TV) (k : Nat) (v1 v2 v3 v4 v5 : Value) (Rb Ab A M : Nat) (cs : List Cls)
def FnS (A : Nat) : Value := .func (.func 129) #[] #[.pointer (some ⟨A, 0, none⟩)]
end
end Go.Proofs.YthgiikhkcpbpfaaGreatDoor.C


namespace Go.Proofs.YthgiikhkcpbpfaaGreatDoor.C
open Go.RowKit
def SI (sz : Nat) (w : World) (B : Nat) (A : Option Addr) (n : Nat) (xs : List (List Value)) : Prop :=
 xs.length = n ∧ (∀ x ∈ xs, x.length = sz) ∧ (0 < n → ∃ ad, A = some ad ∧ ad.block < B ∧ ∀ j x, xs[j]? = some x → ∀ i u, x[i]? = some u → w.cell? (ad.add (j * sz + i)) = some u)
section
variable {sz : Nat} {w w' : World} {B B' n : Nat} {A : Option Addr} {xs : List (List Value)}
theorem SI.len (h : SI sz w B A n xs) : xs.length = n := h.1
theorem SI.nil (sz : Nat) (w : World) (B : Nat) (A : Option Addr) : SI sz w B A 0 [] := ⟨rfl, by simp, fun h => absurd h (by omega)⟩
theorem SI.keep (h : SI sz w B A n xs) (hk : ∀ p : Addr, p.block < B → w'.cell? p = w.cell? p) : SI sz w' B A n xs :=
 ⟨h.1, h.2.1, fun hn => by
  obtain ⟨ad, e, hb, hc⟩ := h.2.2 hn
  exact ⟨ad, e, hb, fun j x hx i u hu => (hk _ (by rw [block_of_add]; exact hb)).trans (hc j x hx i u hu)⟩⟩
theorem SI.more (h : SI sz w B A n xs) (hB : B ≤ B') : SI sz w B' A n xs :=
 ⟨h.1, h.2.1, fun hn => by
  obtain ⟨ad, e, hb, hc⟩ := h.2.2 hn
  exact ⟨ad, e, by omega, hc⟩⟩
theorem SI.on (h : SI sz w B A n xs) (hb : Below B' w w') (hB : B ≤ B') : SI sz w' B A n xs := h.keep fun p hp => hb.cell (p := p) (by omega)
theorem SI.drewN (h : SI sz w B A n xs) (k : Nat) : SI sz (w.drewN k) B A n xs := h
theorem SI.grown (h : SI sz w B A n xs) {row : Option Nat} (hg : w.grownBy w' row) (hB : B ≤ w.heap.size) (hr : ∀ g, row = some g → B ≤ g) : SI sz w' B A n xs :=
 h.keep fun p hp => World.cell?_of_block (hg.block p.block (by omega) (fun e => by have := hr _ e.symm; omega))
theorem SI.at_ (h : SI sz w B A n xs) {k : Nat} (hk : k < n) : ∃ ad x, A = some ad ∧ ad.block < B ∧ xs[k]? = some x ∧ x.length = sz ∧ ∀ i u, x[i]? = some u → w.cell? (ad.add (k * sz + i)) = some u := by
 obtain ⟨ad, e, hb, hc⟩ := h.2.2 (by omega)
 have hl : k < xs.length := by have := h.1; omega
 exact ⟨ad, xs[k], e, hb, List.getElem?_eq_getElem hl, h.2.1 _ (List.getElem_mem hl), hc k _ (List.getElem?_eq_getElem hl)⟩
theorem add_more' (a : Addr) (j i : Nat) (hi : 0 < i) : (⟨(a.add j).block, (a.add j).off + i, none⟩ : Addr) = a.add (j + i) := by
 unfold Addr.add
 by_cases h : j = 0
 ·subst h
  rw [if_pos rfl, Nat.zero_add, if_neg (by omega)]
 ·rw [if_neg h, if_neg (by omega), Nat.add_assoc]
end
theorem SI.at2 {w : World} {B n : Nat} {A : Option Addr} {xs : List (List Value)} (h : SI 2 w B A n xs) {k : Nat} (hk : k < n) : ∃ ad u v, A = some ad ∧ ad.block < B ∧ xs[k]? = some [u, v] ∧ w.cell? (ad.add (k * 2)) = some u ∧ w.cell? ⟨(ad.add (k * 2)).block, (ad.add (k * 2)).off + 1, none⟩ = some v := by
 obtain ⟨ad, x, e, hb, hx, hl, hc⟩ := h.at_ hk
 match x, hl with
 | [u, v], _ => exact ⟨ad, u, v, e, hb, hx, hc 0 u rfl, by rw [add_more' _ _ _ (by omega)]; exact hc 1 v rfl⟩
theorem SI.at3 {w : World} {B n : Nat} {A : Option Addr} {xs : List (List Value)} (h : SI 3 w B A n xs) {k : Nat} (hk : k < n) : ∃ ad u v z, A = some ad ∧ ad.block < B ∧ xs[k]? = some [u, v, z] ∧ w.cell? (ad.add (k * 3)) = some u ∧ w.cell? ⟨(ad.add (k * 3)).block, (ad.add (k * 3)).off + 1, none⟩ = some v ∧ w.cell? ⟨(ad.add (k * 3)).block, (ad.add (k * 3)).off + 2, none⟩ = some z := by
 obtain ⟨ad, x, e, hb, hx, hl, hc⟩ := h.at_ hk
 match x, hl with
 | [u, v, z], _ => exact ⟨ad, u, v, z, e, hb, hx, hc 0 u rfl, by rw [add_more' _ _ _ (by omega)]; exact hc 1 v rfl, by rw [add_more' _ _ _ (by omega)]; exact hc 2 z rfl⟩
def FoundAt (n : Nat) (q : Nat → Bool) (Inv : Nat → World → Prop) (Fin : Nat → World → Prop) (e : Ending) (w' : World) : Prop :=
 (∃ k, k < n ∧ q k = true ∧ (∀ j, j < k → q j = false) ∧ e = .returned (.int .i64 k) ∧ Fin k w') ∨ ((∀ j, j < n → q j = false) ∧ e = .returned (.int .i64 (-1)) ∧ Inv n w')
def HasIt (n : Nat) (q : Nat → Bool) (Inv : Nat → World → Prop) (Fin : Nat → World → Prop) (e : Ending) (w' : World) : Prop :=
 (∃ k, k < n ∧ q k = true ∧ (∀ j, j < k → q j = false) ∧ e = .returned (.bool true) ∧ Fin k w') ∨ ((∀ j, j < n → q j = false) ∧ e = .returned (.bool false) ∧ Inv n w')
def Asked (b : Bool) (Inv : World → Prop) (Fin : World → Prop) (e : Ending) (w' : World) : Prop := e = .returned (.bool b) ∧ (b = false → Inv w') ∧ (b = true → Fin w')
theorem asked_step {q : Nat → Bool} {k : Nat} (hq : ∀ j, j < k → q j = false) (h : q k = false) : ∀ j, j < k + 1 → q j = false := fun j hj => by
 rcases Nat.lt_or_ge j k with h1 | h1
 ·exact hq j h1
 ·obtain rfl : j = k := by omega
  exact h
set_option maxRecDepth 100000 in
set_option maxHeartbeats 4000000 in
theorem findRange_any (w : World) (B : Nat) (A : Option Addr) (n c : Nat) (xs : List (List Value)) (V0 : Nat) (q : Nat → Bool) (Inv : Nat → World → Prop) (Fin : Nat → World → Prop) (hn : n ≤ maxLen) (h0 : Inv 0 w)
  (hk : ∀ k W, Inv k W → SI 2 W B A n xs)
  (hs : ∀ k u v W, xs[k]? = some [u, v] → Inv k W → Calls Tryz.prog 133 #[.agg #[u, v], .pointer (some ⟨V0, 0, none⟩)] W (Asked (q k) (Inv (k + 1)) (Fin k))) :
  Calls Tryz.prog 43 #[.slice A n c, .func (.func 133) #[] #[.pointer (some ⟨V0, 0, none⟩)]] w (FoundAt n q Inv Fin) := by
 unfold maxLen at hn
 have HK := Lib.hid hk
 have HS := Lib.hid hs
 have H0 := Lib.hid h0
 clear hk hs h0
 go_enter Tryz.func43, Tryz.ntmps43
 go_wp2
 go_loopw [8] (fun iv wr => ∃ k : Nat, k ≤ n ∧ iv = .int .i64 k ∧ Hid (Inv k wr) ∧ Hid (∀ j, j < k → q j = false)) (fun iv _ => n - (intOf iv).toNat)
 case atStart => exact ⟨0, Nat.zero_le _, rfl, H0, Lib.hid (fun j hj => absurd hj (by omega))⟩
 case round =>
  obtain ⟨k, hkn, rfl, HI, HQ⟩ := hrel
  by_cases hlt : k < n
  ·obtain ⟨ad, u, v, rfl, hb, hx, c0, c1⟩ := (HK.out k wr HI.out).at2 hlt
   have hc := HS.out k u v wr hx HI.out
   clear hx
   cases hq : q k with
   | true =>
    rw [hq] at hc
    have HQK := Lib.hid hq
    clear hq
    go_wp2_with (go_at_call 133; refine hc.mono ?_; rintro e w2 ⟨rfl, -, hf⟩; have HF := Lib.hid (hf rfl); clear hf hc)
    go_ret
    exact .inl ⟨k, hlt, HQK.out, HQ.out, rfl, HF.out⟩
   | false =>
    rw [hq] at hc
    have HQK := Lib.hid hq
    clear hq
    go_wp2_with (go_at_call 133; refine hc.mono ?_; rintro e w2 ⟨rfl, hf, -⟩; have HF := Lib.hid (hf rfl); clear hf hc)
    go_roundw
    case rel => exact ⟨k + 1, by omega, by go_num, HF, Lib.hid (asked_step HQ.out HQK.out)⟩
    case measure => simp [intOf]; omega
  ·obtain rfl : k = n := by omega
   go_wp2
   go_ret
   exact .inr ⟨HQ.out, rfl, HI.out⟩
set_option maxRecDepth 100000 in
set_option maxHeartbeats 4000000 in
theorem hasRange_any (w : World) (B : Nat) (A : Option Addr) (n c : Nat) (xs : List (List Value)) (V0 : Nat) (q : Nat → Bool) (Inv : Nat → World → Prop) (Fin : Nat → World → Prop) (hn : n ≤ maxLen) (h0 : Inv 0 w)
  (hk : ∀ k W, Inv k W → SI 2 W B A n xs)
  (hs : ∀ k u v W, xs[k]? = some [u, v] → Inv k W → Calls Tryz.prog 133 #[.agg #[u, v], .pointer (some ⟨V0, 0, none⟩)] W (Asked (q k) (Inv (k + 1)) (Fin k))) :
  Calls Tryz.prog 23 #[.slice A n c, .func (.func 133) #[] #[.pointer (some ⟨V0, 0, none⟩)]] w (HasIt n q Inv Fin) := by
 have hf := findRange_any w B A n c xs V0 q Inv Fin hn h0 hk hs
 clear hk hs h0 hn
 go_enter Tryz.func23, Tryz.ntmps23
 go_wp2_with fail
 refine hf.mono ?_
 intro e w2 h2
 rcases h2 with ⟨k, h1, h2, h3, rfl, h5⟩ | ⟨h1, rfl, h5⟩
 ·have HH : Hid (HasIt n q Inv Fin (.returned (.bool true)) w2) := Lib.hid (.inl ⟨k, h1, h2, h3, rfl, h5⟩)
  clear h2 h3 h5
  go_wp2
  go_ret
  exact HH.out
 ·have HH : Hid (HasIt n q Inv Fin (.returned (.bool false)) w2) := Lib.hid (.inr ⟨h1, rfl, h5⟩)
  clear h1 h5
  go_wp2
  go_ret
  exact HH.out
set_option maxRecDepth 100000 in
set_option maxHeartbeats 4000000 in
theorem findPair_any (w : World) (B : Nat) (A : Option Addr) (n c : Nat) (xs : List (List Value)) (V0 : Nat) (q : Nat → Bool) (Inv : Nat → World → Prop) (Fin : Nat → World → Prop) (hn : n ≤ maxLen) (h0 : Inv 0 w)
  (hk : ∀ k W, Inv k W → SI 2 W B A n xs)
  (hs : ∀ k u v W, xs[k]? = some [u, v] → Inv k W → Calls Tryz.prog 136 #[.agg #[u, v], .pointer (some ⟨V0, 0, none⟩)] W (Asked (q k) (Inv (k + 1)) (Fin k))) :
  Calls Tryz.prog 173 #[.slice A n c, .func (.func 136) #[] #[.pointer (some ⟨V0, 0, none⟩)]] w (FoundAt n q Inv Fin) := by
 unfold maxLen at hn
 have HK := Lib.hid hk
 have HS := Lib.hid hs
 have H0 := Lib.hid h0
 clear hk hs h0
 go_enter Tryz.func173, Tryz.ntmps173
 go_wp2
 go_loopw [8] (fun iv wr => ∃ k : Nat, k ≤ n ∧ iv = .int .i64 k ∧ Hid (Inv k wr) ∧ Hid (∀ j, j < k → q j = false)) (fun iv _ => n - (intOf iv).toNat)
 case atStart => exact ⟨0, Nat.zero_le _, rfl, H0, Lib.hid (fun j hj => absurd hj (by omega))⟩
 case round =>
  obtain ⟨k, hkn, rfl, HI, HQ⟩ := hrel
  by_cases hlt : k < n
  ·obtain ⟨ad, u, v, rfl, hb, hx, c0, c1⟩ := (HK.out k wr HI.out).at2 hlt
   have hc := HS.out k u v wr hx HI.out
   clear hx
   cases hq : q k with
   | true =>
    rw [hq] at hc
    have HQK := Lib.hid hq
    clear hq
    go_wp2_with (go_at_call 136; refine hc.mono ?_; rintro e w2 ⟨rfl, -, hf⟩; have HF := Lib.hid (hf rfl); clear hf hc)
    go_ret
    exact .inl ⟨k, hlt, HQK.out, HQ.out, rfl, HF.out⟩
   | false =>
    rw [hq] at hc
    have HQK := Lib.hid hq
    clear hq
    go_wp2_with (go_at_call 136; refine hc.mono ?_; rintro e w2 ⟨rfl, hf, -⟩; have HF := Lib.hid (hf rfl); clear hf hc)
    go_roundw
    case rel => exact ⟨k + 1, by omega, by go_num, HF, Lib.hid (asked_step HQ.out HQK.out)⟩
    case measure => simp [intOf]; omega
  ·obtain rfl : k = n := by omega
   go_wp2
   go_ret
   exact .inr ⟨HQ.out, rfl, HI.out⟩
set_option maxRecDepth 100000 in
set_option maxHeartbeats 4000000 in
theorem hasPair_any (w : World) (B : Nat) (A : Option Addr) (n c : Nat) (xs : List (List Value)) (V0 : Nat) (q : Nat → Bool) (Inv : Nat → World → Prop) (Fin : Nat → World → Prop) (hn : n ≤ maxLen) (h0 : Inv 0 w)
  (hk : ∀ k W, Inv k W → SI 2 W B A n xs)
  (hs : ∀ k u v W, xs[k]? = some [u, v] → Inv k W → Calls Tryz.prog 136 #[.agg #[u, v], .pointer (some ⟨V0, 0, none⟩)] W (Asked (q k) (Inv (k + 1)) (Fin k))) :
  Calls Tryz.prog 135 #[.slice A n c, .func (.func 136) #[] #[.pointer (some ⟨V0, 0, none⟩)]] w (HasIt n q Inv Fin) := by
 have hf := findPair_any w B A n c xs V0 q Inv Fin hn h0 hk hs
 clear hk hs h0 hn
 go_enter Tryz.func135, Tryz.ntmps135
 go_wp2_with fail
 refine hf.mono ?_
 intro e w2 h2
 rcases h2 with ⟨k, h1, h2, h3, rfl, h5⟩ | ⟨h1, rfl, h5⟩
 ·have HH : Hid (HasIt n q Inv Fin (.returned (.bool true)) w2) := Lib.hid (.inl ⟨k, h1, h2, h3, rfl, h5⟩)
  clear h2 h3 h5
  go_wp2
  go_ret
  exact HH.out
 ·have HH : Hid (HasIt n q Inv Fin (.returned (.bool false)) w2) := Lib.hid (.inr ⟨h1, rfl, h5⟩)
  clear h1 h5
  go_wp2
  go_ret
  exact HH.out
set_option maxRecDepth 100000 in
set_option maxHeartbeats 4000000 in
theorem findClass_any (w : World) (B : Nat) (A : Option Addr) (n c : Nat) (xs : List (List Value)) (V0 : Nat) (q : Nat → Bool) (Inv : Nat → World → Prop) (Fin : Nat → World → Prop) (hn : n ≤ maxLen) (h0 : Inv 0 w)
  (hk : ∀ k W, Inv k W → SI 2 W B A n xs)
  (hs : ∀ k u v W, xs[k]? = some [u, v] → Inv k W → Calls Tryz.prog 131 #[.agg #[u, v], .pointer (some ⟨V0, 0, none⟩)] W (Asked (q k) (Inv (k + 1)) (Fin k))) :
  Calls Tryz.prog 165 #[.slice A n c, .func (.func 131) #[] #[.pointer (some ⟨V0, 0, none⟩)]] w (FoundAt n q Inv Fin) := by
 unfold maxLen at hn
 have HK := Lib.hid hk
 have HS := Lib.hid hs
 have H0 := Lib.hid h0
 clear hk hs h0
 go_enter Tryz.func165, Tryz.ntmps165
 go_wp2
 go_loopw [8] (fun iv wr => ∃ k : Nat, k ≤ n ∧ iv = .int .i64 k ∧ Hid (Inv k wr) ∧ Hid (∀ j, j < k → q j = false)) (fun iv _ => n - (intOf iv).toNat)
 case atStart => exact ⟨0, Nat.zero_le _, rfl, H0, Lib.hid (fun j hj => absurd hj (by omega))⟩
 case round =>
  obtain ⟨k, hkn, rfl, HI, HQ⟩ := hrel
  by_cases hlt : k < n
  ·obtain ⟨ad, u, v, rfl, hb, hx, c0, c1⟩ := (HK.out k wr HI.out).at2 hlt
   have hc := HS.out k u v wr hx HI.out
   clear hx
   cases hq : q k with
   | true =>
    rw [hq] at hc
    have HQK := Lib.hid hq
    clear hq
    go_wp2_with (go_at_call 131; refine hc.mono ?_; rintro e w2 ⟨rfl, -, hf⟩; have HF := Lib.hid (hf rfl); clear hf hc)
    go_ret
    exact .inl ⟨k, hlt, HQK.out, HQ.out, rfl, HF.out⟩
   | false =>
    rw [hq] at hc
    have HQK := Lib.hid hq
    clear hq
    go_wp2_with (go_at_call 131; refine hc.mono ?_; rintro e w2 ⟨rfl, hf, -⟩; have HF := Lib.hid (hf rfl); clear hf hc)
    go_roundw
    case rel => exact ⟨k + 1, by omega, by go_num, HF, Lib.hid (asked_step HQ.out HQK.out)⟩
    case measure => simp [intOf]; omega
  ·obtain rfl : k = n := by omega
   go_wp2
   go_ret
   exact .inr ⟨HQ.out, rfl, HI.out⟩
set_option maxRecDepth 100000 in
set_option maxHeartbeats 4000000 in
theorem hasClass_any (w : World) (B : Nat) (A : Option Addr) (n c : Nat) (xs : List (List Value)) (V0 : Nat) (q : Nat → Bool) (Inv : Nat → World → Prop) (Fin : Nat → World → Prop) (hn : n ≤ maxLen) (h0 : Inv 0 w)
  (hk : ∀ k W, Inv k W → SI 2 W B A n xs)
  (hs : ∀ k u v W, xs[k]? = some [u, v] → Inv k W → Calls Tryz.prog 131 #[.agg #[u, v], .pointer (some ⟨V0, 0, none⟩)] W (Asked (q k) (Inv (k + 1)) (Fin k))) :
  Calls Tryz.prog 130 #[.slice A n c, .func (.func 131) #[] #[.pointer (some ⟨V0, 0, none⟩)]] w (HasIt n q Inv Fin) := by
 have hf := findClass_any w B A n c xs V0 q Inv Fin hn h0 hk hs
 clear hk hs h0 hn
 go_enter Tryz.func130, Tryz.ntmps130
 go_wp2_with fail
 refine hf.mono ?_
 intro e w2 h2
 rcases h2 with ⟨k, h1, h2, h3, rfl, h5⟩ | ⟨h1, rfl, h5⟩
 ·have HH : Hid (HasIt n q Inv Fin (.returned (.bool true)) w2) := Lib.hid (.inl ⟨k, h1, h2, h3, rfl, h5⟩)
  clear h2 h3 h5
  go_wp2
  go_ret
  exact HH.out
 ·have HH : Hid (HasIt n q Inv Fin (.returned (.bool false)) w2) := Lib.hid (.inr ⟨h1, rfl, h5⟩)
  clear h1 h5
  go_wp2
  go_ret
  exact HH.out
end Go.Proofs.YthgiikhkcpbpfaaGreatDoor.C


namespace Go.Proofs.YthgiikhkcpbpfaaGreatDoor.C
open Go.RowKit
def bodyT (x : Tok) : List UInt8 :=
 if x.k = 3 then 60 :: ((85 :: greatL x.n) ++ [62]) else if x.k = 5 then 60 :: (x.t ++ [62]) else if x.k = 4 then 34 :: (x.t ++ [34]) else x.t
def lineT : List Tok → List UInt8
 | [] => [10]
 | x :: r => bodyT x ++ (match r with
  | [] => [10]
  | _ => 32 :: lineT r)
def linesT (ls : List (List Tok)) : List UInt8 := ls.flatMap lineT
def toksT (ls : List (List Tok)) : List Tok := ls.flatMap fun l => l ++ [⟨6, [], 0, 0⟩]
theorem linesT_app (a b : List (List Tok)) : linesT (a ++ b) = linesT a ++ linesT b := by simp [linesT]
theorem toksT_app (a b : List (List Tok)) : toksT (a ++ b) = toksT a ++ toksT b := by simp [toksT]
end Go.Proofs.YthgiikhkcpbpfaaGreatDoor.C


namespace Go.Proofs.YthgiikhkcpbpfaaGreatDoor.C
open Go.RowKit
theorem info8 : (Tryz.prog.info? 5).map (fun i => (i.zero, i.size, i.bytes)) = some (some (.int .u8 0), 1, 1) := by kernel_rfl
set_option maxHeartbeats 1000000 in
theorem appendCell_any (w : World) (B : Nat) (v : Value) (zs : List Int) (c : Int) (hr : rightB c = true) (hB : B ≤ w.heap.size) (hown : w.ownsRow B 5 1 v zs.length (zs.map (Value.int .u8))) (hlen : zs.length + 4 ≤ 140737488355328) :
  Calls Tryz.prog 223 #[v, .int .i32 c] w fun e w' => ∃ v', e = .returned v' ∧ w'.ownsRow B 5 1 v' (zs ++ encC c).length ((zs ++ encC c).map (Value.int .u8)) ∧ Below B w w' := by
 obtain ⟨i0, hi, hz0, hz1, hz2⟩ := info_parts info8
 have hb : -256 ≤ c ∧ c ≤ 1114111 := by unfold rightB at hr; simp at hr; omega
 have HO := Lib.hid hown
 clear hown hr
 by_cases hc : c < 0
 ·have he : encC c = [-1 - c] := by unfold encC; rw [if_pos hc]
  have HE := Lib.hid he
  clear he
  go_enter Tryz.func223, Tryz.ntmps223
  go_wp2_with fail
  refine (byte_yes c w hb.1 hc).mono ?_
  rintro e w' ⟨rfl, rfl⟩
  go_wp2_with (at_builtin; (refine wpList_append_own _ rfl _ _ 44 rfl B 5 i0 (.int .u8 0) 1 1 Tryz.underlying44 hi hz0 hz1 hz2 rfl (by decide) _ _ _ rfl (HO.out.alloc _) _ 1 1 [.int .u8 (-1 - c)] rfl rfl (cell_one_new _ _ _) (by intro u hu; simp at hu; subst hu; rfl) (by unfold maxLen; omega) (by omega) (by simp; omega) ?_); intro v' w3 hown' hgrow _; have HO3 := Lib.hid hown'; have HG3 := Lib.hid hgrow; clear hown' hgrow)
  go_ret
  refine ⟨_, rfl, ?_, (((Below.refl B w).alloc hB _).grown HG3.out (by simp; omega) (fun k hk => (HO.out.lt k hk).1))⟩
  rw [HE.out]
  simpa using HO3.out
 ·have he : encC c = Lib.encodeRuneZ c := by unfold encC; rw [if_neg hc]
  have HE := Lib.hid he
  clear he
  go_enter Tryz.func223, Tryz.ntmps223
  go_wp2_with fail
  refine (byte_no c w (by omega)).mono ?_
  rintro e w' ⟨rfl, rfl⟩
  go_wp2_with fail
  refine (Tryz.utf8_AppendRune_plain B v zs.length (zs.map (Value.int .u8)) c (by omega) (by omega) w HO.out hlen hB).mono ?_
  rintro e w1 ⟨v', rfl, hown1, o, hg⟩
  have HO1 := Lib.hid hown1
  have HG := Lib.hid hg
  clear hown1 hg
  go_wp2
  go_ret
  refine ⟨_, rfl, ?_, (((Below.refl B w).alloc hB _).grown HG.out (by simp; omega) (fun k hk => (HO.out.lt k hk).1))⟩
  rw [HE.out]
  have := HO1.out
  unfold Lib.runeCells at this
  simpa using this
def EncTold (xs : List Int) (w : World) (e : Ending) (w' : World) : Prop :=
 Below w.heap.size w w' ∧ ((xs.all rightB = true ∧ ∃ v, e = .returned (.tuple #[v, .int .u16 0]) ∧ w'.ownsRow w.heap.size 5 1 v (encL xs).length ((encL xs).map (Value.int .u8))) ∨
  (xs.all rightB = false ∧ e = .returned (.tuple #[.slice none 0 0, .int .u16 10])))
theorem take_right {xs : List Int} {k : Nat} {c : Int} (h : (xs.take k).all rightB = true) (hc : xs[k]? = some c) (hr : rightB c = true) : (xs.take (k + 1)).all rightB = true := by
 rw [take_snoc hc, List.all_append, h]
 simp [hr]
theorem not_right {xs : List Int} {k : Nat} {c : Int} (hc : xs[k]? = some c) (hr : rightB c = false) : xs.all rightB = false := by
 rw [List.all_eq_false]
 exact ⟨c, List.mem_of_getElem? hc, by simp [hr]⟩
set_option maxHeartbeats 2000000 in
theorem encode_told (w : World) (B : Nat) (A : Option Addr) (n c : Nat) (xs : List Int) (hx : RI .i32 w B A n xs) (hB : B ≤ w.heap.size) (hn : n ≤ 1073741824) :
  Calls Tryz.prog 204 #[.slice A n c] w (EncTold xs w) := by
 obtain ⟨i0, hi, hz0, hz1, hz2⟩ := info_parts info8
 have HX := Lib.hid hx
 clear hx
 go_enter Tryz.func204, Tryz.ntmps204
 go_wp2_with (at_make; (refine wpList_make_own _ rfl _ _ 44 rfl w.heap.size 5 i0 (.int .u8 0) 1 Tryz.underlying44 hi hz0 hz1 .i64 .i64 _ n rfl rfl (by omega) (by rw [hz2]; omega) (by unfold maxLen; omega) (by omega) ?_); intro w2 hown hgrow; have hb2 : Below w.heap.size w w2 := (Below.refl _ _).grown hgrow (by omega) (fun _ h => by cases h); clear hgrow; have HO := Lib.hid hown; clear hown)
 go_loopw [4, 12] (fun v i wr => ∃ k : Nat, k ≤ n ∧ i = .int .i64 k ∧ Hid ((xs.take k).all rightB = true) ∧ Hid (wr.ownsRow w.heap.size 5 1 v (encL (xs.take k)).length ((encL (xs.take k)).map (Value.int .u8))) ∧ Below w.heap.size w wr) (fun _ i _ => n - (intOf i).toNat)
 case atStart => exact ⟨0, Nat.zero_le _, rfl, rfl, HO.out, hb2⟩
 case round =>
  obtain ⟨k, hk, rfl, HA, HW, hbr⟩ := hrel
  have hsz := hbr.size
  by_cases hlt : k < n
  ·obtain ⟨ad, u, rfl, hbl, hu, hcell⟩ := HX.out.at_ hlt
   have hcr : wr.cell? (ad.add k) = some (.int .i32 u) := (hbr.cell (p := ad.add k) (by rw [block_of_add]; omega)).trans hcell
   have HU := Lib.hid hu
   clear hu hcell
   cases hru : rightB u with
   | true =>
    have HRU := Lib.hid hru
    clear hru
    have hle := (encL_len (xs.take k)).2
    have hlk : (xs.take k).length ≤ k := List.length_take_le _ _
    go_wp2_with fail
    refine (right_is u wr true HRU.out).mono ?_
    rintro e w' ⟨rfl, rfl⟩
    go_wp2_with fail
    refine (appendCell_any wr w.heap.size _ (encL (xs.take k)) u HRU.out hsz HW.out (by omega)).mono ?_
    rintro e w1 ⟨v1, rfl, hown1, hb1⟩
    have hown2 : Hid (w1.ownsRow w.heap.size 5 1 v1 (encL (xs.take (k + 1))).length ((encL (xs.take (k + 1))).map (Value.int .u8))) := by
     rw [take_snoc HU.out, encL_snoc]
     exact hown1
    clear hown1
    have hb3 := hbr.trans hb1
    go_wp2
    go_roundw
    case rel => exact ⟨k + 1, by omega, by go_num, take_right HA.out HU.out HRU.out, hown2, hb3⟩
    case measure => simp [intOf]; omega
   | false =>
    have HRU := Lib.hid hru
    clear hru
    go_wp2_with fail
    refine (right_is u wr false HRU.out).mono ?_
    rintro e w' ⟨rfl, rfl⟩
    go_wp2
    go_ret2
    exact ⟨hbr, .inr ⟨not_right HU.out HRU.out, rfl⟩⟩
  ·have hkn : xs.take k = xs := List.take_of_length_le (by rw [HX.out.len]; omega)
   have HK := Lib.hid hkn
   clear hkn
   go_wp2
   go_ret2
   refine ⟨hbr, .inl ⟨?_, _, rfl, ?_⟩⟩
   ·have := HA.out
    rwa [HK.out] at this
   ·have := HW.out
    rwa [HK.out] at this
theorem encode_yes (w : World) (B : Nat) (A : Option Addr) (n c : Nat) (xs : List Int) (hx : RI .i32 w B A n xs) (hB : B ≤ w.heap.size) (hn : n ≤ 1073741824) (ha : xs.all rightB = true) :
  Calls Tryz.prog 204 #[.slice A n c] w fun e w' => ∃ v, e = .returned (.tuple #[v, .int .u16 0]) ∧ w'.ownsRow w.heap.size 5 1 v (encL xs).length ((encL xs).map (Value.int .u8)) ∧ Below w.heap.size w w' := by
 refine (encode_told w B A n c xs hx hB hn).mono ?_
 rintro e w' ⟨hb, ⟨_, v, rfl, ho⟩ | ⟨h, _⟩⟩
 ·exact ⟨v, rfl, ho, hb⟩
 ·rw [ha] at h; cases h
theorem encode_no (w : World) (B : Nat) (A : Option Addr) (n c : Nat) (xs : List Int) (hx : RI .i32 w B A n xs) (hB : B ≤ w.heap.size) (hn : n ≤ 1073741824) (ha : xs.all rightB = false) :
  Calls Tryz.prog 204 #[.slice A n c] w fun e w' => e = .returned (.tuple #[.slice none 0 0, .int .u16 10]) ∧ Below w.heap.size w w' := by
 refine (encode_told w B A n c xs hx hB hn).mono ?_
 rintro e w' ⟨hb, ⟨h, _⟩ | ⟨_, rfl⟩⟩
 ·rw [ha] at h; cases h
 ·exact ⟨rfl, hb⟩
end Go.Proofs.YthgiikhkcpbpfaaGreatDoor.C


namespace Go.Proofs.YthgiikhkcpbpfaaGreatDoor.C
open Go.RowKit
theorem dig_inj : ∀ a, a < 16 → ∀ b, b < 16 → dig a = dig b → a = b := by decide +kernel
theorem dig_no : ∀ a, a < 16 → dig a ≠ 125 := by decide +kernel
theorem hexL_ne : ∀ (n : Nat), hexL n ≠ [] := by
 intro n
 by_cases h : n < 16
 ·rw [hexL_small h]; simp
 ·rw [hexL_big h]; simp
theorem hexL_no (n : Nat) : (125 : UInt8) ∉ hexL n := by
 induction n using Nat.strongRecOn with
 | _ n ih =>
  by_cases h : n < 16
  ·rw [hexL_small h, List.mem_singleton]
   exact fun e => dig_no n h e.symm
  ·rw [hexL_big h, List.mem_append, List.mem_singleton]
   rintro (e | e)
   ·exact ih (n / 16) (by omega) e
   ·exact dig_no (n % 16) (by omega) e.symm
theorem hexL_inj : ∀ (a b : Nat), hexL a = hexL b → a = b := by
 intro a
 induction a using Nat.strongRecOn with
 | _ a ih =>
  intro b h
  by_cases ha : a < 16
  ·by_cases hb : b < 16
   ·rw [hexL_small ha, hexL_small hb] at h
    exact dig_inj a ha b hb (by simpa using h)
   ·rw [hexL_small ha, hexL_big hb] at h
    have := congrArg List.length h
    simp at this
    exact absurd this (hexL_ne _)
  ·by_cases hb : b < 16
   ·rw [hexL_small hb, hexL_big ha] at h
    have := congrArg List.length h
    simp at this
    exact absurd this (hexL_ne _)
   ·rw [hexL_big ha, hexL_big hb] at h
    have h2 := List.append_inj' h rfl
    have h3 := ih (a / 16) (by omega) (b / 16) h2.1
    have h4 := dig_inj (a % 16) (by omega) (b % 16) (by omega) (by simpa using h2.2)
    omega
theorem shown_kind {c : Int} (hc : rightB c = true) : (∃ m : Nat, m < 256 ∧ c = -1 - m ∧ shown c = [92, 120, dig (m / 16), dig (m % 16)]) ∨ (c = 92 ∧ shown c = [92, 92]) ∨ (c = 10 ∧ shown c = [92, 110]) ∨
  (∃ n : Nat, 32 ≤ n ∧ n ≤ 126 ∧ n ≠ 92 ∧ c = n ∧ shown c = [n.toUInt8]) ∨ (∃ n : Nat, c = n ∧ shown c = 92 :: 117 :: 123 :: (hexL n ++ [125])) := by
 have hr : -256 ≤ c ∧ c < 55296 ∨ 57343 < c ∧ c ≤ 1114111 := by
  unfold rightB at hc
  simpa using hc
 by_cases h1 : -256 ≤ c ∧ c < 0
 ·exact .inl ⟨(-1 - c).toNat, by omega, by omega, by unfold shown; rw [if_pos h1]⟩
 ·by_cases h2 : c = 92
  ·exact .inr (.inl ⟨h2, by subst h2; rfl⟩)
  ·by_cases h3 : c = 10
   ·exact .inr (.inr (.inl ⟨h3, by subst h3; rfl⟩))
   ·by_cases h4 : 32 ≤ c ∧ c ≤ 126
    ·refine .inr (.inr (.inr (.inl ⟨c.toNat, by omega, by omega, by omega, by omega, ?_⟩)))
     unfold shown
     rw [if_neg h1, if_neg (fun h => h hr), if_neg h2, if_neg h3, if_pos h4]
    ·refine .inr (.inr (.inr (.inr ⟨c.toNat, by omega, ?_⟩)))
     unfold shown
     rw [if_neg h1, if_neg (fun h => h hr), if_neg h2, if_neg h3, if_neg h4]
     simp
theorem u8_eq {a b : Nat} (ha : a < 256) (hb : b < 256) (h : a.toUInt8 = b.toUInt8) : a = b := by
 have := congrArg UInt8.toNat h
 simp at this
 omega
theorem split_125 : ∀ {a b x y : List UInt8}, (125 : UInt8) ∉ a → (125 : UInt8) ∉ b → a ++ 125 :: x = b ++ 125 :: y → a = b ∧ x = y
 | [], [], x, y, _, _, h => ⟨rfl, by simpa using h⟩
 | [], c :: b, x, y, _, hb, h => by
  simp at h
  exact absurd (h.1 ▸ List.mem_cons_self) hb
 | c :: a, [], x, y, ha, _, h => by
  simp at h
  exact absurd (h.1 ▸ List.mem_cons_self) ha
 | c :: a, d :: b, x, y, ha, hb, h => by
  simp only [List.cons_append, List.cons.injEq] at h
  obtain ⟨h1, h2⟩ := split_125 (fun e => ha (List.mem_cons_of_mem _ e)) (fun e => hb (List.mem_cons_of_mem _ e)) h.2
  exact ⟨by rw [h.1, h1], h2⟩
theorem u8_92 {n : Nat} (h1 : n ≤ 126) (h : n.toUInt8 = 92) : n = 92 := u8_eq (by omega) (by omega) h
theorem shown_cut {a b : Int} (ha : rightB a = true) (hb : rightB b = true) {x y : List UInt8} (h : shown a ++ x = shown b ++ y) : a = b ∧ x = y := by
 rcases shown_kind ha with ⟨m, m1, m2, e1⟩ | ⟨m2, e1⟩ | ⟨m2, e1⟩ | ⟨m, m0, m1, m3, m2, e1⟩ | ⟨m, m2, e1⟩ <;>
 rcases shown_kind hb with ⟨n, n1, n2, e2⟩ | ⟨n2, e2⟩ | ⟨n2, e2⟩ | ⟨n, n0, n1, n3, n2, e2⟩ | ⟨n, n2, e2⟩ <;>
 rw [e1, e2] at h <;> simp only [List.cons_append, List.nil_append, List.cons.injEq, List.append_assoc] at h
 ·have h1 := dig_inj (m / 16) (by omega) (n / 16) (by omega) h.2.2.1
  have h2 := dig_inj (m % 16) (by omega) (n % 16) (by omega) h.2.2.2.1
  exact ⟨by omega, h.2.2.2.2⟩
 ·exact absurd h.2.1 (by decide)
 ·exact absurd h.2.1 (by decide)
 ·exact absurd (u8_92 n1 h.1.symm) n3
 ·exact absurd h.2.1 (by decide)
 ·exact absurd h.2.1 (by decide)
 ·exact ⟨by omega, h.2.2⟩
 ·exact absurd h.2.1 (by decide)
 ·exact absurd (u8_92 n1 h.1.symm) n3
 ·exact absurd h.2.1 (by decide)
 ·exact absurd h.2.1 (by decide)
 ·exact absurd h.2.1 (by decide)
 ·exact ⟨by omega, h.2.2⟩
 ·exact absurd (u8_92 n1 h.1.symm) n3
 ·exact absurd h.2.1 (by decide)
 ·exact absurd (u8_92 m1 h.1) m3
 ·exact absurd (u8_92 m1 h.1) m3
 ·exact absurd (u8_92 m1 h.1) m3
 ·have := u8_eq (by omega) (by omega) h.1
  exact ⟨by omega, h.2⟩
 ·exact absurd (u8_92 m1 h.1) m3
 ·exact absurd h.2.1 (by decide)
 ·exact absurd h.2.1 (by decide)
 ·exact absurd h.2.1 (by decide)
 ·exact absurd (u8_92 n1 h.1.symm) n3
 ·obtain ⟨h1, h2⟩ := split_125 (hexL_no m) (hexL_no n) h.2.2.2
  have := hexL_inj m n h1
  exact ⟨by omega, h2⟩
theorem shown_ne (c : Int) : shown c ≠ [] := by
 unfold shown
 repeat' split
 all_goals simp
theorem textL_inj : ∀ {a b : List Int}, (∀ c ∈ a, rightB c = true) → (∀ c ∈ b, rightB c = true) → textL a = textL b → a = b
 | [], [], _, _, _ => rfl
 | [], c :: b, _, _, h => by
  have h' : [] = shown c ++ textL b := by simpa [textL] using h
  exact absurd (List.append_eq_nil_iff.1 h'.symm).1 (shown_ne c)
 | c :: a, [], _, _, h => by
  have h' : shown c ++ textL a = [] := by simpa [textL] using h
  exact absurd (List.append_eq_nil_iff.1 h').1 (shown_ne c)
 | c :: a, d :: b, ha, hb, h => by
  have h' : shown c ++ textL a = shown d ++ textL b := by simpa [textL] using h
  obtain ⟨h1, h2⟩ := shown_cut (ha c (by simp)) (hb d (by simp)) h'
  rw [h1, textL_inj (fun x hx => ha x (by simp [hx])) (fun x hx => hb x (by simp [hx])) h2]
end Go.Proofs.YthgiikhkcpbpfaaGreatDoor.C


namespace Go.Proofs.YthgiikhkcpbpfaaGreatDoor.C
theorem placeL_out {o : List Elm} {c : List Int} (h : placeL o c = none) : ∀ x ∈ o, x.cells ≠ c := by
 unfold placeL at h
 rw [List.findIdx?_eq_none_iff] at h
 intro x hx he
 have := h x hx
 simp [he] at this
end Go.Proofs.YthgiikhkcpbpfaaGreatDoor.C


namespace Go.Proofs.YthgiikhkcpbpfaaGreatDoor.C
open Go.RowKit Go.Deep
section
variable {w : World} {p : Addr} {old u : Value}
structure Small (l : Loc) : Prop where
 fc : l.cls.length ≤ 500
 fu : l.up.length ≤ 500
 fl : l.lo.length ≤ 500
 fo : l.ord.length ≤ 500
 n1 : ∀ c ∈ l.cls, c.name.length ≤ 140737488351232 ∧ c.rs.length ≤ 17592186044416
 n2 : ∀ e ∈ l.ord, e.name.length ≤ 140737488351232
end
end Go.Proofs.YthgiikhkcpbpfaaGreatDoor.C
