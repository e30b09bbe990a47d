/-
  Joined: MLxZ, MLxM, LfA, LfB, LfD, LfK, LhA, KoR, LjC, KpE. Each with what its own head says.
-/
import Derived.WideLaws
import Derived.Laws.ResultCell
import Derived.Deep.DeepCutAuto
import Derived.Deep.CutBlock
import Derived.BigGuard
import Derived.BigCall
import Derived.Test.YthgiikhkcpbpfaaGreatDoorB08


namespace Go.Proofs.YthgiikhkcpbpfaaGreatDoor.C
open Go.RowKit
def TI (w : World) (B : Nat) (A : Option Addr) (n : Nat) (ts : List Tok) : Prop :=
 ts.length = n ∧ (0 < n → ∃ ad, A = some ad ∧ ad.block < B ∧ ∀ j x, ts[j]? = some x → ∀ i u, (tkC x)[i]? = some u → w.cell? (ad.add (j * 4 + i)) = some u)
section
variable {w w' : World} {B B' n : Nat} {A : Option Addr} {ts : List Tok}
theorem TI.len (h : TI w B A n ts) : ts.length = n := h.1
theorem TI.nil (w : World) (B : Nat) (A : Option Addr) : TI w B A 0 [] := ⟨rfl, fun h => absurd h (by omega)⟩
theorem TI.keep (h : TI w B A n ts) (hk : ∀ p : Addr, p.block < B → w'.cell? p = w.cell? p) : TI w' B A n ts :=
 ⟨h.1, fun hn => by
  obtain ⟨ad, e, hb, hc⟩ := h.2 hn
  exact ⟨ad, e, hb, fun j x hx i u hu => (hk _ (by rw [block_of_add]; exact hb)).trans (hc j x hx i u hu)⟩⟩
theorem TI.more (h : TI w B A n ts) (hB : B ≤ B') : TI w B' A n ts :=
 ⟨h.1, fun hn => by
  obtain ⟨ad, e, hb, hc⟩ := h.2 hn
  exact ⟨ad, e, by omega, hc⟩⟩
theorem TI.on (h : TI w B A n ts) (hb : Below B' w w') (hB : B ≤ B') : TI w' B A n ts := h.keep fun p hp => hb.cell (p := p) (by omega)
theorem TI.drewN (h : TI w B A n ts) (k : Nat) : TI (w.drewN k) B A n ts := h
theorem TI.at_ (h : TI w B A n ts) {k : Nat} (hk : k < n) : ∃ ad x, A = some ad ∧ ad.block < B ∧ ts[k]? = some x ∧ (∀ i u, (tkC x)[i]? = some u → w.cell? (ad.add (k * 4 + i)) = some u) := by
 obtain ⟨ad, e, hb, hc⟩ := h.2 (by omega)
 have hl : k < ts.length := by have := h.1; omega
 exact ⟨ad, ts[k], e, hb, List.getElem?_eq_getElem hl, hc k _ (List.getElem?_eq_getElem hl)⟩
end
theorem ErrAt.on {w w' : World} {E A R : Nat} (h : ErrAt w E A) (hb : Below R w w') (h1 : E < R) (h2 : A < R) : ErrAt w' E A :=
 ⟨(hb.block E h1).trans h.1, (hb.block A h2).trans h.2.1, h.2.2⟩
end Go.Proofs.YthgiikhkcpbpfaaGreatDoor.C


namespace Go.Proofs.YthgiikhkcpbpfaaGreatDoor.C
open Go.RowKit
theorem TI.cell {w : World} {B n : Nat} {A : Option Addr} {ts : List Tok} (h : TI w B A n ts) {ad : Addr} (hA : A = some ad) {k : Nat} {x : Tok} (hx : ts[k]? = some x) (i : Nat) (u : Value) (hu : (tkC x)[i]? = some u) : w.cell? (ad.add (k * 4 + i)) = some u := by
 have hk : k < n := by rw [← h.len]; exact (List.getElem?_eq_some_iff.1 hx).1
 obtain ⟨ad', x', h1, h2, h3, h4⟩ := h.at_ hk
 rw [hA] at h1
 injection h1 with h1
 subst h1
 rw [hx] at h3
 injection h3 with h3
 subst h3
 exact h4 i u hu
end Go.Proofs.YthgiikhkcpbpfaaGreatDoor.C


namespace Go.Proofs.YthgiikhkcpbpfaaGreatDoor.C
open Go.RowKit
def Kp (B P : Nat) (w w' : World) : Prop := Below B w w' ∧ Lib.OthersKept 5 (some P) w w'
theorem Kp.refl (B P : Nat) (w : World) : Kp B P w w := ⟨Below.refl _ _, Lib.OthersKept.refl _ _ _⟩
theorem Kp.trans {B P : Nat} {w w' w'' : World} (h : Kp B P w w') (k : Kp B P w' w'') : Kp B P w w'' := ⟨h.1.trans k.1, h.2.trans k.2⟩
theorem Kp.of_below {B P : Nat} {w w' : World} (h : Below w.heap.size w w') (hB : B ≤ w.heap.size) : Kp B P w w' := ⟨h.mono hB, (Lib.OthersKept.refl _ _ _).below h⟩
end Go.Proofs.YthgiikhkcpbpfaaGreatDoor.C


namespace Go.Proofs.YthgiikhkcpbpfaaGreatDoor.C
open Go.RowKit
theorem Kp.set {B P : Nat} {w w' : World} (h : Kp B P w w') (hB : B ≤ P) (i : Nat) (v : Value) : Kp B P w (w'.setCell ⟨P, i, none⟩ v) := ⟨h.1.setCell (p := ⟨P, i, none⟩) hB _, h.2.setCell ⟨P, i, none⟩ rfl _⟩
theorem Kp.size {B P : Nat} {w w' : World} (h : Kp B P w w') : w.heap.size ≤ w'.heap.size := h.1.size
def Printable (ts : List Tok) : Prop := ∀ x ∈ ts, x.t.length ≤ 5000 ∧ x.n < 1048576 * 1048576
def PrnL (ts : List Tok) : Prop := (∀ x ∈ ts, x.n < 1048576 * 1048576) ∧ (prtL ts).length + 4000 ≤ 140737488355328
theorem PrnL.of {ts : List Tok} (h : Printable ts) (hn : ts.length ≤ 5000) : PrnL ts := ⟨fun x hx => (h x hx).2, by have := prtL_len ts h; omega⟩
end Go.Proofs.YthgiikhkcpbpfaaGreatDoor.C


namespace Go.Proofs.YthgiikhkcpbpfaaGreatDoor.C
open Go.RowKit
theorem Kp.heap {B P k : Nat} {w w' : World} {c : Array Value} {t : TypeId} (h : Kp B P w w') (hk : w.heap[k]? = some (.cells c t (0, 0))) (hP : k ≠ P) (ht : t ≠ 5) : w'.heap[k]? = some (.cells c t (0, 0)) :=
 h.2 k _ hk (by simpa using hP) (fun c' fz e => ht (by injection e))
theorem Kp.drew {B P : Nat} {w w' : World} (h : Kp B P w w') : Kp B P w w'.drew := ⟨⟨h.1.os, h.1.tape, h.1.output, h.1.size, h.1.block⟩, h.2⟩
end Go.Proofs.YthgiikhkcpbpfaaGreatDoor.C


namespace Go.Proofs.YthgiikhkcpbpfaaGreatDoor.C
open Go.RowKit
section
variable {P : Program} {ops : Array Oper} {Q : Exit → Act → World → Prop} {md : Region.Mode} {S : World → Prop}
def Closed (md : Region.Mode) (ops : Array Oper) (listed : Array Bool) : Prop := ∀ (j : Nat) (o : Oper), ops[j]? = some o → listed.getD j false = true → ∀ e ∈ o.after, Region.binds md e = true → listed.getD e.on false = true
theorem getD_set_self {listed : Array Bool} {j : Nat} (h : j < listed.size) (d : Bool) : (listed.setIfInBounds j true).getD j d = true := by
 simp [Array.getD, h]
theorem getD_set_mono {listed : Array Bool} {j k : Nat} (h : listed.getD k false = true) : (listed.setIfInBounds j true).getD k false = true := by
 by_cases hk : k < listed.size
 ·by_cases hjk : j = k
  ·subst hjk; exact getD_set_self hk _
  ·rw [getD_set_ne false hjk]; exact h
 ·simp [Array.getD, hk] at h
theorem Closed.set {listed : Array Bool} (h : Closed md ops listed) {j : Nat} (hj : j ∈ Region.ready md ops listed) : Closed md ops (listed.setIfInBounds j true) := by
 intro k o ho hl e he hb
 by_cases hjk : j = k
 ·subst hjk
  obtain ⟨_, o', ho', hall⟩ := mem_ready.1 hj
  obtain rfl : o = o' := Option.some.inj (ho.symm.trans ho')
  exact getD_set_mono (hall e he hb)
 ·rw [getD_set_ne false hjk] at hl
  exact getD_set_mono (h k o ho hl e he hb)
end
end Go.Proofs.YthgiikhkcpbpfaaGreatDoor.C


namespace Go.Proofs.YthgiikhkcpbpfaaGreatDoor.C
def nmCls (i : Nat) : List UInt8 := if i = 0 then [97, 108, 112, 104, 97] else if i = 1 then [120] else [108, 111, 119, 45, 49]
def cls1 (i : Nat) (z : Int) : Cls := ⟨nmCls i, (97 + z % 8, 97 + z % 8 + z / 64) :: (if z % 3 = 0 then [(233, 233)] else [])⟩
def clsG : Nat → List Int → List Cls
 | _, [] => []
 | i, z :: r => cls1 i z :: clsG (i + 1) r
def upG : Nat → List Int → List (Int × Int)
 | _, [] => []
 | i, z :: r => ((97 + i : Int), 65 + z % 4) :: upG (i + 1) r
def loG : Nat → List Int → List (Int × Int)
 | _, [] => []
 | i, z :: r => ((65 + i : Int), 97 + z / 4 % 4) :: loG (i + 1) r
def nmElm (j : Int) : List UInt8 := if j = 0 then [99, 104] else if j = 1 then [97, 98] else [101, 115, 122, 101, 116, 116]
def elm0 (z : Int) : List UInt8 × List Int := if z % 11 = 0 then (nmElm (z / 11 % 3), [99 - z / 11 % 3, 104]) else ([], [97 + z % 6])
def samO (o : List Elm) (z : Int) : Int := if 200 < z ∧ 0 < o.length then (match o[(z % (o.length : Int)).toNat]? with
 | some e => e.same
 | none => 0) else o.length
def stepO (o : List Elm) (z : Int) : List Elm := if (placeL o (elm0 z).2).isSome then o else o ++ [⟨(elm0 z).1, (elm0 z).2, samO o z⟩]
def ordG (zs : List Int) : List Elm := zs.foldl stepO []
def genL (zs : List Int) : Loc := ⟨clsG 0 (zs.take 3), upG 0 ((zs.drop 3).take 3), loG 0 ((zs.drop 3).take 3), ordG ((zs.drop 6).take 14)⟩
theorem clsG_snoc : ∀ (l : List Int) (i : Nat) (z : Int), clsG i (l ++ [z]) = clsG i l ++ [cls1 (i + l.length) z]
 | [], i, z => rfl
 | a :: r, i, z => by
  show cls1 i a :: clsG (i + 1) (r ++ [z]) = cls1 i a :: clsG (i + 1) r ++ _
  rw [clsG_snoc r (i + 1) z, show i + 1 + r.length = i + (a :: r).length by simp; omega]
  rfl
theorem upG_snoc : ∀ (l : List Int) (i : Nat) (z : Int), upG i (l ++ [z]) = upG i l ++ [((97 + (i + l.length : Nat) : Int), 65 + z % 4)]
 | [], i, z => rfl
 | a :: r, i, z => by
  show ((97 + i : Int), 65 + a % 4) :: upG (i + 1) (r ++ [z]) = ((97 + i : Int), 65 + a % 4) :: upG (i + 1) r ++ _
  rw [upG_snoc r (i + 1) z, show i + 1 + r.length = i + (a :: r).length by simp; omega]
  rfl
theorem loG_snoc : ∀ (l : List Int) (i : Nat) (z : Int), loG i (l ++ [z]) = loG i l ++ [((65 + (i + l.length : Nat) : Int), 97 + z / 4 % 4)]
 | [], i, z => rfl
 | a :: r, i, z => by
  show ((65 + i : Int), 97 + a / 4 % 4) :: loG (i + 1) (r ++ [z]) = ((65 + i : Int), 97 + a / 4 % 4) :: loG (i + 1) r ++ _
  rw [loG_snoc r (i + 1) z, show i + 1 + r.length = i + (a :: r).length by simp; omega]
  rfl
theorem ordG_snoc (l : List Int) (z : Int) : ordG (l ++ [z]) = stepO (ordG l) z := by unfold ordG; rw [List.foldl_append]; rfl
theorem clsG_len : ∀ (l : List Int) (i : Nat), (clsG i l).length = l.length
 | [], _ => rfl
 | _ :: r, i => by simp [clsG, clsG_len r (i + 1)]
theorem upG_len : ∀ (l : List Int) (i : Nat), (upG i l).length = l.length
 | [], _ => rfl
 | _ :: r, i => by simp [upG, upG_len r (i + 1)]
theorem loG_len : ∀ (l : List Int) (i : Nat), (loG i l).length = l.length
 | [], _ => rfl
 | _ :: r, i => by simp [loG, loG_len r (i + 1)]
theorem clsG_names : ∀ (l : List Int) (i : Nat), ∀ c ∈ clsG i l, ∃ j, i ≤ j ∧ j < i + l.length ∧ c.name = nmCls j
 | [], _, c, h => by simp [clsG] at h
 | z :: r, i, c, h => by
  rcases List.mem_cons.1 h with rfl | h
  ·exact ⟨i, Nat.le_refl _, by simp, rfl⟩
  ·obtain ⟨j, h1, h2, h3⟩ := clsG_names r (i + 1) c h
   exact ⟨j, by omega, by simp; omega, h3⟩
theorem nmCls_ne {i j : Nat} (hi : i < 3) (hj : j < 3) (h : i ≠ j) : nmCls i ≠ nmCls j := by
 rcases (by omega : i = 0 ∨ i = 1 ∨ i = 2) with rfl | rfl | rfl <;> rcases (by omega : j = 0 ∨ j = 1 ∨ j = 2) with rfl | rfl | rfl <;> first | exact absurd rfl h | decide
theorem nmCls_ok {i : Nat} (hi : i < 3) : wordlyB (nmCls i) = true ∧ (nmCls i).length ≤ 16 := by
 rcases (by omega : i = 0 ∨ i = 1 ∨ i = 2) with rfl | rfl | rfl <;> decide +kernel
theorem scalB_small {c : Int} (h0 : 0 ≤ c) (h1 : c < 55296) : scalB c = true := by
 unfold scalB rightB
 simp
 omega
def Byt (zs : List Int) : Prop := ∀ z ∈ zs, 0 ≤ z ∧ z ≤ 255
theorem list_snoc_ind {α : Type} {P : List α → Prop} (h0 : P []) (h1 : ∀ l x, P l → P (l ++ [x])) : ∀ l, P l := fun l => by
 have : ∀ n (l : List α), l.length = n → P l := by
  intro n
  induction n with
  | zero => intro l h; rw [List.eq_nil_of_length_eq_zero h]; exact h0
  | succ n ih =>
   intro l h
   rcases List.eq_nil_or_concat l with h2 | ⟨r, x, h2⟩
   ·rw [h2] at h; simp at h
   ·have h2' : l = r ++ [x] := by simpa using h2
    rw [h2'] at h ⊢
    exact h1 r x (ih r (by simpa using h))
 exact this l.length l rfl
theorem byt_front {l : List Int} {x : Int} (h : Byt (l ++ [x])) : Byt l ∧ 0 ≤ x ∧ x ≤ 255 := ⟨fun z hz => h z (by simp [hz]), h x (by simp)⟩
theorem clsG_right (l : List Int) (hl : l.length ≤ 3) (hb : Byt l) : clsB (clsG 0 l) = true := by
 refine list_snoc_ind (P := fun l => l.length ≤ 3 → Byt l → clsB (clsG 0 l) = true) (fun _ _ => rfl) (fun r x ih hl hb => ?_) l hl hb
 rw [List.length_append, List.length_singleton] at hl
 obtain ⟨hb1, hx0, hx1⟩ := byt_front hb
 rw [clsG_snoc, Nat.zero_add]
 refine clsB_snoc (ih (by omega) hb1) (nmCls_ok (by omega)).1 (fun hm => ?_) (by simp [cls1]) ?_
 ·obtain ⟨c, hc, he⟩ := List.mem_map.1 hm
  obtain ⟨j, _, h2, h3⟩ := clsG_names r 0 c hc
  rw [h3] at he
  exact nmCls_ne (by omega) (by omega) (by omega : j ≠ r.length) he
 ·unfold cls1
  rw [List.all_cons, Bool.and_eq_true]
  refine ⟨?_, ?_⟩
  ·unfold rangeB
   simp only [Bool.and_eq_true, decide_eq_true_eq]
   exact ⟨⟨scalB_small (by omega) (by omega), scalB_small (by omega) (by omega)⟩, by omega⟩
  ·split
   ·decide +kernel
   ·rfl
theorem upG_right (l : List Int) (hl : l.length ≤ 3) : pairsB (upG 0 l) = true ∧ ∀ p ∈ upG 0 l, p.1 < 97 + (l.length : Int) := by
 refine list_snoc_ind (P := fun l => l.length ≤ 3 → pairsB (upG 0 l) = true ∧ ∀ p ∈ upG 0 l, p.1 < 97 + (l.length : Int)) (fun _ => ⟨rfl, by simp [upG]⟩) (fun r x ih hl => ?_) l hl
 rw [List.length_append, List.length_singleton] at hl ⊢
 obtain ⟨h1, h2⟩ := ih (by omega)
 rw [upG_snoc]
 refine ⟨pairsB_snoc h1 (scalB_small (by simp only; omega) (by simp only; omega)) (scalB_small (by simp only; omega) (by simp only; omega)) (fun hm => ?_), fun p hp => ?_⟩
 ·obtain ⟨p, hp, he⟩ := List.mem_map.1 hm
  have := h2 p hp
  simp only at he
  omega
 ·rcases List.mem_append.1 hp with hp | hp
  ·have := h2 p hp
   omega
  ·rw [List.mem_singleton] at hp
   subst hp
   simp only
   omega
theorem loG_right (l : List Int) (hl : l.length ≤ 3) : pairsB (loG 0 l) = true ∧ ∀ p ∈ loG 0 l, p.1 < 65 + (l.length : Int) := by
 refine list_snoc_ind (P := fun l => l.length ≤ 3 → pairsB (loG 0 l) = true ∧ ∀ p ∈ loG 0 l, p.1 < 65 + (l.length : Int)) (fun _ => ⟨rfl, by simp [loG]⟩) (fun r x ih hl => ?_) l hl
 rw [List.length_append, List.length_singleton] at hl ⊢
 obtain ⟨h1, h2⟩ := ih (by omega)
 rw [loG_snoc]
 refine ⟨pairsB_snoc h1 (scalB_small (by simp only; omega) (by simp only; omega)) (scalB_small (by simp only; omega) (by simp only; omega)) (fun hm => ?_), fun p hp => ?_⟩
 ·obtain ⟨p, hp, he⟩ := List.mem_map.1 hm
  have := h2 p hp
  simp only at he
  omega
 ·rcases List.mem_append.1 hp with hp | hp
  ·have := h2 p hp
   omega
  ·rw [List.mem_singleton] at hp
   subst hp
   simp only
   omega
theorem nmElm_ok {j : Int} (h0 : 0 ≤ j) (h1 : j < 3) : elemB ⟨nmElm j, [99 - j, 104], 0⟩ = true ∧ (nmElm j).length ≤ 16 ∧ nmElm j ≠ [] ∧ (34 : UInt8) ∉ bytesOf [99 - j, 104] ∧ (10 : UInt8) ∉ bytesOf [99 - j, 104] := by
 rcases (by omega : j = 0 ∨ j = 1 ∨ j = 2) with rfl | rfl | rfl <;> decide +kernel
theorem nmElm_inj {i j : Int} (h0 : 0 ≤ i) (h1 : i < 3) (h2 : 0 ≤ j) (h3 : j < 3) (h : nmElm i = nmElm j) : i = j := by
 rcases (by omega : i = 0 ∨ i = 1 ∨ i = 2) with rfl | rfl | rfl <;> rcases (by omega : j = 0 ∨ j = 1 ∨ j = 2) with rfl | rfl | rfl <;> first | rfl | (exact absurd h (by decide))
def Chosen (e : Elm) : Prop := (e.name = [] ∧ ∃ c, e.cells = [c] ∧ 0 ≤ c ∧ c < 55296) ∨ ∃ j, 0 ≤ j ∧ j < 3 ∧ e.name = nmElm j ∧ e.cells = [99 - j, 104]
theorem chosen_of {z : Int} (_ : 0 ≤ z) (s : Int) : Chosen ⟨(elm0 z).1, (elm0 z).2, s⟩ := by
 unfold elm0
 split
 ·exact .inr ⟨z / 11 % 3, by omega, by omega, rfl, rfl⟩
 ·exact .inl ⟨rfl, _, rfl, by omega, by omega⟩
theorem placeL_out' {o : List Elm} {c : List Int} (h : (placeL o c).isSome = false) : ∀ x ∈ o, x.cells ≠ c := placeL_out (by simpa using h)
theorem stepO_ok {o : List Elm} {z : Int} (hz : 0 ≤ z) (h : ordB o = true) (hl : o.length < 500) (hc : ∀ e ∈ o, Chosen e) : ordB (stepO o z) = true ∧ (stepO o z).length ≤ o.length + 1 ∧ (∀ e ∈ stepO o z, Chosen e) ∧ mO 0 (stepO o z) ≤ mO 0 o + 10 := by
 unfold stepO
 split
 ·exact ⟨h, by omega, hc, by omega⟩
 ·rename_i hp
  have hch := chosen_of hz (samO o z)
  have hout := placeL_out' (by simpa using hp)
  refine ⟨ordB_snoc h hl ?_ hout ?_ ?_, by simp, ?_, ?_⟩
  ·rcases hch with ⟨h0, c, h1, h2, h3⟩ | ⟨j, h0, h1, h2, h3⟩
   ·unfold elemB
    rw [h1, h0]
    simp [scalB_small h2 h3]
   ·have := (nmElm_ok h0 h1).1
    unfold elemB at this ⊢
    rw [h2, h3]
    exact this
  ·unfold samO
   split
   ·rename_i hs
    have hm : (z % (o.length : Int)).toNat < o.length := by
     have h1 := Int.emod_nonneg z (show (o.length : Int) ≠ 0 by omega)
     have h2 := Int.emod_lt_of_pos z (show (0 : Int) < (o.length : Int) by omega)
     omega
    refine .inr ⟨(z % (o.length : Int)).toNat, o[(z % (o.length : Int)).toNat], List.getElem?_eq_getElem hm, ?_, (ordB_elem h (List.getElem?_eq_getElem hm)).2⟩
    simp only [List.getElem?_eq_getElem hm]
   ·exact .inl rfl
  ·intro h0 x hx hn
   rcases hch with ⟨h1, _⟩ | ⟨j, h1, h2, h3, h4⟩
   ·exact h0 h1
   ·rcases hc x hx with ⟨h5, _⟩ | ⟨i, h5, h6, h7, h8⟩
    ·rw [h5] at hn
     exact h0 hn.symm
    ·rw [h7] at hn
     have hij : i = j := nmElm_inj h5 h6 h1 h2 (hn.trans h3)
     have hcc : (elm0 z).2 = [99 - j, 104] := h4
     rw [hij] at h8
     exact hout x hx (h8.trans hcc.symm)
  ·intro e he
   rcases List.mem_append.1 he with he | he
   ·exact hc e he
   ·rw [List.mem_singleton] at he
    subst he
    exact hch
  ·rw [mO_snoc]
   split <;> split <;> omega
theorem ordG_ok (l : List Int) (hl : l.length ≤ 14) (hb : Byt l) : ordB (ordG l) = true ∧ (ordG l).length ≤ l.length ∧ (∀ e ∈ ordG l, Chosen e) ∧ mO 0 (ordG l) ≤ 10 * l.length := by
 refine list_snoc_ind (P := fun l => l.length ≤ 14 → Byt l → ordB (ordG l) = true ∧ (ordG l).length ≤ l.length ∧ (∀ e ∈ ordG l, Chosen e) ∧ mO 0 (ordG l) ≤ 10 * l.length) (fun _ _ => ⟨rfl, by simp [ordG], by simp [ordG], by simp [ordG, mO]⟩) (fun r x ih hl hb => ?_) l hl hb
 rw [List.length_append, List.length_singleton] at hl ⊢
 obtain ⟨hb1, hx0, _⟩ := byt_front hb
 obtain ⟨h1, h2, h3, h4⟩ := ih (by omega) hb1
 rw [ordG_snoc]
 obtain ⟨h5, h6, h7, h8⟩ := stepO_ok hx0 h1 (by omega) h3
 exact ⟨h5, by omega, h7, by omega⟩
theorem clsG_cost : ∀ (l : List Int) (i : Nat), ((clsG i l).map fun c => (clsT c).length + 1).sum ≤ 8 * l.length
 | [], _ => by simp [clsG]
 | z :: r, i => by
  have h1 := clsG_cost r (i + 1)
  have h2 : (clsT (cls1 i z)).length ≤ 7 := by
   unfold cls1 clsT
   split
   ·simp only [sepT, rangeT]
    split <;> simp
   ·simp only [sepT, rangeT]
    split <;> simp
  show ((cls1 i z :: clsG (i + 1) r).map fun c => (clsT c).length + 1).sum ≤ _
  rw [List.map_cons, List.sum_cons, List.length_cons]
  omega
theorem genL_ok (zs : List Int) (hb : Byt zs) : rightL (genL zs) = true ∧ (∀ c ∈ (genL zs).cls, c.name.length ≤ 16) ∧ (∀ e ∈ (genL zs).ord, e.name.length ≤ 16) ∧ (genL zs).ord.length ≤ 14 ∧ mT (genL zs) + 4 ≤ 208 ∧ (∀ e ∈ (genL zs).ord, e.name ≠ [] → (34 : UInt8) ∉ bytesOf e.cells ∧ (10 : UInt8) ∉ bytesOf e.cells) := by
 have l1 : (zs.take 3).length ≤ 3 := by rw [List.length_take]; omega
 have l2 : ((zs.drop 3).take 3).length ≤ 3 := by rw [List.length_take]; omega
 have l3 : ((zs.drop 6).take 14).length ≤ 14 := by rw [List.length_take]; omega
 have b1 : Byt (zs.take 3) := fun z hz => hb z (List.mem_of_mem_take hz)
 have b3 : Byt ((zs.drop 6).take 14) := fun z hz => hb z (List.mem_of_mem_drop (List.mem_of_mem_take hz))
 obtain ⟨o1, o2, o3, o4⟩ := ordG_ok _ l3 b3
 refine ⟨right_of (clsG_right _ l1 b1) (upG_right _ l2).1 (loG_right _ l2).1 o1, fun c hc => ?_, fun e he => ?_, Nat.le_trans o2 l3, ?_, fun e he h0 => ?_⟩
 ·obtain ⟨j, _, h2, h3⟩ := clsG_names _ 0 c hc
  rw [h3]
  exact (nmCls_ok (by omega)).2
 ·rcases o3 e he with ⟨h0, _⟩ | ⟨j, h0, h1, h2, _⟩
  ·rw [h0]; simp
  ·rw [h2]; exact (nmElm_ok h0 h1).2.1
 ·have c1 := clsG_cost (zs.take 3) 0
  have c2 := upG_len ((zs.drop 3).take 3) 0
  have c3 := loG_len ((zs.drop 3).take 3) 0
  unfold mT
  simp only [genL]
  rw [c2, c3]
  omega
 ·rcases o3 e he with ⟨h1, _⟩ | ⟨j, h1, h2, _, h3⟩
  ·exact absurd h1 h0
  ·rw [h3]
   exact (nmElm_ok h1 h2).2.2.2
end Go.Proofs.YthgiikhkcpbpfaaGreatDoor.C


namespace Go.Proofs.YthgiikhkcpbpfaaGreatDoor.C
open Go.RowKit
section
variable {F : Fence} {n : Nat} {P : Program} {ops : Array Oper} {Q : Exit → Act → World → Prop} {md : Region.Mode} {S : World → Prop}
def wpAnyI (F : Fence) (n : Nat) (P : Program) (md : Region.Mode) (ops : Array Oper) (Q : Exit → Act → World → Prop) (S : World → Prop) (L : Nat) : Nat → Array Bool → Act → World → Prop
 | 0, listed, a, w => Region.ready md ops listed = [] ∧ Q .normal a w
 | fuel + 1, listed, a, w =>
  (Region.ready md ops listed = [] → Q .normal a w) ∧
  ∀ i ∈ Region.ready md ops listed, wpOpIn F n P ops Q i (fun a' w' => (i ≠ L → S w') ∧ wpAnyI F n P md ops Q S L fuel (listed.setIfInBounds i true) a' w') a w
theorem wpAnyIn_of_I {L : Nat} : ∀ (fuel : Nat) (listed : Array Bool) (a : Act) (w : World), wpAnyI F n P md ops Q S L fuel listed a w → wpAnyIn F n P md ops Q fuel listed a w
 | 0, _, _, _, h => h
 | fuel + 1, _, _, _, h => ⟨h.1, fun i hi => wpOpIn_mono (fun a' w' h' => wpAnyIn_of_I fuel _ a' w' h'.2) (h.2 i hi)⟩
def noDefer (ops : Array Oper) : Bool := ops.all fun o => match o.op with | .defer _ => false | _ => true
theorem noDefer_spec (h : noDefer ops = true) {i : Nat} {o : Oper} (hi : ops[i]? = some o) : ∀ c, o.op ≠ .defer c := by
 intro c hc
 obtain ⟨hlt, rfl⟩ := Array.getElem?_eq_some_iff.1 hi
 unfold noDefer at h
 have := (Array.all_eq_true.1 h) i hlt
 rw [hc] at this
 cases this
def YI (P : Program) (ops : Array Oper) (S : World → Prop) (o : Oper) (v : Value) (a : Act) : Prop := YieldsIf P ops S o v a ∧ ∀ w, o.about P w a.eval = none
theorem YI.here {i : Nat} {o : Oper} {v : Value} {a : Act} (hd : noDefer ops = true) (hi : ops[i]? = some o) (hy : YI P ops S o v a) {K : Act → World → Prop} {w : World} (hS : S w) (h : K (a.put o.dst v) w) : wpOpIn F n P ops Q i K a w := by
 unfold Go.wpOpIn
 simp only [hi]
 have hab : ∀ f, o.about P w a.eval = some f → F.fn f := fun f hf => by rw [hy.2 w] at hf; cases hf
 rcases hy.1 with ⟨hw, hv⟩ | ⟨hw, rfl⟩
 ·simp only [hw, if_true, Oper.wpIn, Oper.semAt_eq _ _ _ (noDefer_spec hd hi), hv w hS, Oper.uponIn]
  exact ⟨hab, h⟩
 ·simp only [hw, Bool.false_eq_true, if_false]
  exact ⟨hab, h⟩
theorem YI.behind {j : Nat} {oi oj : Oper} {v : Value} (hd : noDefer ops = true) (hj : ops[j]? = some oj) (hap : oi.apart ops oj = true) (hsi : ∀ cs b, oi.op ≠ .select cs b) (hsj : ∀ cs b, oj.op ≠ .select cs b)
  (hQ : ∀ c a w, Q (.panic c) (a.put oi.dst v) w → Q (.panic c) a w) {K : Act → World → Prop} {a : Act} {w : World} (hy : YI P ops S oi v a) (h : wpOpIn F n P ops Q j K (a.put oi.dst v) w) :
  wpOpIn F n P ops Q j (fun a' w' => YI P ops S oi v a' ∧ K (a'.put oi.dst v) w') a w := by
 obtain ⟨h1, h2, h3⟩ := Oper.apart_spec hap
 have keep : ∀ (a : Act), YI P ops S oi v a → ∀ u, YI P ops S oi v (a.put oj.dst u) := fun a hy u =>
  ⟨hy.1.of_same (execOp_put oi hsi a oj.dst u h3) (wanted_put oi a oj.dst u h3), fun w => by rw [about_put oi w a oj.dst u h3]; exact hy.2 w⟩
 have keepD : ∀ d, YI P ops S oi v { a with defers := d :: a.defers } := fun d => ⟨hy.1.of_same rfl rfl, hy.2⟩
 have hnd := noDefer_spec hd hj
 unfold wpOpIn at *
 simp only [hj] at *
 rw [wanted_put oj a oi.dst v h1, about_put oj w a oi.dst v h1] at h
 split
 ·rename_i hw
  simp only [hw, if_true] at h
  unfold Oper.wpIn at *
  rw [about_put oj w a oi.dst v h1] at h
  refine ⟨h.1, ?_⟩
  have h := h.2
  rw [Oper.semAt_eq _ _ _ hnd, execOp_put oj hsj a oi.dst v h1] at h
  rw [Oper.semAt_eq _ _ _ hnd]
  generalize (execOp a.eval oj).run P w = r at *
  cases r with
  | ok x w' =>
   cases x <;> simp only [Oper.uponIn] at h ⊢
   case value u => exact ⟨keep a hy u, by rw [← Act.put_comm a v u h2]; exact h⟩
   case skip => exact ⟨keep a hy _, by rw [← Act.put_comm a v undef h2]; exact h⟩
   case defer d => exact ⟨keep _ (keepD d) _, by rw [← Act.put_comm _ v undef h2, ← Act.put_defers]; exact h⟩
   case enter f args =>
    refine ⟨h.1, CallsIn.mono h.2 fun e w'' he => ?_⟩
    cases e with
    | returned u => exact ⟨keep a hy u, by rw [← Act.put_comm a v u h2]; exact he⟩
    | panicked c => exact hQ _ _ _ he
    | outgrown => exact he
   case row row args => exact ⟨h.1, RowsIn.mono h.2 fun u w'' he => ⟨keep a hy u, by rw [← Act.put_comm a v u h2]; exact he⟩⟩
   case round l f tmps assign body =>
    refine ⟨h.1, RoundIn.mono h.2 fun e w'' he => ?_⟩
    cases e with
    | returned u => exact ⟨keep a hy u, by rw [← Act.put_comm a v u h2]; exact he⟩
    | panicked c => exact hQ _ _ _ he
    | outgrown => exact he
  | halt x w' =>
   cases x <;> simp only [Oper.uponIn] at h ⊢
   case panic u => exact hQ _ _ _ h
 ·rename_i hw
  simp only [hw] at h
  exact ⟨h.1, keep a hy _, by rw [← Act.put_comm a v undef h2]; exact h.2⟩
theorem wpAnyI_first {L i : Nat} {oi : Oper} {v : Value} (hd : noDefer ops = true) (hi : ops[i]? = some oi) (hsel : ∀ (j : Nat) (o : Oper) cs b, ops[j]? = some o → o.op ≠ .select cs b) (hL : waitsFor md ops L i = true)
  (hQ : ∀ c a w, Q (.panic c) (a.put oi.dst v) w → Q (.panic c) a w) :
  ∀ (fuel : Nat) (listed : Array Bool) (a : Act) (w : World),
   (∀ j oj, ops[j]? = some oj → j ≠ i → listed.getD j true = false → (∀ e ∈ oj.after, Region.binds md e = true → e.on ≠ i) → oi.apart ops oj = true) →
   i ∈ Region.ready md ops listed → YI P ops S oi v a → S w →
   wpAnyI F n P md ops Q S L fuel (listed.setIfInBounds i true) (a.put oi.dst v) w → wpAnyI F n P md ops Q S L (fuel + 1) listed a w := by
 intro fuel
 induction fuel with
 | zero =>
  intro listed a w _ hr hy hS H
  refine ⟨fun h => (by rw [h] at hr; cases hr), fun j hj => ?_⟩
  by_cases hji : j = i
  ·subst hji; exact hy.here hd hi hS ⟨fun _ => hS, H⟩
  ·have := ready_mono hj hji
   rw [H.1] at this
   cases this
 | succ fuel ih =>
  intro listed a w hfree hr hy hS H
  refine ⟨fun h => (by rw [h] at hr; cases hr), fun j hj => ?_⟩
  by_cases hji : j = i
  ·subst hji; exact hy.here hd hi hS ⟨fun _ => hS, H⟩
  ·have h1 := H.2 j (ready_mono hj hji)
   obtain ⟨hjun, oj, hoj, hall⟩ := mem_ready.1 hj
   have hnot : ∀ e ∈ oj.after, Region.binds md e = true → e.on ≠ i := fun e he hb heq => by
    have h1 := hall e he hb
    have h0 := (mem_ready.1 hr).1
    rw [heq] at h1
    rcases Nat.lt_or_ge i listed.size with h' | h'
    ·simp [h'] at h0 h1; rw [h0] at h1; cases h1
    ·simp [Array.getElem?_eq_none h'] at h1
   have hjL : j ≠ L := by
    rintro rfl
    unfold waitsFor at hL
    rw [hoj] at hL
    simp only [Array.any_eq_true] at hL
    obtain ⟨q, hq, he⟩ := hL
    simp only [Bool.and_eq_true, beq_iff_eq] at he
    exact hnot _ (Array.getElem_mem hq) he.1 he.2
   have h2 := YI.behind hd hoj (hfree j oj hoj hji hjun hnot) (fun cs b => hsel i oi cs b hi) (fun cs b => hsel j oj cs b hoj) hQ hy h1
   have hfree' : ∀ k ok, ops[k]? = some ok → k ≠ i → (listed.setIfInBounds j true).getD k true = false →
     (∀ e ∈ ok.after, Region.binds md e = true → e.on ≠ i) → oi.apart ops ok = true := fun k ok hk hki hun hno => by
    refine hfree k ok hk hki ?_ hno
    by_cases hjk : j = k
    ·subst hjk; exact hjun
    ·rw [getD_set_ne true hjk] at hun; exact hun
   refine wpOpIn_mono (fun a' w' h3 => ⟨fun _ => h3.2.1 hjL, ih (listed.setIfInBounds j true) a' w' hfree' (ready_mono hr (Ne.symm hji)) h3.1 (h3.2.1 hjL) ?_⟩) h2
   rw [Array.setIfInBounds_comm _ _ hji]
   exact h3.2.2
theorem wpAnyI_one {L i : Nat} {o : Oper} {fuel : Nat} {listed : Array Bool} {a : Act} {w : World} (hr : Region.ready md ops listed = [i]) (ho : ops[i]? = some o)
  (h : ∀ K : Act → World → Prop, Hid (∀ a' w', (i ≠ L → S w') → ((i ≠ L → S w') → wpAnyI F n P md ops Q S L fuel (listed.setIfInBounds i true) a' w') → K a' w') →
   if Region.wanted o (yielded ops a.tmps) = true then o.wpIn F n P a w K Q else (∀ f, o.about P w a.eval = some f → F.fn f) ∧ K (a.put o.dst undef) w) : wpAnyI F n P md ops Q S L (fuel + 1) listed a w := by
 refine ⟨fun h0 => (by rw [hr] at h0; cases h0), fun j hj => ?_⟩
 rw [hr, List.mem_singleton] at hj
 subst hj
 have h1 := h (fun a' w' => (j ≠ L → S w') ∧ wpAnyI F n P md ops Q S L fuel (listed.setIfInBounds j true) a' w') (Lib.hid fun a' w' hs hh => ⟨hs, hh hs⟩)
 unfold wpOpIn
 simp only [ho]
 split
 ·rename_i hw
  rw [if_pos hw] at h1
  exact h1
 ·rename_i hw
  rw [if_neg hw] at h1
  exact h1
theorem wpAnyI_done {L : Nat} {listed : Array Bool} {a : Act} {w : World} (hr : Region.ready md ops listed = []) (h : Q .normal a w) : ∀ fuel, wpAnyI F n P md ops Q S L fuel listed a w
 | 0 => ⟨hr, h⟩
 | _ + 1 => ⟨fun _ => h, by rw [hr]; simp⟩
theorem wpIn_region_I {L id : Nat} {a : Act} {w : World} (hm : P.follows .mixedOrders = true) (h : wpAnyI F n P .any ops Q S L ops.size (Array.replicate ops.size false) a w.drew) : (Code.region id ops true).wpIn F n P Q a w :=
 wpIn_region_any hm (wpAnyIn_of_I _ _ _ _ h)
theorem wpIn' (i : Nat) {L : Nat} {oi : Oper} {v : Value} {fuel : Nat} {listed : Array Bool} {a : Act} {w : World} (hi : ops[i]? = some oi)
  (h : wpAnyI F n P md ops Q S L fuel (listed.setIfInBounds i true) (a.put oi.dst v) w)
  (hb : (Region.noSelect ops && Region.free md ops listed i && (Region.ready md ops listed).contains i && waitsFor md ops L i && noDefer ops) = true := by kernel_rfl)
  (hQ : ∀ c a w, Q (.panic c) (a.put oi.dst v) w → Q (.panic c) a w := by exact fun _ _ _ h => h) (hw : Region.wanted oi (yielded ops a.tmps) = true := by rfl)
  (hy : ∀ x, S x → (execOp a.eval oi).run P x = .ok (.value v) x := by (intro x hx; (try dsimp only at hx); simp only [g4, g5, g6]; go_split_ands; go_simp; try with_reducible rfl)) (hab : ∀ x, oi.about P x a.eval = none := by (intro x; rfl)) (hS : S w := by assumption) : wpAnyI F n P md ops Q S L (fuel + 1) listed a w := by
 simp only [Bool.and_eq_true] at hb
 exact wpAnyI_first hb.2 hi (Region.noSelect_spec hb.1.1.1.1) hb.1.2 hQ fuel listed a w (Region.free_spec hi hb.1.1.1.2) (by simpa using hb.1.1.2) ⟨.inl ⟨hw, hy⟩, hab⟩ hS h
end
end Go.Proofs.YthgiikhkcpbpfaaGreatDoor.C


namespace Go.Proofs.YthgiikhkcpbpfaaGreatDoor.C
open Go.RowKit
def BlkAt (w : World) (lo b : Nat) : Prop := lo ≤ b ∧ ∃ cs t, w.heap[b]? = some (.cells cs t (0, 0))
theorem BlkAt.of {w : World} {lo sz n c : Nat} {e : TypeId} {ad : Addr} {k : Nat} {xs : List Value} (h : w.ownsRow lo e sz (.slice (some ad) n c) k xs) : BlkAt w lo ad.block := by
 obtain ⟨cs, hc⟩ := ownsRow_ty h rfl
 exact ⟨(h.lt ad.block rfl).1, cs, e, hc⟩
theorem BlkAt.on {w w' : World} {lo b B : Nat} (h : BlkAt w lo b) (hb : Below B w w') (hB : w.heap.size ≤ B) : BlkAt w' lo b := by
 obtain ⟨h1, cs, t, h2⟩ := h
 exact ⟨h1, cs, t, (hb.block b (by have := (Array.getElem?_eq_some_iff.1 h2).1; omega)).trans h2⟩
theorem BlkAt.lt {w : World} {lo b : Nat} (h : BlkAt w lo b) : b < w.heap.size := by
 obtain ⟨h1, cs, t, h2⟩ := h
 exact (Array.getElem?_eq_some_iff.1 h2).1
theorem BlkAt.frozen {w : World} {lo b : Nat} (h : BlkAt w lo b) (i : Nat) : w.frozen? ⟨b, i, none⟩ = false := by
 obtain ⟨h1, cs, t, h2⟩ := h
 simp [World.frozen?, h2]
theorem clsG_rs : ∀ (l : List Int) (i : Nat), ∀ c ∈ clsG i l, c.rs ≠ [] ∧ c.rs.length ≤ 2
 | [], _, c, h => by simp [clsG] at h
 | z :: r, i, c, h => by
  rcases List.mem_cons.1 (show c ∈ cls1 i z :: clsG (i + 1) r from h) with rfl | h
  ·constructor
   ·simp [cls1]
   ·unfold cls1
    simp only
    split <;> simp
  ·exact clsG_rs r (i + 1) c h
theorem genL_small (zs : List Int) (hb : Byt zs) : Small (genL zs) ∧ ∀ c ∈ (genL zs).cls, c.rs ≠ [] := by
 obtain ⟨_, g1, g2, g3, _⟩ := genL_ok zs hb
 refine ⟨⟨?_, ?_, ?_, by omega, fun c hc => ⟨by have := g1 c hc; omega, by have := (clsG_rs _ _ c hc).2; omega⟩, fun e he => by have := g2 e he; omega⟩, fun c hc => (clsG_rs _ _ c hc).1⟩
 ·show (clsG 0 (zs.take 3)).length ≤ 500
  rw [clsG_len, List.length_take]
  omega
 ·show (upG 0 ((zs.drop 3).take 3)).length ≤ 500
  rw [upG_len, List.length_take]
  omega
 ·show (loG 0 ((zs.drop 3).take 3)).length ≤ 500
  rw [loG_len, List.length_take]
  omega
end Go.Proofs.YthgiikhkcpbpfaaGreatDoor.C


namespace Go.Proofs.YthgiikhkcpbpfaaGreatDoor.C
open Go.RowKit Go.Shelf
attribute [local go_sem] Oper.semAt_some
set_option maxRecDepth 100000 in
set_option maxHeartbeats 4000000 in
theorem vs_in (n N : Nat) (hn : 1 ≤ n) (l Bs B : Nat) (ad : Addr) (c : Nat) (js : List Nat) (J Jx : List (PlN N) → World → Prop) (W : World) (hN : ∀ x ∈ js, x < N) (hm : js.length ≤ 1000)
  (hY : ∀ pre x W1, J pre W1 → pre.length < js.length → YieldAt Fence.wide (n - 1) Tryz.prog l (encN x) W1 fun e W' =>
   (e = .returned (.bool true) ∧ J (pre ++ [x]) W' ∧ Below B W1 W') ∨ (e = .returned (.bool false) ∧ Jx (pre ++ [x]) W'))
  (hs : W.cell? ⟨Bs, 0, none⟩ = some (.slice (some ad) js.length c)) (hc : ∀ (j x : Nat), js[j]? = some x → W.cell? (ad.add j) = some (.int .i64 (x : Int))) (hb : ad.block < B) (h0 : J [] W) :
  CallsIn Fence.wide n Tryz.prog 144 #[.func (.yield l) #[] #[], .pointer (some ⟨Bs, 0, none⟩)] W fun e W' => (∃ v, e = .returned v) ∧
   ((∃ ys, ys.map Subtype.val = js ∧ J ys W') ∨ (∃ pre, True ∧ Jx pre W')) := by
 have HC := Lib.hid hc
 have HN := Lib.hid hN
 clear hc hN
 refine callsIn_of_wp Tryz.func144 rfl trivial ?_ rfl
 simp only [Tryz.ntmps144, List.size_toArray, List.length_cons, List.length_nil, Nat.reduceAdd, Nat.reduceSub, Array.replicate_succ, Array.replicate_zero, List.push_toArray, List.append_toArray, List.nil_append, List.cons_append]
 gi_wp2
 gi_loopw [7] (fun v wr => ∃ k : Nat, k ≤ js.length ∧ v = .int .i64 (k : Int) ∧ (∃ pre, pre.map Subtype.val = js.take k ∧ J pre wr) ∧ Below B W wr) (fun v _ => js.length - (intOf v).toNat)
 case atStart => exact ⟨0, Nat.zero_le _, rfl, ⟨[], rfl, h0⟩, Below.refl _ _⟩
 case round =>
  obtain ⟨k, hk, rfl, ⟨pre, hpre, hJ⟩, hbw⟩ := hrel
  by_cases hlt : k < js.length
  ·have hlt' : (k : Int) < (js.length : Int) := by omega
   have h0' : (0 : Int) ≤ (k : Int) := by omega
   obtain ⟨x, hx⟩ : ∃ x, js[k]? = some x := ⟨_, List.getElem?_eq_getElem hlt⟩
   have hf : wr.cell? (ad.add k) = some (.int .i64 (x : Int)) := (hbw.cell (p := ad.add k) (by rw [block_of_add]; exact hb)).trans (HC.out k x hx)
   obtain ⟨fn, tmps, assign, body, hy, hR⟩ := hY pre ⟨x, HN.out x (List.mem_of_getElem? hx)⟩ wr hJ (by have := congrArg List.length hpre; rw [List.length_map, List.length_take] at this; omega)
   unfold encN at hy
   gi_wp2
   refine hR.mono ?_
   rintro e W3 (⟨rfl, hJ3, hk3⟩ | ⟨rfl, hJx3⟩)
   ·gi_wp2
    go_roundw
    case rel => exact ⟨k + 1, by omega, by go_num, ⟨_, by rw [List.map_append, hpre, take_one hx]; rfl, hJ3⟩, hbw.trans hk3⟩
    case measure => simp [intOf]; omega
   ·gi_wp2
    refine bodyPost_ret (results_none rfl _ _ _) rfl ?_
    exact ⟨⟨_, rfl⟩, .inr ⟨_, trivial, hJx3⟩⟩
  ·obtain rfl : k = js.length := by omega
   gi_wp2
   go_end0
   exact ⟨⟨_, rfl⟩, .inl ⟨_, by rw [hpre, List.take_length], hJ⟩⟩
theorem vs_stops (n N : Nat) (hn : 1 ≤ n) (Bs B : Nat) (ad : Addr) (c : Nat) (js : List Nat) (w : World) (hN : ∀ x ∈ js, x < N) (hm : js.length ≤ 1000) (hs : w.cell? ⟨Bs, 0, none⟩ = some (.slice (some ad) js.length c)) (hc : ∀ (j x : Nat), js[j]? = some x → w.cell? (ad.add j) = some (.int .i64 (x : Int))) (hb : ad.block < B) :
  SeqStopsK Fence.wide n Tryz.prog 144 #[.pointer (some ⟨Bs, 0, none⟩)] (encN (N := N)) (Below B) (fun ys => ys.map Subtype.val = js) (fun _ => True) js.length w := fun l J Jx W hW _ _ hY h0 =>
 vs_in n N hn l Bs B ad c js J Jx W hN hm hY (belowS_cell hW hs) (fun j x hx => belowS_cell hW (hc j x hx)) hb h0
set_option maxRecDepth 100000 in
theorem values_any (A : Option Addr) (n c : Nat) (w : World) : Calls Tryz.prog 100 #[.slice A n c] w fun e w' => e = .returned (.func (.func 144) #[] #[.pointer (some ⟨w.heap.size, 0, none⟩)]) ∧ w' = (w.alloc (.cells #[.slice A n c] 40)) := by
 have hmf : ∀ (fn : Fn) (first cap : Array Value) (w : World), (Instr.makeFunc fn first cap).run Tryz.prog w = .ok (.func fn first cap) w := fun _ _ _ _ => rfl
 go_enter Tryz.func100, Tryz.ntmps100
 go_wp2
 go_ret
 exact ⟨rfl, rfl⟩
end Go.Proofs.YthgiikhkcpbpfaaGreatDoor.C
