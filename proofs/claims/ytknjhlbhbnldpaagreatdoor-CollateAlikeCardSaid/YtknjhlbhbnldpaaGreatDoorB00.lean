/-
  Joined: MCellP, MCellH, MLxP, MLxB, LcQ. Each with what its own head says.
-/
import Derived.Test.YtknjhlbhbnldpaaGreatDoorChecked
import Derived.WalkKit
import Derived.ProofKit
import Derived.Lib.Hide
import Derived.Deep.QuietTactic
import Derived.BigQuiet
import Derived.RegionTactic
import Derived.Below
import Derived.Laws.OwnMore
import Derived.Deep.AppendLies
import Derived.Deep.Draws
import Derived.Deep.LoopGhost
import Derived.Maps.AppendAt
import Derived.WalkSmall
import Derived.WalkSpells
import Derived.Lib.Walk
import Derived.Lib.OthersKept
import Derived.Lib.RuneCount
import Derived.Lib.Strings
import Derived.Lib.DecodeN
import Derived.Lib.UnsafeStr
import Derived.Lib.Case

/-
 Plain facts on lists of integers for layer 1: the order of two lists, by the first place at which they differ, else by their lengths. No condition.
-/
namespace Go.Proofs.YtknjhlbhbnldpaaGreatDoor.C
def cmpL : List Int → List Int → Int
 | [], [] => 0
 | [], _ :: _ => -1
 | _ :: _, [] => 1
 | a :: x, b :: y => if a < b then -1 else if b < a then 1 else cmpL x y
theorem cmpL_nil_left (y : List Int) (h : 0 < y.length) : cmpL [] y = -1 := by
 cases y with
 | nil => simp at h
 | cons b y => rfl
theorem cmpL_nil_right (x : List Int) (h : 0 < x.length) : cmpL x [] = 1 := by
 cases x with
 | nil => simp at h
 | cons b y => rfl
theorem cmpL_cons (a b : Int) (x y : List Int) : cmpL (a :: x) (b :: y) = if a < b then -1 else if b < a then 1 else cmpL x y := rfl
theorem drop_cons {α : Type} {x : List α} {k : Nat} {a : α} (h : x[k]? = some a) : x.drop k = a :: x.drop (k + 1) := by
 have hk : k < x.length := by
  rcases Nat.lt_or_ge k x.length with h1 | h1
  ·exact h1
  ·rw [List.getElem?_eq_none h1] at h; cases h
 rw [List.getElem?_eq_getElem hk] at h
 rw [List.drop_eq_getElem_cons hk]
 injection h with h
 rw [h]
def CmpSt (x y : List Int) (k : Nat) : Prop := cmpL x y = cmpL (x.drop k) (y.drop k)
theorem cmpSt_zero (x y : List Int) : CmpSt x y 0 := rfl
theorem cmpSt_step {x y : List Int} {k : Nat} {a b : Int} (h : CmpSt x y k) (ha : x[k]? = some a) (hb : y[k]? = some b) (h1 : ¬ a < b) (h2 : ¬ b < a) : CmpSt x y (k + 1) := by
 unfold CmpSt at *
 rw [h, drop_cons ha, drop_cons hb, cmpL_cons, if_neg h1, if_neg h2]
theorem cmpSt_less {x y : List Int} {k : Nat} {a b : Int} (h : CmpSt x y k) (ha : x[k]? = some a) (hb : y[k]? = some b) (h1 : a < b) : cmpL x y = -1 := by
 unfold CmpSt at *
 rw [h, drop_cons ha, drop_cons hb, cmpL_cons, if_pos h1]
theorem cmpSt_more {x y : List Int} {k : Nat} {a b : Int} (h : CmpSt x y k) (ha : x[k]? = some a) (hb : y[k]? = some b) (h1 : b < a) : cmpL x y = 1 := by
 unfold CmpSt at *
 rw [h, drop_cons ha, drop_cons hb, cmpL_cons, if_neg (by omega), if_pos h1]
theorem cmpSt_short {x y : List Int} {k : Nat} (h : CmpSt x y k) (ha : x.length ≤ k) (hb : k < y.length) : cmpL x y = -1 := by
 unfold CmpSt at *
 rw [h, List.drop_of_length_le ha, cmpL_nil_left _ (by simp; omega)]
theorem cmpSt_long {x y : List Int} {k : Nat} (h : CmpSt x y k) (ha : k < x.length) (hb : y.length ≤ k) : cmpL x y = 1 := by
 unfold CmpSt at *
 rw [h, List.drop_of_length_le hb, cmpL_nil_right _ (by simp; omega)]
theorem cmpSt_alike {x y : List Int} {k : Nat} (h : CmpSt x y k) (ha : x.length ≤ k) (hb : y.length ≤ k) : cmpL x y = 0 := by
 unfold CmpSt at *
 rw [h, List.drop_of_length_le ha, List.drop_of_length_le hb]; rfl
theorem cmpL_eq (x : List Int) : ∀ y, cmpL x y = 0 ↔ x = y := by
 induction x with
 | nil => intro y; cases y <;> simp [cmpL]
 | cons a x ih =>
  intro y
  cases y with
  | nil => simp [cmpL]
  | cons b y =>
   simp only [cmpL]
   by_cases h1 : a < b
   ·simp [h1]; omega
   ·by_cases h2 : b < a
    ·simp [h1, h2]; omega
    ·have : a = b := by omega
     subst this
     simp [ih]
end Go.Proofs.YtknjhlbhbnldpaaGreatDoor.C


namespace Go.Proofs.YtknjhlbhbnldpaaGreatDoor.C
def dig (n : Nat) : UInt8 := if n < 10 then (48 + n).toUInt8 else (87 + n).toUInt8
def hexL (n : Nat) : List UInt8 := if n < 16 then [dig n] else hexL (n / 16) ++ [dig (n % 16)]
termination_by n
decreasing_by omega
theorem hexL_small {n : Nat} (h : n < 16) : hexL n = [dig n] := by rw [hexL, if_pos h]
theorem hexL_big {n : Nat} (h : ¬ n < 16) : hexL n = hexL (n / 16) ++ [dig (n % 16)] := by rw [hexL, if_neg h]
def HexSt (u0 uu : Nat) (d : List UInt8) (k : Nat) : Prop := hexL u0 = hexL uu ++ d ∧ k + d.length = 65 ∧ d.length ≤ 16 ∧ uu < 16 ^ (16 - d.length)
theorem hexSt_zero {u : Nat} (h : u < 16 ^ 16) : HexSt u u [] 65 := ⟨by simp, by simp, by simp, by simpa using h⟩
theorem hexSt_left {u0 uu : Nat} {d : List UInt8} {k : Nat} (h : HexSt u0 uu d k) : 49 ≤ k ∧ k ≤ 65 := by
  obtain ⟨_, h2, h3, _⟩ := h
  omega
theorem hexSt_step {u0 uu : Nat} {d : List UInt8} {k : Nat} (h : HexSt u0 uu d (k + 1)) (hu : ¬ uu < 16) : HexSt u0 (uu / 16) (dig (uu % 16) :: d) k := by
  obtain ⟨h1, h2, h3, h4⟩ := h
  have hl : d.length < 16 := by
    rcases Nat.lt_or_ge d.length 16 with h | h
    · exact h
    · have : 16 - d.length = 0 := by omega
      rw [this] at h4
      simp at h4
      omega
  refine ⟨?_, by simp; omega, by simp; omega, ?_⟩
  · rw [h1, hexL_big hu]
    simp
  · have e : 16 - d.length = (16 - (dig (uu % 16) :: d).length) + 1 := by simp; omega
    rw [e, Nat.pow_succ] at h4
    exact Nat.div_lt_of_lt_mul (by rw [Nat.mul_comm]; exact h4)
theorem hexSt_end {u0 uu : Nat} {d : List UInt8} {k : Nat} (h : HexSt u0 uu d k) (hu : uu < 16) : hexL u0 = dig uu :: d := by
  rw [h.1, hexL_small hu]
  rfl
def shown (c : Int) : List UInt8 :=
  if -256 ≤ c ∧ c < 0 then [92, 120, dig ((-1 - c).toNat / 16), dig ((-1 - c).toNat % 16)]
  else if ¬ (-256 ≤ c ∧ c < 55296 ∨ 57343 < c ∧ c ≤ 1114111) then [92, 63]
  else if c = 92 then [92, 92]
  else if c = 10 then [92, 110]
  else if 32 ≤ c ∧ c ≤ 126 then [c.toNat.toUInt8]
  else [92, 117, 123] ++ hexL c.toNat ++ [125]
def textL (l : List Int) : List UInt8 := l.flatMap shown
theorem hexL_len : ∀ (m n : Nat), n < 16 ^ (m + 1) → (hexL n).length ≤ m + 1
  | 0, n, h => by rw [hexL_small (by simpa using h)]; simp
  | m + 1, n, h => by
    by_cases h1 : n < 16
    · rw [hexL_small h1]; simp
    · rw [hexL_big h1]
      have := hexL_len m (n / 16) (by rw [Nat.pow_succ] at h; exact Nat.div_lt_of_lt_mul (by rw [Nat.mul_comm]; exact h))
      simp; omega
theorem shown_le (c : Int) : (shown c).length ≤ 10 := by
  unfold shown
  repeat' split
  all_goals try (simp; done)
  rename_i h1 h2 h3 h4 h5
  have := hexL_len 5 c.toNat (by have : (16 : Nat) ^ (5 + 1) = 16777216 := by decide
                                 omega)
  simp; omega
end Go.Proofs.YtknjhlbhbnldpaaGreatDoor.C


namespace Go.Proofs.YtknjhlbhbnldpaaGreatDoor.C
structure Tok where
 k : Nat
 t : List UInt8
 n : Nat
 at_ : Nat
def isW (b : UInt8) : Bool := decide (97 ≤ b.toNat ∧ b.toNat ≤ 122 ∨ 65 ≤ b.toNat ∧ b.toNat ≤ 90 ∨ 48 ≤ b.toNat ∧ b.toNat ≤ 57 ∨ b.toNat = 45 ∨ b.toNat = 95)
def wordL (l : List UInt8) : List UInt8 := l.takeWhile isW
def nameL : List UInt8 → List UInt8
 | [] => []
 | c :: r => if c = 60 ∧ (r.drop (wordL r).length).head? = some 62 then wordL r else []
def digV (b : UInt8) : Option Nat :=
 if 48 ≤ b.toNat ∧ b.toNat ≤ 57 then some (b.toNat - 48) else if 97 ≤ b.toNat ∧ b.toNat ≤ 102 then some (b.toNat - 87) else if 65 ≤ b.toNat ∧ b.toNat ≤ 70 then some (b.toNat - 55) else none
def hexN : List UInt8 → Nat → Option Nat
 | [], n => some n
 | b :: r, n => match digV b with
  | some d => hexN r (16 * n + d)
  | none => none
def numL : List UInt8 → Option Nat
 | [] => none
 | c :: d => if c = 85 ∧ 4 ≤ d.length ∧ d.length ≤ 6 then hexN d 0 else none
def rightN (n : Nat) : Bool := decide (n < 55296 ∨ 57343 < n ∧ n ≤ 1114111)
def quoL : List UInt8 → Option (List UInt8)
 | [] => none
 | c :: r => if c = 34 ∧ (r.takeWhile (· ≠ 34)).length < r.length ∧ 10 ∉ r.takeWhile (· ≠ 34) then some (r.takeWhile (· ≠ 34)) else none
def signL : List UInt8 → Option (List UInt8)
 | [] => none
 | c :: r => if c = 59 ∨ c = 44 ∨ c = 40 ∨ c = 41 then some [c] else if c = 46 ∧ r.take 2 = [46, 46] then some [46, 46, 46] else none
def tokL (l : List UInt8) : Option (Nat × List UInt8 × Nat × Nat) :=
 match signL l with
 | some s => some (2, s, 0, s.length)
 | none => match numL (nameL l) with
  | some n => if rightN n then some (3, [], n, 2 + (nameL l).length) else none
  | none => if nameL l ≠ [] then some (5, nameL l, 0, 2 + (nameL l).length) else
   match quoL l with
   | some t => some (4, t, 0, 2 + t.length)
   | none => if wordL l ≠ [] then some (1, wordL l, 0, (wordL l).length) else none
theorem numL_cons (c : UInt8) (d : List UInt8) : numL (c :: d) = if c = 85 ∧ 4 ≤ d.length ∧ d.length ≤ 6 then hexN d 0 else none := rfl
end Go.Proofs.YtknjhlbhbnldpaaGreatDoor.C


namespace Go.Proofs.YtknjhlbhbnldpaaGreatDoor.C
open Go.RowKit
def greatL (n : Nat) : List UInt8 := List.replicate (4 - (hexL n).length) 48 ++ (hexL n).map Lib.upperB
end Go.Proofs.YtknjhlbhbnldpaaGreatDoor.C


namespace Go.Proofs.YtknjhlbhbnldpaaGreatDoor.C
open Go.RowKit
def GoodT (x : Tok) : Prop :=
 (x.k = 1 ∧ x.t ≠ [] ∧ (∀ b ∈ x.t, isW b = true) ∧ x.n = 0) ∨
 (x.k = 2 ∧ (x.t = [59] ∨ x.t = [44] ∨ x.t = [40] ∨ x.t = [41] ∨ x.t = [46, 46, 46]) ∧ x.n = 0) ∨
 (x.k = 3 ∧ x.t = [] ∧ rightN x.n = true) ∨
 (x.k = 4 ∧ 34 ∉ x.t ∧ 10 ∉ x.t ∧ x.n = 0) ∨
 (x.k = 5 ∧ x.t ≠ [] ∧ (∀ b ∈ x.t, isW b = true) ∧ numL x.t = none ∧ x.n = 0)
def bodyT (x : Tok) : List UInt8 :=
 if x.k = 3 then 60 :: ((85 :: greatL x.n) ++ [62]) else if x.k = 5 then 60 :: (x.t ++ [62]) else if x.k = 4 then 34 :: (x.t ++ [34]) else x.t
def lineT : List Tok → List UInt8
 | [] => [10]
 | x :: r => bodyT x ++ (match r with
  | [] => [10]
  | _ => 32 :: lineT r)
def linesT (ls : List (List Tok)) : List UInt8 := ls.flatMap lineT
def toksT (ls : List (List Tok)) : List Tok := ls.flatMap fun l => l ++ [⟨6, [], 0, 0⟩]
theorem linesT_app (a b : List (List Tok)) : linesT (a ++ b) = linesT a ++ linesT b := by simp [linesT]
theorem toksT_app (a b : List (List Tok)) : toksT (a ++ b) = toksT a ++ toksT b := by simp [toksT]
def GoodLs (ls : List (List Tok)) : Prop := ∀ l ∈ ls, l ≠ [] ∧ ∀ x ∈ l, GoodT x
end Go.Proofs.YtknjhlbhbnldpaaGreatDoor.C
