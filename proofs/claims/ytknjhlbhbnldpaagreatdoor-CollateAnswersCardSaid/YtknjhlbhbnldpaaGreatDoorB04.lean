/-
  Joined: LcQ. Each with what its own head says.
-/
import Derived.Test.YtknjhlbhbnldpaaGreatDoorB00
import Derived.Test.YtknjhlbhbnldpaaGreatDoorB01


namespace Go.Proofs.YtknjhlbhbnldpaaGreatDoor.C
open Go.RowKit
def GoodT (x : Tok) : Prop :=
 (x.k = 1 ∧ x.t ≠ [] ∧ (∀ b ∈ x.t, isW b = true) ∧ x.n = 0) ∨
 (x.k = 2 ∧ (x.t = [59] ∨ x.t = [44] ∨ x.t = [40] ∨ x.t = [41] ∨ x.t = [46, 46, 46]) ∧ x.n = 0) ∨
 (x.k = 3 ∧ x.t = [] ∧ rightN x.n = true) ∨
 (x.k = 4 ∧ 34 ∉ x.t ∧ 10 ∉ x.t ∧ x.n = 0) ∨
 (x.k = 5 ∧ x.t ≠ [] ∧ (∀ b ∈ x.t, isW b = true) ∧ numL x.t = none ∧ x.n = 0)
def bodyT (x : Tok) : List UInt8 :=
 if x.k = 3 then 60 :: ((85 :: greatL x.n) ++ [62]) else if x.k = 5 then 60 :: (x.t ++ [62]) else if x.k = 4 then 34 :: (x.t ++ [34]) else x.t
def lineT : List Tok → List UInt8
 | [] => [10]
 | x :: r => bodyT x ++ (match r with
  | [] => [10]
  | _ => 32 :: lineT r)
def linesT (ls : List (List Tok)) : List UInt8 := ls.flatMap lineT
def toksT (ls : List (List Tok)) : List Tok := ls.flatMap fun l => l ++ [⟨6, [], 0, 0⟩]
theorem linesT_app (a b : List (List Tok)) : linesT (a ++ b) = linesT a ++ linesT b := by simp [linesT]
theorem toksT_app (a b : List (List Tok)) : toksT (a ++ b) = toksT a ++ toksT b := by simp [toksT]
def GoodLs (ls : List (List Tok)) : Prop := ∀ l ∈ ls, l ≠ [] ∧ ∀ x ∈ l, GoodT x
end Go.Proofs.YtknjhlbhbnldpaaGreatDoor.C
