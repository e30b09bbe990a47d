/-
  Joined: MCellP, MLxP, Shelf3, Shelf2, Shelf8. Each with what its own head says.
-/
import Derived.Test.YtknjhlbhbnldpaaGreatDoorChecked
import Derived.WalkKit
import Derived.ProofKit
import Derived.Lib.Hide
import Derived.Deep.QuietTactic
import Derived.BigQuiet
import Derived.RegionTactic
import Derived.Below
import Derived.Laws.OwnMore
import Derived.Deep.AppendLies
import Derived.Deep.Draws
import Derived.Deep.LoopGhost
import Derived.Maps.AppendAt
import Derived.WalkSmall
import Derived.WalkSpells
import Derived.Lib.Walk
import Derived.Lib.OthersKept
import Derived.Lib.RuneCount
import Derived.Lib.Strings
import Derived.Lib.DecodeN
import Derived.Lib.UnsafeStr
import Derived.Shelf.Small.Utf8
import Derived.Shelf.Small.Strs
import Derived.Shelf.Small.Wraps
import Derived.Shelf.Utf8.AppendRunePlain
import Derived.Shelf.Utf8.RuneCount
import Derived.Shelf.LaysM
import Derived.Shelf.Strconv.Clone
import Derived.Shelf.Strings.Search1
import Derived.Shelf.Strings.Prefix
import Derived.Shelf.Strings.Runes
import Derived.Shelf.Strings.AsciiSet
import Derived.Shelf.Unicode.DecodeSlow
import Derived.Shelf.Unicode.DecodeAny
import Derived.Shelf.SlicesE.Compact
import Derived.Ground.SlgnProg

/-
 Plain facts on lists of integers for layer 1: the order of two lists, by the first place at which they differ, else by their lengths. No condition.
-/
namespace Go.Proofs.YtknjhlbhbnldpaaGreatDoor.C
def cmpL : List Int → List Int → Int
 | [], [] => 0
 | [], _ :: _ => -1
 | _ :: _, [] => 1
 | a :: x, b :: y => if a < b then -1 else if b < a then 1 else cmpL x y
theorem cmpL_nil_left (y : List Int) (h : 0 < y.length) : cmpL [] y = -1 := by
 cases y with
 | nil => simp at h
 | cons b y => rfl
theorem cmpL_nil_right (x : List Int) (h : 0 < x.length) : cmpL x [] = 1 := by
 cases x with
 | nil => simp at h
 | cons b y => rfl
theorem cmpL_cons (a b : Int) (x y : List Int) : cmpL (a :: x) (b :: y) = if a < b then -1 else if b < a then 1 else cmpL x y := rfl
theorem drop_cons {α : Type} {x : List α} {k : Nat} {a : α} (h : x[k]? = some a) : x.drop k = a :: x.drop (k + 1) := by
 have hk : k < x.length := by
  rcases Nat.lt_or_ge k x.length with h1 | h1
  ·exact h1
  ·rw [List.getElem?_eq_none h1] at h; cases h
 rw [List.getElem?_eq_getElem hk] at h
 rw [List.drop_eq_getElem_cons hk]
 injection h with h
 rw [h]
def CmpSt (x y : List Int) (k : Nat) : Prop := cmpL x y = cmpL (x.drop k) (y.drop k)
theorem cmpSt_zero (x y : List Int) : CmpSt x y 0 := rfl
theorem cmpSt_step {x y : List Int} {k : Nat} {a b : Int} (h : CmpSt x y k) (ha : x[k]? = some a) (hb : y[k]? = some b) (h1 : ¬ a < b) (h2 : ¬ b < a) : CmpSt x y (k + 1) := by
 unfold CmpSt at *
 rw [h, drop_cons ha, drop_cons hb, cmpL_cons, if_neg h1, if_neg h2]
theorem cmpSt_less {x y : List Int} {k : Nat} {a b : Int} (h : CmpSt x y k) (ha : x[k]? = some a) (hb : y[k]? = some b) (h1 : a < b) : cmpL x y = -1 := by
 unfold CmpSt at *
 rw [h, drop_cons ha, drop_cons hb, cmpL_cons, if_pos h1]
theorem cmpSt_more {x y : List Int} {k : Nat} {a b : Int} (h : CmpSt x y k) (ha : x[k]? = some a) (hb : y[k]? = some b) (h1 : b < a) : cmpL x y = 1 := by
 unfold CmpSt at *
 rw [h, drop_cons ha, drop_cons hb, cmpL_cons, if_neg (by omega), if_pos h1]
theorem cmpSt_short {x y : List Int} {k : Nat} (h : CmpSt x y k) (ha : x.length ≤ k) (hb : k < y.length) : cmpL x y = -1 := by
 unfold CmpSt at *
 rw [h, List.drop_of_length_le ha, cmpL_nil_left _ (by simp; omega)]
theorem cmpSt_long {x y : List Int} {k : Nat} (h : CmpSt x y k) (ha : k < x.length) (hb : y.length ≤ k) : cmpL x y = 1 := by
 unfold CmpSt at *
 rw [h, List.drop_of_length_le hb, cmpL_nil_right _ (by simp; omega)]
theorem cmpSt_alike {x y : List Int} {k : Nat} (h : CmpSt x y k) (ha : x.length ≤ k) (hb : y.length ≤ k) : cmpL x y = 0 := by
 unfold CmpSt at *
 rw [h, List.drop_of_length_le ha, List.drop_of_length_le hb]; rfl
theorem cmpL_eq (x : List Int) : ∀ y, cmpL x y = 0 ↔ x = y := by
 induction x with
 | nil => intro y; cases y <;> simp [cmpL]
 | cons a x ih =>
  intro y
  cases y with
  | nil => simp [cmpL]
  | cons b y =>
   simp only [cmpL]
   by_cases h1 : a < b
   ·simp [h1]; omega
   ·by_cases h2 : b < a
    ·simp [h1, h2]; omega
    ·have : a = b := by omega
     subst this
     simp [ih]
end Go.Proofs.YtknjhlbhbnldpaaGreatDoor.C


namespace Go.Proofs.YtknjhlbhbnldpaaGreatDoor.C
structure Tok where
 k : Nat
 t : List UInt8
 n : Nat
 at_ : Nat
def isW (b : UInt8) : Bool := decide (97 ≤ b.toNat ∧ b.toNat ≤ 122 ∨ 65 ≤ b.toNat ∧ b.toNat ≤ 90 ∨ 48 ≤ b.toNat ∧ b.toNat ≤ 57 ∨ b.toNat = 45 ∨ b.toNat = 95)
def wordL (l : List UInt8) : List UInt8 := l.takeWhile isW
def nameL : List UInt8 → List UInt8
 | [] => []
 | c :: r => if c = 60 ∧ (r.drop (wordL r).length).head? = some 62 then wordL r else []
def digV (b : UInt8) : Option Nat :=
 if 48 ≤ b.toNat ∧ b.toNat ≤ 57 then some (b.toNat - 48) else if 97 ≤ b.toNat ∧ b.toNat ≤ 102 then some (b.toNat - 87) else if 65 ≤ b.toNat ∧ b.toNat ≤ 70 then some (b.toNat - 55) else none
def hexN : List UInt8 → Nat → Option Nat
 | [], n => some n
 | b :: r, n => match digV b with
  | some d => hexN r (16 * n + d)
  | none => none
def numL : List UInt8 → Option Nat
 | [] => none
 | c :: d => if c = 85 ∧ 4 ≤ d.length ∧ d.length ≤ 6 then hexN d 0 else none
def rightN (n : Nat) : Bool := decide (n < 55296 ∨ 57343 < n ∧ n ≤ 1114111)
def quoL : List UInt8 → Option (List UInt8)
 | [] => none
 | c :: r => if c = 34 ∧ (r.takeWhile (· ≠ 34)).length < r.length ∧ 10 ∉ r.takeWhile (· ≠ 34) then some (r.takeWhile (· ≠ 34)) else none
def signL : List UInt8 → Option (List UInt8)
 | [] => none
 | c :: r => if c = 59 ∨ c = 44 ∨ c = 40 ∨ c = 41 then some [c] else if c = 46 ∧ r.take 2 = [46, 46] then some [46, 46, 46] else none
def tokL (l : List UInt8) : Option (Nat × List UInt8 × Nat × Nat) :=
 match signL l with
 | some s => some (2, s, 0, s.length)
 | none => match numL (nameL l) with
  | some n => if rightN n then some (3, [], n, 2 + (nameL l).length) else none
  | none => if nameL l ≠ [] then some (5, nameL l, 0, 2 + (nameL l).length) else
   match quoL l with
   | some t => some (4, t, 0, 2 + t.length)
   | none => if wordL l ≠ [] then some (1, wordL l, 0, (wordL l).length) else none
theorem numL_cons (c : UInt8) (d : List UInt8) : numL (c :: d) = if c = 85 ∧ 4 ≤ d.length ∧ d.length ≤ 6 then hexN d 0 else none := rfl
end Go.Proofs.YtknjhlbhbnldpaaGreatDoor.C

namespace Go.Proofs
open Go.Shelf
def Tryz.lays227_ren : Go.Shelf.Ren := ⟨fun | 227 => 160 | n => n, fun | 9 => 9 | 116 => 226 | 4 => 4 | 0 => 0 | 3 => 3 | 5 => 5 | n => n, fun | n => n⟩
theorem Tryz.lays227 : Go.Proofs.Lays.n227 Tryz.prog Tryz.lays227_ren := {
 mixed := by kernel_rfl
 f227 := Tryz.func160.trans (congrArg some (by kernel_rfl))
 t0 := Tryz.underlying0
 a0 := Tryz.isAgg0
 z0 := Tryz.sizeOf0
 v0 := Tryz.zeroValue0
 t3 := Tryz.underlying3
 a3 := Tryz.isAgg3
 z3 := Tryz.sizeOf3
 v3 := Tryz.zeroValue3
 t4 := Tryz.underlying4
 a4 := Tryz.isAgg4
 z4 := Tryz.sizeOf4
 v4 := Tryz.zeroValue4
 t5 := Tryz.underlying5
 a5 := Tryz.isAgg5
 z5 := Tryz.sizeOf5
 v5 := Tryz.zeroValue5
 t9 := Tryz.underlying9
 a9 := Tryz.isAgg9
 z9 := Tryz.sizeOf9
 v9 := Tryz.zeroValue9
 t116 := Tryz.underlying226
 a116 := Tryz.isAgg226
 z116 := Tryz.sizeOf226 }
def Tryz.lays228_ren : Go.Shelf.Ren := ⟨fun | 228 => 182 | n => n, fun | 124 => 230 | 5 => 5 | 4 => 4 | 0 => 0 | 116 => 226 | n => n, fun | n => n⟩
theorem Tryz.lays228 : Go.Proofs.Lays.n228 Tryz.prog Tryz.lays228_ren := {
 mixed := by kernel_rfl
 f228 := Tryz.func182.trans (congrArg some (by kernel_rfl))
 t0 := Tryz.underlying0
 a0 := Tryz.isAgg0
 z0 := Tryz.sizeOf0
 v0 := Tryz.zeroValue0
 t4 := Tryz.underlying4
 a4 := Tryz.isAgg4
 z4 := Tryz.sizeOf4
 v4 := Tryz.zeroValue4
 t5 := Tryz.underlying5
 a5 := Tryz.isAgg5
 z5 := Tryz.sizeOf5
 v5 := Tryz.zeroValue5
 t116 := Tryz.underlying226
 a116 := Tryz.isAgg226
 z116 := Tryz.sizeOf226
 t124 := Tryz.underlying230
 a124 := Tryz.isAgg230
 z124 := Tryz.sizeOf230
 v124 := Tryz.zeroValue230 }
end Go.Proofs

namespace Go.Proofs
open Go.Shelf
def Tryz.lays160_ren : Go.Shelf.Ren := ⟨fun | 160 => 131 | 232 => 159 | 231 => 158 | 227 => 160 | 234 => 162 | 233 => 161 | 236 => 164 | 235 => 163 | 228 => 182 | 271 => 185 | 151 => 184 | 197 => 183 | 120 => 199 | 152 => 198 | 260 => 197 | 137 => 216 | 119 => 217 | 224 => 218 | 225 => 219 | 217 => 233 | 266 => 237 | n => n, fun | 9 => 9 | 4 => 4 | 3 => 3 | 5 => 5 | 117 => 227 | 116 => 226 | 0 => 0 | 124 => 230 | 21 => 21 | 105 => 247 | 46 => 166 | 119 => 276 | 139 => 279 | 138 => 278 | n => n, fun | 3 => 0 | 4 => 1 | n => n⟩
theorem Tryz.lays160 : Go.Proofs.Lays.n160 Tryz.prog Tryz.lays160_ren := {
 mixed := by kernel_rfl
 f119 := Tryz.func217.trans (congrArg some (by kernel_rfl))
 f120 := Tryz.func199.trans (congrArg some (by kernel_rfl))
 f137 := Tryz.func216.trans (congrArg some (by kernel_rfl))
 f151 := Tryz.func184.trans (congrArg some (by kernel_rfl))
 f152 := Tryz.func198.trans (congrArg some (by kernel_rfl))
 f160 := Tryz.func131.trans (congrArg some (by kernel_rfl))
 f197 := Tryz.func183.trans (congrArg some (by kernel_rfl))
 f217 := Tryz.func233.trans (congrArg some (by kernel_rfl))
 f224 := Tryz.func218.trans (congrArg some (by kernel_rfl))
 f225 := Tryz.func219.trans (congrArg some (by kernel_rfl))
 f227 := Tryz.func160.trans (congrArg some (by kernel_rfl))
 f228 := Tryz.func182.trans (congrArg some (by kernel_rfl))
 f231 := Tryz.func158.trans (congrArg some (by kernel_rfl))
 f232 := Tryz.func159.trans (congrArg some (by kernel_rfl))
 f233 := Tryz.func161.trans (congrArg some (by kernel_rfl))
 f234 := Tryz.func162.trans (congrArg some (by kernel_rfl))
 f235 := Tryz.func163.trans (congrArg some (by kernel_rfl))
 f236 := Tryz.func164.trans (congrArg some (by kernel_rfl))
 f260 := Tryz.func197.trans (congrArg some (by kernel_rfl))
 f266 := Tryz.func237.trans (congrArg some (by kernel_rfl))
 f271 := Tryz.func185.trans (congrArg some (by kernel_rfl))
 t0 := Tryz.underlying0
 a0 := Tryz.isAgg0
 z0 := Tryz.sizeOf0
 v0 := Tryz.zeroValue0
 t3 := Tryz.underlying3
 a3 := Tryz.isAgg3
 z3 := Tryz.sizeOf3
 v3 := Tryz.zeroValue3
 t4 := Tryz.underlying4
 a4 := Tryz.isAgg4
 z4 := Tryz.sizeOf4
 v4 := Tryz.zeroValue4
 t5 := Tryz.underlying5
 a5 := Tryz.isAgg5
 z5 := Tryz.sizeOf5
 v5 := Tryz.zeroValue5
 t9 := Tryz.underlying9
 a9 := Tryz.isAgg9
 z9 := Tryz.sizeOf9
 v9 := Tryz.zeroValue9
 t21 := Tryz.underlying21
 a21 := Tryz.isAgg21
 z21 := Tryz.sizeOf21
 v21 := Tryz.zeroValue21
 t46 := Tryz.underlying166
 a46 := Tryz.isAgg166
 z46 := Tryz.sizeOf166
 v46 := Tryz.zeroValue166
 t105 := Tryz.underlying247
 a105 := Tryz.isAgg247
 z105 := Tryz.sizeOf247
 v105 := Tryz.zeroValue247
 t116 := Tryz.underlying226
 a116 := Tryz.isAgg226
 z116 := Tryz.sizeOf226
 t117 := Tryz.underlying227
 a117 := Tryz.isAgg227
 z117 := Tryz.sizeOf227
 v117 := Tryz.zeroValue227
 t119 := Tryz.underlying276
 a119 := Tryz.isAgg276
 z119 := Tryz.sizeOf276
 t124 := Tryz.underlying230
 a124 := Tryz.isAgg230
 z124 := Tryz.sizeOf230
 v124 := Tryz.zeroValue230
 t138 := Tryz.underlying278
 a138 := Tryz.isAgg278
 z138 := Tryz.sizeOf278
 v138 := Tryz.zeroValue278
 t139 := Tryz.underlying279
 a139 := Tryz.isAgg279
 z139 := Tryz.sizeOf279
 v139 := Tryz.zeroValue279
 g3 := by kernel_rfl
 g4 := by kernel_rfl }
end Go.Proofs

namespace Go.Proofs
open Go.Shelf
def Tryz.laysCm_ren : Go.Shelf.Ren := ⟨fun | 43 => 79 | n => n, fun | 22 => 33 | 23 => 23 | 3 => 3 | 4 => 4 | 0 => 0 | n => n, fun | n => n⟩
theorem Tryz.laysCm : Go.Proofs.SlLaysE.n43 Tryz.prog Tryz.laysCm_ren := {
 mixed := by kernel_rfl
 f43 := ⟨Tryz.f79.name, by decide, Tryz.func79.trans (congrArg some (by kernel_rfl))⟩
 t0 := Tryz.underlying0
 a0 := Tryz.isAgg0
 z0 := Tryz.sizeOf0
 v0 := Tryz.zeroValue0
 t3 := Tryz.underlying3
 a3 := Tryz.isAgg3
 z3 := Tryz.sizeOf3
 v3 := Tryz.zeroValue3
 t4 := Tryz.underlying4
 a4 := Tryz.isAgg4
 z4 := Tryz.sizeOf4
 v4 := Tryz.zeroValue4
 t22 := Tryz.underlying33
 a22 := Tryz.isAgg33
 z22 := Tryz.sizeOf33
 v22 := Tryz.zeroValue33
 a23 := Tryz.isAgg23
 z23 := Tryz.sizeOf23 }
end Go.Proofs
