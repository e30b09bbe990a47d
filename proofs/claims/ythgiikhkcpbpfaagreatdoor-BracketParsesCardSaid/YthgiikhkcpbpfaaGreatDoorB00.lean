/-
  Joined: MCellP, Shelf3, Shelf2, Shelf8. Each with what its own head says.
-/
import Derived.Shelf.Small.Wraps
import Derived.Shelf.Utf8.AppendRunePlain
import Derived.Shelf.Utf8.RuneCount
import Derived.Shelf.LaysM
import Derived.Shelf.Strconv.Clone
import Derived.Shelf.Strings.Prefix
import Derived.Shelf.Strings.AsciiSet
import Derived.Shelf.Unicode.DecodeSlow
import Derived.Shelf.Unicode.DecodeAny
import Derived.Ground.SlgnProg
import Derived.Shelf.SlicesE.Compact
import Derived.Test.YthgiikhkcpbpfaaGreatDoorChecked

/-
 Plain facts on lists of integers for layer 1: the order of two lists, by the first place at which they differ, else by their lengths. No condition.
-/
namespace Go.Proofs.YthgiikhkcpbpfaaGreatDoor.C
def cmpL : List Int → List Int → Int
 | [], [] => 0
 | [], _ :: _ => -1
 | _ :: _, [] => 1
 | a :: x, b :: y => if a < b then -1 else if b < a then 1 else cmpL x y
theorem cmpL_nil_left (y : List Int) (h : 0 < y.length) : cmpL [] y = -1 := by
 cases y with
 | nil => simp at h
 | cons b y => rfl
theorem cmpL_nil_right (x : List Int) (h : 0 < x.length) : cmpL x [] = 1 := by
 cases x with
 | nil => simp at h
 | cons b y => rfl
theorem cmpL_cons (a b : Int) (x y : List Int) : cmpL (a :: x) (b :: y) = if a < b then -1 else if b < a then 1 else cmpL x y := rfl
theorem drop_cons {α : Type} {x : List α} {k : Nat} {a : α} (h : x[k]? = some a) : x.drop k = a :: x.drop (k + 1) := by
 have hk : k < x.length := by
  rcases Nat.lt_or_ge k x.length with h1 | h1
  ·exact h1
  ·rw [List.getElem?_eq_none h1] at h; cases h
 rw [List.getElem?_eq_getElem hk] at h
 rw [List.drop_eq_getElem_cons hk]
 injection h with h
 rw [h]
def CmpSt (x y : List Int) (k : Nat) : Prop := cmpL x y = cmpL (x.drop k) (y.drop k)
theorem cmpSt_zero (x y : List Int) : CmpSt x y 0 := rfl
theorem cmpSt_step {x y : List Int} {k : Nat} {a b : Int} (h : CmpSt x y k) (ha : x[k]? = some a) (hb : y[k]? = some b) (h1 : ¬ a < b) (h2 : ¬ b < a) : CmpSt x y (k + 1) := by
 unfold CmpSt at *
 rw [h, drop_cons ha, drop_cons hb, cmpL_cons, if_neg h1, if_neg h2]
theorem cmpSt_less {x y : List Int} {k : Nat} {a b : Int} (h : CmpSt x y k) (ha : x[k]? = some a) (hb : y[k]? = some b) (h1 : a < b) : cmpL x y = -1 := by
 unfold CmpSt at *
 rw [h, drop_cons ha, drop_cons hb, cmpL_cons, if_pos h1]
theorem cmpSt_more {x y : List Int} {k : Nat} {a b : Int} (h : CmpSt x y k) (ha : x[k]? = some a) (hb : y[k]? = some b) (h1 : b < a) : cmpL x y = 1 := by
 unfold CmpSt at *
 rw [h, drop_cons ha, drop_cons hb, cmpL_cons, if_neg (by omega), if_pos h1]
theorem cmpSt_short {x y : List Int} {k : Nat} (h : CmpSt x y k) (ha : x.length ≤ k) (hb : k < y.length) : cmpL x y = -1 := by
 unfold CmpSt at *
 rw [h, List.drop_of_length_le ha, cmpL_nil_left _ (by simp; omega)]
theorem cmpSt_long {x y : List Int} {k : Nat} (h : CmpSt x y k) (ha : k < x.length) (hb : y.length ≤ k) : cmpL x y = 1 := by
 unfold CmpSt at *
 rw [h, List.drop_of_length_le hb, cmpL_nil_right _ (by simp; omega)]
theorem cmpSt_alike {x y : List Int} {k : Nat} (h : CmpSt x y k) (ha : x.length ≤ k) (hb : y.length ≤ k) : cmpL x y = 0 := by
 unfold CmpSt at *
 rw [h, List.drop_of_length_le ha, List.drop_of_length_le hb]; rfl
theorem cmpL_eq (x : List Int) : ∀ y, cmpL x y = 0 ↔ x = y := by
 induction x with
 | nil => intro y; cases y <;> simp [cmpL]
 | cons a x ih =>
  intro y
  cases y with
  | nil => simp [cmpL]
  | cons b y =>
   simp only [cmpL]
   by_cases h1 : a < b
   ·simp [h1]; omega
   ·by_cases h2 : b < a
    ·simp [h1, h2]; omega
    ·have : a = b := by omega
     subst this
     simp [ih]
end Go.Proofs.YthgiikhkcpbpfaaGreatDoor.C

namespace Go.Proofs
open Go.Shelf
def Tryz.lays227_ren : Go.Shelf.Ren := ⟨fun | 227 => 168 | n => n, fun | 9 => 9 | 116 => 253 | 4 => 4 | 0 => 0 | 3 => 3 | 5 => 5 | n => n, fun | n => n⟩
theorem Tryz.lays227 : Go.Proofs.Lays.n227 Tryz.prog Tryz.lays227_ren := {
 mixed := by kernel_rfl
 f227 := Tryz.func168.trans (congrArg some (by kernel_rfl))
 t0 := Tryz.underlying0
 a0 := Tryz.isAgg0
 z0 := Tryz.sizeOf0
 v0 := Tryz.zeroValue0
 t3 := Tryz.underlying3
 a3 := Tryz.isAgg3
 z3 := Tryz.sizeOf3
 v3 := Tryz.zeroValue3
 t4 := Tryz.underlying4
 a4 := Tryz.isAgg4
 z4 := Tryz.sizeOf4
 v4 := Tryz.zeroValue4
 t5 := Tryz.underlying5
 a5 := Tryz.isAgg5
 z5 := Tryz.sizeOf5
 v5 := Tryz.zeroValue5
 t9 := Tryz.underlying9
 a9 := Tryz.isAgg9
 z9 := Tryz.sizeOf9
 v9 := Tryz.zeroValue9
 t116 := Tryz.underlying253
 a116 := Tryz.isAgg253
 z116 := Tryz.sizeOf253 }
def Tryz.lays228_ren : Go.Shelf.Ren := ⟨fun | 228 => 200 | n => n, fun | 124 => 257 | 5 => 5 | 4 => 4 | 0 => 0 | 116 => 253 | n => n, fun | n => n⟩
theorem Tryz.lays228 : Go.Proofs.Lays.n228 Tryz.prog Tryz.lays228_ren := {
 mixed := by kernel_rfl
 f228 := Tryz.func200.trans (congrArg some (by kernel_rfl))
 t0 := Tryz.underlying0
 a0 := Tryz.isAgg0
 z0 := Tryz.sizeOf0
 v0 := Tryz.zeroValue0
 t4 := Tryz.underlying4
 a4 := Tryz.isAgg4
 z4 := Tryz.sizeOf4
 v4 := Tryz.zeroValue4
 t5 := Tryz.underlying5
 a5 := Tryz.isAgg5
 z5 := Tryz.sizeOf5
 v5 := Tryz.zeroValue5
 t116 := Tryz.underlying253
 a116 := Tryz.isAgg253
 z116 := Tryz.sizeOf253
 t124 := Tryz.underlying257
 a124 := Tryz.isAgg257
 z124 := Tryz.sizeOf257
 v124 := Tryz.zeroValue257 }
end Go.Proofs

namespace Go.Proofs
open Go.Shelf
def Tryz.lays160_ren : Go.Shelf.Ren := ⟨fun | 160 => 132 | 232 => 167 | 231 => 166 | 227 => 168 | 234 => 170 | 233 => 169 | 236 => 172 | 235 => 171 | 228 => 200 | 271 => 203 | 151 => 202 | 197 => 201 | 120 => 222 | 152 => 221 | 260 => 220 | 137 => 233 | 119 => 234 | 224 => 235 | 225 => 236 | 217 => 251 | 266 => 264 | n => n, fun | 9 => 9 | 4 => 4 | 3 => 3 | 5 => 5 | 117 => 254 | 116 => 253 | 0 => 0 | 124 => 257 | 21 => 21 | 105 => 282 | 46 => 142 | 119 => 304 | 139 => 307 | 138 => 306 | n => n, fun | 3 => 0 | 4 => 1 | n => n⟩
theorem Tryz.lays160 : Go.Proofs.Lays.n160 Tryz.prog Tryz.lays160_ren := {
 mixed := by kernel_rfl
 f119 := Tryz.func234.trans (congrArg some (by kernel_rfl))
 f120 := Tryz.func222.trans (congrArg some (by kernel_rfl))
 f137 := Tryz.func233.trans (congrArg some (by kernel_rfl))
 f151 := Tryz.func202.trans (congrArg some (by kernel_rfl))
 f152 := Tryz.func221.trans (congrArg some (by kernel_rfl))
 f160 := Tryz.func132.trans (congrArg some (by kernel_rfl))
 f197 := Tryz.func201.trans (congrArg some (by kernel_rfl))
 f217 := Tryz.func251.trans (congrArg some (by kernel_rfl))
 f224 := Tryz.func235.trans (congrArg some (by kernel_rfl))
 f225 := Tryz.func236.trans (congrArg some (by kernel_rfl))
 f227 := Tryz.func168.trans (congrArg some (by kernel_rfl))
 f228 := Tryz.func200.trans (congrArg some (by kernel_rfl))
 f231 := Tryz.func166.trans (congrArg some (by kernel_rfl))
 f232 := Tryz.func167.trans (congrArg some (by kernel_rfl))
 f233 := Tryz.func169.trans (congrArg some (by kernel_rfl))
 f234 := Tryz.func170.trans (congrArg some (by kernel_rfl))
 f235 := Tryz.func171.trans (congrArg some (by kernel_rfl))
 f236 := Tryz.func172.trans (congrArg some (by kernel_rfl))
 f260 := Tryz.func220.trans (congrArg some (by kernel_rfl))
 f266 := Tryz.func264.trans (congrArg some (by kernel_rfl))
 f271 := Tryz.func203.trans (congrArg some (by kernel_rfl))
 t0 := Tryz.underlying0
 a0 := Tryz.isAgg0
 z0 := Tryz.sizeOf0
 v0 := Tryz.zeroValue0
 t3 := Tryz.underlying3
 a3 := Tryz.isAgg3
 z3 := Tryz.sizeOf3
 v3 := Tryz.zeroValue3
 t4 := Tryz.underlying4
 a4 := Tryz.isAgg4
 z4 := Tryz.sizeOf4
 v4 := Tryz.zeroValue4
 t5 := Tryz.underlying5
 a5 := Tryz.isAgg5
 z5 := Tryz.sizeOf5
 v5 := Tryz.zeroValue5
 t9 := Tryz.underlying9
 a9 := Tryz.isAgg9
 z9 := Tryz.sizeOf9
 v9 := Tryz.zeroValue9
 t21 := Tryz.underlying21
 a21 := Tryz.isAgg21
 z21 := Tryz.sizeOf21
 v21 := Tryz.zeroValue21
 t46 := Tryz.underlying142
 a46 := Tryz.isAgg142
 z46 := Tryz.sizeOf142
 v46 := Tryz.zeroValue142
 t105 := Tryz.underlying282
 a105 := Tryz.isAgg282
 z105 := Tryz.sizeOf282
 v105 := Tryz.zeroValue282
 t116 := Tryz.underlying253
 a116 := Tryz.isAgg253
 z116 := Tryz.sizeOf253
 t117 := Tryz.underlying254
 a117 := Tryz.isAgg254
 z117 := Tryz.sizeOf254
 v117 := Tryz.zeroValue254
 t119 := Tryz.underlying304
 a119 := Tryz.isAgg304
 z119 := Tryz.sizeOf304
 t124 := Tryz.underlying257
 a124 := Tryz.isAgg257
 z124 := Tryz.sizeOf257
 v124 := Tryz.zeroValue257
 t138 := Tryz.underlying306
 a138 := Tryz.isAgg306
 z138 := Tryz.sizeOf306
 v138 := Tryz.zeroValue306
 t139 := Tryz.underlying307
 a139 := Tryz.isAgg307
 z139 := Tryz.sizeOf307
 v139 := Tryz.zeroValue307
 g3 := by kernel_rfl
 g4 := by kernel_rfl }
end Go.Proofs

namespace Go.Proofs
open Go.Shelf
def Tryz.laysCm_ren : Go.Shelf.Ren := ⟨fun | 43 => 111 | n => n, fun | 22 => 39 | 23 => 30 | 3 => 3 | 4 => 4 | 0 => 0 | n => n, fun | n => n⟩
theorem Tryz.laysCm : Go.Proofs.SlLaysE.n43 Tryz.prog Tryz.laysCm_ren := {
 mixed := by kernel_rfl
 f43 := ⟨Tryz.f111.name, by decide, Tryz.func111.trans (congrArg some (by kernel_rfl))⟩
 t0 := Tryz.underlying0
 a0 := Tryz.isAgg0
 z0 := Tryz.sizeOf0
 v0 := Tryz.zeroValue0
 t3 := Tryz.underlying3
 a3 := Tryz.isAgg3
 z3 := Tryz.sizeOf3
 v3 := Tryz.zeroValue3
 t4 := Tryz.underlying4
 a4 := Tryz.isAgg4
 z4 := Tryz.sizeOf4
 v4 := Tryz.zeroValue4
 t22 := Tryz.underlying39
 a22 := Tryz.isAgg39
 z22 := Tryz.sizeOf39
 v22 := Tryz.zeroValue39
 a23 := Tryz.isAgg30
 z23 := Tryz.sizeOf30 }
end Go.Proofs
