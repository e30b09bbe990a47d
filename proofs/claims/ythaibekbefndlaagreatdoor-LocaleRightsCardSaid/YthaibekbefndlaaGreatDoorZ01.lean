/-
  Joined: MCellA, MCellP, MUtfB, MCellQ, MUtfU, MCellH, MLxP, MLxB, MUtfS. Each with what its own head says.
-/
import Derived.Test.YthaibekbefndlaaGreatDoorChecked
import Derived.WalkKit
import Derived.ProofKit
import Derived.Lib.Hide
import Derived.Deep.QuietTactic
import Derived.BigQuiet
import Derived.RegionTactic
import Derived.Below
import Derived.Laws.OwnMore
import Derived.Deep.AppendLies
import Derived.Deep.Draws
import Derived.Deep.LoopGhost
import Derived.Maps.AppendAt
import Derived.WalkSmall
import Derived.WalkSpells
import Derived.Lib.Walk
import Derived.Lib.OthersKept
import Derived.Lib.RuneCount
import Derived.Lib.Strings
import Derived.Lib.DecodeN
import Derived.Lib.UnsafeStr
import Derived.Lib.Case
import Derived.Laws.Concat

namespace Go.Proofs.YthaibekbefndlaaGreatDoor.C
open Go.RowKit

def rightB (c : Int) : Bool := decide (-256 ≤ c ∧ c < 55296 ∨ 57343 < c ∧ c ≤ 1114111)
set_option maxHeartbeats 400000 in
theorem right_any (c : Int) (w : World) : Calls Tryz.prog 108 #[.int .i32 c] w fun e w' => e = .returned (.bool (rightB c)) ∧ w = w' := by
 by_cases h1 : c < -256
 ·have hr : rightB c = false := by simp [rightB]; omega
  rw [hr]; clear hr
  go_enter Tryz.func108, Tryz.ntmps108
  go_wp2
  all_goals go_ret
  all_goals exact ⟨rfl, rfl⟩
 by_cases h2 : 1114111 < c
 ·have hr : rightB c = false := by simp [rightB]; omega
  rw [hr]; clear hr
  go_enter Tryz.func108, Tryz.ntmps108
  go_wp2
  all_goals go_ret
  all_goals exact ⟨rfl, rfl⟩
 by_cases h3 : c < 55296
 ·have hr : rightB c = true := by simp [rightB]; omega
  rw [hr]; clear hr
  go_enter Tryz.func108, Tryz.ntmps108
  go_wp2
  all_goals go_ret
  all_goals exact ⟨rfl, rfl⟩
 by_cases h4 : 57343 < c
 ·have hr : rightB c = true := by simp [rightB]; omega
  rw [hr]; clear hr
  go_enter Tryz.func108, Tryz.ntmps108
  go_wp2
  all_goals go_ret
  all_goals exact ⟨rfl, rfl⟩
 ·have hr : rightB c = false := by simp [rightB]; omega
  rw [hr]; clear hr
  go_enter Tryz.func108, Tryz.ntmps108
  go_wp2
  all_goals go_ret
  all_goals exact ⟨rfl, rfl⟩

set_option maxHeartbeats 400000 in
theorem escape_any (b : Int) (w : World) (h0 : 0 ≤ b) (h1 : b ≤ 255) : Calls Tryz.prog 172 #[.int .u8 b] w fun e w' => e = .returned (.int .i32 (-1 - b)) ∧ w = w' := by
 go_enter Tryz.func172, Tryz.ntmps172
 go_wp2
 go_ret
 exact ⟨rfl, rfl⟩

set_option maxHeartbeats 400000 in
theorem byte_yes (c : Int) (w : World) (h0 : -256 ≤ c) (h1 : c < 0) : Calls Tryz.prog 161 #[.int .i32 c] w fun e w' => e = .returned (.tuple #[.int .u8 (-1 - c), .bool true]) ∧ w = w' := by
 go_enter Tryz.func161, Tryz.ntmps161
 go_wp2
 go_ret2
 exact ⟨rfl, rfl⟩
set_option maxHeartbeats 400000 in
theorem byte_no (c : Int) (w : World) (h0 : c < -256 ∨ 0 ≤ c) : Calls Tryz.prog 161 #[.int .i32 c] w fun e w' => e = .returned (.tuple #[.int .u8 0, .bool false]) ∧ w = w' := by
 rcases h0 with h | h
 ·go_enter Tryz.func161, Tryz.ntmps161
  go_wp2
  all_goals go_ret2
  all_goals exact ⟨rfl, rfl⟩
 ·have h' : ¬ c < -256 := by omega
  go_enter Tryz.func161, Tryz.ntmps161
  go_wp2
  all_goals go_ret2
  all_goals exact ⟨rfl, rfl⟩

end Go.Proofs.YthaibekbefndlaaGreatDoor.C
/-
 Plain facts on lists of integers for layer 1: the order of two lists, by the first place at which they differ, else by their lengths. No condition.
-/

namespace Go.Proofs.YthaibekbefndlaaGreatDoor.C

def cmpL : List Int → List Int → Int
 | [], [] => 0
 | [], _ :: _ => -1
 | _ :: _, [] => 1
 | a :: x, b :: y => if a < b then -1 else if b < a then 1 else cmpL x y

theorem cmpL_nil_left (y : List Int) (h : 0 < y.length) : cmpL [] y = -1 := by
 cases y with
 | nil => simp at h
 | cons b y => rfl
theorem cmpL_nil_right (x : List Int) (h : 0 < x.length) : cmpL x [] = 1 := by
 cases x with
 | nil => simp at h
 | cons b y => rfl
theorem cmpL_cons (a b : Int) (x y : List Int) : cmpL (a :: x) (b :: y) = if a < b then -1 else if b < a then 1 else cmpL x y := rfl
theorem drop_cons {α : Type} {x : List α} {k : Nat} {a : α} (h : x[k]? = some a) : x.drop k = a :: x.drop (k + 1) := by
 have hk : k < x.length := by
  rcases Nat.lt_or_ge k x.length with h1 | h1
  ·exact h1
  ·rw [List.getElem?_eq_none h1] at h; cases h
 rw [List.getElem?_eq_getElem hk] at h
 rw [List.drop_eq_getElem_cons hk]
 injection h with h
 rw [h]

def CmpSt (x y : List Int) (k : Nat) : Prop := cmpL x y = cmpL (x.drop k) (y.drop k)
theorem cmpSt_zero (x y : List Int) : CmpSt x y 0 := rfl
theorem cmpSt_step {x y : List Int} {k : Nat} {a b : Int} (h : CmpSt x y k) (ha : x[k]? = some a) (hb : y[k]? = some b) (h1 : ¬ a < b) (h2 : ¬ b < a) : CmpSt x y (k + 1) := by
 unfold CmpSt at *
 rw [h, drop_cons ha, drop_cons hb, cmpL_cons, if_neg h1, if_neg h2]
theorem cmpSt_less {x y : List Int} {k : Nat} {a b : Int} (h : CmpSt x y k) (ha : x[k]? = some a) (hb : y[k]? = some b) (h1 : a < b) : cmpL x y = -1 := by
 unfold CmpSt at *
 rw [h, drop_cons ha, drop_cons hb, cmpL_cons, if_pos h1]
theorem cmpSt_more {x y : List Int} {k : Nat} {a b : Int} (h : CmpSt x y k) (ha : x[k]? = some a) (hb : y[k]? = some b) (h1 : b < a) : cmpL x y = 1 := by
 unfold CmpSt at *
 rw [h, drop_cons ha, drop_cons hb, cmpL_cons, if_neg (by omega), if_pos h1]
theorem cmpSt_short {x y : List Int} {k : Nat} (h : CmpSt x y k) (ha : x.length ≤ k) (hb : k < y.length) : cmpL x y = -1 := by
 unfold CmpSt at *
 rw [h, List.drop_of_length_le ha, cmpL_nil_left _ (by simp; omega)]
theorem cmpSt_long {x y : List Int} {k : Nat} (h : CmpSt x y k) (ha : k < x.length) (hb : y.length ≤ k) : cmpL x y = 1 := by
 unfold CmpSt at *
 rw [h, List.drop_of_length_le hb, cmpL_nil_right _ (by simp; omega)]
theorem cmpSt_alike {x y : List Int} {k : Nat} (h : CmpSt x y k) (ha : x.length ≤ k) (hb : y.length ≤ k) : cmpL x y = 0 := by
 unfold CmpSt at *
 rw [h, List.drop_of_length_le ha, List.drop_of_length_le hb]; rfl

theorem cmpL_eq (x : List Int) : ∀ y, cmpL x y = 0 ↔ x = y := by
 induction x with
 | nil => intro y; cases y <;> simp [cmpL]
 | cons a x ih =>
  intro y
  cases y with
  | nil => simp [cmpL]
  | cons b y =>
   simp only [cmpL]
   by_cases h1 : a < b
   ·simp [h1]; omega
   ·by_cases h2 : b < a
    ·simp [h1, h2]; omega
    ·have : a = b := by omega
     subst this
     simp [ih]
end Go.Proofs.YthaibekbefndlaaGreatDoor.C

namespace Go.Proofs.YthaibekbefndlaaGreatDoor.C
open Go.RowKit


theorem block_of_add (a : Addr) (n : Nat) : (a.add n).block = a.block := by unfold Addr.add; split <;> rfl
theorem add_of_add (a : Addr) (i j : Nat) : (a.add i).add j = a.add (i + j) := by
 unfold Addr.add
 by_cases hi : i = 0 <;> by_cases hj : j = 0 <;> simp [hi, hj, Nat.add_assoc]

def RI (ki : IntKind) (w : World) (B : Nat) (A : Option Addr) (n : Nat) (zs : List Int) : Prop :=
 zs.length = n ∧ (0 < n → ∃ ad, A = some ad ∧ ad.block < B ∧ ∀ j u, zs[j]? = some u → w.cell? (ad.add j) = some (.int ki u))

section
variable {ki : IntKind} {w w' : World} {B B' n : Nat} {A : Option Addr} {zs : List Int}
theorem RI.none_ : RI ki w B A 0 [] := ⟨by simp, fun h => absurd h (by omega)⟩
theorem RI.at_ {k : Nat} (h : RI ki w B A n zs) (hk : k < n) : ∃ ad u, A = some ad ∧ ad.block < B ∧ zs[k]? = some u ∧ w.cell? (ad.add k) = some (.int ki u) := by
 obtain ⟨ad, e, hb, hc⟩ := h.2 (by omega)
 have hl : k < zs.length := by have := h.1; omega
 exact ⟨ad, zs[k], e, hb, List.getElem?_eq_getElem hl, hc k _ (List.getElem?_eq_getElem hl)⟩
theorem RI.keep (h : RI ki w B A n zs) (hk : ∀ p : Addr, p.block < B → w'.cell? p = w.cell? p) : RI ki w' B A n zs :=
 ⟨h.1, fun hn => by
  obtain ⟨ad, e, hb, hc⟩ := h.2 hn
  exact ⟨ad, e, hb, fun j u hu => (hk _ (by rw [block_of_add]; exact hb)).trans (hc j u hu)⟩⟩
theorem RI.more (h : RI ki w B A n zs) (hB : B ≤ B') : RI ki w B' A n zs :=
 ⟨h.1, fun hn => by
  obtain ⟨ad, e, hb, hc⟩ := h.2 hn
  exact ⟨ad, e, by omega, hc⟩⟩
theorem RI.below (h : RI ki w B A n zs) (hb : Below B w w') : RI ki w' B A n zs := h.keep fun _ hp => hb.cell hp
theorem RI.drew (h : RI ki w B A n zs) : RI ki w.drew B A n zs := h
theorem RI.drewN (h : RI ki w B A n zs) (k : Nat) : RI ki (w.drewN k) B A n zs := h
theorem RI.alloc (h : RI ki w B A n zs) (hB : B ≤ w.heap.size) (o : Obj) : RI ki (w.alloc o) B A n zs := h.keep fun p hp => World.cell?_alloc_lt w o p (by omega)
theorem RI.setCell (h : RI ki w B A n zs) {p : Addr} (hB : B ≤ p.block) (u : Value) : RI ki (w.setCell p u) B A n zs :=
 h.keep fun q hq => World.cell?_setCell_other w p q u (fun e => by subst e; omega)
theorem RI.grown (h : RI ki w B A n zs) {row : Option Nat} (hg : w.grownBy w' row) (hB : B ≤ w.heap.size) (hr : ∀ g, row = some g → B ≤ g) : RI ki w' B A n zs :=
 h.keep fun p hp => World.cell?_of_block (hg.block p.block (by omega) (fun e => by have := hr _ e.symm; omega))
theorem RI.len (h : RI ki w B A n zs) : zs.length = n := h.1
end
theorem ret_int {k : IntKind} {a b : Int} (h : a = b) : Ending.returned (.int k a) = .returned (.int k b) := by rw [h]

theorem drew3 (w : World) (a b c : Nat) : ∃ q, ((w.drewN a).drewN b).drewN c = w.drewN q := ⟨_, by rw [World.drewN_drewN, World.drewN_drewN]⟩
theorem drewN_zero (w : World) : w = w.drewN 0 := rfl

set_option maxHeartbeats 1000000 in
theorem refCompare_any (w : World) (Bx By : Nat) (Ax Ay : Option Addr) (n cx m cy : Nat) (xs ys : List Int) (hx : RI .i32 w Bx Ax n xs) (hy : RI .i32 w By Ay m ys) (hn : n ≤ maxLen) (_hm : m ≤ maxLen) :
  Calls Tryz.prog 53 #[.slice Ax n cx, .slice Ay m cy] w fun e w' => e = .returned (.int .i64 (cmpL xs ys)) ∧ ∃ q, w' = w.drewN q := by
 unfold maxLen at hn
 have HX := Lib.hid hx
 have HY := Lib.hid hy
 clear hx hy
 go_enter Tryz.func53, Tryz.ntmps53
 go_wp2
 go_loopw [5] (fun i wr => ∃ k q : Nat, k ≤ n ∧ k ≤ m ∧ i = .int .i64 k ∧ CmpSt xs ys k ∧ wr = w.drewN q) (fun i _ => n - (intOf i).toNat)
 case atStart => exact ⟨0, 0, Nat.zero_le _, Nat.zero_le _, rfl, cmpSt_zero _ _, drewN_zero w⟩
 case round =>
  obtain ⟨k, q, hk, hkm, rfl, hst, rfl⟩ := hrel
  have HS := Lib.hid hst
  clear hst
  by_cases hlt : k < n
  ·obtain ⟨ad, a, rfl, _, ha, hca⟩ := HX.out.at_ hlt
   have HA := Lib.hid ha
   clear ha
   by_cases hlm : k < m
   ·obtain ⟨ad2, b, rfl, _, hb, hcb⟩ := HY.out.at_ hlm
    have HB := Lib.hid hb
    clear hb
    have k0 : (0 : Int) ≤ (k : Int) := by omega
    have k1 : (k : Int) < (n : Int) := by omega
    have k2 : (k : Int) < (m : Int) := by omega
    by_cases h1 : a < b
    ·go_wp2
     go_quiet (fail)
     go_wp2
     go_ret
     exact ⟨ret_int (cmpSt_less HS.out HA.out HB.out h1).symm, _, World.drewN_drewN _ _ _⟩
    ·by_cases h2 : b < a
     ·have h1' : decide (a < b) = false := by simpa using h1
      go_wp2
      go_quiet (fail)
      go_wp2
      go_quiet (fail)
      go_wp2
      go_ret
      exact ⟨ret_int (cmpSt_more HS.out HA.out HB.out h2).symm, drew3 _ _ _ _⟩
     ·have h1' : decide (a < b) = false := by simpa using h1
      have h2' : decide (b < a) = false := by simpa using h2
      go_wp2
      go_quiet (fail)
      go_wp2
      go_quiet (fail)
      go_wp2
      go_roundw
      case rel => exact ⟨k + 1, _, by omega, by omega, by go_num, cmpSt_step HS.out HA.out HB.out (by omega) (by omega), rfl⟩
      case measure => simp [intOf]; omega
   ·go_wp2
    go_ret
    exact ⟨ret_int (cmpSt_long HS.out (by rw [HX.out.len]; omega) (by rw [HY.out.len]; omega)).symm, _, rfl⟩
  ·by_cases hlm : k < m
   ·go_wp2
    go_ret
    exact ⟨ret_int (cmpSt_short HS.out (by rw [HX.out.len]; omega) (by rw [HY.out.len]; omega)).symm, _, rfl⟩
   ·go_wp2
    go_ret
    exact ⟨ret_int (cmpSt_alike HS.out (by rw [HX.out.len]; omega) (by rw [HY.out.len]; omega)).symm, _, rfl⟩

def sameL (xs ys : List Int) : Bool := cmpL xs ys == 0
set_option maxHeartbeats 400000 in
theorem same_any (w : World) (Bx By : Nat) (Ax Ay : Option Addr) (n cx m cy : Nat) (xs ys : List Int) (hx : RI .i32 w Bx Ax n xs) (hy : RI .i32 w By Ay m ys) (hn : n ≤ maxLen) (hm : m ≤ maxLen) :
  Calls Tryz.prog 29 #[.slice Ax n cx, .slice Ay m cy] w fun e w' => e = .returned (.bool (sameL xs ys)) ∧ ∃ q, w' = w.drewN q := by
 have HX := Lib.hid hx
 have HY := Lib.hid hy
 clear hx hy
 go_enter Tryz.func29, Tryz.ntmps29
 go_wp2_with fail
 refine (refCompare_any w Bx By Ax Ay n cx m cy xs ys HX.out HY.out hn hm).mono ?_
 rintro e w' ⟨rfl, q, rfl⟩
 go_wp2
 go_ret
 exact ⟨rfl, q, rfl⟩

theorem info33 : (Tryz.prog.info? 35).map (fun i => (i.zero, i.size, i.bytes)) = some (some (.int .i32 0), 1, 4) := by kernel_rfl
theorem RI.cut {ki : IntKind} {w : World} {B n : Nat} {A : Option Addr} {zs : List Int} (h : RI ki w B A n zs) {k m cap : Nat} (hk : k + m ≤ n) (hc : n ≤ cap) :
  RI ki w B (if cap = k then A else A.map (·.add k)) m ((zs.drop k).take m) := by
 refine ⟨by have := h.1; simp; omega, fun hn => ?_⟩
 obtain ⟨ad, rfl, hb, hcell⟩ := h.2 (by omega)
 rw [if_neg (by omega)]
 refine ⟨ad.add k, rfl, by rw [block_of_add]; exact hb, fun j u hu => ?_⟩
 rw [add_of_add]
 refine hcell _ u ?_
 rw [List.getElem?_take] at hu
 split at hu
 ·rw [← hu, List.getElem?_drop]
 ·cases hu

theorem sameL_true {xs ys : List Int} (h : xs = ys) : sameL xs ys = true := by simp [sameL, (cmpL_eq xs ys).2 h]
theorem sameL_false {xs ys : List Int} (h : xs ≠ ys) : sameL xs ys = false := by
 have : cmpL xs ys ≠ 0 := fun e => h ((cmpL_eq xs ys).1 e)
 simp [sameL, this]

theorem same_yes (w : World) (Bx By : Nat) (Ax Ay : Option Addr) (n cx m cy : Nat) (xs ys : List Int) (h : xs = ys) (hx : RI .i32 w Bx Ax n xs) (hy : RI .i32 w By Ay m ys) (hn : n ≤ maxLen) (hm : m ≤ maxLen) :
  Calls Tryz.prog 29 #[.slice Ax n cx, .slice Ay m cy] w fun e w' => e = .returned (.bool true) ∧ ∃ q, w' = w.drewN q := by
 have := same_any w Bx By Ax Ay n cx m cy xs ys hx hy hn hm
 rw [sameL_true h] at this
 exact this
theorem same_no (w : World) (Bx By : Nat) (Ax Ay : Option Addr) (n cx m cy : Nat) (xs ys : List Int) (h : xs ≠ ys) (hx : RI .i32 w Bx Ax n xs) (hy : RI .i32 w By Ay m ys) (hn : n ≤ maxLen) (hm : m ≤ maxLen) :
  Calls Tryz.prog 29 #[.slice Ax n cx, .slice Ay m cy] w fun e w' => e = .returned (.bool false) ∧ ∃ q, w' = w.drewN q := by
 have := same_any w Bx By Ax Ay n cx m cy xs ys hx hy hn hm
 rw [sameL_false h] at this
 exact this


theorem RI.of_own {w : World} {base : Nat} {e : TypeId} {ki : IntKind} {A : Option Addr} {n c : Nat} {zs : List Int} (h : w.ownsRow base e 1 (.slice A n c) n (zs.map (Value.int ki))) : RI ki w w.heap.size A n zs := by
 refine ⟨by have := h.1; simpa using this, fun hn => ?_⟩
 obtain ⟨g, cap, hv, _, hlt⟩ := h.form hn
 have hA : A = some ⟨g, 0, none⟩ := by injection hv
 subst hA
 refine ⟨_, rfl, hlt, fun j u hu => h.cells (g := g) rfl j _ ?_⟩
 simp [hu]
theorem right_is (c : Int) (w : World) (r : Bool) (hr : rightB c = r) : Calls Tryz.prog 108 #[.int .i32 c] w fun e w' => e = .returned (.bool r) ∧ w = w' := by
 subst hr
 exact right_any c w
theorem own_keep {w w' : World} {base : Nat} {e : TypeId} {size : Nat} {v : Value} {n : Nat} {xs : List Value} (h : w.ownsRow base e size v n xs) (hb : Below w.heap.size w w') : w'.ownsRow base e size v n xs := by
 refine ⟨h.1, ?_⟩
 rcases h.2 with h1 | ⟨g, cap, cur, h1, h2, h3, h4⟩
 ·exact .inl h1
 ·exact .inr ⟨g, cap, cur, h1, h2, (hb.block g (Array.getElem?_eq_some_iff.1 h3).1).trans h3, h4⟩

def str (l : List UInt8) : ByteArray := ⟨l.toArray⟩

theorem take_snoc {α : Type} {l : List α} {k : Nat} {a : α} (h : l[k]? = some a) : l.take (k + 1) = l.take k ++ [a] := by
 rw [List.take_add_one, h]; rfl
end Go.Proofs.YthaibekbefndlaaGreatDoor.C

namespace Go.Proofs.YthaibekbefndlaaGreatDoor.C

def hasP (s : ByteArray) (pos : Nat) : Bool := Lib.hasPrefix (s.extract pos s.size).data.toList [239, 191, 189]
def cellAt (s : ByteArray) (pos : Nat) : Int :=
 if (((Utf8.decode s pos).1 : Int) == 65533) = true ∧ hasP s pos = false then -1 - ((s.get! pos).toNat : Int) else ((Utf8.decode s pos).1 : Int)
def ofFrom (s : ByteArray) : Nat → Nat → List Int
 | 0, _ => []
 | f + 1, pos => if pos < s.size then cellAt s pos :: ofFrom s f (pos + (Utf8.decode s pos).2) else []
def ofL (s : ByteArray) : List Int := ofFrom s s.size 0
def OfSt (s : ByteArray) (acc : List Int) (b pos : Nat) : Prop := ofL s = acc ++ ofFrom s b pos ∧ s.size ≤ pos + b ∧ acc.length ≤ pos ∧ acc.length ≤ s.size
theorem ofSt_zero (s : ByteArray) : OfSt s [] s.size 0 := ⟨rfl, by omega, by simp, by simp⟩
theorem ofSt_step {s : ByteArray} {acc : List Int} {b pos : Nat} (h : OfSt s acc b pos) (hp : pos < s.size) : ∃ b', OfSt s (acc ++ [cellAt s pos]) b' (pos + (Utf8.decode s pos).2) := by
 obtain ⟨h1, h2, h3, h4⟩ := h
 have hw := Lib.decode_width_pos s pos hp
 cases b with
 | zero => omega
 | succ b =>
  refine ⟨b, ?_, by omega, by simp; omega, by simp; omega⟩
  rw [h1, ofFrom, if_pos hp]
  simp
theorem ofSt_end {s : ByteArray} {acc : List Int} {b pos : Nat} (h : OfSt s acc b pos) (hp : ¬ pos < s.size) : ofL s = acc := by
 obtain ⟨h1, _⟩ := h
 have : ofFrom s b pos = [] := by cases b <;> simp [ofFrom, hp]
 rw [h1, this, List.append_nil]
end Go.Proofs.YthaibekbefndlaaGreatDoor.C

namespace Go.Proofs.YthaibekbefndlaaGreatDoor.C
open Go.RowKit
open Go.Lib (decodeN)


theorem str_size (l : List UInt8) : (str l).size = l.length := by simp [str, ByteArray.size]
theorem str_app (a b : List UInt8) : str a ++ str b = str (a ++ b) := by
 unfold str
 apply ByteArray.ext
 simp

theorem decodeN_le (m b0 b1 b2 b3 : Nat) (hm : 1 ≤ m) : (decodeN m b0 b1 b2 b3).2 ≤ m := by
 unfold decodeN
 repeat' split
 all_goals simp only
 all_goals omega
theorem decodeN_bad (m b0 b1 b2 b3 : Nat) (h : (decodeN m b0 b1 b2 b3).1 = 65533) (hn : ¬ (3 ≤ m ∧ b0 = 239 ∧ b1 = 191 ∧ b2 = 189)) : decodeN m b0 b1 b2 b3 = (65533, 1) := by
 revert h
 unfold decodeN
 repeat' split
 all_goals intro h
 all_goals first | rfl | (exfalso; simp only at h; omega)
theorem decodeN_fffd (m b3 : Nat) (h : 3 ≤ m) : decodeN m 239 191 189 b3 = (65533, 3) := by
 unfold decodeN
 rw [if_neg (by omega), if_neg (by omega), if_pos (by omega), if_pos (by omega)]

def gb (s : ByteArray) (i : Nat) : Nat := (s.get! i).toNat
theorem gb_list (s : ByteArray) (i : Nat) : gb s i = (s.data.toList.getD i 0).toNat := by
 unfold gb
 congr 1
 show s.data[i]! = _
 by_cases h : i < s.data.size
 ·rw [getElem!_pos s.data i h, List.getD_eq_getElem?_getD, List.getElem?_eq_getElem (by simpa using h)]
  simp
 ·rw [getElem!_neg s.data i h, List.getD_eq_getElem?_getD, List.getElem?_eq_none (by simpa using h)]
  rfl
theorem gb_lt (s : ByteArray) (i : Nat) : gb s i < 256 := (s.get! i).toNat_lt
def cellN (n b0 b1 b2 b3 : Nat) : Int := if decodeN n b0 b1 b2 b3 = (65533, 1) then -1 - (b0 : Int) else ((decodeN n b0 b1 b2 b3).1 : Int)
theorem decode_gb (s : ByteArray) (i : Nat) : Utf8.decode s i = decodeN (s.size - i) (gb s i) (gb s (i + 1)) (gb s (i + 2)) (gb s (i + 3)) := Lib.decode_at s i

theorem hasP_iff (s : ByteArray) (pos : Nat) (hp : pos < s.size) : hasP s pos = true ↔ (3 ≤ s.size - pos ∧ gb s pos = 239 ∧ gb s (pos + 1) = 191 ∧ gb s (pos + 2) = 189) := by
 have hl : s.size = s.data.toList.length := (Array.length_toList (xs := s.data)).symm
 have he : (s.extract pos s.size).data.toList = s.data.toList.drop pos := by
  rw [Lib.extract_data]
  exact List.take_of_length_le (by rw [List.length_drop]; omega)
 unfold hasP Lib.hasPrefix
 rw [he, List.isPrefixOf_iff_prefix]
 simp only [gb_list]
 rw [hl]
 generalize s.data.toList = l
 have hg : ∀ k, l.getD (pos + k) 0 = (l.drop pos).getD k 0 := by
  intro k
  simp [List.getD_eq_getElem?_getD]
 have hlen : l.length - pos = (l.drop pos).length := by simp
 have hg0 := hg 0
 rw [Nat.add_zero] at hg0
 rw [hg0, hg 1, hg 2, hlen]
 generalize l.drop pos = d
 constructor
 ·rintro ⟨r, rfl⟩
  simp
 ·rintro ⟨h3, h0, h1, h2⟩
  match d, h3, h0, h1, h2 with
  | a :: b :: c :: r, _, h0, h1, h2 =>
   simp at h0 h1 h2
   have e0 : a = 239 := UInt8.toNat_inj.1 h0
   have e1 : b = 191 := UInt8.toNat_inj.1 h1
   have e2 : c = 189 := UInt8.toNat_inj.1 h2
   subst e0 e1 e2
   exact ⟨r, rfl⟩
theorem cellAt_eq (s : ByteArray) (pos : Nat) (hp : pos < s.size) : cellAt s pos = cellN (s.size - pos) (gb s pos) (gb s (pos + 1)) (gb s (pos + 2)) (gb s (pos + 3)) := by
 have hd := decode_gb s pos
 unfold cellAt cellN
 rw [hd]
 by_cases hbad : decodeN (s.size - pos) (gb s pos) (gb s (pos + 1)) (gb s (pos + 2)) (gb s (pos + 3)) = (65533, 1)
 ·have hh : hasP s pos = false := by
   cases h : hasP s pos with
   | false => rfl
   | true =>
    obtain ⟨h1, h2, h3, h4⟩ := (hasP_iff s pos hp).1 h
    rw [h2, h3, h4, decodeN_fffd _ _ h1] at hbad
    cases hbad
  rw [if_pos hbad, hbad, if_pos ⟨by decide, hh⟩]
  rfl
 ·rw [if_neg hbad, if_neg]
  rintro ⟨h1, h2⟩
  have h1' : (decodeN (s.size - pos) (gb s pos) (gb s (pos + 1)) (gb s (pos + 2)) (gb s (pos + 3))).1 = 65533 := by
   simp only [beq_iff_eq] at h1
   omega
  refine hbad (decodeN_bad _ _ _ _ _ h1' ?_)
  intro h3
  rw [(hasP_iff s pos hp).2 h3] at h2
  cases h2
end Go.Proofs.YthaibekbefndlaaGreatDoor.C

namespace Go.Proofs.YthaibekbefndlaaGreatDoor.C

def dig (n : Nat) : UInt8 := if n < 10 then (48 + n).toUInt8 else (87 + n).toUInt8
def hexL (n : Nat) : List UInt8 := if n < 16 then [dig n] else hexL (n / 16) ++ [dig (n % 16)]
termination_by n
decreasing_by omega
theorem hexL_small {n : Nat} (h : n < 16) : hexL n = [dig n] := by rw [hexL, if_pos h]
theorem hexL_big {n : Nat} (h : ¬ n < 16) : hexL n = hexL (n / 16) ++ [dig (n % 16)] := by rw [hexL, if_neg h]

def HexSt (u0 uu : Nat) (d : List UInt8) (k : Nat) : Prop := hexL u0 = hexL uu ++ d ∧ k + d.length = 65 ∧ d.length ≤ 16 ∧ uu < 16 ^ (16 - d.length)
theorem hexSt_zero {u : Nat} (h : u < 16 ^ 16) : HexSt u u [] 65 := ⟨by simp, by simp, by simp, by simpa using h⟩
theorem hexSt_left {u0 uu : Nat} {d : List UInt8} {k : Nat} (h : HexSt u0 uu d k) : 49 ≤ k ∧ k ≤ 65 := by
  obtain ⟨_, h2, h3, _⟩ := h
  omega
theorem hexSt_step {u0 uu : Nat} {d : List UInt8} {k : Nat} (h : HexSt u0 uu d (k + 1)) (hu : ¬ uu < 16) : HexSt u0 (uu / 16) (dig (uu % 16) :: d) k := by
  obtain ⟨h1, h2, h3, h4⟩ := h
  have hl : d.length < 16 := by
    rcases Nat.lt_or_ge d.length 16 with h | h
    · exact h
    · have : 16 - d.length = 0 := by omega
      rw [this] at h4
      simp at h4
      omega
  refine ⟨?_, by simp; omega, by simp; omega, ?_⟩
  · rw [h1, hexL_big hu]
    simp
  · have e : 16 - d.length = (16 - (dig (uu % 16) :: d).length) + 1 := by simp; omega
    rw [e, Nat.pow_succ] at h4
    exact Nat.div_lt_of_lt_mul (by rw [Nat.mul_comm]; exact h4)
theorem hexSt_end {u0 uu : Nat} {d : List UInt8} {k : Nat} (h : HexSt u0 uu d k) (hu : uu < 16) : hexL u0 = dig uu :: d := by
  rw [h.1, hexL_small hu]
  rfl

def shown (c : Int) : List UInt8 :=
  if -256 ≤ c ∧ c < 0 then [92, 120, dig ((-1 - c).toNat / 16), dig ((-1 - c).toNat % 16)]
  else if ¬ (-256 ≤ c ∧ c < 55296 ∨ 57343 < c ∧ c ≤ 1114111) then [92, 63]
  else if c = 92 then [92, 92]
  else if c = 10 then [92, 110]
  else if 32 ≤ c ∧ c ≤ 126 then [c.toNat.toUInt8]
  else [92, 117, 123] ++ hexL c.toNat ++ [125]
def textL (l : List Int) : List UInt8 := l.flatMap shown
theorem hexL_len : ∀ (m n : Nat), n < 16 ^ (m + 1) → (hexL n).length ≤ m + 1
  | 0, n, h => by rw [hexL_small (by simpa using h)]; simp
  | m + 1, n, h => by
    by_cases h1 : n < 16
    · rw [hexL_small h1]; simp
    · rw [hexL_big h1]
      have := hexL_len m (n / 16) (by rw [Nat.pow_succ] at h; exact Nat.div_lt_of_lt_mul (by rw [Nat.mul_comm]; exact h))
      simp; omega
theorem shown_le (c : Int) : (shown c).length ≤ 10 := by
  unfold shown
  repeat' split
  all_goals try (simp; done)
  rename_i h1 h2 h3 h4 h5
  have := hexL_len 5 c.toNat (by have : (16 : Nat) ^ (5 + 1) = 16777216 := by decide
                                 omega)
  simp; omega
end Go.Proofs.YthaibekbefndlaaGreatDoor.C

namespace Go.Proofs.YthaibekbefndlaaGreatDoor.C

structure Tok where
 k : Nat
 t : List UInt8
 n : Nat
 at_ : Nat

def isW (b : UInt8) : Bool := decide (97 ≤ b.toNat ∧ b.toNat ≤ 122 ∨ 65 ≤ b.toNat ∧ b.toNat ≤ 90 ∨ 48 ≤ b.toNat ∧ b.toNat ≤ 57 ∨ b.toNat = 45 ∨ b.toNat = 95)
def wordL (l : List UInt8) : List UInt8 := l.takeWhile isW
def nameL : List UInt8 → List UInt8
 | [] => []
 | c :: r => if c = 60 ∧ (r.drop (wordL r).length).head? = some 62 then wordL r else []
def digV (b : UInt8) : Option Nat :=
 if 48 ≤ b.toNat ∧ b.toNat ≤ 57 then some (b.toNat - 48) else if 97 ≤ b.toNat ∧ b.toNat ≤ 102 then some (b.toNat - 87) else if 65 ≤ b.toNat ∧ b.toNat ≤ 70 then some (b.toNat - 55) else none
def hexN : List UInt8 → Nat → Option Nat
 | [], n => some n
 | b :: r, n => match digV b with
  | some d => hexN r (16 * n + d)
  | none => none
def numL : List UInt8 → Option Nat
 | [] => none
 | c :: d => if c = 85 ∧ 4 ≤ d.length ∧ d.length ≤ 6 then hexN d 0 else none
def rightN (n : Nat) : Bool := decide (n < 55296 ∨ 57343 < n ∧ n ≤ 1114111)
def quoL : List UInt8 → Option (List UInt8)
 | [] => none
 | c :: r => if c = 34 ∧ (r.takeWhile (· ≠ 34)).length < r.length ∧ 10 ∉ r.takeWhile (· ≠ 34) then some (r.takeWhile (· ≠ 34)) else none
def signL : List UInt8 → Option (List UInt8)
 | [] => none
 | c :: r => if c = 59 ∨ c = 44 ∨ c = 40 ∨ c = 41 then some [c] else if c = 46 ∧ r.take 2 = [46, 46] then some [46, 46, 46] else none
def lastK (acc : List Tok) : Nat := match acc.getLast? with
 | some t => t.k
 | none => 6
def endL (acc : List Tok) (at_ : Nat) : List Tok := if lastK acc = 6 then acc else acc ++ [⟨6, [], 0, at_⟩]
def tokL (l : List UInt8) : Option (Nat × List UInt8 × Nat × Nat) :=
 match signL l with
 | some s => some (2, s, 0, s.length)
 | none => match numL (nameL l) with
  | some n => if rightN n then some (3, [], n, 2 + (nameL l).length) else none
  | none => if nameL l ≠ [] then some (5, nameL l, 0, 2 + (nameL l).length) else
   match quoL l with
   | some t => some (4, t, 0, 2 + t.length)
   | none => if wordL l ≠ [] then some (1, wordL l, 0, (wordL l).length) else none
def blankL : List UInt8 → Nat
 | [] => 0
 | c :: r => if c = 32 ∨ c = 9 then 1 else if c = 37 then 1 + (r.takeWhile (· ≠ 10)).length else 0
def stepL (l : List UInt8) (at_ : Nat) (acc : List Tok) : Option (List Tok × Nat) :=
 if blankL l ≠ 0 then some (acc, blankL l)
 else if l.head? = some 10 then some (endL acc at_, 1)
 else match tokL l with
  | some (k, t, n, m) => some (acc ++ [⟨k, t, n, at_⟩], m)
  | none => none
def runL : List UInt8 → Nat → List Tok → List Tok ⊕ Nat
 | [], at_, acc => .inl (endL acc at_)
 | c :: r, at_, acc => match stepL (c :: r) at_ acc with
  | some (acc', m) => runL (r.drop (m - 1)) (at_ + 1 + (m - 1)) acc'
  | none => .inr at_
termination_by l => l.length
decreasing_by simp; omega
def lexL (l : List UInt8) : List Tok × Nat × Nat :=
 if 4000 < l.length then ([], 3, 0) else
 match runL l 0 [] with
 | .inl ts => if 1000 < ts.length then ([], 3, 0) else (ts, 0, 0)
 | .inr at_ => ([], 20, at_)

theorem runL_nil (at_ : Nat) (acc : List Tok) : runL [] at_ acc = .inl (endL acc at_) := by rw [runL]
theorem runL_none {l : List UInt8} {at_ : Nat} {acc : List Tok} (h0 : l ≠ []) (h : stepL l at_ acc = none) : runL l at_ acc = .inr at_ := by
 cases l with
 | nil => exact absurd rfl h0
 | cons c r => rw [runL, h]
theorem runL_some {l : List UInt8} {at_ m : Nat} {acc acc' : List Tok} (h0 : l ≠ []) (h : stepL l at_ acc = some (acc', m)) (hm : 1 ≤ m) : runL l at_ acc = runL (l.drop m) (at_ + m) acc' := by
 cases l with
 | nil => exact absurd rfl h0
 | cons c r =>
  rw [runL, h]
  obtain ⟨k, rfl⟩ : ∃ k, m = k + 1 := ⟨m - 1, by omega⟩
  simp only [Nat.add_sub_cancel, List.drop_succ_cons]
  rw [show at_ + 1 + k = at_ + (k + 1) by omega]

theorem nameL_cons (c : UInt8) (r : List UInt8) : nameL (c :: r) = if c = 60 ∧ (r.drop (wordL r).length).head? = some 62 then wordL r else [] := rfl
theorem quoL_cons (c : UInt8) (r : List UInt8) : quoL (c :: r) = if c = 34 ∧ (r.takeWhile (· ≠ 34)).length < r.length ∧ 10 ∉ r.takeWhile (· ≠ 34) then some (r.takeWhile (· ≠ 34)) else none := rfl
theorem signL_cons (c : UInt8) (r : List UInt8) : signL (c :: r) = if c = 59 ∨ c = 44 ∨ c = 40 ∨ c = 41 then some [c] else if c = 46 ∧ r.take 2 = [46, 46] then some [46, 46, 46] else none := rfl
theorem blankL_cons (c : UInt8) (r : List UInt8) : blankL (c :: r) = if c = 32 ∨ c = 9 then 1 else if c = 37 then 1 + (r.takeWhile (· ≠ 10)).length else 0 := rfl
theorem numL_cons (c : UInt8) (d : List UInt8) : numL (c :: d) = if c = 85 ∧ 4 ≤ d.length ∧ d.length ≤ 6 then hexN d 0 else none := rfl
theorem wordL_len (l : List UInt8) : (wordL l).length ≤ l.length := by
 unfold wordL
 exact (List.takeWhile_prefix isW).length_le
theorem nameL_len (l : List UInt8) (h : nameL l ≠ []) : (nameL l).length + 2 ≤ l.length := by
 cases l with
 | nil => exact absurd rfl h
 | cons c r =>
  rw [nameL_cons] at h ⊢
  by_cases hc : c = 60 ∧ (r.drop (wordL r).length).head? = some 62
  ·rw [if_pos hc]
   have h1 : (wordL r).length < r.length := by
    rcases Nat.lt_or_ge (wordL r).length r.length with h1 | h1
    ·exact h1
    ·rw [List.drop_eq_nil_of_le h1] at hc
     simp at hc
   simp
   omega
  ·rw [if_neg hc] at h
   exact absurd rfl h
theorem quoL_len {l t : List UInt8} (h : quoL l = some t) : t.length + 2 ≤ l.length := by
 cases l with
 | nil => simp [quoL] at h
 | cons c r =>
  rw [quoL_cons] at h
  by_cases hc : c = 34 ∧ (r.takeWhile (· ≠ 34)).length < r.length ∧ 10 ∉ r.takeWhile (· ≠ 34)
  ·rw [if_pos hc] at h
   injection h with h
   subst h
   have := hc.2.1
   rw [List.length_cons]
   omega
  ·rw [if_neg hc] at h
   cases h
theorem numL_name {l : List UInt8} {n : Nat} (h : numL (nameL l) = some n) : nameL l ≠ [] := fun e => by rw [e] at h; simp [numL] at h
theorem signL_len {l s : List UInt8} (h : signL l = some s) : 1 ≤ s.length ∧ s.length ≤ l.length := by
 cases l with
 | nil => simp [signL] at h
 | cons c r =>
  rw [signL_cons] at h
  by_cases h1 : c = 59 ∨ c = 44 ∨ c = 40 ∨ c = 41
  ·rw [if_pos h1] at h
   injection h with h; subst h; simp
  ·rw [if_neg h1] at h
   by_cases h2 : c = 46 ∧ r.take 2 = [46, 46]
   ·rw [if_pos h2] at h
    injection h with h; subst h
    have := congrArg List.length h2.2
    simp at this ⊢
    omega
   ·rw [if_neg h2] at h
    cases h
theorem tokL_len {l t : List UInt8} {k n m : Nat} (h : tokL l = some (k, t, n, m)) : 1 ≤ m ∧ m ≤ l.length := by
 unfold tokL at h
 cases hs : signL l with
 | some s =>
  rw [hs] at h
  simp at h
  have := signL_len hs
  omega
 | none =>
  rw [hs] at h
  simp only at h
  cases hn : numL (nameL l) with
  | some v =>
   rw [hn] at h
   simp only at h
   split at h
   ·have := nameL_len l (numL_name hn)
    simp at h
    omega
   ·cases h
  | none =>
   rw [hn] at h
   simp only at h
   split at h
   ·rename_i h2
    have := nameL_len l h2
    simp at h
    omega
   ·cases hq : quoL l with
    | some q =>
     rw [hq] at h
     have := quoL_len hq
     simp at h
     omega
    | none =>
     rw [hq] at h
     simp only at h
     split at h
     ·rename_i h2
      have := wordL_len l
      have : (wordL l).length ≠ 0 := fun e => h2 (List.eq_nil_of_length_eq_zero e)
      simp at h
      omega
     ·cases h
theorem blankL_len (l : List UInt8) : blankL l ≤ l.length := by
 cases l with
 | nil => simp [blankL]
 | cons c r =>
  rw [blankL_cons]
  have := (List.takeWhile_prefix (l := r) (fun x : UInt8 => decide (x ≠ 10))).length_le
  split
  ·simp
  ·split
   ·rw [List.length_cons]; omega
   ·simp
theorem stepL_len {l : List UInt8} {at_ m : Nat} {acc acc' : List Tok} (h0 : l ≠ []) (h : stepL l at_ acc = some (acc', m)) : 1 ≤ m ∧ m ≤ l.length ∧ acc'.length ≤ acc.length + 1 := by
 have hl : 1 ≤ l.length := by cases l with | nil => exact absurd rfl h0 | cons c r => simp
 unfold stepL at h
 split at h
 ·rename_i h1
  have := blankL_len l
  simp at h
  obtain ⟨rfl, rfl⟩ := h
  omega
 ·split at h
  ·simp at h
   obtain ⟨rfl, rfl⟩ := h
   refine ⟨by omega, by omega, ?_⟩
   unfold endL
   split <;> simp
  ·cases ht : tokL l with
   | none => rw [ht] at h; cases h
   | some x =>
    obtain ⟨k, t, n, m'⟩ := x
    rw [ht] at h
    have := tokL_len ht
    simp at h
    obtain ⟨rfl, rfl⟩ := h
    exact ⟨this.1, this.2, by simp⟩
end Go.Proofs.YthaibekbefndlaaGreatDoor.C

namespace Go.Proofs.YthaibekbefndlaaGreatDoor.C
open Go.RowKit

theorem hexN_cons (b : UInt8) (r : List UInt8) (n : Nat) : hexN (b :: r) n = match digV b with
  | some d => hexN r (16 * n + d)
  | none => none := rfl
def greatL (n : Nat) : List UInt8 := List.replicate (4 - (hexL n).length) 48 ++ (hexL n).map Lib.upperB

theorem hexN_app : ∀ (a b : List UInt8) (n : Nat), hexN (a ++ b) n = (hexN a n).bind (hexN b)
 | [], b, n => rfl
 | x :: a, b, n => by
  show hexN (x :: (a ++ b)) n = _
  rw [hexN_cons, hexN_cons]
  cases digV x with
  | none => rfl
  | some d => exact hexN_app a b _
theorem digV_upper (d : Nat) (h : d < 16) : digV (Lib.upperB (dig d)) = some d := by
 have : ∀ d : Nat, d < 16 → digV (Lib.upperB (dig d)) = some d := by decide +kernel
 exact this d h
theorem isW_upper (d : Nat) (h : d < 16) : isW (Lib.upperB (dig d)) = true := by
 have : ∀ d : Nat, d < 16 → isW (Lib.upperB (dig d)) = true := by decide +kernel
 exact this d h
theorem hexN_hexL : ∀ (m c n : Nat), c < m → hexN ((hexL c).map Lib.upperB) n = some (n * 16 ^ (hexL c).length + c)
 | 0, c, n, h => by omega
 | m + 1, c, n, h => by
  by_cases h1 : c < 16
  ·rw [hexL_small h1]
   show hexN [Lib.upperB (dig c)] n = _
   rw [hexN_cons, digV_upper c h1]
   show some (16 * n + c) = some (n * 16 ^ 1 + c)
   congr 1
   omega
  ·rw [hexL_big h1, List.map_append, hexN_app, hexN_hexL m (c / 16) n (by omega)]
   show hexN [Lib.upperB (dig (c % 16))] (n * 16 ^ (hexL (c / 16)).length + c / 16) = _
   rw [hexN_cons, digV_upper _ (Nat.mod_lt _ (by omega))]
   show some (16 * (n * 16 ^ (hexL (c / 16)).length + c / 16) + c % 16) = _
   congr 1
   rw [List.length_append, List.length_cons, List.length_nil, Nat.pow_succ, Nat.mul_add, ← Nat.mul_assoc, ← Nat.mul_assoc, Nat.mul_comm 16 n, Nat.mul_assoc n 16, Nat.mul_comm 16, ← Nat.mul_assoc]
   omega
theorem hexN_zeros : ∀ k, hexN (List.replicate k 48) 0 = some 0
 | 0 => rfl
 | k + 1 => by
  rw [List.replicate_succ, hexN_cons, show digV 48 = some 0 from by decide +kernel]
  exact hexN_zeros k
theorem hexN_great (c : Nat) : hexN (greatL c) 0 = some c := by
 unfold greatL
 rw [hexN_app, hexN_zeros]
 show hexN ((hexL c).map Lib.upperB) 0 = some c
 rw [hexN_hexL (c + 1) c 0 (by omega)]
 simp
theorem hexL_word : ∀ (m c : Nat), c < m → ∀ b ∈ (hexL c).map Lib.upperB, isW b = true
 | 0, c, h => by omega
 | m + 1, c, h => by
  intro b hb
  by_cases h1 : c < 16
  ·rw [hexL_small h1] at hb
   simp at hb
   subst hb
   exact isW_upper c h1
  ·rw [hexL_big h1, List.map_append, List.mem_append] at hb
   rcases hb with hb | hb
   ·exact hexL_word m (c / 16) (by omega) b hb
   ·simp at hb
    subst hb
    exact isW_upper _ (Nat.mod_lt _ (by omega))
theorem great_word (c : Nat) : ∀ b ∈ greatL c, isW b = true := by
 intro b hb
 unfold greatL at hb
 rw [List.mem_append] at hb
 rcases hb with hb | hb
 ·rw [(List.mem_replicate.1 hb).2]; decide +kernel
 ·exact hexL_word (c + 1) c (by omega) b hb
theorem great_len {c : Nat} (h : c < 16777216) : 4 ≤ (greatL c).length ∧ (greatL c).length ≤ 6 := by
 have := hexL_len 5 c (by omega)
 unfold greatL
 simp
 omega
theorem wordL_all {a : List UInt8} (h : ∀ b ∈ a, isW b = true) {c : UInt8} (hc : isW c = false) (r : List UInt8) : wordL (a ++ c :: r) = a := by
 unfold wordL
 rw [List.takeWhile_append_of_pos h, List.takeWhile_cons, if_neg (by rw [hc]; decide), List.append_nil]
theorem nameL_all {a : List UInt8} (h : ∀ b ∈ a, isW b = true) (r : List UInt8) : nameL (60 :: (a ++ 62 :: r)) = a := by
 have hw : wordL (a ++ 62 :: r) = a := wordL_all h (by decide +kernel) r
 rw [nameL_cons, hw, if_pos ⟨rfl, by rw [List.drop_left]; rfl⟩]
theorem step_tok {l a r : List UInt8} {at_ : Nat} {acc : List Tok} (hl : l = 60 :: (a ++ 62 :: r)) : stepL l at_ acc = match tokL l with
  | some (k, t, n, m) => some (acc ++ [⟨k, t, n, at_⟩], m)
  | none => none := by
 have hb : blankL l = 0 := by rw [hl, blankL_cons, if_neg (by decide), if_neg (by decide)]
 unfold stepL
 rw [hb, if_neg (by simp), if_neg (by rw [hl]; simp)]
 first | done | (rfl)
theorem step_scalar {l a r : List UInt8} {at_ n : Nat} {acc : List Tok} (hl : l = 60 :: (a ++ 62 :: r)) (h : ∀ b ∈ a, isW b = true) (hnum : numL a = some n) :
  stepL l at_ acc = if rightN n then some (acc ++ [⟨3, [], n, at_⟩], 2 + a.length) else none := by
 have hn : nameL l = a := by rw [hl]; exact nameL_all h r
 have hs : signL l = none := by rw [hl, signL_cons, if_neg (by decide), if_neg (by simp)]
 have ht : tokL l = if rightN n then some (3, [], n, 2 + a.length) else none := by
  unfold tokL
  rw [hs, hn]
  simp only [hnum]
 rw [step_tok hl, ht]
 by_cases hr : rightN n = true
 ·rw [if_pos hr, if_pos hr]
 ·rw [if_neg hr, if_neg hr]
theorem step_named {l a r : List UInt8} {at_ : Nat} {acc : List Tok} (hl : l = 60 :: (a ++ 62 :: r)) (h : ∀ b ∈ a, isW b = true) (hnum : numL a = none) (ha : a ≠ []) :
  stepL l at_ acc = some (acc ++ [⟨5, a, 0, at_⟩], 2 + a.length) := by
 have hn : nameL l = a := by rw [hl]; exact nameL_all h r
 have hs : signL l = none := by rw [hl, signL_cons, if_neg (by decide), if_neg (by simp)]
 have ht : tokL l = some (5, a, 0, 2 + a.length) := by
  unfold tokL
  rw [hs, hn]
  simp only [hnum]
  rw [if_pos ha]
 rw [step_tok hl, ht]
theorem run_blank {r : List UInt8} {at_ : Nat} {acc : List Tok} : runL (32 :: r) at_ acc = runL r (at_ + 1) acc := by
 have h : stepL (32 :: r) at_ acc = some (acc, 1) := by
  unfold stepL
  rw [show blankL (32 :: r) = 1 from by rw [blankL_cons, if_pos (by decide)], if_pos (by decide)]
 rw [runL_some (by simp) h (by omega)]
 rfl

theorem isW_not {b : UInt8} (h : isW b = true) : b ≠ 32 ∧ b ≠ 9 ∧ b ≠ 37 ∧ b ≠ 10 ∧ b ≠ 59 ∧ b ≠ 44 ∧ b ≠ 40 ∧ b ≠ 41 ∧ b ≠ 46 ∧ b ≠ 60 ∧ b ≠ 34 := by
 refine ⟨?_, ?_, ?_, ?_, ?_, ?_, ?_, ?_, ?_, ?_, ?_⟩
 all_goals
  intro e
  subst e
  revert h
  decide +kernel
theorem step_word {l a : List UInt8} {at_ : Nat} {acc : List Tok} (hw : wordL l = a) (ha : a ≠ []) : stepL l at_ acc = some (acc ++ [⟨1, a, 0, at_⟩], a.length) := by
 cases l with
 | nil => exact absurd hw.symm (by simpa [wordL] using ha)
 | cons b r =>
  have hb : isW b = true := by
   cases h : isW b with
   | true => rfl
   | false =>
    exfalso
    apply ha
    rw [← hw]
    unfold wordL
    rw [List.takeWhile_cons, if_neg (by rw [h]; decide)]
  obtain ⟨h1, h2, h3, h4, h5, h6, h7, h8, h9, h10, h11⟩ := isW_not hb
  have hbl : blankL (b :: r) = 0 := by rw [blankL_cons, if_neg (by simp [h1, h2]), if_neg h3]
  have hs : signL (b :: r) = none := by rw [signL_cons, if_neg (by simp [h5, h6, h7, h8]), if_neg (by simp [h9])]
  have hn : nameL (b :: r) = [] := by rw [nameL_cons, if_neg (by simp [h10])]
  have hq : quoL (b :: r) = none := by rw [quoL_cons, if_neg (by simp [h11])]
  have ht : tokL (b :: r) = some (1, a, 0, a.length) := by
   unfold tokL
   rw [hs, hn]
   simp only
   rw [show numL [] = none from rfl]
   simp only
   rw [if_neg (by simp), hq]
   simp only
   rw [hw, if_pos ha]
  unfold stepL
  rw [hbl, if_neg (by simp), if_neg (by simp [h4]), ht]
end Go.Proofs.YthaibekbefndlaaGreatDoor.C

namespace Go.Proofs.YthaibekbefndlaaGreatDoor.C
open Go.RowKit


set_option maxHeartbeats 400000 in
theorem refRight_any (c : Int) (w : World) : Calls Tryz.prog 93 #[.int .i32 c] w fun e w' => e = .returned (.bool (rightB c)) ∧ w = w' := by
 by_cases h1 : c < -256
 ·have hr : rightB c = false := by simp [rightB]; omega
  rw [hr]; clear hr
  have t1 : decide (-256 ≤ c) = false := by simp; omega
  have t2 : decide (57343 < c) = false := by simp; omega
  go_enter Tryz.func93, Tryz.ntmps93
  go_wp2
  all_goals go_ret
  all_goals exact ⟨rfl, rfl⟩
 by_cases h2 : c < 55296
 ·have hr : rightB c = true := by simp [rightB]; omega
  rw [hr]; clear hr
  go_enter Tryz.func93, Tryz.ntmps93
  go_wp2
  all_goals go_ret
  all_goals exact ⟨rfl, rfl⟩
 have t3 : decide (c < 55296) = false := by simpa using h2
 by_cases h3 : 57343 < c
 ·by_cases h4 : c ≤ 1114111
  ·have hr : rightB c = true := by simp [rightB]; omega
   rw [hr]; clear hr
   go_enter Tryz.func93, Tryz.ntmps93
   go_wp2
   all_goals go_ret
   all_goals exact ⟨rfl, rfl⟩
  ·have hr : rightB c = false := by simp [rightB]; omega
   rw [hr]; clear hr
   have t4 : decide (c ≤ 1114111) = false := by simpa using h4
   go_enter Tryz.func93, Tryz.ntmps93
   go_wp2
   all_goals go_ret
   all_goals exact ⟨rfl, rfl⟩
 ·have hr : rightB c = false := by simp [rightB]; omega
  rw [hr]; clear hr
  have t5 : decide (57343 < c) = false := by simpa using h3
  go_enter Tryz.func93, Tryz.ntmps93
  go_wp2
  all_goals go_ret
  all_goals exact ⟨rfl, rfl⟩
theorem refRight_is (c : Int) (w : World) (r : Bool) (hr : rightB c = r) : Calls Tryz.prog 93 #[.int .i32 c] w fun e w' => e = .returned (.bool r) ∧ w = w' := by
 subst hr
 exact refRight_any c w

set_option maxHeartbeats 400000 in
theorem refEscape_any (b : Int) (w : World) (h0 : 0 ≤ b) (h1 : b ≤ 255) : Calls Tryz.prog 226 #[.int .u8 b] w fun e w' => e = .returned (.int .i32 (-1 - b)) ∧ w = w' := by
 go_enter Tryz.func226, Tryz.ntmps226
 go_wp2
 go_ret
 exact ⟨rfl, rfl⟩

set_option maxHeartbeats 400000 in
theorem refByte_yes (c : Int) (w : World) (h0 : -256 ≤ c) (h1 : c < 0) : Calls Tryz.prog 94 #[.int .i32 c] w fun e w' => e = .returned (.tuple #[.int .u8 (-1 - c), .bool true]) ∧ w = w' := by
 have t1 : decide (0 ≤ c) = false := by simp; omega
 go_enter Tryz.func94, Tryz.ntmps94
 go_wp2
 go_ret2
 exact ⟨rfl, rfl⟩
set_option maxHeartbeats 400000 in
theorem refByte_no (c : Int) (w : World) (h0 : c < -256 ∨ 0 ≤ c) : Calls Tryz.prog 94 #[.int .i32 c] w fun e w' => e = .returned (.tuple #[.int .u8 0, .bool false]) ∧ w = w' := by
 rcases h0 with h | h
 ·have t1 : decide (0 ≤ c) = false := by simp; omega
  go_enter Tryz.func94, Tryz.ntmps94
  go_wp2
  all_goals go_ret2
  all_goals exact ⟨rfl, rfl⟩
 ·go_enter Tryz.func94, Tryz.ntmps94
  go_wp2
  all_goals go_ret2
  all_goals exact ⟨rfl, rfl⟩
end Go.Proofs.YthaibekbefndlaaGreatDoor.C
