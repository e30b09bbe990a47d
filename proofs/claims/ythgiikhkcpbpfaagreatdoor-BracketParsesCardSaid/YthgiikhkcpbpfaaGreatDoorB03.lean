/-
  Joined: MUtfB, MUtfU, MLxP, MLxO, MLxR, MLxQ, LcP, LcA, LcB, LcF, LcI, LcM, LjT, MUtfE, MUtfCan, LcG. Each with what its own head says.
-/
import Derived.Below
import Derived.Laws.OwnMore
import Derived.Deep.AppendLies
import Derived.Deep.Draws
import Derived.Deep.LoopGhost
import Derived.Maps.AppendAt
import Derived.WalkSmall
import Derived.WalkSpells
import Derived.Lib.Walk
import Derived.Lib.OthersKept
import Derived.Lib.DecodeN
import Derived.Lib.Case
import Derived.Lib.BufferWrite
import Derived.Deep.RegionLaw
import Derived.StillTailTactics
import Derived.WalkMore
import Derived.Defers
import Derived.Recover
import Derived.WalkLawsBesides
import Derived.Laws.CopyRow
import Derived.Laws.BitsAllLaws
import Derived.Laws.IdiomStrings
import Derived.Deep.RegionHeld3
import Derived.Deep.RegionWith
import Derived.OrdersHeld
import Derived.MapKept
import Derived.Laws.NewBlocks
import Derived.WideMake
import Derived.Laws.NewDeep
import Derived.Lib.RuneBytes
import Derived.Laws.BytesArg
import Derived.Lib.LaidU8
import Derived.Test.YthgiikhkcpbpfaaGreatDoorB01
import Derived.Test.YthgiikhkcpbpfaaGreatDoorB00
import Derived.Test.YthgiikhkcpbpfaaGreatDoorB02


namespace Go.Proofs.YthgiikhkcpbpfaaGreatDoor.C
open Go.RowKit
theorem block_of_add (a : Addr) (n : Nat) : (a.add n).block = a.block := by unfold Addr.add; split <;> rfl
theorem add_of_add (a : Addr) (i j : Nat) : (a.add i).add j = a.add (i + j) := by
 unfold Addr.add
 by_cases hi : i = 0 <;> by_cases hj : j = 0 <;> simp [hi, hj, Nat.add_assoc]
def RI (ki : IntKind) (w : World) (B : Nat) (A : Option Addr) (n : Nat) (zs : List Int) : Prop :=
 zs.length = n ∧ (0 < n → ∃ ad, A = some ad ∧ ad.block < B ∧ ∀ j u, zs[j]? = some u → w.cell? (ad.add j) = some (.int ki u))
section
variable {ki : IntKind} {w w' : World} {B B' n : Nat} {A : Option Addr} {zs : List Int}
theorem RI.none_ : RI ki w B A 0 [] := ⟨by simp, fun h => absurd h (by omega)⟩
theorem RI.at_ {k : Nat} (h : RI ki w B A n zs) (hk : k < n) : ∃ ad u, A = some ad ∧ ad.block < B ∧ zs[k]? = some u ∧ w.cell? (ad.add k) = some (.int ki u) := by
 obtain ⟨ad, e, hb, hc⟩ := h.2 (by omega)
 have hl : k < zs.length := by have := h.1; omega
 exact ⟨ad, zs[k], e, hb, List.getElem?_eq_getElem hl, hc k _ (List.getElem?_eq_getElem hl)⟩
theorem RI.keep (h : RI ki w B A n zs) (hk : ∀ p : Addr, p.block < B → w'.cell? p = w.cell? p) : RI ki w' B A n zs :=
 ⟨h.1, fun hn => by
  obtain ⟨ad, e, hb, hc⟩ := h.2 hn
  exact ⟨ad, e, hb, fun j u hu => (hk _ (by rw [block_of_add]; exact hb)).trans (hc j u hu)⟩⟩
theorem RI.more (h : RI ki w B A n zs) (hB : B ≤ B') : RI ki w B' A n zs :=
 ⟨h.1, fun hn => by
  obtain ⟨ad, e, hb, hc⟩ := h.2 hn
  exact ⟨ad, e, by omega, hc⟩⟩
theorem RI.below (h : RI ki w B A n zs) (hb : Below B w w') : RI ki w' B A n zs := h.keep fun _ hp => hb.cell hp
theorem RI.drew (h : RI ki w B A n zs) : RI ki w.drew B A n zs := h
theorem RI.drewN (h : RI ki w B A n zs) (k : Nat) : RI ki (w.drewN k) B A n zs := h
theorem RI.alloc (h : RI ki w B A n zs) (hB : B ≤ w.heap.size) (o : Obj) : RI ki (w.alloc o) B A n zs := h.keep fun p hp => World.cell?_alloc_lt w o p (by omega)
theorem RI.setCell (h : RI ki w B A n zs) {p : Addr} (hB : B ≤ p.block) (u : Value) : RI ki (w.setCell p u) B A n zs :=
 h.keep fun q hq => World.cell?_setCell_other w p q u (fun e => by subst e; omega)
theorem RI.grown (h : RI ki w B A n zs) {row : Option Nat} (hg : w.grownBy w' row) (hB : B ≤ w.heap.size) (hr : ∀ g, row = some g → B ≤ g) : RI ki w' B A n zs :=
 h.keep fun p hp => World.cell?_of_block (hg.block p.block (by omega) (fun e => by have := hr _ e.symm; omega))
theorem RI.len (h : RI ki w B A n zs) : zs.length = n := h.1
end
theorem ret_int {k : IntKind} {a b : Int} (h : a = b) : Ending.returned (.int k a) = .returned (.int k b) := by rw [h]
theorem drew3 (w : World) (a b c : Nat) : ∃ q, ((w.drewN a).drewN b).drewN c = w.drewN q := ⟨_, by rw [World.drewN_drewN, World.drewN_drewN]⟩
theorem drewN_zero (w : World) : w = w.drewN 0 := rfl
set_option maxHeartbeats 1000000 in
theorem refCompare_any (w : World) (Bx By : Nat) (Ax Ay : Option Addr) (n cx m cy : Nat) (xs ys : List Int) (hx : RI .i32 w Bx Ax n xs) (hy : RI .i32 w By Ay m ys) (hn : n ≤ maxLen) (_hm : m ≤ maxLen) :
  Calls Tryz.prog 81 #[.slice Ax n cx, .slice Ay m cy] w fun e w' => e = .returned (.int .i64 (cmpL xs ys)) ∧ ∃ q, w' = w.drewN q := by
 unfold maxLen at hn
 have HX := Lib.hid hx
 have HY := Lib.hid hy
 clear hx hy
 go_enter Tryz.func81, Tryz.ntmps81
 go_wp2
 go_loopw [5] (fun i wr => ∃ k q : Nat, k ≤ n ∧ k ≤ m ∧ i = .int .i64 k ∧ CmpSt xs ys k ∧ wr = w.drewN q) (fun i _ => n - (intOf i).toNat)
 case atStart => exact ⟨0, 0, Nat.zero_le _, Nat.zero_le _, rfl, cmpSt_zero _ _, drewN_zero w⟩
 case round =>
  obtain ⟨k, q, hk, hkm, rfl, hst, rfl⟩ := hrel
  have HS := Lib.hid hst
  clear hst
  by_cases hlt : k < n
  ·obtain ⟨ad, a, rfl, _, ha, hca⟩ := HX.out.at_ hlt
   have HA := Lib.hid ha
   clear ha
   by_cases hlm : k < m
   ·obtain ⟨ad2, b, rfl, _, hb, hcb⟩ := HY.out.at_ hlm
    have HB := Lib.hid hb
    clear hb
    have k0 : (0 : Int) ≤ (k : Int) := by omega
    have k1 : (k : Int) < (n : Int) := by omega
    have k2 : (k : Int) < (m : Int) := by omega
    by_cases h1 : a < b
    ·go_wp2
     go_quiet (fail)
     go_wp2
     go_ret
     exact ⟨ret_int (cmpSt_less HS.out HA.out HB.out h1).symm, _, World.drewN_drewN _ _ _⟩
    ·by_cases h2 : b < a
     ·have h1' : decide (a < b) = false := by simpa using h1
      go_wp2
      go_quiet (fail)
      go_wp2
      go_quiet (fail)
      go_wp2
      go_ret
      exact ⟨ret_int (cmpSt_more HS.out HA.out HB.out h2).symm, drew3 _ _ _ _⟩
     ·have h1' : decide (a < b) = false := by simpa using h1
      have h2' : decide (b < a) = false := by simpa using h2
      go_wp2
      go_quiet (fail)
      go_wp2
      go_quiet (fail)
      go_wp2
      go_roundw
      case rel => exact ⟨k + 1, _, by omega, by omega, by go_num, cmpSt_step HS.out HA.out HB.out (by omega) (by omega), rfl⟩
      case measure => simp [intOf]; omega
   ·go_wp2
    go_ret
    exact ⟨ret_int (cmpSt_long HS.out (by rw [HX.out.len]; omega) (by rw [HY.out.len]; omega)).symm, _, rfl⟩
  ·by_cases hlm : k < m
   ·go_wp2
    go_ret
    exact ⟨ret_int (cmpSt_short HS.out (by rw [HX.out.len]; omega) (by rw [HY.out.len]; omega)).symm, _, rfl⟩
   ·go_wp2
    go_ret
    exact ⟨ret_int (cmpSt_alike HS.out (by rw [HX.out.len]; omega) (by rw [HY.out.len]; omega)).symm, _, rfl⟩
def sameL (xs ys : List Int) : Bool := cmpL xs ys == 0
set_option maxHeartbeats 400000 in
theorem same_any (w : World) (Bx By : Nat) (Ax Ay : Option Addr) (n cx m cy : Nat) (xs ys : List Int) (hx : RI .i32 w Bx Ax n xs) (hy : RI .i32 w By Ay m ys) (hn : n ≤ maxLen) (hm : m ≤ maxLen) :
  Calls Tryz.prog 56 #[.slice Ax n cx, .slice Ay m cy] w fun e w' => e = .returned (.bool (sameL xs ys)) ∧ ∃ q, w' = w.drewN q := by
 have HX := Lib.hid hx
 have HY := Lib.hid hy
 clear hx hy
 go_enter Tryz.func56, Tryz.ntmps56
 go_wp2_with fail
 refine (refCompare_any w Bx By Ax Ay n cx m cy xs ys HX.out HY.out hn hm).mono ?_
 rintro e w' ⟨rfl, q, rfl⟩
 go_wp2
 go_ret
 exact ⟨rfl, q, rfl⟩
theorem info33 : (Tryz.prog.info? 30).map (fun i => (i.zero, i.size, i.bytes)) = some (some (.int .i32 0), 1, 4) := by kernel_rfl
theorem RI.cut {ki : IntKind} {w : World} {B n : Nat} {A : Option Addr} {zs : List Int} (h : RI ki w B A n zs) {k m cap : Nat} (hk : k + m ≤ n) (hc : n ≤ cap) :
  RI ki w B (if cap = k then A else A.map (·.add k)) m ((zs.drop k).take m) := by
 refine ⟨by have := h.1; simp; omega, fun hn => ?_⟩
 obtain ⟨ad, rfl, hb, hcell⟩ := h.2 (by omega)
 rw [if_neg (by omega)]
 refine ⟨ad.add k, rfl, by rw [block_of_add]; exact hb, fun j u hu => ?_⟩
 rw [add_of_add]
 refine hcell _ u ?_
 rw [List.getElem?_take] at hu
 split at hu
 ·rw [← hu, List.getElem?_drop]
 ·cases hu
theorem sameL_true {xs ys : List Int} (h : xs = ys) : sameL xs ys = true := by simp [sameL, (cmpL_eq xs ys).2 h]
theorem sameL_false {xs ys : List Int} (h : xs ≠ ys) : sameL xs ys = false := by
 have : cmpL xs ys ≠ 0 := fun e => h ((cmpL_eq xs ys).1 e)
 simp [sameL, this]
theorem same_yes (w : World) (Bx By : Nat) (Ax Ay : Option Addr) (n cx m cy : Nat) (xs ys : List Int) (h : xs = ys) (hx : RI .i32 w Bx Ax n xs) (hy : RI .i32 w By Ay m ys) (hn : n ≤ maxLen) (hm : m ≤ maxLen) :
  Calls Tryz.prog 56 #[.slice Ax n cx, .slice Ay m cy] w fun e w' => e = .returned (.bool true) ∧ ∃ q, w' = w.drewN q := by
 have := same_any w Bx By Ax Ay n cx m cy xs ys hx hy hn hm
 rw [sameL_true h] at this
 exact this
theorem same_no (w : World) (Bx By : Nat) (Ax Ay : Option Addr) (n cx m cy : Nat) (xs ys : List Int) (h : xs ≠ ys) (hx : RI .i32 w Bx Ax n xs) (hy : RI .i32 w By Ay m ys) (hn : n ≤ maxLen) (hm : m ≤ maxLen) :
  Calls Tryz.prog 56 #[.slice Ax n cx, .slice Ay m cy] w fun e w' => e = .returned (.bool false) ∧ ∃ q, w' = w.drewN q := by
 have := same_any w Bx By Ax Ay n cx m cy xs ys hx hy hn hm
 rw [sameL_false h] at this
 exact this
theorem RI.of_own {w : World} {base : Nat} {e : TypeId} {ki : IntKind} {A : Option Addr} {n c : Nat} {zs : List Int} (h : w.ownsRow base e 1 (.slice A n c) n (zs.map (Value.int ki))) : RI ki w w.heap.size A n zs := by
 refine ⟨by have := h.1; simpa using this, fun hn => ?_⟩
 obtain ⟨g, cap, hv, _, hlt⟩ := h.form hn
 have hA : A = some ⟨g, 0, none⟩ := by injection hv
 subst hA
 refine ⟨_, rfl, hlt, fun j u hu => h.cells (g := g) rfl j _ ?_⟩
 simp [hu]
theorem right_is (c : Int) (w : World) (r : Bool) (hr : rightB c = r) : Calls Tryz.prog 137 #[.int .i32 c] w fun e w' => e = .returned (.bool r) ∧ w = w' := by
 subst hr
 exact right_any c w
theorem own_keep {w w' : World} {base : Nat} {e : TypeId} {size : Nat} {v : Value} {n : Nat} {xs : List Value} (h : w.ownsRow base e size v n xs) (hb : Below w.heap.size w w') : w'.ownsRow base e size v n xs := by
 refine ⟨h.1, ?_⟩
 rcases h.2 with h1 | ⟨g, cap, cur, h1, h2, h3, h4⟩
 ·exact .inl h1
 ·exact .inr ⟨g, cap, cur, h1, h2, (hb.block g (Array.getElem?_eq_some_iff.1 h3).1).trans h3, h4⟩
def str (l : List UInt8) : ByteArray := ⟨l.toArray⟩
@[simp] theorem str_list (l : List UInt8) : (str l).data.toList = l := rfl
theorem take_snoc {α : Type} {l : List α} {k : Nat} {a : α} (h : l[k]? = some a) : l.take (k + 1) = l.take k ++ [a] := by
 rw [List.take_add_one, h]; rfl
end Go.Proofs.YthgiikhkcpbpfaaGreatDoor.C


namespace Go.Proofs.YthgiikhkcpbpfaaGreatDoor.C
open Go.RowKit
open Go.Lib (decodeN)
theorem str_size (l : List UInt8) : (str l).size = l.length := by simp [str, ByteArray.size]
theorem decodeN_le (m b0 b1 b2 b3 : Nat) (hm : 1 ≤ m) : (decodeN m b0 b1 b2 b3).2 ≤ m := by
 unfold decodeN
 repeat' split
 all_goals simp only
 all_goals omega
theorem decodeN_bad (m b0 b1 b2 b3 : Nat) (h : (decodeN m b0 b1 b2 b3).1 = 65533) (hn : ¬ (3 ≤ m ∧ b0 = 239 ∧ b1 = 191 ∧ b2 = 189)) : decodeN m b0 b1 b2 b3 = (65533, 1) := by
 revert h
 unfold decodeN
 repeat' split
 all_goals intro h
 all_goals first | rfl | (exfalso; simp only at h; omega)
theorem decodeN_fffd (m b3 : Nat) (h : 3 ≤ m) : decodeN m 239 191 189 b3 = (65533, 3) := by
 unfold decodeN
 rw [if_neg (by omega), if_neg (by omega), if_pos (by omega), if_pos (by omega)]
def gb (s : ByteArray) (i : Nat) : Nat := (s.get! i).toNat
theorem gb_list (s : ByteArray) (i : Nat) : gb s i = (s.data.toList.getD i 0).toNat := by
 unfold gb
 congr 1
 show s.data[i]! = _
 by_cases h : i < s.data.size
 ·rw [getElem!_pos s.data i h, List.getD_eq_getElem?_getD, List.getElem?_eq_getElem (by simpa using h)]
  simp
 ·rw [getElem!_neg s.data i h, List.getD_eq_getElem?_getD, List.getElem?_eq_none (by simpa using h)]
  rfl
theorem gb_lt (s : ByteArray) (i : Nat) : gb s i < 256 := (s.get! i).toNat_lt
def cellN (n b0 b1 b2 b3 : Nat) : Int := if decodeN n b0 b1 b2 b3 = (65533, 1) then -1 - (b0 : Int) else ((decodeN n b0 b1 b2 b3).1 : Int)
theorem decode_gb (s : ByteArray) (i : Nat) : Utf8.decode s i = decodeN (s.size - i) (gb s i) (gb s (i + 1)) (gb s (i + 2)) (gb s (i + 3)) := Lib.decode_at s i
theorem hasP_iff (s : ByteArray) (pos : Nat) (hp : pos < s.size) : hasP s pos = true ↔ (3 ≤ s.size - pos ∧ gb s pos = 239 ∧ gb s (pos + 1) = 191 ∧ gb s (pos + 2) = 189) := by
 have hl : s.size = s.data.toList.length := (Array.length_toList (xs := s.data)).symm
 have he : (s.extract pos s.size).data.toList = s.data.toList.drop pos := by
  rw [Lib.extract_data]
  exact List.take_of_length_le (by rw [List.length_drop]; omega)
 unfold hasP Lib.hasPrefix
 rw [he, List.isPrefixOf_iff_prefix]
 simp only [gb_list]
 rw [hl]
 generalize s.data.toList = l
 have hg : ∀ k, l.getD (pos + k) 0 = (l.drop pos).getD k 0 := by
  intro k
  simp [List.getD_eq_getElem?_getD]
 have hlen : l.length - pos = (l.drop pos).length := by simp
 have hg0 := hg 0
 rw [Nat.add_zero] at hg0
 rw [hg0, hg 1, hg 2, hlen]
 generalize l.drop pos = d
 constructor
 ·rintro ⟨r, rfl⟩
  simp
 ·rintro ⟨h3, h0, h1, h2⟩
  match d, h3, h0, h1, h2 with
  | a :: b :: c :: r, _, h0, h1, h2 =>
   simp at h0 h1 h2
   have e0 : a = 239 := UInt8.toNat_inj.1 h0
   have e1 : b = 191 := UInt8.toNat_inj.1 h1
   have e2 : c = 189 := UInt8.toNat_inj.1 h2
   subst e0 e1 e2
   exact ⟨r, rfl⟩
theorem cellAt_eq (s : ByteArray) (pos : Nat) (hp : pos < s.size) : cellAt s pos = cellN (s.size - pos) (gb s pos) (gb s (pos + 1)) (gb s (pos + 2)) (gb s (pos + 3)) := by
 have hd := decode_gb s pos
 unfold cellAt cellN
 rw [hd]
 by_cases hbad : decodeN (s.size - pos) (gb s pos) (gb s (pos + 1)) (gb s (pos + 2)) (gb s (pos + 3)) = (65533, 1)
 ·have hh : hasP s pos = false := by
   cases h : hasP s pos with
   | false => rfl
   | true =>
    obtain ⟨h1, h2, h3, h4⟩ := (hasP_iff s pos hp).1 h
    rw [h2, h3, h4, decodeN_fffd _ _ h1] at hbad
    cases hbad
  rw [if_pos hbad, hbad, if_pos ⟨by decide, hh⟩]
  rfl
 ·rw [if_neg hbad, if_neg]
  rintro ⟨h1, h2⟩
  have h1' : (decodeN (s.size - pos) (gb s pos) (gb s (pos + 1)) (gb s (pos + 2)) (gb s (pos + 3))).1 = 65533 := by
   simp only [beq_iff_eq] at h1
   omega
  refine hbad (decodeN_bad _ _ _ _ _ h1' ?_)
  intro h3
  rw [(hasP_iff s pos hp).2 h3] at h2
  cases h2
end Go.Proofs.YthgiikhkcpbpfaaGreatDoor.C


namespace Go.Proofs.YthgiikhkcpbpfaaGreatDoor.C
structure Tok where
 k : Nat
 t : List UInt8
 n : Nat
 at_ : Nat
def isW (b : UInt8) : Bool := decide (97 ≤ b.toNat ∧ b.toNat ≤ 122 ∨ 65 ≤ b.toNat ∧ b.toNat ≤ 90 ∨ 48 ≤ b.toNat ∧ b.toNat ≤ 57 ∨ b.toNat = 45 ∨ b.toNat = 95)
def wordL (l : List UInt8) : List UInt8 := l.takeWhile isW
def nameL : List UInt8 → List UInt8
 | [] => []
 | c :: r => if c = 60 ∧ (r.drop (wordL r).length).head? = some 62 then wordL r else []
def digV (b : UInt8) : Option Nat :=
 if 48 ≤ b.toNat ∧ b.toNat ≤ 57 then some (b.toNat - 48) else if 97 ≤ b.toNat ∧ b.toNat ≤ 102 then some (b.toNat - 87) else if 65 ≤ b.toNat ∧ b.toNat ≤ 70 then some (b.toNat - 55) else none
def hexN : List UInt8 → Nat → Option Nat
 | [], n => some n
 | b :: r, n => match digV b with
  | some d => hexN r (16 * n + d)
  | none => none
def numL : List UInt8 → Option Nat
 | [] => none
 | c :: d => if c = 85 ∧ 4 ≤ d.length ∧ d.length ≤ 6 then hexN d 0 else none
def rightN (n : Nat) : Bool := decide (n < 55296 ∨ 57343 < n ∧ n ≤ 1114111)
def quoL : List UInt8 → Option (List UInt8)
 | [] => none
 | c :: r => if c = 34 ∧ (r.takeWhile (· ≠ 34)).length < r.length ∧ 10 ∉ r.takeWhile (· ≠ 34) then some (r.takeWhile (· ≠ 34)) else none
def signL : List UInt8 → Option (List UInt8)
 | [] => none
 | c :: r => if c = 59 ∨ c = 44 ∨ c = 40 ∨ c = 41 then some [c] else if c = 46 ∧ r.take 2 = [46, 46] then some [46, 46, 46] else none
def tokL (l : List UInt8) : Option (Nat × List UInt8 × Nat × Nat) :=
 match signL l with
 | some s => some (2, s, 0, s.length)
 | none => match numL (nameL l) with
  | some n => if rightN n then some (3, [], n, 2 + (nameL l).length) else none
  | none => if nameL l ≠ [] then some (5, nameL l, 0, 2 + (nameL l).length) else
   match quoL l with
   | some t => some (4, t, 0, 2 + t.length)
   | none => if wordL l ≠ [] then some (1, wordL l, 0, (wordL l).length) else none
theorem numL_cons (c : UInt8) (d : List UInt8) : numL (c :: d) = if c = 85 ∧ 4 ≤ d.length ∧ d.length ≤ 6 then hexN d 0 else none := rfl
end Go.Proofs.YthgiikhkcpbpfaaGreatDoor.C


namespace Go.Proofs.YthgiikhkcpbpfaaGreatDoor.C
open Go.RowKit
def Gl (w : World) : Prop := w.cell? ⟨5, 15, none⟩ = some (.int .u8 4)
theorem Gl.next {w w' : World} (h : Gl w) (hb : Below w.heap.size w w') : Gl w' := (hb.cell (p := ⟨5, 15, none⟩) (World.block_lt_of_cell? w _ h)).trans h
end Go.Proofs.YthgiikhkcpbpfaaGreatDoor.C


namespace Go.Proofs.YthgiikhkcpbpfaaGreatDoor.C
open Go.RowKit
theorem add_plain (b off j : Nat) : (⟨b, off, none⟩ : Addr).add j = ⟨b, off + j, none⟩ := by unfold Addr.add; split <;> simp_all
theorem row_ne {w : World} {base : Nat} {e : TypeId} {size n : Nat} {u : Value} {xs : List Value} (h : w.ownsRow base e size u n xs) {g : Nat} {cur : Array Value} {t : TypeId} {f : Nat × Nat} (hg : w.heap[g]? = some (.cells cur t f)) (hte : t ≠ e) : u.ownBlock ≠ some g := by
 intro he
 rcases h.2 with ⟨rfl, _⟩ | ⟨g', c, cur', rfl, _, hg', _⟩
 ·simp [Value.ownBlock] at he
 ·obtain rfl : g' = g := by simpa [Value.ownBlock] using he
  rw [hg] at hg'
  simp at hg'
  exact hte hg'.2.1
def tkC (x : Tok) : List Value := [.int .u8 x.k, .string (str x.t), .int .i64 x.n, .int .i64 x.at_]
section
variable {w w' : World} {R k : Nat} {s : ByteArray} {ts : List Tok}
end
theorem clone_any (s : ByteArray) (w : World) (hs : s.size ≤ 4000) : Calls Tryz.prog 60 #[.string s] w fun e w' => e = .returned (.string s) ∧ Below w.heap.size w w' := by
 have h := Tryz.stringslite_Clone s w (by omega)
 go_enter Tryz.func60, Tryz.ntmps60
 go_wp2_with (go_at_call 95; refine h.mono ?_; rintro e w' ⟨rfl, hb⟩)
 go_ret
 exact ⟨rfl, hb⟩
end Go.Proofs.YthgiikhkcpbpfaaGreatDoor.C


namespace Go.Proofs.YthgiikhkcpbpfaaGreatDoor.C
open Go.RowKit
theorem heap_new (w : World) (o : Obj) : (w.alloc o).heap[w.heap.size]? = some o := by
 show (w.heap.push o)[w.heap.size]? = _
 simp
theorem heap_lt (w : World) (o : Obj) {j : Nat} (h : j < w.heap.size) : (w.alloc o).heap[j]? = w.heap[j]? := by
 show (w.heap.push o)[j]? = _
 rw [Array.getElem?_push, if_neg (by omega)]
end Go.Proofs.YthgiikhkcpbpfaaGreatDoor.C


namespace Go.Proofs.YthgiikhkcpbpfaaGreatDoor.C
structure Cls where
 name : List UInt8
 rs : List (Int × Int)
deriving DecidableEq
structure Elm where
 name : List UInt8
 cells : List Int
 same : Int
deriving DecidableEq
structure Loc where
 cls : List Cls
 up : List (Int × Int)
 lo : List (Int × Int)
 ord : List Elm
deriving DecidableEq
structure Sta where
 l : Loc
 d : List (List UInt8 × List Int)
abbrev Er := Nat × Nat
abbrev Re (α : Type) := Except Er (α × List Tok)
def noL : Loc := ⟨[], [], [], []⟩
def wClass : List UInt8 := [99, 108, 97, 115, 115]
def sSemi : List UInt8 := [59]
def sThru : List UInt8 := [46, 46, 46]
def takeK (ks : List Nat) : List Tok → Re Tok
 | [] => .error (30, 0)
 | t :: r => if t.k ∈ ks then .ok (t, r) else .error (30, t.at_)
def lookD (d : List (List UInt8 × List Int)) (n : List UInt8) : Option (List Int) := (d.find? (fun x => decide (x.1 = n))).map Prod.snd
def placeL (o : List Elm) (c : List Int) : Option Nat := o.findIdx? (fun e => decide (e.cells = c))
end Go.Proofs.YthgiikhkcpbpfaaGreatDoor.C


namespace Go.Proofs.YthgiikhkcpbpfaaGreatDoor.C
open Go.RowKit
def inKs (ks : List Int) (v : Int) : Bool := ks.contains v
structure TV where
 A : Option Addr
 n : Nat
 c : Nat
 ts : List Tok
def Moved (w w' : World) (R : Nat) : Prop := w.grownBy w' (some R)
section
variable {w w' : World} {R k : Nat} {T : TV} {v1 v2 v3 v4 v5 : Value}
theorem Moved.of_below (h : Below w.heap.size w w') : Moved w w' R := ⟨h.os, h.tape, h.output, h.size, fun i hi _ => h.block i hi⟩
theorem Moved.trans {a b c : World} (h : Moved a b R) (k : Moved b c R) : Moved a c R := ⟨k.os.trans h.os, k.tape.trans h.tape, k.output.trans h.output, Nat.le_trans h.size k.size, fun i hi hne => (k.block i (Nat.lt_of_lt_of_le hi h.size) hne).trans (h.block i hi hne)⟩
theorem Moved.refl (w : World) (R : Nat) : Moved w w R := ⟨rfl, rfl, rfl, Nat.le_refl _, fun _ _ _ => rfl⟩
theorem Moved.alloc (h : Moved w w' R) (o : Obj) : Moved w (w'.alloc o) R := h.trans (.of_below ((Below.refl _ _).alloc (Nat.le_refl _) o))
theorem Moved.below {B : Nat} (h : Moved w w' R) (hB : B ≤ R) (hw : B ≤ w.heap.size) : Below B w w' := ⟨h.os, h.tape, h.output, h.size, fun i hi => h.block i (by omega) (fun e => by injection e; omega)⟩
end
end Go.Proofs.YthgiikhkcpbpfaaGreatDoor.C


namespace Go.Proofs.YthgiikhkcpbpfaaGreatDoor.C
open Go.RowKit
theorem below_drew {B : Nat} {a w : World} (h : Below B a w) : Below B a w.drew := ⟨h.os, h.tape, h.output, h.size, h.block⟩
theorem Moved.drew {w w' : World} {R : Nat} (h : Moved w w' R) : Moved w w'.drew R := ⟨h.os, h.tape, h.output, h.size, h.block⟩
end Go.Proofs.YthgiikhkcpbpfaaGreatDoor.C


namespace Go.Proofs.YthgiikhkcpbpfaaGreatDoor.C
open Go.RowKit
def Ended (ts : List Tok) : Prop := ∃ p x, ts = p ++ [x] ∧ x.k = 6
theorem Ended.cons {x : Tok} {r : List Tok} (h : Ended (x :: r)) (hk : x.k ≠ 6) : Ended r := by
 obtain ⟨p, y, he, hy⟩ := h
 cases p with
 | nil =>
  simp at he
  exact absurd (he.1 ▸ hy) hk
 | cons a p =>
  simp at he
  exact ⟨p, y, he.2, hy⟩
def NumOk (T : TV) : Prop := ∀ t ∈ T.ts, t.n ≤ 1114111
theorem NumOk.at_ {T : TV} (h : NumOk T) {k : Nat} {x : Tok} {r : List Tok} (hr : T.ts.drop k = x :: r) : x.n ≤ 1114111 := h x (List.mem_of_mem_drop (i := k) (by rw [hr]; simp))
def Two (w : World) (b : Nat) (t : TypeId) (u v : Value) : Prop := w.heap[b]? = some (.cells #[u, v] t (0, 0))
theorem Two.cells {w : World} {b : Nat} {t : TypeId} {u v : Value} (h : Two w b t u v) : w.cell? ⟨b, 0, none⟩ = some u ∧ w.cell? ⟨b, 1, none⟩ = some v := by simp [World.cell?, show w.heap[b]? = _ from h]
theorem Two.frozen {w : World} {b : Nat} {t : TypeId} {u v : Value} (h : Two w b t u v) (i : Nat) : w.frozen? ⟨b, i, none⟩ = false := by simp [World.frozen?, show w.heap[b]? = _ from h]
theorem Two.lt {w : World} {b : Nat} {t : TypeId} {u v : Value} (h : Two w b t u v) : b < w.heap.size := (Array.getElem?_eq_some_iff.1 h).1
theorem Two.alloc {w : World} {b : Nat} {t : TypeId} {u v : Value} (h : Two w b t u v) (o : Obj) : Two (w.alloc o) b t u v := (Below.heap_alloc w o b h.lt).trans h
theorem Two.drew {w : World} {b : Nat} {t : TypeId} {u v : Value} (h : Two w b t u v) : Two w.drew b t u v := h
theorem Two.new (w : World) (t : TypeId) (u v : Value) : Two (w.alloc (.cells #[u, v] t)) w.heap.size t u v := heap_alloc_new w _
section
variable (w : World) (R : Nat) (T : TV) (k : Nat) (v1 v2 v3 v4 v5 : Value)
end
end Go.Proofs.YthgiikhkcpbpfaaGreatDoor.C


namespace Go.Proofs.YthgiikhkcpbpfaaGreatDoor.C
open Go.RowKit
theorem pair_new (w : World) (k : Nat) (a b : Value) (t : TypeId) (hk : w.heap.size = k) : ∀ j u, [a, b][j]? = some u → (w.alloc (.cells #[a, b] t)).cell? ((⟨k, 0, none⟩ : Addr).add j) = some u := by
 subst hk
 intro j u hu
 rw [add_plain, Nat.zero_add, World.cell?_alloc_new]
 simpa using hu
theorem infoRange : (Tryz.prog.info? 46).map (fun i => (i.zero, i.size, i.bytes)) = some (some (.agg #[.int .i32 0, .int .i32 0]), 2, 8) := by kernel_rfl
def prsC (l : List (Int × Int)) : List Value := l.flatMap fun x => [.int .i32 x.1, .int .i32 x.2]
theorem prsC_snoc (l : List (Int × Int)) (x : Int × Int) : prsC (l ++ [x]) = prsC l ++ [.int .i32 x.1, .int .i32 x.2] := by simp [prsC]
def One (w : World) (b : Nat) (t : TypeId) (v : Value) : Prop := w.heap[b]? = some (.cells #[v] t (0, 0))
theorem One.cell {w : World} {b : Nat} {t : TypeId} {v : Value} (h : One w b t v) : w.cell? ⟨b, 0, none⟩ = some v := by simp [World.cell?, show w.heap[b]? = _ from h]
theorem One.lt {w : World} {b : Nat} {t : TypeId} {v : Value} (h : One w b t v) : b < w.heap.size := (Array.getElem?_eq_some_iff.1 h).1
theorem One.kept {w w' : World} {row : Option Nat} {b : Nat} {t : TypeId} {v : Value} (h : One w b t v) (hg : w.grownBy w' row) (hne : some b ≠ row) : One w' b t v := (hg.block b h.lt hne).trans h
theorem One.alloc {w : World} {b : Nat} {t : TypeId} {v : Value} (h : One w b t v) (o : Obj) : One (w.alloc o) b t v := (Below.heap_alloc w o b h.lt).trans h
theorem One.far {w : World} {b : Nat} {t : TypeId} {v : Value} (h : One w b t v) {p : Addr} (hp : b ≠ p.block) (u : Value) : One (w.setCell p u) b t v := (Below.heap_setCell w p u b hp).trans h
theorem Two.kept {w w' : World} {row : Option Nat} {b : Nat} {t : TypeId} {u v : Value} (h : Two w b t u v) (hg : w.grownBy w' row) (hne : some b ≠ row) : Two w' b t u v := (hg.block b h.lt hne).trans h
theorem Moved.kept {a w w' : World} {R : Nat} {row : Option Nat} (h : Moved a w R) (hg : w.grownBy w' row) (hr : ∀ g, row = some g → a.heap.size ≤ g) : Moved a w' R :=
 ⟨hg.os.trans h.os, hg.tape.trans h.tape, hg.output.trans h.output, Nat.le_trans h.size hg.size, fun j hj hne => (hg.block j (Nat.lt_of_lt_of_le hj h.size) (fun e => by have := hr j e.symm; omega)).trans (h.block j hj hne)⟩
section
variable (w0 : World) (R : Nat) (T : TV) (v1 v2 v3 v4 v5 : Value) (C Rb : Nat) (nm : Value)
theorem Two.set1 {w : World} {b : Nat} {t : TypeId} {u v : Value} (h : Two w b t u v) (x : Value) : Two (w.setCell ⟨b, 1, none⟩ x) b t u x := by
 obtain ⟨hlt, hk⟩ := Array.getElem?_eq_some_iff.1 h
 show (w.heap.modify b _)[b]? = _
 rw [Array.getElem?_eq_getElem (by rw [Array.size_modify]; exact hlt), Array.getElem_modify_self, hk]
 rfl
end
end Go.Proofs.YthgiikhkcpbpfaaGreatDoor.C


namespace Go.Proofs.YthgiikhkcpbpfaaGreatDoor.C
open Go.RowKit
def putObj (w : World) (b : Nat) (o : Obj) : World := { w with heap := w.heap.setIfInBounds b o }
theorem putObj_size (w : World) (b : Nat) (o : Obj) : (putObj w b o).heap.size = w.heap.size := by simp [putObj]
theorem putObj_at {w : World} {b : Nat} (o : Obj) (hb : b < w.heap.size) : (putObj w b o).heap[b]? = some o := by simp [putObj, hb]
theorem putObj_else (w : World) {b j : Nat} (o : Obj) (h : j ≠ b) : (putObj w b o).heap[j]? = w.heap[j]? := by
 simp only [putObj]
 rw [Array.getElem?_setIfInBounds_ne (Ne.symm h)]
section
variable {P : Program}
theorem run_insert (t k e : TypeId) (kd : TypeDesc) (ht : P.underlying t = some (.map k e)) (hk : P.underlying k = some kd) (w : World) (b : Nat) (es : Array MapEntry) (clock : Nat) (key val : Value)
  (hb : w.heap[b]? = some (.map es clock)) (hkey : MapKept.IsKey kd key) (hf : Instr.findNow kd key es.toList 0 = some none) :
  (Instr.mapUpdate t (.map (some b)) key val).run P w = .ok () (putObj w b (.map (es.push { key := key, val := val, born := clock }) (clock + 1))) := by
 have hc : (Instr.checkKey false 10000 k key).run P w = .ok () w := MapKept.run_checkKey hk hkey false 9999
 simp [Instr.mapUpdate, run_underlying ht, MapKept.run_getObj_map hb, hc, MapKept.run_findKey hk hf, MapKept.run_setObj_map _ hb, Result.andThen, putObj]
theorem run_look_yes (t k e : TypeId) (kd : TypeDesc) (ht : P.underlying t = some (.map k e)) (hk : P.underlying k = some kd) (w : World) (b : Nat) (es : Array MapEntry) (clock : Nat) (key val : Value) (i : Nat)
  (hb : w.heap[b]? = some (.map es clock)) (hkey : MapKept.IsKey kd key) (hf : Instr.findNow kd key es.toList 0 = some (some (i, val))) (c : Bool) :
  (Instr.lookup t (.map (some b)) key c).run P w = .ok (if c then .tuple #[val, .bool true] else val) w := by
 have hc : (Instr.checkKey es.isEmpty 10000 k key).run P w = .ok () w := MapKept.run_checkKey hk hkey _ 9999
 simp [Instr.lookup, run_underlying ht, MapKept.run_getObj_map hb, hc, MapKept.run_findKey hk hf, Result.andThen]
theorem run_look_no (t k e : TypeId) (kd : TypeDesc) (ht : P.underlying t = some (.map k e)) (hk : P.underlying k = some kd) (w : World) (b : Nat) (es : Array MapEntry) (clock : Nat) (key z : Value)
  (hz : (zeroValue e).run P w = .ok z w) (hb : w.heap[b]? = some (.map es clock)) (hkey : MapKept.IsKey kd key) (hf : Instr.findNow kd key es.toList 0 = some none) (c : Bool) :
  (Instr.lookup t (.map (some b)) key c).run P w = .ok (if c then .tuple #[z, .bool false] else z) w := by
 have hc : (Instr.checkKey es.isEmpty 10000 k key).run P w = .ok () w := MapKept.run_checkKey hk hkey _ 9999
 simp [Instr.lookup, run_underlying ht, MapKept.run_getObj_map hb, hc, MapKept.run_findKey hk hf, hz, Result.andThen]
end
def MapIs (w : World) (M : Nat) (kd : TypeDesc) (l : List (Value × Value)) : Prop :=
 ∃ es clock, w.heap[M]? = some (.map es clock) ∧ es.toList.map (fun e => (e.key, e.val)) = l ∧ (∀ x ∈ l, MapKept.IsKey kd x.1) ∧ (l.map Prod.fst).Nodup
section
variable {P : Program} {w : World} {M : Nat} {kd : TypeDesc} {l : List (Value × Value)} {t k e : TypeId} {key v : Value}
theorem MapIs.lt (h : MapIs w M kd l) : M < w.heap.size := by obtain ⟨es, c, h1, _⟩ := h; exact (Array.getElem?_eq_some_iff.1 h1).1
theorem MapIs.at_ {w' : World} (h : MapIs w M kd l) (hb : w'.heap[M]? = w.heap[M]?) : MapIs w' M kd l := by
 obtain ⟨es, c, h1, h2⟩ := h
 exact ⟨es, c, hb.trans h1, h2⟩
theorem MapIs.drewN (h : MapIs w M kd l) (n : Nat) : MapIs (w.drewN n) M kd l := h
theorem MapIs.new (w : World) (kd : TypeDesc) : MapIs (w.alloc (.map #[] 0)) w.heap.size kd [] := ⟨#[], 0, heap_alloc_new w _, rfl, by simp, by simp⟩
theorem MapIs.look_yes (h : MapIs w M kd l) (ht : P.underlying t = some (.map k e)) (hk : P.underlying k = some kd) (hkey : MapKept.IsKey kd key) (hm : (key, v) ∈ l) (c : Bool) :
  (Instr.lookup t (.map (some M)) key c).run P w = .ok (if c then .tuple #[v, .bool true] else v) w := by
 obtain ⟨es, clock, h1, h2, h3, h4⟩ := h
 have hks : ∀ x ∈ es.toList, MapKept.IsKey kd x.key := fun x hx => h3 (x.key, x.val) (by rw [← h2]; exact List.mem_map_of_mem hx)
 rcases MapKept.findNow_spec hkey es.toList 0 hks with ⟨_, hn⟩ | ⟨j, x, hf, hj, hx⟩
 ·rw [← h2, List.mem_map] at hm
  obtain ⟨x, hx, hxe⟩ := hm
  exact absurd (congrArg Prod.fst hxe) (hn x hx)
 ·have hv : x.val = v := by
   have hin : (x.key, x.val) ∈ l := by rw [← h2]; exact List.mem_map_of_mem (List.mem_of_getElem? hj)
   rw [hx] at hin
   have key_inj : ∀ (l : List (Value × Value)), (l.map Prod.fst).Nodup → (key, x.val) ∈ l → (key, v) ∈ l → x.val = v := by
    intro l
    induction l with
    | nil => intro _ h; cases h
    | cons a r ih =>
     intro hn ha hb
     rw [List.map_cons, List.nodup_cons] at hn
     rcases List.mem_cons.1 ha with ha | ha <;> rcases List.mem_cons.1 hb with hb | hb
     ·rw [← ha] at hb; exact (congrArg Prod.snd hb).symm
     ·exact absurd (by rw [← ha]; exact List.mem_map.2 ⟨_, hb, rfl⟩) hn.1
     ·exact absurd (by rw [← hb]; exact List.mem_map.2 ⟨_, ha, rfl⟩) hn.1
     ·exact ih hn.2 ha hb
   exact key_inj l h4 hin hm
  rw [← hv]
  exact run_look_yes t k e kd ht hk w M es clock key x.val _ h1 hkey hf c
theorem MapIs.look_no (h : MapIs w M kd l) (ht : P.underlying t = some (.map k e)) (hk : P.underlying k = some kd) (hkey : MapKept.IsKey kd key) (hm : key ∉ l.map Prod.fst) {z : Value} (hz : (zeroValue e).run P w = .ok z w) (c : Bool) :
  (Instr.lookup t (.map (some M)) key c).run P w = .ok (if c then .tuple #[z, .bool false] else z) w := by
 obtain ⟨es, clock, h1, h2, h3, h4⟩ := h
 have hks : ∀ x ∈ es.toList, MapKept.IsKey kd x.key := fun x hx => h3 (x.key, x.val) (by rw [← h2]; exact List.mem_map_of_mem hx)
 rcases MapKept.findNow_spec hkey es.toList 0 hks with ⟨hf, _⟩ | ⟨j, x, hf, hj, hx⟩
 ·exact run_look_no t k e kd ht hk w M es clock key z hz h1 hkey hf c
 ·exfalso
  apply hm
  rw [← h2, List.map_map, List.mem_map]
  exact ⟨x, List.mem_of_getElem? hj, hx⟩
theorem MapIs.put_new (h : MapIs w M kd l) (ht : P.underlying t = some (.map k e)) (hk : P.underlying k = some kd) (hkey : MapKept.IsKey kd key) (hm : key ∉ l.map Prod.fst) (val : Value) :
  ∃ o, (Instr.mapUpdate t (.map (some M)) key val).run P w = .ok () (putObj w M o) ∧ MapIs (putObj w M o) M kd (l ++ [(key, val)]) := by
 have hlt := h.lt
 obtain ⟨es, clock, h1, h2, h3, h4⟩ := h
 have hks : ∀ x ∈ es.toList, MapKept.IsKey kd x.key := fun x hx => h3 (x.key, x.val) (by rw [← h2]; exact List.mem_map_of_mem hx)
 rcases MapKept.findNow_spec hkey es.toList 0 hks with ⟨hf, _⟩ | ⟨j, x, hf, hj, hx⟩
 ·refine ⟨_, run_insert t k e kd ht hk w M es clock key val h1 hkey hf, _, _, putObj_at _ hlt, ?_, ?_, ?_⟩
  ·rw [Array.toList_push, List.map_append, h2]; rfl
  ·intro x hx
   rcases List.mem_append.1 hx with hx | hx
   ·exact h3 x hx
   ·rw [List.mem_singleton] at hx; subst hx; exact hkey
  ·rw [List.map_append, List.nodup_append]
   refine ⟨h4, by simp, ?_⟩
   intro a ha b hb
   simp only [List.map_cons, List.map_nil, List.mem_singleton] at hb
   subst hb
   rintro rfl
   exact hm ha
 ·exfalso
  apply hm
  rw [← h2, List.map_map, List.mem_map]
  exact ⟨x, List.mem_of_getElem? hj, hx⟩
theorem MapIs.put_old (h : MapIs w M kd l) (ht : P.underlying t = some (.map k e)) (hk : P.underlying k = some kd) (hkey : MapKept.IsKey kd key) (hm : key ∈ l.map Prod.fst) (val : Value) :
  ∃ o, (Instr.mapUpdate t (.map (some M)) key val).run P w = .ok () (putObj w M o) := by
 obtain ⟨es, clock, h1, h2, h3, h4⟩ := h
 have hks : ∀ x ∈ es.toList, MapKept.IsKey kd x.key := fun x hx => h3 (x.key, x.val) (by rw [← h2]; exact List.mem_map_of_mem hx)
 rcases MapKept.findNow_spec hkey es.toList 0 hks with ⟨_, hn⟩ | ⟨j, x, hf, hj, hx⟩
 ·exfalso
  rw [← h2, List.map_map, List.mem_map] at hm
  obtain ⟨x, hx, hxe⟩ := hm
  exact hn x hx hxe
 ·have hj' : es[j]? = some x := by simpa using hj
  have hc : (Instr.checkKey false 10000 k key).run P w = .ok () w := MapKept.run_checkKey hk hkey false 9999
  exact ⟨_, by simp [Instr.mapUpdate, run_underlying ht, MapKept.run_getObj_map h1, hc, MapKept.run_findKey hk hf, hj', hx, MapKept.run_keyThatStays hkey, MapKept.run_setObj_map _ h1, Result.andThen, putObj]; rfl⟩
end
theorem putObj_only {w : World} {M : Nat} (o : Obj) : w.grownBy (putObj w M o) (some M) := ⟨rfl, rfl, rfl, by rw [putObj_size]; exact Nat.le_refl _, fun i _ hne => putObj_else w o (fun e => hne (by rw [e]))⟩
def FT (w : World) (t : TypeId) (kd : TypeDesc) (A M : Nat) (keys : List Value) : Prop :=
 w.heap[A]? = some (.cells #[.map (some M)] t (0, 0)) ∧ MapIs w M kd (keys.map fun k => (k, .bool true))
theorem FT.next {w w' : World} {t : TypeId} {kd : TypeDesc} {A M : Nat} {keys : List Value} (h : FT w t kd A M keys) (hA : w'.heap[A]? = w.heap[A]?) (hM : w'.heap[M]? = w.heap[M]?) : FT w' t kd A M keys := ⟨hA.trans h.1, h.2.at_ hM⟩
theorem FT.cell {w : World} {t : TypeId} {kd : TypeDesc} {A M : Nat} {keys : List Value} (h : FT w t kd A M keys) : w.cell? ⟨A, 0, none⟩ = some (.map (some M)) := by simp [World.cell?, h.1]
theorem FT.ne {w : World} {t : TypeId} {kd : TypeDesc} {A M : Nat} {keys : List Value} (h : FT w t kd A M keys) : A ≠ M := by
 rintro rfl
 obtain ⟨es, c, h1, _⟩ := h.2
 rw [h.1] at h1
 cases h1
theorem map_keys (keys : List Value) : (keys.map fun k => (k, Value.bool true)).map Prod.fst = keys := by induction keys <;> simp_all
theorem zeroBoolS (w : World) : (zeroValue 4).run Tryz.prog w = .ok (.bool false) w := by kernel_rfl
set_option maxRecDepth 100000 in
set_option maxHeartbeats 1000000 in
theorem firstS_any (w : World) : Calls Tryz.prog 82 #[] w fun e w' => e = .returned (.func (.func 129) #[] #[.pointer (some ⟨w.heap.size + 1, 0, none⟩)]) ∧ FT w' 217 .string (w.heap.size + 1) w.heap.size [] ∧ Below w.heap.size w w' ∧ w'.heap.size = w.heap.size + 2 := by
 have hmf : ∀ (fn : Fn) (first cap : Array Value) (w : World), (Instr.makeFunc fn first cap).run Tryz.prog w = .ok (.func fn first cap) w := fun _ _ _ _ => rfl
 have hmm := @run_makeMap Tryz.prog
 have hA := heap_alloc_new (w.alloc (.map #[] 0)) (.cells #[.map (some w.heap.size)] 217)
 rw [World.size_alloc] at hA
 have hM : MapIs ((w.alloc (.map #[] 0)).alloc (.cells #[.map (some w.heap.size)] 217)) w.heap.size .string [] := (MapIs.new w .string).at_ (heap_lt _ _ (by simp))
 have HF : Hid (FT ((w.alloc (.map #[] 0)).alloc (.cells #[.map (some w.heap.size)] 217)) 217 .string (w.heap.size + 1) w.heap.size []) := Lib.hid ⟨hA, hM⟩
 clear hA hM
 go_enter Tryz.func82, Tryz.ntmps82
 go_wp2
 go_ret
 exact ⟨rfl, HF.out, ((Below.refl _ w).alloc (Nat.le_refl _) _).alloc (by simp) _, by simp⟩
set_option maxRecDepth 100000 in
set_option maxHeartbeats 1000000 in
theorem isNewS_yes (w : World) (A M : Nat) (keys : List Value) (s : ByteArray) (h : FT w 217 .string A M keys) (hs : (.string s) ∉ keys) :
  Calls Tryz.prog 129 #[(.string s), .pointer (some ⟨A, 0, none⟩)] w fun e w' => e = .returned (.bool true) ∧ FT w' 217 .string A M (keys ++ [(.string s)]) ∧ w.grownBy w' (some M) := by
 have hc := h.cell
 have hne := h.ne
 have q1 := h.2.look_no Tryz.underlying217 Tryz.underlying9 (key := (.string s)) (by first | trivial | rfl) (by rw [map_keys]; exact hs) (zeroBoolS w) false
 obtain ⟨o, q2, hM⟩ := h.2.put_new Tryz.underlying217 Tryz.underlying9 (key := (.string s)) (by first | trivial | rfl) (by rw [map_keys]; exact hs) (.bool true)
 have HF : Hid (FT (putObj w M o) 217 .string A M (keys ++ [(.string s)])) := Lib.hid ⟨(putObj_else w o hne).trans h.1, by rw [List.map_append]; exact hM⟩
 have HO : Hid (w.grownBy (putObj w M o) (some M)) := Lib.hid (putObj_only o)
 clear h hM hs
 go_enter Tryz.func129, Tryz.ntmps129
 go_wp2
 go_ret
 exact ⟨rfl, HF.out, HO.out⟩
set_option maxRecDepth 100000 in
set_option maxHeartbeats 1000000 in
theorem isNewS_no (w : World) (A M : Nat) (keys : List Value) (s : ByteArray) (h : FT w 217 .string A M keys) (hs : (.string s) ∈ keys) :
  Calls Tryz.prog 129 #[(.string s), .pointer (some ⟨A, 0, none⟩)] w fun e w' => e = .returned (.bool false) ∧ w.grownBy w' (some M) := by
 have hc := h.cell
 have q1 := h.2.look_yes Tryz.underlying217 Tryz.underlying9 (key := (.string s)) (v := .bool true) (by first | trivial | rfl) (List.mem_map_of_mem hs) false
 obtain ⟨o, q2⟩ := h.2.put_old Tryz.underlying217 Tryz.underlying9 (key := (.string s)) (by first | trivial | rfl) (by rw [map_keys]; exact hs) (.bool true)
 have HO : Hid (w.grownBy (putObj w M o) (some M)) := Lib.hid (putObj_only o)
 clear h hs
 go_enter Tryz.func129, Tryz.ntmps129
 go_wp2
 go_ret
 exact ⟨rfl, HO.out⟩
theorem zeroBoolC (w : World) : (zeroValue 4).run Tryz.prog w = .ok (.bool false) w := by kernel_rfl
set_option maxRecDepth 100000 in
set_option maxHeartbeats 1000000 in
theorem firstC_any (w : World) : Calls Tryz.prog 88 #[] w fun e w' => e = .returned (.func (.func 134) #[] #[.pointer (some ⟨w.heap.size + 1, 0, none⟩)]) ∧ FT w' 219 (.int .i32) (w.heap.size + 1) w.heap.size [] ∧ Below w.heap.size w w' ∧ w'.heap.size = w.heap.size + 2 := by
 have hmf : ∀ (fn : Fn) (first cap : Array Value) (w : World), (Instr.makeFunc fn first cap).run Tryz.prog w = .ok (.func fn first cap) w := fun _ _ _ _ => rfl
 have hmm := @run_makeMap Tryz.prog
 have hA := heap_alloc_new (w.alloc (.map #[] 0)) (.cells #[.map (some w.heap.size)] 219)
 rw [World.size_alloc] at hA
 have hM : MapIs ((w.alloc (.map #[] 0)).alloc (.cells #[.map (some w.heap.size)] 219)) w.heap.size (.int .i32) [] := (MapIs.new w (.int .i32)).at_ (heap_lt _ _ (by simp))
 have HF : Hid (FT ((w.alloc (.map #[] 0)).alloc (.cells #[.map (some w.heap.size)] 219)) 219 (.int .i32) (w.heap.size + 1) w.heap.size []) := Lib.hid ⟨hA, hM⟩
 clear hA hM
 go_enter Tryz.func88, Tryz.ntmps88
 go_wp2
 go_ret
 exact ⟨rfl, HF.out, ((Below.refl _ w).alloc (Nat.le_refl _) _).alloc (by simp) _, by simp⟩
set_option maxRecDepth 100000 in
set_option maxHeartbeats 1000000 in
theorem isNewC_yes (w : World) (A M : Nat) (keys : List Value) (s : Int) (h : FT w 219 (.int .i32) A M keys) (hs : (.int .i32 s) ∉ keys) :
  Calls Tryz.prog 134 #[(.int .i32 s), .pointer (some ⟨A, 0, none⟩)] w fun e w' => e = .returned (.bool true) ∧ FT w' 219 (.int .i32) A M (keys ++ [(.int .i32 s)]) ∧ w.grownBy w' (some M) := by
 have hc := h.cell
 have hne := h.ne
 have q1 := h.2.look_no Tryz.underlying219 Tryz.underlying30 (key := (.int .i32 s)) (by first | trivial | rfl) (by rw [map_keys]; exact hs) (zeroBoolC w) false
 obtain ⟨o, q2, hM⟩ := h.2.put_new Tryz.underlying219 Tryz.underlying30 (key := (.int .i32 s)) (by first | trivial | rfl) (by rw [map_keys]; exact hs) (.bool true)
 have HF : Hid (FT (putObj w M o) 219 (.int .i32) A M (keys ++ [(.int .i32 s)])) := Lib.hid ⟨(putObj_else w o hne).trans h.1, by rw [List.map_append]; exact hM⟩
 have HO : Hid (w.grownBy (putObj w M o) (some M)) := Lib.hid (putObj_only o)
 clear h hM hs
 go_enter Tryz.func134, Tryz.ntmps134
 go_wp2
 go_ret
 exact ⟨rfl, HF.out, HO.out⟩
set_option maxRecDepth 100000 in
set_option maxHeartbeats 1000000 in
theorem isNewC_no (w : World) (A M : Nat) (keys : List Value) (s : Int) (h : FT w 219 (.int .i32) A M keys) (hs : (.int .i32 s) ∈ keys) :
  Calls Tryz.prog 134 #[(.int .i32 s), .pointer (some ⟨A, 0, none⟩)] w fun e w' => e = .returned (.bool false) ∧ w.grownBy w' (some M) := by
 have hc := h.cell
 have q1 := h.2.look_yes Tryz.underlying219 Tryz.underlying30 (key := (.int .i32 s)) (v := .bool true) (by first | trivial | rfl) (List.mem_map_of_mem hs) false
 obtain ⟨o, q2⟩ := h.2.put_old Tryz.underlying219 Tryz.underlying30 (key := (.int .i32 s)) (by first | trivial | rfl) (by rw [map_keys]; exact hs) (.bool true)
 have HO : Hid (w.grownBy (putObj w M o) (some M)) := Lib.hid (putObj_only o)
 clear h hs
 go_enter Tryz.func134, Tryz.ntmps134
 go_wp2
 go_ret
 exact ⟨rfl, HO.out⟩
end Go.Proofs.YthgiikhkcpbpfaaGreatDoor.C


namespace Go.Proofs.YthgiikhkcpbpfaaGreatDoor.C
def nums : List Nat := [0, 1, 2, 3, 4, 5, 6, 7, 8, 9, 10, 11, 12, 13, 14, 15, 16, 17, 18, 19, 20, 21, 22, 23, 24, 25, 26, 27, 28, 29, 30, 31, 32, 33, 34, 35, 36, 37, 38, 39, 40, 41, 42, 43, 44, 45, 46, 47]
def nextF (l : Array Bool) : List Nat := nums.drop (l.toList.findIdx (!·))
end Go.Proofs.YthgiikhkcpbpfaaGreatDoor.C


namespace Go.Proofs.YthgiikhkcpbpfaaGreatDoor.C
open Go.RowKit
open Go.Lib (decodeN)
def Bd (zs : List Int) : Prop := ∀ z ∈ zs, 0 ≤ z ∧ z ≤ 255
theorem bd_nil : Bd [] := by intro z hz; simp at hz
theorem bd_cons {z : Int} {zs : List Int} (h0 : 0 ≤ z ∧ z ≤ 255) (h : Bd zs) : Bd (z :: zs) := by
 intro x hx
 rcases List.mem_cons.1 hx with rfl | hx
 ·exact h0
 ·exact h x hx
theorem bd_app {a b : List Int} (ha : Bd a) (hb : Bd b) : Bd (a ++ b) := by
 intro x hx
 rcases List.mem_append.1 hx with hx | hx
 ·exact ha x hx
 ·exact hb x hx
theorem bd_drop {zs : List Int} (h : Bd zs) (k : Nat) : Bd (zs.drop k) := fun x hx => h x (List.mem_of_mem_drop hx)
def sb (zs : List Int) : ByteArray := strOfNums zs
theorem sb_size (zs : List Int) : (sb zs).size = zs.length := strOfNums_size zs
def nb (zs : List Int) (i : Nat) : Nat := (zs.getD i 0).toNat
theorem nb_drop (zs : List Int) (k i : Nat) : nb (zs.drop k) i = nb zs (k + i) := by
 unfold nb
 simp [List.getD_eq_getElem?_getD]
theorem gb_sb {zs : List Int} (h : Bd zs) (i : Nat) : gb (sb zs) i = nb zs i := by
 rw [gb_list]
 unfold sb nb
 rw [strOfNums_data]
 simp only [List.getD_eq_getElem?_getD, List.getElem?_map]
 rcases Nat.lt_or_ge i zs.length with hi | hi
 ·have := h zs[i] (List.getElem_mem hi)
  simp [List.getElem?_eq_getElem hi, UInt8.toNat_ofNat']
  omega
 ·simp [List.getElem?_eq_none hi]
def encC (c : Int) : List Int := if c < 0 then [-1 - c] else Lib.encodeRuneZ c
def encL (l : List Int) : List Int := l.flatMap encC
theorem encL_nil : encL [] = [] := rfl
theorem encL_cons (c : Int) (l : List Int) : encL (c :: l) = encC c ++ encL l := by simp [encL]
theorem encL_snoc (l : List Int) (c : Int) : encL (l ++ [c]) = encL l ++ encC c := by simp [encL]
theorem encC_len (c : Int) : 1 ≤ (encC c).length ∧ (encC c).length ≤ 4 := by
 unfold encC
 split
 ·simp
 ·exact Lib.encodeRuneZ_length c
theorem encL_len (l : List Int) : l.length ≤ (encL l).length ∧ (encL l).length ≤ 4 * l.length := by
 induction l with
 | nil => simp [encL_nil]
 | cons c l ih =>
  have := encC_len c
  rw [encL_cons]
  simp only [List.length_append, List.length_cons]
  omega
theorem encC_bd {c : Int} (h : rightB c = true) : Bd (encC c) := by
 unfold rightB at h
 simp at h
 unfold encC
 split
 ·exact bd_cons (by omega) bd_nil
 ·intro x hx
  have := Lib.encodeRuneZ_byte c x hx
  omega
theorem encL_bd {l : List Int} (h : ∀ c ∈ l, rightB c = true) : Bd (encL l) := by
 induction l with
 | nil => exact bd_nil
 | cons c l ih =>
  rw [encL_cons]
  exact bd_app (encC_bd (h c List.mem_cons_self)) (ih fun x hx => h x (List.mem_cons_of_mem _ hx))
theorem cellAt_sb {zs : List Int} (h : Bd zs) (pos : Nat) (hp : pos < zs.length) : cellAt (sb zs) pos = cellN (zs.length - pos) (nb zs pos) (nb zs (pos + 1)) (nb zs (pos + 2)) (nb zs (pos + 3)) := by
 rw [cellAt_eq _ _ (by rw [sb_size]; exact hp), sb_size, gb_sb h, gb_sb h, gb_sb h, gb_sb h]
theorem decode_sb {zs : List Int} (h : Bd zs) (pos : Nat) : Utf8.decode (sb zs) pos = decodeN (zs.length - pos) (nb zs pos) (nb zs (pos + 1)) (nb zs (pos + 2)) (nb zs (pos + 3)) := by
 rw [decode_gb, sb_size, gb_sb h, gb_sb h, gb_sb h, gb_sb h]
end Go.Proofs.YthgiikhkcpbpfaaGreatDoor.C


namespace Go.Proofs.YthgiikhkcpbpfaaGreatDoor.C
open Go.RowKit
def sameB (xs ys : List Int) : Bool := decide (xs = ys)
def canonB (xs : List Int) : Bool := xs.all rightB && sameB (ofL (sb (encL xs))) xs
theorem all_bd {xs : List Int} (h : xs.all rightB = true) : Bd (encL xs) := encL_bd fun c hc => (List.all_eq_true.1 h) c hc
end Go.Proofs.YthgiikhkcpbpfaaGreatDoor.C


namespace Go.Proofs.YthgiikhkcpbpfaaGreatDoor.C
open Go.RowKit
def Gm (w : World) : Prop := Gl w ∧ Lib.Utf8Tabs 0 1 w
end Go.Proofs.YthgiikhkcpbpfaaGreatDoor.C
