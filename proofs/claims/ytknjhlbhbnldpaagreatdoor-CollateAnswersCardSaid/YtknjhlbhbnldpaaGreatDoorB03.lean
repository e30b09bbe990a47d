/-
  Joined: MUtfB, MUtfU, MLxW, MLxO, MUtfV. Each with what its own head says.
-/
import Derived.Test.YtknjhlbhbnldpaaGreatDoorB01
import Derived.Test.YtknjhlbhbnldpaaGreatDoorB00
import Derived.Test.YtknjhlbhbnldpaaGreatDoorB02


namespace Go.Proofs.YtknjhlbhbnldpaaGreatDoor.C
open Go.RowKit
theorem block_of_add (a : Addr) (n : Nat) : (a.add n).block = a.block := by unfold Addr.add; split <;> rfl
theorem add_of_add (a : Addr) (i j : Nat) : (a.add i).add j = a.add (i + j) := by
 unfold Addr.add
 by_cases hi : i = 0 <;> by_cases hj : j = 0 <;> simp [hi, hj, Nat.add_assoc]
def RI (ki : IntKind) (w : World) (B : Nat) (A : Option Addr) (n : Nat) (zs : List Int) : Prop :=
 zs.length = n ∧ (0 < n → ∃ ad, A = some ad ∧ ad.block < B ∧ ∀ j u, zs[j]? = some u → w.cell? (ad.add j) = some (.int ki u))
section
variable {ki : IntKind} {w w' : World} {B B' n : Nat} {A : Option Addr} {zs : List Int}
theorem RI.none_ : RI ki w B A 0 [] := ⟨by simp, fun h => absurd h (by omega)⟩
theorem RI.at_ {k : Nat} (h : RI ki w B A n zs) (hk : k < n) : ∃ ad u, A = some ad ∧ ad.block < B ∧ zs[k]? = some u ∧ w.cell? (ad.add k) = some (.int ki u) := by
 obtain ⟨ad, e, hb, hc⟩ := h.2 (by omega)
 have hl : k < zs.length := by have := h.1; omega
 exact ⟨ad, zs[k], e, hb, List.getElem?_eq_getElem hl, hc k _ (List.getElem?_eq_getElem hl)⟩
theorem RI.keep (h : RI ki w B A n zs) (hk : ∀ p : Addr, p.block < B → w'.cell? p = w.cell? p) : RI ki w' B A n zs :=
 ⟨h.1, fun hn => by
  obtain ⟨ad, e, hb, hc⟩ := h.2 hn
  exact ⟨ad, e, hb, fun j u hu => (hk _ (by rw [block_of_add]; exact hb)).trans (hc j u hu)⟩⟩
theorem RI.more (h : RI ki w B A n zs) (hB : B ≤ B') : RI ki w B' A n zs :=
 ⟨h.1, fun hn => by
  obtain ⟨ad, e, hb, hc⟩ := h.2 hn
  exact ⟨ad, e, by omega, hc⟩⟩
theorem RI.below (h : RI ki w B A n zs) (hb : Below B w w') : RI ki w' B A n zs := h.keep fun _ hp => hb.cell hp
theorem RI.drew (h : RI ki w B A n zs) : RI ki w.drew B A n zs := h
theorem RI.drewN (h : RI ki w B A n zs) (k : Nat) : RI ki (w.drewN k) B A n zs := h
theorem RI.alloc (h : RI ki w B A n zs) (hB : B ≤ w.heap.size) (o : Obj) : RI ki (w.alloc o) B A n zs := h.keep fun p hp => World.cell?_alloc_lt w o p (by omega)
theorem RI.setCell (h : RI ki w B A n zs) {p : Addr} (hB : B ≤ p.block) (u : Value) : RI ki (w.setCell p u) B A n zs :=
 h.keep fun q hq => World.cell?_setCell_other w p q u (fun e => by subst e; omega)
theorem RI.grown (h : RI ki w B A n zs) {row : Option Nat} (hg : w.grownBy w' row) (hB : B ≤ w.heap.size) (hr : ∀ g, row = some g → B ≤ g) : RI ki w' B A n zs :=
 h.keep fun p hp => World.cell?_of_block (hg.block p.block (by omega) (fun e => by have := hr _ e.symm; omega))
theorem RI.len (h : RI ki w B A n zs) : zs.length = n := h.1
end
theorem ret_int {k : IntKind} {a b : Int} (h : a = b) : Ending.returned (.int k a) = .returned (.int k b) := by rw [h]
theorem drew3 (w : World) (a b c : Nat) : ∃ q, ((w.drewN a).drewN b).drewN c = w.drewN q := ⟨_, by rw [World.drewN_drewN, World.drewN_drewN]⟩
theorem drewN_zero (w : World) : w = w.drewN 0 := rfl
set_option maxHeartbeats 1000000 in
theorem refCompare_any (w : World) (Bx By : Nat) (Ax Ay : Option Addr) (n cx m cy : Nat) (xs ys : List Int) (hx : RI .i32 w Bx Ax n xs) (hy : RI .i32 w By Ay m ys) (hn : n ≤ maxLen) (_hm : m ≤ maxLen) :
  Calls Tryz.prog 41 #[.slice Ax n cx, .slice Ay m cy] w fun e w' => e = .returned (.int .i64 (cmpL xs ys)) ∧ ∃ q, w' = w.drewN q := by
 unfold maxLen at hn
 have HX := Lib.hid hx
 have HY := Lib.hid hy
 clear hx hy
 go_enter Tryz.func41, Tryz.ntmps41
 go_wp2
 go_loopw [5] (fun i wr => ∃ k q : Nat, k ≤ n ∧ k ≤ m ∧ i = .int .i64 k ∧ CmpSt xs ys k ∧ wr = w.drewN q) (fun i _ => n - (intOf i).toNat)
 case atStart => exact ⟨0, 0, Nat.zero_le _, Nat.zero_le _, rfl, cmpSt_zero _ _, drewN_zero w⟩
 case round =>
  obtain ⟨k, q, hk, hkm, rfl, hst, rfl⟩ := hrel
  have HS := Lib.hid hst
  clear hst
  by_cases hlt : k < n
  ·obtain ⟨ad, a, rfl, _, ha, hca⟩ := HX.out.at_ hlt
   have HA := Lib.hid ha
   clear ha
   by_cases hlm : k < m
   ·obtain ⟨ad2, b, rfl, _, hb, hcb⟩ := HY.out.at_ hlm
    have HB := Lib.hid hb
    clear hb
    have k0 : (0 : Int) ≤ (k : Int) := by omega
    have k1 : (k : Int) < (n : Int) := by omega
    have k2 : (k : Int) < (m : Int) := by omega
    by_cases h1 : a < b
    ·go_wp2
     go_quiet (fail)
     go_wp2
     go_ret
     exact ⟨ret_int (cmpSt_less HS.out HA.out HB.out h1).symm, _, World.drewN_drewN _ _ _⟩
    ·by_cases h2 : b < a
     ·have h1' : decide (a < b) = false := by simpa using h1
      go_wp2
      go_quiet (fail)
      go_wp2
      go_quiet (fail)
      go_wp2
      go_ret
      exact ⟨ret_int (cmpSt_more HS.out HA.out HB.out h2).symm, drew3 _ _ _ _⟩
     ·have h1' : decide (a < b) = false := by simpa using h1
      have h2' : decide (b < a) = false := by simpa using h2
      go_wp2
      go_quiet (fail)
      go_wp2
      go_quiet (fail)
      go_wp2
      go_roundw
      case rel => exact ⟨k + 1, _, by omega, by omega, by go_num, cmpSt_step HS.out HA.out HB.out (by omega) (by omega), rfl⟩
      case measure => simp [intOf]; omega
   ·go_wp2
    go_ret
    exact ⟨ret_int (cmpSt_long HS.out (by rw [HX.out.len]; omega) (by rw [HY.out.len]; omega)).symm, _, rfl⟩
  ·by_cases hlm : k < m
   ·go_wp2
    go_ret
    exact ⟨ret_int (cmpSt_short HS.out (by rw [HX.out.len]; omega) (by rw [HY.out.len]; omega)).symm, _, rfl⟩
   ·go_wp2
    go_ret
    exact ⟨ret_int (cmpSt_alike HS.out (by rw [HX.out.len]; omega) (by rw [HY.out.len]; omega)).symm, _, rfl⟩
def sameL (xs ys : List Int) : Bool := cmpL xs ys == 0
set_option maxHeartbeats 400000 in
theorem same_any (w : World) (Bx By : Nat) (Ax Ay : Option Addr) (n cx m cy : Nat) (xs ys : List Int) (hx : RI .i32 w Bx Ax n xs) (hy : RI .i32 w By Ay m ys) (hn : n ≤ maxLen) (hm : m ≤ maxLen) :
  Calls Tryz.prog 15 #[.slice Ax n cx, .slice Ay m cy] w fun e w' => e = .returned (.bool (sameL xs ys)) ∧ ∃ q, w' = w.drewN q := by
 have HX := Lib.hid hx
 have HY := Lib.hid hy
 clear hx hy
 go_enter Tryz.func15, Tryz.ntmps15
 go_wp2_with fail
 refine (refCompare_any w Bx By Ax Ay n cx m cy xs ys HX.out HY.out hn hm).mono ?_
 rintro e w' ⟨rfl, q, rfl⟩
 go_wp2
 go_ret
 exact ⟨rfl, q, rfl⟩
theorem info33 : (Tryz.prog.info? 23).map (fun i => (i.zero, i.size, i.bytes)) = some (some (.int .i32 0), 1, 4) := by kernel_rfl
theorem RI.cut {ki : IntKind} {w : World} {B n : Nat} {A : Option Addr} {zs : List Int} (h : RI ki w B A n zs) {k m cap : Nat} (hk : k + m ≤ n) (hc : n ≤ cap) :
  RI ki w B (if cap = k then A else A.map (·.add k)) m ((zs.drop k).take m) := by
 refine ⟨by have := h.1; simp; omega, fun hn => ?_⟩
 obtain ⟨ad, rfl, hb, hcell⟩ := h.2 (by omega)
 rw [if_neg (by omega)]
 refine ⟨ad.add k, rfl, by rw [block_of_add]; exact hb, fun j u hu => ?_⟩
 rw [add_of_add]
 refine hcell _ u ?_
 rw [List.getElem?_take] at hu
 split at hu
 ·rw [← hu, List.getElem?_drop]
 ·cases hu
theorem sameL_true {xs ys : List Int} (h : xs = ys) : sameL xs ys = true := by simp [sameL, (cmpL_eq xs ys).2 h]
theorem sameL_false {xs ys : List Int} (h : xs ≠ ys) : sameL xs ys = false := by
 have : cmpL xs ys ≠ 0 := fun e => h ((cmpL_eq xs ys).1 e)
 simp [sameL, this]
theorem same_yes (w : World) (Bx By : Nat) (Ax Ay : Option Addr) (n cx m cy : Nat) (xs ys : List Int) (h : xs = ys) (hx : RI .i32 w Bx Ax n xs) (hy : RI .i32 w By Ay m ys) (hn : n ≤ maxLen) (hm : m ≤ maxLen) :
  Calls Tryz.prog 15 #[.slice Ax n cx, .slice Ay m cy] w fun e w' => e = .returned (.bool true) ∧ ∃ q, w' = w.drewN q := by
 have := same_any w Bx By Ax Ay n cx m cy xs ys hx hy hn hm
 rw [sameL_true h] at this
 exact this
theorem same_no (w : World) (Bx By : Nat) (Ax Ay : Option Addr) (n cx m cy : Nat) (xs ys : List Int) (h : xs ≠ ys) (hx : RI .i32 w Bx Ax n xs) (hy : RI .i32 w By Ay m ys) (hn : n ≤ maxLen) (hm : m ≤ maxLen) :
  Calls Tryz.prog 15 #[.slice Ax n cx, .slice Ay m cy] w fun e w' => e = .returned (.bool false) ∧ ∃ q, w' = w.drewN q := by
 have := same_any w Bx By Ax Ay n cx m cy xs ys hx hy hn hm
 rw [sameL_false h] at this
 exact this
theorem RI.of_own {w : World} {base : Nat} {e : TypeId} {ki : IntKind} {A : Option Addr} {n c : Nat} {zs : List Int} (h : w.ownsRow base e 1 (.slice A n c) n (zs.map (Value.int ki))) : RI ki w w.heap.size A n zs := by
 refine ⟨by have := h.1; simpa using this, fun hn => ?_⟩
 obtain ⟨g, cap, hv, _, hlt⟩ := h.form hn
 have hA : A = some ⟨g, 0, none⟩ := by injection hv
 subst hA
 refine ⟨_, rfl, hlt, fun j u hu => h.cells (g := g) rfl j _ ?_⟩
 simp [hu]
theorem right_is (c : Int) (w : World) (r : Bool) (hr : rightB c = r) : Calls Tryz.prog 136 #[.int .i32 c] w fun e w' => e = .returned (.bool r) ∧ w = w' := by
 subst hr
 exact right_any c w
theorem own_keep {w w' : World} {base : Nat} {e : TypeId} {size : Nat} {v : Value} {n : Nat} {xs : List Value} (h : w.ownsRow base e size v n xs) (hb : Below w.heap.size w w') : w'.ownsRow base e size v n xs := by
 refine ⟨h.1, ?_⟩
 rcases h.2 with h1 | ⟨g, cap, cur, h1, h2, h3, h4⟩
 ·exact .inl h1
 ·exact .inr ⟨g, cap, cur, h1, h2, (hb.block g (Array.getElem?_eq_some_iff.1 h3).1).trans h3, h4⟩
def str (l : List UInt8) : ByteArray := ⟨l.toArray⟩
theorem take_snoc {α : Type} {l : List α} {k : Nat} {a : α} (h : l[k]? = some a) : l.take (k + 1) = l.take k ++ [a] := by
 rw [List.take_add_one, h]; rfl
end Go.Proofs.YtknjhlbhbnldpaaGreatDoor.C


namespace Go.Proofs.YtknjhlbhbnldpaaGreatDoor.C
open Go.RowKit
open Go.Lib (decodeN)
theorem str_size (l : List UInt8) : (str l).size = l.length := by simp [str, ByteArray.size]
theorem decodeN_le (m b0 b1 b2 b3 : Nat) (hm : 1 ≤ m) : (decodeN m b0 b1 b2 b3).2 ≤ m := by
 unfold decodeN
 repeat' split
 all_goals simp only
 all_goals omega
theorem decodeN_bad (m b0 b1 b2 b3 : Nat) (h : (decodeN m b0 b1 b2 b3).1 = 65533) (hn : ¬ (3 ≤ m ∧ b0 = 239 ∧ b1 = 191 ∧ b2 = 189)) : decodeN m b0 b1 b2 b3 = (65533, 1) := by
 revert h
 unfold decodeN
 repeat' split
 all_goals intro h
 all_goals first | rfl | (exfalso; simp only at h; omega)
theorem decodeN_fffd (m b3 : Nat) (h : 3 ≤ m) : decodeN m 239 191 189 b3 = (65533, 3) := by
 unfold decodeN
 rw [if_neg (by omega), if_neg (by omega), if_pos (by omega), if_pos (by omega)]
def gb (s : ByteArray) (i : Nat) : Nat := (s.get! i).toNat
theorem gb_list (s : ByteArray) (i : Nat) : gb s i = (s.data.toList.getD i 0).toNat := by
 unfold gb
 congr 1
 show s.data[i]! = _
 by_cases h : i < s.data.size
 ·rw [getElem!_pos s.data i h, List.getD_eq_getElem?_getD, List.getElem?_eq_getElem (by simpa using h)]
  simp
 ·rw [getElem!_neg s.data i h, List.getD_eq_getElem?_getD, List.getElem?_eq_none (by simpa using h)]
  rfl
theorem gb_lt (s : ByteArray) (i : Nat) : gb s i < 256 := (s.get! i).toNat_lt
def cellN (n b0 b1 b2 b3 : Nat) : Int := if decodeN n b0 b1 b2 b3 = (65533, 1) then -1 - (b0 : Int) else ((decodeN n b0 b1 b2 b3).1 : Int)
theorem decode_gb (s : ByteArray) (i : Nat) : Utf8.decode s i = decodeN (s.size - i) (gb s i) (gb s (i + 1)) (gb s (i + 2)) (gb s (i + 3)) := Lib.decode_at s i
theorem hasP_iff (s : ByteArray) (pos : Nat) (hp : pos < s.size) : hasP s pos = true ↔ (3 ≤ s.size - pos ∧ gb s pos = 239 ∧ gb s (pos + 1) = 191 ∧ gb s (pos + 2) = 189) := by
 have hl : s.size = s.data.toList.length := (Array.length_toList (xs := s.data)).symm
 have he : (s.extract pos s.size).data.toList = s.data.toList.drop pos := by
  rw [Lib.extract_data]
  exact List.take_of_length_le (by rw [List.length_drop]; omega)
 unfold hasP Lib.hasPrefix
 rw [he, List.isPrefixOf_iff_prefix]
 simp only [gb_list]
 rw [hl]
 generalize s.data.toList = l
 have hg : ∀ k, l.getD (pos + k) 0 = (l.drop pos).getD k 0 := by
  intro k
  simp [List.getD_eq_getElem?_getD]
 have hlen : l.length - pos = (l.drop pos).length := by simp
 have hg0 := hg 0
 rw [Nat.add_zero] at hg0
 rw [hg0, hg 1, hg 2, hlen]
 generalize l.drop pos = d
 constructor
 ·rintro ⟨r, rfl⟩
  simp
 ·rintro ⟨h3, h0, h1, h2⟩
  match d, h3, h0, h1, h2 with
  | a :: b :: c :: r, _, h0, h1, h2 =>
   simp at h0 h1 h2
   have e0 : a = 239 := UInt8.toNat_inj.1 h0
   have e1 : b = 191 := UInt8.toNat_inj.1 h1
   have e2 : c = 189 := UInt8.toNat_inj.1 h2
   subst e0 e1 e2
   exact ⟨r, rfl⟩
theorem cellAt_eq (s : ByteArray) (pos : Nat) (hp : pos < s.size) : cellAt s pos = cellN (s.size - pos) (gb s pos) (gb s (pos + 1)) (gb s (pos + 2)) (gb s (pos + 3)) := by
 have hd := decode_gb s pos
 unfold cellAt cellN
 rw [hd]
 by_cases hbad : decodeN (s.size - pos) (gb s pos) (gb s (pos + 1)) (gb s (pos + 2)) (gb s (pos + 3)) = (65533, 1)
 ·have hh : hasP s pos = false := by
   cases h : hasP s pos with
   | false => rfl
   | true =>
    obtain ⟨h1, h2, h3, h4⟩ := (hasP_iff s pos hp).1 h
    rw [h2, h3, h4, decodeN_fffd _ _ h1] at hbad
    cases hbad
  rw [if_pos hbad, hbad, if_pos ⟨by decide, hh⟩]
  rfl
 ·rw [if_neg hbad, if_neg]
  rintro ⟨h1, h2⟩
  have h1' : (decodeN (s.size - pos) (gb s pos) (gb s (pos + 1)) (gb s (pos + 2)) (gb s (pos + 3))).1 = 65533 := by
   simp only [beq_iff_eq] at h1
   omega
  refine hbad (decodeN_bad _ _ _ _ _ h1' ?_)
  intro h3
  rw [(hasP_iff s pos hp).2 h3] at h2
  cases h2
end Go.Proofs.YtknjhlbhbnldpaaGreatDoor.C


namespace Go.Proofs.YtknjhlbhbnldpaaGreatDoor.C
open Go.RowKit
@[simp] theorem str_list (l : List UInt8) : (str l).data.toList = l := rfl
theorem size_list (s : ByteArray) : s.data.toList.length = s.size := Array.length_toList
end Go.Proofs.YtknjhlbhbnldpaaGreatDoor.C


namespace Go.Proofs.YtknjhlbhbnldpaaGreatDoor.C
open Go.RowKit
def Gl (w : World) : Prop := w.cell? ⟨5, 15, none⟩ = some (.int .u8 4)
theorem Gl.next {w w' : World} (h : Gl w) (hb : Below w.heap.size w w') : Gl w' := (hb.cell (p := ⟨5, 15, none⟩) (World.block_lt_of_cell? w _ h)).trans h
end Go.Proofs.YtknjhlbhbnldpaaGreatDoor.C


namespace Go.Proofs.YtknjhlbhbnldpaaGreatDoor.C
open Go.RowKit
open Go.Lib (decodeN)
set_option maxHeartbeats 1000000 in
theorem need_1 (b : Int) (w : World) (_h0 : 0 ≤ b) (h1 : b < 128) : Calls Tryz.prog 88 #[.int .u8 b] w fun e w' => e = .returned (.int .i64 1) ∧ w = w' := by
 go_enter Tryz.func88, Tryz.ntmps88
 go_wp2
 all_goals go_ret
 all_goals exact ⟨rfl, rfl⟩
set_option maxHeartbeats 1000000 in
theorem need_2 (b : Int) (w : World) (h0 : 194 ≤ b) (h1 : b ≤ 223) : Calls Tryz.prog 88 #[.int .u8 b] w fun e w' => e = .returned (.int .i64 2) ∧ w = w' := by
 go_enter Tryz.func88, Tryz.ntmps88
 go_wp2
 all_goals go_ret
 all_goals exact ⟨rfl, rfl⟩
set_option maxHeartbeats 1000000 in
theorem need_3 (b : Int) (w : World) (h0 : 224 ≤ b) (h1 : b ≤ 239) : Calls Tryz.prog 88 #[.int .u8 b] w fun e w' => e = .returned (.int .i64 3) ∧ w = w' := by
 have t1 : decide (b ≤ 223) = false := by simp; omega
 go_enter Tryz.func88, Tryz.ntmps88
 go_wp2
 all_goals go_ret
 all_goals exact ⟨rfl, rfl⟩
set_option maxHeartbeats 1000000 in
theorem need_4 (b : Int) (w : World) (h0 : 240 ≤ b) (h1 : b ≤ 244) : Calls Tryz.prog 88 #[.int .u8 b] w fun e w' => e = .returned (.int .i64 4) ∧ w = w' := by
 have t1 : decide (b ≤ 223) = false := by simp; omega
 have t2 : decide (b ≤ 239) = false := by simp; omega
 go_enter Tryz.func88, Tryz.ntmps88
 go_wp2
 all_goals go_ret
 all_goals exact ⟨rfl, rfl⟩
set_option maxHeartbeats 1000000 in
theorem need_0 (b : Int) (w : World) (h0 : (128 ≤ b ∧ b < 194) ∨ 244 < b) : Calls Tryz.prog 88 #[.int .u8 b] w fun e w' => e = .returned (.int .i64 0) ∧ w = w' := by
 rcases h0 with ⟨h1, h2⟩ | h1
 ·have t1 : decide (194 ≤ b) = false := by simp; omega
  have t2 : decide (224 ≤ b) = false := by simp; omega
  have t3 : decide (240 ≤ b) = false := by simp; omega
  go_enter Tryz.func88, Tryz.ntmps88
  go_wp2
  all_goals go_ret
  all_goals exact ⟨rfl, rfl⟩
 ·have t1 : decide (b ≤ 223) = false := by simp; omega
  have t2 : decide (b ≤ 239) = false := by simp; omega
  have t3 : decide (b ≤ 244) = false := by simp; omega
  go_enter Tryz.func88, Tryz.ntmps88
  go_wp2
  all_goals go_ret
  all_goals exact ⟨rfl, rfl⟩
def firstN (n b0 b1 b2 b3 : Nat) : Nat × Nat := if decodeN n b0 b1 b2 b3 = (65533, 1) then (0, 0) else decodeN n b0 b1 b2 b3
def First (s : ByteArray) : Nat × Nat := firstN s.size (gb s 0) (gb s 1) (gb s 2) (gb s 3)
theorem first_none (m b0 b1 b2 b3 : Nat) (h : (128 ≤ b0 ∧ b0 < 194) ∨ (244 < b0 ∧ b0 ≤ 255)) : firstN m b0 b1 b2 b3 = (0, 0) := by
 have hd : decodeN m b0 b1 b2 b3 = (65533, 1) := by
  unfold decodeN
  repeat' split
  all_goals first | with_reducible rfl | (exfalso; omega) | (apply Prod.ext <;> simp only <;> omega)
 unfold firstN
 rw [if_pos hd]
theorem first_short2 (m b0 b1 b2 b3 : Nat) (h : 194 ≤ b0 ∧ b0 ≤ 223) (hm : m < 2) : firstN m b0 b1 b2 b3 = (0, 0) := by
 have hd : decodeN m b0 b1 b2 b3 = (65533, 1) := by
  unfold decodeN
  repeat' split
  all_goals first | with_reducible rfl | (exfalso; omega) | (apply Prod.ext <;> simp only <;> omega)
 unfold firstN
 rw [if_pos hd]
theorem first_short3 (m b0 b1 b2 b3 : Nat) (h : 224 ≤ b0 ∧ b0 ≤ 239) (hm : m < 3) : firstN m b0 b1 b2 b3 = (0, 0) := by
 have hd : decodeN m b0 b1 b2 b3 = (65533, 1) := by
  unfold decodeN
  repeat' split
  all_goals first | with_reducible rfl | (exfalso; omega) | (apply Prod.ext <;> simp only <;> omega)
 unfold firstN
 rw [if_pos hd]
theorem first_short4 (m b0 b1 b2 b3 : Nat) (h : 240 ≤ b0 ∧ b0 ≤ 244) (hm : m < 4) : firstN m b0 b1 b2 b3 = (0, 0) := by
 have hd : decodeN m b0 b1 b2 b3 = (65533, 1) := by
  unfold decodeN
  repeat' split
  all_goals first | with_reducible rfl | (exfalso; omega) | (apply Prod.ext <;> simp only <;> omega)
 unfold firstN
 rw [if_pos hd]
theorem first_one (m b0 b1 b2 b3 : Nat) (h : b0 < 128) : firstN m b0 b1 b2 b3 = (b0, 1) := by
 have hd : decodeN m b0 b1 b2 b3 = (b0, 1) := by
  unfold decodeN
  repeat' split
  all_goals first | with_reducible rfl | (exfalso; omega) | (apply Prod.ext <;> simp only <;> omega)
 unfold firstN
 rw [hd, if_neg]
 intro h
 have h2 : 1 = 1 := congrArg Prod.snd h
 have h1 : b0 = 65533 := congrArg Prod.fst h
 omega
theorem first2_bad (m b0 b1 b2 b3 : Nat) (h : 194 ≤ b0 ∧ b0 ≤ 223) (h1 : b1 < 128 ∨ (191 < b1 ∧ b1 ≤ 255)) : firstN m b0 b1 b2 b3 = (0, 0) := by
 have hd : decodeN m b0 b1 b2 b3 = (65533, 1) := by
  unfold decodeN
  repeat' split
  all_goals first | with_reducible rfl | (exfalso; omega) | (apply Prod.ext <;> simp only <;> omega)
 unfold firstN
 rw [if_pos hd]
theorem first2_ok (m b0 b1 b2 b3 : Nat) (h : 194 ≤ b0 ∧ b0 ≤ 223) (hm : 2 ≤ m) (h1 : 128 ≤ b1 ∧ b1 ≤ 191) : firstN m b0 b1 b2 b3 = (b0 % 32 * 64 + b1 % 64, 2) := by
 have hd : decodeN m b0 b1 b2 b3 = (b0 % 32 * 64 + b1 % 64, 2) := by
  unfold decodeN
  repeat' split
  all_goals first | with_reducible rfl | (exfalso; omega) | (apply Prod.ext <;> simp only <;> omega)
 unfold firstN
 rw [hd, if_neg]
 intro h
 have h2 : 2 = 1 := congrArg Prod.snd h
 have h1 : b0 % 32 * 64 + b1 % 64 = 65533 := congrArg Prod.fst h
 omega
theorem first3_bad1 (m b0 b1 b2 b3 : Nat) (h : 224 ≤ b0 ∧ b0 ≤ 239) (h1 : b1 < 128 ∨ (191 < b1 ∧ b1 ≤ 255)) : firstN m b0 b1 b2 b3 = (0, 0) := by
 have hd : decodeN m b0 b1 b2 b3 = (65533, 1) := by
  unfold decodeN
  repeat' split
  all_goals first | with_reducible rfl | (exfalso; omega) | (apply Prod.ext <;> simp only <;> omega)
 unfold firstN
 rw [if_pos hd]
theorem first3_bad2 (m b0 b1 b2 b3 : Nat) (h : 224 ≤ b0 ∧ b0 ≤ 239) (h2 : b2 < 128 ∨ (191 < b2 ∧ b2 ≤ 255)) : firstN m b0 b1 b2 b3 = (0, 0) := by
 have hd : decodeN m b0 b1 b2 b3 = (65533, 1) := by
  unfold decodeN
  repeat' split
  all_goals first | with_reducible rfl | (exfalso; omega) | (apply Prod.ext <;> simp only <;> omega)
 unfold firstN
 rw [if_pos hd]
theorem first3_no (m b0 b1 b2 b3 : Nat) (h : 224 ≤ b0 ∧ b0 ≤ 239) (_h1 : 128 ≤ b1 ∧ b1 ≤ 191) (_h2 : 128 ≤ b2 ∧ b2 ≤ 191) (hc : b0 % 16 * 4096 + b1 % 64 * 64 + b2 % 64 < 2048 ∨ (55296 ≤ b0 % 16 * 4096 + b1 % 64 * 64 + b2 % 64 ∧ b0 % 16 * 4096 + b1 % 64 * 64 + b2 % 64 ≤ 57343)) : firstN m b0 b1 b2 b3 = (0, 0) := by
 have hd : decodeN m b0 b1 b2 b3 = (65533, 1) := by
  unfold decodeN
  repeat' split
  all_goals first | with_reducible rfl | (exfalso; omega) | (apply Prod.ext <;> simp only <;> omega)
 unfold firstN
 rw [if_pos hd]
theorem first3_ok (m b0 b1 b2 b3 : Nat) (h : 224 ≤ b0 ∧ b0 ≤ 239) (hm : 3 ≤ m) (h1 : 128 ≤ b1 ∧ b1 ≤ 191) (h2 : 128 ≤ b2 ∧ b2 ≤ 191) (hc : 2048 ≤ b0 % 16 * 4096 + b1 % 64 * 64 + b2 % 64 ∧ (b0 % 16 * 4096 + b1 % 64 * 64 + b2 % 64 < 55296 ∨ 57343 < b0 % 16 * 4096 + b1 % 64 * 64 + b2 % 64)) : firstN m b0 b1 b2 b3 = (b0 % 16 * 4096 + b1 % 64 * 64 + b2 % 64, 3) := by
 have hd : decodeN m b0 b1 b2 b3 = (b0 % 16 * 4096 + b1 % 64 * 64 + b2 % 64, 3) := by
  unfold decodeN
  repeat' split
  all_goals first | with_reducible rfl | (exfalso; omega) | (apply Prod.ext <;> simp only <;> omega)
 unfold firstN
 rw [hd, if_neg]
 intro h
 have h2 : 3 = 1 := congrArg Prod.snd h
 have h1 : b0 % 16 * 4096 + b1 % 64 * 64 + b2 % 64 = 65533 := congrArg Prod.fst h
 omega
theorem first4_bad1 (m b0 b1 b2 b3 : Nat) (h : 240 ≤ b0 ∧ b0 ≤ 244) (h1 : b1 < 128 ∨ (191 < b1 ∧ b1 ≤ 255)) : firstN m b0 b1 b2 b3 = (0, 0) := by
 have hd : decodeN m b0 b1 b2 b3 = (65533, 1) := by
  unfold decodeN
  repeat' split
  all_goals first | with_reducible rfl | (exfalso; omega) | (apply Prod.ext <;> simp only <;> omega)
 unfold firstN
 rw [if_pos hd]
theorem first4_bad2 (m b0 b1 b2 b3 : Nat) (h : 240 ≤ b0 ∧ b0 ≤ 244) (h2 : b2 < 128 ∨ (191 < b2 ∧ b2 ≤ 255)) : firstN m b0 b1 b2 b3 = (0, 0) := by
 have hd : decodeN m b0 b1 b2 b3 = (65533, 1) := by
  unfold decodeN
  repeat' split
  all_goals first | with_reducible rfl | (exfalso; omega) | (apply Prod.ext <;> simp only <;> omega)
 unfold firstN
 rw [if_pos hd]
theorem first4_bad3 (m b0 b1 b2 b3 : Nat) (h : 240 ≤ b0 ∧ b0 ≤ 244) (h3 : b3 < 128 ∨ (191 < b3 ∧ b3 ≤ 255)) : firstN m b0 b1 b2 b3 = (0, 0) := by
 have hd : decodeN m b0 b1 b2 b3 = (65533, 1) := by
  unfold decodeN
  repeat' split
  all_goals first | with_reducible rfl | (exfalso; omega) | (apply Prod.ext <;> simp only <;> omega)
 unfold firstN
 rw [if_pos hd]
theorem first4_no (m b0 b1 b2 b3 : Nat) (h : 240 ≤ b0 ∧ b0 ≤ 244) (_h1 : 128 ≤ b1 ∧ b1 ≤ 191) (_h2 : 128 ≤ b2 ∧ b2 ≤ 191) (_h3 : 128 ≤ b3 ∧ b3 ≤ 191) (hc : b0 % 8 * 262144 + b1 % 64 * 4096 + b2 % 64 * 64 + b3 % 64 < 65536 ∨ 1114111 < b0 % 8 * 262144 + b1 % 64 * 4096 + b2 % 64 * 64 + b3 % 64) : firstN m b0 b1 b2 b3 = (0, 0) := by
 have hd : decodeN m b0 b1 b2 b3 = (65533, 1) := by
  unfold decodeN
  repeat' split
  all_goals first | with_reducible rfl | (exfalso; omega) | (apply Prod.ext <;> simp only <;> omega)
 unfold firstN
 rw [if_pos hd]
theorem first4_ok (m b0 b1 b2 b3 : Nat) (h : 240 ≤ b0 ∧ b0 ≤ 244) (hm : 4 ≤ m) (h1 : 128 ≤ b1 ∧ b1 ≤ 191) (h2 : 128 ≤ b2 ∧ b2 ≤ 191) (h3 : 128 ≤ b3 ∧ b3 ≤ 191) (hc : 65536 ≤ b0 % 8 * 262144 + b1 % 64 * 4096 + b2 % 64 * 64 + b3 % 64 ∧ b0 % 8 * 262144 + b1 % 64 * 4096 + b2 % 64 * 64 + b3 % 64 ≤ 1114111) : firstN m b0 b1 b2 b3 = (b0 % 8 * 262144 + b1 % 64 * 4096 + b2 % 64 * 64 + b3 % 64, 4) := by
 have hd : decodeN m b0 b1 b2 b3 = (b0 % 8 * 262144 + b1 % 64 * 4096 + b2 % 64 * 64 + b3 % 64, 4) := by
  unfold decodeN
  repeat' split
  all_goals first | with_reducible rfl | (exfalso; omega) | (apply Prod.ext <;> simp only <;> omega)
 unfold firstN
 rw [hd, if_neg]
 intro h
 have h2 : 4 = 1 := congrArg Prod.snd h
 have h1 : b0 % 8 * 262144 + b1 % 64 * 4096 + b2 % 64 * 64 + b3 % 64 = 65533 := congrArg Prod.fst h
 omega
theorem gb_get (s : ByteArray) (i : Nat) (h : i < s.size) : (s[i]'h).toNat = gb s i := by
 unfold gb
 rw [← get_at s i h]
 rfl
theorem not_empty (s : ByteArray) (h : 0 < s.size) : s.toList.isEmpty = false := by
 rw [Lib.toList_data]
 have hl : s.size = s.data.toList.length := (Array.length_toList (xs := s.data)).symm
 rw [hl] at h
 cases hd : s.data.toList with
 | nil => rw [hd] at h; simp at h
 | cons a l => rfl
def Told (w : World) (F : Nat × Nat) (e : Ending) (w' : World) : Prop := e = .returned (.tuple #[.int .i32 (F.1 : Int), .int .i64 (F.2 : Int)]) ∧ Below w.heap.size w w'
set_option maxHeartbeats 4000000 in
theorem first_zero (s : ByteArray) (w : World) (h1 : 1 ≤ s.size) (hmax : s.size ≤ maxLen) (h : (128 ≤ gb s 0 ∧ gb s 0 < 194) ∨ (244 < gb s 0 ∧ gb s 0 ≤ 255)) :
  Calls Tryz.prog 45 #[.string s] w (Told w (First s)) := by
 have hF : First s = (0, 0) := first_none _ _ _ _ _ h
 rw [hF]
 unfold maxLen at hmax
 have g0 := gb_get s 0 (by omega)
 have e1 := not_empty s (by omega)
 have e0 : (0 : Int) < (s.size : Int) := by omega
 generalize gb s 0 = b0 at *
 clear hF
 go_enter Tryz.func45, Tryz.ntmps45
 go_wp2_with fail
 refine (need_0 (b0 : Int) w (by omega)).mono ?_
 rintro e w' ⟨rfl, rfl⟩
 go_wp2
 go_ret2
 exact ⟨rfl, Below.refl _ _⟩
set_option maxHeartbeats 4000000 in
theorem first_s2 (s : ByteArray) (w : World) (h1 : 1 ≤ s.size) (hsh : s.size < 2) (h : 194 ≤ gb s 0 ∧ gb s 0 ≤ 223) :
  Calls Tryz.prog 45 #[.string s] w (Told w (First s)) := by
 have hF : First s = (0, 0) := first_short2 _ _ _ _ _ h hsh
 rw [hF]
 have g0 := gb_get s 0 (by omega)
 have e1 := not_empty s (by omega)
 have e0 : (0 : Int) < (s.size : Int) := by omega
 generalize gb s 0 = b0 at *
 clear hF
 go_enter Tryz.func45, Tryz.ntmps45
 go_wp2_with fail
 refine (need_2 (b0 : Int) w (by omega) (by omega)).mono ?_
 rintro e w' ⟨rfl, rfl⟩
 go_wp2
 go_ret2
 exact ⟨rfl, Below.refl _ _⟩
set_option maxHeartbeats 4000000 in
theorem first_s3 (s : ByteArray) (w : World) (h1 : 1 ≤ s.size) (hsh : s.size < 3) (h : 224 ≤ gb s 0 ∧ gb s 0 ≤ 239) :
  Calls Tryz.prog 45 #[.string s] w (Told w (First s)) := by
 have hF : First s = (0, 0) := first_short3 _ _ _ _ _ h hsh
 rw [hF]
 have g0 := gb_get s 0 (by omega)
 have e1 := not_empty s (by omega)
 have e0 : (0 : Int) < (s.size : Int) := by omega
 generalize gb s 0 = b0 at *
 clear hF
 go_enter Tryz.func45, Tryz.ntmps45
 go_wp2_with fail
 refine (need_3 (b0 : Int) w (by omega) (by omega)).mono ?_
 rintro e w' ⟨rfl, rfl⟩
 go_wp2
 go_ret2
 exact ⟨rfl, Below.refl _ _⟩
set_option maxHeartbeats 4000000 in
theorem first_s4 (s : ByteArray) (w : World) (h1 : 1 ≤ s.size) (hsh : s.size < 4) (h : 240 ≤ gb s 0 ∧ gb s 0 ≤ 244) :
  Calls Tryz.prog 45 #[.string s] w (Told w (First s)) := by
 have hF : First s = (0, 0) := first_short4 _ _ _ _ _ h hsh
 rw [hF]
 have g0 := gb_get s 0 (by omega)
 have e1 := not_empty s (by omega)
 have e0 : (0 : Int) < (s.size : Int) := by omega
 generalize gb s 0 = b0 at *
 clear hF
 go_enter Tryz.func45, Tryz.ntmps45
 go_wp2_with fail
 refine (need_4 (b0 : Int) w (by omega) (by omega)).mono ?_
 rintro e w' ⟨rfl, rfl⟩
 go_wp2
 go_ret2
 exact ⟨rfl, Below.refl _ _⟩
set_option maxHeartbeats 4000000 in
theorem first_ascii (s : ByteArray) (w : World) (h1 : 1 ≤ s.size) (hmax : s.size ≤ maxLen) (h : gb s 0 < 128) :
  Calls Tryz.prog 45 #[.string s] w (Told w (First s)) := by
 have hF : First s = (gb s 0, 1) := first_one _ _ _ _ _ h
 rw [hF]
 unfold maxLen at hmax
 have g0 := gb_get s 0 (by omega)
 have e1 := not_empty s (by omega)
 have e0 : (0 : Int) < (s.size : Int) := by omega
 have e4 : decide ((s.size : Int) < 1) = false := by simp; omega
 have rb : rightB (gb s 0 : Int) = true := by simp [rightB]; omega
 have lo' : decide ((gb s 0 : Int) < 0) = false := by simp
 generalize gb s 0 = b0 at *
 have RB := Lib.hid rb
 clear hF rb
 go_enter Tryz.func45, Tryz.ntmps45
 go_wp2_with fail
 refine (need_1 (b0 : Int) w (by omega) (by omega)).mono ?_
 rintro e w' ⟨rfl, rfl⟩
 go_wp2_with fail
 go_loop [5, 6] (fun cv iv => cv = .int .i32 b0 ∧ iv = .int .i64 1) (fun _ _ => 0)
 case atStart => exact ⟨rfl, rfl⟩
 case round =>
  obtain ⟨rfl, rfl⟩ := hrel
  go_wp2_with fail
  refine (refRight_is _ _ true RB.out).mono ?_
  rintro e w' ⟨rfl, rfl⟩
  go_wp2
  go_ret2
  exact ⟨rfl, (Below.refl _ _).alloc (Nat.le_refl _) _⟩
set_option maxHeartbeats 8000000 in
theorem first_m2 (s : ByteArray) (w : World) (hsz : 2 ≤ s.size) (hmax : s.size ≤ maxLen) (h : 194 ≤ gb s 0 ∧ gb s 0 ≤ 223) :
  Calls Tryz.prog 45 #[.string s] w (Told w (First s)) := by
 unfold maxLen at hmax
 unfold First
 have g0 := gb_get s 0 (by omega)
 have q0 := gb_lt s 0
 have e00 : (0 : Int) < (s.size : Int) := by omega
 have g1 := gb_get s 1 (by omega)
 have q1 := gb_lt s 1
 have e10 : (1 : Int) < (s.size : Int) := by omega
 have e1 := not_empty s (by omega)
 have e4 : decide ((s.size : Int) < 2) = false := by simp; omega
 generalize gb s 0 = b0 at *
 generalize gb s 1 = b1 at *
 generalize gb s 2 = b2 at *
 generalize gb s 3 = b3 at *
 obtain ⟨k1, hk1⟩ : ∃ k1 : Nat, k1 = b0 % 32 := ⟨_, rfl⟩
 have hk1' : (b0 : Int) % 32 = (k1 : Int) := by omega
 have hk1b : k1 < 32 := by omega
 obtain ⟨k2, hk2⟩ : ∃ k2 : Nat, k2 = k1 * 64 + b1 % 64 := ⟨_, rfl⟩
 have hk2' : (k1 : Int) * 64 + (b1 : Int) % 64 = (k2 : Int) := by omega
 have hk2b : k2 < 2048 := by omega
 have HK1 := Lib.hid hk1
 have HK2 := Lib.hid hk2
 clear hk1 hk2
 go_enter Tryz.func45, Tryz.ntmps45
 go_wp2_with fail
 refine (need_2 (b0 : Int) w (by omega) (by omega)).mono ?_
 rintro e w' ⟨rfl, rfl⟩
 go_wp2_with fail
 go_loopg [5, 6] 1 (fun g cv iv wr => w = wr ∧ ((g = 1 ∧ cv = .int .i32 k1 ∧ iv = .int .i64 1) ∨ (g = 0 ∧ cv = .int .i32 k2 ∧ iv = .int .i64 2 ∧ (128 ≤ b1 ∧ b1 ≤ 191))))
 case atStart => exact ⟨rfl, .inl ⟨rfl, by first | rfl | (exact congrArg (Value.int .i32) hk1'), rfl⟩⟩
 case round =>
  obtain ⟨rfl, hrel⟩ := hrel
  rcases hrel with ⟨hg, rfl, rfl⟩ | ⟨hg, rfl, rfl, hc1⟩
  ·have HG := Lib.hid hg
   clear hg
   by_cases d1 : b1 < 128
   ·have hF : firstN s.size b0 b1 b2 b3 = (0, 0) := first2_bad _ _ _ _ _ h (.inl d1)
    have HF := Lib.hid hF
    clear hF
    have d1' : (b1 : Int) < 128 := by omega
    go_wp2
    go_ret2
    exact ⟨by rw [HF.out]; rfl, Below.refl _ _⟩
   have d1' : decide ((b1 : Int) < 128) = false := by simp; omega
   by_cases d2 : 191 < b1
   ·have hF : firstN s.size b0 b1 b2 b3 = (0, 0) := first2_bad _ _ _ _ _ h (.inr ⟨d2, by omega⟩)
    have HF := Lib.hid hF
    clear hF
    have d2' : (191 : Int) < (b1 : Int) := by omega
    go_wp2
    go_ret2
    exact ⟨by rw [HF.out]; rfl, Below.refl _ _⟩
   have d2' : decide ((191 : Int) < (b1 : Int)) = false := by simp; omega
   have hc1 : 128 ≤ b1 ∧ b1 ≤ 191 := by omega
   have HC1 := Lib.hid hc1
   clear hc1
   go_wp2
   go_roundg 0
   case measure => have := HG.out; omega
   case rel => exact ⟨rfl, .inr ⟨rfl, by first | rfl | go_num, rfl, HC1.out⟩⟩
  ·clear hg
   have hv : k2 = b0 % 32 * 64 + b1 % 64 := by
    have := HK1.out
    have := HK2.out
    omega
   have hF : firstN s.size b0 b1 b2 b3 = (k2, 2) := by rw [hv]; exact first2_ok _ _ _ _ _ h hsz hc1
   have HF := Lib.hid hF
   have rb : rightB (k2 : Int) = true := by simp [rightB]; omega
   have RB := Lib.hid rb
   have lo : ¬ (k2 : Int) < 128 := by omega
   have lo' : decide ((k2 : Int) < 128) = false := by simpa using lo
   clear hF hv rb
   go_wp2_with fail
   refine (refRight_is _ _ true RB.out).mono ?_
   rintro e w' ⟨rfl, rfl⟩
   go_wp2
   go_ret2
   exact ⟨by rw [HF.out]; rfl, (Below.refl _ _).alloc (Nat.le_refl _) _⟩
set_option maxHeartbeats 8000000 in
theorem first_m3 (s : ByteArray) (w : World) (hsz : 3 ≤ s.size) (hmax : s.size ≤ maxLen) (h : 224 ≤ gb s 0 ∧ gb s 0 ≤ 239) :
  Calls Tryz.prog 45 #[.string s] w (Told w (First s)) := by
 unfold maxLen at hmax
 unfold First
 have g0 := gb_get s 0 (by omega)
 have q0 := gb_lt s 0
 have e00 : (0 : Int) < (s.size : Int) := by omega
 have g1 := gb_get s 1 (by omega)
 have q1 := gb_lt s 1
 have e10 : (1 : Int) < (s.size : Int) := by omega
 have g2 := gb_get s 2 (by omega)
 have q2 := gb_lt s 2
 have e20 : (2 : Int) < (s.size : Int) := by omega
 have e1 := not_empty s (by omega)
 have e4 : decide ((s.size : Int) < 3) = false := by simp; omega
 generalize gb s 0 = b0 at *
 generalize gb s 1 = b1 at *
 generalize gb s 2 = b2 at *
 generalize gb s 3 = b3 at *
 obtain ⟨k1, hk1⟩ : ∃ k1 : Nat, k1 = b0 % 16 := ⟨_, rfl⟩
 have hk1' : (b0 : Int) % 16 = (k1 : Int) := by omega
 have hk1b : k1 < 16 := by omega
 obtain ⟨k2, hk2⟩ : ∃ k2 : Nat, k2 = k1 * 64 + b1 % 64 := ⟨_, rfl⟩
 have hk2' : (k1 : Int) * 64 + (b1 : Int) % 64 = (k2 : Int) := by omega
 have hk2b : k2 < 1024 := by omega
 obtain ⟨k3, hk3⟩ : ∃ k3 : Nat, k3 = k2 * 64 + b2 % 64 := ⟨_, rfl⟩
 have hk3' : (k2 : Int) * 64 + (b2 : Int) % 64 = (k3 : Int) := by omega
 have hk3b : k3 < 65536 := by omega
 have HK1 := Lib.hid hk1
 have HK2 := Lib.hid hk2
 have HK3 := Lib.hid hk3
 clear hk1 hk2 hk3
 go_enter Tryz.func45, Tryz.ntmps45
 go_wp2_with fail
 refine (need_3 (b0 : Int) w (by omega) (by omega)).mono ?_
 rintro e w' ⟨rfl, rfl⟩
 go_wp2_with fail
 go_loopg [5, 6] 2 (fun g cv iv wr => w = wr ∧ ((g = 2 ∧ cv = .int .i32 k1 ∧ iv = .int .i64 1) ∨ (g = 1 ∧ cv = .int .i32 k2 ∧ iv = .int .i64 2 ∧ (128 ≤ b1 ∧ b1 ≤ 191)) ∨ (g = 0 ∧ cv = .int .i32 k3 ∧ iv = .int .i64 3 ∧ (128 ≤ b1 ∧ b1 ≤ 191) ∧ (128 ≤ b2 ∧ b2 ≤ 191))))
 case atStart => exact ⟨rfl, .inl ⟨rfl, by first | rfl | (exact congrArg (Value.int .i32) hk1'), rfl⟩⟩
 case round =>
  obtain ⟨rfl, hrel⟩ := hrel
  rcases hrel with ⟨hg, rfl, rfl⟩ | ⟨hg, rfl, rfl, hc1⟩ | ⟨hg, rfl, rfl, hc1, hc2⟩
  ·have HG := Lib.hid hg
   clear hg
   by_cases d1 : b1 < 128
   ·have hF : firstN s.size b0 b1 b2 b3 = (0, 0) := first3_bad1 _ _ _ _ _ h (.inl d1)
    have HF := Lib.hid hF
    clear hF
    have d1' : (b1 : Int) < 128 := by omega
    go_wp2
    go_ret2
    exact ⟨by rw [HF.out]; rfl, Below.refl _ _⟩
   have d1' : decide ((b1 : Int) < 128) = false := by simp; omega
   by_cases d2 : 191 < b1
   ·have hF : firstN s.size b0 b1 b2 b3 = (0, 0) := first3_bad1 _ _ _ _ _ h (.inr ⟨d2, by omega⟩)
    have HF := Lib.hid hF
    clear hF
    have d2' : (191 : Int) < (b1 : Int) := by omega
    go_wp2
    go_ret2
    exact ⟨by rw [HF.out]; rfl, Below.refl _ _⟩
   have d2' : decide ((191 : Int) < (b1 : Int)) = false := by simp; omega
   have hc1 : 128 ≤ b1 ∧ b1 ≤ 191 := by omega
   have HC1 := Lib.hid hc1
   clear hc1
   go_wp2
   go_roundg 1
   case measure => have := HG.out; omega
   case rel => exact ⟨rfl, .inr (.inl ⟨rfl, by first | rfl | go_num, rfl, HC1.out⟩)⟩
  ·have HG := Lib.hid hg
   clear hg
   by_cases d1 : b2 < 128
   ·have hF : firstN s.size b0 b1 b2 b3 = (0, 0) := first3_bad2 _ _ _ _ _ h (.inl d1)
    have HF := Lib.hid hF
    clear hF
    have d1' : (b2 : Int) < 128 := by omega
    go_wp2
    go_ret2
    exact ⟨by rw [HF.out]; rfl, Below.refl _ _⟩
   have d1' : decide ((b2 : Int) < 128) = false := by simp; omega
   by_cases d2 : 191 < b2
   ·have hF : firstN s.size b0 b1 b2 b3 = (0, 0) := first3_bad2 _ _ _ _ _ h (.inr ⟨d2, by omega⟩)
    have HF := Lib.hid hF
    clear hF
    have d2' : (191 : Int) < (b2 : Int) := by omega
    go_wp2
    go_ret2
    exact ⟨by rw [HF.out]; rfl, Below.refl _ _⟩
   have d2' : decide ((191 : Int) < (b2 : Int)) = false := by simp; omega
   have hc2 : 128 ≤ b2 ∧ b2 ≤ 191 := by omega
   have HC2 := Lib.hid hc2
   clear hc2
   go_wp2
   go_roundg 0
   case measure => have := HG.out; omega
   case rel => exact ⟨rfl, .inr (.inr ⟨rfl, by first | rfl | go_num, rfl, hc1, HC2.out⟩)⟩
  ·clear hg
   have hv : k3 = b0 % 16 * 4096 + b1 % 64 * 64 + b2 % 64 := by
    have := HK1.out
    have := HK2.out
    have := HK3.out
    omega
   by_cases d1 : k3 < 2048
   ·have hF : firstN s.size b0 b1 b2 b3 = (0, 0) := first3_no _ _ _ _ _ h hc1 hc2 (by rw [← hv]; omega)
    have HF := Lib.hid hF
    clear hF hv
    have d1' : (k3 : Int) < 2048 := by omega
    go_wp2
    go_ret2
    exact ⟨by rw [HF.out]; rfl, (Below.refl _ _).alloc (Nat.le_refl _) _⟩
   have lo' : decide ((k3 : Int) < 2048) = false := by simp; omega
   by_cases d2 : 55296 ≤ k3 ∧ k3 ≤ 57343
   ·have hF : firstN s.size b0 b1 b2 b3 = (0, 0) := first3_no _ _ _ _ _ h hc1 hc2 (by rw [← hv]; omega)
    have HF := Lib.hid hF
    have rb : rightB (k3 : Int) = false := by simp [rightB]; omega
    have RB := Lib.hid rb
    clear hF hv rb d2
    go_wp2_with fail
    refine (refRight_is _ _ false RB.out).mono ?_
    rintro e w' ⟨rfl, rfl⟩
    go_wp2
    go_ret2
    exact ⟨by rw [HF.out]; rfl, (Below.refl _ _).alloc (Nat.le_refl _) _⟩
   have hF : firstN s.size b0 b1 b2 b3 = (k3, 3) := by rw [hv]; exact first3_ok _ _ _ _ _ h hsz hc1 hc2 (by rw [← hv]; omega)
   have HF := Lib.hid hF
   have rb : rightB (k3 : Int) = true := by simp [rightB]; omega
   have RB := Lib.hid rb
   clear hF hv rb d2
   go_wp2_with fail
   refine (refRight_is _ _ true RB.out).mono ?_
   rintro e w' ⟨rfl, rfl⟩
   go_wp2
   go_ret2
   exact ⟨by rw [HF.out]; rfl, (Below.refl _ _).alloc (Nat.le_refl _) _⟩
set_option maxHeartbeats 8000000 in
theorem first_m4 (s : ByteArray) (w : World) (hsz : 4 ≤ s.size) (hmax : s.size ≤ maxLen) (h : 240 ≤ gb s 0 ∧ gb s 0 ≤ 244) :
  Calls Tryz.prog 45 #[.string s] w (Told w (First s)) := by
 unfold maxLen at hmax
 unfold First
 have g0 := gb_get s 0 (by omega)
 have q0 := gb_lt s 0
 have e00 : (0 : Int) < (s.size : Int) := by omega
 have g1 := gb_get s 1 (by omega)
 have q1 := gb_lt s 1
 have e10 : (1 : Int) < (s.size : Int) := by omega
 have g2 := gb_get s 2 (by omega)
 have q2 := gb_lt s 2
 have e20 : (2 : Int) < (s.size : Int) := by omega
 have g3 := gb_get s 3 (by omega)
 have q3 := gb_lt s 3
 have e30 : (3 : Int) < (s.size : Int) := by omega
 have e1 := not_empty s (by omega)
 have e4 : decide ((s.size : Int) < 4) = false := by simp; omega
 generalize gb s 0 = b0 at *
 generalize gb s 1 = b1 at *
 generalize gb s 2 = b2 at *
 generalize gb s 3 = b3 at *
 obtain ⟨k1, hk1⟩ : ∃ k1 : Nat, k1 = b0 % 8 := ⟨_, rfl⟩
 have hk1' : (b0 : Int) % 8 = (k1 : Int) := by omega
 have hk1b : k1 < 8 := by omega
 obtain ⟨k2, hk2⟩ : ∃ k2 : Nat, k2 = k1 * 64 + b1 % 64 := ⟨_, rfl⟩
 have hk2' : (k1 : Int) * 64 + (b1 : Int) % 64 = (k2 : Int) := by omega
 have hk2b : k2 < 512 := by omega
 obtain ⟨k3, hk3⟩ : ∃ k3 : Nat, k3 = k2 * 64 + b2 % 64 := ⟨_, rfl⟩
 have hk3' : (k2 : Int) * 64 + (b2 : Int) % 64 = (k3 : Int) := by omega
 have hk3b : k3 < 32768 := by omega
 obtain ⟨k4, hk4⟩ : ∃ k4 : Nat, k4 = k3 * 64 + b3 % 64 := ⟨_, rfl⟩
 have hk4' : (k3 : Int) * 64 + (b3 : Int) % 64 = (k4 : Int) := by omega
 have hk4b : k4 < 2097152 := by omega
 have HK1 := Lib.hid hk1
 have HK2 := Lib.hid hk2
 have HK3 := Lib.hid hk3
 have HK4 := Lib.hid hk4
 clear hk1 hk2 hk3 hk4
 go_enter Tryz.func45, Tryz.ntmps45
 go_wp2_with fail
 refine (need_4 (b0 : Int) w (by omega) (by omega)).mono ?_
 rintro e w' ⟨rfl, rfl⟩
 go_wp2_with fail
 go_loopg [5, 6] 3 (fun g cv iv wr => w = wr ∧ ((g = 3 ∧ cv = .int .i32 k1 ∧ iv = .int .i64 1) ∨ (g = 2 ∧ cv = .int .i32 k2 ∧ iv = .int .i64 2 ∧ (128 ≤ b1 ∧ b1 ≤ 191)) ∨ (g = 1 ∧ cv = .int .i32 k3 ∧ iv = .int .i64 3 ∧ (128 ≤ b1 ∧ b1 ≤ 191) ∧ (128 ≤ b2 ∧ b2 ≤ 191)) ∨ (g = 0 ∧ cv = .int .i32 k4 ∧ iv = .int .i64 4 ∧ (128 ≤ b1 ∧ b1 ≤ 191) ∧ (128 ≤ b2 ∧ b2 ≤ 191) ∧ (128 ≤ b3 ∧ b3 ≤ 191))))
 case atStart => exact ⟨rfl, .inl ⟨rfl, by first | rfl | (exact congrArg (Value.int .i32) hk1'), rfl⟩⟩
 case round =>
  obtain ⟨rfl, hrel⟩ := hrel
  rcases hrel with ⟨hg, rfl, rfl⟩ | ⟨hg, rfl, rfl, hc1⟩ | ⟨hg, rfl, rfl, hc1, hc2⟩ | ⟨hg, rfl, rfl, hc1, hc2, hc3⟩
  ·have HG := Lib.hid hg
   clear hg
   by_cases d1 : b1 < 128
   ·have hF : firstN s.size b0 b1 b2 b3 = (0, 0) := first4_bad1 _ _ _ _ _ h (.inl d1)
    have HF := Lib.hid hF
    clear hF
    have d1' : (b1 : Int) < 128 := by omega
    go_wp2
    go_ret2
    exact ⟨by rw [HF.out]; rfl, Below.refl _ _⟩
   have d1' : decide ((b1 : Int) < 128) = false := by simp; omega
   by_cases d2 : 191 < b1
   ·have hF : firstN s.size b0 b1 b2 b3 = (0, 0) := first4_bad1 _ _ _ _ _ h (.inr ⟨d2, by omega⟩)
    have HF := Lib.hid hF
    clear hF
    have d2' : (191 : Int) < (b1 : Int) := by omega
    go_wp2
    go_ret2
    exact ⟨by rw [HF.out]; rfl, Below.refl _ _⟩
   have d2' : decide ((191 : Int) < (b1 : Int)) = false := by simp; omega
   have hc1 : 128 ≤ b1 ∧ b1 ≤ 191 := by omega
   have HC1 := Lib.hid hc1
   clear hc1
   go_wp2
   go_roundg 2
   case measure => have := HG.out; omega
   case rel => exact ⟨rfl, .inr (.inl ⟨rfl, by first | rfl | go_num, rfl, HC1.out⟩)⟩
  ·have HG := Lib.hid hg
   clear hg
   by_cases d1 : b2 < 128
   ·have hF : firstN s.size b0 b1 b2 b3 = (0, 0) := first4_bad2 _ _ _ _ _ h (.inl d1)
    have HF := Lib.hid hF
    clear hF
    have d1' : (b2 : Int) < 128 := by omega
    go_wp2
    go_ret2
    exact ⟨by rw [HF.out]; rfl, Below.refl _ _⟩
   have d1' : decide ((b2 : Int) < 128) = false := by simp; omega
   by_cases d2 : 191 < b2
   ·have hF : firstN s.size b0 b1 b2 b3 = (0, 0) := first4_bad2 _ _ _ _ _ h (.inr ⟨d2, by omega⟩)
    have HF := Lib.hid hF
    clear hF
    have d2' : (191 : Int) < (b2 : Int) := by omega
    go_wp2
    go_ret2
    exact ⟨by rw [HF.out]; rfl, Below.refl _ _⟩
   have d2' : decide ((191 : Int) < (b2 : Int)) = false := by simp; omega
   have hc2 : 128 ≤ b2 ∧ b2 ≤ 191 := by omega
   have HC2 := Lib.hid hc2
   clear hc2
   go_wp2
   go_roundg 1
   case measure => have := HG.out; omega
   case rel => exact ⟨rfl, .inr (.inr (.inl ⟨rfl, by first | rfl | go_num, rfl, hc1, HC2.out⟩))⟩
  ·have HG := Lib.hid hg
   clear hg
   by_cases d1 : b3 < 128
   ·have hF : firstN s.size b0 b1 b2 b3 = (0, 0) := first4_bad3 _ _ _ _ _ h (.inl d1)
    have HF := Lib.hid hF
    clear hF
    have d1' : (b3 : Int) < 128 := by omega
    go_wp2
    go_ret2
    exact ⟨by rw [HF.out]; rfl, Below.refl _ _⟩
   have d1' : decide ((b3 : Int) < 128) = false := by simp; omega
   by_cases d2 : 191 < b3
   ·have hF : firstN s.size b0 b1 b2 b3 = (0, 0) := first4_bad3 _ _ _ _ _ h (.inr ⟨d2, by omega⟩)
    have HF := Lib.hid hF
    clear hF
    have d2' : (191 : Int) < (b3 : Int) := by omega
    go_wp2
    go_ret2
    exact ⟨by rw [HF.out]; rfl, Below.refl _ _⟩
   have d2' : decide ((191 : Int) < (b3 : Int)) = false := by simp; omega
   have hc3 : 128 ≤ b3 ∧ b3 ≤ 191 := by omega
   have HC3 := Lib.hid hc3
   clear hc3
   go_wp2
   go_roundg 0
   case measure => have := HG.out; omega
   case rel => exact ⟨rfl, .inr (.inr (.inr ⟨rfl, by first | rfl | go_num, rfl, hc1, hc2, HC3.out⟩))⟩
  ·clear hg
   have hv : k4 = b0 % 8 * 262144 + b1 % 64 * 4096 + b2 % 64 * 64 + b3 % 64 := by
    have := HK1.out
    have := HK2.out
    have := HK3.out
    have := HK4.out
    omega
   by_cases d1 : k4 < 65536
   ·have hF : firstN s.size b0 b1 b2 b3 = (0, 0) := first4_no _ _ _ _ _ h hc1 hc2 hc3 (by rw [← hv]; omega)
    have HF := Lib.hid hF
    clear hF hv
    have d1' : (k4 : Int) < 65536 := by omega
    go_wp2
    go_ret2
    exact ⟨by rw [HF.out]; rfl, (Below.refl _ _).alloc (Nat.le_refl _) _⟩
   have lo' : decide ((k4 : Int) < 65536) = false := by simp; omega
   by_cases d2 : 1114111 < k4
   ·have hF : firstN s.size b0 b1 b2 b3 = (0, 0) := first4_no _ _ _ _ _ h hc1 hc2 hc3 (by rw [← hv]; omega)
    have HF := Lib.hid hF
    have rb : rightB (k4 : Int) = false := by simp [rightB]; omega
    have RB := Lib.hid rb
    clear hF hv rb d2
    go_wp2_with fail
    refine (refRight_is _ _ false RB.out).mono ?_
    rintro e w' ⟨rfl, rfl⟩
    go_wp2
    go_ret2
    exact ⟨by rw [HF.out]; rfl, (Below.refl _ _).alloc (Nat.le_refl _) _⟩
   have hF : firstN s.size b0 b1 b2 b3 = (k4, 4) := by rw [hv]; exact first4_ok _ _ _ _ _ h hsz hc1 hc2 hc3 (by rw [← hv]; omega)
   have HF := Lib.hid hF
   have rb : rightB (k4 : Int) = true := by simp [rightB]; omega
   have RB := Lib.hid rb
   clear hF hv rb d2
   go_wp2_with fail
   refine (refRight_is _ _ true RB.out).mono ?_
   rintro e w' ⟨rfl, rfl⟩
   go_wp2
   go_ret2
   exact ⟨by rw [HF.out]; rfl, (Below.refl _ _).alloc (Nat.le_refl _) _⟩
theorem first_any (s : ByteArray) (w : World) (h1 : 1 ≤ s.size) (hmax : s.size ≤ maxLen) : Calls Tryz.prog 45 #[.string s] w (Told w (First s)) := by
 have hb := gb_lt s 0
 by_cases c1 : gb s 0 < 128
 ·exact first_ascii s w h1 hmax c1
 by_cases c2 : gb s 0 < 194
 ·exact first_zero s w h1 hmax (.inl ⟨by omega, c2⟩)
 by_cases c3 : gb s 0 ≤ 223
 ·by_cases d : s.size < 2
  ·exact first_s2 s w h1 d ⟨by omega, c3⟩
  ·exact first_m2 s w (by omega) hmax ⟨by omega, c3⟩
 by_cases c4 : gb s 0 ≤ 239
 ·by_cases d : s.size < 3
  ·exact first_s3 s w h1 d ⟨by omega, c4⟩
  ·exact first_m3 s w (by omega) hmax ⟨by omega, c4⟩
 by_cases c5 : gb s 0 ≤ 244
 ·by_cases d : s.size < 4
  ·exact first_s4 s w h1 d ⟨by omega, c5⟩
  ·exact first_m4 s w (by omega) hmax ⟨by omega, c5⟩
 ·exact first_zero s w h1 hmax (.inr ⟨by omega, by omega⟩)
end Go.Proofs.YtknjhlbhbnldpaaGreatDoor.C
