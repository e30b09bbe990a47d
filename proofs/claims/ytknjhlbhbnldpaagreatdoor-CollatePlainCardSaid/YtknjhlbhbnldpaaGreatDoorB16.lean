/-
  Joined: MLxM, MCellF, LfD, LiA, KoH, KoR. Each with what its own head says.
-/
import Derived.Test.YtknjhlbhbnldpaaGreatDoorB11
import Derived.Test.YtknjhlbhbnldpaaGreatDoorB12


namespace Go.Proofs.YtknjhlbhbnldpaaGreatDoor.C
open Go.RowKit
theorem TI.cell {w : World} {B n : Nat} {A : Option Addr} {ts : List Tok} (h : TI w B A n ts) {ad : Addr} (hA : A = some ad) {k : Nat} {x : Tok} (hx : ts[k]? = some x) (i : Nat) (u : Value) (hu : (tkC x)[i]? = some u) : w.cell? (ad.add (k * 4 + i)) = some u := by
 have hk : k < n := by rw [← h.len]; exact (List.getElem?_eq_some_iff.1 hx).1
 obtain ⟨ad', x', h1, h2, h3, h4⟩ := h.at_ hk
 rw [hA] at h1
 injection h1 with h1
 subst h1
 rw [hx] at h3
 injection h3 with h3
 subst h3
 exact h4 i u hu
end Go.Proofs.YtknjhlbhbnldpaaGreatDoor.C


namespace Go.Proofs.YtknjhlbhbnldpaaGreatDoor.C
open Go.RowKit
theorem own_iter {w : World} {base : Nat} {e : TypeId} {size : Nat} {v : Value} {n : Nat} {xs : List Value} (h : w.ownsRow base e size v n xs) {k : Nat} {s : ByteArray} {pos : Nat} (hk : w.heap[k]? = some (.stringIter s pos)) (pos' : Nat) :
  (w.iterAt k s pos').ownsRow base e size v n xs := by
 refine ⟨h.1, ?_⟩
 rcases h.2 with h1 | ⟨g, cap, cur, h1, h2, h3, h4⟩
 ·exact .inl h1
 ·refine .inr ⟨g, cap, cur, h1, h2, ?_, h4⟩
  rw [Lib.iterAt_other _ _ _ _ _ (fun e => by subst e; rw [h3] at hk; cases hk)]
  exact h3
theorem own_ne_iter {w : World} {base : Nat} {e : TypeId} {size : Nat} {v : Value} {n : Nat} {xs : List Value} (h : w.ownsRow base e size v n xs) {k : Nat} {s : ByteArray} {pos : Nat} (hk : w.heap[k]? = some (.stringIter s pos)) : some k ≠ v.ownBlock := by
 rcases h.2 with ⟨rfl, _⟩ | ⟨g, cap, cur, rfl, _, h3, _⟩
 ·simp [Value.ownBlock]
 ·intro he
  simp [Value.ownBlock] at he
  subst he
  rw [h3] at hk
  cases hk
theorem of_more {w wr w2 : World} {B K : Nat} {e : TypeId} {v : Value} {n : Nat} {xs : List Value} {s : ByteArray} {pos p' : Nat} {o : Obj} (hown : wr.ownsRow B e 1 v n xs) (hit : wr.heap[K]? = some (.stringIter s pos)) (hb : Below B w wr) (hBK : B ≤ K) (hBw : B ≤ w.heap.size)
  (hg : ((wr.iterAt K s p').alloc o).grownBy w2 v.ownBlock) : w2.heap[K]? = some (.stringIter s p') ∧ Below B w w2 := by
 have hK : K < wr.heap.size := (Array.getElem?_eq_some_iff.1 hit).1
 have hne := own_ne_iter hown hit
 have hsz : (wr.iterAt K s p').heap.size = wr.heap.size := Lib.iterAt_size _ _ _ _
 have hBr : B ≤ wr.heap.size := Nat.le_trans hBw hb.size
 constructor
 ·rw [hg.block K (by simp; omega) hne, Below.heap_alloc _ _ _ (by omega)]
  exact Lib.iterAt_heap wr K s pos p' hit
 ·refine Below.grown ((Lib.below_iterAt hb hBK s p').alloc (by omega) o) hg (by simp; omega) ?_
  intro k hk
  exact (hown.lt k hk).1
theorem hasPrefix_at (s : ByteArray) (pos : Nat) (b : Bool) (h : hasP s pos = b) (w : World) :
  Calls Tryz.prog 86 #[.string (s.extract pos s.size), .string ⟨#[239, 191, 189]⟩] w fun e w' => e = .returned (.bool b) ∧ w = w' := by
 have := hasPrefix_any (s.extract pos s.size) ⟨#[239, 191, 189]⟩ w
 rw [show Lib.hasPrefix (s.extract pos s.size).data.toList (ByteArray.mk #[239, 191, 189]).data.toList = b from h] at this
 exact this
set_option maxHeartbeats 2000000 in
theorem of_any (s : ByteArray) (w : World) (hs : s.size ≤ 1099511627776) :
  Calls Tryz.prog 44 #[.string s] w fun e w' => ∃ v, e = .returned v ∧ w'.ownsRow w.heap.size 23 1 v (ofL s).length ((ofL s).map (Value.int .i32)) ∧ Below w.heap.size w w' := by
 obtain ⟨i0, hi, hz0, hz1, hz2⟩ := info_parts info33
 have hrc := Lib.runeCount_le s
 go_enter Tryz.func44, Tryz.ntmps44
 go_wp2_with fail
 refine (runeCount_any s w (by omega)).mono ?_
 rintro e w1 ⟨rfl, pos, rfl⟩
 have hb1 : Below w.heap.size w (w.iter s pos) := (Below.refl _ _).alloc (Nat.le_refl _) _
 have hs1 : (w.iter s pos).heap.size = w.heap.size + 1 := by simp [World.iter]
 generalize w.iter s pos = w1 at *
 have HS1 := Lib.hid hs1
 clear hs1
 generalize Lib.runeCount s = rc at *
 go_wp2_with (at_make; (refine wpList_make_own _ rfl _ _ 33 rfl w.heap.size 23 i0 (.int .i32 0) 1 Tryz.underlying33 hi hz0 hz1 .i64 .i64 _ rc rfl rfl (by omega) (by rw [hz2]; omega) (by unfold maxLen; omega) (by rw [HS1.out]; omega) ?_); intro w2 hown hgrow; have hb2 : Below w.heap.size w w2 := hb1.grown hgrow (by rw [HS1.out]; omega) (fun _ h => by cases h); clear hgrow; have HO := Lib.hid hown; clear hown)
 go_loopw [3] (fun v wr => ∃ (pos b : Nat) (acc : List Int), OfSt s acc b pos ∧ Hid (wr.ownsRow w.heap.size 23 1 v acc.length (acc.map (Value.int .i32))) ∧ Hid (wr.heap[w2.heap.size]? = some (.stringIter s pos)) ∧ Below w.heap.size w wr) (fun _ wr => s.size - wr.iterPos w2.heap.size)
 case atStart => exact ⟨0, s.size, [], ofSt_zero s, HO.out.alloc _, heap_alloc_new _ _, hb2.alloc hb2.size _⟩
 case round =>
  obtain ⟨pos, b, acc, hst, HW, HI, hbr⟩ := hrel
  have HST := Lib.hid hst
  clear hst
  have hsz := hbr.size
  have hsz2 := hb2.size
  have hmes : s.size - wr.iterPos w2.heap.size = s.size - pos := by rw [iterPos_of HI.out]
  have HM := Lib.hid hmes
  clear hmes
  by_cases hp : pos < s.size
  ·obtain ⟨b', hst'⟩ := ofSt_step HST.out hp
   have hnx : ∀ ty, (Instr.next (.pointer (some ⟨w2.heap.size, 0, none⟩)) true ty).run Tryz.prog wr = _ := fun ty => Lib.run_next_any_at wr w2.heap.size s pos ty HI.out hp
   have hwd := Lib.decode_width_pos s pos hp
   have hszi : w.heap.size ≤ (wr.iterAt w2.heap.size s (pos + (Utf8.decode s pos).2)).heap.size := by rw [Lib.iterAt_size]; exact hsz
   by_cases hr : (((Utf8.decode s pos).1 : Int) == 65533) = true
   ·cases hh : hasP s pos with
    | false =>
     have hcell : cellAt s pos = -1 - ((s.get! pos).toNat : Int) := if_pos ⟨hr, hh⟩
     have hget : s.get! pos = s[pos] := get_at s pos hp
     rw [hcell, hget] at hst'
     have HS' := Lib.hid hst'
     have hbd : (s[pos].toNat : Int) ≤ 255 := by have := s[pos].toNat_lt; omega
     clear hst' hcell hget
     go_wp2_with fail
     refine (hasPrefix_at s pos false hh _).mono ?_
     rintro e w' ⟨rfl, rfl⟩
     clear hh
     go_wp2_with fail
     refine (escape_any _ _ (by omega) hbd).mono ?_
     rintro e w' ⟨rfl, rfl⟩
     go_wp2_with (at_builtin; (refine wpList_append_own _ rfl _ _ 33 rfl w.heap.size 23 i0 (.int .i32 0) 1 4 Tryz.underlying33 hi hz0 hz1 hz2 rfl (by decide) _ _ _ rfl ((own_iter HW.out HI.out _).alloc _) _ 1 1 [.int .i32 (-1 - (s[pos].toNat : Int))] rfl rfl (cell_one_new _ _ _) (by intro u hu; simp at hu; subst hu; rfl) (by unfold maxLen; have := HST.out.2.2.2; omega) (by have := HST.out.2.2.2; omega) (by simp; omega) ?_); intro v' w3 hown' hgrow _; have R := Lib.hid (of_more HW.out HI.out hbr hsz2 (Nat.le_refl _) hgrow); have HO3 := Lib.hid hown'; clear hown' hgrow)
     go_roundw
     case rel => exact ⟨_, b', acc ++ [(-1 - (s[pos].toNat : Int))], HS'.out, by simpa [Hid] using HO3.out, R.out.1, R.out.2⟩
     case measure => rw [HM.out, iterPos_of R.out.1]; omega
    | true =>
     have hcell : cellAt s pos = ((Utf8.decode s pos).1 : Int) := if_neg (by rw [hh]; simp)
     rw [hcell] at hst'
     have HS' := Lib.hid hst'
     clear hst' hcell
     go_wp2_with fail
     refine (hasPrefix_at s pos true hh _).mono ?_
     rintro e w' ⟨rfl, rfl⟩
     clear hh
     go_wp2_with (at_builtin; (refine wpList_append_own _ rfl _ _ 33 rfl w.heap.size 23 i0 (.int .i32 0) 1 4 Tryz.underlying33 hi hz0 hz1 hz2 rfl (by decide) _ _ _ rfl ((own_iter HW.out HI.out _).alloc _) _ 1 1 [.int .i32 ((Utf8.decode s pos).1 : Int)] rfl rfl (cell_one_new _ _ _) (by intro u hu; simp at hu; subst hu; rfl) (by unfold maxLen; have := HST.out.2.2.2; omega) (by have := HST.out.2.2.2; omega) (by simp; omega) ?_); intro v' w3 hown' hgrow _; have R := Lib.hid (of_more HW.out HI.out hbr hsz2 (Nat.le_refl _) hgrow); have HO3 := Lib.hid hown'; clear hown' hgrow)
     go_roundw
     case rel => exact ⟨_, b', acc ++ [((Utf8.decode s pos).1 : Int)], HS'.out, by simpa [Hid] using HO3.out, R.out.1, R.out.2⟩
     case measure => rw [HM.out, iterPos_of R.out.1]; omega
   ·have hr' : (((Utf8.decode s pos).1 : Int) == 65533) = false := by simpa using hr
    have hcell : cellAt s pos = ((Utf8.decode s pos).1 : Int) := if_neg (by rw [hr']; simp)
    rw [hcell] at hst'
    have HS' := Lib.hid hst'
    clear hst' hcell hr
    go_wp2_with (at_builtin; (refine wpList_append_own _ rfl _ _ 33 rfl w.heap.size 23 i0 (.int .i32 0) 1 4 Tryz.underlying33 hi hz0 hz1 hz2 rfl (by decide) _ _ _ rfl ((own_iter HW.out HI.out _).alloc _) _ 1 1 [.int .i32 ((Utf8.decode s pos).1 : Int)] rfl rfl (cell_one_new _ _ _) (by intro u hu; simp at hu; subst hu; rfl) (by unfold maxLen; have := HST.out.2.2.2; omega) (by have := HST.out.2.2.2; omega) (by simp; omega) ?_); intro v' w3 hown' hgrow _; have R := Lib.hid (of_more HW.out HI.out hbr hsz2 (Nat.le_refl _) hgrow); have HO3 := Lib.hid hown'; clear hown' hgrow)
    go_roundw
    case rel => exact ⟨_, b', acc ++ [((Utf8.decode s pos).1 : Int)], HS'.out, by simpa [Hid] using HO3.out, R.out.1, R.out.2⟩
    case measure => rw [HM.out, iterPos_of R.out.1]; omega
  ·have hnx : ∀ ty, (Instr.next (.pointer (some ⟨w2.heap.size, 0, none⟩)) true ty).run Tryz.prog wr = _ := fun ty => Lib.run_next_end_at wr w2.heap.size s pos ty HI.out hp
   go_wp2
   go_ret
   refine ⟨_, rfl, ?_, hbr⟩
   rw [ofSt_end HST.out hp]
   exact HW.out
end Go.Proofs.YtknjhlbhbnldpaaGreatDoor.C


namespace Go.Proofs.YtknjhlbhbnldpaaGreatDoor.C
open Go.RowKit
theorem Kp.heap {B P k : Nat} {w w' : World} {c : Array Value} {t : TypeId} (h : Kp B P w w') (hk : w.heap[k]? = some (.cells c t (0, 0))) (hP : k ≠ P) (ht : t ≠ 5) : w'.heap[k]? = some (.cells c t (0, 0)) :=
 h.2 k _ hk (by simpa using hP) (fun c' fz e => ht (by injection e))
theorem Kp.drew {B P : Nat} {w w' : World} (h : Kp B P w w') : Kp B P w w'.drew := ⟨⟨h.1.os, h.1.tape, h.1.output, h.1.size, h.1.block⟩, h.2⟩
end Go.Proofs.YtknjhlbhbnldpaaGreatDoor.C


namespace Go.Proofs.YtknjhlbhbnldpaaGreatDoor.C
open Go.Lib (decodeN)
theorem cellN_neg (m b0 b1 b2 b3 : Nat) (_hm : 1 ≤ m) (h : cellN m b0 b1 b2 b3 < 0) : cellN m b0 b1 b2 b3 ≤ -129 := by
 unfold cellN at h ⊢
 split
 ·rename_i he
  rw [if_pos he] at h
  by_cases h0 : b0 < 128
  ·exfalso
   have : decodeN m b0 b1 b2 b3 = (b0, 1) := by
    unfold decodeN
    rw [if_pos h0]
   rw [this] at he
   injection he
   omega
  ·omega
 ·rename_i he
  rw [if_neg he] at h
  omega
theorem ofFrom_neg (s : ByteArray) : ∀ f pos, ∀ c ∈ ofFrom s f pos, c < 0 → c ≤ -129
 | 0, _, c, h => by simp [ofFrom] at h
 | f + 1, pos, c, h => by
  rw [ofFrom] at h
  split at h
  ·rename_i hp
   rcases List.mem_cons.1 h with rfl | h
   ·rw [cellAt_eq s pos hp]
    exact cellN_neg _ _ _ _ _ (by omega)
   ·exact ofFrom_neg s f _ c h
  ·simp at h
theorem encRune_low {c : Int} (h0 : 0 ≤ c) {b : Int} (hb : b < 128) (h : b ∈ Lib.encodeRuneZ c) : b = c := by
 unfold Lib.encodeRuneZ at h
 revert h
 repeat' split
 all_goals intro h
 all_goals simp at h
 all_goals omega
theorem low_in {xs : List Int} (h : canonB xs = true) {b : Int} (h0 : 0 ≤ b) (hb : b < 128) (hm : b ∈ encL xs) : b ∈ xs := by
 unfold canonB sameB at h
 simp only [Bool.and_eq_true, decide_eq_true_eq] at h
 obtain ⟨c, hc, hbc⟩ := List.mem_flatMap.1 hm
 unfold encC at hbc
 split at hbc
 ·rename_i hneg
  have h2 : c ∈ ofL (sb (encL xs)) := by rw [h.2]; exact hc
  have := ofFrom_neg _ _ _ c h2 hneg
  simp at hbc
  omega
 ·rw [encRune_low (by omega) hb hbc]
  exact hc
theorem bytesOf_in {xs : List Int} (h : canonB xs = true) {b : UInt8} (hb : b.toNat < 128) (hm : b ∈ bytesOf xs) : (b.toNat : Int) ∈ xs := by
 refine low_in h (by omega) (by omega) ?_
 unfold bytesOf at hm
 have hbd := all_bd (xs := xs) (by unfold canonB at h; exact (Bool.and_eq_true_iff.1 h).1)
 obtain ⟨i, hi, he⟩ := List.mem_iff_getElem.1 hm
 have hi' : i < (encL xs).length := by
  have : (sb (encL xs)).data.toList.length = (encL xs).length := by rw [← sb_size]; rfl
  omega
 have hg := gb_sb hbd i
 rw [gb_list, List.getD_eq_getElem?_getD, List.getElem?_eq_getElem hi, Option.getD_some, he] at hg
 unfold nb at hg
 rw [List.getD_eq_getElem?_getD, List.getElem?_eq_getElem hi', Option.getD_some] at hg
 have h2 := hbd _ (List.getElem_mem hi')
 have : (b.toNat : Int) = (encL xs)[i] := by omega
 rw [this]
 exact List.getElem_mem hi'
theorem quot_free {l : List Int} (h : quotB l = true) : (34 : UInt8) ∉ bytesOf l ∧ (10 : UInt8) ∉ bytesOf l := by
 obtain ⟨-, -, h1, h2, h3⟩ := quotB_parts h
 exact ⟨fun hm => h1 (bytesOf_in (b := 34) h3 (by decide) hm), fun hm => h2 (bytesOf_in (b := 10) h3 (by decide) hm)⟩
theorem named_quot {e : Elm} (h : elemB e = true) (hn : e.name ≠ []) : quotB e.cells = true ∧ wordlyB e.name = true ∧ (numL e.name).isNone = true := by
 obtain ⟨nm, xs, s⟩ := e
 by_cases h1 : xs.length = 1
 ·obtain ⟨u, rfl⟩ : ∃ u, xs = [u] := by
   match xs, h1 with
   | [u], _ => exact ⟨u, rfl⟩
  rw [elemB_one] at h
  have := (Bool.and_eq_true_iff.1 h).2
  exact absurd (List.isEmpty_iff.1 this) hn
 ·rw [elemB_more s h1] at h
  simp only [Bool.and_eq_true] at h
  exact ⟨h.1.1, h.1.2, h.2⟩
theorem right_quot {l : Loc} (h : rightL l = true) : ∀ e ∈ l.ord, e.name ≠ [] → (34 : UInt8) ∉ bytesOf e.cells ∧ (10 : UInt8) ∉ bytesOf e.cells := by
 intro e he hn
 unfold rightL at h
 exact quot_free (named_quot (ordB_mem (Bool.and_eq_true_iff.1 h).2 e he) hn).1
theorem right_good {l : Loc} (h : rightL l = true) : GoodLs (locT l) := good_locT h (right_quot h)
end Go.Proofs.YtknjhlbhbnldpaaGreatDoor.C

namespace Go.Proofs.YtknjhlbhbnldpaaGreatDoor.C
open Go.RowKit

theorem less_any (x y : Int) (w : World) : Calls Tryz.prog 147 #[.int .i32 x, .int .i32 y] w fun e w' => e = .returned (.bool (decide (x < y))) ∧ w' = w := by
 go_enter Tryz.func147, Tryz.ntmps147
 go_wp2
 go_ret
 exact ⟨by simp, rfl⟩
theorem Fr.drewN {a b : World} {X : Nat → Prop} (h : Fr a b X) (q : Nat) : Fr a (b.drewN q) X := ⟨h.os, h.tape, h.output, h.size, h.block⟩
def UpBut (ys : List Int) (i j : Nat) : Prop := ∀ p q, p < q → q ≤ i → q ≠ j → ys.getD p 0 ≤ ys.getD q 0
def swp (ys : List Int) (k : Nat) : List Int := (ys.set (k + 1) (ys.getD k 0)).set k (ys.getD (k + 1) 0)
theorem swp_len (ys : List Int) (k : Nat) : (swp ys k).length = ys.length := by simp [swp]
theorem swp_get (ys : List Int) (k p : Nat) (hk : k + 1 < ys.length) : (swp ys k).getD p 0 = if p = k then ys.getD (k + 1) 0 else if p = k + 1 then ys.getD k 0 else ys.getD p 0 := by
 unfold swp
 by_cases h1 : p = k
 ·subst h1
  rw [if_pos rfl, List.getD_eq_getElem?_getD, List.getElem?_set_self (by simp; omega)]
  rfl
 ·rw [if_neg h1, List.getD_eq_getElem?_getD, List.getElem?_set_ne (Ne.symm h1)]
  by_cases h2 : p = k + 1
  ·subst h2
   rw [if_pos rfl, List.getElem?_set_self hk]
   rfl
  ·rw [if_neg h2, List.getElem?_set_ne (Ne.symm h2), List.getD_eq_getElem?_getD]
theorem swp_perm : ∀ (ys : List Int) (k : Nat), k + 1 < ys.length → (swp ys k).Perm ys
 | [], _, h => by simp at h
 | [a], k, h => by simp at h
 | a :: b :: r, 0, _ => by
  show (b :: a :: r).Perm (a :: b :: r)
  exact List.Perm.swap a b r
 | a :: b :: r, k + 1, h => by
  have := swp_perm (b :: r) k (by simpa using h)
  exact this.cons a
theorem upbut_swp {ys : List Int} {i k : Nat} (h : UpBut ys i (k + 1)) (hk : k + 1 < ys.length) (hki : k + 1 ≤ i) (hl : ys.getD (k + 1) 0 < ys.getD k 0) : UpBut (swp ys k) i k := by
 intro p q hpq hq hne
 rw [swp_get _ _ _ hk, swp_get _ _ _ hk, if_neg hne]
 by_cases h1 : q = k + 1
 ·subst h1
  rw [if_pos rfl]
  by_cases h2 : p = k
  ·rw [if_pos h2]; omega
  ·rw [if_neg h2, if_neg (by omega)]
   exact h p k (by omega) (by omega) (by omega)
 ·rw [if_neg h1]
  by_cases h2 : p = k
  ·rw [if_pos h2]
   exact h (k + 1) q (by omega) hq h1
  ·rw [if_neg h2]
   by_cases h3 : p = k + 1
   ·rw [if_pos h3]
    exact h k q (by omega) hq h1
   ·rw [if_neg h3]
    exact h p q hpq hq h1
def UpTo (ys : List Int) (i : Nat) : Prop := ∀ p q, p < q → q ≤ i → ys.getD p 0 ≤ ys.getD q 0
theorem upto_zero {ys : List Int} {i : Nat} (h : UpBut ys i 0) : UpTo ys i := fun p q h1 h2 => h p q h1 h2 (by omega)
theorem upto_stop {ys : List Int} {i k : Nat} (h : UpBut ys i (k + 1)) (hki : k + 1 ≤ i) (hl : ¬ ys.getD (k + 1) 0 < ys.getD k 0) : UpTo ys i := by
 intro p q h1 h2
 by_cases h3 : q = k + 1
 ·subst h3
  by_cases h4 : p = k
  ·subst h4; omega
  ·have := h p k (by omega) (by omega) (by omega)
   omega
 ·exact h p q h1 h2 h3
theorem upto_next {ys : List Int} {i : Nat} (h : UpTo ys i) : UpBut ys (i + 1) (i + 1) := fun p q h1 h2 h3 => h p q h1 (by omega)
theorem upto_sorted {ys : List Int} {i : Nat} (h : UpTo ys i) (hi : ys.length ≤ i + 1) : ys.Pairwise (· ≤ ·) :=
 List.pairwise_iff_getElem.2 fun p q hp hq hpq => by
  have := h p q hpq (by omega)
  rwa [List.getD_eq_getElem?_getD, List.getElem?_eq_getElem hp, List.getD_eq_getElem?_getD, List.getElem?_eq_getElem hq] at this
theorem getD_at {ys : List Int} {k : Nat} (h : k < ys.length) (rest : List Value) : (celC ys ++ rest)[k]? = some (.int .i32 (ys.getD k 0)) := by
 rw [List.getElem?_append_left (by simp [celC]; exact h)]
 unfold celC
 rw [List.getElem?_map, List.getElem?_eq_getElem h, List.getD_eq_getElem?_getD, List.getElem?_eq_getElem h]
 rfl
theorem row_swp {w : World} {g : Nat} {t : TypeId} {ys : List Int} {rest : List Value} {k : Nat} (h : Row w g t (celC ys ++ rest)) (hk : k + 1 < ys.length) : Row ((w.setCell ⟨g, k + 1, none⟩ (.int .i32 (ys.getD k 0))).setCell ⟨g, k, none⟩ (.int .i32 (ys.getD (k + 1) 0))) g t (celC (swp ys k) ++ rest) := by
 have h2 := (h.set (k + 1) (.int .i32 (ys.getD k 0))).set k (.int .i32 (ys.getD (k + 1) 0))
 have e : ((celC ys ++ rest).set (k + 1) (.int .i32 (ys.getD k 0))).set k (.int .i32 (ys.getD (k + 1) 0)) = celC (swp ys k) ++ rest := by
  rw [List.set_append_left _ _ (by simp [celC]; exact hk), List.set_append_left _ _ (by simp [celC]; omega)]
  unfold celC swp
  rw [List.map_set, List.map_set]
 rwa [e] at h2
set_option maxRecDepth 100000 in
set_option maxHeartbeats 4000000 in
theorem insert_any (w : World) (g c n : Nat) (t : TypeId) (zs : List Int) (rest : List Value) (hr : Row w g t (celC zs ++ rest)) (hlen : zs.length = n) (hn : n ≤ 12) (h0 : 0 < n) :
  Calls Tryz.prog 141 #[.slice (some ⟨g, 0, none⟩) n c, .int .i64 0, .int .i64 (n : Nat)] w fun e w' => e = .returned (.tuple #[]) ∧ ∃ ys, Row w' g t (celC ys ++ rest) ∧ ys.Perm zs ∧ ys.Pairwise (· ≤ ·) ∧ Fr w w' (· = g) := by
 have HR := Lib.hid hr
 have HL := Lib.hid hlen
 clear hr hlen
 go_enter Tryz.func141, Tryz.ntmps141
 go_wp2
 go_loopw [6] (fun vi wr => ∃ (i : Nat) (ys : List Int), vi = .int .i64 ((i : Int) + 1) ∧ i + 1 ≤ n ∧ Hid (Row wr g t (celC ys ++ rest) ∧ ys.Perm zs ∧ Fr w wr (· = g) ∧ UpTo ys i)) (fun vi _ => n - (intOf vi).toNat)
 case atStart => exact ⟨0, zs, by go_num, by omega, Lib.hid ⟨HR.out, List.Perm.refl _, Fr.refl _ _, fun p q h1 h2 => by omega⟩⟩
 case round =>
  obtain ⟨i, ys, rfl, hin, HQ⟩ := hrel
  by_cases hlt : i + 1 < n
  ·have hlt' : (i : Int) + 1 < (n : Int) := by omega
   go_wp2
   go_loopw [7] (fun vj wr2 => ∃ (j : Nat) (yj : List Int), vj = .int .i64 (j : Int) ∧ j ≤ i + 1 ∧ Hid (Row wr2 g t (celC yj ++ rest) ∧ yj.Perm zs ∧ Fr w wr2 (· = g) ∧ UpBut yj (i + 1) j)) (fun vj _ => (intOf vj).toNat)
   case atStart => exact ⟨i + 1, ys, by go_num, Nat.le_refl _, Lib.hid ⟨HQ.out.1, HQ.out.2.1, HQ.out.2.2.1, upto_next HQ.out.2.2.2⟩⟩
   case round =>
    obtain ⟨j, yj, rfl, hji, HJ⟩ := hrel
    rcases j with _ | k
    ·have HE : Hid (∃ (i' : Nat) (ys : List Int), Value.int .i64 ((i : Int) + 1 + 1) = .int .i64 ((i' : Int) + 1) ∧ i' + 1 ≤ n ∧ Hid (∀ q, Row (wr.drewN q) g t (celC ys ++ rest) ∧ ys.Perm zs ∧ Fr w (wr.drewN q) (· = g) ∧ UpTo ys i')) := Lib.hid ⟨i + 1, yj, by go_num, by omega, Lib.hid fun q => ⟨HJ.out.1, HJ.out.2.1, HJ.out.2.2.1.drewN q, upto_zero HJ.out.2.2.2⟩⟩
     go_wp2
     go_quiet (first | (go_at_call 147; refine Calls.quiet_of_same (less_any _ _ _)))
     go_wp2
     go_roundw
     case rel =>
      obtain ⟨i', ys', e, h1, h2⟩ := HE.out
      exact ⟨i', ys', e, h1, Lib.hid (h2.out nq)⟩
     case measure => simp [intOf]; omega
    ·have hyl : yj.length = n := by rw [HJ.out.2.1.length_eq, HL.out]
     have c1 : wr.cell? ⟨g, k + 1, none⟩ = some (.int .i32 (yj.getD (k + 1) 0)) := HJ.out.1.cell (getD_at (by omega) rest)
     have c0 : wr.cell? ⟨g, k, none⟩ = some (.int .i32 (yj.getD k 0)) := HJ.out.1.cell (getD_at (by omega) rest)
     have f1 := HJ.out.1.frozen (k + 1)
     have f0 := HJ.out.1.frozen k
     have HSW : Hid (∀ q, Row (((wr.drewN q).setCell ⟨g, k + 1, none⟩ (.int .i32 (yj.getD k 0))).setCell ⟨g, k, none⟩ (.int .i32 (yj.getD (k + 1) 0))) g t (celC (swp yj k) ++ rest)) := Lib.hid fun q => row_swp (w := wr.drewN q) HJ.out.1 (by omega)
     have HFS : Hid (∀ q, Fr w (((wr.drewN q).setCell ⟨g, k + 1, none⟩ (.int .i32 (yj.getD k 0))).setCell ⟨g, k, none⟩ (.int .i32 (yj.getD (k + 1) 0))) (· = g)) := Lib.hid fun q => ((HJ.out.2.2.1.drewN q).setT _ _).setT _ _
     have HPS : Hid ((swp yj k).Perm zs) := Lib.hid ((swp_perm yj k (by omega)).trans HJ.out.2.1)
     have HUS : Hid (yj.getD (k + 1) 0 < yj.getD k 0 → UpBut (swp yj k) (i + 1) k) := Lib.hid fun h => upbut_swp HJ.out.2.2.2 (by omega) hji h
     have HUT : Hid (¬ yj.getD (k + 1) 0 < yj.getD k 0 → UpTo yj (i + 1)) := Lib.hid fun h => upto_stop HJ.out.2.2.2 hji h
     obtain ⟨x, hx⟩ : ∃ x, x = yj.getD (k + 1) 0 := ⟨_, rfl⟩
     obtain ⟨y, hy⟩ : ∃ y, y = yj.getD k 0 := ⟨_, rfl⟩
     rw [← hx] at c1 HSW HFS HUS HUT
     rw [← hy] at c0 HSW HFS HUS HUT
     have i0 : (0 : Int) ≤ (k : Int) + 1 := by omega
     have i1 : (k : Int) + 1 < (n : Int) := by omega
     have i2 : (0 : Int) ≤ (k : Int) := by omega
     have i3 : (k : Int) < (n : Int) := by omega
     have i4 : (0 : Int) < (k : Int) + 1 := by omega
     clear hx hy hyl
     go_wp2
     go_quiet (first | (go_at_call 147; refine Calls.quiet_of_same (less_any _ _ _)))
     by_cases hxy : x < y
     ·go_wp2
      go_region
      all_goals go_wp2
      go_roundw
      case rel =>
       exact ⟨k, swp yj k, rfl, by omega, Lib.hid ⟨HSW.out _, HPS.out, HFS.out _, HUS.out hxy⟩⟩
      case measure => first | (simp [intOf]; done) | (simp [intOf]; omega)
     ·go_wp2
      go_roundw
      case rel =>
       exact ⟨i + 1, yj, by go_num, by omega, Lib.hid ⟨HJ.out.1, HJ.out.2.1, HJ.out.2.2.1.drewN nq, HUT.out (by omega)⟩⟩
      case measure => simp [intOf]; omega
  ·obtain rfl : i + 1 = n := by omega
   have HE : Hid (∃ ys, Row wr g t (celC ys ++ rest) ∧ ys.Perm zs ∧ ys.Pairwise (· ≤ ·) ∧ Fr w wr (· = g)) := Lib.hid ⟨ys, HQ.out.1, HQ.out.2.1, upto_sorted HQ.out.2.2.2 (by rw [HQ.out.2.1.length_eq, HL.out]; exact Nat.le_refl _), HQ.out.2.2.1⟩
   go_wp2
   go_end0
   exact ⟨rfl, HE.out⟩
end Go.Proofs.YtknjhlbhbnldpaaGreatDoor.C

namespace Go.Proofs.YtknjhlbhbnldpaaGreatDoor.C
open Go.RowKit

section
variable {F : Fence} {n : Nat} {P : Program} {ops : Array Oper} {Q : Exit → Act → World → Prop} {md : Region.Mode} {S : World → Prop}
def wpAnyI (F : Fence) (n : Nat) (P : Program) (md : Region.Mode) (ops : Array Oper) (Q : Exit → Act → World → Prop) (S : World → Prop) (L : Nat) : Nat → Array Bool → Act → World → Prop
 | 0, listed, a, w => Region.ready md ops listed = [] ∧ Q .normal a w
 | fuel + 1, listed, a, w =>
  (Region.ready md ops listed = [] → Q .normal a w) ∧
  ∀ i ∈ Region.ready md ops listed, wpOpIn F n P ops Q i (fun a' w' => (i ≠ L → S w') ∧ wpAnyI F n P md ops Q S L fuel (listed.setIfInBounds i true) a' w') a w
theorem wpAnyIn_of_I {L : Nat} : ∀ (fuel : Nat) (listed : Array Bool) (a : Act) (w : World), wpAnyI F n P md ops Q S L fuel listed a w → wpAnyIn F n P md ops Q fuel listed a w
 | 0, _, _, _, h => h
 | fuel + 1, _, _, _, h => ⟨h.1, fun i hi => wpOpIn_mono (fun a' w' h' => wpAnyIn_of_I fuel _ a' w' h'.2) (h.2 i hi)⟩
def noDefer (ops : Array Oper) : Bool := ops.all fun o => match o.op with | .defer _ => false | _ => true
theorem noDefer_spec (h : noDefer ops = true) {i : Nat} {o : Oper} (hi : ops[i]? = some o) : ∀ c, o.op ≠ .defer c := by
 intro c hc
 obtain ⟨hlt, rfl⟩ := Array.getElem?_eq_some_iff.1 hi
 unfold noDefer at h
 have := (Array.all_eq_true.1 h) i hlt
 rw [hc] at this
 cases this
def YI (P : Program) (ops : Array Oper) (S : World → Prop) (o : Oper) (v : Value) (a : Act) : Prop := YieldsIf P ops S o v a ∧ ∀ w, o.about P w a.eval = none
theorem YI.here {i : Nat} {o : Oper} {v : Value} {a : Act} (hd : noDefer ops = true) (hi : ops[i]? = some o) (hy : YI P ops S o v a) {K : Act → World → Prop} {w : World} (hS : S w) (h : K (a.put o.dst v) w) : wpOpIn F n P ops Q i K a w := by
 unfold Go.wpOpIn
 simp only [hi]
 have hab : ∀ f, o.about P w a.eval = some f → F.fn f := fun f hf => by rw [hy.2 w] at hf; cases hf
 rcases hy.1 with ⟨hw, hv⟩ | ⟨hw, rfl⟩
 ·simp only [hw, if_true, Oper.wpIn, Oper.semAt_eq _ _ _ (noDefer_spec hd hi), hv w hS, Oper.uponIn]
  exact ⟨hab, h⟩
 ·simp only [hw, Bool.false_eq_true, if_false]
  exact ⟨hab, h⟩
theorem YI.behind {j : Nat} {oi oj : Oper} {v : Value} (hd : noDefer ops = true) (hj : ops[j]? = some oj) (hap : oi.apart ops oj = true) (hsi : ∀ cs b, oi.op ≠ .select cs b) (hsj : ∀ cs b, oj.op ≠ .select cs b)
  (hQ : ∀ c a w, Q (.panic c) (a.put oi.dst v) w → Q (.panic c) a w) {K : Act → World → Prop} {a : Act} {w : World} (hy : YI P ops S oi v a) (h : wpOpIn F n P ops Q j K (a.put oi.dst v) w) :
  wpOpIn F n P ops Q j (fun a' w' => YI P ops S oi v a' ∧ K (a'.put oi.dst v) w') a w := by
 obtain ⟨h1, h2, h3⟩ := Oper.apart_spec hap
 have keep : ∀ (a : Act), YI P ops S oi v a → ∀ u, YI P ops S oi v (a.put oj.dst u) := fun a hy u =>
  ⟨hy.1.of_same (execOp_put oi hsi a oj.dst u h3) (wanted_put oi a oj.dst u h3), fun w => by rw [about_put oi w a oj.dst u h3]; exact hy.2 w⟩
 have keepD : ∀ d, YI P ops S oi v { a with defers := d :: a.defers } := fun d => ⟨hy.1.of_same rfl rfl, hy.2⟩
 have hnd := noDefer_spec hd hj
 unfold wpOpIn at *
 simp only [hj] at *
 rw [wanted_put oj a oi.dst v h1, about_put oj w a oi.dst v h1] at h
 split
 ·rename_i hw
  simp only [hw, if_true] at h
  unfold Oper.wpIn at *
  rw [about_put oj w a oi.dst v h1] at h
  refine ⟨h.1, ?_⟩
  have h := h.2
  rw [Oper.semAt_eq _ _ _ hnd, execOp_put oj hsj a oi.dst v h1] at h
  rw [Oper.semAt_eq _ _ _ hnd]
  generalize (execOp a.eval oj).run P w = r at *
  cases r with
  | ok x w' =>
   cases x <;> simp only [Oper.uponIn] at h ⊢
   case value u => exact ⟨keep a hy u, by rw [← Act.put_comm a v u h2]; exact h⟩
   case skip => exact ⟨keep a hy _, by rw [← Act.put_comm a v undef h2]; exact h⟩
   case defer d => exact ⟨keep _ (keepD d) _, by rw [← Act.put_comm _ v undef h2, ← Act.put_defers]; exact h⟩
   case enter f args =>
    refine ⟨h.1, CallsIn.mono h.2 fun e w'' he => ?_⟩
    cases e with
    | returned u => exact ⟨keep a hy u, by rw [← Act.put_comm a v u h2]; exact he⟩
    | panicked c => exact hQ _ _ _ he
    | outgrown => exact he
   case row row args => exact ⟨h.1, RowsIn.mono h.2 fun u w'' he => ⟨keep a hy u, by rw [← Act.put_comm a v u h2]; exact he⟩⟩
   case round l f tmps assign body =>
    refine ⟨h.1, RoundIn.mono h.2 fun e w'' he => ?_⟩
    cases e with
    | returned u => exact ⟨keep a hy u, by rw [← Act.put_comm a v u h2]; exact he⟩
    | panicked c => exact hQ _ _ _ he
    | outgrown => exact he
  | halt x w' =>
   cases x <;> simp only [Oper.uponIn] at h ⊢
   case panic u => exact hQ _ _ _ h
 ·rename_i hw
  simp only [hw] at h
  exact ⟨h.1, keep a hy _, by rw [← Act.put_comm a v undef h2]; exact h.2⟩
theorem wpAnyI_first {L i : Nat} {oi : Oper} {v : Value} (hd : noDefer ops = true) (hi : ops[i]? = some oi) (hsel : ∀ (j : Nat) (o : Oper) cs b, ops[j]? = some o → o.op ≠ .select cs b) (hL : waitsFor md ops L i = true)
  (hQ : ∀ c a w, Q (.panic c) (a.put oi.dst v) w → Q (.panic c) a w) :
  ∀ (fuel : Nat) (listed : Array Bool) (a : Act) (w : World),
   (∀ j oj, ops[j]? = some oj → j ≠ i → listed.getD j true = false → (∀ e ∈ oj.after, Region.binds md e = true → e.on ≠ i) → oi.apart ops oj = true) →
   i ∈ Region.ready md ops listed → YI P ops S oi v a → S w →
   wpAnyI F n P md ops Q S L fuel (listed.setIfInBounds i true) (a.put oi.dst v) w → wpAnyI F n P md ops Q S L (fuel + 1) listed a w := by
 intro fuel
 induction fuel with
 | zero =>
  intro listed a w _ hr hy hS H
  refine ⟨fun h => (by rw [h] at hr; cases hr), fun j hj => ?_⟩
  by_cases hji : j = i
  ·subst hji; exact hy.here hd hi hS ⟨fun _ => hS, H⟩
  ·have := ready_mono hj hji
   rw [H.1] at this
   cases this
 | succ fuel ih =>
  intro listed a w hfree hr hy hS H
  refine ⟨fun h => (by rw [h] at hr; cases hr), fun j hj => ?_⟩
  by_cases hji : j = i
  ·subst hji; exact hy.here hd hi hS ⟨fun _ => hS, H⟩
  ·have h1 := H.2 j (ready_mono hj hji)
   obtain ⟨hjun, oj, hoj, hall⟩ := mem_ready.1 hj
   have hnot : ∀ e ∈ oj.after, Region.binds md e = true → e.on ≠ i := fun e he hb heq => by
    have h1 := hall e he hb
    have h0 := (mem_ready.1 hr).1
    rw [heq] at h1
    rcases Nat.lt_or_ge i listed.size with h' | h'
    ·simp [h'] at h0 h1; rw [h0] at h1; cases h1
    ·simp [Array.getElem?_eq_none h'] at h1
   have hjL : j ≠ L := by
    rintro rfl
    unfold waitsFor at hL
    rw [hoj] at hL
    simp only [Array.any_eq_true] at hL
    obtain ⟨q, hq, he⟩ := hL
    simp only [Bool.and_eq_true, beq_iff_eq] at he
    exact hnot _ (Array.getElem_mem hq) he.1 he.2
   have h2 := YI.behind hd hoj (hfree j oj hoj hji hjun hnot) (fun cs b => hsel i oi cs b hi) (fun cs b => hsel j oj cs b hoj) hQ hy h1
   have hfree' : ∀ k ok, ops[k]? = some ok → k ≠ i → (listed.setIfInBounds j true).getD k true = false →
     (∀ e ∈ ok.after, Region.binds md e = true → e.on ≠ i) → oi.apart ops ok = true := fun k ok hk hki hun hno => by
    refine hfree k ok hk hki ?_ hno
    by_cases hjk : j = k
    ·subst hjk; exact hjun
    ·rw [getD_set_ne true hjk] at hun; exact hun
   refine wpOpIn_mono (fun a' w' h3 => ⟨fun _ => h3.2.1 hjL, ih (listed.setIfInBounds j true) a' w' hfree' (ready_mono hr (Ne.symm hji)) h3.1 (h3.2.1 hjL) ?_⟩) h2
   rw [Array.setIfInBounds_comm _ _ hji]
   exact h3.2.2
theorem wpAnyI_one {L i : Nat} {o : Oper} {fuel : Nat} {listed : Array Bool} {a : Act} {w : World} (hr : Region.ready md ops listed = [i]) (ho : ops[i]? = some o)
  (h : ∀ K : Act → World → Prop, Hid (∀ a' w', (i ≠ L → S w') → ((i ≠ L → S w') → wpAnyI F n P md ops Q S L fuel (listed.setIfInBounds i true) a' w') → K a' w') →
   if Region.wanted o (yielded ops a.tmps) = true then o.wpIn F n P a w K Q else (∀ f, o.about P w a.eval = some f → F.fn f) ∧ K (a.put o.dst undef) w) : wpAnyI F n P md ops Q S L (fuel + 1) listed a w := by
 refine ⟨fun h0 => (by rw [hr] at h0; cases h0), fun j hj => ?_⟩
 rw [hr, List.mem_singleton] at hj
 subst hj
 have h1 := h (fun a' w' => (j ≠ L → S w') ∧ wpAnyI F n P md ops Q S L fuel (listed.setIfInBounds j true) a' w') (Lib.hid fun a' w' hs hh => ⟨hs, hh hs⟩)
 unfold wpOpIn
 simp only [ho]
 split
 ·rename_i hw
  rw [if_pos hw] at h1
  exact h1
 ·rename_i hw
  rw [if_neg hw] at h1
  exact h1
theorem wpAnyI_done {L : Nat} {listed : Array Bool} {a : Act} {w : World} (hr : Region.ready md ops listed = []) (h : Q .normal a w) : ∀ fuel, wpAnyI F n P md ops Q S L fuel listed a w
 | 0 => ⟨hr, h⟩
 | _ + 1 => ⟨fun _ => h, by rw [hr]; simp⟩
theorem wpIn_region_I {L id : Nat} {a : Act} {w : World} (hm : P.follows .mixedOrders = true) (h : wpAnyI F n P .any ops Q S L ops.size (Array.replicate ops.size false) a w.drew) : (Code.region id ops true).wpIn F n P Q a w :=
 wpIn_region_any hm (wpAnyIn_of_I _ _ _ _ h)
theorem wpIn' (i : Nat) {L : Nat} {oi : Oper} {v : Value} {fuel : Nat} {listed : Array Bool} {a : Act} {w : World} (hi : ops[i]? = some oi)
  (h : wpAnyI F n P md ops Q S L fuel (listed.setIfInBounds i true) (a.put oi.dst v) w)
  (hb : (Region.noSelect ops && Region.free md ops listed i && (Region.ready md ops listed).contains i && waitsFor md ops L i && noDefer ops) = true := by kernel_rfl)
  (hQ : ∀ c a w, Q (.panic c) (a.put oi.dst v) w → Q (.panic c) a w := by exact fun _ _ _ h => h) (hw : Region.wanted oi (yielded ops a.tmps) = true := by rfl)
  (hy : ∀ x, S x → (execOp a.eval oi).run P x = .ok (.value v) x := by (intro x hx; (try dsimp only at hx); simp only [g4, g5, g6]; go_split_ands; go_simp; try with_reducible rfl)) (hab : ∀ x, oi.about P x a.eval = none := by (intro x; rfl)) (hS : S w := by assumption) : wpAnyI F n P md ops Q S L (fuel + 1) listed a w := by
 simp only [Bool.and_eq_true] at hb
 exact wpAnyI_first hb.2 hi (Region.noSelect_spec hb.1.1.1.1) hb.1.2 hQ fuel listed a w (Region.free_spec hi hb.1.1.1.2) (by simpa using hb.1.1.2) ⟨.inl ⟨hw, hy⟩, hab⟩ hS h
end
end Go.Proofs.YtknjhlbhbnldpaaGreatDoor.C
