/-
  Joined: MCellE, MCellF, LdL, MLyO, LiD, KoH, KpM. Each with what its own head says.
-/
import Derived.BigGuard
import Derived.BigCall
import Derived.Test.YthgiikhkcpbpfaaGreatDoorB09
import Derived.Test.YthgiikhkcpbpfaaGreatDoorB08


namespace Go.Proofs.YthgiikhkcpbpfaaGreatDoor.C
open Go.RowKit
set_option maxHeartbeats 1000000 in
theorem runeCount_any (s : ByteArray) (w : World) (hs : s.size < 9223372036854775807) :
  Calls Tryz.prog 184 #[.string s] w fun e w' => e = .returned (.int .i64 (Lib.runeCount s)) ∧ ∃ pos, w' = w.iter s pos := by
 go_enter Tryz.func184, Tryz.ntmps184
 go_wp2
 go_loopw [2] (fun n w' => ∃ (pos b acc : Nat), w' = w.iter s pos ∧ n = .int .i64 acc ∧ acc + Lib.runeCountFrom s b pos = Lib.runeCount s ∧ s.size ≤ pos + b ∧ acc ≤ pos) (fun _ w' => s.size - w'.iterPos w.heap.size)
 case atStart => exact ⟨0, s.size, 0, rfl, rfl, by simp [Lib.runeCount], by omega, Nat.le_refl _⟩
 case round =>
  obtain ⟨pos, b, acc, rfl, rfl, hc, hb, ha⟩ := hrel
  by_cases hp : pos < s.size
  ·have hnx : ∀ ty, (Instr.next (.pointer (some ⟨w.heap.size, 0, none⟩)) true ty).run Tryz.prog (w.iter s pos) = _ := fun ty => run_next_any w s pos ty hp
   have hwd := Lib.decode_width_pos s pos hp
   go_wp2
   go_roundw
   case rel =>
    cases b with
    | zero => omega
    | succ b =>
     refine ⟨pos + (Utf8.decode s pos).2, b, acc + 1, rfl, by go_num, ?_, by omega, by omega⟩
     rw [← hc]
     simp [Lib.runeCountFrom, hp]
     omega
   case measure =>
    simp
    omega
  ·have hnx : ∀ ty, (Instr.next (.pointer (some ⟨w.heap.size, 0, none⟩)) true ty).run Tryz.prog (w.iter s pos) = _ := fun ty => run_next_end w s pos ty hp
   go_wp2
   go_ret
   rw [Lib.runeCountFrom_end s b pos hp, Nat.add_zero] at hc
   subst hc
   exact ⟨rfl, _, rfl⟩
set_option maxHeartbeats 1000000 in
theorem sliteHasPrefix_any (s p : ByteArray) (w : World) :
  Calls Tryz.prog 210 #[.string s, .string p] w fun e w' => e = .returned (.bool (Lib.hasPrefix s.data.toList p.data.toList)) ∧ w = w' := by
 rw [← Lib.hasPrefix_of_take, ← Lib.size_eq, ← Lib.size_eq]
 go_enter Tryz.func210, Tryz.ntmps210
 go_wp2
 ·rename_i h
  go_ret
  refine ⟨?_, rfl⟩
  show Ending.returned (Value.bool ((s.extract 0 p.size).toList == p.toList)) = _
  rw [Lib.extract_toList, Lib.toList_data]
  simp [h]
 ·rename_i h
  go_ret
  refine ⟨?_, rfl⟩
  simp
  omega
set_option maxHeartbeats 1000000 in
theorem hasPrefix_any (s p : ByteArray) (w : World) :
  Calls Tryz.prog 185 #[.string s, .string p] w fun e w' => e = .returned (.bool (Lib.hasPrefix s.data.toList p.data.toList)) ∧ w = w' := by
 go_enter Tryz.func185, Tryz.ntmps185
 go_wp2_with fail
 refine (sliteHasPrefix_any _ _ _).mono ?_
 rintro e w' ⟨rfl, rfl⟩
 go_wp2
 go_ret
 exact ⟨rfl, rfl⟩
end Go.Proofs.YthgiikhkcpbpfaaGreatDoor.C


namespace Go.Proofs.YthgiikhkcpbpfaaGreatDoor.C
open Go.RowKit
theorem own_iter {w : World} {base : Nat} {e : TypeId} {size : Nat} {v : Value} {n : Nat} {xs : List Value} (h : w.ownsRow base e size v n xs) {k : Nat} {s : ByteArray} {pos : Nat} (hk : w.heap[k]? = some (.stringIter s pos)) (pos' : Nat) :
  (w.iterAt k s pos').ownsRow base e size v n xs := by
 refine ⟨h.1, ?_⟩
 rcases h.2 with h1 | ⟨g, cap, cur, h1, h2, h3, h4⟩
 ·exact .inl h1
 ·refine .inr ⟨g, cap, cur, h1, h2, ?_, h4⟩
  rw [Lib.iterAt_other _ _ _ _ _ (fun e => by subst e; rw [h3] at hk; cases hk)]
  exact h3
theorem own_ne_iter {w : World} {base : Nat} {e : TypeId} {size : Nat} {v : Value} {n : Nat} {xs : List Value} (h : w.ownsRow base e size v n xs) {k : Nat} {s : ByteArray} {pos : Nat} (hk : w.heap[k]? = some (.stringIter s pos)) : some k ≠ v.ownBlock := by
 rcases h.2 with ⟨rfl, _⟩ | ⟨g, cap, cur, rfl, _, h3, _⟩
 ·simp [Value.ownBlock]
 ·intro he
  simp [Value.ownBlock] at he
  subst he
  rw [h3] at hk
  cases hk
theorem of_more {w wr w2 : World} {B K : Nat} {e : TypeId} {v : Value} {n : Nat} {xs : List Value} {s : ByteArray} {pos p' : Nat} {o : Obj} (hown : wr.ownsRow B e 1 v n xs) (hit : wr.heap[K]? = some (.stringIter s pos)) (hb : Below B w wr) (hBK : B ≤ K) (hBw : B ≤ w.heap.size)
  (hg : ((wr.iterAt K s p').alloc o).grownBy w2 v.ownBlock) : w2.heap[K]? = some (.stringIter s p') ∧ Below B w w2 := by
 have hK : K < wr.heap.size := (Array.getElem?_eq_some_iff.1 hit).1
 have hne := own_ne_iter hown hit
 have hsz : (wr.iterAt K s p').heap.size = wr.heap.size := Lib.iterAt_size _ _ _ _
 have hBr : B ≤ wr.heap.size := Nat.le_trans hBw hb.size
 constructor
 ·rw [hg.block K (by simp; omega) hne, Below.heap_alloc _ _ _ (by omega)]
  exact Lib.iterAt_heap wr K s pos p' hit
 ·refine Below.grown ((Lib.below_iterAt hb hBK s p').alloc (by omega) o) hg (by simp; omega) ?_
  intro k hk
  exact (hown.lt k hk).1
theorem hasPrefix_at (s : ByteArray) (pos : Nat) (b : Bool) (h : hasP s pos = b) (w : World) :
  Calls Tryz.prog 185 #[.string (s.extract pos s.size), .string ⟨#[239, 191, 189]⟩] w fun e w' => e = .returned (.bool b) ∧ w = w' := by
 have := hasPrefix_any (s.extract pos s.size) ⟨#[239, 191, 189]⟩ w
 rw [show Lib.hasPrefix (s.extract pos s.size).data.toList (ByteArray.mk #[239, 191, 189]).data.toList = b from h] at this
 exact this
set_option maxHeartbeats 2000000 in
theorem of_any (s : ByteArray) (w : World) (hs : s.size ≤ 1099511627776) :
  Calls Tryz.prog 148 #[.string s] w fun e w' => ∃ v, e = .returned v ∧ w'.ownsRow w.heap.size 30 1 v (ofL s).length ((ofL s).map (Value.int .i32)) ∧ Below w.heap.size w w' := by
 obtain ⟨i0, hi, hz0, hz1, hz2⟩ := info_parts info33
 have hrc := Lib.runeCount_le s
 go_enter Tryz.func148, Tryz.ntmps148
 go_wp2_with fail
 refine (runeCount_any s w (by omega)).mono ?_
 rintro e w1 ⟨rfl, pos, rfl⟩
 have hb1 : Below w.heap.size w (w.iter s pos) := (Below.refl _ _).alloc (Nat.le_refl _) _
 have hs1 : (w.iter s pos).heap.size = w.heap.size + 1 := by simp [World.iter]
 generalize w.iter s pos = w1 at *
 have HS1 := Lib.hid hs1
 clear hs1
 generalize Lib.runeCount s = rc at *
 go_wp2_with (at_make; (refine wpList_make_own _ rfl _ _ 39 rfl w.heap.size 30 i0 (.int .i32 0) 1 Tryz.underlying39 hi hz0 hz1 .i64 .i64 _ rc rfl rfl (by omega) (by rw [hz2]; omega) (by unfold maxLen; omega) (by rw [HS1.out]; omega) ?_); intro w2 hown hgrow; have hb2 : Below w.heap.size w w2 := hb1.grown hgrow (by rw [HS1.out]; omega) (fun _ h => by cases h); clear hgrow; have HO := Lib.hid hown; clear hown)
 go_loopw [3] (fun v wr => ∃ (pos b : Nat) (acc : List Int), OfSt s acc b pos ∧ Hid (wr.ownsRow w.heap.size 30 1 v acc.length (acc.map (Value.int .i32))) ∧ Hid (wr.heap[w2.heap.size]? = some (.stringIter s pos)) ∧ Below w.heap.size w wr) (fun _ wr => s.size - wr.iterPos w2.heap.size)
 case atStart => exact ⟨0, s.size, [], ofSt_zero s, HO.out.alloc _, heap_alloc_new _ _, hb2.alloc hb2.size _⟩
 case round =>
  obtain ⟨pos, b, acc, hst, HW, HI, hbr⟩ := hrel
  have HST := Lib.hid hst
  clear hst
  have hsz := hbr.size
  have hsz2 := hb2.size
  have hmes : s.size - wr.iterPos w2.heap.size = s.size - pos := by rw [iterPos_of HI.out]
  have HM := Lib.hid hmes
  clear hmes
  by_cases hp : pos < s.size
  ·obtain ⟨b', hst'⟩ := ofSt_step HST.out hp
   have hnx : ∀ ty, (Instr.next (.pointer (some ⟨w2.heap.size, 0, none⟩)) true ty).run Tryz.prog wr = _ := fun ty => Lib.run_next_any_at wr w2.heap.size s pos ty HI.out hp
   have hwd := Lib.decode_width_pos s pos hp
   have hszi : w.heap.size ≤ (wr.iterAt w2.heap.size s (pos + (Utf8.decode s pos).2)).heap.size := by rw [Lib.iterAt_size]; exact hsz
   by_cases hr : (((Utf8.decode s pos).1 : Int) == 65533) = true
   ·cases hh : hasP s pos with
    | false =>
     have hcell : cellAt s pos = -1 - ((s.get! pos).toNat : Int) := if_pos ⟨hr, hh⟩
     have hget : s.get! pos = s[pos] := get_at s pos hp
     rw [hcell, hget] at hst'
     have HS' := Lib.hid hst'
     have hbd : (s[pos].toNat : Int) ≤ 255 := by have := s[pos].toNat_lt; omega
     clear hst' hcell hget
     go_wp2_with fail
     refine (hasPrefix_at s pos false hh _).mono ?_
     rintro e w' ⟨rfl, rfl⟩
     clear hh
     go_wp2_with fail
     refine (escape_any _ _ (by omega) hbd).mono ?_
     rintro e w' ⟨rfl, rfl⟩
     go_wp2_with (at_builtin; (refine wpList_append_own _ rfl _ _ 39 rfl w.heap.size 30 i0 (.int .i32 0) 1 4 Tryz.underlying39 hi hz0 hz1 hz2 rfl (by decide) _ _ _ rfl ((own_iter HW.out HI.out _).alloc _) _ 1 1 [.int .i32 (-1 - (s[pos].toNat : Int))] rfl rfl (cell_one_new _ _ _) (by intro u hu; simp at hu; subst hu; rfl) (by unfold maxLen; have := HST.out.2.2.2; omega) (by have := HST.out.2.2.2; omega) (by simp; omega) ?_); intro v' w3 hown' hgrow _; have R := Lib.hid (of_more HW.out HI.out hbr hsz2 (Nat.le_refl _) hgrow); have HO3 := Lib.hid hown'; clear hown' hgrow)
     go_roundw
     case rel => exact ⟨_, b', acc ++ [(-1 - (s[pos].toNat : Int))], HS'.out, by simpa [Hid] using HO3.out, R.out.1, R.out.2⟩
     case measure => rw [HM.out, iterPos_of R.out.1]; omega
    | true =>
     have hcell : cellAt s pos = ((Utf8.decode s pos).1 : Int) := if_neg (by rw [hh]; simp)
     rw [hcell] at hst'
     have HS' := Lib.hid hst'
     clear hst' hcell
     go_wp2_with fail
     refine (hasPrefix_at s pos true hh _).mono ?_
     rintro e w' ⟨rfl, rfl⟩
     clear hh
     go_wp2_with (at_builtin; (refine wpList_append_own _ rfl _ _ 39 rfl w.heap.size 30 i0 (.int .i32 0) 1 4 Tryz.underlying39 hi hz0 hz1 hz2 rfl (by decide) _ _ _ rfl ((own_iter HW.out HI.out _).alloc _) _ 1 1 [.int .i32 ((Utf8.decode s pos).1 : Int)] rfl rfl (cell_one_new _ _ _) (by intro u hu; simp at hu; subst hu; rfl) (by unfold maxLen; have := HST.out.2.2.2; omega) (by have := HST.out.2.2.2; omega) (by simp; omega) ?_); intro v' w3 hown' hgrow _; have R := Lib.hid (of_more HW.out HI.out hbr hsz2 (Nat.le_refl _) hgrow); have HO3 := Lib.hid hown'; clear hown' hgrow)
     go_roundw
     case rel => exact ⟨_, b', acc ++ [((Utf8.decode s pos).1 : Int)], HS'.out, by simpa [Hid] using HO3.out, R.out.1, R.out.2⟩
     case measure => rw [HM.out, iterPos_of R.out.1]; omega
   ·have hr' : (((Utf8.decode s pos).1 : Int) == 65533) = false := by simpa using hr
    have hcell : cellAt s pos = ((Utf8.decode s pos).1 : Int) := if_neg (by rw [hr']; simp)
    rw [hcell] at hst'
    have HS' := Lib.hid hst'
    clear hst' hcell hr
    go_wp2_with (at_builtin; (refine wpList_append_own _ rfl _ _ 39 rfl w.heap.size 30 i0 (.int .i32 0) 1 4 Tryz.underlying39 hi hz0 hz1 hz2 rfl (by decide) _ _ _ rfl ((own_iter HW.out HI.out _).alloc _) _ 1 1 [.int .i32 ((Utf8.decode s pos).1 : Int)] rfl rfl (cell_one_new _ _ _) (by intro u hu; simp at hu; subst hu; rfl) (by unfold maxLen; have := HST.out.2.2.2; omega) (by have := HST.out.2.2.2; omega) (by simp; omega) ?_); intro v' w3 hown' hgrow _; have R := Lib.hid (of_more HW.out HI.out hbr hsz2 (Nat.le_refl _) hgrow); have HO3 := Lib.hid hown'; clear hown' hgrow)
    go_roundw
    case rel => exact ⟨_, b', acc ++ [((Utf8.decode s pos).1 : Int)], HS'.out, by simpa [Hid] using HO3.out, R.out.1, R.out.2⟩
    case measure => rw [HM.out, iterPos_of R.out.1]; omega
  ·have hnx : ∀ ty, (Instr.next (.pointer (some ⟨w2.heap.size, 0, none⟩)) true ty).run Tryz.prog wr = _ := fun ty => Lib.run_next_end_at wr w2.heap.size s pos ty HI.out hp
   go_wp2
   go_ret
   refine ⟨_, rfl, ?_, hbr⟩
   rw [ofSt_end HST.out hp]
   exact HW.out
end Go.Proofs.YthgiikhkcpbpfaaGreatDoor.C


namespace Go.Proofs.YthgiikhkcpbpfaaGreatDoor.C
open Go.RowKit
section
variable {P : Program} {ops : Array Oper} {Q : Exit → Act → World → Prop} {md : Region.Mode} {S : World → Prop}
end
structure Fl where
 m : Bool
 c1 : Bool
 c2 : Bool
 c3 : Bool
 i1 : Bool
 i2 : Bool
 i3 : Bool
 i4 : Bool
 i5 : Bool
def Fl.left (f : Fl) : Nat := (!f.m).toNat + (!f.c1).toNat + (!f.c2).toNat + (!f.c3).toNat + (!f.i1).toNat + (!f.i2).toNat + (!f.i3).toNat + (!f.i4).toNat + (!f.i5).toNat
def Fl.ok (f : Fl) : Nat → Bool
 | 0 => !f.m
 | 2 => !f.c1
 | 3 => f.m && f.c1 && !f.i1
 | 9 => f.c1 && !f.c2
 | 10 => f.m && f.c2 && !f.i2
 | 16 => f.c2 && !f.c3
 | 17 => f.m && f.c3 && !f.i3
 | 20 => f.m && !f.i4
 | 23 => f.m && !f.i5
 | 24 => f.left == 0
 | 25 => f.left == 0
 | _ => false
section
end
end Go.Proofs.YthgiikhkcpbpfaaGreatDoor.C


namespace Go.Proofs.YthgiikhkcpbpfaaGreatDoor.C
open Go.RowKit
def OneTold (w : World) (l : List UInt8) (e : Ending) (w' : World) : Prop :=
 ∃ (kd : Nat) (tx : ByteArray) (n m : Nat), e = .returned (.tuple #[.agg #[.int .u8 kd, .string tx, .int .i64 n, .int .i64 0], .int .i64 m]) ∧ Below w.heap.size w w' ∧
  match tokL l with
  | some (k, t, n', m') => kd = k ∧ tx = str t ∧ n = n' ∧ m = m'
  | none => m = 0
theorem OneTold.none_ {w w' : World} {l : List UInt8} (k n : Nat) (t : ByteArray) {e : Ending} (h : tokL l = none) (he : e = .returned (.tuple #[.agg #[.int .u8 k, .string t, .int .i64 n, .int .i64 0], .int .i64 0])) (hb : Below w.heap.size w w') : OneTold w l e w' :=
 ⟨k, t, n, 0, he, hb, by rw [h]⟩
end Go.Proofs.YthgiikhkcpbpfaaGreatDoor.C


namespace Go.Proofs.YthgiikhkcpbpfaaGreatDoor.C
open Go.RowKit
theorem placeV_at {o : List Elm} {cs : List Int} {i : Nat} {e : Elm} (he : o[i]? = some e) (hc : e.cells = cs) (h : ∀ x ∈ o.take i, x.cells ≠ cs) : placeV o cs = (i : Int) := by
 unfold placeV
 rw [placeL_someO he hc h]
theorem placeV_none {o : List Elm} {cs : List Int} (h : ∀ x ∈ o, x.cells ≠ cs) : placeV o cs = -1 := by
 unfold placeV
 rw [placeL_noneO h]
set_option maxRecDepth 100000 in
set_option maxHeartbeats 2000000 in
theorem place07_any (w : World) (Bo Bc : Nat) (v : Value) (o : List Elm) (Ac : Option Addr) (n cc : Nat) (cs : List Int) (h : OrdR w Bo v o) (hc : RI .i32 w Bc Ac n cs) (hn : o.length ≤ 500) (hm : n ≤ maxLen) :
  Calls Tryz.prog 33 #[v, .slice Ac n cc] w fun e w' => e = .returned (.int .i64 (placeV o cs)) ∧ ∃ q, w' = w.drewN q := by
 obtain ⟨A, c, xs, rfl, -⟩ := id h
 have H := Lib.hid h
 have HC := Lib.hid hc
 have HM := Lib.hid hm
 clear h hc hm
 go_enter Tryz.func33, Tryz.ntmps33
 go_wp2
 go_loopw [5] (fun iv wr => ∃ i : Nat, i ≤ o.length ∧ iv = .int .i64 i ∧ Hid ((∃ q, wr = w.drewN q) ∧ ∀ x ∈ o.take i, x.cells ≠ cs)) (fun iv _ => o.length - (intOf iv).toNat)
 case atStart => exact ⟨0, Nat.zero_le _, rfl, Lib.hid ⟨⟨0, rfl⟩, by simp⟩⟩
 case round =>
  obtain ⟨i, hin, rfl, HQ⟩ := hrel
  by_cases hlt : i < o.length
  ·obtain ⟨e, he⟩ : ∃ e, o[i]? = some e := ⟨_, List.getElem?_eq_getElem hlt⟩
   have hO : OrdR wr Bo (.slice A o.length c) o := by obtain ⟨⟨q, rfl⟩, _⟩ := HQ.out; exact H.out.drewN q
   have hC : RI .i32 wr Bc Ac n cs := by obtain ⟨⟨q, rfl⟩, _⟩ := HQ.out; exact HC.out.drewN q
   obtain ⟨ad, ca, Ax, cx, hA, _, u0, u1, u2, hpx⟩ := elmR_at hO he
   obtain ⟨_, _, _, hv, _, hOl⟩ := hO
   obtain ⟨_, _, _, _, hnk⟩ := hOl i e he
   injection hA with hA _ hC'
   subst hA hC'
   have i0 : (0 : Int) ≤ (i : Int) := by omega
   have i1 : (i : Int) < (o.length : Int) := by omega
   by_cases heq : e.cells = cs
   ·have hs := same_yes wr _ _ Ax Ac e.cells.length cx n cc e.cells cs heq hpx hC hnk.2 HM.out
    have HF : Hid (placeV o cs = (i : Int)) := Lib.hid (placeV_at he heq HQ.out.2)
    have HQ1 : Hid (∃ q, wr = w.drewN q) := Lib.hid HQ.out.1
    clear hpx hC hOl hnk he heq hv u0 u2
    go_wp2_with fail
    with_reducible refine hs.mono ?_
    rintro r w1 ⟨rfl, hq⟩
    have HQ2 : Hid (∃ q, w1 = w.drewN q) := Lib.hid (by obtain ⟨q, rfl⟩ := HQ1.out; obtain ⟨q', rfl⟩ := hq; exact ⟨q + q', by rw [World.drewN_drewN]⟩)
    clear hs hq
    go_wp2
    go_ret
    exact ⟨by rw [HF.out]; rfl, HQ2.out⟩
   ·have hs := same_no wr _ _ Ax Ac e.cells.length cx n cc e.cells cs heq hpx hC hnk.2 HM.out
    have HQ1 : Hid (∃ q, wr = w.drewN q) := Lib.hid HQ.out.1
    have HN : Hid (∀ x ∈ o.take (i + 1), x.cells ≠ cs) := Lib.hid (by
     rw [take_one he]
     intro x hx
     rcases List.mem_append.1 hx with hx | hx
     ·exact HQ.out.2 x hx
     ·rw [List.mem_singleton] at hx
      subst hx
      exact heq)
    clear hpx hC hOl hnk he heq hv u0 u2
    go_wp2_with fail
    with_reducible refine hs.mono ?_
    rintro r w1 ⟨rfl, hq⟩
    have HQ2 : Hid ((∃ q, w1 = w.drewN q) ∧ ∀ x ∈ o.take (i + 1), x.cells ≠ cs) := Lib.hid ⟨by obtain ⟨q, rfl⟩ := HQ1.out; obtain ⟨q', rfl⟩ := hq; exact ⟨q + q', by rw [World.drewN_drewN]⟩, HN.out⟩
    clear hs hq
    go_wp2
    go_roundw
    case rel => exact ⟨i + 1, by omega, by go_num, HQ2⟩
    case measure => simp [intOf]; omega
  ·obtain rfl : i = o.length := by omega
   have HP : Hid (placeV o cs = -1) := Lib.hid (placeV_none (by
    have h1 := HQ.out.2
    rw [List.take_length] at h1
    exact h1))
   have HQ1 : Hid (∃ q, wr = w.drewN q) := Lib.hid HQ.out.1
   go_wp2
   go_ret
   exact ⟨by rw [HP.out]; rfl, HQ1.out⟩
end Go.Proofs.YthgiikhkcpbpfaaGreatDoor.C


namespace Go.Proofs.YthgiikhkcpbpfaaGreatDoor.C
open Go.RowKit
theorem less_any (x y : Int) (w : World) : Calls Tryz.prog 196 #[.int .i32 x, .int .i32 y] w fun e w' => e = .returned (.bool (decide (x < y))) ∧ w' = w := by
 go_enter Tryz.func196, Tryz.ntmps196
 go_wp2
 go_ret
 exact ⟨by simp, rfl⟩
theorem Fr.drewN {a b : World} {X : Nat → Prop} (h : Fr a b X) (q : Nat) : Fr a (b.drewN q) X := ⟨h.os, h.tape, h.output, h.size, h.block⟩
def UpBut (ys : List Int) (i j : Nat) : Prop := ∀ p q, p < q → q ≤ i → q ≠ j → ys.getD p 0 ≤ ys.getD q 0
def swp (ys : List Int) (k : Nat) : List Int := (ys.set (k + 1) (ys.getD k 0)).set k (ys.getD (k + 1) 0)
theorem swp_get (ys : List Int) (k p : Nat) (hk : k + 1 < ys.length) : (swp ys k).getD p 0 = if p = k then ys.getD (k + 1) 0 else if p = k + 1 then ys.getD k 0 else ys.getD p 0 := by
 unfold swp
 by_cases h1 : p = k
 ·subst h1
  rw [if_pos rfl, List.getD_eq_getElem?_getD, List.getElem?_set_self (by simp; omega)]
  rfl
 ·rw [if_neg h1, List.getD_eq_getElem?_getD, List.getElem?_set_ne (Ne.symm h1)]
  by_cases h2 : p = k + 1
  ·subst h2
   rw [if_pos rfl, List.getElem?_set_self hk]
   rfl
  ·rw [if_neg h2, List.getElem?_set_ne (Ne.symm h2), List.getD_eq_getElem?_getD]
theorem swp_perm : ∀ (ys : List Int) (k : Nat), k + 1 < ys.length → (swp ys k).Perm ys
 | [], _, h => by simp at h
 | [a], k, h => by simp at h
 | a :: b :: r, 0, _ => by
  show (b :: a :: r).Perm (a :: b :: r)
  exact List.Perm.swap a b r
 | a :: b :: r, k + 1, h => by
  have := swp_perm (b :: r) k (by simpa using h)
  exact this.cons a
theorem upbut_swp {ys : List Int} {i k : Nat} (h : UpBut ys i (k + 1)) (hk : k + 1 < ys.length) (hki : k + 1 ≤ i) (hl : ys.getD (k + 1) 0 < ys.getD k 0) : UpBut (swp ys k) i k := by
 intro p q hpq hq hne
 rw [swp_get _ _ _ hk, swp_get _ _ _ hk, if_neg hne]
 by_cases h1 : q = k + 1
 ·subst h1
  rw [if_pos rfl]
  by_cases h2 : p = k
  ·rw [if_pos h2]; omega
  ·rw [if_neg h2, if_neg (by omega)]
   exact h p k (by omega) (by omega) (by omega)
 ·rw [if_neg h1]
  by_cases h2 : p = k
  ·rw [if_pos h2]
   exact h (k + 1) q (by omega) hq h1
  ·rw [if_neg h2]
   by_cases h3 : p = k + 1
   ·rw [if_pos h3]
    exact h k q (by omega) hq h1
   ·rw [if_neg h3]
    exact h p q hpq hq h1
def UpTo (ys : List Int) (i : Nat) : Prop := ∀ p q, p < q → q ≤ i → ys.getD p 0 ≤ ys.getD q 0
theorem upto_zero {ys : List Int} {i : Nat} (h : UpBut ys i 0) : UpTo ys i := fun p q h1 h2 => h p q h1 h2 (by omega)
theorem upto_stop {ys : List Int} {i k : Nat} (h : UpBut ys i (k + 1)) (hki : k + 1 ≤ i) (hl : ¬ ys.getD (k + 1) 0 < ys.getD k 0) : UpTo ys i := by
 intro p q h1 h2
 by_cases h3 : q = k + 1
 ·subst h3
  by_cases h4 : p = k
  ·subst h4; omega
  ·have := h p k (by omega) (by omega) (by omega)
   omega
 ·exact h p q h1 h2 h3
theorem upto_next {ys : List Int} {i : Nat} (h : UpTo ys i) : UpBut ys (i + 1) (i + 1) := fun p q h1 h2 h3 => h p q h1 (by omega)
theorem upto_sorted {ys : List Int} {i : Nat} (h : UpTo ys i) (hi : ys.length ≤ i + 1) : ys.Pairwise (· ≤ ·) :=
 List.pairwise_iff_getElem.2 fun p q hp hq hpq => by
  have := h p q hpq (by omega)
  rwa [List.getD_eq_getElem?_getD, List.getElem?_eq_getElem hp, List.getD_eq_getElem?_getD, List.getElem?_eq_getElem hq] at this
theorem getD_at {ys : List Int} {k : Nat} (h : k < ys.length) (rest : List Value) : (celC ys ++ rest)[k]? = some (.int .i32 (ys.getD k 0)) := by
 rw [List.getElem?_append_left (by simp [celC]; exact h)]
 unfold celC
 rw [List.getElem?_map, List.getElem?_eq_getElem h, List.getD_eq_getElem?_getD, List.getElem?_eq_getElem h]
 rfl
theorem row_swp {w : World} {g : Nat} {t : TypeId} {ys : List Int} {rest : List Value} {k : Nat} (h : Row w g t (celC ys ++ rest)) (hk : k + 1 < ys.length) : Row ((w.setCell ⟨g, k + 1, none⟩ (.int .i32 (ys.getD k 0))).setCell ⟨g, k, none⟩ (.int .i32 (ys.getD (k + 1) 0))) g t (celC (swp ys k) ++ rest) := by
 have h2 := (h.set (k + 1) (.int .i32 (ys.getD k 0))).set k (.int .i32 (ys.getD (k + 1) 0))
 have e : ((celC ys ++ rest).set (k + 1) (.int .i32 (ys.getD k 0))).set k (.int .i32 (ys.getD (k + 1) 0)) = celC (swp ys k) ++ rest := by
  rw [List.set_append_left _ _ (by simp [celC]; exact hk), List.set_append_left _ _ (by simp [celC]; omega)]
  unfold celC swp
  rw [List.map_set, List.map_set]
 rwa [e] at h2
set_option maxRecDepth 100000 in
set_option maxHeartbeats 4000000 in
theorem insert_any (w : World) (g c n : Nat) (t : TypeId) (zs : List Int) (rest : List Value) (hr : Row w g t (celC zs ++ rest)) (hlen : zs.length = n) (hn : n ≤ 12) (h0 : 0 < n) :
  Calls Tryz.prog 190 #[.slice (some ⟨g, 0, none⟩) n c, .int .i64 0, .int .i64 (n : Nat)] w fun e w' => e = .returned (.tuple #[]) ∧ ∃ ys, Row w' g t (celC ys ++ rest) ∧ ys.Perm zs ∧ ys.Pairwise (· ≤ ·) ∧ Fr w w' (· = g) := by
 have HR := Lib.hid hr
 have HL := Lib.hid hlen
 clear hr hlen
 go_enter Tryz.func190, Tryz.ntmps190
 go_wp2
 go_loopw [6] (fun vi wr => ∃ (i : Nat) (ys : List Int), vi = .int .i64 ((i : Int) + 1) ∧ i + 1 ≤ n ∧ Hid (Row wr g t (celC ys ++ rest) ∧ ys.Perm zs ∧ Fr w wr (· = g) ∧ UpTo ys i)) (fun vi _ => n - (intOf vi).toNat)
 case atStart => exact ⟨0, zs, by go_num, by omega, Lib.hid ⟨HR.out, List.Perm.refl _, Fr.refl _ _, fun p q h1 h2 => by omega⟩⟩
 case round =>
  obtain ⟨i, ys, rfl, hin, HQ⟩ := hrel
  by_cases hlt : i + 1 < n
  ·have hlt' : (i : Int) + 1 < (n : Int) := by omega
   go_wp2
   go_loopw [7] (fun vj wr2 => ∃ (j : Nat) (yj : List Int), vj = .int .i64 (j : Int) ∧ j ≤ i + 1 ∧ Hid (Row wr2 g t (celC yj ++ rest) ∧ yj.Perm zs ∧ Fr w wr2 (· = g) ∧ UpBut yj (i + 1) j)) (fun vj _ => (intOf vj).toNat)
   case atStart => exact ⟨i + 1, ys, by go_num, Nat.le_refl _, Lib.hid ⟨HQ.out.1, HQ.out.2.1, HQ.out.2.2.1, upto_next HQ.out.2.2.2⟩⟩
   case round =>
    obtain ⟨j, yj, rfl, hji, HJ⟩ := hrel
    rcases j with _ | k
    ·have HE : Hid (∃ (i' : Nat) (ys : List Int), Value.int .i64 ((i : Int) + 1 + 1) = .int .i64 ((i' : Int) + 1) ∧ i' + 1 ≤ n ∧ Hid (∀ q, Row (wr.drewN q) g t (celC ys ++ rest) ∧ ys.Perm zs ∧ Fr w (wr.drewN q) (· = g) ∧ UpTo ys i')) := Lib.hid ⟨i + 1, yj, by go_num, by omega, Lib.hid fun q => ⟨HJ.out.1, HJ.out.2.1, HJ.out.2.2.1.drewN q, upto_zero HJ.out.2.2.2⟩⟩
     go_wp2
     go_quiet (first | (go_at_call 196; refine Calls.quiet_of_same (less_any _ _ _)))
     go_wp2
     go_roundw
     case rel =>
      obtain ⟨i', ys', e, h1, h2⟩ := HE.out
      exact ⟨i', ys', e, h1, Lib.hid (h2.out nq)⟩
     case measure => simp [intOf]; omega
    ·have hyl : yj.length = n := by rw [HJ.out.2.1.length_eq, HL.out]
     have c1 : wr.cell? ⟨g, k + 1, none⟩ = some (.int .i32 (yj.getD (k + 1) 0)) := HJ.out.1.cell (getD_at (by omega) rest)
     have c0 : wr.cell? ⟨g, k, none⟩ = some (.int .i32 (yj.getD k 0)) := HJ.out.1.cell (getD_at (by omega) rest)
     have f1 := HJ.out.1.frozen (k + 1)
     have f0 := HJ.out.1.frozen k
     have HSW : Hid (∀ q, Row (((wr.drewN q).setCell ⟨g, k + 1, none⟩ (.int .i32 (yj.getD k 0))).setCell ⟨g, k, none⟩ (.int .i32 (yj.getD (k + 1) 0))) g t (celC (swp yj k) ++ rest)) := Lib.hid fun q => row_swp (w := wr.drewN q) HJ.out.1 (by omega)
     have HFS : Hid (∀ q, Fr w (((wr.drewN q).setCell ⟨g, k + 1, none⟩ (.int .i32 (yj.getD k 0))).setCell ⟨g, k, none⟩ (.int .i32 (yj.getD (k + 1) 0))) (· = g)) := Lib.hid fun q => ((HJ.out.2.2.1.drewN q).setT _ _).setT _ _
     have HPS : Hid ((swp yj k).Perm zs) := Lib.hid ((swp_perm yj k (by omega)).trans HJ.out.2.1)
     have HUS : Hid (yj.getD (k + 1) 0 < yj.getD k 0 → UpBut (swp yj k) (i + 1) k) := Lib.hid fun h => upbut_swp HJ.out.2.2.2 (by omega) hji h
     have HUT : Hid (¬ yj.getD (k + 1) 0 < yj.getD k 0 → UpTo yj (i + 1)) := Lib.hid fun h => upto_stop HJ.out.2.2.2 hji h
     obtain ⟨x, hx⟩ : ∃ x, x = yj.getD (k + 1) 0 := ⟨_, rfl⟩
     obtain ⟨y, hy⟩ : ∃ y, y = yj.getD k 0 := ⟨_, rfl⟩
     rw [← hx] at c1 HSW HFS HUS HUT
     rw [← hy] at c0 HSW HFS HUS HUT
     have i0 : (0 : Int) ≤ (k : Int) + 1 := by omega
     have i1 : (k : Int) + 1 < (n : Int) := by omega
     have i2 : (0 : Int) ≤ (k : Int) := by omega
     have i3 : (k : Int) < (n : Int) := by omega
     have i4 : (0 : Int) < (k : Int) + 1 := by omega
     clear hx hy hyl
     go_wp2
     go_quiet (first | (go_at_call 196; refine Calls.quiet_of_same (less_any _ _ _)))
     by_cases hxy : x < y
     ·go_wp2
      go_region
      all_goals go_wp2
      go_roundw
      case rel =>
       exact ⟨k, swp yj k, rfl, by omega, Lib.hid ⟨HSW.out _, HPS.out, HFS.out _, HUS.out hxy⟩⟩
      case measure => first | (simp [intOf]; done) | (simp [intOf]; omega)
     ·go_wp2
      go_roundw
      case rel =>
       exact ⟨i + 1, yj, by go_num, by omega, Lib.hid ⟨HJ.out.1, HJ.out.2.1, HJ.out.2.2.1.drewN nq, HUT.out (by omega)⟩⟩
      case measure => simp [intOf]; omega
  ·obtain rfl : i + 1 = n := by omega
   have HE : Hid (∃ ys, Row wr g t (celC ys ++ rest) ∧ ys.Perm zs ∧ ys.Pairwise (· ≤ ·) ∧ Fr w wr (· = g)) := Lib.hid ⟨ys, HQ.out.1, HQ.out.2.1, upto_sorted HQ.out.2.2.2 (by rw [HQ.out.2.1.length_eq, HL.out]; exact Nat.le_refl _), HQ.out.2.2.1⟩
   go_wp2
   go_end0
   exact ⟨rfl, HE.out⟩
end Go.Proofs.YthgiikhkcpbpfaaGreatDoor.C


namespace Go.Proofs.YthgiikhkcpbpfaaGreatDoor.C
open Go.RowKit
theorem RI.takeK {ki : IntKind} {w : World} {B n k : Nat} {A : Option Addr} {zs : List Int} (h : RI ki w B A n zs) (hk : k ≤ n) : RI ki w B A k (zs.take k) := by
 refine ⟨by rw [List.length_take, h.len]; omega, fun hn => ?_⟩
 obtain ⟨ad, e, hb, hc⟩ := h.2 (by omega)
 refine ⟨ad, e, hb, fun j u hu => hc j u ?_⟩
 rw [List.getElem?_take] at hu
 split at hu
 ·exact hu
 ·cases hu
theorem RI.dropK {ki : IntKind} {w : World} {B n k cap : Nat} {A : Option Addr} {zs : List Int} (h : RI ki w B A n zs) (hk : k ≤ n) (hc : n ≤ cap) : RI ki w B (if cap = k then A else A.map (·.add k)) (n - k) (zs.drop k) := by
 have := h.cut (k := k) (m := n - k) (cap := cap) (by omega) hc
 rwa [List.take_of_length_le (by rw [List.length_drop, h.len]; exact Nat.le_refl _)] at this
theorem infoCell8 : (Tryz.prog.info? 30).map (fun i => (i.zero, i.size, i.bytes)) = some (some (.int .i32 0), 1, 4) := by kernel_rfl
end Go.Proofs.YthgiikhkcpbpfaaGreatDoor.C
