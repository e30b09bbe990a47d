/-
  Joined: MCellE, MCellF, MUtfQ, LdA, LdB, LcD. Each with what its own head says.
-/
import Derived.Lib.Slices
import Derived.Laws.RangeString
import Derived.Laws.RangeAny
import Derived.Test.YthaibekbefndlaaGreatDoorH09

namespace Go.Proofs.YthaibekbefndlaaGreatDoor.C
open Go.RowKit

set_option maxHeartbeats 1000000 in
theorem runeCount_any (s : ByteArray) (w : World) (hs : s.size < 9223372036854775807) :
  Calls Tryz.prog 171 #[.string s] w fun e w' => e = .returned (.int .i64 (Lib.runeCount s)) ∧ ∃ pos, w' = w.iter s pos := by
 go_enter Tryz.func171, Tryz.ntmps171
 go_wp2
 go_loopw [2] (fun n w' => ∃ (pos b acc : Nat), w' = w.iter s pos ∧ n = .int .i64 acc ∧ acc + Lib.runeCountFrom s b pos = Lib.runeCount s ∧ s.size ≤ pos + b ∧ acc ≤ pos) (fun _ w' => s.size - w'.iterPos w.heap.size)
 case atStart => exact ⟨0, s.size, 0, rfl, rfl, by simp [Lib.runeCount], by omega, Nat.le_refl _⟩
 case round =>
  obtain ⟨pos, b, acc, rfl, rfl, hc, hb, ha⟩ := hrel
  by_cases hp : pos < s.size
  ·have hnx : ∀ ty, (Instr.next (.pointer (some ⟨w.heap.size, 0, none⟩)) true ty).run Tryz.prog (w.iter s pos) = _ := fun ty => run_next_any w s pos ty hp
   have hwd := Lib.decode_width_pos s pos hp
   go_wp2
   go_roundw
   case rel =>
    cases b with
    | zero => omega
    | succ b =>
     refine ⟨pos + (Utf8.decode s pos).2, b, acc + 1, rfl, by go_num, ?_, by omega, by omega⟩
     rw [← hc]
     simp [Lib.runeCountFrom, hp]
     omega
   case measure =>
    simp
    omega
  ·have hnx : ∀ ty, (Instr.next (.pointer (some ⟨w.heap.size, 0, none⟩)) true ty).run Tryz.prog (w.iter s pos) = _ := fun ty => run_next_end w s pos ty hp
   go_wp2
   go_ret
   rw [Lib.runeCountFrom_end s b pos hp, Nat.add_zero] at hc
   subst hc
   exact ⟨rfl, _, rfl⟩

set_option maxHeartbeats 1000000 in
theorem sliteHasPrefix_any (s p : ByteArray) (w : World) :
  Calls Tryz.prog 164 #[.string s, .string p] w fun e w' => e = .returned (.bool (Lib.hasPrefix s.data.toList p.data.toList)) ∧ w = w' := by
 rw [← Lib.hasPrefix_of_take, ← Lib.size_eq, ← Lib.size_eq]
 go_enter Tryz.func164, Tryz.ntmps164
 go_wp2
 ·rename_i h
  go_ret
  refine ⟨?_, rfl⟩
  show Ending.returned (Value.bool ((s.extract 0 p.size).toList == p.toList)) = _
  rw [Lib.extract_toList, Lib.toList_data]
  simp [h]
 ·rename_i h
  go_ret
  refine ⟨?_, rfl⟩
  simp
  omega

set_option maxHeartbeats 1000000 in
theorem hasPrefix_any (s p : ByteArray) (w : World) :
  Calls Tryz.prog 114 #[.string s, .string p] w fun e w' => e = .returned (.bool (Lib.hasPrefix s.data.toList p.data.toList)) ∧ w = w' := by
 go_enter Tryz.func114, Tryz.ntmps114
 go_wp2_with fail
 refine (sliteHasPrefix_any _ _ _).mono ?_
 rintro e w' ⟨rfl, rfl⟩
 go_wp2
 go_ret
 exact ⟨rfl, rfl⟩
end Go.Proofs.YthaibekbefndlaaGreatDoor.C

namespace Go.Proofs.YthaibekbefndlaaGreatDoor.C
open Go.RowKit

theorem own_iter {w : World} {base : Nat} {e : TypeId} {size : Nat} {v : Value} {n : Nat} {xs : List Value} (h : w.ownsRow base e size v n xs) {k : Nat} {s : ByteArray} {pos : Nat} (hk : w.heap[k]? = some (.stringIter s pos)) (pos' : Nat) :
  (w.iterAt k s pos').ownsRow base e size v n xs := by
 refine ⟨h.1, ?_⟩
 rcases h.2 with h1 | ⟨g, cap, cur, h1, h2, h3, h4⟩
 ·exact .inl h1
 ·refine .inr ⟨g, cap, cur, h1, h2, ?_, h4⟩
  rw [Lib.iterAt_other _ _ _ _ _ (fun e => by subst e; rw [h3] at hk; cases hk)]
  exact h3
theorem own_ne_iter {w : World} {base : Nat} {e : TypeId} {size : Nat} {v : Value} {n : Nat} {xs : List Value} (h : w.ownsRow base e size v n xs) {k : Nat} {s : ByteArray} {pos : Nat} (hk : w.heap[k]? = some (.stringIter s pos)) : some k ≠ v.ownBlock := by
 rcases h.2 with ⟨rfl, _⟩ | ⟨g, cap, cur, rfl, _, h3, _⟩
 ·simp [Value.ownBlock]
 ·intro he
  simp [Value.ownBlock] at he
  subst he
  rw [h3] at hk
  cases hk
theorem of_more {w wr w2 : World} {B K : Nat} {e : TypeId} {v : Value} {n : Nat} {xs : List Value} {s : ByteArray} {pos p' : Nat} {o : Obj} (hown : wr.ownsRow B e 1 v n xs) (hit : wr.heap[K]? = some (.stringIter s pos)) (hb : Below B w wr) (hBK : B ≤ K) (hBw : B ≤ w.heap.size)
  (hg : ((wr.iterAt K s p').alloc o).grownBy w2 v.ownBlock) : w2.heap[K]? = some (.stringIter s p') ∧ Below B w w2 := by
 have hK : K < wr.heap.size := (Array.getElem?_eq_some_iff.1 hit).1
 have hne := own_ne_iter hown hit
 have hsz : (wr.iterAt K s p').heap.size = wr.heap.size := Lib.iterAt_size _ _ _ _
 have hBr : B ≤ wr.heap.size := Nat.le_trans hBw hb.size
 constructor
 ·rw [hg.block K (by simp; omega) hne, Below.heap_alloc _ _ _ (by omega)]
  exact Lib.iterAt_heap wr K s pos p' hit
 ·refine Below.grown ((Lib.below_iterAt hb hBK s p').alloc (by omega) o) hg (by simp; omega) ?_
  intro k hk
  exact (hown.lt k hk).1

theorem hasPrefix_at (s : ByteArray) (pos : Nat) (b : Bool) (h : hasP s pos = b) (w : World) :
  Calls Tryz.prog 114 #[.string (s.extract pos s.size), .string ⟨#[239, 191, 189]⟩] w fun e w' => e = .returned (.bool b) ∧ w = w' := by
 have := hasPrefix_any (s.extract pos s.size) ⟨#[239, 191, 189]⟩ w
 rw [show Lib.hasPrefix (s.extract pos s.size).data.toList (ByteArray.mk #[239, 191, 189]).data.toList = b from h] at this
 exact this

set_option maxHeartbeats 2000000 in
theorem of_any (s : ByteArray) (w : World) (hs : s.size ≤ 1099511627776) :
  Calls Tryz.prog 129 #[.string s] w fun e w' => ∃ v, e = .returned v ∧ w'.ownsRow w.heap.size 35 1 v (ofL s).length ((ofL s).map (Value.int .i32)) ∧ Below w.heap.size w w' := by
 obtain ⟨i0, hi, hz0, hz1, hz2⟩ := info_parts info33
 have hrc := Lib.runeCount_le s
 go_enter Tryz.func129, Tryz.ntmps129
 go_wp2_with fail
 refine (runeCount_any s w (by omega)).mono ?_
 rintro e w1 ⟨rfl, pos, rfl⟩
 have hb1 : Below w.heap.size w (w.iter s pos) := (Below.refl _ _).alloc (Nat.le_refl _) _
 have hs1 : (w.iter s pos).heap.size = w.heap.size + 1 := by simp [World.iter]
 generalize w.iter s pos = w1 at *
 have HS1 := Lib.hid hs1
 clear hs1
 generalize Lib.runeCount s = rc at *
 go_wp2_with (at_make; (refine wpList_make_own _ rfl _ _ 32 rfl w.heap.size 35 i0 (.int .i32 0) 1 Tryz.underlying32 hi hz0 hz1 .i64 .i64 _ rc rfl rfl (by omega) (by rw [hz2]; omega) (by unfold maxLen; omega) (by rw [HS1.out]; omega) ?_); intro w2 hown hgrow; have hb2 : Below w.heap.size w w2 := hb1.grown hgrow (by rw [HS1.out]; omega) (fun _ h => by cases h); clear hgrow; have HO := Lib.hid hown; clear hown)
 go_loopw [3] (fun v wr => ∃ (pos b : Nat) (acc : List Int), OfSt s acc b pos ∧ Hid (wr.ownsRow w.heap.size 35 1 v acc.length (acc.map (Value.int .i32))) ∧ Hid (wr.heap[w2.heap.size]? = some (.stringIter s pos)) ∧ Below w.heap.size w wr) (fun _ wr => s.size - wr.iterPos w2.heap.size)
 case atStart => exact ⟨0, s.size, [], ofSt_zero s, HO.out.alloc _, heap_alloc_new _ _, hb2.alloc hb2.size _⟩
 case round =>
  obtain ⟨pos, b, acc, hst, HW, HI, hbr⟩ := hrel
  have HST := Lib.hid hst
  clear hst
  have hsz := hbr.size
  have hsz2 := hb2.size
  have hmes : s.size - wr.iterPos w2.heap.size = s.size - pos := by rw [iterPos_of HI.out]
  have HM := Lib.hid hmes
  clear hmes
  by_cases hp : pos < s.size
  ·obtain ⟨b', hst'⟩ := ofSt_step HST.out hp
   have hnx : ∀ ty, (Instr.next (.pointer (some ⟨w2.heap.size, 0, none⟩)) true ty).run Tryz.prog wr = _ := fun ty => Lib.run_next_any_at wr w2.heap.size s pos ty HI.out hp
   have hwd := Lib.decode_width_pos s pos hp
   have hszi : w.heap.size ≤ (wr.iterAt w2.heap.size s (pos + (Utf8.decode s pos).2)).heap.size := by rw [Lib.iterAt_size]; exact hsz
   by_cases hr : (((Utf8.decode s pos).1 : Int) == 65533) = true
   ·cases hh : hasP s pos with
    | false =>
     have hcell : cellAt s pos = -1 - ((s.get! pos).toNat : Int) := if_pos ⟨hr, hh⟩
     have hget : s.get! pos = s[pos] := get_at s pos hp
     rw [hcell, hget] at hst'
     have HS' := Lib.hid hst'
     have hbd : (s[pos].toNat : Int) ≤ 255 := by have := s[pos].toNat_lt; omega
     clear hst' hcell hget
     go_wp2_with fail
     refine (hasPrefix_at s pos false hh _).mono ?_
     rintro e w' ⟨rfl, rfl⟩
     clear hh
     go_wp2_with fail
     refine (escape_any _ _ (by omega) hbd).mono ?_
     rintro e w' ⟨rfl, rfl⟩
     go_wp2_with (at_builtin; (refine wpList_append_own _ rfl _ _ 32 rfl w.heap.size 35 i0 (.int .i32 0) 1 4 Tryz.underlying32 hi hz0 hz1 hz2 rfl (by decide) _ _ _ rfl ((own_iter HW.out HI.out _).alloc _) _ 1 1 [.int .i32 (-1 - (s[pos].toNat : Int))] rfl rfl (cell_one_new _ _ _) (by intro u hu; simp at hu; subst hu; rfl) (by unfold maxLen; have := HST.out.2.2.2; omega) (by have := HST.out.2.2.2; omega) (by simp; omega) ?_); intro v' w3 hown' hgrow _; have R := Lib.hid (of_more HW.out HI.out hbr hsz2 (Nat.le_refl _) hgrow); have HO3 := Lib.hid hown'; clear hown' hgrow)
     go_roundw
     case rel => exact ⟨_, b', acc ++ [(-1 - (s[pos].toNat : Int))], HS'.out, by simpa [Hid] using HO3.out, R.out.1, R.out.2⟩
     case measure => rw [HM.out, iterPos_of R.out.1]; omega
    | true =>
     have hcell : cellAt s pos = ((Utf8.decode s pos).1 : Int) := if_neg (by rw [hh]; simp)
     rw [hcell] at hst'
     have HS' := Lib.hid hst'
     clear hst' hcell
     go_wp2_with fail
     refine (hasPrefix_at s pos true hh _).mono ?_
     rintro e w' ⟨rfl, rfl⟩
     clear hh
     go_wp2_with (at_builtin; (refine wpList_append_own _ rfl _ _ 32 rfl w.heap.size 35 i0 (.int .i32 0) 1 4 Tryz.underlying32 hi hz0 hz1 hz2 rfl (by decide) _ _ _ rfl ((own_iter HW.out HI.out _).alloc _) _ 1 1 [.int .i32 ((Utf8.decode s pos).1 : Int)] rfl rfl (cell_one_new _ _ _) (by intro u hu; simp at hu; subst hu; rfl) (by unfold maxLen; have := HST.out.2.2.2; omega) (by have := HST.out.2.2.2; omega) (by simp; omega) ?_); intro v' w3 hown' hgrow _; have R := Lib.hid (of_more HW.out HI.out hbr hsz2 (Nat.le_refl _) hgrow); have HO3 := Lib.hid hown'; clear hown' hgrow)
     go_roundw
     case rel => exact ⟨_, b', acc ++ [((Utf8.decode s pos).1 : Int)], HS'.out, by simpa [Hid] using HO3.out, R.out.1, R.out.2⟩
     case measure => rw [HM.out, iterPos_of R.out.1]; omega
   ·have hr' : (((Utf8.decode s pos).1 : Int) == 65533) = false := by simpa using hr
    have hcell : cellAt s pos = ((Utf8.decode s pos).1 : Int) := if_neg (by rw [hr']; simp)
    rw [hcell] at hst'
    have HS' := Lib.hid hst'
    clear hst' hcell hr
    go_wp2_with (at_builtin; (refine wpList_append_own _ rfl _ _ 32 rfl w.heap.size 35 i0 (.int .i32 0) 1 4 Tryz.underlying32 hi hz0 hz1 hz2 rfl (by decide) _ _ _ rfl ((own_iter HW.out HI.out _).alloc _) _ 1 1 [.int .i32 ((Utf8.decode s pos).1 : Int)] rfl rfl (cell_one_new _ _ _) (by intro u hu; simp at hu; subst hu; rfl) (by unfold maxLen; have := HST.out.2.2.2; omega) (by have := HST.out.2.2.2; omega) (by simp; omega) ?_); intro v' w3 hown' hgrow _; have R := Lib.hid (of_more HW.out HI.out hbr hsz2 (Nat.le_refl _) hgrow); have HO3 := Lib.hid hown'; clear hown' hgrow)
    go_roundw
    case rel => exact ⟨_, b', acc ++ [((Utf8.decode s pos).1 : Int)], HS'.out, by simpa [Hid] using HO3.out, R.out.1, R.out.2⟩
    case measure => rw [HM.out, iterPos_of R.out.1]; omega
  ·have hnx : ∀ ty, (Instr.next (.pointer (some ⟨w2.heap.size, 0, none⟩)) true ty).run Tryz.prog wr = _ := fun ty => Lib.run_next_end_at wr w2.heap.size s pos ty HI.out hp
   go_wp2
   go_ret
   refine ⟨_, rfl, ?_, hbr⟩
   rw [ofSt_end HST.out hp]
   exact HW.out
end Go.Proofs.YthaibekbefndlaaGreatDoor.C

namespace Go.Proofs.YthaibekbefndlaaGreatDoor.C
open Go.RowKit

theorem prefix_step {xs ys : List Int} {k : Nat} {a : Int} (h : xs.take k = ys.take k) (hx : xs[k]? = some a) (hy : ys[k]? = some a) : xs.take (k + 1) = ys.take (k + 1) := by
 rw [take_snoc hx, take_snoc hy, h]
def EqTold (xs ys : List Int) (w : World) (e : Ending) (w' : World) : Prop := e = .returned (.bool (sameB xs ys)) ∧ ∃ q, w' = w.drewN q
theorem eq_no {xs ys : List Int} (h : xs ≠ ys) (w : World) (q : Nat) : EqTold xs ys w (.returned (.bool false)) (w.drewN q) := ⟨by simp [sameB, h], q, rfl⟩
theorem eq_yes {xs ys : List Int} (h : xs = ys) (w : World) (q : Nat) : EqTold xs ys w (.returned (.bool true)) (w.drewN q) := ⟨by simp [sameB, h], q, rfl⟩

set_option maxHeartbeats 1000000 in
theorem equal_any (w : World) (Bx By : Nat) (Ax Ay : Option Addr) (n cx m cy : Nat) (xs ys : List Int) (hx : RI .i32 w Bx Ax n xs) (hy : RI .i32 w By Ay m ys) (hn : n ≤ 9223372036854775807) :
  Calls Tryz.prog 177 #[.slice Ax n cx, .slice Ay m cy] w (EqTold xs ys w) := by
 have HX := Lib.hid hx
 have HY := Lib.hid hy
 clear hx hy
 by_cases hnm : n = m
 ·subst hnm
  go_enter Tryz.func177, Tryz.ntmps177
  go_wp2
  go_loopw [13] (fun i wr => ∃ k q : Nat, k ≤ n ∧ i = .int .i64 k ∧ Hid (xs.take k = ys.take k) ∧ wr = w.drewN q) (fun i _ => n - (intOf i).toNat)
  case atStart => exact ⟨0, 0, Nat.zero_le _, rfl, rfl, drewN_zero w⟩
  case round =>
   obtain ⟨k, q, hk, rfl, HS, rfl⟩ := hrel
   by_cases hlt : k < n
   ·obtain ⟨ad, a, rfl, _, ha, hca⟩ := HX.out.at_ hlt
    obtain ⟨ad2, b, rfl, _, hb, hcb⟩ := HY.out.at_ hlt
    have HA := Lib.hid ha
    have HB := Lib.hid hb
    clear ha hb
    have k0 : (0 : Int) ≤ (k : Int) := by omega
    have k1 : (k : Int) < (n : Int) := by omega
    by_cases hab : a = b
    ·subst hab
     have t1 : (a != a) = false := by simp
     go_wp2
     go_quiet (fail)
     go_wp2
     go_roundw
     case rel => exact ⟨k + 1, _, by omega, by go_num, prefix_step HS.out HA.out HB.out, rfl⟩
     case measure => simp [intOf]; omega
    ·have t1 : (a != b) = true := by simp [hab]
     have hne : xs ≠ ys := fun e => hab (by
      have h1 := HA.out
      have h2 := HB.out
      rw [e, h2] at h1
      injection h1 with h1
      exact h1.symm)
     have HN := Lib.hid hne
     clear hne hab
     go_wp2
     go_quiet (fail)
     go_wp2
     go_ret
     rw [World.drewN_drewN]
     exact eq_no HN.out w _
   ·have he : xs = ys := by
     have := HS.out
     rwa [List.take_of_length_le (by rw [HX.out.len]; omega), List.take_of_length_le (by rw [HY.out.len]; omega)] at this
    have HE := Lib.hid he
    clear he
    go_wp2
    go_ret
    exact eq_yes HE.out w q
 ·have hne : xs ≠ ys := fun e => hnm (by rw [← HX.out.len, ← HY.out.len, e])
  have HN := Lib.hid hne
  have t1 : ((n : Int) != (m : Int)) = true := by simp; omega
  clear hne
  go_enter Tryz.func177, Tryz.ntmps177
  go_wp2
  go_ret
  exact eq_no HN.out w 0
end Go.Proofs.YthaibekbefndlaaGreatDoor.C

namespace Go.Proofs.YthaibekbefndlaaGreatDoor.C
open Go.RowKit

theorem CU.map {w w' : World} {R k M : Nat} {T : TV} {v1 v2 v3 v4 v5 : Value} {kd : TypeDesc} {l l' : List (Value × Value)} (h : CU w R T k v1 v2 v3 v4 v5) (hm : MapIs w M kd l) (hm' : MapIs w' M kd l') (hg : w.grownBy w' (some M)) : CU w' R T k v1 v2 v3 v4 v5 := by
 have hlt := h.lt
 obtain ⟨h1, h2, h3⟩ := h
 have hR : some R ≠ some M := by
  intro e
  injection e with e
  subst e
  obtain ⟨es, q, h4, _⟩ := hm
  rw [h1] at h4
  cases h4
 refine ⟨(hg.block R hlt hR).trans h1, h2.keep fun p hp => ?_, h3⟩
 by_cases hp' : p.block = M
 ·obtain ⟨es, q, h4, _⟩ := hm
  obtain ⟨es', q', h4', _⟩ := hm'
  rw [← hp'] at h4 h4'
  simp [World.cell?, h4, h4']
 ·exact World.cell?_of_block (hg.block p.block (by omega) (fun e => hp' (by injection e)))
theorem LTk.map {w w' : World} {b M : Nat} {x : Tok} {kd : TypeDesc} {l : List (Value × Value)} (h : LTk w b x) (hm : MapIs w M kd l) (hg : w.grownBy w' (some M)) : LTk w' b x := (hg.block b h.lt (by
 intro e
 injection e with e
 subst e
 obtain ⟨es, q, h4, _⟩ := hm
 rw [h] at h4
 cases h4)).trans h

def celC (c : List Int) : List Value := c.map (Value.int .i32)
def DeAt (w : World) (lo M : Nat) (d : List (List UInt8 × List Int)) : Prop :=
 ∃ vs : List Value, vs.length = d.length ∧ MapIs w M .string ((d.zip vs).map fun x => (.string (str x.1.1), x.2)) ∧ ∀ (i : Nat) (e : List UInt8 × List Int) (x : Value), d[i]? = some e → vs[i]? = some x → w.ownsRow lo 35 1 x e.2.length (celC e.2)
theorem DeAt.map {w : World} {lo M : Nat} {d : List (List UInt8 × List Int)} (h : DeAt w lo M d) : ∃ l, MapIs w M .string l := by
 obtain ⟨vs, _, h2, _⟩ := h
 exact ⟨_, h2⟩
theorem DeAt.fr {w w' : World} {X : Nat → Prop} {lo M : Nat} {d : List (List UInt8 × List Int)} (h : DeAt w lo M d) (hf : Fr w w' X) (hM : ¬ X M) (hx : ∀ g c z t, X g → w.heap[g]? = some (.cells c t z) → t ≠ 35) : DeAt w' lo M d := by
 obtain ⟨vs, h1, h2, h3⟩ := h
 refine ⟨vs, h1, h2.fr hf hM, fun i e x he hv => ownsRow_fr (h3 i e x he hv) hf ?_⟩
 intro g hg hX
 obtain ⟨c, hc⟩ := ownsRow_ty (h3 i e x he hv) hg
 exact hx g _ _ _ hX hc rfl
theorem DeAt.next {w w' : World} {lo M : Nat} {d : List (List UInt8 × List Int)} (h : DeAt w lo M d) (hb : Below w.heap.size w w') : DeAt w' lo M d := h.fr (X := fun _ => False) (.of_below hb) id (by rintro _ _ _ _ ⟨⟩)
theorem DeAt.drew {w : World} {lo M : Nat} {d : List (List UInt8 × List Int)} (h : DeAt w lo M d) : DeAt w.drew lo M d := h
theorem DeAt.frR {w w' : World} {R k : Nat} {T : TV} {v1 v2 v3 v4 v5 : Value} {lo M : Nat} {d : List (List UInt8 × List Int)} (h : DeAt w lo M d) (hc : CU w R T k v1 v2 v3 v4 v5) (hf : Fr w w' (· = R)) : DeAt w' lo M d := by
 refine h.fr hf ?_ ?_
 ·rintro rfl
  obtain ⟨l, es, q, h1, _⟩ := h.map
  have e := h1.symm.trans hc.1
  simp at e
 ·rintro g c z t rfl hg
  rw [hc.1] at hg
  simp at hg
  obtain ⟨-, rfl, -⟩ := hg
  decide
theorem zip_mem {d : List (List UInt8 × List Int)} {vs : List Value} (h : vs.length = d.length) {i : Nat} {e : List UInt8 × List Int} (he : d[i]? = some e) : ∃ x, vs[i]? = some x ∧ (e, x) ∈ d.zip vs := by
 have hi : i < d.length := (List.getElem?_eq_some_iff.1 he).1
 refine ⟨vs[i]'(by omega), by simp, ?_⟩
 have : (d.zip vs)[i]? = some (e, vs[i]'(by omega)) := by
  rw [List.getElem?_zip_eq_some]
  exact ⟨he, by simp⟩
 exact List.mem_of_getElem? this
theorem lookD_some {d : List (List UInt8 × List Int)} {n : List UInt8} {c : List Int} (h : lookD d n = some c) : ∃ i : Nat, d[i]? = some (n, c) := by
 unfold lookD at h
 cases hf : d.find? (fun x => decide (x.1 = n)) with
 | none => rw [hf] at h; cases h
 | some e =>
  rw [hf] at h
  injection h with h
  have h1 := List.find?_some hf
  have h2 := List.mem_of_find?_eq_some hf
  simp at h1
  obtain ⟨i, hi⟩ := List.getElem?_of_mem h2
  exact ⟨i, by rw [hi, ← h1, ← h]⟩
theorem lookD_none {d : List (List UInt8 × List Int)} {n : List UInt8} (h : lookD d n = none) : ∀ e ∈ d, e.1 ≠ n := by
 unfold lookD at h
 rw [Option.map_eq_none_iff, List.find?_eq_none] at h
 intro e he hn
 exact h e he (by simpa using hn)
theorem zeroCells (w : World) : (zeroValue 32).run Tryz.prog w = .ok (.slice none 0 0) w := by kernel_rfl
theorem DeAt.yes {w : World} {lo M : Nat} {d : List (List UInt8 × List Int)} {n : List UInt8} {c : List Int} (h : DeAt w lo M d) (hl : lookD d n = some c) :
  ∃ v, w.ownsRow lo 35 1 v c.length (celC c) ∧ (Instr.lookup 62 (.map (some M)) (.string (str n)) true).run Tryz.prog w = .ok (.tuple #[v, .bool true]) w := by
 obtain ⟨vs, h1, h2, h3⟩ := h
 obtain ⟨i, hi⟩ := lookD_some hl
 obtain ⟨x, hx, hm⟩ := zip_mem h1 hi
 refine ⟨x, h3 i _ x hi hx, ?_⟩
 exact h2.look_yes Tryz.underlying62 Tryz.underlying9 (by first | trivial | rfl) (v := x) (List.mem_map.2 ⟨_, hm, rfl⟩) true
theorem DeAt.keys {d : List (List UInt8 × List Int)} {vs : List Value} {n : List UInt8} (hl : lookD d n = none) : (.string (str n)) ∉ ((d.zip vs).map fun x => (Value.string (str x.1.1), x.2)).map Prod.fst := by
 rw [List.map_map, List.mem_map]
 rintro ⟨⟨e, x⟩, hx, he⟩
 simp at he
 exact lookD_none hl e (List.of_mem_zip hx).1 (str_inj he)
theorem DeAt.no {w : World} {lo M : Nat} {d : List (List UInt8 × List Int)} {n : List UInt8} (h : DeAt w lo M d) (hl : lookD d n = none) :
  (Instr.lookup 62 (.map (some M)) (.string (str n)) true).run Tryz.prog w = .ok (.tuple #[.slice none 0 0, .bool false]) w := by
 obtain ⟨vs, h1, h2, h3⟩ := h
 exact h2.look_no Tryz.underlying62 Tryz.underlying9 (by first | trivial | rfl) (DeAt.keys hl) (zeroCells w) true
theorem DeAt.put {w : World} {lo M : Nat} {d : List (List UInt8 × List Int)} {n : List UInt8} {c : List Int} {v : Value} (h : DeAt w lo M d) (hl : lookD d n = none) (hv : w.ownsRow lo 35 1 v c.length (celC c)) :
  ∃ o, (Instr.mapUpdate 62 (.map (some M)) (.string (str n)) v).run Tryz.prog w = .ok () (putObj w M o) ∧ DeAt (putObj w M o) lo M (d ++ [(n, c)]) := by
 obtain ⟨vs, h1, h2, h3⟩ := h
 obtain ⟨o, q2, hM⟩ := h2.put_new Tryz.underlying62 Tryz.underlying9 (key := (.string (str n))) (by first | trivial | rfl) (DeAt.keys hl) v
 have hg := putObj_only (w := w) (M := M) o
 refine ⟨o, q2, vs ++ [v], by simp [h1], ?_, ?_⟩
 ·rw [List.zip_append h1.symm, List.map_append]
  exact hM
 ·have key : ∀ {n : Nat} {u : Value} {xs : List Value}, w.ownsRow lo 35 1 u n xs → (putObj w M o).ownsRow lo 35 1 u n xs := fun hu => hu.kept hg (.inr (row_nomap hu h2))
  intro i e y hd hy
  rcases Nat.lt_or_ge i d.length with hi | hi
  ·rw [List.getElem?_append_left hi] at hd
   rw [List.getElem?_append_left (by omega)] at hy
   exact key (h3 i e y hd hy)
  ·rw [List.getElem?_append_right hi] at hd
   rw [List.getElem?_append_right (by omega), h1] at hy
   have e0 : i - d.length = 0 := by
    rcases hq : i - d.length with _ | q
    ·rfl
    ·rw [hq] at hd
     simp at hd
   rw [e0] at hd hy
   simp at hd hy
   subst hd hy
   exact key hv

def elmC (d : List (List UInt8 × List Int)) (n : Tok) (r : List Tok) : Re (List (List UInt8 × List Int)) := match takeK [4] r with
 | .error e => .error e
 | .ok (q, r3) => if (cellsOf q.t).length < 2 ∨ 4 < (cellsOf q.t).length then .error (3, q.at_) else .ok (d ++ [(n.t, cellsOf q.t)], r3)
def elmB (d : List (List UInt8 × List Int)) (n : Tok) (r : List Tok) : Re (List (List UInt8 × List Int)) := match takeT 1 wFrom r with
 | .error e => .error e
 | .ok (_, r2) => elmC d n r2
def elmL (d : List (List UInt8 × List Int)) (ts : List Tok) : Re (List (List UInt8 × List Int)) := match takeK [5] ts with
 | .error e => .error e
 | .ok (n, r1) => if (lookD d n.t).isSome then .error (32, n.at_) else elmB d n r1
theorem elementL_elm (s : Sta) (ts : List Tok) : elementL s ts = match elmL s.d ts with
 | .error e => .error e
 | .ok (d, r) => .ok ({ s with d := d }, r) := by
 unfold elementL elmL
 cases takeK [5] ts with
 | error e => rfl
 | ok y =>
  obtain ⟨n, r⟩ := y
  simp only
  by_cases hn : (lookD s.d n.t).isSome
  ·rw [if_pos hn, if_pos hn]
  ·rw [if_neg hn, if_neg hn]
   unfold elmB
   cases takeT 1 wFrom r with
   | error e => rfl
   | ok y =>
    obtain ⟨u, r2⟩ := y
    simp only
    unfold elmC
    cases takeK [4] r2 with
    | error e => rfl
    | ok y =>
     obtain ⟨q, r3⟩ := y
     simp only
     by_cases hq : (cellsOf q.t).length < 2 ∨ 4 < (cellsOf q.t).length
     ·rw [if_pos hq, if_pos hq]
     ·rw [if_neg hq, if_neg hq]
section
variable {d : List (List UInt8 × List Int)} {n x : Tok} {r : List Tok}
theorem elmL_no (h : ¬ x.k = 5) : elmL d (x :: r) = .error (30, x.at_) := by rw [elmL, takeK, if_neg (by simpa using h)]
theorem elmL_twice {c : List Int} (h : x.k = 5) (hl : lookD d x.t = some c) : elmL d (x :: r) = .error (32, x.at_) := by
 rw [elmL, takeK, if_pos (by simpa using h)]
 exact if_pos (by rw [hl]; rfl)
theorem elmL_yes (h : x.k = 5) (hl : lookD d x.t = none) : elmL d (x :: r) = elmB d x r := by
 rw [elmL, takeK, if_pos (by simpa using h)]
 exact if_neg (by rw [hl]; simp)
theorem elmB_no (h : ¬ (x.k = 1 ∧ x.t = wFrom)) : elmB d n (x :: r) = .error (30, x.at_) := by rw [elmB, takeT, if_neg h]
theorem elmB_yes (h : x.k = 1 ∧ x.t = wFrom) : elmB d n (x :: r) = elmC d n r := by rw [elmB, takeT, if_pos h]
theorem elmC_no (h : ¬ x.k = 4) : elmC d n (x :: r) = .error (30, x.at_) := by rw [elmC, takeK, if_neg (by simpa using h)]
theorem elmC_long (h : x.k = 4) (hl : (cellsOf x.t).length < 2 ∨ 4 < (cellsOf x.t).length) : elmC d n (x :: r) = .error (3, x.at_) := by
 rw [elmC, takeK, if_pos (by simpa using h)]
 exact if_pos hl
theorem elmC_yes (h : x.k = 4) (hl : ¬ ((cellsOf x.t).length < 2 ∨ 4 < (cellsOf x.t).length)) : elmC d n (x :: r) = .ok (d ++ [(n.t, cellsOf x.t)], r) := by
 rw [elmC, takeK, if_pos (by simpa using h)]
 exact if_neg hl
end
def TxtOk (T : TV) : Prop := ∀ t ∈ T.ts, t.t.length ≤ 4000
theorem TxtOk.at_ {T : TV} (h : TxtOk T) {k : Nat} {x : Tok} {r : List Tok} (hr : T.ts.drop k = x :: r) : x.t.length ≤ 4000 := h x (List.mem_of_mem_drop (i := k) (by rw [hr]; simp))
def EdTold (w : World) (lo R : Nat) (T : TV) (v1 v2 v3 v4 : Value) (M : Nat) : Re (List (List UInt8 × List Int)) → Ending → World → Prop
 | .ok (d, r), e, w' => ∃ k, e = .returned (.tuple #[]) ∧ CU w' R T k v1 v2 v3 v4 (.map (some M)) ∧ T.ts.drop k = r ∧ DeAt w' lo M d ∧ Fr w w' (fun j => j = R ∨ j = M)
 | .error er, e, w' => e = .panicked (faultV er.1 er.2) ∧ Fr w w' (fun j => j = R ∨ j = M)
end Go.Proofs.YthaibekbefndlaaGreatDoor.C

namespace Go.Proofs.YthaibekbefndlaaGreatDoor.C
open Go.RowKit

section
variable (w : World) (lo R : Nat) (T : TV) (k : Nat) (v1 v2 v3 v4 : Value) (M : Nat) (d : List (List UInt8 × List Int))
set_option maxRecDepth 100000 in
set_option maxHeartbeats 8000000 in
theorem element_any (h : CU w R T k v1 v2 v3 v4 (.map (some M))) (hN : TxtOk T) (hE : Ended (T.ts.drop k)) (hd : DeAt w lo M d) (hlw : lo ≤ w.heap.size) :
  Calls Tryz.prog 78 #[.pointer (some ⟨R, 0, none⟩)] w (EdTold w lo R T v1 v2 v3 v4 M (elmL d (T.ts.drop k))) := by
 obtain ⟨x0, r0, hx0⟩ := hE.some_
 have hR := h.lt
 obtain ⟨X, hX⟩ : ∃ X, X = elmL d (T.ts.drop k) := ⟨_, rfl⟩
 rw [← hX]
 rw [hx0] at hX
 by_cases c0 : x0.k = 5
 rotate_left
 ·have hta := take1_no w R T k v1 v2 v3 v4 (.map (some M)) x0 r0 _ rfl 5 h hx0 c0
  rw [hX, elmL_no c0]
  clear h hN hE hd hX c0 hx0
  go_enter Tryz.func78, Tryz.ntmps78
  go_wp2_with fail
  refine hta.mono ?_
  rintro e w1 ⟨rfl, hm1⟩
  exact ⟨rfl, rfl, (Fr.of_moved hm1).mono fun _ _ e => .inl e⟩
 have hta := take1_yes w R T k v1 v2 v3 v4 (.map (some M)) x0 r0 _ rfl 5 h hx0 c0
 have HD0 := Lib.hid hx0
 have HE0 := Lib.hid (hx0 ▸ hE)
 have HX := Lib.hid hX
 have HN := Lib.hid hN
 have HCU := Lib.hid h
 have HDE := Lib.hid hd
 have C0 := Lib.hid c0
 clear h hN hE hd hX c0 hx0
 go_enter Tryz.func78, Tryz.ntmps78
 go_wp2_with fail
 refine hta.mono ?_
 rintro e w1 ⟨rfl, hc1, hm1⟩
 obtain ⟨W1, hW1⟩ : ∃ W1, W1 = w1.alloc (.cells #[.int .u8 x0.k, .string (str x0.t), .int .i64 x0.n, .int .i64 x0.at_] 92) := ⟨_, rfl⟩
 have HT1 : Hid (LTk W1 w1.heap.size x0) := Lib.hid (by rw [hW1]; exact LTk.new w1 x0)
 have HC1 : Hid (CU W1 R T (k + 1) v1 v2 v3 v4 (.map (some M))) := Lib.hid (by rw [hW1]; exact hc1.alloc _)
 have HF1 : Hid (Fr w W1 (· = R)) := Lib.hid (by rw [hW1]; exact (Fr.of_moved hm1).alloc _)
 have HD1 := Lib.hid (HDE.out.frR HCU.out HF1.out)
 have hb1R : w1.heap.size ≠ R := by have := hc1.lt; omega
 have hs1 := HF1.out.size
 clear hc1 hm1 hta
 unfold tkV
 go_wp2_with fail
 rw [← hW1]
 clear hW1
 have q1 := HC1.out.drew.more.2.2.2.2
 obtain ⟨t0, t1, t2, t3⟩ := HT1.out.drew.cells
 cases hl : lookD d x0.t with
 | some c =>
  obtain ⟨v, -, hlk⟩ := HD1.out.drew.yes hl
  have HX2 := Lib.hid (HX.out.trans (elmL_twice C0.out hl))
  have hrf := fun W => refuse_any 32 x0 W
  unfold tkV at hrf
  clear hl
  go_region_held3 (fun w' => w'.cell? ⟨R, 6, none⟩ = some (.map (some M)) ∧ w'.cell? ⟨w1.heap.size, 1, none⟩ = some (.string (str x0.t))) (go_keep) (fail)
  go_wp2_with fail
  refine (hrf _).mono ?_
  rintro e w2 ⟨rfl, hb2⟩
  have eX := HX2.out
  subst eX
  exact ⟨rfl, rfl, (HF1.out.drew.mono fun _ _ e => .inl e).trans (.of_below hb2)⟩
 | none =>
  have hlk := HD1.out.drew.no hl
  have HX2 := Lib.hid (HX.out.trans (elmL_yes C0.out hl))
  have HL := Lib.hid hl
  clear hl
  go_region_held3 (fun w' => w'.cell? ⟨R, 6, none⟩ = some (.map (some M)) ∧ w'.cell? ⟨w1.heap.size, 1, none⟩ = some (.string (str x0.t))) (go_keep) (fail)
  clear hlk q1 t0 t1 t2 t3
  have hE1 := HE0.out.cons (by rw [C0.out]; omega)
  obtain ⟨x1, r1, hx1⟩ := hE1.some_
  have hd1 : T.ts.drop (k + 1) = x1 :: r1 := (drop_next HD0.out).trans hx1
  have HDr1 := Lib.hid hd1
  have HE1 := Lib.hid (hx1 ▸ hE1)
  rw [hx1] at HX2
  clear hE1 hx1 hd1
  by_cases c1 : x1.k = 1 ∧ x1.t = wFrom
  rotate_left
  ·have hta := takeText_no W1.drew R T (k + 1) v1 v2 v3 v4 (.map (some M)) x1 r1 1 wFrom HC1.out.drew HDr1.out c1
   have HX3 := Lib.hid (HX2.out.trans (elmB_no c1))
   clear c1
   go_wp2_with fail
   refine hta.mono ?_
   rintro e w2 ⟨rfl, hm2⟩
   have eX := HX3.out
   subst eX
   exact ⟨rfl, rfl, (HF1.out.drew.mono fun _ _ e => .inl e).next (Fr.of_moved hm2) (fun j _ e => .inl e)⟩
  have hta := takeText_yes W1.drew R T (k + 1) v1 v2 v3 v4 (.map (some M)) x1 r1 1 wFrom HC1.out.drew HDr1.out c1.1 c1.2
  have HX3 := Lib.hid (HX2.out.trans (elmB_yes c1))
  have hE2 := HE1.out.cons (by omega)
  clear c1
  go_wp2_with fail
  refine hta.mono ?_
  rintro e w2 ⟨rfl, hc2, hm2⟩
  have HC2 := Lib.hid hc2
  have HF2 := Lib.hid (HF1.out.drew.next (Fr.of_moved hm2) (fun j _ e => e))
  have HT2 := Lib.hid (HT1.out.drew.moved hm2 hb1R)
  have HDE2 := Lib.hid (HD1.out.drew.frR HC1.out.drew (Fr.of_moved hm2))
  obtain ⟨x2, r2, hx2⟩ := hE2.some_
  have hd2 : T.ts.drop (k + 1 + 1) = x2 :: r2 := (drop_next HDr1.out).trans hx2
  have HDr2 := Lib.hid hd2
  have hn2 := HN.out.at_ hd2
  rw [hx2] at HX3
  clear hc2 hm2 hta hE2 hx2 hd2
  by_cases c2 : x2.k = 4
  rotate_left
  ·have hta := take1_no w2 R T (k + 1 + 1) v1 v2 v3 v4 (.map (some M)) x2 r2 _ rfl 4 HC2.out HDr2.out c2
   have HX4 := Lib.hid (HX3.out.trans (elmC_no c2))
   clear c2
   go_wp2_with fail
   refine hta.mono ?_
   rintro e w3 ⟨rfl, hm3⟩
   have eX := HX4.out
   subst eX
   exact ⟨rfl, rfl, (HF2.out.mono fun _ _ e => .inl e).next (Fr.of_moved hm3) (fun j _ e => .inl e)⟩
  have hta := take1_yes w2 R T (k + 1 + 1) v1 v2 v3 v4 (.map (some M)) x2 r2 _ rfl 4 HC2.out HDr2.out c2
  have C2 := Lib.hid c2
  clear c2
  go_wp2_with fail
  refine hta.mono ?_
  rintro e w3 ⟨rfl, hc3, hm3⟩
  obtain ⟨W3, hW3⟩ : ∃ W3, W3 = w3.alloc (.cells #[.int .u8 x2.k, .string (str x2.t), .int .i64 x2.n, .int .i64 x2.at_] 92) := ⟨_, rfl⟩
  have HT30 : Hid (LTk W3 w1.heap.size x0) := Lib.hid (by rw [hW3]; exact (HT2.out.moved hm3 hb1R).alloc _)
  have HT32 : Hid (LTk W3 w3.heap.size x2) := Lib.hid (by rw [hW3]; exact LTk.new w3 x2)
  have HC3 : Hid (CU W3 R T (k + 1 + 1 + 1) v1 v2 v3 v4 (.map (some M))) := Lib.hid (by rw [hW3]; exact hc3.alloc _)
  have hf3 : Fr w2 W3 (· = R) := by rw [hW3]; exact (Fr.of_moved hm3).alloc _
  have HF3 := Lib.hid (HF2.out.next hf3 (fun j _ e => e))
  have HDE3 := Lib.hid (HDE2.out.frR HC2.out hf3)
  obtain ⟨-, p1, -, -⟩ := HT32.out.cells
  rw [hW3] at p1
  have hs3 := HF3.out.size
  have hof := of_any (str x2.t) W3 (by show x2.t.toArray.size ≤ _; simp; omega)
  clear hc3 hm3 hta hf3
  unfold tkV
  go_wp2_with fail
  rw [← hW3]
  clear hW3 p1
  refine hof.mono ?_
  rintro e w4 ⟨v, rfl, ho4, hb4⟩
  have HO4 := Lib.hid ho4
  have HB4 := Lib.hid hb4
  have HC4 := Lib.hid (HC3.out.next hb4)
  have HT40 := Lib.hid (HT30.out.moved (.of_below (R := R) hb4) hb1R)
  have HT42 : Hid (LTk w4 w3.heap.size x2) := Lib.hid ((hb4.block w3.heap.size HT32.out.lt).trans HT32.out)
  have HDE4 := Lib.hid (HDE3.out.next hb4)
  have HF4 := Lib.hid (HF3.out.trans (.of_below hb4))
  have hlen : (ofL (str x2.t)).length = (cellsOf x2.t).length := rfl
  rw [hlen] at HO4 ho4
  obtain ⟨A, cap, rfl⟩ : ∃ A cap, v = .slice A (cellsOf x2.t).length cap := by
   rcases Joins.ownsRow_forms ho4 with ⟨rfl, h0⟩ | ⟨g, c, rfl⟩
   ·exact ⟨none, 0, by rw [h0]⟩
   ·exact ⟨_, _, rfl⟩
  obtain ⟨n, hn⟩ : ∃ n, n = (cellsOf x2.t).length := ⟨_, rfl⟩
  have HNL := Lib.hid hn
  obtain ⟨t0, t1, t2, t3⟩ := HT42.out.cells
  have hrf := fun W => refuse_any 3 x2 W
  unfold tkV at hrf
  rw [← hn] at HO4 ho4 ⊢
  clear hof hb4 hlen hn ho4
  by_cases c3 : n < 2
  ·have i3 : (n : Int) < 2 := by omega
   have HX5 := Lib.hid (HX3.out.trans (elmC_long C2.out (.inl (by rw [← HNL.out]; exact c3))))
   go_wp2_with fail
   refine (hrf _).mono ?_
   rintro e w5 ⟨rfl, hb5⟩
   have eX := HX5.out
   subst eX
   exact ⟨rfl, rfl, (HF4.out.mono fun _ _ e => .inl e).trans (.of_below hb5)⟩
  have i3 : ¬ (n : Int) < 2 := by omega
  by_cases c4 : 4 < n
  ·have i4 : (4 : Int) < (n : Int) := by omega
   have HX5 := Lib.hid (HX3.out.trans (elmC_long C2.out (.inr (by rw [← HNL.out]; exact c4))))
   go_wp2_with fail
   refine (hrf _).mono ?_
   rintro e w5 ⟨rfl, hb5⟩
   have eX := HX5.out
   subst eX
   exact ⟨rfl, rfl, (HF4.out.mono fun _ _ e => .inl e).trans (.of_below hb5)⟩
  have i4 : ¬ (4 : Int) < (n : Int) := by omega
  have HX5 := Lib.hid (HX3.out.trans (elmC_yes C2.out (by rw [← HNL.out]; omega)))
  go_wp2_with fail
  have q1 := HC4.out.drew.more.2.2.2.2
  obtain ⟨-, t1', -, -⟩ := HT40.out.drew.cells
  obtain ⟨o, hup, hde⟩ := HDE4.out.drew.put (c := cellsOf x2.t) (v := .slice A n cap) HL.out (by
   have := HO4.out
   rw [HNL.out] at this ⊢
   exact Joins.ownsRow_le this (by omega))
  have HDE5 := Lib.hid hde
  obtain ⟨l, hl⟩ := HDE4.out.drew.map
  obtain ⟨l', hl'⟩ := hde.map
  have hg := putObj_only (w := w4.drew) (M := M) o
  have HC5 := Lib.hid (HC4.out.drew.map hl hl' hg)
  have HT5 := Lib.hid (HT40.out.drew.map hl hg)
  have q2 := HC5.out.more.2.2.2.2
  obtain ⟨-, t2', -, -⟩ := HT5.out.cells
  have HG := Lib.hid hg
  clear hde hl hl' hg t0 t1 t2 t3 hrf c3 c4 i3 i4
  go_region_held3 (fun w' => w'.cell? ⟨R, 6, none⟩ = some (.map (some M)) ∧ w'.cell? ⟨w1.heap.size, 1, none⟩ = some (.string (str x0.t))) (go_keep) (fail)
  have eX := HX5.out
  subst eX
  go_end0
  exact ⟨k + 1 + 1 + 1, rfl, HC5.out, drop_next HDr2.out, HDE5.out, (HF4.out.drew.mono fun _ _ e => .inl e).next (Fr.of_grown HG.out) (fun j _ e => .inr (by injection e with e; exact e.symm))⟩
end
end Go.Proofs.YthaibekbefndlaaGreatDoor.C

namespace Go.Proofs.YthaibekbefndlaaGreatDoor.C
open Go.RowKit

def SI (sz : Nat) (w : World) (B : Nat) (A : Option Addr) (n : Nat) (xs : List (List Value)) : Prop :=
 xs.length = n ∧ (∀ x ∈ xs, x.length = sz) ∧ (0 < n → ∃ ad, A = some ad ∧ ad.block < B ∧ ∀ j x, xs[j]? = some x → ∀ i u, x[i]? = some u → w.cell? (ad.add (j * sz + i)) = some u)
section
variable {sz : Nat} {w w' : World} {B B' n : Nat} {A : Option Addr} {xs : List (List Value)}
theorem SI.len (h : SI sz w B A n xs) : xs.length = n := h.1
theorem SI.nil (sz : Nat) (w : World) (B : Nat) (A : Option Addr) : SI sz w B A 0 [] := ⟨rfl, by simp, fun h => absurd h (by omega)⟩
theorem SI.keep (h : SI sz w B A n xs) (hk : ∀ p : Addr, p.block < B → w'.cell? p = w.cell? p) : SI sz w' B A n xs :=
 ⟨h.1, h.2.1, fun hn => by
  obtain ⟨ad, e, hb, hc⟩ := h.2.2 hn
  exact ⟨ad, e, hb, fun j x hx i u hu => (hk _ (by rw [block_of_add]; exact hb)).trans (hc j x hx i u hu)⟩⟩
theorem SI.more (h : SI sz w B A n xs) (hB : B ≤ B') : SI sz w B' A n xs :=
 ⟨h.1, h.2.1, fun hn => by
  obtain ⟨ad, e, hb, hc⟩ := h.2.2 hn
  exact ⟨ad, e, by omega, hc⟩⟩
theorem SI.on (h : SI sz w B A n xs) (hb : Below B' w w') (hB : B ≤ B') : SI sz w' B A n xs := h.keep fun p hp => hb.cell (p := p) (by omega)
theorem SI.drewN (h : SI sz w B A n xs) (k : Nat) : SI sz (w.drewN k) B A n xs := h
theorem SI.grown (h : SI sz w B A n xs) {row : Option Nat} (hg : w.grownBy w' row) (hB : B ≤ w.heap.size) (hr : ∀ g, row = some g → B ≤ g) : SI sz w' B A n xs :=
 h.keep fun p hp => World.cell?_of_block (hg.block p.block (by omega) (fun e => by have := hr _ e.symm; omega))
theorem SI.at_ (h : SI sz w B A n xs) {k : Nat} (hk : k < n) : ∃ ad x, A = some ad ∧ ad.block < B ∧ xs[k]? = some x ∧ x.length = sz ∧ ∀ i u, x[i]? = some u → w.cell? (ad.add (k * sz + i)) = some u := by
 obtain ⟨ad, e, hb, hc⟩ := h.2.2 (by omega)
 have hl : k < xs.length := by have := h.1; omega
 exact ⟨ad, xs[k], e, hb, List.getElem?_eq_getElem hl, h.2.1 _ (List.getElem_mem hl), hc k _ (List.getElem?_eq_getElem hl)⟩
theorem add_more' (a : Addr) (j i : Nat) (hi : 0 < i) : (⟨(a.add j).block, (a.add j).off + i, none⟩ : Addr) = a.add (j + i) := by
 unfold Addr.add
 by_cases h : j = 0
 ·subst h
  rw [if_pos rfl, Nat.zero_add, if_neg (by omega)]
 ·rw [if_neg h, if_neg (by omega), Nat.add_assoc]
end
theorem SI.at2 {w : World} {B n : Nat} {A : Option Addr} {xs : List (List Value)} (h : SI 2 w B A n xs) {k : Nat} (hk : k < n) : ∃ ad u v, A = some ad ∧ ad.block < B ∧ xs[k]? = some [u, v] ∧ w.cell? (ad.add (k * 2)) = some u ∧ w.cell? ⟨(ad.add (k * 2)).block, (ad.add (k * 2)).off + 1, none⟩ = some v := by
 obtain ⟨ad, x, e, hb, hx, hl, hc⟩ := h.at_ hk
 match x, hl with
 | [u, v], _ => exact ⟨ad, u, v, e, hb, hx, hc 0 u rfl, by rw [add_more' _ _ _ (by omega)]; exact hc 1 v rfl⟩
theorem SI.at3 {w : World} {B n : Nat} {A : Option Addr} {xs : List (List Value)} (h : SI 3 w B A n xs) {k : Nat} (hk : k < n) : ∃ ad u v z, A = some ad ∧ ad.block < B ∧ xs[k]? = some [u, v, z] ∧ w.cell? (ad.add (k * 3)) = some u ∧ w.cell? ⟨(ad.add (k * 3)).block, (ad.add (k * 3)).off + 1, none⟩ = some v ∧ w.cell? ⟨(ad.add (k * 3)).block, (ad.add (k * 3)).off + 2, none⟩ = some z := by
 obtain ⟨ad, x, e, hb, hx, hl, hc⟩ := h.at_ hk
 match x, hl with
 | [u, v, z], _ => exact ⟨ad, u, v, z, e, hb, hx, hc 0 u rfl, by rw [add_more' _ _ _ (by omega)]; exact hc 1 v rfl, by rw [add_more' _ _ _ (by omega)]; exact hc 2 z rfl⟩

def FoundAt (n : Nat) (q : Nat → Bool) (Inv : Nat → World → Prop) (Fin : Nat → World → Prop) (e : Ending) (w' : World) : Prop :=
 (∃ k, k < n ∧ q k = true ∧ (∀ j, j < k → q j = false) ∧ e = .returned (.int .i64 k) ∧ Fin k w') ∨ ((∀ j, j < n → q j = false) ∧ e = .returned (.int .i64 (-1)) ∧ Inv n w')
def HasIt (n : Nat) (q : Nat → Bool) (Inv : Nat → World → Prop) (Fin : Nat → World → Prop) (e : Ending) (w' : World) : Prop :=
 (∃ k, k < n ∧ q k = true ∧ (∀ j, j < k → q j = false) ∧ e = .returned (.bool true) ∧ Fin k w') ∨ ((∀ j, j < n → q j = false) ∧ e = .returned (.bool false) ∧ Inv n w')
def Asked (b : Bool) (Inv : World → Prop) (Fin : World → Prop) (e : Ending) (w' : World) : Prop := e = .returned (.bool b) ∧ (b = false → Inv w') ∧ (b = true → Fin w')
theorem asked_step {q : Nat → Bool} {k : Nat} (hq : ∀ j, j < k → q j = false) (h : q k = false) : ∀ j, j < k + 1 → q j = false := fun j hj => by
 rcases Nat.lt_or_ge j k with h1 | h1
 ·exact hq j h1
 ·obtain rfl : j = k := by omega
  exact h

set_option maxRecDepth 100000 in
set_option maxHeartbeats 4000000 in
theorem findRange_any (w : World) (B : Nat) (A : Option Addr) (n c : Nat) (xs : List (List Value)) (V0 : Nat) (q : Nat → Bool) (Inv : Nat → World → Prop) (Fin : Nat → World → Prop) (hn : n ≤ maxLen) (h0 : Inv 0 w)
  (hk : ∀ k W, Inv k W → SI 2 W B A n xs)
  (hs : ∀ k u v W, xs[k]? = some [u, v] → Inv k W → Calls Tryz.prog 104 #[.agg #[u, v], .pointer (some ⟨V0, 0, none⟩)] W (Asked (q k) (Inv (k + 1)) (Fin k))) :
  Calls Tryz.prog 157 #[.slice A n c, .func (.func 104) #[] #[.pointer (some ⟨V0, 0, none⟩)]] w (FoundAt n q Inv Fin) := by
 unfold maxLen at hn
 have HK := Lib.hid hk
 have HS := Lib.hid hs
 have H0 := Lib.hid h0
 clear hk hs h0
 go_enter Tryz.func157, Tryz.ntmps157
 go_wp2
 go_loopw [8] (fun iv wr => ∃ k : Nat, k ≤ n ∧ iv = .int .i64 k ∧ Hid (Inv k wr) ∧ Hid (∀ j, j < k → q j = false)) (fun iv _ => n - (intOf iv).toNat)
 case atStart => exact ⟨0, Nat.zero_le _, rfl, H0, Lib.hid (fun j hj => absurd hj (by omega))⟩
 case round =>
  obtain ⟨k, hkn, rfl, HI, HQ⟩ := hrel
  by_cases hlt : k < n
  ·obtain ⟨ad, u, v, rfl, hb, hx, c0, c1⟩ := (HK.out k wr HI.out).at2 hlt
   have hc := HS.out k u v wr hx HI.out
   clear hx
   cases hq : q k with
   | true =>
    rw [hq] at hc
    have HQK := Lib.hid hq
    clear hq
    go_wp2_with (go_at_call 104; refine hc.mono ?_; rintro e w2 ⟨rfl, -, hf⟩; have HF := Lib.hid (hf rfl); clear hf hc)
    go_ret
    exact .inl ⟨k, hlt, HQK.out, HQ.out, rfl, HF.out⟩
   | false =>
    rw [hq] at hc
    have HQK := Lib.hid hq
    clear hq
    go_wp2_with (go_at_call 104; refine hc.mono ?_; rintro e w2 ⟨rfl, hf, -⟩; have HF := Lib.hid (hf rfl); clear hf hc)
    go_roundw
    case rel => exact ⟨k + 1, by omega, by go_num, HF, Lib.hid (asked_step HQ.out HQK.out)⟩
    case measure => simp [intOf]; omega
  ·obtain rfl : k = n := by omega
   go_wp2
   go_ret
   exact .inr ⟨HQ.out, rfl, HI.out⟩

set_option maxRecDepth 100000 in
set_option maxHeartbeats 4000000 in
theorem hasRange_any (w : World) (B : Nat) (A : Option Addr) (n c : Nat) (xs : List (List Value)) (V0 : Nat) (q : Nat → Bool) (Inv : Nat → World → Prop) (Fin : Nat → World → Prop) (hn : n ≤ maxLen) (h0 : Inv 0 w)
  (hk : ∀ k W, Inv k W → SI 2 W B A n xs)
  (hs : ∀ k u v W, xs[k]? = some [u, v] → Inv k W → Calls Tryz.prog 104 #[.agg #[u, v], .pointer (some ⟨V0, 0, none⟩)] W (Asked (q k) (Inv (k + 1)) (Fin k))) :
  Calls Tryz.prog 103 #[.slice A n c, .func (.func 104) #[] #[.pointer (some ⟨V0, 0, none⟩)]] w (HasIt n q Inv Fin) := by
 have hf := findRange_any w B A n c xs V0 q Inv Fin hn h0 hk hs
 clear hk hs h0 hn
 go_enter Tryz.func103, Tryz.ntmps103
 go_wp2_with fail
 refine hf.mono ?_
 intro e w2 h2
 rcases h2 with ⟨k, h1, h2, h3, rfl, h5⟩ | ⟨h1, rfl, h5⟩
 ·have HH : Hid (HasIt n q Inv Fin (.returned (.bool true)) w2) := Lib.hid (.inl ⟨k, h1, h2, h3, rfl, h5⟩)
  clear h2 h3 h5
  go_wp2
  go_ret
  exact HH.out
 ·have HH : Hid (HasIt n q Inv Fin (.returned (.bool false)) w2) := Lib.hid (.inr ⟨h1, rfl, h5⟩)
  clear h1 h5
  go_wp2
  go_ret
  exact HH.out

set_option maxRecDepth 100000 in
set_option maxHeartbeats 4000000 in
theorem findPair_any (w : World) (B : Nat) (A : Option Addr) (n c : Nat) (xs : List (List Value)) (V0 : Nat) (q : Nat → Bool) (Inv : Nat → World → Prop) (Fin : Nat → World → Prop) (hn : n ≤ maxLen) (h0 : Inv 0 w)
  (hk : ∀ k W, Inv k W → SI 2 W B A n xs)
  (hs : ∀ k u v W, xs[k]? = some [u, v] → Inv k W → Calls Tryz.prog 107 #[.agg #[u, v], .pointer (some ⟨V0, 0, none⟩)] W (Asked (q k) (Inv (k + 1)) (Fin k))) :
  Calls Tryz.prog 158 #[.slice A n c, .func (.func 107) #[] #[.pointer (some ⟨V0, 0, none⟩)]] w (FoundAt n q Inv Fin) := by
 unfold maxLen at hn
 have HK := Lib.hid hk
 have HS := Lib.hid hs
 have H0 := Lib.hid h0
 clear hk hs h0
 go_enter Tryz.func158, Tryz.ntmps158
 go_wp2
 go_loopw [8] (fun iv wr => ∃ k : Nat, k ≤ n ∧ iv = .int .i64 k ∧ Hid (Inv k wr) ∧ Hid (∀ j, j < k → q j = false)) (fun iv _ => n - (intOf iv).toNat)
 case atStart => exact ⟨0, Nat.zero_le _, rfl, H0, Lib.hid (fun j hj => absurd hj (by omega))⟩
 case round =>
  obtain ⟨k, hkn, rfl, HI, HQ⟩ := hrel
  by_cases hlt : k < n
  ·obtain ⟨ad, u, v, rfl, hb, hx, c0, c1⟩ := (HK.out k wr HI.out).at2 hlt
   have hc := HS.out k u v wr hx HI.out
   clear hx
   cases hq : q k with
   | true =>
    rw [hq] at hc
    have HQK := Lib.hid hq
    clear hq
    go_wp2_with (go_at_call 107; refine hc.mono ?_; rintro e w2 ⟨rfl, -, hf⟩; have HF := Lib.hid (hf rfl); clear hf hc)
    go_ret
    exact .inl ⟨k, hlt, HQK.out, HQ.out, rfl, HF.out⟩
   | false =>
    rw [hq] at hc
    have HQK := Lib.hid hq
    clear hq
    go_wp2_with (go_at_call 107; refine hc.mono ?_; rintro e w2 ⟨rfl, hf, -⟩; have HF := Lib.hid (hf rfl); clear hf hc)
    go_roundw
    case rel => exact ⟨k + 1, by omega, by go_num, HF, Lib.hid (asked_step HQ.out HQK.out)⟩
    case measure => simp [intOf]; omega
  ·obtain rfl : k = n := by omega
   go_wp2
   go_ret
   exact .inr ⟨HQ.out, rfl, HI.out⟩

set_option maxRecDepth 100000 in
set_option maxHeartbeats 4000000 in
theorem hasPair_any (w : World) (B : Nat) (A : Option Addr) (n c : Nat) (xs : List (List Value)) (V0 : Nat) (q : Nat → Bool) (Inv : Nat → World → Prop) (Fin : Nat → World → Prop) (hn : n ≤ maxLen) (h0 : Inv 0 w)
  (hk : ∀ k W, Inv k W → SI 2 W B A n xs)
  (hs : ∀ k u v W, xs[k]? = some [u, v] → Inv k W → Calls Tryz.prog 107 #[.agg #[u, v], .pointer (some ⟨V0, 0, none⟩)] W (Asked (q k) (Inv (k + 1)) (Fin k))) :
  Calls Tryz.prog 106 #[.slice A n c, .func (.func 107) #[] #[.pointer (some ⟨V0, 0, none⟩)]] w (HasIt n q Inv Fin) := by
 have hf := findPair_any w B A n c xs V0 q Inv Fin hn h0 hk hs
 clear hk hs h0 hn
 go_enter Tryz.func106, Tryz.ntmps106
 go_wp2_with fail
 refine hf.mono ?_
 intro e w2 h2
 rcases h2 with ⟨k, h1, h2, h3, rfl, h5⟩ | ⟨h1, rfl, h5⟩
 ·have HH : Hid (HasIt n q Inv Fin (.returned (.bool true)) w2) := Lib.hid (.inl ⟨k, h1, h2, h3, rfl, h5⟩)
  clear h2 h3 h5
  go_wp2
  go_ret
  exact HH.out
 ·have HH : Hid (HasIt n q Inv Fin (.returned (.bool false)) w2) := Lib.hid (.inr ⟨h1, rfl, h5⟩)
  clear h1 h5
  go_wp2
  go_ret
  exact HH.out

set_option maxRecDepth 100000 in
set_option maxHeartbeats 4000000 in
theorem findClass_any (w : World) (B : Nat) (A : Option Addr) (n c : Nat) (xs : List (List Value)) (V0 : Nat) (q : Nat → Bool) (Inv : Nat → World → Prop) (Fin : Nat → World → Prop) (hn : n ≤ maxLen) (h0 : Inv 0 w)
  (hk : ∀ k W, Inv k W → SI 2 W B A n xs)
  (hs : ∀ k u v W, xs[k]? = some [u, v] → Inv k W → Calls Tryz.prog 101 #[.agg #[u, v], .pointer (some ⟨V0, 0, none⟩)] W (Asked (q k) (Inv (k + 1)) (Fin k))) :
  Calls Tryz.prog 149 #[.slice A n c, .func (.func 101) #[] #[.pointer (some ⟨V0, 0, none⟩)]] w (FoundAt n q Inv Fin) := by
 unfold maxLen at hn
 have HK := Lib.hid hk
 have HS := Lib.hid hs
 have H0 := Lib.hid h0
 clear hk hs h0
 go_enter Tryz.func149, Tryz.ntmps149
 go_wp2
 go_loopw [8] (fun iv wr => ∃ k : Nat, k ≤ n ∧ iv = .int .i64 k ∧ Hid (Inv k wr) ∧ Hid (∀ j, j < k → q j = false)) (fun iv _ => n - (intOf iv).toNat)
 case atStart => exact ⟨0, Nat.zero_le _, rfl, H0, Lib.hid (fun j hj => absurd hj (by omega))⟩
 case round =>
  obtain ⟨k, hkn, rfl, HI, HQ⟩ := hrel
  by_cases hlt : k < n
  ·obtain ⟨ad, u, v, rfl, hb, hx, c0, c1⟩ := (HK.out k wr HI.out).at2 hlt
   have hc := HS.out k u v wr hx HI.out
   clear hx
   cases hq : q k with
   | true =>
    rw [hq] at hc
    have HQK := Lib.hid hq
    clear hq
    go_wp2_with (go_at_call 101; refine hc.mono ?_; rintro e w2 ⟨rfl, -, hf⟩; have HF := Lib.hid (hf rfl); clear hf hc)
    go_ret
    exact .inl ⟨k, hlt, HQK.out, HQ.out, rfl, HF.out⟩
   | false =>
    rw [hq] at hc
    have HQK := Lib.hid hq
    clear hq
    go_wp2_with (go_at_call 101; refine hc.mono ?_; rintro e w2 ⟨rfl, hf, -⟩; have HF := Lib.hid (hf rfl); clear hf hc)
    go_roundw
    case rel => exact ⟨k + 1, by omega, by go_num, HF, Lib.hid (asked_step HQ.out HQK.out)⟩
    case measure => simp [intOf]; omega
  ·obtain rfl : k = n := by omega
   go_wp2
   go_ret
   exact .inr ⟨HQ.out, rfl, HI.out⟩

set_option maxRecDepth 100000 in
set_option maxHeartbeats 4000000 in
theorem hasClass_any (w : World) (B : Nat) (A : Option Addr) (n c : Nat) (xs : List (List Value)) (V0 : Nat) (q : Nat → Bool) (Inv : Nat → World → Prop) (Fin : Nat → World → Prop) (hn : n ≤ maxLen) (h0 : Inv 0 w)
  (hk : ∀ k W, Inv k W → SI 2 W B A n xs)
  (hs : ∀ k u v W, xs[k]? = some [u, v] → Inv k W → Calls Tryz.prog 101 #[.agg #[u, v], .pointer (some ⟨V0, 0, none⟩)] W (Asked (q k) (Inv (k + 1)) (Fin k))) :
  Calls Tryz.prog 100 #[.slice A n c, .func (.func 101) #[] #[.pointer (some ⟨V0, 0, none⟩)]] w (HasIt n q Inv Fin) := by
 have hf := findClass_any w B A n c xs V0 q Inv Fin hn h0 hk hs
 clear hk hs h0 hn
 go_enter Tryz.func100, Tryz.ntmps100
 go_wp2_with fail
 refine hf.mono ?_
 intro e w2 h2
 rcases h2 with ⟨k, h1, h2, h3, rfl, h5⟩ | ⟨h1, rfl, h5⟩
 ·have HH : Hid (HasIt n q Inv Fin (.returned (.bool true)) w2) := Lib.hid (.inl ⟨k, h1, h2, h3, rfl, h5⟩)
  clear h2 h3 h5
  go_wp2
  go_ret
  exact HH.out
 ·have HH : Hid (HasIt n q Inv Fin (.returned (.bool false)) w2) := Lib.hid (.inr ⟨h1, rfl, h5⟩)
  clear h1 h5
  go_wp2
  go_ret
  exact HH.out

set_option maxRecDepth 100000 in
set_option maxHeartbeats 4000000 in
theorem findPlace_any (w : World) (B : Nat) (A : Option Addr) (n c : Nat) (xs : List (List Value)) (V0 : Nat) (q : Nat → Bool) (Inv : Nat → World → Prop) (Fin : Nat → World → Prop) (hn : n ≤ maxLen) (h0 : Inv 0 w)
  (hk : ∀ k W, Inv k W → SI 3 W B A n xs)
  (hs : ∀ k u v z W, xs[k]? = some [u, v, z] → Inv k W → Calls Tryz.prog 176 #[.agg #[u, v, z], .pointer (some ⟨V0, 0, none⟩)] W (Asked (q k) (Inv (k + 1)) (Fin k))) :
  Calls Tryz.prog 175 #[.slice A n c, .func (.func 176) #[] #[.pointer (some ⟨V0, 0, none⟩)]] w (FoundAt n q Inv Fin) := by
 unfold maxLen at hn
 have HK := Lib.hid hk
 have HS := Lib.hid hs
 have H0 := Lib.hid h0
 clear hk hs h0
 go_enter Tryz.func175, Tryz.ntmps175
 go_wp2
 go_loopw [8] (fun iv wr => ∃ k : Nat, k ≤ n ∧ iv = .int .i64 k ∧ Hid (Inv k wr) ∧ Hid (∀ j, j < k → q j = false)) (fun iv _ => n - (intOf iv).toNat)
 case atStart => exact ⟨0, Nat.zero_le _, rfl, H0, Lib.hid (fun j hj => absurd hj (by omega))⟩
 case round =>
  obtain ⟨k, hkn, rfl, HI, HQ⟩ := hrel
  by_cases hlt : k < n
  ·obtain ⟨ad, u, v, z, rfl, hb, hx, c0, c1, c2⟩ := (HK.out k wr HI.out).at3 hlt
   have hc := HS.out k u v z wr hx HI.out
   clear hx
   cases hq : q k with
   | true =>
    rw [hq] at hc
    have HQK := Lib.hid hq
    clear hq
    go_wp2_with (go_at_call 176; refine hc.mono ?_; rintro e w2 ⟨rfl, -, hf⟩; have HF := Lib.hid (hf rfl); clear hf hc)
    go_ret
    exact .inl ⟨k, hlt, HQK.out, HQ.out, rfl, HF.out⟩
   | false =>
    rw [hq] at hc
    have HQK := Lib.hid hq
    clear hq
    go_wp2_with (go_at_call 176; refine hc.mono ?_; rintro e w2 ⟨rfl, hf, -⟩; have HF := Lib.hid (hf rfl); clear hf hc)
    go_roundw
    case rel => exact ⟨k + 1, by omega, by go_num, HF, Lib.hid (asked_step HQ.out HQK.out)⟩
    case measure => simp [intOf]; omega
  ·obtain rfl : k = n := by omega
   go_wp2
   go_ret
   exact .inr ⟨HQ.out, rfl, HI.out⟩

set_option maxRecDepth 100000 in
set_option maxHeartbeats 4000000 in
theorem findAmong_any (w : World) (B : Nat) (A : Option Addr) (n c : Nat) (xs : List (List Value)) (V0 V1 : Nat) (q : Nat → Bool) (Inv : Nat → World → Prop) (Fin : Nat → World → Prop) (hn : n ≤ maxLen) (h0 : Inv 0 w)
  (hk : ∀ k W, Inv k W → SI 3 W B A n xs)
  (hs : ∀ k u v z W, xs[k]? = some [u, v, z] → Inv k W → Calls Tryz.prog 174 #[.agg #[u, v, z], .pointer (some ⟨V0, 0, none⟩), .pointer (some ⟨V1, 0, none⟩)] W (Asked (q k) (Inv (k + 1)) (Fin k))) :
  Calls Tryz.prog 175 #[.slice A n c, .func (.func 174) #[] #[.pointer (some ⟨V0, 0, none⟩), .pointer (some ⟨V1, 0, none⟩)]] w (FoundAt n q Inv Fin) := by
 unfold maxLen at hn
 have HK := Lib.hid hk
 have HS := Lib.hid hs
 have H0 := Lib.hid h0
 clear hk hs h0
 go_enter Tryz.func175, Tryz.ntmps175
 go_wp2
 go_loopw [8] (fun iv wr => ∃ k : Nat, k ≤ n ∧ iv = .int .i64 k ∧ Hid (Inv k wr) ∧ Hid (∀ j, j < k → q j = false)) (fun iv _ => n - (intOf iv).toNat)
 case atStart => exact ⟨0, Nat.zero_le _, rfl, H0, Lib.hid (fun j hj => absurd hj (by omega))⟩
 case round =>
  obtain ⟨k, hkn, rfl, HI, HQ⟩ := hrel
  by_cases hlt : k < n
  ·obtain ⟨ad, u, v, z, rfl, hb, hx, c0, c1, c2⟩ := (HK.out k wr HI.out).at3 hlt
   have hc := HS.out k u v z wr hx HI.out
   clear hx
   cases hq : q k with
   | true =>
    rw [hq] at hc
    have HQK := Lib.hid hq
    clear hq
    go_wp2_with (go_at_call 174; refine hc.mono ?_; rintro e w2 ⟨rfl, -, hf⟩; have HF := Lib.hid (hf rfl); clear hf hc)
    go_ret
    exact .inl ⟨k, hlt, HQK.out, HQ.out, rfl, HF.out⟩
   | false =>
    rw [hq] at hc
    have HQK := Lib.hid hq
    clear hq
    go_wp2_with (go_at_call 174; refine hc.mono ?_; rintro e w2 ⟨rfl, hf, -⟩; have HF := Lib.hid (hf rfl); clear hf hc)
    go_roundw
    case rel => exact ⟨k + 1, by omega, by go_num, HF, Lib.hid (asked_step HQ.out HQK.out)⟩
    case measure => simp [intOf]; omega
  ·obtain rfl : k = n := by omega
   go_wp2
   go_ret
   exact .inr ⟨HQ.out, rfl, HI.out⟩

set_option maxRecDepth 100000 in
set_option maxHeartbeats 4000000 in
theorem hasAmong_any (w : World) (B : Nat) (A : Option Addr) (n c : Nat) (xs : List (List Value)) (V0 V1 : Nat) (q : Nat → Bool) (Inv : Nat → World → Prop) (Fin : Nat → World → Prop) (hn : n ≤ maxLen) (h0 : Inv 0 w)
  (hk : ∀ k W, Inv k W → SI 3 W B A n xs)
  (hs : ∀ k u v z W, xs[k]? = some [u, v, z] → Inv k W → Calls Tryz.prog 174 #[.agg #[u, v, z], .pointer (some ⟨V0, 0, none⟩), .pointer (some ⟨V1, 0, none⟩)] W (Asked (q k) (Inv (k + 1)) (Fin k))) :
  Calls Tryz.prog 173 #[.slice A n c, .func (.func 174) #[] #[.pointer (some ⟨V0, 0, none⟩), .pointer (some ⟨V1, 0, none⟩)]] w (HasIt n q Inv Fin) := by
 have hf := findAmong_any w B A n c xs V0 V1 q Inv Fin hn h0 hk hs
 clear hk hs h0 hn
 go_enter Tryz.func173, Tryz.ntmps173
 go_wp2_with fail
 refine hf.mono ?_
 intro e w2 h2
 rcases h2 with ⟨k, h1, h2, h3, rfl, h5⟩ | ⟨h1, rfl, h5⟩
 ·have HH : Hid (HasIt n q Inv Fin (.returned (.bool true)) w2) := Lib.hid (.inl ⟨k, h1, h2, h3, rfl, h5⟩)
  clear h2 h3 h5
  go_wp2
  go_ret
  exact HH.out
 ·have HH : Hid (HasIt n q Inv Fin (.returned (.bool false)) w2) := Lib.hid (.inr ⟨h1, rfl, h5⟩)
  clear h1 h5
  go_wp2
  go_ret
  exact HH.out
end Go.Proofs.YthaibekbefndlaaGreatDoor.C
