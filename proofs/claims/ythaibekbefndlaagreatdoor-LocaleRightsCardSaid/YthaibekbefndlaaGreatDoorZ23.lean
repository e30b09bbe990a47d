/-
  Joined: LfD, LfE, LfF, LfI, LfJ. Each with what its own head says.
-/
import Derived.Test.YthaibekbefndlaaGreatDoorZ22

namespace Go.Proofs.YthaibekbefndlaaGreatDoor.C
open Go.RowKit

theorem Kp.heap {B P k : Nat} {w w' : World} {c : Array Value} {t : TypeId} (h : Kp B P w w') (hk : w.heap[k]? = some (.cells c t (0, 0))) (hP : k ≠ P) (ht : t ≠ 5) : w'.heap[k]? = some (.cells c t (0, 0)) :=
 h.2 k _ hk (by simpa using hP) (fun c' fz e => ht (by injection e))
theorem Kp.drew {B P : Nat} {w w' : World} (h : Kp B P w w') : Kp B P w w'.drew := ⟨⟨h.1.os, h.1.tape, h.1.output, h.1.size, h.1.block⟩, h.2⟩
theorem prtL_app (a b : List Tok) : prtL (a ++ b) = prtL a ++ prtL b := by simp [prtL]
theorem tC_nat (a : Nat) : tC (a : Int) = ⟨3, [], a, 0⟩ := by simp [tC]
theorem long_more {S S' : List UInt8} {T T' : Nat} (h : ¬ (S.length ≤ 4000 ∧ T ≤ 1000)) (h1 : S.length ≤ S'.length) (h2 : T ≤ T') : ¬ (S'.length ≤ 4000 ∧ T' ≤ 1000) := fun k => h ⟨by omega, by omega⟩

set_option maxRecDepth 100000 in
set_option maxHeartbeats 4000000 in
theorem clsItem_any (w : World) (B P T Q a b : Nat) (S : List UInt8) (h : PW w B P S T) (hQ : One w Q 96 (.pointer (some ⟨P, 0, none⟩))) (hQP : Q ≠ P) (hS : S.length ≤ 4000) (hT : T ≤ 1000) (hG : ∀ w', Below B w w' → Gl w') (hB : B ≤ w.heap.size) (ha : a ≤ 1114111) (hb : b ≤ 1114111) :
  Calls Tryz.prog 84 #[.agg #[.int .i32 a, .int .i32 b], .pointer (some ⟨Q, 0, none⟩)] w (PutTold w B P (S ++ prtL (rangeT ((a : Int), (b : Int)))) (T + (rangeT ((a : Int), (b : Int))).length)) := by
 obtain ⟨W, hW⟩ : ∃ W, W = w.alloc (.cells #[.int .i32 a, .int .i32 b] 51) := ⟨_, rfl⟩
 have hbW : Below w.heap.size w W := by rw [hW]; exact (Below.refl _ _).alloc (Nat.le_refl _) _
 have hR : Rw W w.heap.size 51 #[.int .i32 a, .int .i32 b] := by rw [hW]; exact heap_alloc_new w _
 have hQW : One W Q 96 (.pointer (some ⟨P, 0, none⟩)) := (hbW.block _ hQ.lt).trans hQ
 have hsc := scalar_any7 W.drew (a : Int) (by omega) (by omega)
 have hP := h.old hbW
 have HP := Lib.hid hP
 have HQ := Lib.hid hQW
 have HR := Lib.hid hR
 have HG := Lib.hid hG
 have HKW := Lib.hid (Kp.of_below (P := P) hbW hB)
 have HBs : Hid (B ≤ W.heap.size) := Lib.hid (Nat.le_trans hB hbW.size)
 have hlt : w.heap.size < W.heap.size := hR.lt
 have hRP : w.heap.size ≠ P := by have := h.lt; omega
 have q0 := hQW.cell
 have q1 : W.cell? ⟨w.heap.size, 0, none⟩ = some (.int .i32 a) := hR.cell rfl
 have q2 : W.cell? ⟨w.heap.size, 1, none⟩ = some (.int .i32 b) := hR.cell rfl
 obtain ⟨X, hX⟩ : ∃ X, X = rangeT ((a : Int), (b : Int)) := ⟨_, rfl⟩
 rw [← hX]
 have HX := Lib.hid hX
 clear h hP hR hQ hQW hG hbW hX
 go_enter Tryz.func84, Tryz.ntmps84
 go_wp2
 rw [← hW]
 refine wp_region_held (S := fun W' : World => W'.cell? ⟨Q, 0, none⟩ = some (.pointer (some ⟨P, 0, none⟩)) ∧ W'.cell? ⟨w.heap.size, 0, none⟩ = some (.int .i32 a) ∧ W'.cell? ⟨w.heap.size, 1, none⟩ = some (.int .i32 b)) (by kernel_rfl) ?_
 change wpAnyH _ _ _ _ _ _ _ _ W.drew
 have hS1 : (fun W' : World => W'.cell? ⟨Q, 0, none⟩ = some (.pointer (some ⟨P, 0, none⟩)) ∧ W'.cell? ⟨w.heap.size, 0, none⟩ = some (.int .i32 a) ∧ W'.cell? ⟨w.heap.size, 1, none⟩ = some (.int .i32 b)) W.drew := ⟨q0, q1, q2⟩
 have HWE := Lib.hid hW
 clear hW q0 q1 q2
 iterate 3 (refine wpH rfl rfl ?_; try simp only [Act.put, g1, g2, g3, g4, g5, g6])
 refine wpAnyH_one (i := 3) (by kernel_rfl) rfl (fun K hK => ?_)
 simp only [g4, g5, g6]
 go_simp
 go_at_call 85
 with_reducible refine hsc.mono ?_
 rintro e w1 ⟨rfl, hb1⟩
 have hk1 : Kp B P W w1 := Kp.of_below ⟨hb1.os, hb1.tape, hb1.output, hb1.size, hb1.block⟩ HBs.out
 have hs1 : W.heap.size ≤ w1.heap.size := hb1.size
 have hc1 : ∀ p : Addr, p.block < W.heap.size → w1.cell? p = W.cell? p := fun p hp => World.cell?_of_block (hb1.block _ hp)
 have hP1 := HP.out.old (⟨hb1.os, hb1.tape, hb1.output, hb1.size, hb1.block⟩ : Below W.heap.size W w1)
 refine hK.out _ _ ⟨(hc1 _ HQ.out.lt).trans hS1.1, (hc1 _ hlt).trans hS1.2.1, (hc1 _ hlt).trans hS1.2.2⟩ (fun hS2 => ?_)
 have HP1 := Lib.hid hP1
 have HK1 := Lib.hid hk1
 clear hsc hb1 hc1 hk1 hP1 hS1
 refine wpAnyH_one (i := 4) (by kernel_rfl) rfl (fun K hK => ?_)
 simp only [g4, g5, g6]
 go_simp
 obtain ⟨W2, hW2⟩ : ∃ W2, W2 = w1.alloc (.cells #[.int .u8 3, .string ⟨#[]⟩, .int .i64 a, .int .i64 0] 92) := ⟨_, rfl⟩
 rw [← hW2]
 have hb2 : Below w1.heap.size w1 W2 := by rw [hW2]; exact (Below.refl _ _).alloc (Nat.le_refl _) _
 have hti : TI W2 (w1.heap.size + 1) (some ⟨w1.heap.size, 0, none⟩) 1 [⟨3, [], a, 0⟩] := by rw [hW2]; exact TI.many w1 [⟨3, [], a, 0⟩] _ rfl
 have hBs1 : B ≤ w1.heap.size := Nat.le_trans HBs.out hs1
 have hk2 : Kp B P W W2 := HK1.out.trans (Kp.of_below hb2 hBs1)
 have hQ2 := hk2.heap HQ.out hQP (by decide)
 have hR2 := hk2.heap HR.out hRP (by decide)
 have hput := put_any W2 B P T 1 1 _ S [⟨3, [], a, 0⟩] _ (HP1.out.old hb2) hti (by rw [hW2]; simp) hS hT (by omega) (HG.out _ (HKW.out.trans hk2).1) (by intro x hx; simp at hx; subst hx; simp; omega) (Nat.le_trans hBs1 hb2.size)
 have HK2 := Lib.hid hk2
 refine hK.out _ _ ⟨One.cell hQ2, Rw.cell hR2 rfl, Rw.cell hR2 rfl⟩ (fun hS3 => ?_)
 clear hb2 hti hk2 hQ2 hR2 hS2 hW2
 refine wpAnyH_one (i := 5) (by kernel_rfl) rfl (fun K hK => ?_)
 simp only [g4, g5, g6]
 go_simp
 go_at_call 81
 with_reducible refine hput.mono ?_
 rintro e w3 (⟨a1, a2, rfl, a3, a4⟩ | ⟨a1, rfl, a2⟩)
 rotate_left
 ·refine ⟨rfl, .inr ⟨long_more a1 ?_ ?_, rfl, (HKW.out.1.trans HK2.out.1).trans a2⟩⟩
  ·rw [HX.out]; unfold rangeT; split <;> simp [prtL, tC_nat]
  ·rw [HX.out]; unfold rangeT; split <;> simp
 have hk3 : Kp B P W w3 := HK2.out.trans a4
 have hQ3 : One w3 Q 96 (.pointer (some ⟨P, 0, none⟩)) := hk3.heap HQ.out hQP (by decide)
 have hR3 : Rw w3 w.heap.size 51 #[.int .i32 a, .int .i32 b] := hk3.heap HR.out hRP (by decide)
 refine hK.out _ _ ⟨hQ3.cell, hR3.cell rfl, hR3.cell rfl⟩ (fun hS4 => ?_)
 refine ⟨by kernel_rfl, ?_⟩
 have q0 := hQ3.cell
 have q1 : w3.cell? ⟨w.heap.size, 0, none⟩ = some (.int .i32 a) := hR3.cell rfl
 have q2 : w3.cell? ⟨w.heap.size, 1, none⟩ = some (.int .i32 b) := hR3.cell rfl
 have HP3 := Lib.hid a3
 have HK3 := Lib.hid hk3
 have HA := Lib.hid (And.intro a1 a2)
 clear a1 a2 a3 a4 hput hS3 hS4
 by_cases hab : b = a
 ·subst hab
  have hXa : X = [⟨3, [], b, 0⟩] := by rw [HX.out]; unfold rangeT; rw [if_pos rfl, tC_nat]
  have HXA := Lib.hid hXa
  clear hQ3 hR3 hk3 hXa
  go_wp2
  go_end0
  rw [HXA.out]
  exact .inl ⟨HA.out.1, HA.out.2, rfl, HP3.out, HKW.out.trans HK3.out⟩
 have i1 : ((b : Int) == (a : Int)) = false := beq_eq_false_iff_ne.2 (by omega)
 have hXa : X = [⟨3, [], a, 0⟩, ⟨2, [46, 46, 46], 0, 0⟩, ⟨3, [], b, 0⟩] := by rw [HX.out]; unfold rangeT; rw [if_neg (show ¬ ((b : Int) = (a : Int)) by omega), tC_nat, tC_nat]; rfl
 have HXA := Lib.hid hXa
 have HQ3 := Lib.hid hQ3
 have HR3 := Lib.hid hR3
 have hS5 : (fun W' : World => W'.cell? ⟨Q, 0, none⟩ = some (.pointer (some ⟨P, 0, none⟩)) ∧ W'.cell? ⟨w.heap.size, 0, none⟩ = some (.int .i32 a) ∧ W'.cell? ⟨w.heap.size, 1, none⟩ = some (.int .i32 b)) w3.drew := ⟨q0, q1, q2⟩
 have hBw3 : B ≤ w3.heap.size := Nat.le_trans HBs.out hk3.size
 have hsg := sign_any7 w3.drew ⟨#[46, 46, 46]⟩
 clear hQ3 hR3 hk3 hXa hab
 go_wp2
 refine wp_region_held (S := fun W' : World => W'.cell? ⟨Q, 0, none⟩ = some (.pointer (some ⟨P, 0, none⟩)) ∧ W'.cell? ⟨w.heap.size, 0, none⟩ = some (.int .i32 a) ∧ W'.cell? ⟨w.heap.size, 1, none⟩ = some (.int .i32 b)) (by kernel_rfl) ?_
 change wpAnyH _ _ _ _ _ _ _ _ w3.drew
 clear q0 q1 q2 i1
 refine wpHn 0 rfl ?_
 try simp only [Act.put, g1, g2, g3, g4, g6]
 refine wpHn 2 rfl ?_
 try simp only [Act.put, g1, g2, g3, g4, g5, g6]
 refine wpHn 3 rfl ?_
 try simp only [Act.put, g1, g2, g3, g4, g5, g6]
 refine wpAnyH_one (i := 1) (by kernel_rfl) rfl (fun K hK => ?_)
 simp only [g4, g5, g6]
 go_simp
 go_at_call 86
 with_reducible refine hsg.mono ?_
 rintro e w4 ⟨rfl, hb4⟩
 have hk4 : Kp B P w3 w4 := Kp.of_below ⟨hb4.os, hb4.tape, hb4.output, hb4.size, hb4.block⟩ hBw3
 have hP4 : PW w4 B P _ _ := HP3.out.old (⟨hb4.os, hb4.tape, hb4.output, hb4.size, hb4.block⟩ : Below w3.heap.size w3 w4)
 have hsc := scalar_any7 w4 (b : Int) (by omega) (by omega)
 have hQ4 : One w4 Q 96 (.pointer (some ⟨P, 0, none⟩)) := hk4.heap HQ3.out hQP (by decide)
 have hR4 : Rw w4 w.heap.size 51 #[.int .i32 a, .int .i32 b] := hk4.heap HR3.out hRP (by decide)
 refine hK.out _ _ ⟨hQ4.cell, hR4.cell rfl, hR4.cell rfl⟩ (fun hS6 => ?_)
 clear hb4 hsg hS5
 refine wpAnyH_one (i := 4) (by kernel_rfl) rfl (fun K hK => ?_)
 simp only [g4, g5, g6]
 go_simp
 go_at_call 85
 with_reducible refine hsc.mono ?_
 rintro e w5 ⟨rfl, hb5⟩
 have hk5 : Kp B P w3 w5 := hk4.trans (Kp.of_below hb5 (Nat.le_trans hBw3 hk4.size))
 have hP5 := hP4.old hb5
 have hQ5 : One w5 Q 96 (.pointer (some ⟨P, 0, none⟩)) := hk5.heap HQ3.out hQP (by decide)
 have hR5 : Rw w5 w.heap.size 51 #[.int .i32 a, .int .i32 b] := hk5.heap HR3.out hRP (by decide)
 refine hK.out _ _ ⟨hQ5.cell, hR5.cell rfl, hR5.cell rfl⟩ (fun hS7 => ?_)
 have hBw5 : B ≤ w5.heap.size := Nat.le_trans hBw3 hk5.size
 clear hb5 hsc hS6 hk4 hP4 hQ4 hR4
 refine wpAnyH_one (i := 5) (by kernel_rfl) rfl (fun K hK => ?_)
 simp only [g4, g5, g6]
 go_simp
 obtain ⟨W6, hW6⟩ : ∃ W6, W6 = w5.alloc (.cells #[.int .u8 2, .string ⟨#[46, 46, 46]⟩, .int .i64 0, .int .i64 0, .int .u8 3, .string ⟨#[]⟩, .int .i64 b, .int .i64 0] 92) := ⟨_, rfl⟩
 rw [← hW6]
 have hb6 : Below w5.heap.size w5 W6 := by rw [hW6]; exact (Below.refl _ _).alloc (Nat.le_refl _) _
 have hti : TI W6 (w5.heap.size + 1) (some ⟨w5.heap.size, 0, none⟩) 2 [⟨2, [46, 46, 46], 0, 0⟩, ⟨3, [], b, 0⟩] := by rw [hW6]; exact TI.many w5 [⟨2, [46, 46, 46], 0, 0⟩, ⟨3, [], b, 0⟩] _ rfl
 have hk6 : Kp B P w3 W6 := hk5.trans (Kp.of_below hb6 hBw5)
 have hQ6 : One W6 Q 96 (.pointer (some ⟨P, 0, none⟩)) := hk6.heap HQ3.out hQP (by decide)
 have hR6 : Rw W6 w.heap.size 51 #[.int .i32 a, .int .i32 b] := hk6.heap HR3.out hRP (by decide)
 have hput := put_any W6 B P _ 2 2 _ _ [⟨2, [46, 46, 46], 0, 0⟩, ⟨3, [], b, 0⟩] _ (hP5.old hb6) hti (by rw [hW6]; simp) HA.out.1 HA.out.2 (by omega) (HG.out _ ((HKW.out.trans HK3.out).trans hk6).1) (by intro x hx; simp at hx; rcases hx with rfl | rfl <;> simp; omega) (Nat.le_trans hBw5 hb6.size)
 have HK6 := Lib.hid ((HKW.out.trans HK3.out).trans hk6)
 have HK36 := Lib.hid hk6
 refine hK.out _ _ ⟨hQ6.cell, hR6.cell rfl, hR6.cell rfl⟩ (fun hS8 => ?_)
 clear hb6 hti hk6 hk5 hP5 hQ5 hR5 hQ6 hR6 hS7 hW6
 have hfs : (S ++ prtL [(⟨3, [], a, 0⟩ : Tok)]) ++ prtL [⟨2, [46, 46, 46], 0, 0⟩, ⟨3, [], b, 0⟩] = S ++ prtL X := by rw [List.append_assoc, ← prtL_app, HXA.out]; rfl
 have hft : T + [(⟨3, [], a, 0⟩ : Tok)].length + [(⟨2, [46, 46, 46], 0, 0⟩ : Tok), ⟨3, [], b, 0⟩].length = T + X.length := by rw [HXA.out]; rfl
 rw [hfs, hft] at hput
 clear hfs hft
 refine wpAnyH_one (i := 6) (by kernel_rfl) rfl (fun K hK => ?_)
 simp only [g4, g5, g6]
 go_simp
 go_at_call 81
 with_reducible refine hput.mono ?_
 rintro e w7 (⟨a1, a2, rfl, a3, a4⟩ | ⟨a1, rfl, a2⟩)
 rotate_left
 ·exact ⟨rfl, .inr ⟨a1, rfl, HK6.out.1.trans a2⟩⟩
 have hk7 : Kp B P w3 w7 := HK36.out.trans a4
 have hQ7 : One w7 Q 96 (.pointer (some ⟨P, 0, none⟩)) := hk7.heap HQ3.out hQP (by decide)
 have hR7 : Rw w7 w.heap.size 51 #[.int .i32 a, .int .i32 b] := hk7.heap HR3.out hRP (by decide)
 refine hK.out _ _ ⟨hQ7.cell, hR7.cell rfl, hR7.cell rfl⟩ (fun hS9 => ?_)
 refine ⟨by kernel_rfl, ?_⟩
 have HZ := Lib.hid (And.intro a1 (And.intro a2 (And.intro a3 (HK6.out.trans a4))))
 clear a1 a2 a3 a4 hk7 hQ7 hR7 hS8 hS9 hput
 go_wp2
 go_end0
 exact .inl ⟨HZ.out.1, HZ.out.2.1, rfl, HZ.out.2.2.1, HZ.out.2.2.2⟩
end Go.Proofs.YthaibekbefndlaaGreatDoor.C

namespace Go.Proofs.YthaibekbefndlaaGreatDoor.C
open Go.RowKit

theorem sepT_snoc {α : Type} (f : α → List Tok) : ∀ (l : List α) (x : α), l ≠ [] → sepT f (l ++ [x]) = sepT f l ++ (tS sSemi :: f x)
 | [], _, h => absurd rfl h
 | [a], x, _ => rfl
 | a :: b :: r, x, _ => by
  have ih := sepT_snoc f (b :: r) x (by simp)
  show f a ++ tS sSemi :: sepT f (b :: (r ++ [x])) = _
  rw [show (b :: (r ++ [x])) = (b :: r) ++ [x] from rfl, ih]
  show _ = (f a ++ tS sSemi :: sepT f (b :: r)) ++ _
  simp
def Scal (rs : List (Int × Int)) : Prop := ∀ r ∈ rs, (0 ≤ r.1 ∧ r.1 ≤ 1114111) ∧ 0 ≤ r.2 ∧ r.2 ≤ 1114111
theorem sepT_len {α : Type} (f : α → List Tok) (l : List α) (i : Nat) : (prtL (sepT f (l.take i))).length ≤ (prtL (sepT f l)).length ∧ (sepT f (l.take i)).length ≤ (sepT f l).length := by
 induction l generalizing i with
 | nil => simp
 | cons a r ih =>
  cases i with
  | zero => simp [sepT, prtL]
  | succ i =>
   cases r with
   | nil => simp
   | cons b r =>
    have h := ih i
    cases i with
    | zero =>
     show (prtL (f a)).length ≤ (prtL (f a ++ tS sSemi :: sepT f (b :: r))).length ∧ (f a).length ≤ (f a ++ tS sSemi :: sepT f (b :: r)).length
     rw [prtL_app]
     simp
    | succ i =>
     have h2 : sepT f ((a :: b :: r).take (i + 1 + 1)) = f a ++ tS sSemi :: sepT f ((b :: r).take (i + 1)) := rfl
     have h3 : sepT f (a :: b :: r) = f a ++ tS sSemi :: sepT f (b :: r) := rfl
     rw [h2, h3, prtL_app, prtL_app]
     simp only [List.length_append, List.length_cons, prtL, List.flatMap_cons]
     have h4 := h.1
     have h5 := h.2
     unfold prtL at h4
     omega
theorem prsR_at {w : World} {B : Nat} {A : Option Addr} {n : Nat} {rs : List (Int × Int)} (h : SI 2 w B A n (rs.map prRow)) {i : Nat} {r : Int × Int} (hr : rs[i]? = some r) : ∃ ad, A = some ad ∧ ad.block < B ∧ w.cell? (ad.add (i * 2)) = some (.int .i32 r.1) ∧ w.cell? ⟨(ad.add (i * 2)).block, (ad.add (i * 2)).off + 1, none⟩ = some (.int .i32 r.2) := by
 have hi : i < n := by have := h.len; rw [List.length_map] at this; rw [← this]; exact (List.getElem?_eq_some_iff.1 hr).1
 obtain ⟨ad, x, e, hb, hx, _, hc⟩ := h.at_ hi
 rw [List.getElem?_map, hr] at hx
 obtain rfl : prRow r = x := Option.some.inj hx
 exact ⟨ad, e, hb, hc 0 _ rfl, by rw [add_more' _ _ _ (by omega)]; exact hc 1 _ rfl⟩
def PutSt (w : World) (B P : Nat) (S : List UInt8) (T : Nat) (X : List Tok) (wr : World) : Prop := PW wr B P (S ++ prtL X) (T + X.length) ∧ (S ++ prtL X).length ≤ 4000 ∧ T + X.length ≤ 1000 ∧ Kp B P w wr
set_option maxRecDepth 100000 in
set_option maxHeartbeats 4000000 in
theorem putRanges_any (w : World) (B P T Q : Nat) (v : Value) (rs : List (Int × Int)) (S : List UInt8) (h : PW w B P S T) (hQ : One w Q 96 (.pointer (some ⟨P, 0, none⟩))) (hQP : Q ≠ P) (hS : S.length ≤ 4000) (hT : T ≤ 1000) (hG : ∀ w', Below B w w' → Gl w') (hB : B ≤ w.heap.size) (hr : PrsR w B v rs) (hsc : Scal rs) (hn : rs.length ≤ maxLen) :
  Calls Tryz.prog 83 #[.pointer (some ⟨P, 0, none⟩), v, .func (.func 84) #[] #[.pointer (some ⟨Q, 0, none⟩)]] w (PutTold w B P (S ++ prtL (sepT rangeT rs)) (T + (sepT rangeT rs).length)) := by
 obtain ⟨A, c, rfl, hsi⟩ := hr
 unfold maxLen at hn
 have HSI := Lib.hid hsi
 have HQ := Lib.hid hQ
 have HG := Lib.hid hG
 have HB := Lib.hid hB
 have HSC := Lib.hid hsc
 have hst0 : PutSt w B P S T (sepT rangeT (rs.take 0)) w := ⟨by simpa [sepT, prtL] using h, by simpa [sepT, prtL] using hS, by simpa [sepT] using hT, Kp.refl _ _ _⟩
 have HST0 := Lib.hid hst0
 clear h hQ hG hB hsi hsc hS hT hst0
 go_enter Tryz.func83, Tryz.ntmps83
 go_wp2
 go_loopw [10] (fun iv wr => ∃ i : Nat, i ≤ rs.length ∧ iv = .int .i64 i ∧ Hid (PutSt w B P S T (sepT rangeT (rs.take i)) wr)) (fun iv _ => rs.length - (intOf iv).toNat)
 case atStart => exact ⟨0, Nat.zero_le _, rfl, HST0⟩
 case round =>
  obtain ⟨i, hin, rfl, HST⟩ := hrel
  by_cases hlt : i < rs.length
  rotate_left
  ·obtain rfl : i = rs.length := by omega
   go_wp2
   go_end0
   have := HST.out
   rw [List.take_length] at this
   exact .inl ⟨this.2.1, this.2.2.1, rfl, this.1, this.2.2.2⟩
  obtain ⟨r, hri⟩ : ∃ r, rs[i]? = some r := ⟨_, List.getElem?_eq_getElem hlt⟩
  have hr4 := HSC.out r (List.mem_of_getElem? hri)
  obtain ⟨a, b, rfl⟩ : ∃ a b : Nat, r = ((a : Int), (b : Int)) := ⟨r.1.toNat, r.2.toNat, by ext <;> simp <;> omega⟩
  obtain ⟨hp, hs1, ht1, hk⟩ := HST.out
  obtain ⟨ad, rfl, hbl, c0, c1⟩ := prsR_at (HSI.out.on hk.1 (Nat.le_refl _)) hri
  have htk : rs.take (i + 1) = rs.take i ++ [((a : Int), (b : Int))] := by rw [List.take_add_one, hri]; rfl
  have hle := sepT_len rangeT rs (i + 1)
  have HLE := Lib.hid hle
  have HTK := Lib.hid htk
  obtain ⟨W1, hW1⟩ : ∃ W1, W1 = wr.alloc (.cells #[.int .i32 a, .int .i32 b] 51) := ⟨_, rfl⟩
  have hb1 : Below wr.heap.size wr W1 := by rw [hW1]; exact (Below.refl _ _).alloc (Nat.le_refl _) _
  have hBr : B ≤ wr.heap.size := Nat.le_trans HB.out hk.size
  have hk1 : Kp B P w W1 := hk.trans (Kp.of_below hb1 hBr)
  have hR1 : Rw W1 wr.heap.size 51 #[.int .i32 a, .int .i32 b] := by rw [hW1]; exact heap_alloc_new wr _
  have hp1 := hp.old hb1
  have hRP : wr.heap.size ≠ P := by have := hp.lt; omega
  have i0 : (0 : Int) ≤ (i : Int) := by omega
  have i1 : (i : Int) < (rs.length : Int) := by omega
  have HP1 := Lib.hid hp1
  have HK1 := Lib.hid hk1
  have HR1 := Lib.hid hR1
  have HBR : Hid (B ≤ W1.heap.size) := Lib.hid (Nat.le_trans hBr hb1.size)
  clear hp hk hb1 hk1 hR1 hp1 hBr hle htk hri
  have q0 : W1.cell? ⟨wr.heap.size, 0, none⟩ = some (.int .i32 a) := HR1.out.cell rfl
  have q1 : W1.cell? ⟨wr.heap.size, 1, none⟩ = some (.int .i32 b) := HR1.out.cell rfl
  by_cases hi0 : i = 0
  ·subst hi0
   rw [show 0 * 2 = 0 from rfl, Addr.add_zero'] at c0 c1
   have hQ1 : One W1 Q 96 (.pointer (some ⟨P, 0, none⟩)) := HK1.out.heap HQ.out hQP (by decide)
   have hcl := clsItem_any W1 B P _ Q a b _ HP1.out hQ1 hQP hs1 ht1 (fun w' h' => HG.out w' (HK1.out.1.trans h')) HBR.out (by omega) (by omega)
   have hX0 : sepT rangeT (rs.take 0) = [] := rfl
   have hX1 : sepT rangeT (rs.take (0 + 1)) = rangeT ((a : Int), (b : Int)) := by rw [HTK.out]; rfl
   rw [hX0, ← hX1] at hcl
   rw [show S ++ prtL [] = S by simp [prtL]] at hcl
   have HX := Lib.hid (And.intro (show (S ++ prtL (sepT rangeT (rs.take (0 + 1)))).length ≤ (S ++ prtL (sepT rangeT rs)).length by simp only [List.length_append]; have := HLE.out.1; omega) (show T + (sepT rangeT (rs.take (0 + 1))).length ≤ T + (sepT rangeT rs).length by have := HLE.out.2; omega))
   rw [hW1] at q0 q1
   clear hQ1 hX0 hX1 HTK HLE hs1 ht1
   go_wp2_with fail
   rw [← hW1]
   refine hcl.mono ?_
   rintro e w2 (⟨a1, a2, rfl, a3, a4⟩ | ⟨a1, rfl, a2⟩)
   rotate_left
   ·exact ⟨rfl, .inr ⟨long_more a1 HX.out.1 HX.out.2, rfl, HK1.out.1.trans a2⟩⟩
   have HZ : Hid (PutSt w B P S T (sepT rangeT (rs.take (0 + 1))) w2) := Lib.hid ⟨a3, a1, a2, HK1.out.trans a4⟩
   clear a1 a2 a3 a4 hcl
   go_wp2
   go_roundw
   case rel => exact ⟨0 + 1, by omega, by go_num, HZ⟩
   case measure => simp [intOf]; omega
  ·have i2 : (0 : Int) < (i : Int) := by omega
   have hne : rs.take i ≠ [] := by
    intro h
    have hl : (rs.take i).length = 0 := by rw [h]; rfl
    rw [List.length_take] at hl
    omega
   have hXi : sepT rangeT (rs.take (i + 1)) = sepT rangeT (rs.take i) ++ ([⟨2, [59], 0, 0⟩] ++ rangeT ((a : Int), (b : Int))) := by rw [HTK.out, sepT_snoc _ _ _ hne]; rfl
   have hsg := sign_any7 W1 ⟨#[59]⟩
   have HXI := Lib.hid hXi
   rw [hW1] at q0 q1
   clear hne hXi HTK
   go_wp2_with fail
   rw [← hW1]
   refine hsg.mono ?_
   rintro e w2 ⟨rfl, hb2⟩
   have hBs2 : B ≤ w2.heap.size := Nat.le_trans HBR.out hb2.size
   have hk2 : Kp B P w w2 := HK1.out.trans (Kp.of_below hb2 HBR.out)
   have hR2 : Rw w2 wr.heap.size 51 #[.int .i32 a, .int .i32 b] := HR1.out.on hb2 HR1.out.lt
   obtain ⟨W3, hW3⟩ : ∃ W3, W3 = w2.alloc (.cells #[.int .u8 2, .string ⟨#[59]⟩, .int .i64 0, .int .i64 0] 92) := ⟨_, rfl⟩
   have hb3 : Below w2.heap.size w2 W3 := by rw [hW3]; exact (Below.refl _ _).alloc (Nat.le_refl _) _
   have hk3 : Kp B P w W3 := hk2.trans (Kp.of_below hb3 hBs2)
   have hR3 : Rw W3 wr.heap.size 51 #[.int .i32 a, .int .i32 b] := hR2.on hb3 hR2.lt
   have hti : TI W3 (w2.heap.size + 1) (some ⟨w2.heap.size, 0, none⟩) 1 [⟨2, [59], 0, 0⟩] := by rw [hW3]; exact TI.many w2 [⟨2, [59], 0, 0⟩] _ rfl
   have hput := put_any W3 B P _ 1 1 _ _ [⟨2, [59], 0, 0⟩] _ ((HP1.out.old hb2).old hb3) hti (by rw [hW3]; simp) hs1 ht1 (by omega) (HG.out _ hk3.1) (by intro x hx; simp at hx; subst hx; simp) (Nat.le_trans hBs2 hb3.size)
   have HK3 := Lib.hid hk3
   have HR3 := Lib.hid hR3
   have HBS3 : Hid (B ≤ W3.heap.size) := Lib.hid (Nat.le_trans hBs2 hb3.size)
   clear hb2 hBs2 hk2 hR2 hb3 hk3 hR3 hti hsg q0 q1 hs1 ht1
   go_wp2_with fail
   rw [← hW3]
   refine hput.mono ?_
   rintro e w4 (⟨a1, a2, rfl, a3, a4⟩ | ⟨a1, rfl, a2⟩)
   rotate_left
   ·refine ⟨rfl, .inr ⟨long_more a1 ?_ ?_, rfl, HK3.out.1.trans a2⟩⟩
    ·have := HLE.out.1
     rw [HXI.out, prtL_app, prtL_app] at this
     simp only [List.length_append] at this ⊢
     omega
    ·have := HLE.out.2
     rw [HXI.out] at this
     simp only [List.length_append] at this ⊢
     omega
   have hk4 : Kp B P w w4 := HK3.out.trans a4
   have hQ4 : One w4 Q 96 (.pointer (some ⟨P, 0, none⟩)) := hk4.heap HQ.out hQP (by decide)
   have hR4 : Rw w4 wr.heap.size 51 #[.int .i32 a, .int .i32 b] := a4.heap HR3.out hRP (by decide)
   have hcl := clsItem_any w4 B P _ Q a b _ a3 hQ4 hQP a1 a2 (fun w' h' => HG.out w' (hk4.1.trans h')) (Nat.le_trans HBS3.out a4.size) (by omega) (by omega)
   have hfs : ((S ++ prtL (sepT rangeT (rs.take i))) ++ prtL [(⟨2, [59], 0, 0⟩ : Tok)]) ++ prtL (rangeT ((a : Int), (b : Int))) = S ++ prtL (sepT rangeT (rs.take (i + 1))) := by rw [HXI.out, prtL_app, prtL_app]; simp
   have hft : ((T + (sepT rangeT (rs.take i)).length) + [(⟨2, [59], 0, 0⟩ : Tok)].length) + (rangeT ((a : Int), (b : Int))).length = T + (sepT rangeT (rs.take (i + 1))).length := by rw [HXI.out]; simp only [List.length_append]; omega
   rw [hfs, hft] at hcl
   have q0 : w4.cell? ⟨wr.heap.size, 0, none⟩ = some (.int .i32 a) := hR4.cell rfl
   have q1 : w4.cell? ⟨wr.heap.size, 1, none⟩ = some (.int .i32 b) := hR4.cell rfl
   have HX := Lib.hid (And.intro (show (S ++ prtL (sepT rangeT (rs.take (i + 1)))).length ≤ (S ++ prtL (sepT rangeT rs)).length by simp only [List.length_append]; have := HLE.out.1; omega) (show T + (sepT rangeT (rs.take (i + 1))).length ≤ T + (sepT rangeT rs).length by have := HLE.out.2; omega))
   have HK4 := Lib.hid hk4
   clear a1 a2 a3 a4 hk4 hQ4 hR4 hfs hft hput HXI HLE
   go_wp2_with fail
   refine hcl.mono ?_
   rintro e w5 (⟨a1, a2, rfl, a3, a4⟩ | ⟨a1, rfl, a2⟩)
   rotate_left
   ·exact ⟨rfl, .inr ⟨long_more a1 HX.out.1 HX.out.2, rfl, HK4.out.1.trans a2⟩⟩
   have HZ : Hid (PutSt w B P S T (sepT rangeT (rs.take (i + 1))) w5) := Lib.hid ⟨a3, a1, a2, HK4.out.trans a4⟩
   clear a1 a2 a3 a4 hcl
   go_wp2
   go_roundw
   case rel => exact ⟨i + 1, by omega, by go_num, HZ⟩
   case measure => simp [intOf]; omega
end Go.Proofs.YthaibekbefndlaaGreatDoor.C

namespace Go.Proofs.YthaibekbefndlaaGreatDoor.C
open Go.RowKit

theorem prt_body {x : Tok} (h : x.k ≠ 6) : prt x = bodyT x ++ [32] := by
 unfold prt bodyT
 by_cases h3 : x.k = 3
 ·rw [if_pos h3, if_pos h3]; simp
 ·rw [if_neg h3, if_neg h3]
  by_cases h5 : x.k = 5
  ·rw [if_pos h5, if_pos h5]; simp
  ·rw [if_neg h5, if_neg h5]
   by_cases h4 : x.k = 4
   ·rw [if_pos h4, if_pos h4]; simp
   ·rw [if_neg h4, if_neg h4, if_neg h]
theorem line_end : ∀ (ts : List Tok), ts ≠ [] → (∀ x ∈ ts, x.k ≠ 6) → ∃ l, prtL ts = l ++ [32] ∧ l ++ [10] = lineT ts
 | [], h, _ => absurd rfl h
 | [x], _, hk => ⟨bodyT x, by simp [prtL, prt_body (hk x (by simp))], rfl⟩
 | x :: y :: r, _, hk => by
  obtain ⟨l, h1, h2⟩ := line_end (y :: r) (by simp) (fun z hz => hk z (by simp at hz ⊢; exact .inr hz))
  refine ⟨bodyT x ++ 32 :: l, ?_, ?_⟩
  ·rw [show prtL (x :: y :: r) = prt x ++ prtL (y :: r) from rfl, h1, prt_body (hk x (by simp))]
   simp
  ·show _ = bodyT x ++ 32 :: lineT (y :: r)
   rw [← h2]
   simp
theorem line_put (S : List UInt8) {ts : List Tok} (h : ts ≠ []) (hk : ∀ x ∈ ts, x.k ≠ 6) : (S ++ prtL ts).dropLast ++ [10] = S ++ lineT ts ∧ (S ++ lineT ts).length = (S ++ prtL ts).length := by
 obtain ⟨l, h1, h2⟩ := line_end ts h hk
 rw [h1, ← h2, ← List.append_assoc, List.dropLast_concat]
 simp
theorem sepT_kind {α : Type} (f : α → List Tok) (hf : ∀ a, ∀ x ∈ f a, x.k ≠ 6) : ∀ (l : List α), ∀ x ∈ sepT f l, x.k ≠ 6
 | [], x, h => by simp [sepT] at h
 | [a], x, h => hf a x h
 | a :: b :: r, x, h => by
  have h' : x ∈ f a ++ tS sSemi :: sepT f (b :: r) := h
  rcases List.mem_append.1 h' with h1 | h1
  ·exact hf a x h1
  ·rcases List.mem_cons.1 h1 with h2 | h2
   ·subst h2; decide
   ·exact sepT_kind f hf (b :: r) x h2
theorem rangeT_kind (r : Int × Int) : ∀ x ∈ rangeT r, x.k ≠ 6 := by
 intro x hx
 unfold rangeT at hx
 split at hx
 ·simp only [List.mem_singleton] at hx; subst hx; simp [tC]
 ·simp only [List.mem_cons, List.not_mem_nil, or_false] at hx
  rcases hx with rfl | rfl | rfl <;> simp [tC, tS]
theorem clsT_kind (nm : List UInt8) (rs : List (Int × Int)) : ∀ x ∈ clsT ⟨nm, rs⟩, x.k ≠ 6 := by
 intro x hx
 have h : x ∈ tW wClass :: tW nm :: sepT rangeT rs := hx
 rcases List.mem_cons.1 h with rfl | h
 ·simp [tW]
 ·rcases List.mem_cons.1 h with rfl | h
  ·simp [tW]
  ·exact sepT_kind _ rangeT_kind _ _ h
set_option maxRecDepth 100000 in
set_option maxHeartbeats 4000000 in
theorem clsPut_any (w : World) (B P T : Nat) (nm : List UInt8) (v : Value) (rs : List (Int × Int)) (S : List UInt8) (h : PW w B P S T) (hS : S.length ≤ 4000) (hT : T ≤ 1000) (hG : ∀ w', Below B w w' → Gl w') (hB : B ≤ w.heap.size) (hr : PrsR w B v rs) (hsc : Scal rs) (hn : rs.length ≤ maxLen) (hnm : nm.length ≤ 140737488351232) :
  Calls Tryz.prog 39 #[.pointer (some ⟨P, 0, none⟩), .agg #[.string (str nm), v]] w (PutTold w B P (S ++ lineT (clsT ⟨nm, rs⟩)) (T + (clsT ⟨nm, rs⟩).length + 1)) := by
 obtain ⟨A, c, rfl, hsi⟩ := hr
 obtain ⟨W, hW⟩ : ∃ W, W = (w.alloc (.cells #[.pointer (some ⟨P, 0, none⟩)] 96)).alloc (.cells #[.string (str nm), .slice A rs.length c] 47) := ⟨_, rfl⟩
 have hbW : Below w.heap.size w W := by rw [hW]; exact ((Below.refl _ _).alloc (Nat.le_refl _) _).alloc (by simp) _
 have hQ : One W w.heap.size 96 (.pointer (some ⟨P, 0, none⟩)) := by rw [hW]; exact One.alloc (show One (w.alloc (.cells #[.pointer (some ⟨P, 0, none⟩)] 96)) w.heap.size _ _ from heap_alloc_new w _) _
 have hR : Rw W (w.heap.size + 1) 47 #[.string (str nm), .slice A rs.length c] := by
  have hs : (w.alloc (.cells #[.pointer (some ⟨P, 0, none⟩)] 96)).heap.size = w.heap.size + 1 := by simp
  show W.heap[w.heap.size + 1]? = _
  rw [hW, ← hs]
  exact heap_alloc_new _ _
 have hmf : ∀ (fn : Fn) (first cap : Array Value) (w : World), (Instr.makeFunc fn first cap).run Tryz.prog w = .ok (.func fn first cap) w := fun _ _ _ _ => rfl
 have hP := h.old hbW
 have hlP := h.lt
 have HP := Lib.hid hP
 have HQ := Lib.hid hQ
 have HR := Lib.hid hR
 have HG := Lib.hid hG
 have HKW := Lib.hid (Kp.of_below (P := P) hbW hB)
 have HBs : Hid (B ≤ W.heap.size) := Lib.hid (Nat.le_trans hB hbW.size)
 have HSI := Lib.hid (hsi.on (hbW.mono hB) (Nat.le_refl _))
 have HSC := Lib.hid hsc
 have hQP : w.heap.size ≠ P := by omega
 have hRP : w.heap.size + 1 ≠ P := by omega
 have q0 := hQ.cell
 have q1 : W.cell? ⟨w.heap.size + 1, 0, none⟩ = some (.string (str nm)) := hR.cell rfl
 have q2 : W.cell? ⟨w.heap.size + 1, 1, none⟩ = some (.slice A rs.length c) := hR.cell rfl
 have hwd := word_any W.drew ⟨#[99, 108, 97, 115, 115]⟩
 obtain ⟨X, hX⟩ : ∃ X, X = sepT rangeT rs := ⟨_, rfl⟩
 have hkd := clsT_kind nm rs
 obtain ⟨Y, hY⟩ : ∃ Y, Y = clsT ⟨nm, rs⟩ := ⟨_, rfl⟩
 have hcl : Y = [⟨1, [99, 108, 97, 115, 115], 0, 0⟩, ⟨1, nm, 0, 0⟩] ++ X := by rw [hY, hX]; rfl
 rw [← hY] at hkd ⊢
 have HLL := Lib.hid (line_put S (ts := Y) (by rw [hcl]; simp) hkd)
 have HY := Lib.hid hcl
 have HX := Lib.hid hX
 clear h hP hR hQ hG hbW hX hcl hsi hsc hkd hY
 go_enter Tryz.func39, Tryz.ntmps39
 go_wp2
 rw [← hW]
 refine wp_region_held (S := fun W' : World => W'.cell? ⟨w.heap.size, 0, none⟩ = some (.pointer (some ⟨P, 0, none⟩)) ∧ W'.cell? ⟨w.heap.size + 1, 0, none⟩ = some (.string (str nm)) ∧ W'.cell? ⟨w.heap.size + 1, 1, none⟩ = some (.slice A rs.length c)) (by kernel_rfl) ?_
 change wpAnyH _ _ _ _ _ _ _ _ W.drew
 have hS5 : (fun W' : World => W'.cell? ⟨w.heap.size, 0, none⟩ = some (.pointer (some ⟨P, 0, none⟩)) ∧ W'.cell? ⟨w.heap.size + 1, 0, none⟩ = some (.string (str nm)) ∧ W'.cell? ⟨w.heap.size + 1, 1, none⟩ = some (.slice A rs.length c)) W.drew := ⟨q0, q1, q2⟩
 have HWE := Lib.hid hW
 clear hW q0 q1 q2
 refine wpHn 0 rfl ?_
 try simp only [Act.put, g1, g2, g3, g4, g6]
 refine wpHn 2 rfl ?_
 try simp only [Act.put, g1, g2, g3, g4, g5, g6]
 refine wpHn 3 rfl ?_
 try simp only [Act.put, g1, g2, g3, g4, g5, g6]
 refine wpAnyH_one (i := 1) (by kernel_rfl) rfl (fun K hK => ?_)
 simp only [g4, g5, g6]
 go_simp
 go_at_call 82
 with_reducible refine hwd.mono ?_
 rintro e w4 ⟨rfl, hb4⟩
 have hk4 : Kp B P W w4 := Kp.of_below ⟨hb4.os, hb4.tape, hb4.output, hb4.size, hb4.block⟩ HBs.out
 have hP4 : PW w4 B P _ _ := HP.out.old (⟨hb4.os, hb4.tape, hb4.output, hb4.size, hb4.block⟩ : Below W.heap.size W w4)
 have hwd2 := word_any w4 (str nm)
 have hQ4 : One w4 w.heap.size 96 (.pointer (some ⟨P, 0, none⟩)) := hk4.heap HQ.out hQP (by decide)
 have hR4 : Rw w4 (w.heap.size + 1) 47 #[.string (str nm), .slice A rs.length c] := hk4.heap HR.out hRP (by decide)
 refine hK.out _ _ ⟨hQ4.cell, hR4.cell rfl, hR4.cell rfl⟩ (fun hS6 => ?_)
 clear hb4 hwd hS5
 refine wpAnyH_one (i := 4) (by kernel_rfl) rfl (fun K hK => ?_)
 simp only [g4, g5, g6]
 go_simp
 go_at_call 82
 with_reducible refine hwd2.mono ?_
 rintro e w5 ⟨rfl, hb5⟩
 have hk5 : Kp B P W w5 := hk4.trans (Kp.of_below hb5 (Nat.le_trans HBs.out hk4.size))
 have hP5 := hP4.old hb5
 have hQ5 : One w5 w.heap.size 96 (.pointer (some ⟨P, 0, none⟩)) := hk5.heap HQ.out hQP (by decide)
 have hR5 : Rw w5 (w.heap.size + 1) 47 #[.string (str nm), .slice A rs.length c] := hk5.heap HR.out hRP (by decide)
 refine hK.out _ _ ⟨hQ5.cell, hR5.cell rfl, hR5.cell rfl⟩ (fun hS7 => ?_)
 have hBw5 : B ≤ w5.heap.size := Nat.le_trans HBs.out hk5.size
 clear hb5 hwd2 hS6 hk4 hP4 hQ4 hR4
 refine wpAnyH_one (i := 5) (by kernel_rfl) rfl (fun K hK => ?_)
 simp only [g4, g5, g6]
 go_simp
 obtain ⟨W6, hW6⟩ : ∃ W6, W6 = w5.alloc (.cells #[.int .u8 1, .string ⟨#[99, 108, 97, 115, 115]⟩, .int .i64 0, .int .i64 0, .int .u8 1, .string (str nm), .int .i64 0, .int .i64 0] 92) := ⟨_, rfl⟩
 rw [← hW6]
 have hb6 : Below w5.heap.size w5 W6 := by rw [hW6]; exact (Below.refl _ _).alloc (Nat.le_refl _) _
 have hti : TI W6 (w5.heap.size + 1) (some ⟨w5.heap.size, 0, none⟩) 2 [⟨1, [99, 108, 97, 115, 115], 0, 0⟩, ⟨1, nm, 0, 0⟩] := by rw [hW6]; exact TI.many w5 [⟨1, [99, 108, 97, 115, 115], 0, 0⟩, ⟨1, nm, 0, 0⟩] _ rfl
 have hk6 : Kp B P W W6 := hk5.trans (Kp.of_below hb6 hBw5)
 have hQ6 : One W6 w.heap.size 96 (.pointer (some ⟨P, 0, none⟩)) := hk6.heap HQ.out hQP (by decide)
 have hR6 : Rw W6 (w.heap.size + 1) 47 #[.string (str nm), .slice A rs.length c] := hk6.heap HR.out hRP (by decide)
 have hput := putL_any W6 B P T 2 2 _ S [⟨1, [99, 108, 97, 115, 115], 0, 0⟩, ⟨1, nm, 0, 0⟩] _ (hP5.old hb6) hti (by rw [hW6]; simp) hS hT (by omega) (HG.out _ (HKW.out.trans hk6).1) ⟨by intro x hx; simp at hx; rcases hx with rfl | rfl <;> simp, by simp [prtL, prt]; omega⟩ (Nat.le_trans hBw5 hb6.size)
 have HK6 := Lib.hid hk6
 refine hK.out _ _ ⟨hQ6.cell, hR6.cell rfl, hR6.cell rfl⟩ (fun hS8 => ?_)
 clear hb6 hti hk6 hk5 hP5 hQ5 hR5 hQ6 hR6 hS7 hW6
 refine wpAnyH_one (i := 6) (by kernel_rfl) rfl (fun K hK => ?_)
 simp only [g4, g5, g6]
 go_simp
 go_at_call 81
 with_reducible refine hput.mono ?_
 rintro e w7 (⟨a1, a2, rfl, a3, a4⟩ | ⟨a1, rfl, a2⟩)
 rotate_left
 ·refine ⟨rfl, .inr ⟨long_more a1 ?_ ?_, rfl, (HKW.out.1.trans HK6.out.1).trans a2⟩⟩
  ·rw [HLL.out.2, HY.out, prtL_app]; simp only [List.length_append]; omega
  ·rw [HY.out]; simp only [List.length_append]; omega
 have hk7 : Kp B P W w7 := HK6.out.trans a4
 have hQ7 : One w7 w.heap.size 96 (.pointer (some ⟨P, 0, none⟩)) := hk7.heap HQ.out hQP (by decide)
 have hR7 : Rw w7 (w.heap.size + 1) 47 #[.string (str nm), .slice A rs.length c] := hk7.heap HR.out hRP (by decide)
 refine hK.out _ _ ⟨hQ7.cell, hR7.cell rfl, hR7.cell rfl⟩ (fun hS9 => ?_)
 refine ⟨by kernel_rfl, ?_⟩
 have hKw7 : Kp B P w w7 := HKW.out.trans hk7
 have hpi := putRanges_any w7 B P _ w.heap.size _ rs _ a3 hQ7 hQP a1 a2 (fun w' h' => HG.out w' (hKw7.1.trans h')) (Nat.le_trans HBs.out hk7.size) ⟨A, c, rfl, HSI.out.on (hk7.1) (Nat.le_refl _)⟩ HSC.out hn
 rw [← HX.out] at hpi
 have q0 := hQ7.cell
 have q2 : w7.cell? ⟨w.heap.size + 1, 1, none⟩ = some (.slice A rs.length c) := hR7.cell rfl
 have HK7 := Lib.hid hk7
 clear a1 a2 a3 a4 hk7 hQ7 hR7 hS8 hS9 hput hKw7
 have hfs : (S ++ prtL [⟨1, [99, 108, 97, 115, 115], 0, 0⟩, ⟨1, nm, 0, 0⟩]) ++ prtL X = S ++ prtL Y := by rw [HY.out, prtL_app, List.append_assoc]
 have hft : (T + [(⟨1, [99, 108, 97, 115, 115], 0, 0⟩ : Tok), ⟨1, nm, 0, 0⟩].length) + X.length = T + Y.length := by rw [HY.out]; simp only [List.length_append]; omega
 rw [hfs, hft] at hpi
 clear hfs hft
 go_wp2_with fail
 refine hpi.mono ?_
 rintro e w8 (⟨a1, a2, rfl, a3, a4⟩ | ⟨a1, rfl, a2⟩)
 rotate_left
 ·exact ⟨rfl, .inr ⟨long_more a1 (by rw [HLL.out.2]; exact Nat.le_refl _) (by omega), rfl, (HKW.out.1.trans HK7.out.1).trans a2⟩⟩
 have hk8 : Kp B P w w8 := (HKW.out.trans HK7.out).trans a4
 have hQ8 : One w8 w.heap.size 96 (.pointer (some ⟨P, 0, none⟩)) := (HK7.out.trans a4).heap HQ.out hQP (by decide)
 have hen := putEnd_any w8 B P _ _ a3 (by rw [HY.out]; simp [prtL, prt]; omega) a1 a2 (fun w' h' => HG.out w' (hk8.1.trans h')) (Nat.le_trans hB hk8.size)
 rw [HLL.out.1] at hen
 have q9 := hQ8.cell
 have HK8 := Lib.hid hk8
 clear a1 a2 a3 a4 hk8 hQ8 hpi q0 q2
 go_wp2_with fail
 refine hen.mono ?_
 rintro e w9 (⟨a1, a2, rfl, a3, a4⟩ | ⟨a1, rfl, a2⟩)
 rotate_left
 ·exact ⟨rfl, .inr ⟨a1, rfl, HK8.out.1.trans a2⟩⟩
 have HZ := Lib.hid (And.intro a1 (And.intro a2 (And.intro a3 (HK8.out.trans a4))))
 clear a1 a2 a3 a4 hen q9
 go_wp2
 go_end0
 exact .inl ⟨HZ.out.1, HZ.out.2.1, rfl, HZ.out.2.2.1, HZ.out.2.2.2⟩
end Go.Proofs.YthaibekbefndlaaGreatDoor.C

namespace Go.Proofs.YthaibekbefndlaaGreatDoor.C
open Go.RowKit

set_option maxRecDepth 100000 in
set_option maxHeartbeats 2000000 in
theorem item_name (w : World) (nm : List UInt8) (A : Option Addr) (n c : Nat) (s : Int) (h : nm ≠ []) :
  Calls Tryz.prog 91 #[.agg #[.string (str nm), .slice A n c, .int .i64 s]] w fun e w' => e = .returned (.agg #[.int .u8 5, .string (str nm), .int .i64 0, .int .i64 0]) ∧ Below w.heap.size w w' := by
 have hem : (str nm).toList.isEmpty = false := by
  rw [str_empty]
  cases hq : nm with
  | nil => exact absurd hq h
  | cons => rfl
 clear h
 go_enter Tryz.func91, Tryz.ntmps91
 go_wp2
 refine bodyPost_ret (v := .agg #[.int .u8 5, .string (str nm), .int .i64 0, .int .i64 0]) (by simp [results, Tryz.results91, go_sem, *]) rfl ?_
 exact ⟨rfl, ((Below.refl _ _).alloc (Nat.le_refl _) _).alloc (by simp) _⟩
set_option maxRecDepth 100000 in
set_option maxHeartbeats 2000000 in
theorem item_one (w : World) (B : Nat) (A : Option Addr) (c : Nat) (s : Int) (a : Nat) (h : RI .i32 w B A 1 [(a : Int)]) (hB : B ≤ w.heap.size) (ha : a ≤ 1114111) :
  Calls Tryz.prog 91 #[.agg #[.string (str []), .slice A 1 c, .int .i64 s]] w fun e w' => e = .returned (.agg #[.int .u8 3, .string ⟨#[]⟩, .int .i64 a, .int .i64 0]) ∧ Below w.heap.size w w' := by
 obtain ⟨ad, u, rfl, hbl, hu, hc⟩ := h.at_ (k := 0) (by omega)
 have hu' : u = (a : Int) := (Option.some.inj hu).symm
 subst hu'
 rw [Addr.add_zero'] at hc
 have hem : (str []).toList.isEmpty = true := by rw [str_empty]; rfl
 obtain ⟨W, hW⟩ : ∃ W, W = (w.alloc (.cells #[.string (str []), .slice (some ad) 1 c, .int .i64 s] 34)).alloc (.cells #[.int .u8 0, .string ⟨#[]⟩, .int .i64 0, .int .i64 0] 92) := ⟨_, rfl⟩
 have hbW : Below w.heap.size w W := by rw [hW]; exact ((Below.refl _ _).alloc (Nat.le_refl _) _).alloc (by simp) _
 have hR : Rw W (w.heap.size + 1) 92 #[.int .u8 0, .string ⟨#[]⟩, .int .i64 0, .int .i64 0] := by
  have hs : (w.alloc (.cells #[.string (str []), .slice (some ad) 1 c, .int .i64 s] 34)).heap.size = w.heap.size + 1 := by simp
  show W.heap[w.heap.size + 1]? = _
  rw [hW, ← hs]
  exact heap_alloc_new _ _
 have hq : W.cell? ad = some (.int .i32 (a : Int)) := (hbW.cell (p := ad) (by omega)).trans hc
 have hsc := scalar_any7 W (a : Int) (by omega) (by omega)
 have HB := Lib.hid hbW
 have HR := Lib.hid hR
 rw [hW] at hq
 clear h hu hbl hbW hR
 go_enter Tryz.func91, Tryz.ntmps91
 go_wp2_with fail
 rw [← hW]
 refine hsc.mono ?_
 rintro e w2 ⟨rfl, hb2⟩
 have hR2 : Rw w2 (w.heap.size + 1) 92 #[.int .u8 0, .string ⟨#[]⟩, .int .i64 0, .int .i64 0] := HR.out.on hb2 HR.out.lt
 have HB2 := Lib.hid (HB.out.trans (hb2.mono HB.out.size))
 have p0 : w2.cell? ⟨w.heap.size + 1, 0, none⟩ = some (.int .u8 0) := hR2.cell rfl
 have p1 : w2.cell? ⟨w.heap.size + 1, 1, none⟩ = some (.string ⟨#[]⟩) := hR2.cell rfl
 have p2 : w2.cell? ⟨w.heap.size + 1, 2, none⟩ = some (.int .i64 0) := hR2.cell rfl
 have p3 : w2.cell? ⟨w.heap.size + 1, 3, none⟩ = some (.int .i64 0) := hR2.cell rfl
 have fz : ∀ i, w2.frozen? ⟨w.heap.size + 1, i, none⟩ = false := fun i => by simp [World.frozen?, show w2.heap[w.heap.size + 1]? = _ from hR2]
 have f0 := fz 0
 have f1 := fz 1
 have f2 := fz 2
 have f3 := fz 3
 clear hsc hb2 hW hq
 go_wp2
 obtain ⟨W4, hW4⟩ : ∃ W4, W4 = ((((w2.setCell ⟨w.heap.size + 1, 0, none⟩ (.int .u8 3)).setCell ⟨w.heap.size + 1, 1, none⟩ (.string ⟨#[]⟩)).setCell ⟨w.heap.size + 1, 2, none⟩ (.int .i64 a)).setCell ⟨w.heap.size + 1, 3, none⟩ (.int .i64 0)) := ⟨_, rfl⟩
 have hR4 : Rw W4 (w.heap.size + 1) 92 #[.int .u8 3, .string ⟨#[]⟩, .int .i64 a, .int .i64 0] := by
  rw [hW4]
  exact set_row (i := 3) (l := [_, _, _, _]) (set_row (i := 2) (l := [_, _, _, _]) (set_row (i := 1) (l := [_, _, _, _]) (set_row (i := 0) (l := [_, _, _, _]) hR2 (.int .u8 3)) (.string ⟨#[]⟩)) (.int .i64 a)) (.int .i64 0)
 have hb4 : Below w.heap.size w W4 := by
  rw [hW4]
  exact (((HB2.out.setCell (p := ⟨w.heap.size + 1, 0, none⟩) (Nat.le_succ _) _).setCell (p := ⟨w.heap.size + 1, 1, none⟩) (Nat.le_succ _) _).setCell (p := ⟨w.heap.size + 1, 2, none⟩) (Nat.le_succ _) _).setCell (p := ⟨w.heap.size + 1, 3, none⟩) (Nat.le_succ _) _
 rw [← hW4]
 have d0 : W4.cell? ⟨w.heap.size + 1, 0, none⟩ = some (.int .u8 3) := hR4.cell rfl
 have d1 : W4.cell? ⟨w.heap.size + 1, 1, none⟩ = some (.string ⟨#[]⟩) := hR4.cell rfl
 have d2 : W4.cell? ⟨w.heap.size + 1, 2, none⟩ = some (.int .i64 a) := hR4.cell rfl
 have d3 : W4.cell? ⟨w.heap.size + 1, 3, none⟩ = some (.int .i64 0) := hR4.cell rfl
 clear hW4 hR4 p0 p1 p2 p3 fz f0 f1 f2 f3 hR2
 refine bodyPost_ret (v := .agg #[.int .u8 3, .string ⟨#[]⟩, .int .i64 a, .int .i64 0]) (by simp [results, Tryz.results91, go_sem, *]) rfl ?_
 exact ⟨rfl, hb4⟩
end Go.Proofs.YthaibekbefndlaaGreatDoor.C

namespace Go.Proofs.YthaibekbefndlaaGreatDoor.C
open Go.RowKit

def ItemOk (e : Elm) : Prop := e.name = [] → ∃ a : Nat, e.cells = [(a : Int)] ∧ a ≤ 1114111
theorem item_any (w : World) (B : Nat) (A : Option Addr) (c : Nat) (e : Elm) (h : RI .i32 w B A e.cells.length e.cells) (hB : B ≤ w.heap.size) (hok : ItemOk e) :
  Calls Tryz.prog 91 #[.agg #[.string (str e.name), .slice A e.cells.length c, .int .i64 e.same]] w fun r w' => r = .returned (tkV (itemT e)) ∧ Below w.heap.size w w' := by
 obtain ⟨nm, cs, s⟩ := e
 by_cases h0 : nm = []
 ·subst h0
  obtain ⟨a, ha, hb⟩ := hok rfl
  have ha' : cs = [(a : Int)] := ha
  subst ha'
  have hi : itemT ⟨[], [(a : Int)], s⟩ = ⟨3, [], a, 0⟩ := by unfold itemT; rw [if_pos rfl]; exact tC_nat a
  rw [hi]
  exact item_one w B A c s a h hB hb
 ·have hi : itemT ⟨nm, cs, s⟩ = ⟨5, nm, 0, 0⟩ := by unfold itemT; rw [if_neg h0]; rfl
  rw [hi]
  exact item_name w nm A cs.length c s h0
theorem itemT_kind (e : Elm) : (itemT e).k ≠ 6 := by unfold itemT; split <;> simp [tC, tN]
end Go.Proofs.YthaibekbefndlaaGreatDoor.C
