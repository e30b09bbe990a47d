/-
  Joined: LdM. Each with what its own head says.
-/
import Derived.Test.YthaibekbefndlaaGreatDoorH23

namespace Go.Proofs.YthaibekbefndlaaGreatDoor.C
open Go.RowKit

set_option maxRecDepth 100000 in
set_option maxHeartbeats 4000000 in
theorem lines_any (w : World) (R : Nat) : Calls Tryz.prog 36 #[.pointer (some ⟨R, 0, none⟩)] w fun e w' => ∃ q : Pl, q.R = R ∧ e = .returned (.map (some q.ML)) ∧ LnI w ⟨true, true, true, true, true, true, true, true, true⟩ q (.map (some q.ML)) q.f1 q.f2 q.f3 w' := by
 have hmf : ∀ (fn : Fn) (first cap : Array Value) (w : World), (Instr.makeFunc fn first cap).run Tryz.prog w = .ok (.func fn first cap) w := fun _ _ _ _ => rfl
 have hmm := @run_makeMap Tryz.prog
 go_enter Tryz.func36, Tryz.ntmps36
 go_wp2_with fail
 refine wp_region_held (S := fun _ => True) (by kernel_rfl) ?_
 change wpAnyH _ _ _ _ _ _ _ _ w.drew
 have hS : (fun _ : World => True) w.drew := trivial
 refine wpAnyH_take (i := 1) (oi := ?oi1) (v := ?v1) ?hi1 (by kernel_rfl) (by kernel_rfl) (by kernel_rfl) ?hq1 (Or.inl ⟨?hw1, ?hy1⟩) (by assumption) ?rest1
 case hi1 => exact rfl
 case hq1 => exact fun _ _ _ h => h
 case hw1 => rfl
 case hy1 => (intro x hx; (try dsimp only at hx); simp only [List.getElem_toArray, List.getElem_cons_succ, List.getElem_cons_zero]; go_split_ands; go_simp; try with_reducible rfl)
 try simp only [Act.put, List.setIfInBounds_toArray, List.set_cons_zero, List.set_cons_succ, List.getElem_toArray, List.getElem_cons_succ, List.getElem_cons_zero]
 refine wpAnyH_take (i := 4) (oi := ?oi4) (v := ?v4) ?hi4 (by kernel_rfl) (by kernel_rfl) (by kernel_rfl) ?hq4 (Or.inl ⟨?hw4, ?hy4⟩) (by assumption) ?rest4
 case hi4 => exact rfl
 case hq4 => exact fun _ _ _ h => h
 case hw4 => rfl
 case hy4 => (intro x hx; (try dsimp only at hx); simp only [List.getElem_toArray, List.getElem_cons_succ, List.getElem_cons_zero]; go_split_ands; go_simp; try with_reducible rfl)
 try simp only [Act.put, List.setIfInBounds_toArray, List.set_cons_zero, List.set_cons_succ, List.getElem_toArray, List.getElem_cons_succ, List.getElem_cons_zero]
 refine wpAnyH_take (i := 5) (oi := ?oi5) (v := ?v5) ?hi5 (by kernel_rfl) (by kernel_rfl) (by kernel_rfl) ?hq5 (Or.inl ⟨?hw5, ?hy5⟩) (by assumption) ?rest5
 case hi5 => exact rfl
 case hq5 => exact fun _ _ _ h => h
 case hw5 => rfl
 case hy5 => (intro x hx; (try dsimp only at hx); simp only [List.getElem_toArray, List.getElem_cons_succ, List.getElem_cons_zero]; go_split_ands; go_simp; try with_reducible rfl)
 try simp only [Act.put, List.setIfInBounds_toArray, List.set_cons_zero, List.set_cons_succ, List.getElem_toArray, List.getElem_cons_succ, List.getElem_cons_zero]
 refine wpAnyH_take (i := 6) (oi := ?oi6) (v := ?v6) ?hi6 (by kernel_rfl) (by kernel_rfl) (by kernel_rfl) ?hq6 (Or.inl ⟨?hw6, ?hy6⟩) (by assumption) ?rest6
 case hi6 => exact rfl
 case hq6 => exact fun _ _ _ h => h
 case hw6 => rfl
 case hy6 => (intro x hx; (try dsimp only at hx); simp only [List.getElem_toArray, List.getElem_cons_succ, List.getElem_cons_zero]; go_split_ands; go_simp; try with_reducible rfl)
 try simp only [Act.put, List.setIfInBounds_toArray, List.set_cons_zero, List.set_cons_succ, List.getElem_toArray, List.getElem_cons_succ, List.getElem_cons_zero]
 refine wpAnyH_take (i := 7) (oi := ?oi7) (v := ?v7) ?hi7 (by kernel_rfl) (by kernel_rfl) (by kernel_rfl) ?hq7 (Or.inl ⟨?hw7, ?hy7⟩) (by assumption) ?rest7
 case hi7 => exact rfl
 case hq7 => exact fun _ _ _ h => h
 case hw7 => rfl
 case hy7 => (intro x hx; (try dsimp only at hx); simp only [List.getElem_toArray, List.getElem_cons_succ, List.getElem_cons_zero]; go_split_ands; go_simp; try with_reducible rfl)
 try simp only [Act.put, List.setIfInBounds_toArray, List.set_cons_zero, List.set_cons_succ, List.getElem_toArray, List.getElem_cons_succ, List.getElem_cons_zero]
 refine wpAnyH_take (i := 8) (oi := ?oi8) (v := ?v8) ?hi8 (by kernel_rfl) (by kernel_rfl) (by kernel_rfl) ?hq8 (Or.inl ⟨?hw8, ?hy8⟩) (by assumption) ?rest8
 case hi8 => exact rfl
 case hq8 => exact fun _ _ _ h => h
 case hw8 => rfl
 case hy8 => (intro x hx; (try dsimp only at hx); simp only [List.getElem_toArray, List.getElem_cons_succ, List.getElem_cons_zero]; go_split_ands; go_simp; try with_reducible rfl)
 try simp only [Act.put, List.setIfInBounds_toArray, List.set_cons_zero, List.set_cons_succ, List.getElem_toArray, List.getElem_cons_succ, List.getElem_cons_zero]
 refine wpAnyH_take (i := 11) (oi := ?oi11) (v := ?v11) ?hi11 (by kernel_rfl) (by kernel_rfl) (by kernel_rfl) ?hq11 (Or.inl ⟨?hw11, ?hy11⟩) (by assumption) ?rest11
 case hi11 => exact rfl
 case hq11 => exact fun _ _ _ h => h
 case hw11 => rfl
 case hy11 => (intro x hx; (try dsimp only at hx); simp only [List.getElem_toArray, List.getElem_cons_succ, List.getElem_cons_zero]; go_split_ands; go_simp; try with_reducible rfl)
 try simp only [Act.put, List.setIfInBounds_toArray, List.set_cons_zero, List.set_cons_succ, List.getElem_toArray, List.getElem_cons_succ, List.getElem_cons_zero]
 refine wpAnyH_take (i := 12) (oi := ?oi12) (v := ?v12) ?hi12 (by kernel_rfl) (by kernel_rfl) (by kernel_rfl) ?hq12 (Or.inl ⟨?hw12, ?hy12⟩) (by assumption) ?rest12
 case hi12 => exact rfl
 case hq12 => exact fun _ _ _ h => h
 case hw12 => rfl
 case hy12 => (intro x hx; (try dsimp only at hx); simp only [List.getElem_toArray, List.getElem_cons_succ, List.getElem_cons_zero]; go_split_ands; go_simp; try with_reducible rfl)
 try simp only [Act.put, List.setIfInBounds_toArray, List.set_cons_zero, List.set_cons_succ, List.getElem_toArray, List.getElem_cons_succ, List.getElem_cons_zero]
 refine wpAnyH_take (i := 13) (oi := ?oi13) (v := ?v13) ?hi13 (by kernel_rfl) (by kernel_rfl) (by kernel_rfl) ?hq13 (Or.inl ⟨?hw13, ?hy13⟩) (by assumption) ?rest13
 case hi13 => exact rfl
 case hq13 => exact fun _ _ _ h => h
 case hw13 => rfl
 case hy13 => (intro x hx; (try dsimp only at hx); simp only [List.getElem_toArray, List.getElem_cons_succ, List.getElem_cons_zero]; go_split_ands; go_simp; try with_reducible rfl)
 try simp only [Act.put, List.setIfInBounds_toArray, List.set_cons_zero, List.set_cons_succ, List.getElem_toArray, List.getElem_cons_succ, List.getElem_cons_zero]
 refine wpAnyH_take (i := 14) (oi := ?oi14) (v := ?v14) ?hi14 (by kernel_rfl) (by kernel_rfl) (by kernel_rfl) ?hq14 (Or.inl ⟨?hw14, ?hy14⟩) (by assumption) ?rest14
 case hi14 => exact rfl
 case hq14 => exact fun _ _ _ h => h
 case hw14 => rfl
 case hy14 => (intro x hx; (try dsimp only at hx); simp only [List.getElem_toArray, List.getElem_cons_succ, List.getElem_cons_zero]; go_split_ands; go_simp; try with_reducible rfl)
 try simp only [Act.put, List.setIfInBounds_toArray, List.set_cons_zero, List.set_cons_succ, List.getElem_toArray, List.getElem_cons_succ, List.getElem_cons_zero]
 refine wpAnyH_take (i := 15) (oi := ?oi15) (v := ?v15) ?hi15 (by kernel_rfl) (by kernel_rfl) (by kernel_rfl) ?hq15 (Or.inl ⟨?hw15, ?hy15⟩) (by assumption) ?rest15
 case hi15 => exact rfl
 case hq15 => exact fun _ _ _ h => h
 case hw15 => rfl
 case hy15 => (intro x hx; (try dsimp only at hx); simp only [List.getElem_toArray, List.getElem_cons_succ, List.getElem_cons_zero]; go_split_ands; go_simp; try with_reducible rfl)
 try simp only [Act.put, List.setIfInBounds_toArray, List.set_cons_zero, List.set_cons_succ, List.getElem_toArray, List.getElem_cons_succ, List.getElem_cons_zero]
 refine wpAnyH_take (i := 18) (oi := ?oi18) (v := ?v18) ?hi18 (by kernel_rfl) (by kernel_rfl) (by kernel_rfl) ?hq18 (Or.inl ⟨?hw18, ?hy18⟩) (by assumption) ?rest18
 case hi18 => exact rfl
 case hq18 => exact fun _ _ _ h => h
 case hw18 => rfl
 case hy18 => (intro x hx; (try dsimp only at hx); simp only [List.getElem_toArray, List.getElem_cons_succ, List.getElem_cons_zero]; go_split_ands; go_simp; try with_reducible rfl)
 try simp only [Act.put, List.setIfInBounds_toArray, List.set_cons_zero, List.set_cons_succ, List.getElem_toArray, List.getElem_cons_succ, List.getElem_cons_zero]
 refine wpAnyH_take (i := 19) (oi := ?oi19) (v := ?v19) ?hi19 (by kernel_rfl) (by kernel_rfl) (by kernel_rfl) ?hq19 (Or.inl ⟨?hw19, ?hy19⟩) (by assumption) ?rest19
 case hi19 => exact rfl
 case hq19 => exact fun _ _ _ h => h
 case hw19 => rfl
 case hy19 => (intro x hx; (try dsimp only at hx); simp only [List.getElem_toArray, List.getElem_cons_succ, List.getElem_cons_zero]; go_split_ands; go_simp; try with_reducible rfl)
 try simp only [Act.put, List.setIfInBounds_toArray, List.set_cons_zero, List.set_cons_succ, List.getElem_toArray, List.getElem_cons_succ, List.getElem_cons_zero]
 refine wpAnyH_take (i := 21) (oi := ?oi21) (v := ?v21) ?hi21 (by kernel_rfl) (by kernel_rfl) (by kernel_rfl) ?hq21 (Or.inl ⟨?hw21, ?hy21⟩) (by assumption) ?rest21
 case hi21 => exact rfl
 case hq21 => exact fun _ _ _ h => h
 case hw21 => rfl
 case hy21 => (intro x hx; (try dsimp only at hx); simp only [List.getElem_toArray, List.getElem_cons_succ, List.getElem_cons_zero]; go_split_ands; go_simp; try with_reducible rfl)
 try simp only [Act.put, List.setIfInBounds_toArray, List.set_cons_zero, List.set_cons_succ, List.getElem_toArray, List.getElem_cons_succ, List.getElem_cons_zero]
 refine wpAnyH_take (i := 22) (oi := ?oi22) (v := ?v22) ?hi22 (by kernel_rfl) (by kernel_rfl) (by kernel_rfl) ?hq22 (Or.inl ⟨?hw22, ?hy22⟩) (by assumption) ?rest22
 case hi22 => exact rfl
 case hq22 => exact fun _ _ _ h => h
 case hw22 => rfl
 case hy22 => (intro x hx; (try dsimp only at hx); simp only [List.getElem_toArray, List.getElem_cons_succ, List.getElem_cons_zero]; go_split_ands; go_simp; try with_reducible rfl)
 try simp only [Act.put, List.setIfInBounds_toArray, List.set_cons_zero, List.set_cons_succ, List.getElem_toArray, List.getElem_cons_succ, List.getElem_cons_zero]
 refine wpAnyH_inv (LsI w R) ?step ?fin 9 0 _ _ _ ⟨⟨false, false, false, false, false, false, false, false, false⟩, ⟨0, 0, R, 0, 0, 0, 0, 0, 0, 0, 0, 0, 0, 0, 0, 0, 0, 0, 0⟩, undef, undef, undef, undef, rfl, rfl, by kernel_rfl, rfl, ?init⟩
 case init => exact ⟨⟨rfl, rfl, rfl, Nat.le_refl _, fun _ _ => rfl⟩, by simp, by simp, by simp, by simp, by simp, by simp, by simp, by simp, by simp, by simp, by simp⟩
 case fin =>
  rintro fuel listed a W ⟨f, q, x3, x5, x11, x17, hqR, hn, rfl, rfl, h⟩
  have hall : f = ⟨true, true, true, true, true, true, true, true, true⟩ := by
   obtain ⟨m, c1, c2, c3, i1, i2, i3, i4, i5⟩ := f
   cases m <;> cases c1 <;> cases c2 <;> cases c3 <;> cases i1 <;> cases i2 <;> cases i3 <;> cases i4 <;> cases i5 <;> first | rfl | exact absurd hn (by decide)
  subst hall
  obtain ⟨rfl, _⟩ := h.hm rfl
  obtain ⟨rfl, _⟩ := h.h1 rfl
  obtain ⟨rfl, _⟩ := h.h2 rfl
  obtain ⟨rfl, _⟩ := h.h3 rfl
  have H := Lib.hid h
  clear h hn hS
  unfold lsAct
  refine wpAnyH_one (i := 24) (by kernel_rfl) rfl (fun K hK => ?_)
  go_simp
  refine hK.out _ _ trivial (fun _ => ?_)
  refine wpAnyH_one (i := 25) (by kernel_rfl) rfl (fun K hK => ?_)
  go_simp
  refine hK.out _ _ trivial (fun _ => ?_)
  refine wpAnyH_done (by kernel_rfl) ?_ _
  go_wp2
  go_ret
  exact ⟨q, hqR, rfl, H.out⟩
 case step =>
  rintro n listed a W ⟨f, q, x3, x5, x11, x17, hqR, hn, rfl, rfl, h⟩
  have hr := ls_ready f
  refine ⟨?_, ?_⟩
  ·intro h0
   have h1 := hr.2
   have h2 : (f.left == 0) = false := by rw [← hn]; rfl
   rw [h2, Bool.false_or] at h1
   have h5 := congrArg List.isEmpty h0
   rw [Bool.not_eq_true'] at h1
   exact absurd (h1.symm.trans h5) (by simp)
  intro i hi
  have hok : f.ok i = true := List.all_eq_true.1 hr.1 i hi
  clear hr hi hS
  subst hqR
  unfold Fl.ok at hok
  split at hok
  ·have hm : f.m = false := by simpa using hok
   have z1 : f.i1 = false := by cases e : f.i1 with | false => rfl | true => exact absurd (h.o1 e).2 (by rw [hm]; simp)
   have z2 : f.i2 = false := by cases e : f.i2 with | false => rfl | true => exact absurd (h.o2 e).2 (by rw [hm]; simp)
   have z3 : f.i3 = false := by cases e : f.i3 with | false => rfl | true => exact absurd (h.o3 e).2 (by rw [hm]; simp)
   have z4 : f.i4 = false := by cases e : f.i4 with | false => rfl | true => exact absurd (h.o4 e) (by rw [hm]; simp)
   have z5 : f.i5 = false := by cases e : f.i5 with | false => rfl | true => exact absurd (h.o5 e) (by rw [hm]; simp)
   have hN := h.next ((Below.refl W.heap.size W).alloc (Nat.le_refl _) (.map #[] 0))
   have hL : LnI w { f with m := true } { q with ML := W.heap.size } (.map (some W.heap.size)) x5 x11 x17 (W.alloc (.map #[] 0)) := by
    refine ⟨hN.bel, fun _ => ⟨rfl, h.bel.size, [], MapIs.new W .string, ?_⟩, ?_, ?_, ?_, fun e => ⟨(h.o1 e).1, rfl⟩, fun e => ⟨(h.o2 e).1, rfl⟩, fun e => ⟨(h.o3 e).1, rfl⟩, fun _ => rfl, fun _ => rfl, h.p2, h.p3⟩
    ·intro k v
     simp [z1, z2, z3, z4, z5]
    ·intro e
     obtain ⟨a1, a2, a3, _⟩ := hN.h1 e
     have hlt := (h.h1 e).2.1.2.2.2.lt
     exact ⟨a1, a2, a3, fun _ => by show W.heap.size ≠ q.M1; omega⟩
    ·intro e
     obtain ⟨a1, a2, a3, _, a5⟩ := hN.h2 e
     have hlt := (h.h2 e).2.1.2.2.2.2.lt
     exact ⟨a1, a2, a3, fun _ => by show W.heap.size ≠ q.M2; omega, a5⟩
    ·intro e
     obtain ⟨a1, a2, a3, _, a5⟩ := hN.h3 e
     have hlt := (h.h3 e).2.1.2.2.2.2.lt
     exact ⟨a1, a2, a3, fun _ => by show W.heap.size ≠ q.M3; omega, a5⟩
   have HE : Hid (LsI w q.R n (({ f with m := true } : Fl).arr) (lsAct q.R (.map (some W.heap.size)) x5 x11 x17) (W.alloc (.map #[] 0))) := Lib.hid ⟨{ f with m := true }, { q with ML := W.heap.size }, _, _, _, _, rfl, (by obtain ⟨m, c1, c2, c3, i1, i2, i3, i4, i5⟩ := f; simp only at hm; subst hm; simp only [Fl.left, Bool.not_false, Bool.not_true, Bool.toNat_true, Bool.toNat_false] at hn ⊢; omega), rfl, rfl, hL⟩
   clear hL hN h
   refine wpOp_of rfl ?_
   unfold lsAct
   go_simp
   exact HE.out
  ·have hc : f.c1 = false := by simpa using hok
   have zc2 : f.c2 = false := by cases e : f.c2 with | false => rfl | true => exact absurd (h.p2 e) (by rw [hc]; simp)
   have zc3 : f.c3 = false := by cases e : f.c3 with | false => rfl | true => exact absurd (h.p3 e) (by rw [zc2]; simp)
   have zi1 : f.i1 = false := by cases e : f.i1 with | false => rfl | true => exact absurd (h.o1 e).1 (by rw [hc]; simp)
   have hca := classes_any W q.R
   refine wpOp_of rfl ?_
   unfold lsAct
   go_simp
   go_at_call 76
   with_reducible refine hca.mono ?_
   rintro e W' ⟨r1, a1, A1, M1, rfl, hcl, hM, hb⟩
   have hN := h.next hb
   have hs := h.bel.size
   have hL : LnI w { f with c1 := true } { q with r1 := r1, a1 := a1, A1 := A1, M1 := M1 } x3 (Pl.f1 { q with r1 := r1, a1 := a1, A1 := A1, M1 := M1 }) x11 x17 W' := by
    refine ⟨hN.bel, ?_, fun _ => ⟨rfl, hcl, by show w.heap.size ≤ M1; omega, ?_⟩, fun e => absurd e (by rw [show _ = false from zc2]; simp), fun e => absurd e (by rw [show _ = false from zc3]; simp), fun e => ⟨rfl, (h.o1 e).2⟩, h.o2, h.o3, h.o4, h.o5, fun _ => rfl, h.p3⟩
    ·intro e
     obtain ⟨a1, a2, l, hl, hp⟩ := hN.hm e
     refine ⟨a1, a2, l, hl, fun k v => (hp k v).trans ⟨?_, ?_⟩⟩
     ·rintro (e1|e2|e3|e4|e5)
      ·exact absurd e1.1 (by rw [zi1]; simp)
      ·exact .inr (.inl e2)
      ·exact .inr (.inr (.inl e3))
      ·exact .inr (.inr (.inr (.inl e4)))
      ·exact .inr (.inr (.inr (.inr (e5))))
     ·rintro (e1|e2|e3|e4|e5)
      ·exact absurd e1.1 (by rw [zi1]; simp)
      ·exact .inr (.inl e2)
      ·exact .inr (.inr (.inl e3))
      ·exact .inr (.inr (.inr (.inl e4)))
      ·exact .inr (.inr (.inr (.inr (e5))))
    ·intro e
     obtain ⟨_, _, l, hl, _⟩ := h.hm e
     have := hl.lt
     show q.ML ≠ M1
     omega
   exact ⟨{ f with c1 := true }, { q with r1 := r1, a1 := a1, A1 := A1, M1 := M1 }, _, _, _, _, rfl, (by obtain ⟨m, c1, c2, c3, i1, i2, i3, i4, i5⟩ := f; simp only at hc; subst hc; simp only [Fl.left, Bool.not_false, Bool.not_true, Bool.toNat_true, Bool.toNat_false] at hn ⊢; omega), rfl, rfl, hL⟩
  ·obtain ⟨⟨hm, hc⟩, hi⟩ : (f.m = true ∧ f.c1 = true) ∧ f.i1 = false := by simpa using hok
   obtain ⟨rfl, _, l, hl, hp⟩ := h.hm hm
   have hx := (h.h1 hc).1
   subst hx
   have hnk : (Value.string (str wClass)) ∉ l.map Prod.fst := by
    intro hin
    obtain ⟨⟨k, v⟩, hkv, hke⟩ := List.mem_map.1 hin
    simp only at hke
    subst hke
    rcases (hp _ _).1 hkv with ⟨e1, e2, _⟩ | ⟨e1, e2, _⟩ | ⟨e1, e2, _⟩ | ⟨e1, e2, _⟩ | ⟨e1, e2, _⟩
    ·exact absurd e1 (by rw [hi]; simp)
    ·exact absurd (str_inj (Value.string.inj e2)) (by decide)
    ·exact absurd (str_inj (Value.string.inj e2)) (by decide)
    ·exact absurd (str_inj (Value.string.inj e2)) (by decide)
    ·exact absurd (str_inj (Value.string.inj e2)) (by decide)
   obtain ⟨o, hrun, hl'⟩ := hl.put_new (P := Tryz.prog) Tryz.underlying89 Tryz.underlying9 (key := .string (str wClass)) (by first | trivial | rfl) hnk q.f1
   have hL : LnI w { f with i1 := true } q (.map (some q.ML)) q.f1 x11 x17 (putObj W q.ML o) := by
    refine LnI.put h hm hl hl' ?_ rfl rfl rfl rfl (fun _ => hc) (fun e => (h.o2 e).1) (fun e => (h.o3 e).1)
    intro k v
    rw [List.mem_append, List.mem_singleton, Prod.mk.injEq, hp k v]
    constructor
    ·rintro ((e1|e2|e3|e4|e5)|e)
     ·exact absurd e1.1 (by rw [hi]; simp)
     ·exact .inr (.inl e2)
     ·exact .inr (.inr (.inl e3))
     ·exact .inr (.inr (.inr (.inl e4)))
     ·exact .inr (.inr (.inr (.inr (e5))))
     ·exact .inl ⟨rfl, e⟩
    ·rintro (e1|e2|e3|e4|e5)
     ·exact .inr e1.2
     ·exact .inl (.inr (.inl e2))
     ·exact .inl (.inr (.inr (.inl e3)))
     ·exact .inl (.inr (.inr (.inr (.inl e4))))
     ·exact .inl (.inr (.inr (.inr (.inr (e5)))))
   have hrun2 : (Instr.mapUpdate 89 (.map (some q.ML)) (.string ⟨#[99, 108, 97, 115, 115]⟩) (q.f1)).run Tryz.prog W = .ok () (putObj W q.ML o) := hrun
   have HE : Hid (LsI w q.R n (({ f with i1 := true } : Fl).arr) (lsAct q.R (.map (some q.ML)) q.f1 x11 x17) (putObj W q.ML o)) := Lib.hid ⟨{ f with i1 := true }, _, _, _, _, _, rfl, (by obtain ⟨m, c1, c2, c3, i1, i2, i3, i4, i5⟩ := f; simp only at hi; subst hi; simp only [Fl.left, Bool.not_false, Bool.not_true, Bool.toNat_true, Bool.toNat_false] at hn ⊢; omega), rfl, rfl, hL⟩
   clear hL hl' hp hl h hrun
   refine wpOp_of rfl ?_
   unfold lsAct
   go_simp
   try (rw [hrun2]; go_simp)
   exact HE.out
  ·obtain ⟨hp1, hc⟩ : f.c1 = true ∧ f.c2 = false := by simpa using hok
   have zc3 : f.c3 = false := by cases e : f.c3 with | false => rfl | true => exact absurd (h.p3 e) (by rw [hc]; simp)
   have zi2 : f.i2 = false := by cases e : f.i2 with | false => rfl | true => exact absurd (h.o2 e).1 (by rw [hc]; simp)
   have hca := pairs_any W q.R 3
   refine wpOp_of rfl ?_
   unfold lsAct
   go_simp
   go_at_call 77
   with_reducible refine hca.mono ?_
   rintro e W' ⟨r2, a2, t2, A2, M2, rfl, hcl, hM, hb⟩
   have hN := h.next hb
   have hs := h.bel.size
   have hL : LnI w { f with c2 := true } { q with r2 := r2, a2 := a2, t2 := t2, A2 := A2, M2 := M2 } x3 x5 (Pl.f2 { q with r2 := r2, a2 := a2, t2 := t2, A2 := A2, M2 := M2 }) x17 W' := by
    refine ⟨hN.bel, ?_, hN.h1, fun _ => ⟨rfl, hcl, by show w.heap.size ≤ M2; omega, ?_, ?_⟩, fun e => absurd e (by rw [show _ = false from zc3]; simp), h.o1, fun e => ⟨rfl, (h.o2 e).2⟩, h.o3, h.o4, h.o5, fun _ => hp1, fun _ => rfl⟩
    ·intro e
     obtain ⟨a1, a2, l, hl, hp⟩ := hN.hm e
     refine ⟨a1, a2, l, hl, fun k v => (hp k v).trans ⟨?_, ?_⟩⟩
     ·rintro (e1|e2|e3|e4|e5)
      ·exact .inl e1
      ·exact absurd e2.1 (by rw [zi2]; simp)
      ·exact .inr (.inr (.inl e3))
      ·exact .inr (.inr (.inr (.inl e4)))
      ·exact .inr (.inr (.inr (.inr (e5))))
     ·rintro (e1|e2|e3|e4|e5)
      ·exact .inl e1
      ·exact absurd e2.1 (by rw [zi2]; simp)
      ·exact .inr (.inr (.inl e3))
      ·exact .inr (.inr (.inr (.inl e4)))
      ·exact .inr (.inr (.inr (.inr (e5))))
    ·intro e
     obtain ⟨_, _, l, hl, _⟩ := h.hm e
     have := hl.lt
     show q.ML ≠ M2
     omega
    ·have := (h.h1 hp1).2.1.2.2.2.lt
     show q.M1 ≠ M2
     omega
   exact ⟨{ f with c2 := true }, { q with r2 := r2, a2 := a2, t2 := t2, A2 := A2, M2 := M2 }, _, _, _, _, rfl, (by obtain ⟨m, c1, c2, c3, i1, i2, i3, i4, i5⟩ := f; simp only at hc; subst hc; simp only [Fl.left, Bool.not_false, Bool.not_true, Bool.toNat_true, Bool.toNat_false] at hn ⊢; omega), rfl, rfl, hL⟩
  ·obtain ⟨⟨hm, hc⟩, hi⟩ : (f.m = true ∧ f.c2 = true) ∧ f.i2 = false := by simpa using hok
   obtain ⟨rfl, _, l, hl, hp⟩ := h.hm hm
   have hx := (h.h2 hc).1
   subst hx
   have hnk : (Value.string (str wUpper)) ∉ l.map Prod.fst := by
    intro hin
    obtain ⟨⟨k, v⟩, hkv, hke⟩ := List.mem_map.1 hin
    simp only at hke
    subst hke
    rcases (hp _ _).1 hkv with ⟨e1, e2, _⟩ | ⟨e1, e2, _⟩ | ⟨e1, e2, _⟩ | ⟨e1, e2, _⟩ | ⟨e1, e2, _⟩
    ·exact absurd (str_inj (Value.string.inj e2)) (by decide)
    ·exact absurd e1 (by rw [hi]; simp)
    ·exact absurd (str_inj (Value.string.inj e2)) (by decide)
    ·exact absurd (str_inj (Value.string.inj e2)) (by decide)
    ·exact absurd (str_inj (Value.string.inj e2)) (by decide)
   obtain ⟨o, hrun, hl'⟩ := hl.put_new (P := Tryz.prog) Tryz.underlying89 Tryz.underlying9 (key := .string (str wUpper)) (by first | trivial | rfl) hnk q.f2
   have hL : LnI w { f with i2 := true } q (.map (some q.ML)) x5 q.f2 x17 (putObj W q.ML o) := by
    refine LnI.put h hm hl hl' ?_ rfl rfl rfl rfl (fun e => (h.o1 e).1) (fun _ => hc) (fun e => (h.o3 e).1)
    intro k v
    rw [List.mem_append, List.mem_singleton, Prod.mk.injEq, hp k v]
    constructor
    ·rintro ((e1|e2|e3|e4|e5)|e)
     ·exact .inl e1
     ·exact absurd e2.1 (by rw [hi]; simp)
     ·exact .inr (.inr (.inl e3))
     ·exact .inr (.inr (.inr (.inl e4)))
     ·exact .inr (.inr (.inr (.inr (e5))))
     ·exact .inr (.inl ⟨rfl, e⟩)
    ·rintro (e1|e2|e3|e4|e5)
     ·exact .inl (.inl e1)
     ·exact .inr e2.2
     ·exact .inl (.inr (.inr (.inl e3)))
     ·exact .inl (.inr (.inr (.inr (.inl e4))))
     ·exact .inl (.inr (.inr (.inr (.inr (e5)))))
   have hrun2 : (Instr.mapUpdate 89 (.map (some q.ML)) (.string ⟨#[116, 111, 117, 112, 112, 101, 114]⟩) (q.f2)).run Tryz.prog W = .ok () (putObj W q.ML o) := hrun
   have HE : Hid (LsI w q.R n (({ f with i2 := true } : Fl).arr) (lsAct q.R (.map (some q.ML)) x5 q.f2 x17) (putObj W q.ML o)) := Lib.hid ⟨{ f with i2 := true }, _, _, _, _, _, rfl, (by obtain ⟨m, c1, c2, c3, i1, i2, i3, i4, i5⟩ := f; simp only at hi; subst hi; simp only [Fl.left, Bool.not_false, Bool.not_true, Bool.toNat_true, Bool.toNat_false] at hn ⊢; omega), rfl, rfl, hL⟩
   clear hL hl' hp hl h hrun
   refine wpOp_of rfl ?_
   unfold lsAct
   go_simp
   try (rw [hrun2]; go_simp)
   exact HE.out
  ·obtain ⟨hp1, hc⟩ : f.c2 = true ∧ f.c3 = false := by simpa using hok
   have zi3 : f.i3 = false := by cases e : f.i3 with | false => rfl | true => exact absurd (h.o3 e).1 (by rw [hc]; simp)
   have hca := pairs_any W q.R 4
   refine wpOp_of rfl ?_
   unfold lsAct
   go_simp
   go_at_call 77
   with_reducible refine hca.mono ?_
   rintro e W' ⟨r3, a3, t3, A3, M3, rfl, hcl, hM, hb⟩
   have hN := h.next hb
   have hs := h.bel.size
   have hL : LnI w { f with c3 := true } { q with r3 := r3, a3 := a3, t3 := t3, A3 := A3, M3 := M3 } x3 x5 x11 (Pl.f3 { q with r3 := r3, a3 := a3, t3 := t3, A3 := A3, M3 := M3 }) W' := by
    refine ⟨hN.bel, ?_, hN.h1, hN.h2, fun _ => ⟨rfl, hcl, by show w.heap.size ≤ M3; omega, ?_, ?_, ?_⟩, h.o1, h.o2, fun e => ⟨rfl, (h.o3 e).2⟩, h.o4, h.o5, h.p2, fun _ => hp1⟩
    ·intro e
     obtain ⟨a1, a2, l, hl, hp⟩ := hN.hm e
     refine ⟨a1, a2, l, hl, fun k v => (hp k v).trans ⟨?_, ?_⟩⟩
     ·rintro (e1|e2|e3|e4|e5)
      ·exact .inl e1
      ·exact .inr (.inl e2)
      ·exact absurd e3.1 (by rw [zi3]; simp)
      ·exact .inr (.inr (.inr (.inl e4)))
      ·exact .inr (.inr (.inr (.inr (e5))))
     ·rintro (e1|e2|e3|e4|e5)
      ·exact .inl e1
      ·exact .inr (.inl e2)
      ·exact absurd e3.1 (by rw [zi3]; simp)
      ·exact .inr (.inr (.inr (.inl e4)))
      ·exact .inr (.inr (.inr (.inr (e5))))
    ·intro e
     obtain ⟨_, _, l, hl, _⟩ := h.hm e
     have := hl.lt
     show q.ML ≠ M3
     omega
    ·have := (h.h1 (h.p2 hp1)).2.1.2.2.2.lt
     show q.M1 ≠ M3
     omega
    ·have := (h.h2 hp1).2.1.2.2.2.2.lt
     show q.M2 ≠ M3
     omega
   exact ⟨{ f with c3 := true }, { q with r3 := r3, a3 := a3, t3 := t3, A3 := A3, M3 := M3 }, _, _, _, _, rfl, (by obtain ⟨m, c1, c2, c3, i1, i2, i3, i4, i5⟩ := f; simp only at hc; subst hc; simp only [Fl.left, Bool.not_false, Bool.not_true, Bool.toNat_true, Bool.toNat_false] at hn ⊢; omega), rfl, rfl, hL⟩
  ·obtain ⟨⟨hm, hc⟩, hi⟩ : (f.m = true ∧ f.c3 = true) ∧ f.i3 = false := by simpa using hok
   obtain ⟨rfl, _, l, hl, hp⟩ := h.hm hm
   have hx := (h.h3 hc).1
   subst hx
   have hnk : (Value.string (str wLower)) ∉ l.map Prod.fst := by
    intro hin
    obtain ⟨⟨k, v⟩, hkv, hke⟩ := List.mem_map.1 hin
    simp only at hke
    subst hke
    rcases (hp _ _).1 hkv with ⟨e1, e2, _⟩ | ⟨e1, e2, _⟩ | ⟨e1, e2, _⟩ | ⟨e1, e2, _⟩ | ⟨e1, e2, _⟩
    ·exact absurd (str_inj (Value.string.inj e2)) (by decide)
    ·exact absurd (str_inj (Value.string.inj e2)) (by decide)
    ·exact absurd e1 (by rw [hi]; simp)
    ·exact absurd (str_inj (Value.string.inj e2)) (by decide)
    ·exact absurd (str_inj (Value.string.inj e2)) (by decide)
   obtain ⟨o, hrun, hl'⟩ := hl.put_new (P := Tryz.prog) Tryz.underlying89 Tryz.underlying9 (key := .string (str wLower)) (by first | trivial | rfl) hnk q.f3
   have hL : LnI w { f with i3 := true } q (.map (some q.ML)) x5 x11 q.f3 (putObj W q.ML o) := by
    refine LnI.put h hm hl hl' ?_ rfl rfl rfl rfl (fun e => (h.o1 e).1) (fun e => (h.o2 e).1) (fun _ => hc)
    intro k v
    rw [List.mem_append, List.mem_singleton, Prod.mk.injEq, hp k v]
    constructor
    ·rintro ((e1|e2|e3|e4|e5)|e)
     ·exact .inl e1
     ·exact .inr (.inl e2)
     ·exact absurd e3.1 (by rw [hi]; simp)
     ·exact .inr (.inr (.inr (.inl e4)))
     ·exact .inr (.inr (.inr (.inr (e5))))
     ·exact .inr (.inr (.inl ⟨rfl, e⟩))
    ·rintro (e1|e2|e3|e4|e5)
     ·exact .inl (.inl e1)
     ·exact .inl (.inr (.inl e2))
     ·exact .inr e3.2
     ·exact .inl (.inr (.inr (.inr (.inl e4))))
     ·exact .inl (.inr (.inr (.inr (.inr (e5)))))
   have hrun2 : (Instr.mapUpdate 89 (.map (some q.ML)) (.string ⟨#[116, 111, 108, 111, 119, 101, 114]⟩) (q.f3)).run Tryz.prog W = .ok () (putObj W q.ML o) := hrun
   have HE : Hid (LsI w q.R n (({ f with i3 := true } : Fl).arr) (lsAct q.R (.map (some q.ML)) x5 x11 q.f3) (putObj W q.ML o)) := Lib.hid ⟨{ f with i3 := true }, _, _, _, _, _, rfl, (by obtain ⟨m, c1, c2, c3, i1, i2, i3, i4, i5⟩ := f; simp only at hi; subst hi; simp only [Fl.left, Bool.not_false, Bool.not_true, Bool.toNat_true, Bool.toNat_false] at hn ⊢; omega), rfl, rfl, hL⟩
   clear hL hl' hp hl h hrun
   refine wpOp_of rfl ?_
   unfold lsAct
   go_simp
   try (rw [hrun2]; go_simp)
   exact HE.out
  ·obtain ⟨hm, hi⟩ : f.m = true ∧ f.i4 = false := by simpa using hok
   obtain ⟨rfl, _, l, hl, hp⟩ := h.hm hm
   have hnk : (Value.string (str wElem)) ∉ l.map Prod.fst := by
    intro hin
    obtain ⟨⟨k, v⟩, hkv, hke⟩ := List.mem_map.1 hin
    simp only at hke
    subst hke
    rcases (hp _ _).1 hkv with ⟨e1, e2, _⟩ | ⟨e1, e2, _⟩ | ⟨e1, e2, _⟩ | ⟨e1, e2, _⟩ | ⟨e1, e2, _⟩
    ·exact absurd (str_inj (Value.string.inj e2)) (by decide)
    ·exact absurd (str_inj (Value.string.inj e2)) (by decide)
    ·exact absurd (str_inj (Value.string.inj e2)) (by decide)
    ·exact absurd e1 (by rw [hi]; simp)
    ·exact absurd (str_inj (Value.string.inj e2)) (by decide)
   obtain ⟨o, hrun, hl'⟩ := hl.put_new (P := Tryz.prog) Tryz.underlying89 Tryz.underlying9 (key := .string (str wElem)) (by first | trivial | rfl) hnk q.f4
   have hL : LnI w { f with i4 := true } q (.map (some q.ML)) x5 x11 x17 (putObj W q.ML o) := by
    refine LnI.put h hm hl hl' ?_ rfl rfl rfl rfl (fun e => (h.o1 e).1) (fun e => (h.o2 e).1) (fun e => (h.o3 e).1)
    intro k v
    rw [List.mem_append, List.mem_singleton, Prod.mk.injEq, hp k v]
    constructor
    ·rintro ((e1|e2|e3|e4|e5)|e)
     ·exact .inl e1
     ·exact .inr (.inl e2)
     ·exact .inr (.inr (.inl e3))
     ·exact absurd e4.1 (by rw [hi]; simp)
     ·exact .inr (.inr (.inr (.inr (e5))))
     ·exact .inr (.inr (.inr (.inl ⟨rfl, e⟩)))
    ·rintro (e1|e2|e3|e4|e5)
     ·exact .inl (.inl e1)
     ·exact .inl (.inr (.inl e2))
     ·exact .inl (.inr (.inr (.inl e3)))
     ·exact .inr e4.2
     ·exact .inl (.inr (.inr (.inr (.inr (e5)))))
   have hrun2 : (Instr.mapUpdate 89 (.map (some q.ML)) (.string ⟨#[99, 111, 108, 108, 97, 116, 105, 110, 103, 45, 101, 108, 101, 109, 101, 110, 116]⟩) (.func (.func 78) #[.pointer (some ⟨q.R, 0, none⟩)] #[])).run Tryz.prog W = .ok () (putObj W q.ML o) := hrun
   have HE : Hid (LsI w q.R n (({ f with i4 := true } : Fl).arr) (lsAct q.R (.map (some q.ML)) x5 x11 x17) (putObj W q.ML o)) := Lib.hid ⟨{ f with i4 := true }, _, _, _, _, _, rfl, (by obtain ⟨m, c1, c2, c3, i1, i2, i3, i4, i5⟩ := f; simp only at hi; subst hi; simp only [Fl.left, Bool.not_false, Bool.not_true, Bool.toNat_true, Bool.toNat_false] at hn ⊢; omega), rfl, rfl, hL⟩
   clear hL hl' hp hl h hrun
   refine wpOp_of rfl ?_
   unfold lsAct
   go_simp
   try (rw [hrun2]; go_simp)
   exact HE.out
  ·obtain ⟨hm, hi⟩ : f.m = true ∧ f.i5 = false := by simpa using hok
   obtain ⟨rfl, _, l, hl, hp⟩ := h.hm hm
   have hnk : (Value.string (str wOrder)) ∉ l.map Prod.fst := by
    intro hin
    obtain ⟨⟨k, v⟩, hkv, hke⟩ := List.mem_map.1 hin
    simp only at hke
    subst hke
    rcases (hp _ _).1 hkv with ⟨e1, e2, _⟩ | ⟨e1, e2, _⟩ | ⟨e1, e2, _⟩ | ⟨e1, e2, _⟩ | ⟨e1, e2, _⟩
    ·exact absurd (str_inj (Value.string.inj e2)) (by decide)
    ·exact absurd (str_inj (Value.string.inj e2)) (by decide)
    ·exact absurd (str_inj (Value.string.inj e2)) (by decide)
    ·exact absurd (str_inj (Value.string.inj e2)) (by decide)
    ·exact absurd e1 (by rw [hi]; simp)
   obtain ⟨o, hrun, hl'⟩ := hl.put_new (P := Tryz.prog) Tryz.underlying89 Tryz.underlying9 (key := .string (str wOrder)) (by first | trivial | rfl) hnk q.f5
   have hL : LnI w { f with i5 := true } q (.map (some q.ML)) x5 x11 x17 (putObj W q.ML o) := by
    refine LnI.put h hm hl hl' ?_ rfl rfl rfl rfl (fun e => (h.o1 e).1) (fun e => (h.o2 e).1) (fun e => (h.o3 e).1)
    intro k v
    rw [List.mem_append, List.mem_singleton, Prod.mk.injEq, hp k v]
    constructor
    ·rintro ((e1|e2|e3|e4|e5)|e)
     ·exact .inl e1
     ·exact .inr (.inl e2)
     ·exact .inr (.inr (.inl e3))
     ·exact .inr (.inr (.inr (.inl e4)))
     ·exact absurd e5.1 (by rw [hi]; simp)
     ·exact .inr (.inr (.inr (.inr (⟨rfl, e⟩))))
    ·rintro (e1|e2|e3|e4|e5)
     ·exact .inl (.inl e1)
     ·exact .inl (.inr (.inl e2))
     ·exact .inl (.inr (.inr (.inl e3)))
     ·exact .inl (.inr (.inr (.inr (.inl e4))))
     ·exact .inr e5.2
   have hrun2 : (Instr.mapUpdate 89 (.map (some q.ML)) (.string ⟨#[111, 114, 100, 101, 114]⟩) (.func (.func 79) #[.pointer (some ⟨q.R, 0, none⟩)] #[])).run Tryz.prog W = .ok () (putObj W q.ML o) := hrun
   have HE : Hid (LsI w q.R n (({ f with i5 := true } : Fl).arr) (lsAct q.R (.map (some q.ML)) x5 x11 x17) (putObj W q.ML o)) := Lib.hid ⟨{ f with i5 := true }, _, _, _, _, _, rfl, (by obtain ⟨m, c1, c2, c3, i1, i2, i3, i4, i5⟩ := f; simp only at hi; subst hi; simp only [Fl.left, Bool.not_false, Bool.not_true, Bool.toNat_true, Bool.toNat_false] at hn ⊢; omega), rfl, rfl, hL⟩
   clear hL hl' hp hl h hrun
   refine wpOp_of rfl ?_
   unfold lsAct
   go_simp
   try (rw [hrun2]; go_simp)
   exact HE.out
  ·exact absurd (by simpa using hok) (show ¬ f.left = 0 by omega)
  ·exact absurd (by simpa using hok) (show ¬ f.left = 0 by omega)
  ·exact absurd hok (by simp)
end Go.Proofs.YthaibekbefndlaaGreatDoor.C
