/-
  Joined: LdM, LeF, LfC. Each with what its own head says.
-/
import Derived.Test.YthaibekbefndlaaGreatDoorZ18
import Derived.Test.YthaibekbefndlaaGreatDoorZ19

namespace Go.Proofs.YthaibekbefndlaaGreatDoor.C
open Go.RowKit

set_option maxRecDepth 100000 in
set_option maxHeartbeats 4000000 in
theorem lines_any (w : World) (R : Nat) : Calls Tryz.prog 36 #[.pointer (some ⟨R, 0, none⟩)] w fun e w' => ∃ q : Pl, q.R = R ∧ e = .returned (.map (some q.ML)) ∧ LnI w ⟨true, true, true, true, true, true, true, true, true⟩ q (.map (some q.ML)) q.f1 q.f2 q.f3 w' := by
 have hmf : ∀ (fn : Fn) (first cap : Array Value) (w : World), (Instr.makeFunc fn first cap).run Tryz.prog w = .ok (.func fn first cap) w := fun _ _ _ _ => rfl
 have hmm := @run_makeMap Tryz.prog
 go_enter Tryz.func36, Tryz.ntmps36
 go_wp2_with fail
 refine wp_region_held (S := fun _ => True) (by kernel_rfl) ?_
 change wpAnyH _ _ _ _ _ _ _ _ w.drew
 have hS : (fun _ : World => True) w.drew := trivial
 refine wpHn 1 rfl ?_
 try simp only [Act.put, g1, g2, g3, g4, g5, g6]
 refine wpHn 4 rfl ?_
 try simp only [Act.put, g1, g2, g3, g4, g5, g6]
 refine wpHn 5 rfl ?_
 try simp only [Act.put, g1, g2, g3, g4, g5, g6]
 refine wpHn 6 rfl ?_
 try simp only [Act.put, g1, g2, g3, g4, g5, g6]
 refine wpHn 7 rfl ?_
 try simp only [Act.put, g1, g2, g3, g4, g5, g6]
 refine wpHn 8 rfl ?_
 try simp only [Act.put, g1, g2, g3, g4, g5, g6]
 refine wpHn 11 rfl ?_
 try simp only [Act.put, g1, g2, g3, g4, g5, g6]
 refine wpHn 12 rfl ?_
 try simp only [Act.put, g1, g2, g3, g4, g5, g6]
 refine wpHn 13 rfl ?_
 try simp only [Act.put, g1, g2, g3, g4, g5, g6]
 refine wpHn 14 rfl ?_
 try simp only [Act.put, g1, g2, g3, g4, g5, g6]
 refine wpHn 15 rfl ?_
 try simp only [Act.put, g1, g2, g3, g4, g5, g6]
 refine wpHn 18 rfl ?_
 try simp only [Act.put, g1, g2, g3, g4, g5, g6]
 refine wpHn 19 rfl ?_
 try simp only [Act.put, g1, g2, g3, g4, g5, g6]
 refine wpHn 21 rfl ?_
 try simp only [Act.put, g1, g2, g3, g4, g5, g6]
 refine wpHn 22 rfl ?_
 try simp only [Act.put, g1, g2, g3, g4, g5, g6]
 refine wpAnyH_inv (LsI w R) ?step ?fin 9 0 _ _ _ ⟨⟨false, false, false, false, false, false, false, false, false⟩, ⟨0, 0, R, 0, 0, 0, 0, 0, 0, 0, 0, 0, 0, 0, 0, 0, 0, 0, 0⟩, undef, undef, undef, undef, rfl, rfl, by kernel_rfl, rfl, ?init⟩
 case init => exact ⟨⟨rfl, rfl, rfl, Nat.le_refl _, fun _ _ => rfl⟩, by simp, by simp, by simp, by simp, by simp, by simp, by simp, by simp, by simp, by simp, by simp⟩
 case fin =>
  rintro fuel listed a W ⟨f, q, x3, x5, x11, x17, hqR, hn, rfl, rfl, h⟩
  have hall : f = ⟨true, true, true, true, true, true, true, true, true⟩ := by
   obtain ⟨m, c1, c2, c3, i1, i2, i3, i4, i5⟩ := f
   cases m <;> cases c1 <;> cases c2 <;> cases c3 <;> cases i1 <;> cases i2 <;> cases i3 <;> cases i4 <;> cases i5 <;> first | rfl | exact absurd hn (by decide)
  subst hall
  obtain ⟨rfl, _⟩ := h.hm rfl
  obtain ⟨rfl, _⟩ := h.h1 rfl
  obtain ⟨rfl, _⟩ := h.h2 rfl
  obtain ⟨rfl, _⟩ := h.h3 rfl
  have H := Lib.hid h
  clear h hn hS
  unfold lsAct
  refine wpAnyH_one (i := 24) (by kernel_rfl) rfl (fun K hK => ?_)
  go_simp
  refine hK.out _ _ trivial (fun _ => ?_)
  refine wpAnyH_one (i := 25) (by kernel_rfl) rfl (fun K hK => ?_)
  go_simp
  refine hK.out _ _ trivial (fun _ => ?_)
  refine wpAnyH_done (by kernel_rfl) ?_ _
  go_wp2
  go_ret
  exact ⟨q, hqR, rfl, H.out⟩
 case step =>
  rintro n listed a W ⟨f, q, x3, x5, x11, x17, hqR, hn, rfl, rfl, h⟩
  have hr := ls_ready f
  refine ⟨?_, ?_⟩
  ·intro h0
   have h1 := hr.2
   have h2 : (f.left == 0) = false := by rw [← hn]; rfl
   rw [h2, Bool.false_or] at h1
   have h5 := congrArg List.isEmpty h0
   rw [Bool.not_eq_true'] at h1
   exact absurd (h1.symm.trans h5) (by simp)
  intro i hi
  have hok : f.ok i = true := List.all_eq_true.1 hr.1 i hi
  clear hr hi hS
  subst hqR
  unfold Fl.ok at hok
  split at hok
  ·have hm : f.m = false := by simpa using hok
   have z1 : f.i1 = false := by cases e : f.i1 with | false => rfl | true => exact absurd (h.o1 e).2 (by rw [hm]; simp)
   have z2 : f.i2 = false := by cases e : f.i2 with | false => rfl | true => exact absurd (h.o2 e).2 (by rw [hm]; simp)
   have z3 : f.i3 = false := by cases e : f.i3 with | false => rfl | true => exact absurd (h.o3 e).2 (by rw [hm]; simp)
   have z4 : f.i4 = false := by cases e : f.i4 with | false => rfl | true => exact absurd (h.o4 e) (by rw [hm]; simp)
   have z5 : f.i5 = false := by cases e : f.i5 with | false => rfl | true => exact absurd (h.o5 e) (by rw [hm]; simp)
   have hN := h.next ((Below.refl W.heap.size W).alloc (Nat.le_refl _) (.map #[] 0))
   have hL : LnI w { f with m := true } { q with ML := W.heap.size } (.map (some W.heap.size)) x5 x11 x17 (W.alloc (.map #[] 0)) := by
    refine ⟨hN.bel, fun _ => ⟨rfl, h.bel.size, [], MapIs.new W .string, ?_⟩, ?_, ?_, ?_, fun e => ⟨(h.o1 e).1, rfl⟩, fun e => ⟨(h.o2 e).1, rfl⟩, fun e => ⟨(h.o3 e).1, rfl⟩, fun _ => rfl, fun _ => rfl, h.p2, h.p3⟩
    ·intro k v
     simp [z1, z2, z3, z4, z5]
    ·intro e
     obtain ⟨a1, a2, a3, _⟩ := hN.h1 e
     have hlt := (h.h1 e).2.1.2.2.2.lt
     exact ⟨a1, a2, a3, fun _ => by show W.heap.size ≠ q.M1; omega⟩
    ·intro e
     obtain ⟨a1, a2, a3, _, a5⟩ := hN.h2 e
     have hlt := (h.h2 e).2.1.2.2.2.2.lt
     exact ⟨a1, a2, a3, fun _ => by show W.heap.size ≠ q.M2; omega, a5⟩
    ·intro e
     obtain ⟨a1, a2, a3, _, a5⟩ := hN.h3 e
     have hlt := (h.h3 e).2.1.2.2.2.2.lt
     exact ⟨a1, a2, a3, fun _ => by show W.heap.size ≠ q.M3; omega, a5⟩
   have HE : Hid (LsI w q.R n (({ f with m := true } : Fl).arr) (lsAct q.R (.map (some W.heap.size)) x5 x11 x17) (W.alloc (.map #[] 0))) := Lib.hid ⟨{ f with m := true }, { q with ML := W.heap.size }, _, _, _, _, rfl, (by obtain ⟨m, c1, c2, c3, i1, i2, i3, i4, i5⟩ := f; simp only at hm; subst hm; simp only [Fl.left, Bool.not_false, Bool.not_true, Bool.toNat_true, Bool.toNat_false] at hn ⊢; omega), rfl, rfl, hL⟩
   clear hL hN h
   refine wpOp_of rfl ?_
   unfold lsAct
   go_simp
   exact HE.out
  ·have hc : f.c1 = false := by simpa using hok
   have zc2 : f.c2 = false := by cases e : f.c2 with | false => rfl | true => exact absurd (h.p2 e) (by rw [hc]; simp)
   have zc3 : f.c3 = false := by cases e : f.c3 with | false => rfl | true => exact absurd (h.p3 e) (by rw [zc2]; simp)
   have zi1 : f.i1 = false := by cases e : f.i1 with | false => rfl | true => exact absurd (h.o1 e).1 (by rw [hc]; simp)
   have hca := classes_any W q.R
   refine wpOp_of rfl ?_
   unfold lsAct
   go_simp
   go_at_call 76
   with_reducible refine hca.mono ?_
   rintro e W' ⟨r1, a1, A1, M1, rfl, hcl, hM, hb⟩
   have hN := h.next hb
   have hs := h.bel.size
   have hL : LnI w { f with c1 := true } { q with r1 := r1, a1 := a1, A1 := A1, M1 := M1 } x3 (Pl.f1 { q with r1 := r1, a1 := a1, A1 := A1, M1 := M1 }) x11 x17 W' := by
    refine ⟨hN.bel, ?_, fun _ => ⟨rfl, hcl, by show w.heap.size ≤ M1; omega, ?_⟩, fun e => absurd e (by rw [show _ = false from zc2]; simp), fun e => absurd e (by rw [show _ = false from zc3]; simp), fun e => ⟨rfl, (h.o1 e).2⟩, h.o2, h.o3, h.o4, h.o5, fun _ => rfl, h.p3⟩
    ·intro e
     obtain ⟨a1, a2, l, hl, hp⟩ := hN.hm e
     refine ⟨a1, a2, l, hl, fun k v => (hp k v).trans ⟨?_, ?_⟩⟩
     ·rintro (e1|e2|e3|e4|e5)
      ·exact absurd e1.1 (by rw [zi1]; simp)
      ·exact .inr (.inl e2)
      ·exact .inr (.inr (.inl e3))
      ·exact .inr (.inr (.inr (.inl e4)))
      ·exact .inr (.inr (.inr (.inr (e5))))
     ·rintro (e1|e2|e3|e4|e5)
      ·exact absurd e1.1 (by rw [zi1]; simp)
      ·exact .inr (.inl e2)
      ·exact .inr (.inr (.inl e3))
      ·exact .inr (.inr (.inr (.inl e4)))
      ·exact .inr (.inr (.inr (.inr (e5))))
    ·intro e
     obtain ⟨_, _, l, hl, _⟩ := h.hm e
     have := hl.lt
     show q.ML ≠ M1
     omega
   exact ⟨{ f with c1 := true }, { q with r1 := r1, a1 := a1, A1 := A1, M1 := M1 }, _, _, _, _, rfl, (by obtain ⟨m, c1, c2, c3, i1, i2, i3, i4, i5⟩ := f; simp only at hc; subst hc; simp only [Fl.left, Bool.not_false, Bool.not_true, Bool.toNat_true, Bool.toNat_false] at hn ⊢; omega), rfl, rfl, hL⟩
  ·obtain ⟨⟨hm, hc⟩, hi⟩ : (f.m = true ∧ f.c1 = true) ∧ f.i1 = false := by simpa using hok
   obtain ⟨rfl, _, l, hl, hp⟩ := h.hm hm
   have hx := (h.h1 hc).1
   subst hx
   have hnk : (Value.string (str wClass)) ∉ l.map Prod.fst := by
    intro hin
    obtain ⟨⟨k, v⟩, hkv, hke⟩ := List.mem_map.1 hin
    simp only at hke
    subst hke
    rcases (hp _ _).1 hkv with ⟨e1, e2, _⟩ | ⟨e1, e2, _⟩ | ⟨e1, e2, _⟩ | ⟨e1, e2, _⟩ | ⟨e1, e2, _⟩
    ·exact absurd e1 (by rw [hi]; simp)
    ·exact absurd (str_inj (Value.string.inj e2)) (by decide)
    ·exact absurd (str_inj (Value.string.inj e2)) (by decide)
    ·exact absurd (str_inj (Value.string.inj e2)) (by decide)
    ·exact absurd (str_inj (Value.string.inj e2)) (by decide)
   obtain ⟨o, hrun, hl'⟩ := hl.put_new (P := Tryz.prog) Tryz.underlying89 Tryz.underlying9 (key := .string (str wClass)) (by first | trivial | rfl) hnk q.f1
   have hL : LnI w { f with i1 := true } q (.map (some q.ML)) q.f1 x11 x17 (putObj W q.ML o) := by
    refine LnI.put h hm hl hl' ?_ rfl rfl rfl rfl (fun _ => hc) (fun e => (h.o2 e).1) (fun e => (h.o3 e).1)
    intro k v
    rw [List.mem_append, List.mem_singleton, Prod.mk.injEq, hp k v]
    constructor
    ·rintro ((e1|e2|e3|e4|e5)|e)
     ·exact absurd e1.1 (by rw [hi]; simp)
     ·exact .inr (.inl e2)
     ·exact .inr (.inr (.inl e3))
     ·exact .inr (.inr (.inr (.inl e4)))
     ·exact .inr (.inr (.inr (.inr (e5))))
     ·exact .inl ⟨rfl, e⟩
    ·rintro (e1|e2|e3|e4|e5)
     ·exact .inr e1.2
     ·exact .inl (.inr (.inl e2))
     ·exact .inl (.inr (.inr (.inl e3)))
     ·exact .inl (.inr (.inr (.inr (.inl e4))))
     ·exact .inl (.inr (.inr (.inr (.inr (e5)))))
   have hrun2 : (Instr.mapUpdate 89 (.map (some q.ML)) (.string ⟨#[99, 108, 97, 115, 115]⟩) (q.f1)).run Tryz.prog W = .ok () (putObj W q.ML o) := hrun
   have HE : Hid (LsI w q.R n (({ f with i1 := true } : Fl).arr) (lsAct q.R (.map (some q.ML)) q.f1 x11 x17) (putObj W q.ML o)) := Lib.hid ⟨{ f with i1 := true }, _, _, _, _, _, rfl, (by obtain ⟨m, c1, c2, c3, i1, i2, i3, i4, i5⟩ := f; simp only at hi; subst hi; simp only [Fl.left, Bool.not_false, Bool.not_true, Bool.toNat_true, Bool.toNat_false] at hn ⊢; omega), rfl, rfl, hL⟩
   clear hL hl' hp hl h hrun
   refine wpOp_of rfl ?_
   unfold lsAct
   go_simp
   try (rw [hrun2]; go_simp)
   exact HE.out
  ·obtain ⟨hp1, hc⟩ : f.c1 = true ∧ f.c2 = false := by simpa using hok
   have zc3 : f.c3 = false := by cases e : f.c3 with | false => rfl | true => exact absurd (h.p3 e) (by rw [hc]; simp)
   have zi2 : f.i2 = false := by cases e : f.i2 with | false => rfl | true => exact absurd (h.o2 e).1 (by rw [hc]; simp)
   have hca := pairs_any W q.R 3
   refine wpOp_of rfl ?_
   unfold lsAct
   go_simp
   go_at_call 77
   with_reducible refine hca.mono ?_
   rintro e W' ⟨r2, a2, t2, A2, M2, rfl, hcl, hM, hb⟩
   have hN := h.next hb
   have hs := h.bel.size
   have hL : LnI w { f with c2 := true } { q with r2 := r2, a2 := a2, t2 := t2, A2 := A2, M2 := M2 } x3 x5 (Pl.f2 { q with r2 := r2, a2 := a2, t2 := t2, A2 := A2, M2 := M2 }) x17 W' := by
    refine ⟨hN.bel, ?_, hN.h1, fun _ => ⟨rfl, hcl, by show w.heap.size ≤ M2; omega, ?_, ?_⟩, fun e => absurd e (by rw [show _ = false from zc3]; simp), h.o1, fun e => ⟨rfl, (h.o2 e).2⟩, h.o3, h.o4, h.o5, fun _ => hp1, fun _ => rfl⟩
    ·intro e
     obtain ⟨a1, a2, l, hl, hp⟩ := hN.hm e
     refine ⟨a1, a2, l, hl, fun k v => (hp k v).trans ⟨?_, ?_⟩⟩
     ·rintro (e1|e2|e3|e4|e5)
      ·exact .inl e1
      ·exact absurd e2.1 (by rw [zi2]; simp)
      ·exact .inr (.inr (.inl e3))
      ·exact .inr (.inr (.inr (.inl e4)))
      ·exact .inr (.inr (.inr (.inr (e5))))
     ·rintro (e1|e2|e3|e4|e5)
      ·exact .inl e1
      ·exact absurd e2.1 (by rw [zi2]; simp)
      ·exact .inr (.inr (.inl e3))
      ·exact .inr (.inr (.inr (.inl e4)))
      ·exact .inr (.inr (.inr (.inr (e5))))
    ·intro e
     obtain ⟨_, _, l, hl, _⟩ := h.hm e
     have := hl.lt
     show q.ML ≠ M2
     omega
    ·have := (h.h1 hp1).2.1.2.2.2.lt
     show q.M1 ≠ M2
     omega
   exact ⟨{ f with c2 := true }, { q with r2 := r2, a2 := a2, t2 := t2, A2 := A2, M2 := M2 }, _, _, _, _, rfl, (by obtain ⟨m, c1, c2, c3, i1, i2, i3, i4, i5⟩ := f; simp only at hc; subst hc; simp only [Fl.left, Bool.not_false, Bool.not_true, Bool.toNat_true, Bool.toNat_false] at hn ⊢; omega), rfl, rfl, hL⟩
  ·obtain ⟨⟨hm, hc⟩, hi⟩ : (f.m = true ∧ f.c2 = true) ∧ f.i2 = false := by simpa using hok
   obtain ⟨rfl, _, l, hl, hp⟩ := h.hm hm
   have hx := (h.h2 hc).1
   subst hx
   have hnk : (Value.string (str wUpper)) ∉ l.map Prod.fst := by
    intro hin
    obtain ⟨⟨k, v⟩, hkv, hke⟩ := List.mem_map.1 hin
    simp only at hke
    subst hke
    rcases (hp _ _).1 hkv with ⟨e1, e2, _⟩ | ⟨e1, e2, _⟩ | ⟨e1, e2, _⟩ | ⟨e1, e2, _⟩ | ⟨e1, e2, _⟩
    ·exact absurd (str_inj (Value.string.inj e2)) (by decide)
    ·exact absurd e1 (by rw [hi]; simp)
    ·exact absurd (str_inj (Value.string.inj e2)) (by decide)
    ·exact absurd (str_inj (Value.string.inj e2)) (by decide)
    ·exact absurd (str_inj (Value.string.inj e2)) (by decide)
   obtain ⟨o, hrun, hl'⟩ := hl.put_new (P := Tryz.prog) Tryz.underlying89 Tryz.underlying9 (key := .string (str wUpper)) (by first | trivial | rfl) hnk q.f2
   have hL : LnI w { f with i2 := true } q (.map (some q.ML)) x5 q.f2 x17 (putObj W q.ML o) := by
    refine LnI.put h hm hl hl' ?_ rfl rfl rfl rfl (fun e => (h.o1 e).1) (fun _ => hc) (fun e => (h.o3 e).1)
    intro k v
    rw [List.mem_append, List.mem_singleton, Prod.mk.injEq, hp k v]
    constructor
    ·rintro ((e1|e2|e3|e4|e5)|e)
     ·exact .inl e1
     ·exact absurd e2.1 (by rw [hi]; simp)
     ·exact .inr (.inr (.inl e3))
     ·exact .inr (.inr (.inr (.inl e4)))
     ·exact .inr (.inr (.inr (.inr (e5))))
     ·exact .inr (.inl ⟨rfl, e⟩)
    ·rintro (e1|e2|e3|e4|e5)
     ·exact .inl (.inl e1)
     ·exact .inr e2.2
     ·exact .inl (.inr (.inr (.inl e3)))
     ·exact .inl (.inr (.inr (.inr (.inl e4))))
     ·exact .inl (.inr (.inr (.inr (.inr (e5)))))
   have hrun2 : (Instr.mapUpdate 89 (.map (some q.ML)) (.string ⟨#[116, 111, 117, 112, 112, 101, 114]⟩) (q.f2)).run Tryz.prog W = .ok () (putObj W q.ML o) := hrun
   have HE : Hid (LsI w q.R n (({ f with i2 := true } : Fl).arr) (lsAct q.R (.map (some q.ML)) x5 q.f2 x17) (putObj W q.ML o)) := Lib.hid ⟨{ f with i2 := true }, _, _, _, _, _, rfl, (by obtain ⟨m, c1, c2, c3, i1, i2, i3, i4, i5⟩ := f; simp only at hi; subst hi; simp only [Fl.left, Bool.not_false, Bool.not_true, Bool.toNat_true, Bool.toNat_false] at hn ⊢; omega), rfl, rfl, hL⟩
   clear hL hl' hp hl h hrun
   refine wpOp_of rfl ?_
   unfold lsAct
   go_simp
   try (rw [hrun2]; go_simp)
   exact HE.out
  ·obtain ⟨hp1, hc⟩ : f.c2 = true ∧ f.c3 = false := by simpa using hok
   have zi3 : f.i3 = false := by cases e : f.i3 with | false => rfl | true => exact absurd (h.o3 e).1 (by rw [hc]; simp)
   have hca := pairs_any W q.R 4
   refine wpOp_of rfl ?_
   unfold lsAct
   go_simp
   go_at_call 77
   with_reducible refine hca.mono ?_
   rintro e W' ⟨r3, a3, t3, A3, M3, rfl, hcl, hM, hb⟩
   have hN := h.next hb
   have hs := h.bel.size
   have hL : LnI w { f with c3 := true } { q with r3 := r3, a3 := a3, t3 := t3, A3 := A3, M3 := M3 } x3 x5 x11 (Pl.f3 { q with r3 := r3, a3 := a3, t3 := t3, A3 := A3, M3 := M3 }) W' := by
    refine ⟨hN.bel, ?_, hN.h1, hN.h2, fun _ => ⟨rfl, hcl, by show w.heap.size ≤ M3; omega, ?_, ?_, ?_⟩, h.o1, h.o2, fun e => ⟨rfl, (h.o3 e).2⟩, h.o4, h.o5, h.p2, fun _ => hp1⟩
    ·intro e
     obtain ⟨a1, a2, l, hl, hp⟩ := hN.hm e
     refine ⟨a1, a2, l, hl, fun k v => (hp k v).trans ⟨?_, ?_⟩⟩
     ·rintro (e1|e2|e3|e4|e5)
      ·exact .inl e1
      ·exact .inr (.inl e2)
      ·exact absurd e3.1 (by rw [zi3]; simp)
      ·exact .inr (.inr (.inr (.inl e4)))
      ·exact .inr (.inr (.inr (.inr (e5))))
     ·rintro (e1|e2|e3|e4|e5)
      ·exact .inl e1
      ·exact .inr (.inl e2)
      ·exact absurd e3.1 (by rw [zi3]; simp)
      ·exact .inr (.inr (.inr (.inl e4)))
      ·exact .inr (.inr (.inr (.inr (e5))))
    ·intro e
     obtain ⟨_, _, l, hl, _⟩ := h.hm e
     have := hl.lt
     show q.ML ≠ M3
     omega
    ·have := (h.h1 (h.p2 hp1)).2.1.2.2.2.lt
     show q.M1 ≠ M3
     omega
    ·have := (h.h2 hp1).2.1.2.2.2.2.lt
     show q.M2 ≠ M3
     omega
   exact ⟨{ f with c3 := true }, { q with r3 := r3, a3 := a3, t3 := t3, A3 := A3, M3 := M3 }, _, _, _, _, rfl, (by obtain ⟨m, c1, c2, c3, i1, i2, i3, i4, i5⟩ := f; simp only at hc; subst hc; simp only [Fl.left, Bool.not_false, Bool.not_true, Bool.toNat_true, Bool.toNat_false] at hn ⊢; omega), rfl, rfl, hL⟩
  ·obtain ⟨⟨hm, hc⟩, hi⟩ : (f.m = true ∧ f.c3 = true) ∧ f.i3 = false := by simpa using hok
   obtain ⟨rfl, _, l, hl, hp⟩ := h.hm hm
   have hx := (h.h3 hc).1
   subst hx
   have hnk : (Value.string (str wLower)) ∉ l.map Prod.fst := by
    intro hin
    obtain ⟨⟨k, v⟩, hkv, hke⟩ := List.mem_map.1 hin
    simp only at hke
    subst hke
    rcases (hp _ _).1 hkv with ⟨e1, e2, _⟩ | ⟨e1, e2, _⟩ | ⟨e1, e2, _⟩ | ⟨e1, e2, _⟩ | ⟨e1, e2, _⟩
    ·exact absurd (str_inj (Value.string.inj e2)) (by decide)
    ·exact absurd (str_inj (Value.string.inj e2)) (by decide)
    ·exact absurd e1 (by rw [hi]; simp)
    ·exact absurd (str_inj (Value.string.inj e2)) (by decide)
    ·exact absurd (str_inj (Value.string.inj e2)) (by decide)
   obtain ⟨o, hrun, hl'⟩ := hl.put_new (P := Tryz.prog) Tryz.underlying89 Tryz.underlying9 (key := .string (str wLower)) (by first | trivial | rfl) hnk q.f3
   have hL : LnI w { f with i3 := true } q (.map (some q.ML)) x5 x11 q.f3 (putObj W q.ML o) := by
    refine LnI.put h hm hl hl' ?_ rfl rfl rfl rfl (fun e => (h.o1 e).1) (fun e => (h.o2 e).1) (fun _ => hc)
    intro k v
    rw [List.mem_append, List.mem_singleton, Prod.mk.injEq, hp k v]
    constructor
    ·rintro ((e1|e2|e3|e4|e5)|e)
     ·exact .inl e1
     ·exact .inr (.inl e2)
     ·exact absurd e3.1 (by rw [hi]; simp)
     ·exact .inr (.inr (.inr (.inl e4)))
     ·exact .inr (.inr (.inr (.inr (e5))))
     ·exact .inr (.inr (.inl ⟨rfl, e⟩))
    ·rintro (e1|e2|e3|e4|e5)
     ·exact .inl (.inl e1)
     ·exact .inl (.inr (.inl e2))
     ·exact .inr e3.2
     ·exact .inl (.inr (.inr (.inr (.inl e4))))
     ·exact .inl (.inr (.inr (.inr (.inr (e5)))))
   have hrun2 : (Instr.mapUpdate 89 (.map (some q.ML)) (.string ⟨#[116, 111, 108, 111, 119, 101, 114]⟩) (q.f3)).run Tryz.prog W = .ok () (putObj W q.ML o) := hrun
   have HE : Hid (LsI w q.R n (({ f with i3 := true } : Fl).arr) (lsAct q.R (.map (some q.ML)) x5 x11 q.f3) (putObj W q.ML o)) := Lib.hid ⟨{ f with i3 := true }, _, _, _, _, _, rfl, (by obtain ⟨m, c1, c2, c3, i1, i2, i3, i4, i5⟩ := f; simp only at hi; subst hi; simp only [Fl.left, Bool.not_false, Bool.not_true, Bool.toNat_true, Bool.toNat_false] at hn ⊢; omega), rfl, rfl, hL⟩
   clear hL hl' hp hl h hrun
   refine wpOp_of rfl ?_
   unfold lsAct
   go_simp
   try (rw [hrun2]; go_simp)
   exact HE.out
  ·obtain ⟨hm, hi⟩ : f.m = true ∧ f.i4 = false := by simpa using hok
   obtain ⟨rfl, _, l, hl, hp⟩ := h.hm hm
   have hnk : (Value.string (str wElem)) ∉ l.map Prod.fst := by
    intro hin
    obtain ⟨⟨k, v⟩, hkv, hke⟩ := List.mem_map.1 hin
    simp only at hke
    subst hke
    rcases (hp _ _).1 hkv with ⟨e1, e2, _⟩ | ⟨e1, e2, _⟩ | ⟨e1, e2, _⟩ | ⟨e1, e2, _⟩ | ⟨e1, e2, _⟩
    ·exact absurd (str_inj (Value.string.inj e2)) (by decide)
    ·exact absurd (str_inj (Value.string.inj e2)) (by decide)
    ·exact absurd (str_inj (Value.string.inj e2)) (by decide)
    ·exact absurd e1 (by rw [hi]; simp)
    ·exact absurd (str_inj (Value.string.inj e2)) (by decide)
   obtain ⟨o, hrun, hl'⟩ := hl.put_new (P := Tryz.prog) Tryz.underlying89 Tryz.underlying9 (key := .string (str wElem)) (by first | trivial | rfl) hnk q.f4
   have hL : LnI w { f with i4 := true } q (.map (some q.ML)) x5 x11 x17 (putObj W q.ML o) := by
    refine LnI.put h hm hl hl' ?_ rfl rfl rfl rfl (fun e => (h.o1 e).1) (fun e => (h.o2 e).1) (fun e => (h.o3 e).1)
    intro k v
    rw [List.mem_append, List.mem_singleton, Prod.mk.injEq, hp k v]
    constructor
    ·rintro ((e1|e2|e3|e4|e5)|e)
     ·exact .inl e1
     ·exact .inr (.inl e2)
     ·exact .inr (.inr (.inl e3))
     ·exact absurd e4.1 (by rw [hi]; simp)
     ·exact .inr (.inr (.inr (.inr (e5))))
     ·exact .inr (.inr (.inr (.inl ⟨rfl, e⟩)))
    ·rintro (e1|e2|e3|e4|e5)
     ·exact .inl (.inl e1)
     ·exact .inl (.inr (.inl e2))
     ·exact .inl (.inr (.inr (.inl e3)))
     ·exact .inr e4.2
     ·exact .inl (.inr (.inr (.inr (.inr (e5)))))
   have hrun2 : (Instr.mapUpdate 89 (.map (some q.ML)) (.string ⟨#[99, 111, 108, 108, 97, 116, 105, 110, 103, 45, 101, 108, 101, 109, 101, 110, 116]⟩) (.func (.func 78) #[.pointer (some ⟨q.R, 0, none⟩)] #[])).run Tryz.prog W = .ok () (putObj W q.ML o) := hrun
   have HE : Hid (LsI w q.R n (({ f with i4 := true } : Fl).arr) (lsAct q.R (.map (some q.ML)) x5 x11 x17) (putObj W q.ML o)) := Lib.hid ⟨{ f with i4 := true }, _, _, _, _, _, rfl, (by obtain ⟨m, c1, c2, c3, i1, i2, i3, i4, i5⟩ := f; simp only at hi; subst hi; simp only [Fl.left, Bool.not_false, Bool.not_true, Bool.toNat_true, Bool.toNat_false] at hn ⊢; omega), rfl, rfl, hL⟩
   clear hL hl' hp hl h hrun
   refine wpOp_of rfl ?_
   unfold lsAct
   go_simp
   try (rw [hrun2]; go_simp)
   exact HE.out
  ·obtain ⟨hm, hi⟩ : f.m = true ∧ f.i5 = false := by simpa using hok
   obtain ⟨rfl, _, l, hl, hp⟩ := h.hm hm
   have hnk : (Value.string (str wOrder)) ∉ l.map Prod.fst := by
    intro hin
    obtain ⟨⟨k, v⟩, hkv, hke⟩ := List.mem_map.1 hin
    simp only at hke
    subst hke
    rcases (hp _ _).1 hkv with ⟨e1, e2, _⟩ | ⟨e1, e2, _⟩ | ⟨e1, e2, _⟩ | ⟨e1, e2, _⟩ | ⟨e1, e2, _⟩
    ·exact absurd (str_inj (Value.string.inj e2)) (by decide)
    ·exact absurd (str_inj (Value.string.inj e2)) (by decide)
    ·exact absurd (str_inj (Value.string.inj e2)) (by decide)
    ·exact absurd (str_inj (Value.string.inj e2)) (by decide)
    ·exact absurd e1 (by rw [hi]; simp)
   obtain ⟨o, hrun, hl'⟩ := hl.put_new (P := Tryz.prog) Tryz.underlying89 Tryz.underlying9 (key := .string (str wOrder)) (by first | trivial | rfl) hnk q.f5
   have hL : LnI w { f with i5 := true } q (.map (some q.ML)) x5 x11 x17 (putObj W q.ML o) := by
    refine LnI.put h hm hl hl' ?_ rfl rfl rfl rfl (fun e => (h.o1 e).1) (fun e => (h.o2 e).1) (fun e => (h.o3 e).1)
    intro k v
    rw [List.mem_append, List.mem_singleton, Prod.mk.injEq, hp k v]
    constructor
    ·rintro ((e1|e2|e3|e4|e5)|e)
     ·exact .inl e1
     ·exact .inr (.inl e2)
     ·exact .inr (.inr (.inl e3))
     ·exact .inr (.inr (.inr (.inl e4)))
     ·exact absurd e5.1 (by rw [hi]; simp)
     ·exact .inr (.inr (.inr (.inr (⟨rfl, e⟩))))
    ·rintro (e1|e2|e3|e4|e5)
     ·exact .inl (.inl e1)
     ·exact .inl (.inr (.inl e2))
     ·exact .inl (.inr (.inr (.inl e3)))
     ·exact .inl (.inr (.inr (.inr (.inl e4))))
     ·exact .inr e5.2
   have hrun2 : (Instr.mapUpdate 89 (.map (some q.ML)) (.string ⟨#[111, 114, 100, 101, 114]⟩) (.func (.func 79) #[.pointer (some ⟨q.R, 0, none⟩)] #[])).run Tryz.prog W = .ok () (putObj W q.ML o) := hrun
   have HE : Hid (LsI w q.R n (({ f with i5 := true } : Fl).arr) (lsAct q.R (.map (some q.ML)) x5 x11 x17) (putObj W q.ML o)) := Lib.hid ⟨{ f with i5 := true }, _, _, _, _, _, rfl, (by obtain ⟨m, c1, c2, c3, i1, i2, i3, i4, i5⟩ := f; simp only at hi; subst hi; simp only [Fl.left, Bool.not_false, Bool.not_true, Bool.toNat_true, Bool.toNat_false] at hn ⊢; omega), rfl, rfl, hL⟩
   clear hL hl' hp hl h hrun
   refine wpOp_of rfl ?_
   unfold lsAct
   go_simp
   try (rw [hrun2]; go_simp)
   exact HE.out
  ·exact absurd (by simpa using hok) (show ¬ f.left = 0 by omega)
  ·exact absurd (by simpa using hok) (show ¬ f.left = 0 by omega)
  ·exact absurd hok (by simp)
end Go.Proofs.YthaibekbefndlaaGreatDoor.C

namespace Go.Proofs.YthaibekbefndlaaGreatDoor.C
open Go.RowKit

def FnC (A : Nat) : Value := .func (.func 105) #[] #[.pointer (some ⟨A, 0, none⟩)]
def celV (ks : List Int) : List Value := ks.map fun n => .int .i32 n
theorem celV_in {ks : List Int} {n : Int} : Value.int .i32 n ∈ celV ks ↔ n ∈ ks := by
 unfold celV
 rw [List.mem_map]
 constructor
 ·rintro ⟨c, hc, he⟩
  injection he with _ he
  exact he ▸ hc
 ·intro h
  exact ⟨n, h, rfl⟩
theorem celV_snoc (ks : List Int) (n : Int) : celV ks ++ [.int .i32 n] = celV (ks ++ [n]) := by simp [celV]
def prOk (ks : List Int) (p : Int × Int) : Bool := scalB p.1 && scalB p.2 && !(ks.contains p.1)
theorem prOk_at {l : List (Int × Int)} {i : Nat} {p : Int × Int} (h : l[i]? = some p) : pairAt l i = prOk ((l.take i).map Prod.fst) p := by
 unfold pairAt prOk
 rw [h]
def RpTold (W : World) (A M : Nat) (ks : List Int) (p : Int × Int) (r : Bool) (e : Ending) (w' : World) : Prop := e = .returned (.bool r) ∧ (prOk ks p = true → FT w' 153 (.int .i32) A M (celV (ks ++ [p.1]))) ∧ Fr W w' (fun j => j = M)
set_option maxRecDepth 100000 in
set_option maxHeartbeats 4000000 in
theorem rightPairs1_any (W : World) (T3 A M : Nat) (ks : List Int) (p : Int × Int) (h3 : One W T3 111 (FnC A)) (hft : FT W 153 (.int .i32) A M (celV ks)) :
  Calls Tryz.prog 62 #[.agg #[.int .i32 p.1, .int .i32 p.2], .pointer (some ⟨T3, 0, none⟩)] W (RpTold W A M ks p (prOk ks p)) := by
 obtain ⟨a, b⟩ := p
 obtain ⟨W1, hW1⟩ : ∃ W1, W1 = W.alloc (.cells #[.int .i32 a, .int .i32 b] 49) := ⟨_, rfl⟩
 have hb1 : Below W.heap.size W W1 := by rw [hW1]; exact (Below.refl _ _).alloc (Nat.le_refl _) _
 have HB1 := Lib.hid hb1
 have HX1 : Hid (Two W1 W.heap.size 49 (.int .i32 a) (.int .i32 b)) := Lib.hid (by rw [hW1]; exact Two.new W _ _ _)
 have HFT1 : Hid (FT W1 153 (.int .i32) A M (celV ks)) := Lib.hid (hft.next (hb1.block _ hft.lt) (hb1.block _ hft.2.lt))
 have H31 : Hid (One W1 T3 111 (FnC A)) := Lib.hid ((hb1.block _ h3.lt).trans h3)
 have h1 := fun W => isScalar_any a W
 have h2 := fun W => isScalar_any b W
 obtain ⟨q2, q3⟩ := HX1.out.cells
 have q1 := H31.out.cell
 unfold FnC at q1
 rw [hW1] at q1 q2 q3
 unfold RpTold
 clear hb1 h3 hft
 cases ha : scalB a with
 | false =>
  rw [ha] at h1
  have hok : prOk ks (a, b) = false := by simp [prOk, ha]
  rw [hok]
  clear h2 ha hok
  go_enter Tryz.func62, Tryz.ntmps62
  go_wp2_with (go_at_call 63; with_reducible refine (h1 _).mono ?_; rintro e w' ⟨rfl, rfl⟩)
  go_ret
  rw [← hW1]
  exact ⟨rfl, by simp, .of_below HB1.out⟩
 | true =>
  rw [ha] at h1
  cases hb2 : scalB b with
  | false =>
   rw [hb2] at h2
   have hok : prOk ks (a, b) = false := by simp [prOk, hb2]
   rw [hok]
   clear ha hb2 hok
   go_enter Tryz.func62, Tryz.ntmps62
   go_wp2_with (first
    | (go_at_call 63; with_reducible refine (h1 _).mono ?_; rintro e w' ⟨rfl, rfl⟩)
    | (go_at_call 63; with_reducible refine (h2 _).mono ?_; rintro e w' ⟨rfl, rfl⟩))
   go_ret
   rw [← hW1]
   exact ⟨rfl, by simp, .of_below HB1.out⟩
  | true =>
   rw [hb2] at h2
   by_cases hin : a ∈ ks
   ·have hok : prOk ks (a, b) = false := by simp [prOk, hin]
    rw [hok]
    have hno := isNewC_no W1 A M (celV ks) a HFT1.out (celV_in.2 hin)
    rw [hW1] at hno
    have HNO := Lib.hid hno
    clear ha hb2 hok hin hno
    go_enter Tryz.func62, Tryz.ntmps62
    go_wp2_with (first
     | (go_at_call 63; with_reducible refine (h1 _).mono ?_; rintro e w' ⟨rfl, rfl⟩)
     | (go_at_call 63; with_reducible refine (h2 _).mono ?_; rintro e w' ⟨rfl, rfl⟩)
     | (go_at_call 105; refine HNO.out.mono ?_; rintro e w3 ⟨rfl, hg3⟩; (have HG3 := Lib.hid hg3); clear hg3))
    go_ret
    exact ⟨rfl, by simp, (Fr.of_below HB1.out).trans ((Fr.of_grown (by rw [hW1]; exact HG3.out)).mono (fun j _ e => by injection e with e; exact e.symm))⟩
   ·have hok : prOk ks (a, b) = true := by simp [prOk, ha, hb2, hin]
    rw [hok]
    have hyes := isNewC_yes W1 A M (celV ks) a HFT1.out (fun h => hin (celV_in.1 h))
    rw [hW1] at hyes
    have HYES := Lib.hid hyes
    clear ha hb2 hok hin hyes
    go_enter Tryz.func62, Tryz.ntmps62
    go_wp2_with (first
     | (go_at_call 63; with_reducible refine (h1 _).mono ?_; rintro e w' ⟨rfl, rfl⟩)
     | (go_at_call 63; with_reducible refine (h2 _).mono ?_; rintro e w' ⟨rfl, rfl⟩)
     | (go_at_call 105; refine HYES.out.mono ?_; rintro e w3 ⟨rfl, hf3, hg3⟩; (have HF3 := Lib.hid hf3); (have HG3 := Lib.hid hg3); clear hf3 hg3))
    go_ret
    refine ⟨rfl, fun _ => ?_, (Fr.of_below HB1.out).trans ((Fr.of_grown (by rw [hW1]; exact HG3.out)).mono (fun j _ e => by injection e with e; exact e.symm))⟩
    rw [← celV_snoc]
    exact HF3.out

set_option maxRecDepth 100000 in
set_option maxHeartbeats 2000000 in
theorem allPair1_any (W : World) (V0 T3 A M : Nat) (ks : List Int) (p : Int × Int) (hv : One W V0 121 (.func (.func 62) #[] #[.pointer (some ⟨T3, 0, none⟩)])) (h3 : One W T3 111 (FnC A)) (hft : FT W 153 (.int .i32) A M (celV ks)) :
  Calls Tryz.prog 107 #[.agg #[.int .i32 p.1, .int .i32 p.2], .pointer (some ⟨V0, 0, none⟩)] W (RpTold W A M ks p (!prOk ks p)) := by
 obtain ⟨W1, hW1⟩ : ∃ W1, W1 = W.alloc (.cells #[.int .i32 p.1, .int .i32 p.2] 49) := ⟨_, rfl⟩
 have hb1 : Below W.heap.size W W1 := by rw [hW1]; exact (Below.refl _ _).alloc (Nat.le_refl _) _
 have hi := rightPairs1_any W1 T3 A M ks p ((hb1.block _ h3.lt).trans h3) (hft.next (hb1.block _ hft.lt) (hb1.block _ hft.2.lt))
 have q0 := (show One W1 V0 _ _ from (hb1.block _ hv.lt).trans hv).cell
 obtain ⟨q1, q2⟩ := (show Two W1 W.heap.size 49 (.int .i32 p.1) (.int .i32 p.2) by rw [hW1]; exact Two.new W _ _ _).cells
 rw [hW1] at q0 q1 q2
 have HB1 := Lib.hid hb1
 unfold RpTold at hi
 clear hb1 h3 hft hv
 obtain ⟨b, hb⟩ : ∃ b, b = prOk ks p := ⟨_, rfl⟩
 unfold RpTold
 rw [← hb] at hi ⊢
 clear hb
 obtain ⟨pa, pb⟩ := p
 simp only at hi hW1 q0 q1 q2 ⊢
 go_enter Tryz.func107, Tryz.ntmps107
 go_wp2_with fail
 rw [← hW1]
 refine hi.mono ?_
 rintro e w2 ⟨rfl, hf2, hr2⟩
 have HE := Lib.hid (And.intro hf2 hr2)
 clear hf2 hr2 hi q0 q1 q2 hW1
 go_wp2
 go_ret
 exact ⟨rfl, HE.out.1, (Fr.of_below HB1.out).trans HE.out.2⟩
set_option maxRecDepth 100000 in
set_option maxHeartbeats 2000000 in
theorem rightPairs_any (w : World) (B : Nat) (v : Value) (l : List (Int × Int)) (h : PrsR w B v l) (hB : B ≤ w.heap.size) (hn : l.length ≤ maxLen) :
  Calls Tryz.prog 31 #[v] w fun e w' => e = .returned (.bool (pairsB l)) ∧ Below w.heap.size w w' := by
 obtain ⟨Ac, c, rfl, hsi⟩ := h
 have hmf : ∀ (fn : Fn) (first cap : Array Value) (w : World), (Instr.makeFunc fn first cap).run Tryz.prog w = .ok (.func fn first cap) w := fun _ _ _ _ => rfl
 have hst := @run_store_func Tryz.prog
 have hfs := firstC_any w
 have hall : ∀ (W : World) (T3 A M : Nat), Below w.heap.size w W → One W T3 111 (FnC A) → FT W 153 (.int .i32) A M [] → w.heap.size ≤ M →
   Calls Tryz.prog 61 #[.slice Ac l.length c, .func (.func 62) #[] #[.pointer (some ⟨T3, 0, none⟩)]] W fun e w' => e = .returned (.bool (pairsB l)) ∧ Below w.heap.size w w' := by
  intro W T3 A M hbW h3 hft hM
  obtain ⟨W1, hW1⟩ : ∃ W1, W1 = W.alloc (.cells #[.func (.func 62) #[] #[.pointer (some ⟨T3, 0, none⟩)]] 121) := ⟨_, rfl⟩
  have hb1 : Below W.heap.size W W1 := by rw [hW1]; exact (Below.refl _ _).alloc (Nat.le_refl _) _
  have hI0 : RcI w 153 (.int .i32) 111 (FnC A) 121 (.func (.func 62) #[] #[.pointer (some ⟨T3, 0, none⟩)]) W.heap.size T3 A M (celV ((l.take 0).map Prod.fst)) W1 :=
   ⟨hbW.trans (hb1.mono hbW.size), by rw [hW1]; exact heap_alloc_new W _, (hb1.block _ h3.lt).trans h3, hft.next (hb1.block _ hft.lt) (hb1.block _ hft.2.lt)⟩
  have hf := hasPair_any W1 B Ac l.length c (l.map prRow) W.heap.size (fun j => !pairAt l j) (fun k W' => RcI w 153 (.int .i32) 111 (FnC A) 121 (.func (.func 62) #[] #[.pointer (some ⟨T3, 0, none⟩)]) W.heap.size T3 A M (celV ((l.take k).map Prod.fst)) W') (fun _ W' => Below w.heap.size w W') hn hI0
   (fun k W' hI => hsi.on hI.bel hB)
   (fun k a b W' hx hI => by
    obtain ⟨p, hp, rfl, rfl⟩ := prRow_at hx
    refine (allPair1_any W' W.heap.size T3 A M ((l.take k).map Prod.fst) p hI.v0 hI.t3 hI.ft).mono ?_
    rintro e w2 ⟨rfl, hf2, hr2⟩
    refine ⟨by rw [prOk_at hp], fun hq => ?_, fun _ => hI.bel' hr2 hM⟩
    have hq2 : prOk ((l.take k).map Prod.fst) p = true := by
     simp only [prOk_at hp] at hq
     simpa using hq
    have := hI.next hr2 (hf2 hq2) hM
    rw [take_next hp, List.map_append]
    exact this)
  have hbb : ∀ w2, Below W.heap.size W w2 → Below w.heap.size w w2 := fun w2 h2 => hbW.trans (h2.mono hbW.size)
  clear hsi hft h3 hI0
  go_enter Tryz.func61, Tryz.ntmps61
  go_wp2_with fail
  rw [← hW1]
  refine hf.mono ?_
  rintro e w2 (⟨j, hj, hq, -, rfl, hb2⟩ | ⟨hq, rfl, hI2⟩)
  ·have hp : pairsB l = false := range_all_false hj hq
   clear hq hf
   go_wp2
   go_ret
   rw [hp]
   exact ⟨rfl, hb2⟩
  ·have hp : pairsB l = true := range_all_true hq
   have HB := Lib.hid hI2.bel
   clear hq hf hI2
   go_wp2
   go_ret
   rw [hp]
   exact ⟨rfl, HB.out⟩
 clear hsi
 go_enter Tryz.func31, Tryz.ntmps31
 go_wp2_with fail
 refine hfs.mono ?_
 rintro e w1 ⟨rfl, hft, hb, hs⟩
 obtain ⟨W2, hW2⟩ : ∃ W2, W2 = w1.alloc (.cells #[FnC (w.heap.size + 1)] 111) := ⟨_, rfl⟩
 have hca := hall W2 w1.heap.size (w.heap.size + 1) w.heap.size (by rw [hW2]; exact hb.alloc hb.size _) (by rw [hW2]; exact heap_alloc_new w1 _) (by rw [hW2]; exact hft.next (heap_lt _ _ (by omega)) (heap_lt _ _ (by omega))) (Nat.le_refl _)
 unfold FnC at hW2
 clear hft hb hs hfs hall
 go_wp2_with fail
 rw [← hW2]
 refine hca.mono ?_
 rintro e w3 ⟨rfl, hb3⟩
 have HB3 := Lib.hid hb3
 clear hb3 hca
 go_wp2
 go_ret
 exact ⟨rfl, HB3.out⟩
end Go.Proofs.YthaibekbefndlaaGreatDoor.C

namespace Go.Proofs.YthaibekbefndlaaGreatDoor.C
open Go.RowKit

theorem flat_tk : ∀ (ts : List Tok) (j : Nat) (x : Tok), ts[j]? = some x → ∀ i u, (tkC x)[i]? = some u → (ts.flatMap tkC)[j * 4 + i]? = some u
 | [], j, x, h, _, _, _ => by simp at h
 | a :: r, 0, x, h, i, u, hu => by
  simp at h
  subst h
  rw [List.flatMap_cons, Nat.zero_mul, Nat.zero_add, List.getElem?_append_left (List.getElem?_eq_some_iff.1 hu).1]
  exact hu
 | a :: r, j + 1, x, h, i, u, hu => by
  have h' : r[j]? = some x := by simpa using h
  have hl : (tkC a).length = 4 := rfl
  rw [List.flatMap_cons, List.getElem?_append_right (by omega), hl, show (j + 1) * 4 + i - 4 = j * 4 + i by omega]
  exact flat_tk r j x h' i u hu
theorem TI.many (w : World) (ts : List Tok) (cs : Array Value) (hc : cs.toList = ts.flatMap tkC) : TI (w.alloc (.cells cs 92)) (w.heap.size + 1) (some ⟨w.heap.size, 0, none⟩) ts.length ts :=
 ⟨rfl, fun _ => ⟨_, rfl, Nat.lt_succ_self _, fun j y hy i u hu => by
  rw [add_off0, World.cell?_alloc_new, ← Array.getElem?_toList, hc]
  exact flat_tk ts j y hy i u hu⟩⟩

set_option maxHeartbeats 1000000 in
theorem word_any (w : World) (s : ByteArray) : Calls Tryz.prog 82 #[.string s] w fun e w' => e = .returned (.agg #[.int .u8 1, .string s, .int .i64 0, .int .i64 0]) ∧ Below w.heap.size w w' := by
 go_enter Tryz.func82, Tryz.ntmps82
 go_wp2
 refine bodyPost_ret (v := .agg #[.int .u8 1, .string s, .int .i64 0, .int .i64 0]) (by simp [results, Tryz.results82, go_sem, *]) rfl ?_
 exact ⟨rfl, (Below.refl _ _).alloc (Nat.le_refl _) _⟩
set_option maxHeartbeats 1000000 in
theorem sign_any7 (w : World) (s : ByteArray) : Calls Tryz.prog 86 #[.string s] w fun e w' => e = .returned (.agg #[.int .u8 2, .string s, .int .i64 0, .int .i64 0]) ∧ Below w.heap.size w w' := by
 go_enter Tryz.func86, Tryz.ntmps86
 go_wp2
 refine bodyPost_ret (v := .agg #[.int .u8 2, .string s, .int .i64 0, .int .i64 0]) (by simp [results, Tryz.results86, go_sem, *]) rfl ?_
 exact ⟨rfl, (Below.refl _ _).alloc (Nat.le_refl _) _⟩
set_option maxHeartbeats 1000000 in
theorem scalar_any7 (w : World) (c : Int) (h0 : -2147483648 ≤ c) (h1 : c ≤ 2147483647) : Calls Tryz.prog 85 #[.int .i32 c] w fun e w' => e = .returned (.agg #[.int .u8 3, .string ⟨#[]⟩, .int .i64 c, .int .i64 0]) ∧ Below w.heap.size w w' := by
 go_enter Tryz.func85, Tryz.ntmps85
 go_wp2
 refine bodyPost_ret (v := .agg #[.int .u8 3, .string ⟨#[]⟩, .int .i64 c, .int .i64 0]) (by simp [results, Tryz.results85, go_sem, *]) rfl ?_
 exact ⟨rfl, (Below.refl _ _).alloc (Nat.le_refl _) _⟩
set_option maxRecDepth 100000 in
set_option maxHeartbeats 2000000 in
theorem putEnd_any (w : World) (B P T : Nat) (S : List UInt8) (h : PW w B P S T) (h2 : 2 ≤ S.length) (hS : S.length ≤ 4000) (hT : T ≤ 1000) (hG : ∀ w', Below B w w' → Gl w') (hB : B ≤ w.heap.size) :
  Calls Tryz.prog 87 #[.pointer (some ⟨P, 0, none⟩)] w (PutTold w B P (S.dropLast ++ [10]) (T + 1)) := by
 have hln := fun k => Tryz.Buffer_Len_at 73 (tkR T) B P 0 (Lib.byteCells S) (w.drewN k) h
 have hln0 := Tryz.Buffer_Len_at 73 (tkR T) B P 0 (Lib.byteCells S) w.drew h
 rw [Lib.byteCells_length] at hln0
 obtain ⟨m, hm⟩ : ∃ m : Nat, (S.length : Int) - 1 = (m : Int) := ⟨S.length - 1, by omega⟩
 have hm0 : 0 < m := by omega
 have hmS : m + 1 = S.length := by omega
 have htr := fun k => truncate_any (w.drewN k) B P 73 (tkR T) (Lib.byteCells S) m h hm0 (by rw [Lib.byteCells_length]; omega)
 have hdl : S.take m = S.dropLast := by rw [List.dropLast_eq_take]; congr 1; omega
 have hwr : IntKind.i64.wrap (m : Int) = (m : Int) := by rw [IntKind.wrap_i64]; omega
 have HG := Lib.hid hG
 have HD := Lib.hid hdl
 have HBW := Lib.hid hB
 clear hG hln h hdl
 go_enter Tryz.func87, Tryz.ntmps87
 go_wp2
 refine wp_region_held (S := fun _ : World => True) (by kernel_rfl) ?_
 change wpAnyH _ _ _ _ _ _ _ _ w.drew
 have hS1 : (fun _ : World => True) w.drew := trivial
 iterate 6 (refine wpH rfl rfl ?_; try simp only [Act.put, g1, g2, g3, g4, g5, g6])
 refine wpAnyH_one (i := 6) (by kernel_rfl) rfl (fun K hK => ?_)
 simp only [g4, g5, g6]
 go_simp
 go_at_call 140
 with_reducible refine hln0.mono ?_
 rintro e w1 ⟨rfl, k, rfl⟩
 refine hK.out _ _ trivial (fun _ => ?_)
 have htr1 := htr (1 + k)
 clear hln0 htr
 refine wpAnyH_one (i := 7) (by kernel_rfl) rfl (fun K hK => ?_)
 simp only [g4, g5, g6]
 go_simp
 refine hK.out _ _ trivial (fun _ => ?_)
 refine wpAnyH_one (i := 8) (by kernel_rfl) rfl (fun K hK => ?_)
 simp only [g4, g5, g6]
 go_simp
 with_reducible refine htr1.mono ?_
 rintro e w2 ⟨rfl, hib, hk2⟩
 refine hK.out _ _ trivial (fun _ => ?_)
 refine ⟨by kernel_rfl, ?_⟩
 rw [← byteCells_take, HD.out] at hib
 have hp2 : PW w2 B P S.dropLast T := hib
 have hkp : Kp B P w w2 := Kp.trans (show Kp B P w (w.drewN (1 + k)) from ⟨⟨rfl, rfl, rfl, Nat.le_refl _, fun _ _ => rfl⟩, (Lib.OthersKept.refl _ _ w).drewN (1 + k)⟩) hk2
 have HP := Lib.hid hp2
 have HK2 := Lib.hid hkp
 clear htr1 hib hk2 hp2 hkp hwr hm
 obtain ⟨W, hW⟩ : ∃ W, W = w2.alloc (.cells #[.int .u8 6, .string ⟨#[]⟩, .int .i64 0, .int .i64 0] 92) := ⟨_, rfl⟩
 have hbW : Below w2.heap.size w2 W := by rw [hW]; exact (Below.refl _ _).alloc (Nat.le_refl _) _
 have hti : TI W (w2.heap.size + 1) (some ⟨w2.heap.size, 0, none⟩) 1 [⟨6, [], 0, 0⟩] := by rw [hW]; exact TI.many w2 [⟨6, [], 0, 0⟩] _ rfl
 have hBs : B ≤ w2.heap.size := Nat.le_trans HBW.out HK2.out.size
 have hkW : Kp B P w W := HK2.out.trans (Kp.of_below hbW hBs)
 have hput := put_any W B P T 1 1 _ S.dropLast [⟨6, [], 0, 0⟩] _ (HP.out.old hbW) hti (by rw [hW]; simp) (by rw [List.length_dropLast]; omega) hT (by omega) (HG.out _ hkW.1) (by intro x hx; simp at hx; subst hx; simp) (Nat.le_trans hBs hbW.size)
 rw [show prtL [(⟨6, [], 0, 0⟩ : Tok)] = [10] from rfl] at hput
 have HKW := Lib.hid hkW
 clear hti hbW hBs hkW
 go_wp2_with fail
 rw [← hW]
 refine hput.mono ?_
 rintro e w3 (⟨a1, a2, rfl, a3, a4⟩ | ⟨a1, rfl, a2⟩)
 ·have HA := Lib.hid (And.intro a1 (And.intro a2 (And.intro a3 (HKW.out.trans a4))))
  clear a1 a2 a3 a4 hput
  go_wp2
  go_end0
  exact .inl ⟨HA.out.1, HA.out.2.1, rfl, HA.out.2.2.1, HA.out.2.2.2⟩
 ·exact ⟨rfl, .inr ⟨a1, rfl, HKW.out.1.trans a2⟩⟩
end Go.Proofs.YthaibekbefndlaaGreatDoor.C
