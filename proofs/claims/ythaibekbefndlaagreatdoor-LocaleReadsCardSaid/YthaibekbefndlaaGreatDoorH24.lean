/-
  Joined: LgG, LfO, LeN, LeO. Each with what its own head says.
-/
import Derived.Test.YthaibekbefndlaaGreatDoorH23

namespace Go.Proofs.YthaibekbefndlaaGreatDoor.C

theorem good_tW {t : List UInt8} (h : wordlyB t = true) : GoodT (tW t) := by
 unfold wordlyB at h
 simp only [Bool.and_eq_true, List.all_eq_true] at h
 exact .inl ⟨rfl, by rintro rfl; simp at h, h.2, rfl⟩
theorem good_tC {c : Int} (h : scalB c = true) : GoodT (tC c) := .inr (.inr (.inl ⟨rfl, rfl, scalB_right h⟩))
theorem good_tS {t : List UInt8} (h : t = [59] ∨ t = [44] ∨ t = [40] ∨ t = [41] ∨ t = [46, 46, 46]) : GoodT (tS t) := .inr (.inl ⟨rfl, h, rfl⟩)
theorem good_tQ {t : List UInt8} (h1 : (34 : UInt8) ∉ t) (h2 : (10 : UInt8) ∉ t) : GoodT (tQ t) := .inr (.inr (.inr (.inl ⟨rfl, h1, h2, rfl⟩)))
theorem good_tN {t : List UInt8} (h : wordlyB t = true) (hn : numL t = none) : GoodT (tN t) := by
 unfold wordlyB at h
 simp only [Bool.and_eq_true, List.all_eq_true] at h
 exact .inr (.inr (.inr (.inr ⟨rfl, by rintro rfl; simp at h, h.2, hn, rfl⟩)))
theorem good_item {e : Elm} (h : elemB e = true) : GoodT (itemT e) := by
 unfold itemT
 split
 ·rename_i h0
  obtain ⟨c, hc, hs⟩ := elemB_plain h h0
  rw [hc]
  exact good_tC hs
 ·rename_i h0
  obtain ⟨_, h1, h2⟩ := elemB_named h h0
  exact good_tN h1 h2
theorem good_sep {α : Type} (f : α → List Tok) : ∀ (l : List α), (∀ a ∈ l, ∀ x ∈ f a, GoodT x) → ∀ x ∈ sepT f l, GoodT x
 | [], _, x, hx => by simp [sepT] at hx
 | [a], h, x, hx => h a (by simp) x hx
 | a :: b :: r, h, x, hx => by
  have h' : x ∈ f a ++ tS sSemi :: sepT f (b :: r) := hx
  rcases List.mem_append.1 h' with h1 | h1
  ·exact h a (by simp) x h1
  ·rcases List.mem_cons.1 h1 with rfl | h2
   ·exact good_tS (.inl rfl)
   ·exact good_sep f (b :: r) (fun z hz => h z (by simp at hz ⊢; exact .inr hz)) x h2
theorem good_range {r : Int × Int} (h : rangeB r = true) : ∀ x ∈ rangeT r, GoodT x := by
 unfold rangeB at h
 simp only [Bool.and_eq_true] at h
 intro x hx
 unfold rangeT at hx
 split at hx
 ·simp at hx; subst hx; exact good_tC h.1.1
 ·simp at hx
  rcases hx with rfl | rfl | rfl
  ·exact good_tC h.1.1
  ·exact good_tS (.inr (.inr (.inr (.inr rfl))))
  ·exact good_tC h.1.2
theorem good_pair {r : Int × Int} (h : scalB r.1 = true ∧ scalB r.2 = true) : ∀ x ∈ pairT r, GoodT x := by
 intro x hx
 unfold pairT at hx
 simp at hx
 rcases hx with rfl | rfl | rfl | rfl | rfl
 ·exact good_tS (.inr (.inr (.inl rfl)))
 ·exact good_tC h.1
 ·exact good_tS (.inr (.inl rfl))
 ·exact good_tC h.2
 ·exact good_tS (.inr (.inr (.inr (.inl rfl))))
theorem pairsB_mem {l : List (Int × Int)} (h : pairsB l = true) : ∀ p ∈ l, scalB p.1 = true ∧ scalB p.2 = true := by
 intro r hr
 obtain ⟨i, hi, rfl⟩ := List.mem_iff_getElem.1 hr
 have h1 := all_range h hi
 unfold pairAt at h1
 rw [List.getElem?_eq_getElem hi] at h1
 simp only [Bool.and_eq_true] at h1
 exact ⟨h1.1.1, h1.1.2⟩
theorem good_map {m : List UInt8} {l : List (Int × Int)} (hm : wordlyB m = true) (h : pairsB l = true) : ∀ t ∈ mapT m l, t ≠ [] ∧ ∀ x ∈ t, GoodT x := by
 intro t ht
 unfold mapT at ht
 split at ht
 ·simp at ht
 ·simp at ht
  subst ht
  refine ⟨by simp, fun x hx => ?_⟩
  rcases List.mem_cons.1 hx with rfl | hx
  ·exact good_tW hm
  ·exact good_sep _ _ (fun a ha => good_pair (pairsB_mem h a ha)) x hx
theorem clsB_mem {l : List Cls} (h : clsB l = true) : ∀ c ∈ l, wordlyB c.name = true ∧ c.rs.all rangeB = true := by
 intro c hc
 obtain ⟨i, hi, rfl⟩ := List.mem_iff_getElem.1 hc
 have h1 := all_range h hi
 unfold clsAt at h1
 rw [List.getElem?_eq_getElem hi] at h1
 simp only [Bool.and_eq_true] at h1
 exact ⟨h1.1.1.1, h1.2⟩
theorem ordB_mem {l : List Elm} (h : ordB l = true) : ∀ e ∈ l, elemB e = true := by
 intro e he
 obtain ⟨i, hi, rfl⟩ := List.mem_iff_getElem.1 he
 exact (ordB_elem h (List.getElem?_eq_getElem hi)).1
theorem good_ords (o : List Elm) (ho : ∀ e ∈ o, elemB e = true) : ∀ (r : List Elm) (i : Nat), (∀ e ∈ r, elemB e = true) → ∀ t ∈ ordsT o i r, t ≠ [] ∧ ∀ x ∈ t, GoodT x
 | [], _, _, t, ht => by simp [ordsT] at ht
 | e :: r, i, h, t, ht => by
  have h' : t ∈ ordT o i e :: ordsT o (i + 1) r := ht
  rcases List.mem_cons.1 h' with rfl | h2
  ·refine ⟨by simp [ordT], fun x hx => ?_⟩
   unfold ordT at hx
   rcases List.mem_cons.1 hx with rfl | hx
   ·exact good_tW (by decide +kernel)
   ·rcases List.mem_cons.1 hx with rfl | hx
    ·exact good_item (h e (by simp))
    ·split at hx
     ·simp at hx
     ·split at hx
      ·rename_i y hy
       simp at hx
       rcases hx with rfl | rfl
       ·exact good_tS (.inl rfl)
       ·exact good_item (ho y (List.mem_of_getElem? hy))
      ·simp at hx
  ·exact good_ords o ho r (i + 1) (fun z hz => h z (by simp [hz])) t h2
theorem good_locT {l : Loc} (h : rightL l = true) (hq : ∀ e ∈ l.ord, e.name ≠ [] → (34 : UInt8) ∉ bytesOf e.cells ∧ (10 : UInt8) ∉ bytesOf e.cells) : GoodLs (locT l) := by
 obtain ⟨p1, p2, p3, p4⟩ := right_parts h
 intro t ht
 unfold locT at ht
 simp only [List.mem_append] at ht
 rcases ht with (((ht | ht) | ht) | ht) | ht
 ·obtain ⟨c, hc, rfl⟩ := List.mem_map.1 ht
  obtain ⟨h1, h2⟩ := clsB_mem p1 c hc
  refine ⟨by simp [clsT], fun x hx => ?_⟩
  have hx' : x ∈ tW wClass :: tW c.name :: sepT rangeT c.rs := hx
  rcases List.mem_cons.1 hx' with rfl | hx
  ·exact good_tW (by decide +kernel)
  ·rcases List.mem_cons.1 hx with rfl | hx
   ·exact good_tW h1
   ·exact good_sep _ _ (fun a ha => good_range (List.all_eq_true.1 h2 a ha)) x hx
 ·exact good_map (by decide +kernel) p2 t ht
 ·exact good_map (by decide +kernel) p3 t ht
 ·obtain ⟨e, he, ht⟩ := List.mem_flatMap.1 ht
  unfold elemT at ht
  split at ht
  ·simp at ht
  ·rename_i hne
   simp at ht
   subst ht
   refine ⟨by simp, fun x hx => ?_⟩
   simp at hx
   rcases hx with rfl | rfl | rfl | rfl
   ·exact good_tW (by decide +kernel)
   ·exact good_item (ordB_mem p4 e he)
   ·exact good_tW (by decide +kernel)
   ·exact good_tQ (hq e he hne).1 (hq e he hne).2
 ·exact good_ords l.ord (ordB_mem p4) l.ord 0 (ordB_mem p4) t ht
theorem short_of {l : Loc} (h : rightL l = true) (h1 : ∀ c ∈ l.cls, c.name.length ≤ 16) (h2 : ∀ e ∈ l.ord, e.name.length ≤ 16) : Short l := by
 obtain ⟨p1, p2, p3, p4⟩ := right_parts h
 have hp := prtOk_of h (fun c hc => by have := h1 c hc; omega) (fun e he => by have := h2 e he; omega)
 refine ⟨fun c hc => ⟨h1 c hc, fun r hr => ?_⟩, fun r hr => ?_, fun r hr => ?_, fun e he => ⟨h2 e he, fun h0 => (hp.enc e he h0).1, ?_⟩⟩
 ·have := (hp.cls c hc).1 r hr
  exact ⟨this.1.2, this.2.2⟩
 ·have := hp.up r hr
  exact ⟨this.1.2, this.2.2⟩
 ·have := hp.lo r hr
  exact ⟨this.1.2, this.2.2⟩
 ·by_cases h0 : e.name = []
  ·obtain ⟨a, ha, hb⟩ := (hp.item e he).1 h0
   rw [ha]
   simp
   omega
  ·have h3 := (hp.enc e he h0).2
   cases hc : e.cells with
   | nil => simp
   | cons c r =>
    rw [hc, List.all_cons, Bool.and_eq_true] at h3
    have h4 := h3.1
    unfold rightB at h4
    simp at h4 ⊢
    omega
theorem print_fits {l : Loc} (h : rightL l = true) (h1 : ∀ c ∈ l.cls, c.name.length ≤ 16) (h2 : ∀ e ∈ l.ord, e.name.length ≤ 16) (hm : mT l + 4 ≤ 208) : (linesT (locT l)).length ≤ 3952 ∧ (toksT (locT l)).length ≤ 208 ∧ printL l = (linesT (locT l), 0) := by
 have hf := fits_of (short_of h h1 h2) hm
 refine ⟨by omega, hf.2, ?_⟩
 unfold printL
 rw [if_pos h, if_pos ⟨by omega, by omega⟩]
end Go.Proofs.YthaibekbefndlaaGreatDoor.C

namespace Go.Proofs.YthaibekbefndlaaGreatDoor.C
open Go.RowKit

theorem PrsR.more {w : World} {B B' : Nat} {v : Value} {l : List (Int × Int)} (h : PrsR w B v l) (hB : B ≤ B') : PrsR w B' v l := by
 obtain ⟨A, c, e, h1⟩ := h
 exact ⟨A, c, e, h1.more hB⟩
theorem ClsR.more {w : World} {B B' : Nat} {v : Value} {l : List Cls} (h : ClsR w B v l) (hB : B ≤ B') : ClsR w B' v l := by
 obtain ⟨A, c, xs, e, h1, h2⟩ := h
 refine ⟨A, c, xs, e, h1.more hB, fun i k hi => ?_⟩
 obtain ⟨u, a1, a2, a3⟩ := h2 i k hi
 exact ⟨u, a1, a2.more hB, a3⟩
theorem OrdR.more {w : World} {B B' : Nat} {v : Value} {l : List Elm} (h : OrdR w B v l) (hB : B ≤ B') : OrdR w B' v l := by
 obtain ⟨A, c, xs, e, h1, h2⟩ := h
 refine ⟨A, c, xs, e, h1.more hB, fun i k hi => ?_⟩
 obtain ⟨a, b, a1, a2, a3⟩ := h2 i k hi
 exact ⟨a, b, a1, a2.more hB, a3⟩
theorem LocR.more {w : World} {B B' : Nat} {v1 v2 v3 v4 : Value} {l : Loc} (h : LocR w B v1 v2 v3 v4 l) (hB : B ≤ B') : LocR w B' v1 v2 v3 v4 l := ⟨h.1.more hB, h.2.1.more hB, h.2.2.1.more hB, h.2.2.2.1.more hB, h.2.2.2.2⟩
set_option maxRecDepth 100000 in
set_option maxHeartbeats 2000000 in
theorem wcatch_of (w : World) (E : Nat) (older : List PanicEntry) (hE : One w E 28 (.int .u16 0)) :
  CallsD Tryz.prog 22 #[.pointer (some ⟨E, 0, none⟩)] (.panicking ({ v := .iface 28 (.int .u16 3), recovered := false } :: older)) w fun e u' w' =>
   e = .returned (.tuple #[]) ∧ u' = .panicking ({ v := .iface 28 (.int .u16 3), recovered := true } :: older) ∧ ∃ w1, Below w.heap.size w w1 ∧ w' = w1.setCell ⟨E, 0, none⟩ (.int .u16 3) := by
 have hl1 := (Array.getElem?_eq_some_iff.1 hE).1
 have hw := fun W => faultOf_errno W 3
 have hfi : ∀ W : World, (Instr.field 66 (.agg #[.int .u16 3, .int .i64 0]) 0).run Tryz.prog W = .ok (.int .u16 3) W := fun W => by kernel_rfl
 refine callsD_of_wpS Tryz.func22 rfl fun c₀ cs hu => ?_
 apply wpS_seq
 apply wpS_region
 simp [wpOpsS, go_sem, recoverD, hu, Tryz.ntmps22, Exit.thenS]
 simp only [Array.replicate_succ, Array.replicate_zero, List.push_toArray, List.setIfInBounds_toArray, List.set_cons_zero, List.set_cons_succ, List.append_toArray, List.nil_append, List.cons_append]
 refine wpS_of_wp ?_
 go_wp2_with fail
 refine (hw _).mono ?_
 rintro e w1 ⟨rfl, hb1⟩
 have k1 : One w1 E 28 (.int .u16 0) := (hb1.block E hl1).trans hE
 have c1 := k1.cell
 have f1 := k1.frozen 0
 have HB := Lib.hid hb1
 clear k1 hb1 hw
 go_wp2
 have hC : ∃ w2, Below w.heap.size w w2 ∧ w1.setCell ⟨E, 0, none⟩ (.int .u16 3) = w2.setCell ⟨E, 0, none⟩ (.int .u16 3) := ⟨w1, HB.out, rfl⟩
 change bodyPostS _ _ _ _ _ _ _ _ _
 simp [bodyPostS, results, Tryz.results22, hC]
theorem wcatch_idle (w : World) (E : Nat) :
  CallsD Tryz.prog 22 #[.pointer (some ⟨E, 0, none⟩)] .returning w fun e u' w' => e = .returned (.tuple #[]) ∧ u' = .returning ∧ w' = w := by
 refine callsD_of_wpS Tryz.func22 rfl fun c₀ cs hu => ?_
 apply wpS_seq
 apply wpS_region
 simp [wpOpsS, go_sem, recoverD, hu, Tryz.ntmps22, Exit.thenS]
 simp only [Array.replicate_succ, Array.replicate_zero, List.push_toArray, List.setIfInBounds_toArray, List.set_cons_zero, List.set_cons_succ, List.append_toArray, List.nil_append, List.cons_append]
 refine wpS_of_wp ?_
 go_wp2
 cases c₀
 simp_all [bodyPostS, results, Tryz.results22]
theorem pw_new (w : World) : PW (w.alloc (.cells #[.slice none 0 0, .int .i64 0, .int .i8 0, .int .i64 0] 73)) w.heap.size w.heap.size [] 0 := by
 refine LibA.zero_isBuffer (Nat.le_refl _) (lr := 0) ⟨_, heap_alloc_new w _, rfl, rfl, rfl, fun i hi => ?_⟩
 have h3 : 3 ≤ i := by omega
 unfold tkR
 by_cases h : i = 3
 ·subst h; rfl
 ·rw [if_neg h, Array.getElem?_eq_none (by simp; omega)]
def PrintTold (w : World) (r : List UInt8 × Nat) (e : Ending) (w' : World) : Prop := e = .returned (.tuple #[.string (str r.1), .int .u16 r.2]) ∧ Below w.heap.size w w'
set_option maxRecDepth 100000 in
set_option maxHeartbeats 8000000 in
theorem locPrint_any (w : World) (B : Nat) (v1 v2 v3 v4 : Value) (l : Loc) (h : LocR w B v1 v2 v3 v4 l) (hB : B ≤ w.heap.size) (hG : Gm w) (hn1 : ∀ c ∈ l.cls, c.name.length ≤ 5000) (hn2 : ∀ e ∈ l.ord, e.name.length ≤ 5000) :
  Calls Tryz.prog 12 #[.agg #[v1, v2, v3, v4]] w (PrintTold w (printL l)) := by
 obtain ⟨⟨A1, c1, x1, rfl, -⟩, ⟨A2, c2, rfl, -⟩, ⟨A3, c3, rfl, -⟩, ⟨A4, c4, x4, rfl, -⟩, -⟩ := id h
 have hmf : ∀ (fn : Fn) (first cap : Array Value) (w : World), (Instr.makeFunc fn first cap).run Tryz.prog w = .ok (.func fn first cap) w := fun _ _ _ _ => rfl
 obtain ⟨W, hW⟩ : ∃ W, W = (w.alloc (.cells #[.slice A1 l.cls.length c1, .slice A2 l.up.length c2, .slice A3 l.lo.length c3, .slice A4 l.ord.length c4] 26)).alloc (.cells #[.int .u16 0] 28) := ⟨_, rfl⟩
 have hs1 : (w.alloc (.cells #[.slice A1 l.cls.length c1, .slice A2 l.up.length c2, .slice A3 l.lo.length c3, .slice A4 l.ord.length c4] 26)).heap.size = w.heap.size + 1 := by simp
 have hbW : Below w.heap.size w W := by rw [hW]; exact ((Below.refl _ _).alloc (Nat.le_refl _) _).alloc (by simp) _
 have hE : One W (w.heap.size + 1) 28 (.int .u16 0) := by
  show W.heap[w.heap.size + 1]? = _
  rw [hW, ← hs1]
  exact heap_alloc_new _ _
 have hL : LocZ W w.heap.size (.slice A1 l.cls.length c1) (.slice A2 l.up.length c2) (.slice A3 l.lo.length c3) (.slice A4 l.ord.length c4) := by
  unfold LocZ
  rw [hW, heap_lt _ _ (by simp), heap_new]
 have hri := locRight_any W B _ _ _ _ l (h.on hbW hB) (Nat.le_trans hB hbW.size) (hG.next hbW)
 obtain ⟨q0, q1, q2, q3⟩ := hL.cells
 have HE := Lib.hid hE
 have HL := Lib.hid hL
 have HG := Lib.hid (hG.next hbW)
 have HBW := Lib.hid hbW
 have HR := Lib.hid ((h.on hbW hB).more hB)
 have HN := Lib.hid (And.intro hn1 hn2)
 obtain ⟨S, hS⟩ : ∃ S, S = w.heap.size := ⟨_, rfl⟩
 have HSS := Lib.hid hS
 clear h hG hE hL hn1 hn2 hs1
 rw [hW] at q0 q1 q2 q3
 rw [← hS] at HE HL HBW HR
 by_cases hr : rightL l = true
 rotate_left
 ·have hr0 : rightL l = false := by simpa using hr
  have hp : printL l = ([], 1) := by unfold printL; rw [hr0]; rfl
  rw [hp]
  rw [hr0] at hri
  clear hp hr hr0
  go_enter_defers Tryz.func12, Tryz.ntmps12
  go_wp2_with fail
  rw [← hW]
  with_reducible refine hri.mono ?_
  rintro e w2 ⟨rfl, hb2⟩
  rw [← hS]
  clear hS
  have hE2 : One w2 (S + 1) 28 (.int .u16 0) := (hb2.block _ HE.out.lt).trans HE.out
  have d0 := hE2.cell
  have d1 := hE2.frozen 0
  obtain ⟨W3, hW3⟩ : ∃ W3, W3 = w2.setCell ⟨S + 1, 0, none⟩ (.int .u16 1) := ⟨_, rfl⟩
  have hE3 : One W3 (S + 1) 28 (.int .u16 1) := by rw [hW3]; exact hE2.set_ _
  have hB3 : Below S w W3 := by rw [hW3]; exact (HBW.out.trans (hb2.mono (by have := HSS.out; have := HBW.out.size; omega))).setCell (p := ⟨S + 1, 0, none⟩) (Nat.le_succ S) _
  have d2 := hE3.cell
  clear hri hb2 hE2 hW q0 q1 q2 q3
  go_wp2
  rw [← hW3]
  have hfin : PrintTold w ([], 1) (.returned (.tuple #[.string ⟨#[]⟩, .int .u16 1])) W3 := ⟨rfl, by rw [← HSS.out]; exact hB3⟩
  simp [bodyPostD, Leaves, results, Tryz.results12, go_sem, d2]
  exact hfin
 ·rw [hr] at hri
  go_enter_defers Tryz.func12, Tryz.ntmps12
  go_wp2_with fail
  rw [← hW]
  with_reducible refine hri.mono ?_
  rintro e w2 ⟨rfl, hb2⟩
  rw [← hS]
  clear hS
  obtain ⟨W3, hW3⟩ : ∃ W3, W3 = w2.alloc (.cells #[.slice none 0 0, .int .i64 0, .int .i8 0, .int .i64 0] 73) := ⟨_, rfl⟩
  have hb3 : Below w2.heap.size w2 W3 := by rw [hW3]; exact (Below.refl _ _).alloc (Nat.le_refl _) _
  have hP3 : PW W3 w2.heap.size w2.heap.size [] 0 := by rw [hW3]; exact pw_new w2
  have hSW : S ≤ W.heap.size := by have := HSS.out; have := HBW.out.size; omega
  have hSP : S ≤ w2.heap.size := Nat.le_trans hSW hb2.size
  have hG2 := HG.out.next hb2
  have hE2 : One w2 (S + 1) 28 (.int .u16 0) := (hb2.block _ HE.out.lt).trans HE.out
  have hL2 : LocZ w2 S _ _ _ _ := (hb2.block _ HL.out.lt).trans HL.out
  have hL3 : LocZ W3 S _ _ _ _ := (hb3.block _ hL2.lt).trans hL2
  have hE3 : One W3 (S + 1) 28 (.int .u16 0) := (hb3.block _ hE2.lt).trans hE2
  have hR3 := (((HR.out.on hb2 hSW).on hb3 hSP).more hSP)
  have hdf := definition_any W3 w2.heap.size w2.heap.size _ _ _ _ l hP3 (fun w' h' => hG2.1.next (hb3.trans h')) hb3.size hR3 (prtOk_of hr HN.out.1 HN.out.2)
  obtain ⟨q4, q5, q6, q7⟩ := hL3.cells
  rw [hW3] at q4 q5 q6 q7
  have HB3 : Hid (Below S w W3) := Lib.hid ((HBW.out.trans (hb2.mono hSW)).trans (hb3.mono hSP))
  have HE3 := Lib.hid hE3
  have HEP : Hid (S + 1 < w2.heap.size) := Lib.hid hE2.lt
  have HSP := Lib.hid hSP
  have hp : printL l = if (linesT (locT l)).length ≤ 4000 ∧ (toksT (locT l)).length ≤ 1000 then (linesT (locT l), 0) else ([], 3) := by unfold printL; rw [if_pos hr]
  have HPL := Lib.hid hp
  clear hri hb2 hb3 hP3 hSW hSP hG2 hE2 hL2 hL3 hE3 hR3 hW q0 q1 q2 q3 hp hr
  go_wp2_with fail
  rw [← hW3]
  with_reducible refine hdf.mono ?_
  rintro e w4 (⟨a1, a2, rfl, a3, a4⟩ | ⟨a1, rfl, a2⟩)
  ·obtain ⟨P, hP⟩ : ∃ P, P = w2.heap.size := ⟨_, rfl⟩
   rw [← hP] at a3 a4 HEP HSP ⊢
   clear hP
   have HQL : Hid (printL l = (linesT (locT l), 0)) := Lib.hid (by rw [HPL.out, if_pos ⟨a1, a2⟩])
   have hst := Tryz.Buffer_String_at _ _ _ _ _ _ _ a3
   have hE4 : One w4 (S + 1) 28 (.int .u16 0) := (a4.1.block _ HEP.out).trans HE3.out
   have HB4 : Hid (Below S w w4) := Lib.hid (HB3.out.trans (a4.1.mono HSP.out))
   have HE4 := Lib.hid hE4
   clear a1 a2 a3 a4 hdf hW3 hE4 q4 q5 q6 q7
   go_wp2_with fail
   with_reducible refine hst.mono ?_
   rintro e w5 ⟨rfl, n, rfl⟩
   have hE5 : One (w4.drewN n) (S + 1) 28 (.int .u16 0) := HE4.out
   have d0 : w4.cell? ⟨S + 1, 0, none⟩ = some (.int .u16 0) := HE4.out.cell
   have d1 : w4.frozen? ⟨S + 1, 0, none⟩ = false := HE4.out.frozen 0
   clear hst
   go_wp2
   refine leaves_cons (f := 22) (args := #[.pointer (some ⟨S + 1, 0, none⟩)]) (by simp) (by simp [go_sem]) ?_
   refine (wcatch_idle _ _).mono ?_
   rintro e u' w6 ⟨rfl, rfl, rfl⟩
   have hE6 : One ((w4.drewN n).setCell ⟨S + 1, 0, none⟩ (.int .u16 0)) (S + 1) 28 (.int .u16 0) := hE5.set_ _
   have d2 := hE6.cell
   have hfin : PrintTold w (printL l) (.returned (.tuple #[.string ⟨(linesT (locT l)).toArray⟩, .int .u16 0])) ((w4.drewN n).setCell ⟨S + 1, 0, none⟩ (.int .u16 0)) := by
    rw [HQL.out]
    exact ⟨rfl, by rw [← HSS.out]; exact (show Below S w (w4.drewN n) from ⟨HB4.out.os, HB4.out.tape, HB4.out.output, HB4.out.size, HB4.out.block⟩).setCell (p := ⟨S + 1, 0, none⟩) (Nat.le_succ S) _⟩
   simp [Leaves, settle, results, Tryz.results12, go_sem, d2]
   exact hfin
  ·obtain ⟨P, hP⟩ : ∃ P, P = w2.heap.size := ⟨_, rfl⟩
   rw [← hP] at a2 HEP HSP ⊢
   clear hP
   have HQL : Hid (printL l = ([], 3)) := Lib.hid (by rw [HPL.out, if_neg a1])
   have hE4 : One w4 (S + 1) 28 (.int .u16 0) := (a2.block _ HEP.out).trans HE3.out
   have HB4 : Hid (Below S w w4) := Lib.hid (HB3.out.trans (a2.mono HSP.out))
   clear a1 a2 hdf hW3 q4 q5 q6 q7
   unfold longV
   go_wp2
   refine leaves_cons (f := 22) (args := #[.pointer (some ⟨S + 1, 0, none⟩)]) (by simp) (by simp [go_sem]) ?_
   refine (wcatch_of _ _ [] hE4).mono ?_
   rintro e u' w5 ⟨rfl, rfl, w6, hb6, rfl⟩
   have hE6 : One (w6.setCell ⟨S + 1, 0, none⟩ (.int .u16 3)) (S + 1) 28 (.int .u16 3) := (show One w6 (S + 1) 28 (.int .u16 0) from (hb6.block _ hE4.lt).trans hE4).set_ _
   have d2 := hE6.cell
   have hfin : PrintTold w (printL l) (.returned (.tuple #[.string ⟨#[]⟩, .int .u16 3])) (w6.setCell ⟨S + 1, 0, none⟩ (.int .u16 3)) := by
    rw [HQL.out]
    exact ⟨rfl, by rw [← HSS.out]; exact (HB4.out.trans (hb6.mono (by have := HB4.out.size; have := HSS.out; omega))).setCell (p := ⟨S + 1, 0, none⟩) (Nat.le_succ S) _⟩
   simp [Leaves, settle, results, Tryz.results12, go_sem, d2]
   exact hfin
end Go.Proofs.YthaibekbefndlaaGreatDoor.C

namespace Go.Proofs.YthaibekbefndlaaGreatDoor.C
open Go.RowKit

def tokC : Tok := ⟨1, [99, 108, 97, 115, 115], 0, 0⟩
def tokX : Tok := ⟨1, [120], 0, 6⟩
def tok41 : Tok := ⟨3, [], 65, 8⟩
def tokD : Tok := ⟨2, [46, 46, 46], 0, 15⟩
def tok43 : Tok := ⟨3, [], 67, 18⟩
def tokI : Tok := ⟨2, [59], 0, 25⟩
def tok61 : Tok := ⟨3, [], 97, 26⟩
def knownL : Loc := ⟨[⟨[120], [(65, 67), (97, 97)]⟩], [], [], []⟩
theorem parse_known1 : parseL [99, 108, 97, 115, 115, 32, 120, 32, 60, 85, 48, 48, 52, 49, 62, 46, 46, 46, 60, 85, 48, 48, 52, 51, 62, 59, 60, 85, 48, 48, 54, 49, 62] = (knownL, 0, 0) := by
 have h : runL [99, 108, 97, 115, 115, 32, 120, 32, 60, 85, 48, 48, 52, 49, 62, 46, 46, 46, 60, 85, 48, 48, 52, 51, 62, 59, 60, 85, 48, 48, 54, 49, 62] 0 [] = .inl [tokC, tokX, tok41, tokD, tok43, tokI, tok61, ⟨6, [], 0, 33⟩] :=
  run_step (m := 5) (acc' := [tokC]) (by simp) (by kernel_rfl) (by omega) rfl
  (run_step (m := 1) (acc' := [tokC]) (by simp) (by kernel_rfl) (by omega) rfl
  (run_step (m := 1) (acc' := [tokC, tokX]) (by simp) (by kernel_rfl) (by omega) rfl
  (run_step (m := 1) (acc' := [tokC, tokX]) (by simp) (by kernel_rfl) (by omega) rfl
  (run_step (m := 7) (acc' := [tokC, tokX, tok41]) (by simp) (by kernel_rfl) (by omega) rfl
  (run_step (m := 3) (acc' := [tokC, tokX, tok41, tokD]) (by simp) (by kernel_rfl) (by omega) rfl
  (run_step (m := 7) (acc' := [tokC, tokX, tok41, tokD, tok43]) (by simp) (by kernel_rfl) (by omega) rfl
  (run_step (m := 1) (acc' := [tokC, tokX, tok41, tokD, tok43, tokI]) (by simp) (by kernel_rfl) (by omega) rfl
  (run_step (m := 7) (acc' := [tokC, tokX, tok41, tokD, tok43, tokI, tok61]) (by simp) (by kernel_rfl) (by omega) rfl
  (by show runL [] 33 _ = _; rw [runL_nil]; rfl)))))))))
 have hl : lexL [99, 108, 97, 115, 115, 32, 120, 32, 60, 85, 48, 48, 52, 49, 62, 46, 46, 46, 60, 85, 48, 48, 52, 51, 62, 59, 60, 85, 48, 48, 54, 49, 62] = ([tokC, tokX, tok41, tokD, tok43, tokI, tok61, ⟨6, [], 0, 33⟩], 0, 0) := by
  unfold lexL
  rw [if_neg (by decide), h]
  rfl
 have hr : readL [tokC, tokX, tok41, tokD, tok43, tokI, tok61, ⟨6, [], 0, 33⟩] = .ok knownL := by kernel_rfl
 unfold parseL
 rw [hl]
 simp only [hr]
theorem parse_known2 : parseL [111, 114, 100, 101, 114, 32, 60, 99, 104, 62] = (noL, 31, 6) := by
 have h : runL [111, 114, 100, 101, 114, 32, 60, 99, 104, 62] 0 [] = .inl [⟨1, [111, 114, 100, 101, 114], 0, 0⟩, ⟨5, [99, 104], 0, 6⟩, ⟨6, [], 0, 10⟩] :=
  run_step (m := 5) (acc' := [⟨1, [111, 114, 100, 101, 114], 0, 0⟩]) (by simp) (by kernel_rfl) (by omega) rfl
  (run_step (m := 1) (acc' := [⟨1, [111, 114, 100, 101, 114], 0, 0⟩]) (by simp) (by kernel_rfl) (by omega) rfl
  (run_step (m := 4) (acc' := [⟨1, [111, 114, 100, 101, 114], 0, 0⟩, ⟨5, [99, 104], 0, 6⟩]) (by simp) (by kernel_rfl) (by omega) rfl
  (by show runL [] 10 _ = _; rw [runL_nil]; rfl)))
 have hl : lexL [111, 114, 100, 101, 114, 32, 60, 99, 104, 62] = ([⟨1, [111, 114, 100, 101, 114], 0, 0⟩, ⟨5, [99, 104], 0, 6⟩, ⟨6, [], 0, 10⟩], 0, 0) := by
  unfold lexL
  rw [if_neg (by decide), h]
  rfl
 have hr : readL [⟨1, [111, 114, 100, 101, 114], 0, 0⟩, ⟨5, [99, 104], 0, 6⟩, ⟨6, [], 0, 10⟩] = .error (31, 6) := by kernel_rfl
 unfold parseL
 rw [hl]
 simp only [hr]
theorem right_known : rightL knownL = true := by kernel_rfl
theorem right_noL : rightL noL = true := by kernel_rfl
end Go.Proofs.YthaibekbefndlaaGreatDoor.C

namespace Go.Proofs.YthaibekbefndlaaGreatDoor.C
open Go.RowKit

set_option maxRecDepth 100000 in
set_option maxHeartbeats 8000000 in
theorem known07_any (w : World) (hG : Gm w) : Calls Tryz.prog 11 #[] w fun e w' => e = .returned (.bool true) ∧ Below w.heap.size w w' := by
 have h1 := locParse_any ⟨#[99, 108, 97, 115, 115, 32, 120, 32, 60, 85, 48, 48, 52, 49, 62, 46, 46, 46, 60, 85, 48, 48, 52, 51, 62, 59, 60, 85, 48, 48, 54, 49, 62]⟩ w hG.1
 rw [show (ByteArray.mk #[99, 108, 97, 115, 115, 32, 120, 32, 60, 85, 48, 48, 52, 49, 62, 46, 46, 46, 60, 85, 48, 48, 52, 51, 62, 59, 60, 85, 48, 48, 54, 49, 62]).data.toList = [99, 108, 97, 115, 115, 32, 120, 32, 60, 85, 48, 48, 52, 49, 62, 46, 46, 46, 60, 85, 48, 48, 52, 51, 62, 59, 60, 85, 48, 48, 54, 49, 62] from rfl, parse_known1] at h1
 have h2 := fun W (hW : Gl W) => locParse_any ⟨#[111, 114, 100, 101, 114, 32, 60, 99, 104, 62]⟩ W hW
 rw [show (ByteArray.mk #[111, 114, 100, 101, 114, 32, 60, 99, 104, 62]).data.toList = [111, 114, 100, 101, 114, 32, 60, 99, 104, 62] from rfl, parse_known2] at h2
 have HG := Lib.hid hG
 clear hG
 go_enter Tryz.func11, Tryz.ntmps11
 go_wp2_with fail
 refine h1.mono ?_
 rintro e w1 ⟨v1, v2, v3, v4, lo, rfl, hlo1, hlo2, hL, hb1⟩
 have HG1 := Lib.hid (HG.out.next hb1)
 have hR := LocR.of hL (by intro c hc; simp [knownL] at hc; subst hc; decide) (by intro e he; simp [knownL] at he)
 obtain ⟨A1, c1, f1⟩ : ∃ A c, v1 = .slice A 1 c := hL.1.form
 obtain ⟨A2, c2, f2⟩ : ∃ A c, v2 = .slice A 0 c := row_form hL.2.1
 obtain ⟨A3, c3, f3⟩ : ∃ A c, v3 = .slice A 0 c := row_form hL.2.2.1
 obtain ⟨A4, c4, f4⟩ : ∃ A c, v4 = .slice A 0 c := hL.2.2.2.form
 subst f1 f2 f3 f4
 clear hL hlo1 hlo2
 have HR := Lib.hid hR
 have HB1 := Lib.hid hb1
 clear hR hb1 h1
 obtain ⟨W1, hW1⟩ : ∃ W1, W1 = w1.alloc (.cells #[.slice A1 1 c1, .slice A2 0 c2, .slice A3 0 c3, .slice A4 0 c4] 26) := ⟨_, rfl⟩
 have hbW : Below w1.heap.size w1 W1 := by rw [hW1]; exact (Below.refl _ _).alloc (Nat.le_refl _) _
 have hrow : Rw W1 w1.heap.size 26 #[.slice A1 1 c1, .slice A2 0 c2, .slice A3 0 c3, .slice A4 0 c4] := by rw [hW1]; exact heap_alloc_new w1 _
 have HBW := Lib.hid (HB1.out.trans (hbW.mono HB1.out.size))
 have HW := Lib.hid hrow
 have HRW := Lib.hid (HR.out.on hbW (Nat.le_refl _))
 have HGW := Lib.hid (HG1.out.next hbW)
 have HSW := Lib.hid hbW.size
 clear hbW hrow
 go_wp2_with fail
 rw [← hW1]
 refine (h2 _ HGW.out.1).mono ?_
 rintro e w2 ⟨u1, u2, u3, u4, lo2, rfl, hlo3, hlo4, hL2, hb2⟩
 obtain ⟨D1, e1, f1⟩ : ∃ A c, u1 = .slice A 0 c := hL2.1.form
 obtain ⟨D2, e2, f2⟩ : ∃ A c, u2 = .slice A 0 c := row_form hL2.2.1
 obtain ⟨D3, e3, f3⟩ : ∃ A c, u3 = .slice A 0 c := row_form hL2.2.2.1
 obtain ⟨D4, e4, f4⟩ : ∃ A c, u4 = .slice A 0 c := hL2.2.2.2.form
 subst f1 f2 f3 f4
 clear hL2 hlo3 hlo4 h2
 obtain ⟨W2, hW2⟩ : ∃ W2, W2 = w2.alloc (.cells #[.slice D1 0 e1, .slice D2 0 e2, .slice D3 0 e3, .slice D4 0 e4] 26) := ⟨_, rfl⟩
 have hbW2 : Below w2.heap.size w2 W2 := by rw [hW2]; exact (Below.refl _ _).alloc (Nat.le_refl _) _
 have hbb2 : Below W1.heap.size W1 W2 := hb2.trans (hbW2.mono hb2.size)
 have HB2 := Lib.hid (HBW.out.trans (hbb2.mono HBW.out.size))
 have hR2 := HRW.out.on hbb2 HSW.out
 have hrow2 := HW.out.on hbb2 HW.out.lt
 have hG2 := HGW.out.next hbb2
 have hsz2 : w1.heap.size ≤ W2.heap.size := Nat.le_trans HSW.out hbb2.size
 have hri := locRight_any W2 _ _ _ _ _ knownL hR2 hsz2 hG2
 rw [right_known] at hri
 obtain ⟨Ac, cc, xs, hv, hsi, hel⟩ := hR2.1
 have hv' : (Value.slice A1 1 c1) = .slice Ac 1 cc := hv
 injection hv' with ha _ hc
 subst ha
 obtain ⟨ad, rfl, hbl, hce⟩ := hsi.2.2 (by decide)
 obtain ⟨u, hx0, ⟨Ar, cr, rfl, hsr⟩, -⟩ := hel 0 _ rfl
 obtain ⟨ar, rfl, hbr, hcr⟩ := hsr.2.2 (by decide)
 subst hc
 have p0 : W2.cell? ⟨w1.heap.size, 0, none⟩ = some (.slice (some ad) 1 c1) := hrow2.cell rfl
 have p1 : W2.cell? ⟨w1.heap.size, 1, none⟩ = some (.slice A2 0 c2) := hrow2.cell rfl
 have p2 : W2.cell? ⟨w1.heap.size, 2, none⟩ = some (.slice A3 0 c3) := hrow2.cell rfl
 have p3 : W2.cell? ⟨w1.heap.size, 3, none⟩ = some (.slice A4 0 c4) := hrow2.cell rfl
 have q0 : W2.cell? ad = some (.string ⟨#[120]⟩) := by have := hce 0 _ hx0 0 _ rfl; rwa [show (0 * 2 + 0) = 0 from rfl, Addr.add_zero'] at this
 have q1 : W2.cell? (ad.add 1) = some (.slice (some ar) 2 cr) := hce 0 _ hx0 1 _ rfl
 have r0 : W2.cell? ar = some (.int .i32 65) := by have := hcr 0 _ rfl 0 _ rfl; rwa [show (0 * 2 + 0) = 0 from rfl, Addr.add_zero'] at this
 have r1 : W2.cell? (ar.add 1) = some (.int .i32 67) := hcr 0 _ rfl 1 _ rfl
 rw [add_pos _ _ (by omega)] at q1 r1
 have hnil : LocR W2 W2.heap.size (.slice none 0 0) (.slice none 0 0) (.slice none 0 0) (.slice none 0 0) noL := LocR.of (LocAt.nil W2 W2.heap.size) (by simp [noL]) (by simp [noL])
 have HNI := Lib.hid hnil
 have HG2 := Lib.hid hG2
 have HB1' := Lib.hid hbb2
 clear hR2 hrow2 hG2 hb2 hbW2 hbb2 hel hsi hsr hce hcr hx0 hv hnil HR HRW HW hW1
 subst hW2
 go_wp2_with (go_at_call 16; fail)
 refine hri.mono ?_
 rintro e w3 ⟨rfl, hb3⟩
 have hn3 := HNI.out.on hb3 (Nat.le_refl _)
 have hri3 := locRight_any w3 _ _ _ _ _ noL hn3 hb3.size (HG2.out.next hb3)
 rw [right_noL] at hri3
 have HB3 := Lib.hid (HB2.out.trans (hb3.mono HB2.out.size))
 clear hri hb3 hn3
 go_wp2_with (go_at_call 16; fail)
 refine hri3.mono ?_
 rintro e w4 ⟨rfl, hb4⟩
 have HB4 := Lib.hid (HB3.out.trans (hb4.mono HB3.out.size))
 clear hri3 hb4
 go_wp2
 go_ret
 exact ⟨rfl, HB4.out⟩
end Go.Proofs.YthaibekbefndlaaGreatDoor.C
