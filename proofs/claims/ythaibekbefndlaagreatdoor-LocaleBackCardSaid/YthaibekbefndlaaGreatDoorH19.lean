/-
  Joined: LdH, LeC, LeJ. Each with what its own head says.
-/
import Derived.Test.YthaibekbefndlaaGreatDoorH18
import Derived.Test.YthaibekbefndlaaGreatDoorH16
import Derived.Test.YthaibekbefndlaaGreatDoorH17
import Derived.Test.YthaibekbefndlaaGreatDoorH13

namespace Go.Proofs.YthaibekbefndlaaGreatDoor.C
open Go.RowKit

theorem LTk.noR {w : World} {b R k : Nat} {T : TV} {v1 v2 v3 v4 v5 : Value} {x : Tok} (h : LTk w b x) (hc : CU w R T k v1 v2 v3 v4 v5) : b ≠ R := by
 rintro rfl
 have e := h.symm.trans hc.1
 simp at e
def AaTold (w : World) (lo R : Nat) (T : TV) (k : Nat) (v1 v2 v3 v4 v5 : Value) : Except Er (List Elm) → Ending → World → Prop
 | .ok o', e, w' => ∃ u4, e = .returned (.tuple #[]) ∧ CU w' R T k v1 v2 v3 u4 v5 ∧ OrdAt w' lo u4 o' ∧ (∀ g, u4.ownBlock = some g → v4.ownBlock = some g ∨ w.heap.size ≤ g) ∧ Fr w w' (fun j => j = R ∨ v4.ownBlock = some j)
 | .error er, e, w' => e = .panicked (faultV er.1 er.2) ∧ Fr w w' (fun j => j = R ∨ v4.ownBlock = some j)
structure AaI (w : World) (lo R : Nat) (T : TV) (k : Nat) (v1 v2 v3 v4 v5 : Value) (H0 tb : Nat) (a b : Tok) (X : Except Er (List Elm)) (c : Nat) (o' : List Elm) (u4 : Value) (wr : World) : Prop where
 cu : CU wr R T k v1 v2 v3 u4 v5
 od : OrdAt wr lo u4 o'
 len : o'.length ≤ 500
 own : ∀ g, u4.ownBlock = some g → v4.ownBlock = some g ∨ w.heap.size ≤ g
 hi : One wr H0 35 (.int .i32 b.n)
 tk : LTk wr tb a
 fr : Fr w wr (fun j => j = R ∨ v4.ownBlock = some j)
 ans : X = runAll a o' c (b.n + 1 - c)
theorem among_any {o : List Elm} {l h : Int} : amongB o l h = true ↔ ∃ j : Nat, j < o.length ∧ (match o[j]? with | some e => amB e.cells l h | none => false) = true := by
 unfold amongB
 rw [List.any_eq_true]
 constructor
 ·rintro ⟨e, he, hb⟩
  obtain ⟨j, hj, rfl⟩ := List.mem_iff_getElem.1 he
  exact ⟨j, hj, by rw [List.getElem?_eq_getElem hj]; exact hb⟩
 ·rintro ⟨j, hj, hb⟩
  rw [List.getElem?_eq_getElem hj] at hb
  exact ⟨_, List.getElem_mem hj, hb⟩
section
variable {w : World} {lo R : Nat} {T : TV} {k : Nat} {v1 v2 v3 v4 v5 : Value} {H0 tb : Nat} {a b : Tok} {X : Except Er (List Elm)} {c : Nat} {o' : List Elm} {u4 : Value} {wr wr' : World}
theorem AaI.below (h : AaI w lo R T k v1 v2 v3 v4 v5 H0 tb a b X c o' u4 wr) (hb : Below wr.heap.size wr wr') : AaI w lo R T k v1 v2 v3 v4 v5 H0 tb a b X c o' u4 wr' :=
 ⟨h.cu.next hb, h.od.next hb, h.len, h.own, (hb.block _ h.hi.lt).trans h.hi, (hb.block _ h.tk.lt).trans h.tk, h.fr.trans (.of_below hb), h.ans⟩
theorem AaI.more {u5 : Value} {o5 : List Elm} {c5 : Nat} (h : AaI w lo R T k v1 v2 v3 v4 v5 H0 tb a b X c o' u4 wr) (hc : CU wr' R T k v1 v2 v3 u5 v5) (ho : OrdAt wr' lo u5 o5) (hw : ∀ g, u5.ownBlock = some g → u4.ownBlock = some g ∨ wr.heap.size ≤ g) (hf : Fr wr wr' (fun j => j = R ∨ u4.ownBlock = some j)) (hl : o5.length ≤ 500) (hx : X = runAll a o5 c5 (b.n + 1 - c5)) : AaI w lo R T k v1 v2 v3 v4 v5 H0 tb a b X c5 o5 u5 wr' := by
 obtain ⟨vs, hvs, hrow, hrr⟩ := h.od
 have hs := h.fr.size
 refine ⟨hc, ho, hl, ?_, h.hi.fr hf ?_, ?_, h.fr.next hf ?_, hx⟩
 ·intro g e
  rcases hw g e with e | e
  ·exact h.own g e
  ·exact .inr (by omega)
 ·rintro (e | e)
  ·exact h.hi.noR h.cu e
  ·exact row_ne hrow h.hi (by decide) e
 ·refine (hf.block _ h.tk.lt ?_).trans h.tk
  rintro (e | e)
  ·exact h.tk.noR h.cu e
  ·exact row_ne hrow h.tk (by decide) e
 ·rintro j hj (e | e)
  ·exact .inl e
  ·rcases h.own j e with e | e
   ·exact .inr e
   ·omega
end

set_option maxRecDepth 100000 in
set_option maxHeartbeats 8000000 in
theorem addAll_any (w : World) (lo R : Nat) (T : TV) (k : Nat) (v1 v2 v3 v4 v5 : Value) (a b : Tok) (o : List Elm) (h : CU w R T k v1 v2 v3 v4 v5) (ho : OrdAt w lo v4 o) (hn : o.length ≤ 500) (ha : a.n ≤ 1114111) (hb : b.n ≤ 1114111) (hlo : R < lo) (hlw : lo ≤ w.heap.size) :
  Calls Tryz.prog 131 #[.pointer (some ⟨R, 0, none⟩), tkV a, tkV b] w (AaTold w lo R T k v1 v2 v3 v4 v5 (addAllL o a b)) := by
 obtain ⟨A, cap, rfl⟩ := ho.form
 obtain ⟨W1, hW1⟩ : ∃ W1, W1 = (w.alloc (.cells #[.int .u8 a.k, .string (str a.t), .int .i64 a.n, .int .i64 a.at_] 92)).alloc (.cells #[.int .u8 b.k, .string (str b.t), .int .i64 b.n, .int .i64 b.at_] 92) := ⟨_, rfl⟩
 have hs1 : W1.heap.size = w.heap.size + 2 := by rw [hW1]; simp
 have hb1 : Below w.heap.size w W1 := by rw [hW1]; exact ((Below.refl _ _).alloc (Nat.le_refl _) _).alloc (by simp) _
 have HTa : Hid (LTk W1 w.heap.size a) := Lib.hid (by rw [hW1]; exact (LTk.new w a).alloc _)
 have HTb : Hid (LTk W1 (w.heap.size + 1) b) := Lib.hid (by rw [hW1]; exact LTk.at_ (by simp) b)
 have HC1 := Lib.hid (h.next hb1)
 have HO1 := Lib.hid (ho.next hb1)
 have HB1 := Lib.hid hb1
 have a0 : (0 : Int) ≤ (a.n : Int) := by omega
 have a1 : (a.n : Int) ≤ 1114111 := by omega
 have b0 : (0 : Int) ≤ (b.n : Int) := by omega
 have b1 : (b.n : Int) ≤ 1114111 := by omega
 have e1 : IntKind.i32.wrap (a.n : Int) = (a.n : Int) := wrap32 a0 a1
 have e4 : IntKind.i32.wrap (b.n : Int) = (b.n : Int) := wrap32 b0 b1
 have hR := h.lt
 have hmf : ∀ (fn : Fn) (first cap : Array Value) (w : World), (Instr.makeFunc fn first cap).run Tryz.prog w = .ok (.func fn first cap) w := fun _ _ _ _ => rfl
 obtain ⟨X, hX⟩ : ∃ X, X = addAllL o a b := ⟨_, rfl⟩
 rw [← hX]
 unfold addAllL at hX
 have HX := Lib.hid hX
 clear h ho hb1 hX
 unfold tkV
 go_enter Tryz.func131, Tryz.ntmps131
 go_wp2
 rw [← hW1]
 clear hW1
 have q1 := HTa.out.drew.cells.2.2.1
 have q2 := HTb.out.drew.cells.2.2.1
 have q3 := HTa.out.cells.2.2.1
 have q4 := HTb.out.cells.2.2.1
 have m1 := World.new_ne W1 _ HTa.out.cells.2.2.1
 have m2 := World.new_ne W1 _ HTb.out.cells.2.2.1
 have m3 : w.heap.size ≠ W1.heap.size + 1 := by omega
 have m4 : w.heap.size + 1 ≠ W1.heap.size + 1 := by omega
 have hs1' := Lib.hid hs1
 clear hs1
 go_region_held3 (fun W => W.cell? ⟨w.heap.size, 2, none⟩ = some (.int .i64 a.n) ∧ W.cell? ⟨w.heap.size + 1, 2, none⟩ = some (.int .i64 b.n)) (go_keep) (fail)
 ·obtain ⟨W2, hW2⟩ : ∃ W2, W2 = (W1.alloc (.cells #[.int .i32 a.n] 35)).alloc (.cells #[.int .i32 b.n] 35) := ⟨_, rfl⟩
  have hb2 : Below W1.heap.size W1 W2 := by rw [hW2]; exact ((Below.refl _ _).alloc (Nat.le_refl _) _).alloc (by simp) _
  have hNew : One W2 W1.heap.size 35 (.int .i32 a.n) ∧ One W2 (W1.heap.size + 1) 35 (.int .i32 b.n) := by
   rw [hW2]
   refine ⟨One.alloc (show One (W1.alloc _) W1.heap.size _ _ from heap_alloc_new W1 _) _, ?_⟩
   have := heap_alloc_new (W1.alloc (.cells #[.int .i32 a.n] 35)) (.cells #[.int .i32 b.n] 35)
   rw [World.size_alloc] at this
   exact this
  have HLH : Hid (One W2 (W1.heap.size) 35 (.int .i32 a.n) ∧ One W2 (W1.heap.size + 1) 35 (.int .i32 b.n)) := Lib.hid hNew
  have HT2 : Hid (LTk W2 w.heap.size a) := Lib.hid ((hb2.block _ HTa.out.lt).trans HTa.out)
  have HC2 := Lib.hid (HC1.out.next hb2)
  have HO2 := Lib.hid (HO1.out.next hb2)
  have HF2 : Hid (Fr w W2 (fun j => j = R ∨ (Value.slice A o.length cap).ownBlock = some j)) := Lib.hid ((Fr.of_below HB1.out).trans (.of_below hb2))
  clear hb2 hNew q1 q2 q3 q4 m1 m2 m3 m4
  try rw [← hW2]
  try change Exit.then _ _ _ _ W2.drew
  clear hW2
  obtain ⟨Wb, hWb⟩ : ∃ Wb, Wb = W1.heap.size + 1 := ⟨_, rfl⟩
  rw [← hWb] at HLH ⊢
  clear hWb
  obtain ⟨Wa, hWa⟩ : ∃ Wa, Wa = W1.heap.size := ⟨_, rfl⟩
  rw [← hWa] at HLH ⊢
  clear hWa
  obtain ⟨L0, hL0⟩ : ∃ L0, L0 = Wa := ⟨_, rfl⟩
  obtain ⟨H0, hH0⟩ : ∃ H0, H0 = Wb := ⟨_, rfl⟩
  rw [← hL0, ← hH0] at HLH ⊢
  clear hL0 hH0
  obtain ⟨vs, h1, h2, h3⟩ := HO2.out
  have hfind := hasAmong_any W2.drew W2.heap.size A o.length cap (ordR o vs) L0 H0 (fun j => match o[j]? with | some e => amB e.cells a.n b.n | none => false) (fun _ w' => Below W2.heap.size W2 w') (fun _ w' => Below W2.heap.size W2 w') (by unfold maxLen; omega) (below_drew (Below.refl _ _))
   (fun k w' hw => (SI.of_own h2 (ordR_len h1) ordR_each).on hw (Nat.le_refl _))
   (fun k x y z w' hx hw => by
    obtain ⟨e, u, he, hvx, hxe⟩ := ordR_at hx
    simp at hxe
    obtain ⟨rfl, rfl, rfl⟩ := hxe
    have hc := h3 k e y he hvx
    obtain ⟨Ax, cx, rfl⟩ := cells_form hc
    have hxs : RI .i32 W2 W2.heap.size Ax e.cells.length e.cells := RI.of_own hc
    have hl := hw.size
    refine (addAll1_any w' (str e.name) e.same Ax e.cells.length cx L0 H0 e.cells a.n b.n ((hxs.keep fun p hp => hw.cell hp).more hl) ((hw.block _ HLH.out.1.lt).trans HLH.out.1) ((hw.block _ HLH.out.2.lt).trans HLH.out.2)).mono ?_
    rintro e2 w2 ⟨rfl, hb2⟩
    have hw2 : Below W2.heap.size W2 w2 := hw.trans ⟨hb2.os, hb2.tape, hb2.output, hb2.size, fun i hi => hb2.block i (by omega)⟩
    simp only [he]
    exact ⟨rfl, fun _ => hw2, fun _ => hw2⟩)
  have q5 : W2.drew.cell? ⟨R, 5, none⟩ = some (.slice A o.length cap) := HC2.out.drew.more.2.2.2.1
  have HFI := Lib.hid hfind
  clear h1 h2 h3 hfind
  go_wp2_with fail
  refine HFI.out.mono ?_
  rintro e w3 (⟨j, hj, hq, -, rfl, hb3⟩ | ⟨hq, rfl, hb3⟩)
  ·have hX2 : Hid (X = .error (32, a.at_)) := Lib.hid (by have := HX.out; rw [if_pos (among_any.2 ⟨j, hj, hq⟩)] at this; exact this)
   have HT3 : Hid (LTk w3 w.heap.size a) := Lib.hid ((hb3.block _ HT2.out.lt).trans HT2.out)
   have HF3 := Lib.hid (HF2.out.trans (.of_below hb3))
   have hrf := fun W => refuse_any 32 a W
   unfold tkV at hrf
   obtain ⟨t0, t1, t2, t3⟩ := HT3.out.cells
   clear hb3 hq hj
   go_wp2_with fail
   refine (hrf _).mono ?_
   rintro e w4 ⟨rfl, hb4⟩
   have eX := hX2.out
   subst eX
   exact ⟨rfl, rfl, HF3.out.trans (.of_below hb4)⟩
  have hX2 : Hid (X = runAll a o a.n (b.n + 1 - a.n)) := Lib.hid (by
   have := HX.out
   rw [if_neg (fun h => by
    obtain ⟨j, hj, hb⟩ := among_any.1 h
    exact absurd (hb.symm.trans (hq j hj)) (by simp))] at this
   exact this)
  have HI3 : Hid (AaI w lo R T k v1 v2 v3 (.slice A o.length cap) v5 H0 w.heap.size a b X a.n o (.slice A o.length cap) w3) := Lib.hid ⟨HC2.out.next hb3, HO2.out.next hb3, hn, fun g e => .inl e, (hb3.block _ HLH.out.2.lt).trans HLH.out.2, (hb3.block _ HT2.out.lt).trans HT2.out, HF2.out.trans (.of_below hb3), hX2.out⟩
  have qL : w3.cell? ⟨L0, 0, none⟩ = some (.int .i32 a.n) := ((show One w3 L0 _ _ from (hb3.block _ HLH.out.1.lt).trans HLH.out.1)).cell
  clear hb3 hq HFI
  go_wp2
  go_loopw [8] (fun iv wr => ∃ (c : Nat) (o' : List Elm) (u4 : Value), iv = .int .i32 c ∧ c ≤ 1114112 ∧ Hid (AaI w lo R T k v1 v2 v3 (.slice A o.length cap) v5 H0 w.heap.size a b X c o' u4 wr)) (fun iv _ => b.n + 1 - (intOf iv).toNat)
  case atStart => exact ⟨a.n, o, _, rfl, by omega, HI3⟩
  case round =>
   obtain ⟨c, o', u4, rfl, hc9, HI⟩ := hrel
   have qH := HI.out.hi.cell
   by_cases hlt : c ≤ b.n
   ·have i1 : (c : Int) ≤ (b.n : Int) := by omega
    have i2 : IntKind.i32.wrap ((c : Int) + 1) = ((c + 1 : Nat) : Int) := by
     rw [IntKind.wrap_i32]
     omega
    have hm : b.n + 1 - c = (b.n + 1 - (c + 1)) + 1 := by omega
    cases hrc : rightN c with
    | false =>
     have his := fun W => isScalar_nat c W false hrc
     have HI4 : Hid (AaI w lo R T k v1 v2 v3 (.slice A o.length cap) v5 H0 w.heap.size a b X (c + 1) o' u4 wr) := Lib.hid ⟨HI.out.cu, HI.out.od, HI.out.len, HI.out.own, HI.out.hi, HI.out.tk, HI.out.fr, by
      have := HI.out.ans
      rw [hm, runAll, if_neg (by rw [hrc]; simp)] at this
      exact this⟩
     clear hrc hm
     go_wp2_with (go_at_call 63; refine (his _).mono ?_; rintro e w4 ⟨rfl, rfl⟩)
     go_roundw
     case rel => exact ⟨c + 1, o', u4, by go_num, by omega, HI4⟩
     case measure => simp only [intOf]; omega
    | true =>
     have his := fun W => isScalar_nat c W true hrc
     obtain ⟨t0, t1, t2, t3⟩ := HI.out.tk.cells
     have hlr := HI.out.fr.size
     have HIn : Hid (AaI w lo R T k v1 v2 v3 (.slice A o.length cap) v5 H0 w.heap.size a b X c o' u4 (wr.alloc (.cells #[.int .i32 c] 35))) := Lib.hid (HI.out.below ((Below.refl _ _).alloc (Nat.le_refl _) _))
     have had := addElem_any (wr.alloc (.cells #[.int .i32 c] 35)) lo R T k v1 v2 v3 u4 v5 (.slice (some ⟨wr.heap.size, 0, none⟩) 1 1) a o' [(c : Int)] HIn.out.cu HIn.out.od (own_one wr lo c wr.heap.size rfl (by omega)) (by have := HIn.out.len; omega) hlo (by simp; omega)
     unfold tkV at had
     have HRC := Lib.hid hrc
     have HM := Lib.hid hm
     clear hrc hm
     by_cases h5 : o'.length = 500
     ·have hX3 : Hid (X = .error (3, a.at_)) := Lib.hid (by
       have := HI.out.ans
       rw [HM.out, runAll, if_pos HRC.out, if_pos h5] at this
       exact this)
      have HAD := Lib.hid (had.mono (fun e w' h => h.resolve_right (fun h => h.1 h5)))
      clear had h5
      go_wp2_with (first
       | (go_at_call 63; refine (his _).mono ?_; rintro e w4 ⟨rfl, rfl⟩)
       | (go_at_call 135; refine HAD.out.mono ?_; rintro e w4 ⟨-, rfl, hb4⟩))
      have eX := hX3.out
      subst eX
      exact ⟨rfl, rfl, HIn.out.fr.trans (.of_below hb4)⟩
     ·have hX3 : Hid (X = runAll a (o' ++ [⟨a.t, [(c : Int)], o'.length⟩]) (c + 1) (b.n + 1 - (c + 1))) := Lib.hid (by
       have := HI.out.ans
       rw [HM.out, runAll, if_pos HRC.out, if_neg h5] at this
       exact this)
      have HAD := Lib.hid (had.mono (fun e w' h => h.resolve_left (fun h => h5 h.1)))
      have HL5 : Hid (o'.length + 1 ≤ 500) := Lib.hid (by have := HI.out.len; omega)
      clear had h5
      go_wp2_with (first
       | (go_at_call 63; refine (his _).mono ?_; rintro e w4 ⟨rfl, rfl⟩)
       | (go_at_call 135; refine HAD.out.mono ?_; rintro e w4 ⟨-, rfl, ⟨u5, hc5, ho5, hw5⟩, hf5⟩; (have HI5 := Lib.hid (HIn.out.more hc5 ho5 hw5 hf5 (by simpa using HL5.out) hX3.out)); clear hc5 ho5 hw5 hf5))
      go_roundw
      case rel => exact ⟨c + 1, _, u5, by go_num, by omega, HI5⟩
      case measure => simp only [intOf]; omega
   ·have hX3 : X = .ok o' := by
     have := HI.out.ans
     rw [show b.n + 1 - c = 0 by omega, runAll] at this
     exact this
    have i1 : ¬ (c : Int) ≤ (b.n : Int) := by omega
    have HX3 := Lib.hid hX3
    clear hX3
    go_wp2
    rw [HX3.out]
    go_end0
    exact ⟨u4, rfl, HI.out.cu, HI.out.od, HI.out.own, HI.out.fr⟩
 ·obtain ⟨W2, hW2⟩ : ∃ W2, W2 = (W1.alloc (.cells #[.int .i32 b.n] 35)).alloc (.cells #[.int .i32 a.n] 35) := ⟨_, rfl⟩
  have hb2 : Below W1.heap.size W1 W2 := by rw [hW2]; exact ((Below.refl _ _).alloc (Nat.le_refl _) _).alloc (by simp) _
  have hNew : One W2 W1.heap.size 35 (.int .i32 b.n) ∧ One W2 (W1.heap.size + 1) 35 (.int .i32 a.n) := by
   rw [hW2]
   refine ⟨One.alloc (show One (W1.alloc _) W1.heap.size _ _ from heap_alloc_new W1 _) _, ?_⟩
   have := heap_alloc_new (W1.alloc (.cells #[.int .i32 b.n] 35)) (.cells #[.int .i32 a.n] 35)
   rw [World.size_alloc] at this
   exact this
  have HLH : Hid (One W2 (W1.heap.size + 1) 35 (.int .i32 a.n) ∧ One W2 (W1.heap.size) 35 (.int .i32 b.n)) := Lib.hid ⟨hNew.2, hNew.1⟩
  have HT2 : Hid (LTk W2 w.heap.size a) := Lib.hid ((hb2.block _ HTa.out.lt).trans HTa.out)
  have HC2 := Lib.hid (HC1.out.next hb2)
  have HO2 := Lib.hid (HO1.out.next hb2)
  have HF2 : Hid (Fr w W2 (fun j => j = R ∨ (Value.slice A o.length cap).ownBlock = some j)) := Lib.hid ((Fr.of_below HB1.out).trans (.of_below hb2))
  clear hb2 hNew q1 q2 q3 q4 m1 m2 m3 m4
  try rw [← hW2]
  try change Exit.then _ _ _ _ W2.drew
  clear hW2
  obtain ⟨Wb, hWb⟩ : ∃ Wb, Wb = W1.heap.size + 1 := ⟨_, rfl⟩
  rw [← hWb] at HLH ⊢
  clear hWb
  obtain ⟨Wa, hWa⟩ : ∃ Wa, Wa = W1.heap.size := ⟨_, rfl⟩
  rw [← hWa] at HLH ⊢
  clear hWa
  obtain ⟨L0, hL0⟩ : ∃ L0, L0 = Wb := ⟨_, rfl⟩
  obtain ⟨H0, hH0⟩ : ∃ H0, H0 = Wa := ⟨_, rfl⟩
  rw [← hL0, ← hH0] at HLH ⊢
  clear hL0 hH0
  obtain ⟨vs, h1, h2, h3⟩ := HO2.out
  have hfind := hasAmong_any W2.drew W2.heap.size A o.length cap (ordR o vs) L0 H0 (fun j => match o[j]? with | some e => amB e.cells a.n b.n | none => false) (fun _ w' => Below W2.heap.size W2 w') (fun _ w' => Below W2.heap.size W2 w') (by unfold maxLen; omega) (below_drew (Below.refl _ _))
   (fun k w' hw => (SI.of_own h2 (ordR_len h1) ordR_each).on hw (Nat.le_refl _))
   (fun k x y z w' hx hw => by
    obtain ⟨e, u, he, hvx, hxe⟩ := ordR_at hx
    simp at hxe
    obtain ⟨rfl, rfl, rfl⟩ := hxe
    have hc := h3 k e y he hvx
    obtain ⟨Ax, cx, rfl⟩ := cells_form hc
    have hxs : RI .i32 W2 W2.heap.size Ax e.cells.length e.cells := RI.of_own hc
    have hl := hw.size
    refine (addAll1_any w' (str e.name) e.same Ax e.cells.length cx L0 H0 e.cells a.n b.n ((hxs.keep fun p hp => hw.cell hp).more hl) ((hw.block _ HLH.out.1.lt).trans HLH.out.1) ((hw.block _ HLH.out.2.lt).trans HLH.out.2)).mono ?_
    rintro e2 w2 ⟨rfl, hb2⟩
    have hw2 : Below W2.heap.size W2 w2 := hw.trans ⟨hb2.os, hb2.tape, hb2.output, hb2.size, fun i hi => hb2.block i (by omega)⟩
    simp only [he]
    exact ⟨rfl, fun _ => hw2, fun _ => hw2⟩)
  have q5 : W2.drew.cell? ⟨R, 5, none⟩ = some (.slice A o.length cap) := HC2.out.drew.more.2.2.2.1
  have HFI := Lib.hid hfind
  clear h1 h2 h3 hfind
  go_wp2_with fail
  refine HFI.out.mono ?_
  rintro e w3 (⟨j, hj, hq, -, rfl, hb3⟩ | ⟨hq, rfl, hb3⟩)
  ·have hX2 : Hid (X = .error (32, a.at_)) := Lib.hid (by have := HX.out; rw [if_pos (among_any.2 ⟨j, hj, hq⟩)] at this; exact this)
   have HT3 : Hid (LTk w3 w.heap.size a) := Lib.hid ((hb3.block _ HT2.out.lt).trans HT2.out)
   have HF3 := Lib.hid (HF2.out.trans (.of_below hb3))
   have hrf := fun W => refuse_any 32 a W
   unfold tkV at hrf
   obtain ⟨t0, t1, t2, t3⟩ := HT3.out.cells
   clear hb3 hq hj
   go_wp2_with fail
   refine (hrf _).mono ?_
   rintro e w4 ⟨rfl, hb4⟩
   have eX := hX2.out
   subst eX
   exact ⟨rfl, rfl, HF3.out.trans (.of_below hb4)⟩
  have hX2 : Hid (X = runAll a o a.n (b.n + 1 - a.n)) := Lib.hid (by
   have := HX.out
   rw [if_neg (fun h => by
    obtain ⟨j, hj, hb⟩ := among_any.1 h
    exact absurd (hb.symm.trans (hq j hj)) (by simp))] at this
   exact this)
  have HI3 : Hid (AaI w lo R T k v1 v2 v3 (.slice A o.length cap) v5 H0 w.heap.size a b X a.n o (.slice A o.length cap) w3) := Lib.hid ⟨HC2.out.next hb3, HO2.out.next hb3, hn, fun g e => .inl e, (hb3.block _ HLH.out.2.lt).trans HLH.out.2, (hb3.block _ HT2.out.lt).trans HT2.out, HF2.out.trans (.of_below hb3), hX2.out⟩
  have qL : w3.cell? ⟨L0, 0, none⟩ = some (.int .i32 a.n) := ((show One w3 L0 _ _ from (hb3.block _ HLH.out.1.lt).trans HLH.out.1)).cell
  clear hb3 hq HFI
  go_wp2
  go_loopw [8] (fun iv wr => ∃ (c : Nat) (o' : List Elm) (u4 : Value), iv = .int .i32 c ∧ c ≤ 1114112 ∧ Hid (AaI w lo R T k v1 v2 v3 (.slice A o.length cap) v5 H0 w.heap.size a b X c o' u4 wr)) (fun iv _ => b.n + 1 - (intOf iv).toNat)
  case atStart => exact ⟨a.n, o, _, rfl, by omega, HI3⟩
  case round =>
   obtain ⟨c, o', u4, rfl, hc9, HI⟩ := hrel
   have qH := HI.out.hi.cell
   by_cases hlt : c ≤ b.n
   ·have i1 : (c : Int) ≤ (b.n : Int) := by omega
    have i2 : IntKind.i32.wrap ((c : Int) + 1) = ((c + 1 : Nat) : Int) := by
     rw [IntKind.wrap_i32]
     omega
    have hm : b.n + 1 - c = (b.n + 1 - (c + 1)) + 1 := by omega
    cases hrc : rightN c with
    | false =>
     have his := fun W => isScalar_nat c W false hrc
     have HI4 : Hid (AaI w lo R T k v1 v2 v3 (.slice A o.length cap) v5 H0 w.heap.size a b X (c + 1) o' u4 wr) := Lib.hid ⟨HI.out.cu, HI.out.od, HI.out.len, HI.out.own, HI.out.hi, HI.out.tk, HI.out.fr, by
      have := HI.out.ans
      rw [hm, runAll, if_neg (by rw [hrc]; simp)] at this
      exact this⟩
     clear hrc hm
     go_wp2_with (go_at_call 63; refine (his _).mono ?_; rintro e w4 ⟨rfl, rfl⟩)
     go_roundw
     case rel => exact ⟨c + 1, o', u4, by go_num, by omega, HI4⟩
     case measure => simp only [intOf]; omega
    | true =>
     have his := fun W => isScalar_nat c W true hrc
     obtain ⟨t0, t1, t2, t3⟩ := HI.out.tk.cells
     have hlr := HI.out.fr.size
     have HIn : Hid (AaI w lo R T k v1 v2 v3 (.slice A o.length cap) v5 H0 w.heap.size a b X c o' u4 (wr.alloc (.cells #[.int .i32 c] 35))) := Lib.hid (HI.out.below ((Below.refl _ _).alloc (Nat.le_refl _) _))
     have had := addElem_any (wr.alloc (.cells #[.int .i32 c] 35)) lo R T k v1 v2 v3 u4 v5 (.slice (some ⟨wr.heap.size, 0, none⟩) 1 1) a o' [(c : Int)] HIn.out.cu HIn.out.od (own_one wr lo c wr.heap.size rfl (by omega)) (by have := HIn.out.len; omega) hlo (by simp; omega)
     unfold tkV at had
     have HRC := Lib.hid hrc
     have HM := Lib.hid hm
     clear hrc hm
     by_cases h5 : o'.length = 500
     ·have hX3 : Hid (X = .error (3, a.at_)) := Lib.hid (by
       have := HI.out.ans
       rw [HM.out, runAll, if_pos HRC.out, if_pos h5] at this
       exact this)
      have HAD := Lib.hid (had.mono (fun e w' h => h.resolve_right (fun h => h.1 h5)))
      clear had h5
      go_wp2_with (first
       | (go_at_call 63; refine (his _).mono ?_; rintro e w4 ⟨rfl, rfl⟩)
       | (go_at_call 135; refine HAD.out.mono ?_; rintro e w4 ⟨-, rfl, hb4⟩))
      have eX := hX3.out
      subst eX
      exact ⟨rfl, rfl, HIn.out.fr.trans (.of_below hb4)⟩
     ·have hX3 : Hid (X = runAll a (o' ++ [⟨a.t, [(c : Int)], o'.length⟩]) (c + 1) (b.n + 1 - (c + 1))) := Lib.hid (by
       have := HI.out.ans
       rw [HM.out, runAll, if_pos HRC.out, if_neg h5] at this
       exact this)
      have HAD := Lib.hid (had.mono (fun e w' h => h.resolve_left (fun h => h5 h.1)))
      have HL5 : Hid (o'.length + 1 ≤ 500) := Lib.hid (by have := HI.out.len; omega)
      clear had h5
      go_wp2_with (first
       | (go_at_call 63; refine (his _).mono ?_; rintro e w4 ⟨rfl, rfl⟩)
       | (go_at_call 135; refine HAD.out.mono ?_; rintro e w4 ⟨-, rfl, ⟨u5, hc5, ho5, hw5⟩, hf5⟩; (have HI5 := Lib.hid (HIn.out.more hc5 ho5 hw5 hf5 (by simpa using HL5.out) hX3.out)); clear hc5 ho5 hw5 hf5))
      go_roundw
      case rel => exact ⟨c + 1, _, u5, by go_num, by omega, HI5⟩
      case measure => simp only [intOf]; omega
   ·have hX3 : X = .ok o' := by
     have := HI.out.ans
     rw [show b.n + 1 - c = 0 by omega, runAll] at this
     exact this
    have i1 : ¬ (c : Int) ≤ (b.n : Int) := by omega
    have HX3 := Lib.hid hX3
    clear hX3
    go_wp2
    rw [HX3.out]
    go_end0
    exact ⟨u4, rfl, HI.out.cu, HI.out.od, HI.out.own, HI.out.fr⟩
end Go.Proofs.YthaibekbefndlaaGreatDoor.C

namespace Go.Proofs.YthaibekbefndlaaGreatDoor.C
open Go.RowKit

def prRow (r : Int × Int) : List Value := [.int .i32 r.1, .int .i32 r.2]
def PrsR (w : World) (B : Nat) (v : Value) (l : List (Int × Int)) : Prop := ∃ A c, v = .slice A l.length c ∧ SI 2 w B A l.length (l.map prRow)
def ClsR (w : World) (B : Nat) (v : Value) (cs : List Cls) : Prop := ∃ A c xs, v = .slice A cs.length c ∧ SI 2 w B A cs.length xs ∧ ∀ (i : Nat) (k : Cls), cs[i]? = some k → ∃ u, xs[i]? = some [.string (str k.name), u] ∧ PrsR w B u k.rs ∧ k.name.length ≤ maxLen ∧ k.rs.length ≤ maxLen
def OrdR (w : World) (B : Nat) (v : Value) (o : List Elm) : Prop := ∃ A c xs, v = .slice A o.length c ∧ SI 3 w B A o.length xs ∧ ∀ (i : Nat) (e : Elm), o[i]? = some e → ∃ Ac cc, xs[i]? = some [.string (str e.name), .slice Ac e.cells.length cc, .int .i64 e.same] ∧ RI .i32 w B Ac e.cells.length e.cells ∧ e.name.length ≤ maxLen ∧ e.cells.length ≤ maxLen
section
variable {w w' : World} {B : Nat} {v : Value}
theorem PrsR.keep {l : List (Int × Int)} (h : PrsR w B v l) (hk : ∀ p : Addr, p.block < B → w'.cell? p = w.cell? p) : PrsR w' B v l := by
 obtain ⟨A, c, e, h1⟩ := h
 exact ⟨A, c, e, h1.keep hk⟩
theorem ClsR.keep {l : List Cls} (h : ClsR w B v l) (hk : ∀ p : Addr, p.block < B → w'.cell? p = w.cell? p) : ClsR w' B v l := by
 obtain ⟨A, c, xs, e, h1, h2⟩ := h
 refine ⟨A, c, xs, e, h1.keep hk, fun i k hi => ?_⟩
 obtain ⟨u, a1, a2, a3⟩ := h2 i k hi
 exact ⟨u, a1, a2.keep hk, a3⟩
theorem OrdR.keep {l : List Elm} (h : OrdR w B v l) (hk : ∀ p : Addr, p.block < B → w'.cell? p = w.cell? p) : OrdR w' B v l := by
 obtain ⟨A, c, xs, e, h1, h2⟩ := h
 refine ⟨A, c, xs, e, h1.keep hk, fun i k hi => ?_⟩
 obtain ⟨a, b, a1, a2, a3⟩ := h2 i k hi
 exact ⟨a, b, a1, a2.keep hk, a3⟩
theorem PrsR.on {l : List (Int × Int)} {B' : Nat} (h : PrsR w B v l) (hb : Below B' w w') (hB : B ≤ B') : PrsR w' B v l := h.keep fun p hp => hb.cell (p := p) (by omega)
theorem ClsR.on {l : List Cls} {B' : Nat} (h : ClsR w B v l) (hb : Below B' w w') (hB : B ≤ B') : ClsR w' B v l := h.keep fun p hp => hb.cell (p := p) (by omega)
theorem OrdR.on {l : List Elm} {B' : Nat} (h : OrdR w B v l) (hb : Below B' w w') (hB : B ≤ B') : OrdR w' B v l := h.keep fun p hp => hb.cell (p := p) (by omega)
end
theorem prRow_at {l : List (Int × Int)} {k : Nat} {u v : Value} (h : (l.map prRow)[k]? = some [u, v]) : ∃ r, l[k]? = some r ∧ u = .int .i32 r.1 ∧ v = .int .i32 r.2 := by
 rw [List.getElem?_map] at h
 cases hl : l[k]? with
 | none => rw [hl] at h; cases h
 | some r =>
  rw [hl] at h
  simp [prRow] at h
  exact ⟨r, rfl, h.1.symm, h.2.symm⟩
theorem range_all_true {n : Nat} {f : Nat → Bool} (h : ∀ j, j < n → (!f j) = false) : (List.range n).all f = true := List.all_eq_true.2 fun j hj => by have := h j (List.mem_range.1 hj); simpa using this
theorem range_all_false {n k : Nat} {f : Nat → Bool} (hk : k < n) (h : (!f k) = true) : (List.range n).all f = false := by
 rw [List.all_eq_false]
 exact ⟨k, List.mem_range.2 hk, by simpa using h⟩
def atB {α : Type} (p : α → Bool) (l : List α) (j : Nat) : Bool := match l[j]? with
 | some x => p x
 | none => true
theorem atB_some {α : Type} {p : α → Bool} {l : List α} {j : Nat} {x : α} (h : l[j]? = some x) : atB p l j = p x := by unfold atB; rw [h]
theorem all_range_list {α : Type} (l : List α) (p : α → Bool) : (List.range l.length).all (atB p l) = l.all p := by
 rw [Bool.eq_iff_iff, List.all_eq_true, List.all_eq_true]
 constructor
 ·intro h x hx
  obtain ⟨j, hj, rfl⟩ := List.mem_iff_getElem.1 hx
  have := h j (List.mem_range.2 hj)
  rwa [atB_some (List.getElem?_eq_getElem hj)] at this
 ·intro h j hj
  have hj := List.mem_range.1 hj
  rw [atB_some (List.getElem?_eq_getElem hj)]
  exact h _ (List.getElem_mem hj)
set_option maxRecDepth 100000 in
set_option maxHeartbeats 2000000 in
theorem allRange1_any (W : World) (V0 : Nat) (r : Int × Int) (h : One W V0 117 (.func (.func 59) #[] #[])) :
  Calls Tryz.prog 104 #[.agg #[.int .i32 r.1, .int .i32 r.2], .pointer (some ⟨V0, 0, none⟩)] W fun e w' => e = .returned (.bool (!rangeB r)) ∧ Below W.heap.size W w' := by
 have hi := isRange_any (W.alloc (.cells #[.int .i32 r.1, .int .i32 r.2] 51)) r
 have q0 := (h.alloc (.cells #[.int .i32 r.1, .int .i32 r.2] 51)).cell
 clear h
 obtain ⟨a, b⟩ := r
 go_enter Tryz.func104, Tryz.ntmps104
 go_wp2_with fail
 refine hi.mono ?_
 rintro e w1 ⟨rfl, hb⟩
 have HB := Lib.hid hb
 clear hi hb
 go_wp2
 go_ret
 exact ⟨rfl, ((Below.refl _ _).alloc (Nat.le_refl _) _).trans (HB.out.mono (by simp))⟩
set_option maxRecDepth 100000 in
set_option maxHeartbeats 2000000 in
theorem allRange_any (w : World) (B : Nat) (v : Value) (rs : List (Int × Int)) (h : PrsR w B v rs) (hB : B ≤ w.heap.size) (hn : rs.length ≤ maxLen) :
  Calls Tryz.prog 58 #[v, .func (.func 59) #[] #[]] w fun e w' => e = .returned (.bool (rs.all rangeB)) ∧ Below w.heap.size w w' := by
 obtain ⟨A, c, rfl, hsi⟩ := h
 obtain ⟨W, hW⟩ : ∃ W, W = w.alloc (.cells #[.func (.func 59) #[] #[]] 117) := ⟨_, rfl⟩
 have hb : Below w.heap.size w W := by rw [hW]; exact (Below.refl _ _).alloc (Nat.le_refl _) _
 have hone : One W w.heap.size 117 (.func (.func 59) #[] #[]) := by rw [hW]; exact heap_alloc_new w _
 have hmf : ∀ (fn : Fn) (first cap : Array Value) (w : World), (Instr.makeFunc fn first cap).run Tryz.prog w = .ok (.func fn first cap) w := fun _ _ _ _ => rfl
 have hf := hasRange_any W B A rs.length c (rs.map prRow) w.heap.size (fun j => !atB rangeB rs j) (fun _ w' => Below W.heap.size W w') (fun _ w' => Below W.heap.size W w') hn (Below.refl _ _)
  (fun k w' hw => (hsi.on hb hB).on hw (by have := hb.size; omega))
  (fun k u v w' hx hw => by
   obtain ⟨r, hr, rfl, rfl⟩ := prRow_at hx
   refine (allRange1_any w' w.heap.size r ((hw.block _ hone.lt).trans hone)).mono ?_
   rintro e w2 ⟨rfl, hb2⟩
   have hw2 : Below W.heap.size W w2 := hw.trans ⟨hb2.os, hb2.tape, hb2.output, hb2.size, fun i hi => hb2.block i (by have := hw.size; omega)⟩
   simp only [atB_some hr]
   exact ⟨rfl, fun _ => hw2, fun _ => hw2⟩)
 have HB := Lib.hid hb
 have hbb : ∀ w2, Below W.heap.size W w2 → Below w.heap.size w w2 := fun w2 h2 => HB.out.trans ⟨h2.os, h2.tape, h2.output, h2.size, fun i hi => h2.block i (by have := HB.out.size; omega)⟩
 clear hsi hb hone
 go_enter Tryz.func58, Tryz.ntmps58
 go_wp2_with fail
 rw [← hW]
 refine hf.mono ?_
 rintro e w2 (⟨j, hj, hq, -, rfl, hb2⟩ | ⟨hq, rfl, hb2⟩)
 ·have hp : rs.all rangeB = false := by rw [← all_range_list]; exact range_all_false hj hq
  clear hq hf
  go_wp2
  go_ret
  rw [hp]
  exact ⟨rfl, hbb _ hb2⟩
 ·have hp : rs.all rangeB = true := by rw [← all_range_list]; exact range_all_true hq
  clear hq hf
  go_wp2
  go_ret
  rw [hp]
  exact ⟨rfl, hbb _ hb2⟩
end Go.Proofs.YthaibekbefndlaaGreatDoor.C

namespace Go.Proofs.YthaibekbefndlaaGreatDoor.C
open Go.RowKit

theorem str_empty (l : List UInt8) : (str l).toList.isEmpty = l.isEmpty := by rw [Lib.toList_data, str_list]
theorem elemB_one (nm : List UInt8) (u s : Int) : elemB ⟨nm, [u], s⟩ = (scalB u && nm.isEmpty) := rfl
theorem elemB_more {nm : List UInt8} {xs : List Int} (s : Int) (h : xs.length ≠ 1) : elemB ⟨nm, xs, s⟩ = (quotB xs && wordlyB nm && (numL nm).isNone) := by
 match xs, h with
 | [], _ => rfl
 | [_], h => exact absurd rfl h
 | _ :: _ :: _, _ => rfl
def Three (w : World) (b : Nat) (t : TypeId) (u v x : Value) : Prop := w.heap[b]? = some (.cells #[u, v, x] t (0, 0))
theorem Three.cells {w : World} {b : Nat} {t : TypeId} {u v x : Value} (h : Three w b t u v x) : w.cell? ⟨b, 0, none⟩ = some u ∧ w.cell? ⟨b, 1, none⟩ = some v ∧ w.cell? ⟨b, 2, none⟩ = some x := by simp [World.cell?, show w.heap[b]? = _ from h]
theorem Three.lt {w : World} {b : Nat} {t : TypeId} {u v x : Value} (h : Three w b t u v x) : b < w.heap.size := (Array.getElem?_eq_some_iff.1 h).1
theorem Three.new (w : World) (t : TypeId) (u v x : Value) : Three (w.alloc (.cells #[u, v, x] t)) w.heap.size t u v x := heap_alloc_new w _
set_option maxRecDepth 100000 in
set_option maxHeartbeats 4000000 in
theorem isElem_any (w : World) (B : Nat) (A : Option Addr) (n c : Nat) (nm : List UInt8) (xs : List Int) (s : Int) (h : RI .i32 w B A n xs) (hB : B ≤ w.heap.size) (hG : Gm w) (hn : nm.length ≤ maxLen) :
  Calls Tryz.prog 64 #[.agg #[.string (str nm), .slice A n c, .int .i64 s]] w fun e w' => e = .returned (.bool (elemB ⟨nm, xs, s⟩)) ∧ Below w.heap.size w w' := by
 obtain ⟨W1, hW1⟩ : ∃ W1, W1 = w.alloc (.cells #[.string (str nm), .slice A n c, .int .i64 s] 34) := ⟨_, rfl⟩
 have hb1 : Below w.heap.size w W1 := by rw [hW1]; exact (Below.refl _ _).alloc (Nat.le_refl _) _
 have HB1 := Lib.hid hb1
 have HX1 : Hid (Three W1 w.heap.size 34 (.string (str nm)) (.slice A n c) (.int .i64 s)) := Lib.hid (by rw [hW1]; exact Three.new w _ _ _ _)
 have hG1 := hG.next hb1
 have hs1 := hb1.size
 have hl := h.len
 by_cases h1 : n = 1
 ·subst h1
  obtain ⟨ad, u, rfl, hbl, hu, hc⟩ := h.at_ (k := 0) (by omega)
  have hz : ad.add 0 = ad := by
   unfold Addr.add
   cases ad
   simp
  rw [hz] at hc
  have hxs : xs = [u] := by
   match xs, hl, hu with
   | [x], _, hu => simp at hu; rw [hu]
  subst hxs
  rw [elemB_one]
  have q3 : W1.cell? ad = some (.int .i32 u) := (hb1.cell (by omega)).trans hc
  have hsc := isScalar_any u W1
  have hem := str_empty nm
  rw [hW1] at q3 hsc
  clear h hG hG1 hb1 hu hl hc
  cases hsb : scalB u with
  | false =>
   rw [hsb] at hsc
   clear hsb
   go_enter Tryz.func64, Tryz.ntmps64
   go_wp2_with (go_at_call 63; refine hsc.mono ?_; rintro e w' ⟨rfl, rfl⟩)
   go_ret
   rw [← hW1]
   exact ⟨rfl, HB1.out⟩
  | true =>
   rw [hsb] at hsc
   clear hsb
   obtain ⟨r, hr⟩ : ∃ r, r = nm.isEmpty := ⟨_, rfl⟩
   rw [← hr] at hem ⊢
   clear hr
   go_enter Tryz.func64, Tryz.ntmps64
   go_wp2_with (go_at_call 63; refine hsc.mono ?_; rintro e w' ⟨rfl, rfl⟩)
   go_ret
   rw [← hW1]
   exact ⟨rfl, HB1.out⟩
 have i1 : ¬ (n : Int) = 1 := by omega
 rw [elemB_more s (by omega)]
 have hiq := isQuotable_any W1 B A n c xs (h.keep fun p hp => hb1.cell (by omega)) (by omega) hG1
 rw [hW1] at hiq
 clear h hG hG1 hb1 hl
 cases hq : quotB xs with
 | false =>
  rw [hq] at hiq
  simp only [Bool.false_and]
  clear hq
  go_enter Tryz.func64, Tryz.ntmps64
  go_wp2_with (go_at_call 109; refine hiq.mono ?_; rintro e w2 ⟨rfl, hb⟩; (have HB := Lib.hid hb); clear hb)
  go_ret
  exact ⟨rfl, HB1.out.trans (by rw [hW1]; exact HB.out.mono (by simp))⟩
 | true =>
  rw [hq] at hiq
  simp only [Bool.true_and]
  clear hq
  have hiw := fun W => isWord_any (str nm) W (by rw [str_size]; unfold maxLen at hn; omega)
  rw [str_list] at hiw
  have hsn := fun W => isScalarName_any nm W hn
  have hstep : ∀ w2, Below (w.alloc (.cells #[.string (str nm), .slice A n c, .int .i64 s] 34)).heap.size (w.alloc (.cells #[.string (str nm), .slice A n c, .int .i64 s] 34)) w2 → w2.cell? ⟨w.heap.size, 0, none⟩ = some (.string (str nm)) := by
   rw [← hW1]
   intro w2 hb
   exact (show Three w2 w.heap.size _ _ _ _ from (hb.block _ HX1.out.lt).trans HX1.out).cells.1
  have HST := Lib.hid hstep
  clear hstep
  cases hwd : wordlyB nm with
  | false =>
   rw [hwd] at hiw
   simp only [Bool.false_and]
   clear hwd hsn
   go_enter Tryz.func64, Tryz.ntmps64
   go_wp2_with (first
    | (go_at_call 109; refine hiq.mono ?_; rintro e w2 ⟨rfl, hb⟩; (have q9 := HST.out w2 hb); (have HB := Lib.hid hb); clear hb)
    | (go_at_call 57; refine (hiw _).mono ?_; rintro e w3 ⟨rfl, hb3⟩; (have HB3 := Lib.hid hb3); clear hb3))
   go_ret
   exact ⟨rfl, HB1.out.trans (by rw [hW1]; exact (HB.out.trans (HB3.out.mono HB.out.size)).mono (by simp))⟩
  | true =>
   rw [hwd] at hiw
   simp only [Bool.true_and]
   obtain ⟨r, hr⟩ : ∃ r, r = (numL nm).isSome := ⟨_, rfl⟩
   have hnr : (numL nm).isNone = !r := by rw [hr]; cases numL nm <;> rfl
   rw [← hr] at hsn
   rw [hnr]
   clear hwd hr hnr
   go_enter Tryz.func64, Tryz.ntmps64
   go_wp2_with (first
    | (go_at_call 109; refine hiq.mono ?_; rintro e w2 ⟨rfl, hb⟩; (have q9 := HST.out w2 hb); (have HB := Lib.hid hb); clear hb)
    | (go_at_call 57; refine (hiw _).mono ?_; rintro e w3 ⟨rfl, hb3⟩; (have q8 := HST.out w3 (HB.out.trans (hb3.mono HB.out.size))); (have HB3 := Lib.hid hb3); clear hb3)
    | (go_at_call 110; refine (hsn _).mono ?_; rintro e w4 ⟨rfl, hb4⟩; (have HB4 := Lib.hid hb4); clear hb4))
   go_ret
   have hb3 := HB.out.trans (HB3.out.mono HB.out.size)
   exact ⟨rfl, HB1.out.trans (by rw [hW1]; exact (hb3.trans (HB4.out.mono hb3.size)).mono (by simp))⟩
theorem SI.at_same {w : World} {B : Nat} {A : Option Addr} {o : List Elm} {xs : List (List Value)} {i : Nat} {e : Elm} (hsi : SI 3 w B A o.length xs) (hel : ∃ Ac cc, xs[i]? = some [.string (str e.name), .slice Ac e.cells.length cc, .int .i64 e.same]) (hi : i < o.length) : ∃ ad : Addr, A = some ad ∧ w.cell? ⟨(ad.add (i * 3)).block, (ad.add (i * 3)).off + 2, none⟩ = some (.int .i64 e.same) := by
 obtain ⟨ad, a, b, z, hA, _, hx, _, _, c2⟩ := hsi.at3 hi
 obtain ⟨Ac, cc, hxe⟩ := hel
 rw [hx] at hxe
 simp at hxe
 rw [hxe.2.2] at c2
 exact ⟨ad, hA, c2⟩
set_option maxRecDepth 100000 in
set_option maxHeartbeats 2000000 in
theorem rightSame_any (w : World) (B : Nat) (v : Value) (o : List Elm) (h : OrdR w B v o) (i : Nat) (e : Elm) (he : o[i]? = some e) :
  Calls Tryz.prog 66 #[v, .int .i64 i] w fun r w' => r = .returned (.bool (sameAt o i e)) ∧ w' = w := by
 obtain ⟨A, c, xs, rfl, hsi, hel⟩ := h
 have hi : i < o.length := (List.getElem?_eq_some_iff.1 he).1
 have hAt : ∀ (j : Nat) (x : Elm), o[j]? = some x → ∃ Ac cc, xs[j]? = some [.string (str x.name), .slice Ac x.cells.length cc, .int .i64 x.same] := fun j x hx => by
  obtain ⟨a, b, h1, _⟩ := hel j x hx
  exact ⟨a, b, h1⟩
 obtain ⟨ad, rfl, q0⟩ := hsi.at_same (hAt i e he) hi
 have i0 : (0 : Int) ≤ (i : Int) := by omega
 have i1 : (i : Int) < (o.length : Int) := by omega
 by_cases h0 : 0 ≤ e.same
 ·by_cases h1 : e.same ≤ i
  ·have hj : e.same.toNat < o.length := by omega
   obtain ⟨x, hx⟩ : ∃ x, o[e.same.toNat]? = some x := ⟨_, List.getElem?_eq_getElem hj⟩
   obtain ⟨ad2, had, q1⟩ := hsi.at_same (hAt _ x hx) hj
   injection had with had
   subst had
   have hr : sameAt o i e = decide (x.same = e.same) := by unfold sameAt; rw [hx, decide_eq_true ⟨h0, h1⟩]; rfl
   rw [hr]
   obtain ⟨j, hjn⟩ : ∃ j, j = e.same.toNat := ⟨_, rfl⟩
   rw [← hjn] at q1 hj
   have hse : e.same = (j : Int) := by omega
   rw [hse] at q0 ⊢
   have j0 : (0 : Int) ≤ (j : Int) := by omega
   have j1 : (j : Int) ≤ (i : Int) := by omega
   have j2 : (j : Int) < (o.length : Int) := by omega
   obtain ⟨y, hy⟩ : ∃ y, y = x.same := ⟨_, rfl⟩
   rw [← hy] at q1 ⊢
   clear hsi hel hAt he hr hx hjn hse h0 h1 hy
   go_enter Tryz.func66, Tryz.ntmps66
   go_wp2
   go_ret
   exact ⟨rfl, rfl⟩
  ·have hr : sameAt o i e = false := by unfold sameAt; rw [decide_eq_false (fun h => h1 h.2)]; rfl
   rw [hr]
   clear hsi hel hAt he hr
   go_enter Tryz.func66, Tryz.ntmps66
   go_wp2
   go_ret
   exact ⟨rfl, rfl⟩
 ·have hr : sameAt o i e = false := by unfold sameAt; rw [decide_eq_false (fun h => h0 h.1)]; rfl
  rw [hr]
  clear hsi hel hAt he hr
  go_enter Tryz.func66, Tryz.ntmps66
  go_wp2
  go_ret
  exact ⟨rfl, rfl⟩
end Go.Proofs.YthaibekbefndlaaGreatDoor.C
