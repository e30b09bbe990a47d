/-
  Joined: KoF, LiE. Each with what its own head says.
-/
import Derived.Test.YtknjhlbhbnldpaaGreatDoorB14
import Derived.Test.YtknjhlbhbnldpaaGreatDoorB13

namespace Go.Proofs.YtknjhlbhbnldpaaGreatDoor.C
open Go.RowKit

theorem right_up {L : Loc} (h : rightL L = true) : (L.up.map Prod.fst).Nodup := by unfold rightL at h; simp only [Bool.and_eq_true] at h; exact pairs_nodup h.1.1.2
theorem right_lo {L : Loc} (h : rightL L = true) : (L.lo.map Prod.fst).Nodup := by unfold rightL at h; simp only [Bool.and_eq_true] at h; exact pairs_nodup h.1.2
theorem right_cls {L : Loc} (h : rightL L = true) : (L.cls.map Cls.name).Nodup := by unfold rightL at h; simp only [Bool.and_eq_true] at h; exact cls_nodup h.1.1.1
theorem right_ord {L : Loc} (h : rightL L = true) : ordB L.ord = true := by unfold rightL at h; simp only [Bool.and_eq_true] at h; exact h.2
set_option maxRecDepth 100000 in
set_option maxHeartbeats 1000000 in
theorem count_any (w : World) (T : Nat) (L : Loc) (n : Int) (h : TabAt w T L n) (h0 : 0 ≤ n) (h1 : n < 4611686018427387904) :
  Calls Tryz.prog 35 #[.pointer (some ⟨T, 0, none⟩)] w fun e w' => e = .returned (.tuple #[]) ∧ TabAt w' T L (n + 1) ∧ Fr w w' (· = T) := by
 obtain ⟨hc, hz⟩ := h.cell0
 have hadd := run_call_add (P := Tryz.prog) Tryz.func112 (by kernel_rfl) (by kernel_rfl) (by kernel_rfl) .i64 (by kernel_rfl) (y := 1) (s := n + 1) hc hz (by simp [go_sem]; rw [IntKind.wrap_i64]; omega)
 have HT : Hid (TabAt (w.setCell ⟨T, 0, none⟩ (.int .i64 (n + 1))) T L (n + 1) ∧ Fr w (w.setCell ⟨T, 0, none⟩ (.int .i64 (n + 1))) (· = T)) := Lib.hid ⟨h.count, (Fr.refl w _).setT _ _⟩
 clear h hc hz
 go_enter Tryz.func35, Tryz.ntmps35
 go_wp2
 go_end0
 exact ⟨rfl, HT.out⟩
set_option maxRecDepth 100000 in
set_option maxHeartbeats 1000000 in
theorem asked_any (w : World) (T : Nat) (L : Loc) (n : Int) (h : TabAt w T L n) :
  Calls Tryz.prog 22 #[.pointer (some ⟨T, 0, none⟩)] w fun e w' => e = .returned (.int .i64 n) ∧ w' = w := by
 obtain ⟨hc, hz⟩ := h.cell0
 have hl := run_call_load (P := Tryz.prog) Tryz.func124 (by kernel_rfl) (by kernel_rfl) (by kernel_rfl) .i64 (by kernel_rfl) hc
 clear h hz
 go_enter Tryz.func22, Tryz.ntmps22
 go_wp2
 go_ret
 exact ⟨rfl, rfl⟩
theorem zeroCell32 (w : World) : (zeroValue 23).run Tryz.prog w = .ok (.int .i32 0) w := by kernel_rfl
theorem zeroInt64 (w : World) : (zeroValue 3).run Tryz.prog w = .ok (.int .i64 0) w := by kernel_rfl
set_option maxRecDepth 100000 in
set_option maxHeartbeats 2000000 in
theorem ofP_any (T o : Nat) (t : TypeId) (l : List Value) (w : World) (v : Value) (ps : List (Int × Int)) (c : Int) (hr : Row w T t l) (hk : Lk l o (PPair T ps w)) (hl : l[o + 4]? = some v) (hps : PrsR w T v ps) (hn : ps.length ≤ maxLen) (hnd : (ps.map Prod.fst).Nodup) :
  Calls Tryz.prog 36 #[.pointer (some ⟨T, o, none⟩), .int .i32 c] w fun e w' => e = .returned (.int .i32 (toL ps c)) ∧ Fr w w' (· = T) ∧ ∃ l', Row w' T t l' ∧ Lk l' o (PPair T ps w') ∧ Else l l' o := by
 have hget := getCC_any T o t l w 77 (.pointer (some ⟨T, o, none⟩)) (PPair T ps) hr hk (fun W W' M h hf => h.fr hf) (fun args w => run_enter Tryz.func77 (by kernel_rfl) rfl args w) (fillPair T o t l w v ps hl hps hn hnd hr.lt)
 have hmf : ∀ (fn : Fn) (first cap : Array Value) (w : World), (Instr.makeFunc fn first cap).run Tryz.prog w = .ok (.func fn first cap) w := fun _ _ _ _ => rfl
 have HND := Lib.hid hnd
 clear hr hk hl hps hn hnd
 go_enter Tryz.func36, Tryz.ntmps36
 go_wp2_with fail
 refine hget.mono ?_
 rintro e w1 ⟨M, rfl, hp, hf, l', hr', hk', he⟩
 have HQ : Hid (Fr w w1 (· = T) ∧ ∃ l', Row w1 T t l' ∧ Lk l' o (PPair T ps w1) ∧ Else l l' o) := Lib.hid ⟨hf, l', hr', hk', he⟩
 have hm := hp.2
 clear hget hp hf hr' hk' he
 by_cases hc : c ∈ ps.map Prod.fst
 ·obtain ⟨p, hp, e⟩ := List.mem_map.1 hc
  have q := hm.look_yes (P := Tryz.prog) Tryz.underlying96 Tryz.underlying23 (key := .int .i32 c) (v := .int .i32 p.2) (by first | trivial | rfl) (by rw [← e]; exact List.mem_map.2 ⟨p, hp, rfl⟩) true
  have HV : Hid (toL ps c = p.2) := Lib.hid (by rw [← e]; exact toL_in HND.out hp)
  clear hm hp
  go_wp2
  go_ret
  exact ⟨by rw [HV.out]; rfl, HQ.out⟩
 ·have q := hm.look_no (P := Tryz.prog) Tryz.underlying96 Tryz.underlying23 (key := .int .i32 c) (by first | trivial | rfl) (by
   rw [map_fst_pair]
   intro h
   obtain ⟨x, hx, e⟩ := List.mem_map.1 h
   injection e with _ e
   exact hc (e ▸ hx)) (zeroCell32 w1) true
  have HV : Hid (toL ps c = c) := Lib.hid (toL_out hc)
  clear hm
  go_wp2
  go_ret
  exact ⟨by rw [HV.out]; rfl, HQ.out⟩
theorem up_any (w : World) (T : Nat) (L : Loc) (n c : Int) (h : TabAt w T L n) (hR : rightL L = true) :
  Calls Tryz.prog 36 #[.pointer (some ⟨T, 19, none⟩), .int .i32 c] w fun e w' => e = .returned (.int .i32 (toL L.up c)) ∧ TabAt w' T L n ∧ Fr w w' (· = T) := by
 obtain ⟨l, v1, v2, v3, v4, hr, h1, h2, h3, h4, h5, h6, h7, k1, k2, k3, k4, k5, k6⟩ := h
 refine (ofP_any T 19 _ l w v2 L.up c hr k5 h5 h7.2.1 h7.2.2.2.2.2.1 (right_up hR)).mono ?_
 rintro e w' ⟨rfl, hf, l', hr', hk', he⟩
 exact ⟨rfl, TabAt.step hf hr hr' 19 (by simp) he ⟨h1, h2, h3, h4, h5, h6, h7⟩ (.inr ⟨by omega, k1⟩) (.inr ⟨by omega, k2⟩) (.inr ⟨by omega, k3⟩) (.inr ⟨by omega, k4⟩) (.inl hk') (.inr ⟨by omega, k6⟩), hf⟩
theorem lo_any (w : World) (T : Nat) (L : Loc) (n c : Int) (h : TabAt w T L n) (hR : rightL L = true) :
  Calls Tryz.prog 36 #[.pointer (some ⟨T, 24, none⟩), .int .i32 c] w fun e w' => e = .returned (.int .i32 (toL L.lo c)) ∧ TabAt w' T L n ∧ Fr w w' (· = T) := by
 obtain ⟨l, v1, v2, v3, v4, hr, h1, h2, h3, h4, h5, h6, h7, k1, k2, k3, k4, k5, k6⟩ := h
 refine (ofP_any T 24 _ l w v3 L.lo c hr k6 h6 h7.2.2.1 h7.2.2.2.2.2.2 (right_lo hR)).mono ?_
 rintro e w' ⟨rfl, hf, l', hr', hk', he⟩
 exact ⟨rfl, TabAt.step hf hr hr' 24 (by simp) he ⟨h1, h2, h3, h4, h5, h6, h7⟩ (.inr ⟨by omega, k1⟩) (.inr ⟨by omega, k2⟩) (.inr ⟨by omega, k3⟩) (.inr ⟨by omega, k4⟩) (.inr ⟨by omega, k5⟩) (.inl hk'), hf⟩
set_option maxRecDepth 100000 in
set_option maxHeartbeats 1000000 in
theorem upper_any (w : World) (T : Nat) (L : Loc) (n c : Int) (h : TabAt w T L n) (h0 : 0 ≤ n) (h1 : n < 4611686018427387904) (hR : rightL L = true) :
  Calls Tryz.prog 39 #[.pointer (some ⟨T, 0, none⟩), .int .i32 c] w fun e w' => e = .returned (.int .i32 (toL L.up c)) ∧ TabAt w' T L (n + 1) ∧ Fr w w' (· = T) := by
 have hc := count_any w T L n h h0 h1
 clear h
 go_enter Tryz.func39, Tryz.ntmps39
 go_wp2_with fail
 refine hc.mono ?_
 rintro e w1 ⟨rfl, ht, hf⟩
 have hu := up_any w1 T L (n + 1) c ht hR
 have HF := Lib.hid hf
 clear hc ht hf
 go_wp2_with fail
 refine hu.mono ?_
 rintro e w2 ⟨rfl, ht, hf⟩
 have HE : Hid (TabAt w2 T L (n + 1) ∧ Fr w w2 (· = T)) := Lib.hid ⟨ht, HF.out.trans hf⟩
 clear hu ht hf
 go_wp2
 go_ret
 exact ⟨rfl, HE.out⟩
theorem RI.fr {ki : IntKind} {w w' : World} {B n : Nat} {A : Option Addr} {zs : List Int} {X : Nat → Prop} (h : RI ki w B A n zs) (hf : Fr w w' X) (hB : B ≤ w.heap.size) (hx : 0 < n → ∀ ad, A = some ad → ¬ X ad.block) : RI ki w' B A n zs :=
 ⟨h.1, fun hn => by
  obtain ⟨ad, e, hb, hc⟩ := h.2 hn
  exact ⟨ad, e, hb, fun j u hu => (World.cell?_of_block (hf.block (ad.add j).block (by rw [block_of_add]; omega) (by rw [block_of_add]; exact hx hn ad e))).trans (hc j u hu)⟩⟩
theorem rank_at {o : List Elm} {i : Nat} {e : Elm} (he : o[i]? = some e) : ((Value.string (str (textL e.cells)), Value.int .i64 (i : Int)) : Value × Value) ∈ rankKV 0 o := by
 have h : ∀ (o : List Elm) (k i : Nat), o[i]? = some e → ((Value.string (str (textL e.cells)), Value.int .i64 ((k + i : Nat) : Int)) : Value × Value) ∈ rankKV k o := by
  intro o
  induction o with
  | nil => intro k i h; cases h
  | cons x r ih =>
   intro k i h
   cases i with
   | zero =>
    obtain rfl : x = e := by simpa using h
    exact List.mem_cons_self
   | succ j =>
    have := ih (k + 1) j (by simpa using h)
    rw [show k + (j + 1) = k + 1 + j by omega]
    exact List.mem_cons_of_mem _ this
 have := h o 0 i he
 rwa [Nat.zero_add] at this
theorem first_at : ∀ {o : List Elm} {cs : List Int}, (∃ e ∈ o, e.cells = cs) → ∃ (i : Nat) (e : Elm), o[i]? = some e ∧ e.cells = cs ∧ ∀ x ∈ o.take i, x.cells ≠ cs
 | [], _, h => by obtain ⟨e, he, _⟩ := h; cases he
 | x :: r, cs, h => by
  by_cases hx : x.cells = cs
  ·exact ⟨0, x, rfl, hx, by simp⟩
  ·obtain ⟨i, e, h1, h2, h3⟩ := first_at (o := r) (cs := cs) (by
    obtain ⟨e, he, hc⟩ := h
    rcases List.mem_cons.1 he with rfl | he
    ·exact absurd hc hx
    ·exact ⟨e, he, hc⟩)
   refine ⟨i + 1, e, by simpa using h1, h2, fun y hy => ?_⟩
   rw [List.take_succ_cons] at hy
   rcases List.mem_cons.1 hy with rfl | hy
   ·exact hx
   ·exact h3 y hy
theorem place_is {o : List Elm} {cs : List Int} : (∃ (i : Nat) (e : Elm), o[i]? = some e ∧ e.cells = cs ∧ placeV o cs = (i : Int)) ∨ ((∀ e ∈ o, e.cells ≠ cs) ∧ placeV o cs = -1) := by
 by_cases h : ∃ e ∈ o, e.cells = cs
 ·obtain ⟨i, e, he, hc, hx⟩ := first_at h
  exact .inl ⟨i, e, he, hc, placeV_at he hc hx⟩
 ·have h' : ∀ e ∈ o, e.cells ≠ cs := fun e he hc => h ⟨e, he, hc⟩
  exact .inr ⟨h', placeV_none h'⟩
set_option maxRecDepth 100000 in
set_option maxHeartbeats 2000000 in
theorem rankO_any (w : World) (T : Nat) (L : Loc) (n : Int) (Bx : Nat) (Ax : Option Addr) (m cx : Nat) (cs : List Int) (h : TabAt w T L n) (hR : rightL L = true) (hx : RI .i32 w Bx Ax m cs) (hBx : Bx ≤ w.heap.size) (hxT : 0 < m → ∀ ad, Ax = some ad → ad.block ≠ T) (hG : Gl w) (hgT : (5 : Nat) < T) :
  Calls Tryz.prog 63 #[.pointer (some ⟨T, 1, none⟩), .slice Ax m cx] w fun e w' => e = .returned (.int .i64 (placeV L.ord cs)) ∧ TabAt w' T L n ∧ Fr w w' (· = T) := by
 have hord := right_ord hR
 by_cases hm : 4 < m
 ·have hp : placeV L.ord cs = -1 := placeV_none (fun e he hc => by
   have := len4 hord he
   rw [hc, hx.len] at this
   omega)
  have hm' : (4 : Int) < (m : Int) := by omega
  have HE : Hid (TabAt w T L n ∧ Fr w w (· = T)) := Lib.hid ⟨h, Fr.refl _ _⟩
  clear h hx hxT hG
  rw [hp]
  go_enter Tryz.func63, Tryz.ntmps63
  go_wp2
  go_ret
  exact ⟨rfl, HE.out⟩
 ·have hm' : ¬ (4 : Int) < (m : Int) := by omega
  obtain ⟨l, v1, v2, v3, v4, hr, h1, h2, h3, h4, h5, h6, h7, k1, k2, k3, k4, k5, k6⟩ := h
  have hget := getSI_any T 2 _ l w 93 (.pointer (some ⟨T, 1, none⟩)) (PRank T L.ord) hr k1 (fun W W' M h hf => h.fr hf) (fun args w => run_enter Tryz.func93 (by kernel_rfl) rfl args w) (fillRank T _ l w v4 L.ord h3 h7.2.2.2.1 hord hr.lt hG hgT)
  have hmf : ∀ (fn : Fn) (first cap : Array Value) (w : World), (Instr.makeFunc fn first cap).run Tryz.prog w = .ok (.func fn first cap) w := fun _ _ _ _ => rfl
  have HS : Hid (∀ w' l', Fr w w' (· = T) → Row w' T 107 l' → Lk l' 2 (PRank T L.ord w') → Else l l' 2 → TabAt w' T L n) := Lib.hid (fun w' l' hf hr' hk' he => TabAt.step hf hr hr' 2 (by simp) he ⟨h1, h2, h3, h4, h5, h6, h7⟩ (.inl hk') (.inr ⟨by omega, k2⟩) (.inr ⟨by omega, k3⟩) (.inr ⟨by omega, k4⟩) (.inr ⟨by omega, k5⟩) (.inr ⟨by omega, k6⟩))
  have HX := Lib.hid hx
  have HXT := Lib.hid hxT
  have HG := Lib.hid hG
  have HTl : Hid (T ≤ w.heap.size) := Lib.hid (Nat.le_of_lt hr.lt)
  have HORD := Lib.hid hord
  clear hr h1 h2 h3 h4 h5 h6 h7 k1 k2 k3 k4 k5 k6 hx hxT hG hord
  go_enter Tryz.func63, Tryz.ntmps63
  go_wp2_with fail
  refine hget.mono ?_
  rintro e w1 ⟨M, rfl, hp, hf, l', hr', hk', he⟩
  have hs := hf.size
  have htx := text_any w1 Bx Ax m cx cs (HX.out.fr hf hBx HXT.out) (by omega) (by omega) (((hf.belowT HTl.out).cell (p := ⟨5, 15, none⟩) hgT).trans HG.out)
  have HQ : Hid (TabAt w1 T L n ∧ Fr w w1 (· = T)) := Lib.hid ⟨HS.out _ _ hf hr' hk' he, hf⟩
  have HM := Lib.hid hp.2
  clear hget hp hf hr' hk' he hs
  go_wp2_with fail
  refine htx.mono ?_
  rintro e w2 ⟨rfl, hb2⟩
  have HQ2 : Hid (TabAt w2 T L n ∧ Fr w w2 (· = T)) := Lib.hid ⟨HQ.out.1.keep hb2, HQ.out.2.trans (.of_below hb2)⟩
  have hm2 := HM.out.at_ (hb2.block M HM.out.lt)
  clear htx hb2
  rcases place_is (o := L.ord) (cs := cs) with ⟨i, e, he, hc, hp⟩ | ⟨hno, hp⟩
  ·have q := hm2.look_yes (P := Tryz.prog) Tryz.underlying72 Tryz.underlying9 (key := .string (str (textL cs))) (v := .int .i64 (i : Int)) (by first | trivial | rfl) (by rw [← hc]; exact rank_at he) true
   have HP := Lib.hid hp
   clear hm2 he hp hc
   go_wp2
   go_ret
   exact ⟨by rw [HP.out]; rfl, HQ2.out⟩
  ·have q := hm2.look_no (P := Tryz.prog) Tryz.underlying72 Tryz.underlying9 (key := .string (str (textL cs))) (by first | trivial | rfl) (by
    rw [rank_keys]
    intro h
    obtain ⟨x, hx, e⟩ := List.mem_map.1 h
    exact hno x hx (textL_any (elemB_right (ord_elem HORD.out hx)) (strV_inj e))) (zeroInt64 w2) true
   have HP := Lib.hid hp
   clear hm2 hno hp
   go_wp2
   go_ret
   exact ⟨by rw [HP.out]; rfl, HQ2.out⟩
set_option maxRecDepth 100000 in
set_option maxHeartbeats 1000000 in
theorem rank_any (w : World) (T : Nat) (L : Loc) (n : Int) (Bx : Nat) (Ax : Option Addr) (m cx : Nat) (cs : List Int) (h : TabAt w T L n) (h0 : 0 ≤ n) (h1 : n < 4611686018427387904) (hR : rightL L = true) (hx : RI .i32 w Bx Ax m cs) (hBx : Bx ≤ w.heap.size) (hxT : 0 < m → ∀ ad, Ax = some ad → ad.block ≠ T) (hG : Gl w) (hgT : (5 : Nat) < T) :
  Calls Tryz.prog 38 #[.pointer (some ⟨T, 0, none⟩), .slice Ax m cx] w fun e w' => e = .returned (.int .i64 (placeV L.ord cs)) ∧ TabAt w' T L (n + 1) ∧ Fr w w' (· = T) := by
 have hc := count_any w T L n h h0 h1
 have HTl : Hid (T ≤ w.heap.size) := Lib.hid (Nat.le_of_lt h.lt)
 have HX := Lib.hid hx
 have HXT := Lib.hid hxT
 have HG := Lib.hid hG
 clear h hx hxT hG
 go_enter Tryz.func38, Tryz.ntmps38
 go_wp2_with fail
 refine hc.mono ?_
 rintro e w1 ⟨rfl, ht, hf⟩
 have hs := hf.size
 have hu := rankO_any w1 T L (n + 1) Bx Ax m cx cs ht hR (HX.out.fr hf hBx HXT.out) (by omega) HXT.out (((hf.belowT HTl.out).cell (p := ⟨5, 15, none⟩) hgT).trans HG.out) hgT
 have HF := Lib.hid hf
 clear hc ht hf
 go_wp2_with fail
 refine hu.mono ?_
 rintro e w2 ⟨rfl, ht, hf⟩
 have HE : Hid (TabAt w2 T L (n + 1) ∧ Fr w w2 (· = T)) := Lib.hid ⟨ht, HF.out.trans hf⟩
 clear hu ht hf
 go_wp2
 go_ret
 exact ⟨rfl, HE.out⟩
end Go.Proofs.YtknjhlbhbnldpaaGreatDoor.C


namespace Go.Proofs.YtknjhlbhbnldpaaGreatDoor.C
open Go.RowKit
theorem clsAt_no {cs : List Cls} {i : Nat} {k : Cls} (h : cs[i]? = some k) (hf : clsAt cs i = false) : clsB cs = false := range_all_false (List.getElem?_eq_some_iff.1 h).1 (by rw [hf]; rfl)
set_option maxRecDepth 100000 in
set_option maxHeartbeats 8000000 in
theorem right07_any (w : World) (B : Nat) (v1 v2 v3 v4 : Value) (l : Loc) (h : LocR w B v1 v2 v3 v4 l) (hB : B ≤ w.heap.size) (hfew : l.ord.length ≤ 500) :
  Calls Tryz.prog 21 #[.agg #[v1, v2, v3, v4]] w fun e w' => e = .returned (.bool (rightL l)) ∧ Below w.heap.size w w' := by
 obtain ⟨W, hW⟩ : ∃ W, W = w.alloc (.cells #[v1, v2, v3, v4] 30) := ⟨_, rfl⟩
 have hb : Below w.heap.size w W := by rw [hW]; exact (Below.refl _ _).alloc (Nat.le_refl _) _
 have hR := h.on hb hB
 have hrow : Rw W w.heap.size 30 #[v1, v2, v3, v4] := by rw [hW]; exact heap_alloc_new w _
 obtain ⟨⟨A1, c, x1, rfl, -⟩, ⟨A2, c2, rfl, -⟩, ⟨A3, c3, rfl, -⟩, ⟨A4, c4, x4, rfl, -⟩, -⟩ := h
 have HR := Lib.hid hR
 have HB := Lib.hid hb
 have HW := Lib.hid hrow
 have HBW : Hid (B ≤ W.heap.size) := Lib.hid (Nat.le_trans hB hb.size)
 have HWS : Hid (w.heap.size < W.heap.size) := Lib.hid hrow.lt
 have hnC := hR.2.2.2.2.1
 unfold maxLen at hnC
 clear hR hb hrow hB
 go_enter Tryz.func21, Tryz.ntmps21
 go_wp2
 rw [← hW]
 clear hW
 go_loopw [3] (fun iv wr => ∃ i : Nat, i ≤ l.cls.length ∧ iv = .int .i64 i ∧ Hid (Below W.heap.size W wr ∧ ∀ j, j < i → (!clsAt l.cls j) = false)) (fun iv _ => l.cls.length - (intOf iv).toNat)
 case atStart => exact ⟨0, Nat.zero_le _, rfl, Lib.hid ⟨Below.refl _ _, by intro j hj; omega⟩⟩
 case round =>
  obtain ⟨wp, hwp⟩ : ∃ wp, wp = wr := ⟨_, rfl⟩
  subst hwp
  obtain ⟨i, hin, rfl, HQ⟩ := hrel
  have f0 : wp.cell? ⟨w.heap.size, 0, none⟩ = some (.slice A1 l.cls.length c) := (HW.out.on HQ.out.1 HW.out.lt).cell rfl
  by_cases hlt : i < l.cls.length
  rotate_left
  ·obtain rfl : i = l.cls.length := by omega
   have HC : Hid (clsB l.cls = true) := Lib.hid (range_all_true HQ.out.2)
   have f1 : wp.cell? ⟨w.heap.size, 1, none⟩ = some (.slice A2 l.up.length c2) := (HW.out.on HQ.out.1 HW.out.lt).cell rfl
   have hrw := HR.out.on HQ.out.1 HBW.out
   have hm := mapped07_any wp B _ l.up hrw.2.1 hrw.2.2.2.2.2.1
   have HRW := Lib.hid hrw
   clear hrw
   cases hu : pairsB l.up with
   | false =>
    rw [hu] at hm
    have HF : Hid (rightL l = false) := Lib.hid (by unfold rightL; rw [hu, Bool.and_false, Bool.false_and, Bool.false_and])
    clear hu
    go_wp2_with fail
    with_reducible refine hm.mono ?_
    rintro e w2 ⟨rfl, hq⟩
    have HB2 : Hid (Below W.heap.size W w2) := Lib.hid (by obtain ⟨q, rfl⟩ := hq; exact below_drewN HQ.out.1 q)
    clear hq hm
    go_wp2
    go_ret
    exact ⟨by rw [HF.out]; rfl, HB.out.trans (HB2.out.mono HB.out.size)⟩
   | true =>
   rw [hu] at hm
   go_wp2_with fail
   with_reducible refine hm.mono ?_
   rintro e w2 ⟨rfl, hq⟩
   have HB2 : Hid (Below W.heap.size W w2) := Lib.hid (by obtain ⟨q, rfl⟩ := hq; exact below_drewN HQ.out.1 q)
   have hrw2 := HR.out.on HB2.out HBW.out
   have hm2 := mapped07_any w2 B _ l.lo hrw2.2.2.1 hrw2.2.2.2.2.2.2
   have f2 : w2.cell? ⟨w.heap.size, 2, none⟩ = some (.slice A3 l.lo.length c3) := (HW.out.on HB2.out HW.out.lt).cell rfl
   clear hq hm hrw2 f0 f1
   cases hl : pairsB l.lo with
   | false =>
    rw [hl] at hm2
    have HF : Hid (rightL l = false) := Lib.hid (by unfold rightL; rw [hl, Bool.and_false, Bool.false_and])
    clear hl hu
    go_wp2_with fail
    with_reducible refine hm2.mono ?_
    rintro e w3 ⟨rfl, hq⟩
    have HB3 : Hid (Below W.heap.size W w3) := Lib.hid (by obtain ⟨q, rfl⟩ := hq; exact below_drewN HB2.out q)
    clear hq hm2
    go_wp2
    go_ret
    exact ⟨by rw [HF.out]; rfl, HB.out.trans (HB3.out.mono HB.out.size)⟩
   | true =>
   rw [hl] at hm2
   have HF : Hid (rightL l = ordB l.ord) := Lib.hid (by unfold rightL; rw [HC.out, hu, hl]; rfl)
   clear hl hu
   go_wp2_with fail
   with_reducible refine hm2.mono ?_
   rintro e w3 ⟨rfl, hq⟩
   have HB3 : Hid (Below W.heap.size W w3) := Lib.hid (by obtain ⟨q, rfl⟩ := hq; exact below_drewN HB2.out q)
   have hrw3 := HR.out.on HB3.out HBW.out
   have hm3 := orders07_any w3 B _ l.ord hrw3.2.2.2.1 (Nat.le_trans HBW.out HB3.out.size) hfew
   have f3 : w3.cell? ⟨w.heap.size, 3, none⟩ = some (.slice A4 l.ord.length c4) := (HW.out.on HB3.out HW.out.lt).cell rfl
   clear hq hm2 hrw3 f2
   go_wp2_with fail
   with_reducible refine hm3.mono ?_
   rintro e w4 ⟨rfl, hb4⟩
   have HB4 : Hid (Below W.heap.size W w4) := Lib.hid (HB3.out.trans (hb4.mono HB3.out.size))
   clear hb4 hm3
   go_wp2
   go_ret
   exact ⟨by rw [HF.out]; rfl, HB.out.trans (HB4.out.mono HB.out.size)⟩
  obtain ⟨kc, hkc⟩ : ∃ kc, l.cls[i]? = some kc := ⟨_, List.getElem?_eq_getElem hlt⟩
  have hrw := HR.out.on HQ.out.1 HBW.out
  obtain ⟨ad, c', Ar, cr, hA, hbad, u0, u1, hpr, hnr⟩ := clsR_at hrw.1 hkc
  have hnm : kc.name.length ≤ maxLen := by
   obtain ⟨_, _, _, _, _, hel⟩ := hrw.1
   obtain ⟨_, _, _, h3, _⟩ := hel i kc hkc
   exact h3
  injection hA with hA _ hC'
  subst hA hC'
  have hcl := clsOk_at hkc
  obtain ⟨nm, rs⟩ := kc
  dsimp only at u0 u1 hpr hnr hnm
  unfold clsOk at hcl
  dsimp only at hcl
  obtain ⟨n, hn⟩ : ∃ n, n = rs.length := ⟨_, rfl⟩
  rw [← hn] at u1 hpr hnr
  have HN := Lib.hid hn
  have HCL := Lib.hid hcl
  have HKC := Lib.hid hkc
  have i0 : (0 : Int) ≤ (i : Int) := by omega
  have i1 : (i : Int) < (l.cls.length : Int) := by omega
  obtain ⟨W1, hW1⟩ : ∃ W1, W1 = wp.alloc (.cells #[.string (str nm), .slice Ar n cr] 86) := ⟨_, rfl⟩
  have hb1 : Below wp.heap.size wp W1 := by rw [hW1]; exact (Below.refl _ _).alloc (Nat.le_refl _) _
  have hX : Rw W1 wp.heap.size 86 #[.string (str nm), .slice Ar n cr] := by rw [hW1]; exact heap_alloc_new wp _
  have HX := Lib.hid hX
  have HB1 : Hid (Below W.heap.size W W1) := Lib.hid (HQ.out.1.trans (hb1.mono HQ.out.1.size))
  have hBp : B ≤ wp.heap.size := Nat.le_trans HBW.out HQ.out.1.size
  have HPR : Hid (PrsR W1 B (.slice Ar n cr) rs) := Lib.hid (hpr.on hb1 hBp)
  have HBL : Hid (ad.block < B) := Lib.hid hbad
  have HBW1 : Hid (B ≤ W1.heap.size) := Lib.hid (Nat.le_trans hBp hb1.size)
  have HSZ1 : Hid (wp.heap.size < W1.heap.size) := Lib.hid hX.lt
  have hwd0 := fun (b : Bool) (hb : wordlyB nm = b) => wordly07_is nm W1 hnm hb
  have z0 : W1.cell? ⟨wp.heap.size, 0, none⟩ = some (.string (str nm)) := hX.cell rfl
  have z1 : W1.cell? ⟨wp.heap.size, 1, none⟩ = some (.slice Ar n cr) := hX.cell rfl
  unfold maxLen at hnr
  clear hrw hpr hkc hcl hn hb1 hX hbad hBp hnm
  go_upto_region 5 with fail
  rw [← hW1]
  clear hW1 u0 u1
  cases hwd : wordlyB nm with
  | false =>
   have hw := hwd0 _ hwd
   have HF : Hid (rightL l = false) := Lib.hid (by unfold rightL; rw [clsAt_no HKC.out (by rw [HCL.out, hwd, Bool.false_and, Bool.false_and, Bool.false_and])]; rfl)
   clear hwd hwd0
   go_wp2_with fail
   with_reducible refine hw.mono ?_
   rintro e w2 ⟨rfl, rfl⟩
   go_wp2
   go_ret
   exact ⟨by rw [HF.out]; rfl, HB.out.trans (HB1.out.mono HB.out.size)⟩
  | true =>
  have hw := hwd0 _ hwd
  have HWD := Lib.hid hwd
  clear hwd hwd0
  by_cases hn0 : n = 0
  ·have HF : Hid (rightL l = false) := Lib.hid (by
    have he : rs = [] := List.eq_nil_of_length_eq_zero (by have := HN.out; omega)
    unfold rightL
    rw [clsAt_no HKC.out (by rw [HCL.out, he]; simp)]
    rfl)
   subst hn0
   go_wp2_with fail
   with_reducible refine hw.mono ?_
   rintro e w2 ⟨rfl, rfl⟩
   go_wp2
   go_ret
   exact ⟨by rw [HF.out]; rfl, HB.out.trans (HB1.out.mono HB.out.size)⟩
  have en : ¬ (n : Int) = 0 := by omega
  have en2 : ((n : Int) == 0) = false := by simpa using en
  go_wp2_with fail
  with_reducible refine hw.mono ?_
  rintro e w2 ⟨rfl, hwe⟩
  have hwe := hwe.symm
  subst hwe
  clear hw
  go_wp2
  clear en en2 z0 z1
  go_loopw [5] (fun jv wi => ∃ j : Nat, j ≤ n ∧ jv = .int .i64 j ∧ Hid (Below W1.heap.size W1 wi ∧ (rs.take j).all rangeB = true)) (fun jv _ => n - (intOf jv).toNat)
  case atStart => exact ⟨0, Nat.zero_le _, rfl, Lib.hid ⟨Below.refl _ _, rfl⟩⟩
  case round =>
   obtain ⟨wi, hwi⟩ : ∃ wi, wi = wr := ⟨_, rfl⟩
   subst hwi
   obtain ⟨j, hjn, rfl, HQ2⟩ := hrel
   have z1 : wi.cell? ⟨wp.heap.size, 1, none⟩ = some (.slice Ar n cr) := (HX.out.on HQ2.out.1 HSZ1.out).cell rfl
   by_cases hj : j < n
   ·obtain ⟨r, hr⟩ : ∃ r, rs[j]? = some r := ⟨_, List.getElem?_eq_getElem (by have := HN.out; omega)⟩
    obtain ⟨_, _, hg, hsi⟩ := HPR.out.on HQ2.out.1 HBW1.out
    injection hg with hg hg2 hg3
    clear hg2
    subst hg hg3
    obtain ⟨rd, rfl, hrb, y0, y1⟩ := prsR_at hsi hr
    have HR2 := Lib.hid hr
    obtain ⟨a, b⟩ := r
    dsimp only at y0 y1
    have j0 : (0 : Int) ≤ (j : Int) := by omega
    have j1 : (j : Int) < (n : Int) := by omega
    obtain ⟨W2, hW2⟩ : ∃ W2, W2 = wi.alloc (.cells #[.int .i32 a, .int .i32 b] 109) := ⟨_, rfl⟩
    have HB2 : Hid (Below W1.heap.size W1 W2) := Lib.hid (by rw [hW2]; exact HQ2.out.1.alloc HQ2.out.1.size _)
    have hY : Rw W2 wi.heap.size 109 #[.int .i32 a, .int .i32 b] := by rw [hW2]; exact heap_alloc_new wi _
    have x0 : W2.cell? ⟨wi.heap.size, 0, none⟩ = some (.int .i32 a) := hY.cell rfl
    have x1 : W2.cell? ⟨wi.heap.size, 1, none⟩ = some (.int .i32 b) := hY.cell rfl
    have hsc := fun (x : Int) (r : Bool) (hx : scalB x = r) => scalar07_is x W2 hx
    have HFF : Hid (rangeB (a, b) = false → rightL l = false) := Lib.hid (fun hx => by
     unfold rightL
     rw [clsAt_no HKC.out (by rw [HCL.out, all_fails HR2.out hx, Bool.and_false])]
     rfl)
    clear hr hsi hrb hY
    go_upto_region 11 with fail
    rw [← hW2]
    clear hW2 y0 y1
    cases ha : scalB a with
    | false =>
     have hsa := hsc a _ ha
     have HF : Hid (rightL l = false) := Lib.hid (HFF.out (by unfold rangeB; rw [ha, Bool.false_and, Bool.false_and]))
     clear ha hsc
     go_wp2_with fail
     with_reducible refine hsa.mono ?_
     rintro e w3 ⟨rfl, rfl⟩
     go_wp2
     go_ret
     exact ⟨by rw [HF.out]; rfl, HB.out.trans ((HB1.out.trans (HB2.out.mono HB1.out.size)).mono HB.out.size)⟩
    | true =>
    have hsa := hsc a _ ha
    cases hbb : scalB b with
    | false =>
     have hsb := hsc b _ hbb
     have HF : Hid (rightL l = false) := Lib.hid (HFF.out (by unfold rangeB; rw [hbb, Bool.and_false, Bool.false_and]))
     clear ha hbb hsc
     go_wp2_with fail
     with_reducible refine hsa.mono ?_
     rintro e w3 ⟨rfl, rfl⟩
     go_wp2_with fail
     with_reducible refine hsb.mono ?_
     rintro e w3 ⟨rfl, rfl⟩
     go_wp2
     go_ret
     exact ⟨by rw [HF.out]; rfl, HB.out.trans ((HB1.out.trans (HB2.out.mono HB1.out.size)).mono HB.out.size)⟩
    | true =>
    have hsb := hsc b _ hbb
    by_cases hba : b < a
    ·have HF : Hid (rightL l = false) := Lib.hid (HFF.out (by unfold rangeB; rw [decide_eq_false (by simp only; omega), Bool.and_false]))
     clear ha hbb hsc
     go_wp2_with fail
     with_reducible refine hsa.mono ?_
     rintro e w3 ⟨rfl, rfl⟩
     go_wp2_with fail
     with_reducible refine hsb.mono ?_
     rintro e w3 ⟨rfl, rfl⟩
     go_wp2
     go_ret
     exact ⟨by rw [HF.out]; rfl, HB.out.trans ((HB1.out.trans (HB2.out.mono HB1.out.size)).mono HB.out.size)⟩
    ·have HT : Hid ((rs.take (j + 1)).all rangeB = true) := Lib.hid (all_next HR2.out HQ2.out.2 (by unfold rangeB; rw [ha, hbb, decide_eq_true (by simp only; omega)]; rfl))
     clear ha hbb hsc
     go_wp2_with fail
     with_reducible refine hsa.mono ?_
     rintro e w3 ⟨rfl, rfl⟩
     go_wp2_with fail
     with_reducible refine hsb.mono ?_
     rintro e w3 ⟨rfl, rfl⟩
     go_wp2
     go_roundw
     case rel => exact ⟨j + 1, by omega, by go_num, Lib.hid ⟨HB2.out, HT.out⟩⟩
     case measure => simp [intOf]; omega
   ·obtain rfl : j = n := by omega
    have HAL : Hid (rs.all rangeB = true) := Lib.hid (by
     have := HQ2.out.2
     rwa [List.take_of_length_le (by have := HN.out; omega)] at this)
    have HCL2 : Hid (clsAt l.cls i = !(((l.cls.take i).map Cls.name).contains nm)) := Lib.hid (by
     rw [HCL.out, HWD.out, HAL.out, show rs.isEmpty = false by
      cases rs with
      | nil => exact absurd HN.out (by simpa using hn0)
      | cons _ _ => rfl, Bool.true_and, Bool.and_true, Bool.not_false, Bool.and_true])
    have HBW2 := Lib.hid HQ2.out.1
    go_wp2
    go_loopw [7] (fun kv wi => ∃ k : Nat, k ≤ i ∧ kv = .int .i64 k ∧ Hid (Below W1.heap.size W1 wi ∧ ∀ x ∈ l.cls.take k, x.name ≠ nm)) (fun kv _ => i - (intOf kv).toNat)
    case atStart => exact ⟨0, Nat.zero_le _, rfl, Lib.hid ⟨HBW2.out, by simp⟩⟩
    case round =>
     obtain ⟨wi, hwi⟩ : ∃ wi, wi = wr := ⟨_, rfl⟩
     subst hwi
     obtain ⟨k, hki, rfl, HQ3⟩ := hrel
     have HBk : Hid (Below W.heap.size W wi) := Lib.hid (HB1.out.trans (HQ3.out.1.mono HB1.out.size))
     by_cases hk : k < i
     ·obtain ⟨ek, hek⟩ : ∃ ek, l.cls[k]? = some ek := ⟨_, List.getElem?_eq_getElem (by omega)⟩
      obtain ⟨ad', c', _, _, hA', _, y0, _, _, _⟩ := clsR_at (HR.out.on HBk.out HBW.out).1 hek
      injection hA' with hA' _ hC'
      injection hA' with hA'
      subst hA' hC'
      have f0 : wi.cell? ⟨w.heap.size, 0, none⟩ = some (.slice (some ad) l.cls.length c) := (HW.out.on HBk.out HW.out.lt).cell rfl
      have x0 : wi.cell? ⟨wp.heap.size, 0, none⟩ = some (.string (str nm)) := (HX.out.on HQ3.out.1 HSZ1.out).cell rfl
      obtain ⟨nk, rk⟩ := ek
      dsimp only at y0
      have HEK := Lib.hid hek
      have k0 : (0 : Int) ≤ (k : Int) := by omega
      have k1 : (k : Int) < (l.cls.length : Int) := by omega
      have k2 : (k : Int) < (i : Int) := by omega
      clear hek
      by_cases hnk : nk = nm
      ·have HF : Hid (rightL l = false) := Lib.hid (by
        unfold rightL
        rw [clsAt_no HKC.out (by
         rw [HCL2.out, show ((l.cls.take i).map Cls.name).contains nm = true from List.contains_iff_mem.2 (List.mem_map.2 ⟨⟨nk, rk⟩, List.mem_of_getElem? (i := k) (by rw [List.getElem?_take, if_pos hk]; exact HEK.out), hnk⟩)]
         rfl)]
        rfl)
       subst hnk
       go_wp2
       refine wp_region_held (S := fun W' : World => W'.cell? ⟨w.heap.size, 0, none⟩ = some (.slice (some ad) l.cls.length c) ∧ W'.cell? (ad.add (k * 2)) = some (.string (str nk)) ∧ W'.cell? ⟨wp.heap.size, 0, none⟩ = some (.string (str nk))) (by kernel_rfl) ?_
       change wpAnyH _ _ _ _ _ _ _ _ wi.drew
       have hS1 : (fun W' : World => W'.cell? ⟨w.heap.size, 0, none⟩ = some (.slice (some ad) l.cls.length c) ∧ W'.cell? (ad.add (k * 2)) = some (.string (str nk)) ∧ W'.cell? ⟨wp.heap.size, 0, none⟩ = some (.string (str nk))) wi.drew := ⟨f0, y0, x0⟩
       iterate 9 (refine wpH rfl rfl ?_; try simp only [Act.put, g1, g2, g3, g4, g5, g6])
       refine wpAnyH_done (by kernel_rfl) ?_ _
       have HQ4 : Hid (Below W1.heap.size W1 wi.drew) := Lib.hid (below_drew HQ3.out.1)
       clear hS1 f0 y0 x0
       go_wp2
       go_ret
       exact ⟨by rw [HF.out]; rfl, HB.out.trans ((HB1.out.trans (HQ4.out.mono HB1.out.size)).mono HB.out.size)⟩
      ·have e86 := str_ne0 hnk
       have HNX : Hid (∀ x ∈ l.cls.take (k + 1), x.name ≠ nm) := Lib.hid (by
        rw [take_one HEK.out]
        intro x hx
        rcases List.mem_append.1 hx with hx | hx
        ·exact HQ3.out.2 x hx
        ·rw [List.mem_singleton] at hx
         subst hx
         exact hnk)
       clear hnk
       go_wp2
       refine wp_region_held (S := fun W' : World => W'.cell? ⟨w.heap.size, 0, none⟩ = some (.slice (some ad) l.cls.length c) ∧ W'.cell? (ad.add (k * 2)) = some (.string (str nk)) ∧ W'.cell? ⟨wp.heap.size, 0, none⟩ = some (.string (str nm))) (by kernel_rfl) ?_
       change wpAnyH _ _ _ _ _ _ _ _ wi.drew
       have hS1 : (fun W' : World => W'.cell? ⟨w.heap.size, 0, none⟩ = some (.slice (some ad) l.cls.length c) ∧ W'.cell? (ad.add (k * 2)) = some (.string (str nk)) ∧ W'.cell? ⟨wp.heap.size, 0, none⟩ = some (.string (str nm))) wi.drew := ⟨f0, y0, x0⟩
       iterate 9 (refine wpH rfl rfl ?_; try simp only [Act.put, g1, g2, g3, g4, g5, g6])
       refine wpAnyH_done (by kernel_rfl) ?_ _
       have HQ4 : Hid (Below W1.heap.size W1 wi.drew) := Lib.hid (below_drew HQ3.out.1)
       clear hS1 f0 y0 x0
       go_wp2
       go_roundw
       case rel => exact ⟨k + 1, by omega, by go_num, Lib.hid ⟨HQ4.out, HNX.out⟩⟩
       case measure => simp [intOf]; omega
     ·obtain rfl : k = i := by omega
      have HT : Hid ((!clsAt l.cls k) = false) := Lib.hid (by
       rw [HCL2.out, show ((l.cls.take k).map Cls.name).contains nm = false from by
        rw [← Bool.not_eq_true, List.contains_iff_mem]
        intro hm
        obtain ⟨x, hx, he⟩ := List.mem_map.1 hm
        exact HQ3.out.2 x hx he]
       rfl)
      go_wp2
      go_roundw
      case rel => exact ⟨k + 1, by omega, by go_num, Lib.hid ⟨HBk.out, fun j hj => by
       rcases (by omega : j < k ∨ j = k) with h1 | h1
       ·exact HQ.out.2 j h1
       ·rw [h1]; exact HT.out⟩⟩
      case measure => simp [intOf]; omega
end Go.Proofs.YtknjhlbhbnldpaaGreatDoor.C
