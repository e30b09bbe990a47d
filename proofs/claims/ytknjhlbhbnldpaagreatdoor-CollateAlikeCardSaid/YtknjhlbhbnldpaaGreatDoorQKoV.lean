/-
  Whether a cell is of a class, asked of a table. No condition but what each names.
-/
import Derived.Test.YtknjhlbhbnldpaaGreatDoorB20
import Derived.Test.YtknjhlbhbnldpaaGreatDoorB22
import Derived.Test.YtknjhlbhbnldpaaGreatDoorB24
namespace Go.Proofs.YtknjhlbhbnldpaaGreatDoor.C
open Go.RowKit

def rangesL (cs : List Cls) (nm : List UInt8) : Option (List (Int × Int)) := (cs.find? fun k => k.name == nm).map Cls.rs
def inR (c : Int) (r : Int × Int) : Bool := decide (r.1 ≤ c ∧ c ≤ r.2)
def isL (cs : List Cls) (nm : List UInt8) (c : Int) : Bool := ((rangesL cs nm).getD []).any (inR c)
theorem rangesL_some {cs : List Cls} {nm : List UInt8} {rs : List (Int × Int)} (h : rangesL cs nm = some rs) : ∃ (i : Nat) (k : Cls), cs[i]? = some k ∧ k.name = nm ∧ k.rs = rs := by
 unfold rangesL at h
 cases hf : cs.find? fun k => k.name == nm with
 | none => rw [hf] at h; cases h
 | some k =>
  rw [hf] at h
  have hm := List.mem_of_find?_eq_some hf
  have hn := List.find?_some hf
  obtain ⟨i, hi⟩ := List.mem_iff_getElem?.1 hm
  exact ⟨i, k, hi, by simpa using hn, by simpa using h⟩
theorem rangesL_none {cs : List Cls} {nm : List UInt8} (h : rangesL cs nm = none) : ∀ k ∈ cs, k.name ≠ nm := by
 intro k hk e
 unfold rangesL at h
 cases hf : cs.find? fun k => k.name == nm with
 | none =>
  have := List.find?_eq_none.1 hf k hk
  simp [e] at this
 | some k => rw [hf] at h; cases h
theorem zeroRngs (w : World) : (zeroValue 84).run Tryz.prog w = .ok (.slice none 0 0) w := by kernel_rfl
set_option maxRecDepth 100000 in
set_option maxHeartbeats 2000000 in
theorem ranges_any (w : World) (T : Nat) (L : Loc) (n : Int) (nm : List UInt8) (h : TabAt w T L n) (hR : rightL L = true) :
  Calls Tryz.prog 80 #[.pointer (some ⟨T, 14, none⟩), .string (str nm)] w fun e w' => TabAt w' T L n ∧ Fr w w' (· = T) ∧
   ∃ v, e = .returned (.tuple #[v, .bool (rangesL L.cls nm).isSome]) ∧ PrsR w' T v ((rangesL L.cls nm).getD []) ∧ ((rangesL L.cls nm).getD []).length ≤ maxLen := by
 have HML : Hid (∀ k ∈ L.cls, k.rs.length ≤ maxLen) := Lib.hid (by
  obtain ⟨l, v1, v2, v3, v4, _, _, _, _, _, _, _, h7, _⟩ := id h
  obtain ⟨A, c, xs, _, _, hel⟩ := h7.1
  intro k hk
  obtain ⟨i, hi⟩ := List.mem_iff_getElem?.1 hk
  obtain ⟨_, _, _, _, q⟩ := hel i k hi
  exact q)
 have hnd := right_cls hR
 obtain ⟨l, v1, v2, v3, v4, hr, h1, h2, h3, h4, h5, h6, h7, k1, k2, k3, k4, k5, k6⟩ := h
 have hget := getSR_any T 14 _ l w 118 (.pointer (some ⟨T, 14, none⟩)) (PCls T L.cls) hr k4 (fun W W' M h hf => h.fr hf) (fun args w => run_enter Tryz.func118 (by kernel_rfl) rfl args w) (fillCls T 14 _ l w v1 L.cls h4 h7.1 h7.2.2.2.2.1 hnd hr.lt)
 have hmf : ∀ (fn : Fn) (first cap : Array Value) (w : World), (Instr.makeFunc fn first cap).run Tryz.prog w = .ok (.func fn first cap) w := fun _ _ _ _ => rfl
 have HS : Hid (∀ w' l', Fr w w' (· = T) → Row w' T 107 l' → Lk l' 14 (PCls T L.cls w') → Else l l' 14 → TabAt w' T L n) := Lib.hid (fun w' l' hf hr' hk' he => TabAt.step hf hr hr' 14 (by simp) he ⟨h1, h2, h3, h4, h5, h6, h7⟩ (.inr ⟨by omega, k1⟩) (.inr ⟨by omega, k2⟩) (.inr ⟨by omega, k3⟩) (.inl hk') (.inr ⟨by omega, k5⟩) (.inr ⟨by omega, k6⟩))
 have HND := Lib.hid hnd
 clear hr h1 h2 h3 h4 h5 h6 h7 k1 k2 k3 k4 k5 k6 hnd
 go_enter Tryz.func80, Tryz.ntmps80
 go_wp2_with fail
 refine hget.mono ?_
 rintro e w1 ⟨M, rfl, hp, hf, l', hr', hk', he⟩
 have HQ : Hid (TabAt w1 T L n ∧ Fr w w1 (· = T)) := Lib.hid ⟨HS.out _ _ hf hr' hk' he, hf⟩
 obtain ⟨_, vs, hlen, hm, hev⟩ := hp
 clear hget hf hr' hk' he
 cases hl : rangesL L.cls nm with
 | some rs =>
  have HL := Lib.hid hl
  obtain ⟨i, k, hi, hn, hrs⟩ := rangesL_some hl
  have hml := HML.out k (List.mem_of_getElem? hi)
  rw [hrs] at hml
  have hv : vs[i]? = some (vs[i]'(by rw [hlen]; exact (List.getElem?_eq_some_iff.1 hi).1)) := List.getElem?_eq_getElem _
  generalize vs[i]'(by rw [hlen]; exact (List.getElem?_eq_some_iff.1 hi).1) = u at hv
  have hz : (L.cls.zip vs)[i]? = some (k, u) := by rw [List.getElem?_zip_eq_some]; exact ⟨hi, hv⟩
  have hpr := hev i k u hi hv
  rw [hrs] at hpr
  have q := hm.look_yes (P := Tryz.prog) Tryz.underlying88 Tryz.underlying9 (key := .string (str nm)) (v := u) (by first | trivial | rfl) (by rw [← hn]; exact List.mem_map.2 ⟨_, List.mem_of_getElem? hz, rfl⟩) true
  have HE : Hid (TabAt w1 T L n ∧ Fr w w1 (· = T) ∧ PrsR w1 T u rs ∧ rs.length ≤ maxLen) := Lib.hid ⟨HQ.out.1, HQ.out.2, hpr, hml⟩
  obtain ⟨uA, uc, rfl, _⟩ := id hpr
  clear hm hpr hev hz hv hi hl hml
  go_wp2
  go_ret2
  exact ⟨HE.out.1, HE.out.2.1, _, by rw [HL.out]; rfl, by rw [HL.out]; exact HE.out.2.2⟩
 | none =>
  have HL := Lib.hid hl
  have hno := rangesL_none hl
  have q := hm.look_no (P := Tryz.prog) Tryz.underlying88 Tryz.underlying9 (key := .string (str nm)) (by first | trivial | rfl) (by
   intro h
   rw [List.map_map] at h
   obtain ⟨x, hx, e⟩ := List.mem_map.1 h
   have e' := strV_inj e
   exact hno x.1 (List.of_mem_zip hx).1 e') (zeroRngs w1) true
  have HE : Hid (TabAt w1 T L n ∧ Fr w w1 (· = T) ∧ PrsR w1 T (.slice none 0 0) []) := Lib.hid ⟨HQ.out.1, HQ.out.2, none, 0, rfl, SI.nil 2 w1 T none⟩
  clear hm hev hl hno
  go_wp2
  go_ret2
  exact ⟨HE.out.1, HE.out.2.1, _, by rw [HL.out]; rfl, by rw [HL.out]; exact ⟨HE.out.2.2, Nat.zero_le _⟩⟩
set_option maxRecDepth 100000 in
set_option maxHeartbeats 1000000 in
theorem inR_any (w : World) (a b c : Int) (P : Nat) (hc : w.cell? ⟨P, 0, none⟩ = some (.int .i32 c)) :
  Calls Tryz.prog 82 #[.agg #[.int .i32 a, .int .i32 b], .pointer (some ⟨P, 0, none⟩)] w fun e w' => e = .returned (.bool (inR c (a, b))) ∧ Below w.heap.size w w' := by
 have hP := World.block_lt_of_cell? _ _ hc
 simp only at hP
 obtain ⟨w2, hw2⟩ : ∃ w2, w2 = w.alloc (.cells #[.int .i32 a, .int .i32 b] 109) := ⟨_, rfl⟩
 have HB : Hid (Below w.heap.size w w2) := Lib.hid (by rw [hw2]; exact (Below.refl _ _).alloc (Nat.le_refl _) _)
 have x0 : w2.cell? ⟨w.heap.size, 0, none⟩ = some (.int .i32 a) := by rw [hw2]; simp
 have x1 : w2.cell? ⟨w.heap.size, 1, none⟩ = some (.int .i32 b) := by rw [hw2]; simp
 have x2 : w2.cell? ⟨P, 0, none⟩ = some (.int .i32 c) := (HB.out.cell (p := ⟨P, 0, none⟩) hP).trans hc
 clear hc
 subst hw2
 by_cases h1 : a ≤ c
 ·by_cases h2 : c ≤ b
  ·have HV : Hid (inR c (a, b) = true) := Lib.hid (by simp [inR, h1, h2])
   go_enter Tryz.func82, Tryz.ntmps82
   go_wp2
   go_ret
   exact ⟨by rw [HV.out]; rfl, HB.out⟩
  ·have HV : Hid (inR c (a, b) = false) := Lib.hid (by simp [inR, h2])
   go_enter Tryz.func82, Tryz.ntmps82
   go_wp2
   go_ret
   exact ⟨by rw [HV.out]; rfl, HB.out⟩
 ·have HV : Hid (inR c (a, b) = false) := Lib.hid (by simp [inR, h1])
  go_enter Tryz.func82, Tryz.ntmps82
  go_wp2
  go_ret
  exact ⟨by rw [HV.out]; rfl, HB.out⟩
set_option maxRecDepth 100000 in
set_option maxHeartbeats 2000000 in
theorem findIn_any (w : World) (B P : Nat) (v : Value) (c : Int) (rs : List (Int × Int)) (h : PrsR w B v rs) (hn : rs.length ≤ maxLen) (hB : B ≤ w.heap.size) (hc : w.cell? ⟨P, 0, none⟩ = some (.int .i32 c)) :
  Calls Tryz.prog 119 #[v, .func (.func 82) #[] #[.pointer (some ⟨P, 0, none⟩)]] w fun e w' => Below w.heap.size w w' ∧ ∃ k : Int, e = .returned (.int .i64 k) ∧ (rs.any (inR c) = decide (0 ≤ k)) := by
 obtain ⟨A, cA, rfl, hsi⟩ := h
 unfold maxLen at hn
 have HSI := Lib.hid hsi
 have HP : Hid (P < w.heap.size ∧ B ≤ w.heap.size) := Lib.hid ⟨World.block_lt_of_cell? _ _ hc, hB⟩
 have HC := Lib.hid hc
 clear hsi hc hB
 have eg : ∀ args w, (callFunc 82 args).run Tryz.prog w = .ok (.enter 82 args) w := fun args w => run_enter Tryz.func82 (by kernel_rfl) rfl args w
 go_enter Tryz.func119, Tryz.ntmps119
 go_wp2
 go_loopw [8] (fun iv wr => ∃ k : Nat, k ≤ rs.length ∧ iv = .int .i64 k ∧ Hid (Below w.heap.size w wr ∧ ∀ r ∈ rs.take k, inR c r = false)) (fun iv _ => rs.length - (intOf iv).toNat)
 case atStart => exact ⟨0, Nat.zero_le _, rfl, Lib.hid ⟨Below.refl _ _, by simp⟩⟩
 case round =>
  obtain ⟨k, hkn, rfl, HI⟩ := hrel
  by_cases hlt : k < rs.length
  ·obtain ⟨r, hr⟩ : ∃ r, rs[k]? = some r := ⟨_, List.getElem?_eq_getElem hlt⟩
   obtain ⟨ad, rfl, hbl, hc0, hc1⟩ := prsR_at (HSI.out.on HI.out.1 HP.out.2) hr
   obtain ⟨a, b⟩ := r
   have hcl := inR_any wr a b c P ((HI.out.1.cell (p := ⟨P, 0, none⟩) HP.out.1).trans HC.out)
   have HR := Lib.hid hr
   clear hr hbl
   cases hq : inR c (a, b) with
   | true =>
    have HY : Hid (rs.any (inR c) = true) := Lib.hid (List.any_eq_true.2 ⟨_, List.mem_of_getElem? HR.out, hq⟩)
    rw [hq] at hcl
    clear hq
    go_wp2_with (go_at_call 82; refine hcl.mono ?_; rintro e w2 ⟨rfl, hf⟩; have HF : Hid (Below w.heap.size w w2) := Lib.hid (HI.out.1.trans (hf.mono HI.out.1.size)); clear hf hcl)
    go_ret
    exact ⟨HF.out, _, rfl, by rw [HY.out]; simp⟩
   | false =>
    rw [hq] at hcl
    have HQ := Lib.hid hq
    clear hq
    go_wp2_with (go_at_call 82; refine hcl.mono ?_; rintro e w2 ⟨rfl, hf⟩; have HF : Hid (Below w.heap.size w w2) := Lib.hid (HI.out.1.trans (hf.mono HI.out.1.size)); clear hf hcl)
    go_roundw
    case rel => exact ⟨k + 1, by omega, by go_num, Lib.hid ⟨HF.out, by
     rw [take_one HR.out]
     intro r hr
     rcases List.mem_append.1 hr with hr | hr
     ·exact HI.out.2 r hr
     ·rw [List.mem_singleton.1 hr]; exact HQ.out⟩⟩
    case measure => simp [intOf]; omega
  ·obtain rfl : k = rs.length := by omega
   have HY : Hid (Below w.heap.size w wr ∧ rs.any (inR c) = false) := Lib.hid ⟨HI.out.1, by
    rw [List.any_eq_false]
    intro r hr
    rw [HI.out.2 r (by rw [List.take_length]; exact hr)]
    decide⟩
   go_wp2
   go_ret
   exact ⟨HY.out.1, _, rfl, by rw [HY.out.2]; decide⟩
set_option maxRecDepth 100000 in
set_option maxHeartbeats 1000000 in
theorem hasIn_any (w : World) (B P : Nat) (v : Value) (c : Int) (rs : List (Int × Int)) (h : PrsR w B v rs) (hn : rs.length ≤ maxLen) (hB : B ≤ w.heap.size) (hc : w.cell? ⟨P, 0, none⟩ = some (.int .i32 c)) :
  Calls Tryz.prog 81 #[v, .func (.func 82) #[] #[.pointer (some ⟨P, 0, none⟩)]] w fun e w' => Below w.heap.size w w' ∧ e = .returned (.bool (rs.any (inR c))) := by
 have hf := findIn_any w B P v c rs h hn hB hc
 obtain ⟨A, cA, rfl, _⟩ := h
 clear hn hB hc
 go_enter Tryz.func81, Tryz.ntmps81
 go_wp2_with fail
 refine hf.mono ?_
 rintro e w2 ⟨hb, k, rfl, hk⟩
 have HB := Lib.hid hb
 have HK := Lib.hid hk
 clear hf hb hk
 go_wp2
 go_ret
 exact ⟨HB.out, by rw [HK.out]; rfl⟩
set_option maxRecDepth 100000 in
set_option maxHeartbeats 2000000 in
theorem is_any (w : World) (T : Nat) (L : Loc) (n c : Int) (nm : List UInt8) (h : TabAt w T L n) (h0 : 0 ≤ n) (h1 : n < 4611686018427387904) (hR : rightL L = true) :
  Calls Tryz.prog 40 #[.pointer (some ⟨T, 0, none⟩), .string (str nm), .int .i32 c] w fun e w' => e = .returned (.bool (isL L.cls nm c)) ∧ TabAt w' T L (n + 1) ∧ Fr w w' (· = T) := by
 obtain ⟨w1, hw1⟩ : ∃ w1, w1 = w.alloc (.cells #[.int .i32 c] 23) := ⟨_, rfl⟩
 have hb1 : Below w.heap.size w w1 := by rw [hw1]; exact (Below.refl _ _).alloc (Nat.le_refl _) _
 have x0 : w1.cell? ⟨w.heap.size, 0, none⟩ = some (.int .i32 c) := by rw [hw1]; simp
 have hs1 : w1.heap.size = w.heap.size + 1 := by rw [hw1]; simp
 have hc := count_any w1 T L n (h.keep hb1) h0 h1
 have HTl : Hid (T < w.heap.size) := Lib.hid h.lt
 have HB1 := Lib.hid hb1
 have HX := Lib.hid x0
 clear h hb1 x0
 subst hw1
 have hmf : ∀ (fn : Fn) (first cap : Array Value) (w : World), (Instr.makeFunc fn first cap).run Tryz.prog w = .ok (.func fn first cap) w := fun _ _ _ _ => rfl
 go_enter Tryz.func40, Tryz.ntmps40
 go_wp2_with fail
 refine hc.mono ?_
 rintro e w2 ⟨rfl, ht, hf⟩
 have HF2 := Lib.hid hf
 have hrg := ranges_any w2 T L (n + 1) nm ht hR
 clear hc ht hf
 go_wp2_with fail
 refine hrg.mono ?_
 rintro e w3 ⟨ht, hf, v, rfl, hv, hm⟩
 have HF3 := Lib.hid (HF2.out.trans hf)
 have HT3 := Lib.hid ht
 have hx3 : w3.cell? ⟨w.heap.size, 0, none⟩ = some (.int .i32 c) := (World.cell?_of_block (HF3.out.block w.heap.size (by rw [hs1]; omega) (by have := HTl.out; omega))).trans HX.out
 have hin := hasIn_any w3 T w.heap.size v c _ hv hm (Nat.le_of_lt ht.lt) hx3
 obtain ⟨A, cA, rfl, _⟩ := id hv
 clear hrg ht hf hx3 hv hm
 go_wp2_with fail
 refine hin.mono ?_
 rintro e w4 ⟨hb, rfl⟩
 have HE : Hid (TabAt w4 T L (n + 1) ∧ Fr w w4 (· = T)) := Lib.hid ⟨HT3.out.keep hb, ((Fr.of_below HB1.out).trans HF3.out).trans (.of_below hb)⟩
 clear hin hb
 go_wp2
 go_ret
 exact ⟨rfl, HE.out⟩
end Go.Proofs.YtknjhlbhbnldpaaGreatDoor.C
