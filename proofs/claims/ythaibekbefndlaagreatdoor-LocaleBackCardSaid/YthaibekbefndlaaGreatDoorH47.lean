/-
  Joined: WLocaleBack. Each with what its own head says.
-/
import Derived.Test.YthaibekbefndlaaGreatDoorH35
import Derived.Test.YthaibekbefndlaaGreatDoorH36
import Derived.Test.YthaibekbefndlaaGreatDoorH42
namespace Go.Proofs.YthaibekbefndlaaGreatDoor.C
open Go.RowKit

set_option maxRecDepth 100000 in
set_option maxHeartbeats 8000000 in
theorem localeBackWalk (a0 : Option Addr) (len0 cap0 : Nat) (z0 : List Int) (w : World) (hG : Gm w) (w0 : L.IsRow .u8 w a0 len0 cap0 z0) :
  Calls Tryz.prog 7 #[.slice a0 len0 cap0] w fun e w' => e = .returned (.bool true) ∧ Below w.heap.size w w' := by
 have hby := row_u8 w0
 have hlc := locale_any w w.heap.size a0 len0 cap0 _ (RI.of_row w0) (Nat.le_refl _) hby (by have := row_len w0; omega)
 obtain ⟨l, hl⟩ : ∃ l, l = genL (z0.take len0) := ⟨_, rfl⟩
 have hok := genL_ok _ hby
 rw [← hl] at hlc hok
 obtain ⟨hr, hn1, hn2, hfew, hmT, hq⟩ := hok
 obtain ⟨hf1, hf2, hpr⟩ := print_fits hr hn1 hn2 hmT
 have hback := parse_printed hr hq (by omega) (by omega)
 have HG := Lib.hid hG
 have HF := Lib.hid (And.intro hr (And.intro hn1 (And.intro hn2 (And.intro hfew (And.intro hback hpr)))))
 clear hG w0 hl hby hr hn1 hn2 hfew hmT hq hback hpr hf1 hf2
 go_enter Tryz.func7, Tryz.ntmps7
 go_wp2_with fail
 with_reducible refine hlc.mono ?_
 rintro e w2 ⟨v1, v2, v3, v4, rfl, hL, hb2⟩
 have HG2 := Lib.hid (HG.out.next hb2)
 have HB2 : Hid (Below w.heap.size w w2) := Lib.hid hb2
 clear hlc
 have hR := LocR.of hL (fun c hc => by have := HF.out.2.1 c hc; unfold maxLen; omega) (fun c hc => by have := HF.out.2.2.1 c hc; unfold maxLen; omega)
 obtain ⟨⟨A1, c1, x1, rfl, -⟩, ⟨A2, c2, rfl, -⟩, ⟨A3, c3, rfl, -⟩, ⟨A4, c4, x4, rfl, -⟩, -⟩ := id hR
 obtain ⟨W2, hW2⟩ : ∃ W2, W2 = w2.alloc (.cells #[.slice A1 l.cls.length c1, .slice A2 l.up.length c2, .slice A3 l.lo.length c3, .slice A4 l.ord.length c4] 26) := ⟨_, rfl⟩
 have hbW : Below w2.heap.size w2 W2 := by rw [hW2]; exact (Below.refl _ _).alloc (Nat.le_refl _) _
 have hrow : LocZ W2 w2.heap.size (.slice A1 l.cls.length c1) (.slice A2 l.up.length c2) (.slice A3 l.lo.length c3) (.slice A4 l.ord.length c4) := by
  unfold LocZ
  rw [hW2]
  exact heap_alloc_new w2 _
 have hRW := hR.on hbW (Nat.le_refl _)
 have hpt := locPrint_any W2 w2.heap.size _ _ _ _ l hRW hbW.size (HG2.out.next hbW) (fun c hc => by have := HF.out.2.1 c hc; omega) (fun c hc => by have := HF.out.2.2.1 c hc; omega)
 rw [HF.out.2.2.2.2.2] at hpt
 have HZ := Lib.hid hrow
 have HRW := Lib.hid hRW
 have HG3 := Lib.hid (HG2.out.next hbW)
 have HB3 : Hid (Below w.heap.size w W2) := Lib.hid (HB2.out.trans (hbW.mono HB2.out.size))
 have HS2 : Hid (w2.heap.size ≤ W2.heap.size) := Lib.hid hbW.size
 obtain ⟨q0, q1, q2, q3⟩ := hrow.cells
 rw [hW2] at q0 q1 q2 q3
 clear hL hb2 hbW hrow hR hRW
 go_wp2_with fail
 rw [← hW2]
 with_reducible refine hpt.mono ?_
 rintro e w3 ⟨rfl, hb3⟩
 have hG4 := HG3.out.next hb3
 have hpb := locParse_any (str (linesT (locT l))) w3 hG4.1
 simp only [str_list] at hpb
 rw [HF.out.2.2.2.2.1] at hpb
 have hz3 := (hb3.block _ HZ.out.lt).trans HZ.out
 have HZ3 : Hid (LocZ w3 w2.heap.size (.slice A1 l.cls.length c1) (.slice A2 l.up.length c2) (.slice A3 l.lo.length c3) (.slice A4 l.ord.length c4)) := Lib.hid hz3
 have HR3 := Lib.hid (HRW.out.on hb3 HS2.out)
 have HB4 := Lib.hid (HB3.out.trans (hb3.mono HB3.out.size))
 have HS3 : Hid (w2.heap.size ≤ w3.heap.size) := Lib.hid (Nat.le_trans HS2.out hb3.size)
 clear hpt hb3 q0 q1 q2 q3 hW2 hz3
 go_wp2_with fail
 with_reducible refine hpb.mono ?_
 rintro e w4 ⟨u1, u2, u3, u4, lo', rfl, -, -, hL4, hb4⟩
 have hR4 := LocR.of hL4 (fun c hc => by have := HF.out.2.1 c hc; unfold maxLen; omega) (fun c hc => by have := HF.out.2.2.1 c hc; unfold maxLen; omega)
 dsimp only at hR4
 obtain ⟨⟨B1, d1, y1, rfl, -⟩, ⟨B2, d2, rfl, -⟩, ⟨B3, d3, rfl, -⟩, ⟨B4, d4, y4, rfl, -⟩, -⟩ := id hR4
 obtain ⟨W5, hW5⟩ : ∃ W5, W5 = w4.alloc (.cells #[.slice B1 l.cls.length d1, .slice B2 l.up.length d2, .slice B3 l.lo.length d3, .slice B4 l.ord.length d4] 26) := ⟨_, rfl⟩
 have hb5 : Below w4.heap.size w4 W5 := by rw [hW5]; exact (Below.refl _ _).alloc (Nat.le_refl _) _
 have hb35 : Below w3.heap.size w3 W5 := hb4.trans (hb5.mono hb4.size)
 have hz5 : LocZ W5 w4.heap.size (.slice B1 l.cls.length d1) (.slice B2 l.up.length d2) (.slice B3 l.lo.length d3) (.slice B4 l.ord.length d4) := by
  unfold LocZ
  rw [hW5]
  exact heap_alloc_new w4 _
 have hz2 : LocZ W5 w2.heap.size (.slice A1 l.cls.length c1) (.slice A2 l.up.length c2) (.slice A3 l.lo.length c3) (.slice A4 l.ord.length c4) := (hb35.block _ HZ3.out.lt).trans HZ3.out
 have hRa := HR3.out.on hb35 HS3.out
 have hRb := hR4.on hb5 (Nat.le_refl _)
 have hs25 : w2.heap.size ≤ W5.heap.size := Nat.le_trans HS3.out hb35.size
 have hsm := refSame_yes W5 _ _ _ _ _ _ _ _ _ _ l hRa hRb hs25 hb5.size (by have := HF.out.2.2.2.1; omega)
 have HG5 := Lib.hid ((hG4.next hb4).next hb5)
 have HRa := Lib.hid hRa
 have HZ2 := Lib.hid hz2
 have HS5 := Lib.hid hs25
 have HB5 := Lib.hid (HB4.out.trans (hb35.mono HB4.out.size))
 obtain ⟨q0, q1, q2, q3⟩ := hz2.cells
 obtain ⟨s0, s1, s2, s3⟩ := hz5.cells
 rw [hW5] at q0 q1 q2 q3 s0 s1 s2 s3
 clear hpb hb4 hb5 hb35 hL4 hR4 hz5 hz2 hRa hRb hs25 hG4
 go_wp2_with fail
 rw [← hW5]
 with_reducible refine hsm.mono ?_
 rintro e w6 ⟨rfl, hb6⟩
 have hG6 := HG5.out.next hb6
 have hkn := known07_any w6 hG6
 have HZ6 : Hid (LocZ w6 w2.heap.size (.slice A1 l.cls.length c1) (.slice A2 l.up.length c2) (.slice A3 l.lo.length c3) (.slice A4 l.ord.length c4)) := Lib.hid ((hb6.block _ HZ2.out.lt).trans HZ2.out)
 have HR6 := Lib.hid (HRa.out.on hb6 HS5.out)
 have HB6 := Lib.hid (HB5.out.trans (hb6.mono HB5.out.size))
 have HS6 : Hid (w2.heap.size ≤ w6.heap.size) := Lib.hid (Nat.le_trans HS5.out hb6.size)
 have HG6 := Lib.hid hG6
 clear hsm hb6 q0 q1 q2 q3 s0 s1 s2 s3 hW5 hG6
 go_wp2_with fail
 with_reducible refine hkn.mono ?_
 rintro e w7 ⟨rfl, hb7⟩
 have hz7 : LocZ w7 w2.heap.size (.slice A1 l.cls.length c1) (.slice A2 l.up.length c2) (.slice A3 l.lo.length c3) (.slice A4 l.ord.length c4) := (hb7.block _ HZ6.out.lt).trans HZ6.out
 obtain ⟨q0, q1, q2, q3⟩ := hz7.cells
 have hri := locRight_any w7 w2.heap.size _ _ _ _ l (HR6.out.on hb7 HS6.out) (Nat.le_trans HS6.out hb7.size) (HG6.out.next hb7)
 rw [HF.out.1] at hri
 have HB7 := Lib.hid (HB6.out.trans (hb7.mono HB6.out.size))
 clear hkn hb7 hz7
 go_wp2_with fail
 with_reducible refine hri.mono ?_
 rintro e w8 ⟨rfl, hb8⟩
 have HB8 := Lib.hid (HB7.out.trans (hb8.mono HB7.out.size))
 clear hri hb8 q0 q1 q2 q3
 go_wp2
 go_ret
 exact ⟨rfl, HB8.out⟩
end Go.Proofs.YthaibekbefndlaaGreatDoor.C
