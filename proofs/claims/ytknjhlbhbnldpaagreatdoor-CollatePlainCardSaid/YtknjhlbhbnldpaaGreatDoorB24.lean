/-
  Joined: KoO. Each with what its own head says.
-/
import Derived.Test.YtknjhlbhbnldpaaGreatDoorB22

namespace Go.Proofs.YtknjhlbhbnldpaaGreatDoor.C
open Go.RowKit

section
variable {P : Program} {ops : Array Oper} {Q : Exit → Act → World → Prop} {md : Region.Mode} {S : World → Prop}
theorem wpOp_fit {K : Act → World → Prop} {i : Nat} {o : Oper} {a : Act} {w : World} (ho : ops[i]? = some o) (h : if Region.wanted o (yielded ops a.tmps) = true then Oper.wp P o a w K Q else K (a.put o.dst undef) w) : wpOp P ops Q i K a w := by
 unfold wpOp
 simp only [ho]
 split
 ·rename_i hw
  rw [if_pos hw] at h
  exact .inl h
 ·rename_i hw
  rw [if_neg hw] at h
  exact h
theorem wpAnyH_invS (m : Nat) (I : Nat → Array Bool → Act → World → Prop) (hI : ∀ n listed a w, I n listed a w → S w)
  (step : ∀ n listed a w, I (n + 1) listed a w → Region.ready md ops listed ≠ [] ∧ ∀ i ∈ Region.ready md ops listed, wpOp P ops Q i (fun a' w' => I n (listed.setIfInBounds i true) a' w') a w)
  (fin : ∀ listed a w, I 0 listed a w → wpAnyH P md ops Q S m listed a w) :
  ∀ n listed a w, I n listed a w → wpAnyH P md ops Q S (n + m) listed a w
 | 0, listed, a, w, h => by
  rw [Nat.zero_add]
  exact fin listed a w h
 | n + 1, listed, a, w, h => by
  obtain ⟨h1, h2⟩ := step n listed a w h
  rw [show n + 1 + m = (n + m) + 1 by omega]
  exact ⟨fun h0 => absurd h0 h1, fun i hi => wpOp_mono (fun a' w' h' => ⟨hI _ _ _ _ h', wpAnyH_invS m I hI step fin n _ a' w' h'⟩) (h2 i hi)⟩
end
theorem all_zip {W : World} {B : Nat} {vs : List Value} {cs : List Cls} (h : OwnAll W B (vs.zip (cs.map Cls.rs))) : ∀ (i : Nat) (c : Cls) (x : Value), cs[i]? = some c → vs[i]? = some x → W.ownsRow B 109 2 x c.rs.length (prsC c.rs) := fun i c x hc hx =>
 h (x, c.rs) (List.mem_of_getElem? (i := i) (by rw [List.getElem?_zip_eq_some]; exact ⟨hx, by rw [List.getElem?_map, hc]; rfl⟩))
set_option maxRecDepth 100000 in
set_option maxHeartbeats 16000000 in
theorem plainClasses_any (w : World) : Calls Tryz.prog 34 #[] w fun e w' => ∃ v, e = .returned v ∧ ClsAt w' w.heap.size v plainCls ∧ Below w.heap.size w w' := by
 have hsp := span_any
 go_enter Tryz.func34, Tryz.ntmps34
 go_wp2_with fail
 refine (hsp _ _ _).mono ?_
 rintro e a1 ⟨rfl, hb1⟩
 go_wp2_with fail
 refine (hsp _ _ _).mono ?_
 rintro e a2 ⟨rfl, hb2⟩
 go_wp2_with fail
 refine (hsp _ _ _).mono ?_
 rintro e a3 ⟨rfl, hb3⟩
 have hB3 : Below w.heap.size w a3 := (hb1.trans (hb2.mono hb1.size)).trans (hb3.mono (Nat.le_trans hb1.size hb2.size))
 obtain ⟨p1, hp1⟩ : ∃ p, p = a3.heap.size := ⟨_, rfl⟩
 obtain ⟨p2, hp2⟩ : ∃ p, p = a3.heap.size + 1 := ⟨_, rfl⟩
 obtain ⟨p3, hp3⟩ : ∃ p, p = a3.heap.size + 1 + 1 := ⟨_, rfl⟩
 obtain ⟨W3, hW3⟩ : ∃ W3, W3 = ((a3.alloc (.cells #[.int .i32 65, .int .i32 90] 109)).alloc (.cells #[.int .i32 97, .int .i32 122] 109)).alloc (.cells #[.int .i32 48, .int .i32 57] 109) := ⟨_, rfl⟩
 have hB4 : Below w.heap.size w W3 := by
  rw [hW3]
  have := hB3.size
  exact ((hB3.alloc this _).alloc (by simp; omega) _).alloc (by simp; omega) _
 have d1 : W3.cell? ⟨p1, 0, none⟩ = some (.int .i32 65) ∧ W3.cell? ⟨p1, 1, none⟩ = some (.int .i32 90) := by
  rw [hW3, hp1]
  exact ⟨Lib.cell?_alloc_some _ (Lib.cell?_alloc_some _ (by simp)), Lib.cell?_alloc_some _ (Lib.cell?_alloc_some _ (by simp))⟩
 have d2 : W3.cell? ⟨p2, 0, none⟩ = some (.int .i32 97) ∧ W3.cell? ⟨p2, 1, none⟩ = some (.int .i32 122) := by
  have e : (a3.alloc (.cells #[.int .i32 65, .int .i32 90] 109)).heap.size = p2 := by rw [hp2]; simp
  rw [hW3, ← e]
  exact ⟨Lib.cell?_alloc_some _ (by rw [World.cell?_alloc_new]; rfl), Lib.cell?_alloc_some _ (by rw [World.cell?_alloc_new]; rfl)⟩
 have d3 : W3.cell? ⟨p3, 0, none⟩ = some (.int .i32 48) ∧ W3.cell? ⟨p3, 1, none⟩ = some (.int .i32 57) := by
  have e : ((a3.alloc (.cells #[.int .i32 65, .int .i32 90] 109)).alloc (.cells #[.int .i32 97, .int .i32 122] 109)).heap.size = p3 := by rw [hp3]; simp
  rw [hW3, ← e]
  exact ⟨by rw [World.cell?_alloc_new]; rfl, by rw [World.cell?_alloc_new]; rfl⟩
 have HD := Lib.hid (And.intro d1 (And.intro d2 d3))
 have HB4 := Lib.hid hB4
 clear hb1 hb2 hb3 hB3 hB4 d1 d2 d3
 go_wp2_with fail
 rw [← hp3, ← hp2, ← hp1, ← hW3]
 clear hW3 hp1 hp2 hp3
 refine (hsp _ _ _).mono ?_
 rintro e w4 ⟨rfl, hb⟩
 obtain ⟨p4, hp4⟩ : ∃ p, p = w4.heap.size := ⟨_, rfl⟩
 obtain ⟨W5, hW5⟩ : ∃ W5, W5 = w4.alloc (.cells #[.int .i32 32, .int .i32 32] 109) := ⟨_, rfl⟩
 have hba : Below w4.heap.size w4 W5 := by rw [hW5]; exact (Below.refl _ _).alloc (Nat.le_refl _) _
 have d4 : W5.cell? ⟨p4, 0, none⟩ = some (.int .i32 32) ∧ W5.cell? ⟨p4, 1, none⟩ = some (.int .i32 32) := by
  rw [hW5, hp4]
  exact ⟨by simp, by simp⟩
 have HB5 : Hid (Below w.heap.size w W5.drew) := Lib.hid (((HB4.out.trans (hb.mono HB4.out.size)).trans (hba.mono (Nat.le_trans HB4.out.size hb.size))).drew)
 have hS : (fun W' : World => W'.cell? ⟨p1, 0, none⟩ = some (.int .i32 65) ∧ W'.cell? ⟨p1, 1, none⟩ = some (.int .i32 90) ∧ W'.cell? ⟨p2, 0, none⟩ = some (.int .i32 97) ∧ W'.cell? ⟨p2, 1, none⟩ = some (.int .i32 122) ∧ W'.cell? ⟨p3, 0, none⟩ = some (.int .i32 48) ∧ W'.cell? ⟨p3, 1, none⟩ = some (.int .i32 57) ∧ W'.cell? ⟨p4, 0, none⟩ = some (.int .i32 32) ∧ W'.cell? ⟨p4, 1, none⟩ = some (.int .i32 32)) W5.drew := ⟨below_cell hba (below_cell hb HD.out.1.1), below_cell hba (below_cell hb HD.out.1.2), below_cell hba (below_cell hb HD.out.2.1.1), below_cell hba (below_cell hb HD.out.2.1.2), below_cell hba (below_cell hb HD.out.2.2.1), below_cell hba (below_cell hb HD.out.2.2.2), d4.1, d4.2⟩
 clear hb hba d4 HD HB4
 go_wp2
 rw [← hp4, ← hW5]
 clear hW5 hp4 hsp
 refine wp_region_held (S := fun W' : World => W'.cell? ⟨p1, 0, none⟩ = some (.int .i32 65) ∧ W'.cell? ⟨p1, 1, none⟩ = some (.int .i32 90) ∧ W'.cell? ⟨p2, 0, none⟩ = some (.int .i32 97) ∧ W'.cell? ⟨p2, 1, none⟩ = some (.int .i32 122) ∧ W'.cell? ⟨p3, 0, none⟩ = some (.int .i32 48) ∧ W'.cell? ⟨p3, 1, none⟩ = some (.int .i32 57) ∧ W'.cell? ⟨p4, 0, none⟩ = some (.int .i32 32) ∧ W'.cell? ⟨p4, 1, none⟩ = some (.int .i32 32)) (by kernel_rfl) ?_
 change wpAnyH _ _ _ _ _ _ _ _ W5.drew
 refine wpHn 0 rfl ?_; try simp only [Act.put, g1, g2, g3, g4, g6]
 refine wpHn 3 rfl ?_; try simp only [Act.put, g1, g2, g3, g4, g5, g6]
 refine wpHn 6 rfl ?_; try simp only [Act.put, g1, g2, g3, g4, g5, g6]
 refine wpHn 7 rfl ?_; try simp only [Act.put, g1, g2, g3, g4, g5, g6]
 refine wpHn 10 rfl ?_; try simp only [Act.put, g1, g2, g3, g4, g5, g6]
 refine wpHn 13 rfl ?_; try simp only [Act.put, g1, g2, g3, g4, g5, g6]
 refine wpHn 14 rfl ?_; try simp only [Act.put, g1, g2, g3, g4, g5, g6]
 refine wpHn 15 rfl ?_; try simp only [Act.put, g1, g2, g3, g4, g5, g6]
 refine wpHn 19 rfl ?_; try simp only [Act.put, g1, g2, g3, g4, g5, g6]
 refine wpHn 23 rfl ?_; try simp only [Act.put, g1, g2, g3, g4, g5, g6]
 refine wpHn 42 rfl ?_; try simp only [Act.put, g1, g2, g3, g4, g5, g6]
 refine wpAnyH_invS 28 (PcQ w p1 p2 p3 p4) (fun n l a w h => by obtain ⟨_, _, _, _, _, _, _, _, _, _, _, _, _, _, h, _⟩ := h; exact h) ?step ?fin 10 _ _ _ ⟨⟨false, false, false, false, false, false, false, false, false, false⟩, undef, undef, undef, undef, undef, undef, undef, undef, undef, undef, rfl, by kernel_rfl, rfl, hS, ?init⟩
 case init => exact ⟨HB5.out, rfl, by simp, by simp, by simp, by simp, by simp, by simp, by simp, by simp, by simp, by simp⟩
 case fin =>
  rintro listed a y0 ⟨f, x10, x11, x13, x14, x17, x18, x20, x21, x25, x26, hn, rfl, rfl, hS, h⟩
  have hall : f = ⟨true, true, true, true, true, true, true, true, true, true⟩ := by
   obtain ⟨b1, b2, b3, b4, b5, c1, c2, c3, c4, c5⟩ := f
   cases b1 <;> cases b2 <;> cases b3 <;> cases b4 <;> cases b5 <;> cases c1 <;> cases c2 <;> cases c3 <;> cases c4 <;> cases c5 <;> first | rfl | exact absurd hn (by decide)
  subst hall
  obtain ⟨⟨bk0, ck0, rfl⟩, _⟩ := h.hb1 rfl
  obtain ⟨⟨bk1, ck1, rfl⟩, _⟩ := h.hb2 rfl
  obtain ⟨⟨bk2, ck2, rfl⟩, _⟩ := h.hb3 rfl
  obtain ⟨⟨bk3, ck3, rfl⟩, _⟩ := h.hb4 rfl
  obtain ⟨⟨bk4, ck4, rfl⟩, _⟩ := h.hb5 rfl
  obtain rfl := h.hc1 rfl
  obtain rfl := h.hc2 rfl
  obtain rfl := h.hc3 rfl
  obtain rfl := h.hc4 rfl
  obtain rfl := h.hc5 rfl
  have HX : Hid (PcS p1 p2 p3 p4 y0 ∧ OwnAll y0 w.heap.size [(.slice (some ⟨bk0, 0, none⟩) 1 ck0, [(65, 90)]), (.slice (some ⟨bk1, 0, none⟩) 1 ck1, [(97, 122)]), (.slice (some ⟨bk2, 0, none⟩) 2 ck2, [(65, 90), (97, 122)]), (.slice (some ⟨bk3, 0, none⟩) 1 ck3, [(48, 57)]), (.slice (some ⟨bk4, 0, none⟩) 3 ck4, [(48, 57), (65, 90), (97, 122)])] ∧ Below w.heap.size w y0) := Lib.hid ⟨hS, by
   intro p hp
   simp only [List.mem_cons, List.not_mem_nil, or_false] at hp
   rcases hp with rfl | rfl | rfl | rfl | rfl
   ·exact (h.hb1 rfl).2
   ·exact (h.hb2 rfl).2
   ·exact (h.hb3 rfl).2
   ·exact (h.hb4 rfl).2
   ·exact (h.hb5 rfl).2, h.bel⟩
  clear h hn hS HB5
  unfold pcAct
  refine wpAnyH_one (i := 18) (by kernel_rfl) rfl (fun K hK => ?_)
  simp only [g4, g5, g6]
  go_simp
  go_at_call 73
  with_reducible refine (span_any 9 13 _).mono ?_
  rintro e y1 ⟨rfl, hb⟩
  replace HX : Hid (PcS p1 p2 p3 p4 y1 ∧ OwnAll y1 w.heap.size [(.slice (some ⟨bk0, 0, none⟩) 1 ck0, [(65, 90)]), (.slice (some ⟨bk1, 0, none⟩) 1 ck1, [(97, 122)]), (.slice (some ⟨bk2, 0, none⟩) 2 ck2, [(65, 90), (97, 122)]), (.slice (some ⟨bk3, 0, none⟩) 1 ck3, [(48, 57)]), (.slice (some ⟨bk4, 0, none⟩) 3 ck4, [(48, 57), (65, 90), (97, 122)])] ∧ Below w.heap.size w y1) := Lib.hid ⟨HX.out.1.next hb, HX.out.2.1.next hb, HX.out.2.2.trans (hb.mono HX.out.2.2.size)⟩
  clear hb
  refine hK.out _ _ HX.out.1 (fun _ => ?_)
  clear hK
  try simp only [Act.put, g1, g2, g3, g4, g5, g6]
  refine wpAnyH_one (i := 20) (by kernel_rfl) rfl (fun K hK => ?_)
  simp only [g4, g5, g6]
  go_simp
  replace HX : Hid (PcS p1 p2 p3 p4 (y1.alloc (.cells #[.int .i32 9, .int .i32 13, .int .i32 32, .int .i32 32] 109)) ∧ OwnAll (y1.alloc (.cells #[.int .i32 9, .int .i32 13, .int .i32 32, .int .i32 32] 109)) w.heap.size [(.slice (some ⟨bk0, 0, none⟩) 1 ck0, [(65, 90)]), (.slice (some ⟨bk1, 0, none⟩) 1 ck1, [(97, 122)]), (.slice (some ⟨bk2, 0, none⟩) 2 ck2, [(65, 90), (97, 122)]), (.slice (some ⟨bk3, 0, none⟩) 1 ck3, [(48, 57)]), (.slice (some ⟨bk4, 0, none⟩) 3 ck4, [(48, 57), (65, 90), (97, 122)]), (.slice (some ⟨y1.heap.size, 0, none⟩) 2 2, [(9, 13), (32, 32)])] ∧ Below w.heap.size w (y1.alloc (.cells #[.int .i32 9, .int .i32 13, .int .i32 32, .int .i32 32] 109))) := Lib.hid ⟨HX.out.1.next ((Below.refl _ _).alloc (Nat.le_refl _) _), HX.out.2.1.cons [(9, 13), (32, 32)] HX.out.2.2.size rfl (by unfold maxLen; omega), HX.out.2.2.alloc HX.out.2.2.size _⟩
  refine hK.out _ _ HX.out.1 (fun _ => ?_)
  clear hK
  generalize y1.alloc (.cells #[.int .i32 9, .int .i32 13, .int .i32 32, .int .i32 32] 109) = y2 at *
  generalize y1.heap.size = bk5 at *
  try simp only [Act.put, g1, g2, g3, g4, g5, g6]
  refine wpAnyH_one (i := 21) (by kernel_rfl) rfl (fun K hK => ?_)
  simp only [g4, g5, g6]
  go_simp
  go_at_call 74
  with_reducible refine (class_any ⟨#[115, 112, 97, 99, 101]⟩ (some ⟨bk5, 0, none⟩) 2 2 _).mono ?_
  rintro e y3 ⟨rfl, hb⟩
  replace HX : Hid (PcS p1 p2 p3 p4 y3 ∧ OwnAll y3 w.heap.size [(.slice (some ⟨bk0, 0, none⟩) 1 ck0, [(65, 90)]), (.slice (some ⟨bk1, 0, none⟩) 1 ck1, [(97, 122)]), (.slice (some ⟨bk2, 0, none⟩) 2 ck2, [(65, 90), (97, 122)]), (.slice (some ⟨bk3, 0, none⟩) 1 ck3, [(48, 57)]), (.slice (some ⟨bk4, 0, none⟩) 3 ck4, [(48, 57), (65, 90), (97, 122)]), (.slice (some ⟨bk5, 0, none⟩) 2 2, [(9, 13), (32, 32)])] ∧ Below w.heap.size w y3) := Lib.hid ⟨HX.out.1.next hb, HX.out.2.1.next hb, HX.out.2.2.trans (hb.mono HX.out.2.2.size)⟩
  clear hb
  refine hK.out _ _ HX.out.1 (fun _ => ?_)
  clear hK
  try simp only [Act.put, g1, g2, g3, g4, g5, g6]
  refine wpAnyH_one (i := 22) (by kernel_rfl) rfl (fun K hK => ?_)
  simp only [g4, g5, g6]
  go_simp
  go_at_call 73
  with_reducible refine (span_any 9 9 _).mono ?_
  rintro e y4 ⟨rfl, hb⟩
  replace HX : Hid (PcS p1 p2 p3 p4 y4 ∧ OwnAll y4 w.heap.size [(.slice (some ⟨bk0, 0, none⟩) 1 ck0, [(65, 90)]), (.slice (some ⟨bk1, 0, none⟩) 1 ck1, [(97, 122)]), (.slice (some ⟨bk2, 0, none⟩) 2 ck2, [(65, 90), (97, 122)]), (.slice (some ⟨bk3, 0, none⟩) 1 ck3, [(48, 57)]), (.slice (some ⟨bk4, 0, none⟩) 3 ck4, [(48, 57), (65, 90), (97, 122)]), (.slice (some ⟨bk5, 0, none⟩) 2 2, [(9, 13), (32, 32)])] ∧ Below w.heap.size w y4) := Lib.hid ⟨HX.out.1.next hb, HX.out.2.1.next hb, HX.out.2.2.trans (hb.mono HX.out.2.2.size)⟩
  clear hb
  refine hK.out _ _ HX.out.1 (fun _ => ?_)
  clear hK
  try simp only [Act.put, g1, g2, g3, g4, g5, g6]
  refine wpAnyH_one (i := 24) (by kernel_rfl) rfl (fun K hK => ?_)
  simp only [g4, g5, g6]
  go_simp
  replace HX : Hid (PcS p1 p2 p3 p4 (y4.alloc (.cells #[.int .i32 9, .int .i32 9, .int .i32 32, .int .i32 32] 109)) ∧ OwnAll (y4.alloc (.cells #[.int .i32 9, .int .i32 9, .int .i32 32, .int .i32 32] 109)) w.heap.size [(.slice (some ⟨bk0, 0, none⟩) 1 ck0, [(65, 90)]), (.slice (some ⟨bk1, 0, none⟩) 1 ck1, [(97, 122)]), (.slice (some ⟨bk2, 0, none⟩) 2 ck2, [(65, 90), (97, 122)]), (.slice (some ⟨bk3, 0, none⟩) 1 ck3, [(48, 57)]), (.slice (some ⟨bk4, 0, none⟩) 3 ck4, [(48, 57), (65, 90), (97, 122)]), (.slice (some ⟨bk5, 0, none⟩) 2 2, [(9, 13), (32, 32)]), (.slice (some ⟨y4.heap.size, 0, none⟩) 2 2, [(9, 9), (32, 32)])] ∧ Below w.heap.size w (y4.alloc (.cells #[.int .i32 9, .int .i32 9, .int .i32 32, .int .i32 32] 109))) := Lib.hid ⟨HX.out.1.next ((Below.refl _ _).alloc (Nat.le_refl _) _), HX.out.2.1.cons [(9, 9), (32, 32)] HX.out.2.2.size rfl (by unfold maxLen; omega), HX.out.2.2.alloc HX.out.2.2.size _⟩
  refine hK.out _ _ HX.out.1 (fun _ => ?_)
  clear hK
  generalize y4.alloc (.cells #[.int .i32 9, .int .i32 9, .int .i32 32, .int .i32 32] 109) = y5 at *
  generalize y4.heap.size = bk6 at *
  try simp only [Act.put, g1, g2, g3, g4, g5, g6]
  refine wpAnyH_one (i := 25) (by kernel_rfl) rfl (fun K hK => ?_)
  simp only [g4, g5, g6]
  go_simp
  go_at_call 74
  with_reducible refine (class_any ⟨#[98, 108, 97, 110, 107]⟩ (some ⟨bk6, 0, none⟩) 2 2 _).mono ?_
  rintro e y6 ⟨rfl, hb⟩
  replace HX : Hid (PcS p1 p2 p3 p4 y6 ∧ OwnAll y6 w.heap.size [(.slice (some ⟨bk0, 0, none⟩) 1 ck0, [(65, 90)]), (.slice (some ⟨bk1, 0, none⟩) 1 ck1, [(97, 122)]), (.slice (some ⟨bk2, 0, none⟩) 2 ck2, [(65, 90), (97, 122)]), (.slice (some ⟨bk3, 0, none⟩) 1 ck3, [(48, 57)]), (.slice (some ⟨bk4, 0, none⟩) 3 ck4, [(48, 57), (65, 90), (97, 122)]), (.slice (some ⟨bk5, 0, none⟩) 2 2, [(9, 13), (32, 32)]), (.slice (some ⟨bk6, 0, none⟩) 2 2, [(9, 9), (32, 32)])] ∧ Below w.heap.size w y6) := Lib.hid ⟨HX.out.1.next hb, HX.out.2.1.next hb, HX.out.2.2.trans (hb.mono HX.out.2.2.size)⟩
  clear hb
  refine hK.out _ _ HX.out.1 (fun _ => ?_)
  clear hK
  try simp only [Act.put, g1, g2, g3, g4, g5, g6]
  refine wpAnyH_one (i := 26) (by kernel_rfl) rfl (fun K hK => ?_)
  simp only [g4, g5, g6]
  go_simp
  go_at_call 73
  with_reducible refine (span_any 33 47 _).mono ?_
  rintro e y7 ⟨rfl, hb⟩
  replace HX : Hid (PcS p1 p2 p3 p4 y7 ∧ OwnAll y7 w.heap.size [(.slice (some ⟨bk0, 0, none⟩) 1 ck0, [(65, 90)]), (.slice (some ⟨bk1, 0, none⟩) 1 ck1, [(97, 122)]), (.slice (some ⟨bk2, 0, none⟩) 2 ck2, [(65, 90), (97, 122)]), (.slice (some ⟨bk3, 0, none⟩) 1 ck3, [(48, 57)]), (.slice (some ⟨bk4, 0, none⟩) 3 ck4, [(48, 57), (65, 90), (97, 122)]), (.slice (some ⟨bk5, 0, none⟩) 2 2, [(9, 13), (32, 32)]), (.slice (some ⟨bk6, 0, none⟩) 2 2, [(9, 9), (32, 32)])] ∧ Below w.heap.size w y7) := Lib.hid ⟨HX.out.1.next hb, HX.out.2.1.next hb, HX.out.2.2.trans (hb.mono HX.out.2.2.size)⟩
  clear hb
  refine hK.out _ _ HX.out.1 (fun _ => ?_)
  clear hK
  try simp only [Act.put, g1, g2, g3, g4, g5, g6]
  refine wpAnyH_one (i := 27) (by kernel_rfl) rfl (fun K hK => ?_)
  simp only [g4, g5, g6]
  go_simp
  go_at_call 73
  with_reducible refine (span_any 58 64 _).mono ?_
  rintro e y8 ⟨rfl, hb⟩
  replace HX : Hid (PcS p1 p2 p3 p4 y8 ∧ OwnAll y8 w.heap.size [(.slice (some ⟨bk0, 0, none⟩) 1 ck0, [(65, 90)]), (.slice (some ⟨bk1, 0, none⟩) 1 ck1, [(97, 122)]), (.slice (some ⟨bk2, 0, none⟩) 2 ck2, [(65, 90), (97, 122)]), (.slice (some ⟨bk3, 0, none⟩) 1 ck3, [(48, 57)]), (.slice (some ⟨bk4, 0, none⟩) 3 ck4, [(48, 57), (65, 90), (97, 122)]), (.slice (some ⟨bk5, 0, none⟩) 2 2, [(9, 13), (32, 32)]), (.slice (some ⟨bk6, 0, none⟩) 2 2, [(9, 9), (32, 32)])] ∧ Below w.heap.size w y8) := Lib.hid ⟨HX.out.1.next hb, HX.out.2.1.next hb, HX.out.2.2.trans (hb.mono HX.out.2.2.size)⟩
  clear hb
  refine hK.out _ _ HX.out.1 (fun _ => ?_)
  clear hK
  try simp only [Act.put, g1, g2, g3, g4, g5, g6]
  refine wpAnyH_one (i := 28) (by kernel_rfl) rfl (fun K hK => ?_)
  simp only [g4, g5, g6]
  go_simp
  go_at_call 73
  with_reducible refine (span_any 91 96 _).mono ?_
  rintro e y9 ⟨rfl, hb⟩
  replace HX : Hid (PcS p1 p2 p3 p4 y9 ∧ OwnAll y9 w.heap.size [(.slice (some ⟨bk0, 0, none⟩) 1 ck0, [(65, 90)]), (.slice (some ⟨bk1, 0, none⟩) 1 ck1, [(97, 122)]), (.slice (some ⟨bk2, 0, none⟩) 2 ck2, [(65, 90), (97, 122)]), (.slice (some ⟨bk3, 0, none⟩) 1 ck3, [(48, 57)]), (.slice (some ⟨bk4, 0, none⟩) 3 ck4, [(48, 57), (65, 90), (97, 122)]), (.slice (some ⟨bk5, 0, none⟩) 2 2, [(9, 13), (32, 32)]), (.slice (some ⟨bk6, 0, none⟩) 2 2, [(9, 9), (32, 32)])] ∧ Below w.heap.size w y9) := Lib.hid ⟨HX.out.1.next hb, HX.out.2.1.next hb, HX.out.2.2.trans (hb.mono HX.out.2.2.size)⟩
  clear hb
  refine hK.out _ _ HX.out.1 (fun _ => ?_)
  clear hK
  try simp only [Act.put, g1, g2, g3, g4, g5, g6]
  refine wpAnyH_one (i := 29) (by kernel_rfl) rfl (fun K hK => ?_)
  simp only [g4, g5, g6]
  go_simp
  go_at_call 73
  with_reducible refine (span_any 123 126 _).mono ?_
  rintro e y10 ⟨rfl, hb⟩
  replace HX : Hid (PcS p1 p2 p3 p4 y10 ∧ OwnAll y10 w.heap.size [(.slice (some ⟨bk0, 0, none⟩) 1 ck0, [(65, 90)]), (.slice (some ⟨bk1, 0, none⟩) 1 ck1, [(97, 122)]), (.slice (some ⟨bk2, 0, none⟩) 2 ck2, [(65, 90), (97, 122)]), (.slice (some ⟨bk3, 0, none⟩) 1 ck3, [(48, 57)]), (.slice (some ⟨bk4, 0, none⟩) 3 ck4, [(48, 57), (65, 90), (97, 122)]), (.slice (some ⟨bk5, 0, none⟩) 2 2, [(9, 13), (32, 32)]), (.slice (some ⟨bk6, 0, none⟩) 2 2, [(9, 9), (32, 32)])] ∧ Below w.heap.size w y10) := Lib.hid ⟨HX.out.1.next hb, HX.out.2.1.next hb, HX.out.2.2.trans (hb.mono HX.out.2.2.size)⟩
  clear hb
  refine hK.out _ _ HX.out.1 (fun _ => ?_)
  clear hK
  try simp only [Act.put, g1, g2, g3, g4, g5, g6]
  refine wpAnyH_one (i := 30) (by kernel_rfl) rfl (fun K hK => ?_)
  simp only [g4, g5, g6]
  go_simp
  replace HX : Hid (PcS p1 p2 p3 p4 (y10.alloc (.cells #[.int .i32 33, .int .i32 47, .int .i32 58, .int .i32 64, .int .i32 91, .int .i32 96, .int .i32 123, .int .i32 126] 109)) ∧ OwnAll (y10.alloc (.cells #[.int .i32 33, .int .i32 47, .int .i32 58, .int .i32 64, .int .i32 91, .int .i32 96, .int .i32 123, .int .i32 126] 109)) w.heap.size [(.slice (some ⟨bk0, 0, none⟩) 1 ck0, [(65, 90)]), (.slice (some ⟨bk1, 0, none⟩) 1 ck1, [(97, 122)]), (.slice (some ⟨bk2, 0, none⟩) 2 ck2, [(65, 90), (97, 122)]), (.slice (some ⟨bk3, 0, none⟩) 1 ck3, [(48, 57)]), (.slice (some ⟨bk4, 0, none⟩) 3 ck4, [(48, 57), (65, 90), (97, 122)]), (.slice (some ⟨bk5, 0, none⟩) 2 2, [(9, 13), (32, 32)]), (.slice (some ⟨bk6, 0, none⟩) 2 2, [(9, 9), (32, 32)]), (.slice (some ⟨y10.heap.size, 0, none⟩) 4 4, [(33, 47), (58, 64), (91, 96), (123, 126)])] ∧ Below w.heap.size w (y10.alloc (.cells #[.int .i32 33, .int .i32 47, .int .i32 58, .int .i32 64, .int .i32 91, .int .i32 96, .int .i32 123, .int .i32 126] 109))) := Lib.hid ⟨HX.out.1.next ((Below.refl _ _).alloc (Nat.le_refl _) _), HX.out.2.1.cons [(33, 47), (58, 64), (91, 96), (123, 126)] HX.out.2.2.size rfl (by unfold maxLen; omega), HX.out.2.2.alloc HX.out.2.2.size _⟩
  refine hK.out _ _ HX.out.1 (fun _ => ?_)
  clear hK
  generalize y10.alloc (.cells #[.int .i32 33, .int .i32 47, .int .i32 58, .int .i32 64, .int .i32 91, .int .i32 96, .int .i32 123, .int .i32 126] 109) = y11 at *
  generalize y10.heap.size = bk7 at *
  try simp only [Act.put, g1, g2, g3, g4, g5, g6]
  refine wpAnyH_one (i := 31) (by kernel_rfl) rfl (fun K hK => ?_)
  simp only [g4, g5, g6]
  go_simp
  go_at_call 74
  with_reducible refine (class_any ⟨#[112, 117, 110, 99, 116]⟩ (some ⟨bk7, 0, none⟩) 4 4 _).mono ?_
  rintro e y12 ⟨rfl, hb⟩
  replace HX : Hid (PcS p1 p2 p3 p4 y12 ∧ OwnAll y12 w.heap.size [(.slice (some ⟨bk0, 0, none⟩) 1 ck0, [(65, 90)]), (.slice (some ⟨bk1, 0, none⟩) 1 ck1, [(97, 122)]), (.slice (some ⟨bk2, 0, none⟩) 2 ck2, [(65, 90), (97, 122)]), (.slice (some ⟨bk3, 0, none⟩) 1 ck3, [(48, 57)]), (.slice (some ⟨bk4, 0, none⟩) 3 ck4, [(48, 57), (65, 90), (97, 122)]), (.slice (some ⟨bk5, 0, none⟩) 2 2, [(9, 13), (32, 32)]), (.slice (some ⟨bk6, 0, none⟩) 2 2, [(9, 9), (32, 32)]), (.slice (some ⟨bk7, 0, none⟩) 4 4, [(33, 47), (58, 64), (91, 96), (123, 126)])] ∧ Below w.heap.size w y12) := Lib.hid ⟨HX.out.1.next hb, HX.out.2.1.next hb, HX.out.2.2.trans (hb.mono HX.out.2.2.size)⟩
  clear hb
  refine hK.out _ _ HX.out.1 (fun _ => ?_)
  clear hK
  try simp only [Act.put, g1, g2, g3, g4, g5, g6]
  refine wpAnyH_one (i := 32) (by kernel_rfl) rfl (fun K hK => ?_)
  simp only [g4, g5, g6]
  go_simp
  go_at_call 73
  with_reducible refine (span_any 32 126 _).mono ?_
  rintro e y13 ⟨rfl, hb⟩
  replace HX : Hid (PcS p1 p2 p3 p4 y13 ∧ OwnAll y13 w.heap.size [(.slice (some ⟨bk0, 0, none⟩) 1 ck0, [(65, 90)]), (.slice (some ⟨bk1, 0, none⟩) 1 ck1, [(97, 122)]), (.slice (some ⟨bk2, 0, none⟩) 2 ck2, [(65, 90), (97, 122)]), (.slice (some ⟨bk3, 0, none⟩) 1 ck3, [(48, 57)]), (.slice (some ⟨bk4, 0, none⟩) 3 ck4, [(48, 57), (65, 90), (97, 122)]), (.slice (some ⟨bk5, 0, none⟩) 2 2, [(9, 13), (32, 32)]), (.slice (some ⟨bk6, 0, none⟩) 2 2, [(9, 9), (32, 32)]), (.slice (some ⟨bk7, 0, none⟩) 4 4, [(33, 47), (58, 64), (91, 96), (123, 126)])] ∧ Below w.heap.size w y13) := Lib.hid ⟨HX.out.1.next hb, HX.out.2.1.next hb, HX.out.2.2.trans (hb.mono HX.out.2.2.size)⟩
  clear hb
  refine hK.out _ _ HX.out.1 (fun _ => ?_)
  clear hK
  try simp only [Act.put, g1, g2, g3, g4, g5, g6]
  refine wpAnyH_one (i := 33) (by kernel_rfl) rfl (fun K hK => ?_)
  simp only [g4, g5, g6]
  go_simp
  replace HX : Hid (PcS p1 p2 p3 p4 (y13.alloc (.cells #[.int .i32 32, .int .i32 126] 109)) ∧ OwnAll (y13.alloc (.cells #[.int .i32 32, .int .i32 126] 109)) w.heap.size [(.slice (some ⟨bk0, 0, none⟩) 1 ck0, [(65, 90)]), (.slice (some ⟨bk1, 0, none⟩) 1 ck1, [(97, 122)]), (.slice (some ⟨bk2, 0, none⟩) 2 ck2, [(65, 90), (97, 122)]), (.slice (some ⟨bk3, 0, none⟩) 1 ck3, [(48, 57)]), (.slice (some ⟨bk4, 0, none⟩) 3 ck4, [(48, 57), (65, 90), (97, 122)]), (.slice (some ⟨bk5, 0, none⟩) 2 2, [(9, 13), (32, 32)]), (.slice (some ⟨bk6, 0, none⟩) 2 2, [(9, 9), (32, 32)]), (.slice (some ⟨bk7, 0, none⟩) 4 4, [(33, 47), (58, 64), (91, 96), (123, 126)]), (.slice (some ⟨y13.heap.size, 0, none⟩) 1 1, [(32, 126)])] ∧ Below w.heap.size w (y13.alloc (.cells #[.int .i32 32, .int .i32 126] 109))) := Lib.hid ⟨HX.out.1.next ((Below.refl _ _).alloc (Nat.le_refl _) _), HX.out.2.1.cons [(32, 126)] HX.out.2.2.size rfl (by unfold maxLen; omega), HX.out.2.2.alloc HX.out.2.2.size _⟩
  refine hK.out _ _ HX.out.1 (fun _ => ?_)
  clear hK
  generalize y13.alloc (.cells #[.int .i32 32, .int .i32 126] 109) = y14 at *
  generalize y13.heap.size = bk8 at *
  try simp only [Act.put, g1, g2, g3, g4, g5, g6]
  refine wpAnyH_one (i := 34) (by kernel_rfl) rfl (fun K hK => ?_)
  simp only [g4, g5, g6]
  go_simp
  go_at_call 74
  with_reducible refine (class_any ⟨#[112, 114, 105, 110, 116]⟩ (some ⟨bk8, 0, none⟩) 1 1 _).mono ?_
  rintro e y15 ⟨rfl, hb⟩
  replace HX : Hid (PcS p1 p2 p3 p4 y15 ∧ OwnAll y15 w.heap.size [(.slice (some ⟨bk0, 0, none⟩) 1 ck0, [(65, 90)]), (.slice (some ⟨bk1, 0, none⟩) 1 ck1, [(97, 122)]), (.slice (some ⟨bk2, 0, none⟩) 2 ck2, [(65, 90), (97, 122)]), (.slice (some ⟨bk3, 0, none⟩) 1 ck3, [(48, 57)]), (.slice (some ⟨bk4, 0, none⟩) 3 ck4, [(48, 57), (65, 90), (97, 122)]), (.slice (some ⟨bk5, 0, none⟩) 2 2, [(9, 13), (32, 32)]), (.slice (some ⟨bk6, 0, none⟩) 2 2, [(9, 9), (32, 32)]), (.slice (some ⟨bk7, 0, none⟩) 4 4, [(33, 47), (58, 64), (91, 96), (123, 126)]), (.slice (some ⟨bk8, 0, none⟩) 1 1, [(32, 126)])] ∧ Below w.heap.size w y15) := Lib.hid ⟨HX.out.1.next hb, HX.out.2.1.next hb, HX.out.2.2.trans (hb.mono HX.out.2.2.size)⟩
  clear hb
  refine hK.out _ _ HX.out.1 (fun _ => ?_)
  clear hK
  try simp only [Act.put, g1, g2, g3, g4, g5, g6]
  refine wpAnyH_one (i := 35) (by kernel_rfl) rfl (fun K hK => ?_)
  simp only [g4, g5, g6]
  go_simp
  go_at_call 73
  with_reducible refine (span_any 33 126 _).mono ?_
  rintro e y16 ⟨rfl, hb⟩
  replace HX : Hid (PcS p1 p2 p3 p4 y16 ∧ OwnAll y16 w.heap.size [(.slice (some ⟨bk0, 0, none⟩) 1 ck0, [(65, 90)]), (.slice (some ⟨bk1, 0, none⟩) 1 ck1, [(97, 122)]), (.slice (some ⟨bk2, 0, none⟩) 2 ck2, [(65, 90), (97, 122)]), (.slice (some ⟨bk3, 0, none⟩) 1 ck3, [(48, 57)]), (.slice (some ⟨bk4, 0, none⟩) 3 ck4, [(48, 57), (65, 90), (97, 122)]), (.slice (some ⟨bk5, 0, none⟩) 2 2, [(9, 13), (32, 32)]), (.slice (some ⟨bk6, 0, none⟩) 2 2, [(9, 9), (32, 32)]), (.slice (some ⟨bk7, 0, none⟩) 4 4, [(33, 47), (58, 64), (91, 96), (123, 126)]), (.slice (some ⟨bk8, 0, none⟩) 1 1, [(32, 126)])] ∧ Below w.heap.size w y16) := Lib.hid ⟨HX.out.1.next hb, HX.out.2.1.next hb, HX.out.2.2.trans (hb.mono HX.out.2.2.size)⟩
  clear hb
  refine hK.out _ _ HX.out.1 (fun _ => ?_)
  clear hK
  try simp only [Act.put, g1, g2, g3, g4, g5, g6]
  refine wpAnyH_one (i := 36) (by kernel_rfl) rfl (fun K hK => ?_)
  simp only [g4, g5, g6]
  go_simp
  replace HX : Hid (PcS p1 p2 p3 p4 (y16.alloc (.cells #[.int .i32 33, .int .i32 126] 109)) ∧ OwnAll (y16.alloc (.cells #[.int .i32 33, .int .i32 126] 109)) w.heap.size [(.slice (some ⟨bk0, 0, none⟩) 1 ck0, [(65, 90)]), (.slice (some ⟨bk1, 0, none⟩) 1 ck1, [(97, 122)]), (.slice (some ⟨bk2, 0, none⟩) 2 ck2, [(65, 90), (97, 122)]), (.slice (some ⟨bk3, 0, none⟩) 1 ck3, [(48, 57)]), (.slice (some ⟨bk4, 0, none⟩) 3 ck4, [(48, 57), (65, 90), (97, 122)]), (.slice (some ⟨bk5, 0, none⟩) 2 2, [(9, 13), (32, 32)]), (.slice (some ⟨bk6, 0, none⟩) 2 2, [(9, 9), (32, 32)]), (.slice (some ⟨bk7, 0, none⟩) 4 4, [(33, 47), (58, 64), (91, 96), (123, 126)]), (.slice (some ⟨bk8, 0, none⟩) 1 1, [(32, 126)]), (.slice (some ⟨y16.heap.size, 0, none⟩) 1 1, [(33, 126)])] ∧ Below w.heap.size w (y16.alloc (.cells #[.int .i32 33, .int .i32 126] 109))) := Lib.hid ⟨HX.out.1.next ((Below.refl _ _).alloc (Nat.le_refl _) _), HX.out.2.1.cons [(33, 126)] HX.out.2.2.size rfl (by unfold maxLen; omega), HX.out.2.2.alloc HX.out.2.2.size _⟩
  refine hK.out _ _ HX.out.1 (fun _ => ?_)
  clear hK
  generalize y16.alloc (.cells #[.int .i32 33, .int .i32 126] 109) = y17 at *
  generalize y16.heap.size = bk9 at *
  try simp only [Act.put, g1, g2, g3, g4, g5, g6]
  refine wpAnyH_one (i := 37) (by kernel_rfl) rfl (fun K hK => ?_)
  simp only [g4, g5, g6]
  go_simp
  go_at_call 74
  with_reducible refine (class_any ⟨#[103, 114, 97, 112, 104]⟩ (some ⟨bk9, 0, none⟩) 1 1 _).mono ?_
  rintro e y18 ⟨rfl, hb⟩
  replace HX : Hid (PcS p1 p2 p3 p4 y18 ∧ OwnAll y18 w.heap.size [(.slice (some ⟨bk0, 0, none⟩) 1 ck0, [(65, 90)]), (.slice (some ⟨bk1, 0, none⟩) 1 ck1, [(97, 122)]), (.slice (some ⟨bk2, 0, none⟩) 2 ck2, [(65, 90), (97, 122)]), (.slice (some ⟨bk3, 0, none⟩) 1 ck3, [(48, 57)]), (.slice (some ⟨bk4, 0, none⟩) 3 ck4, [(48, 57), (65, 90), (97, 122)]), (.slice (some ⟨bk5, 0, none⟩) 2 2, [(9, 13), (32, 32)]), (.slice (some ⟨bk6, 0, none⟩) 2 2, [(9, 9), (32, 32)]), (.slice (some ⟨bk7, 0, none⟩) 4 4, [(33, 47), (58, 64), (91, 96), (123, 126)]), (.slice (some ⟨bk8, 0, none⟩) 1 1, [(32, 126)]), (.slice (some ⟨bk9, 0, none⟩) 1 1, [(33, 126)])] ∧ Below w.heap.size w y18) := Lib.hid ⟨HX.out.1.next hb, HX.out.2.1.next hb, HX.out.2.2.trans (hb.mono HX.out.2.2.size)⟩
  clear hb
  refine hK.out _ _ HX.out.1 (fun _ => ?_)
  clear hK
  try simp only [Act.put, g1, g2, g3, g4, g5, g6]
  refine wpAnyH_one (i := 38) (by kernel_rfl) rfl (fun K hK => ?_)
  simp only [g4, g5, g6]
  go_simp
  go_at_call 73
  with_reducible refine (span_any 0 31 _).mono ?_
  rintro e y19 ⟨rfl, hb⟩
  replace HX : Hid (PcS p1 p2 p3 p4 y19 ∧ OwnAll y19 w.heap.size [(.slice (some ⟨bk0, 0, none⟩) 1 ck0, [(65, 90)]), (.slice (some ⟨bk1, 0, none⟩) 1 ck1, [(97, 122)]), (.slice (some ⟨bk2, 0, none⟩) 2 ck2, [(65, 90), (97, 122)]), (.slice (some ⟨bk3, 0, none⟩) 1 ck3, [(48, 57)]), (.slice (some ⟨bk4, 0, none⟩) 3 ck4, [(48, 57), (65, 90), (97, 122)]), (.slice (some ⟨bk5, 0, none⟩) 2 2, [(9, 13), (32, 32)]), (.slice (some ⟨bk6, 0, none⟩) 2 2, [(9, 9), (32, 32)]), (.slice (some ⟨bk7, 0, none⟩) 4 4, [(33, 47), (58, 64), (91, 96), (123, 126)]), (.slice (some ⟨bk8, 0, none⟩) 1 1, [(32, 126)]), (.slice (some ⟨bk9, 0, none⟩) 1 1, [(33, 126)])] ∧ Below w.heap.size w y19) := Lib.hid ⟨HX.out.1.next hb, HX.out.2.1.next hb, HX.out.2.2.trans (hb.mono HX.out.2.2.size)⟩
  clear hb
  refine hK.out _ _ HX.out.1 (fun _ => ?_)
  clear hK
  try simp only [Act.put, g1, g2, g3, g4, g5, g6]
  refine wpAnyH_one (i := 39) (by kernel_rfl) rfl (fun K hK => ?_)
  simp only [g4, g5, g6]
  go_simp
  go_at_call 73
  with_reducible refine (span_any 127 127 _).mono ?_
  rintro e y20 ⟨rfl, hb⟩
  replace HX : Hid (PcS p1 p2 p3 p4 y20 ∧ OwnAll y20 w.heap.size [(.slice (some ⟨bk0, 0, none⟩) 1 ck0, [(65, 90)]), (.slice (some ⟨bk1, 0, none⟩) 1 ck1, [(97, 122)]), (.slice (some ⟨bk2, 0, none⟩) 2 ck2, [(65, 90), (97, 122)]), (.slice (some ⟨bk3, 0, none⟩) 1 ck3, [(48, 57)]), (.slice (some ⟨bk4, 0, none⟩) 3 ck4, [(48, 57), (65, 90), (97, 122)]), (.slice (some ⟨bk5, 0, none⟩) 2 2, [(9, 13), (32, 32)]), (.slice (some ⟨bk6, 0, none⟩) 2 2, [(9, 9), (32, 32)]), (.slice (some ⟨bk7, 0, none⟩) 4 4, [(33, 47), (58, 64), (91, 96), (123, 126)]), (.slice (some ⟨bk8, 0, none⟩) 1 1, [(32, 126)]), (.slice (some ⟨bk9, 0, none⟩) 1 1, [(33, 126)])] ∧ Below w.heap.size w y20) := Lib.hid ⟨HX.out.1.next hb, HX.out.2.1.next hb, HX.out.2.2.trans (hb.mono HX.out.2.2.size)⟩
  clear hb
  refine hK.out _ _ HX.out.1 (fun _ => ?_)
  clear hK
  try simp only [Act.put, g1, g2, g3, g4, g5, g6]
  refine wpAnyH_one (i := 40) (by kernel_rfl) rfl (fun K hK => ?_)
  simp only [g4, g5, g6]
  go_simp
  replace HX : Hid (PcS p1 p2 p3 p4 (y20.alloc (.cells #[.int .i32 0, .int .i32 31, .int .i32 127, .int .i32 127] 109)) ∧ OwnAll (y20.alloc (.cells #[.int .i32 0, .int .i32 31, .int .i32 127, .int .i32 127] 109)) w.heap.size [(.slice (some ⟨bk0, 0, none⟩) 1 ck0, [(65, 90)]), (.slice (some ⟨bk1, 0, none⟩) 1 ck1, [(97, 122)]), (.slice (some ⟨bk2, 0, none⟩) 2 ck2, [(65, 90), (97, 122)]), (.slice (some ⟨bk3, 0, none⟩) 1 ck3, [(48, 57)]), (.slice (some ⟨bk4, 0, none⟩) 3 ck4, [(48, 57), (65, 90), (97, 122)]), (.slice (some ⟨bk5, 0, none⟩) 2 2, [(9, 13), (32, 32)]), (.slice (some ⟨bk6, 0, none⟩) 2 2, [(9, 9), (32, 32)]), (.slice (some ⟨bk7, 0, none⟩) 4 4, [(33, 47), (58, 64), (91, 96), (123, 126)]), (.slice (some ⟨bk8, 0, none⟩) 1 1, [(32, 126)]), (.slice (some ⟨bk9, 0, none⟩) 1 1, [(33, 126)]), (.slice (some ⟨y20.heap.size, 0, none⟩) 2 2, [(0, 31), (127, 127)])] ∧ Below w.heap.size w (y20.alloc (.cells #[.int .i32 0, .int .i32 31, .int .i32 127, .int .i32 127] 109))) := Lib.hid ⟨HX.out.1.next ((Below.refl _ _).alloc (Nat.le_refl _) _), HX.out.2.1.cons [(0, 31), (127, 127)] HX.out.2.2.size rfl (by unfold maxLen; omega), HX.out.2.2.alloc HX.out.2.2.size _⟩
  refine hK.out _ _ HX.out.1 (fun _ => ?_)
  clear hK
  generalize y20.alloc (.cells #[.int .i32 0, .int .i32 31, .int .i32 127, .int .i32 127] 109) = y21 at *
  generalize y20.heap.size = bk10 at *
  try simp only [Act.put, g1, g2, g3, g4, g5, g6]
  refine wpAnyH_one (i := 41) (by kernel_rfl) rfl (fun K hK => ?_)
  simp only [g4, g5, g6]
  go_simp
  go_at_call 74
  with_reducible refine (class_any ⟨#[99, 110, 116, 114, 108]⟩ (some ⟨bk10, 0, none⟩) 2 2 _).mono ?_
  rintro e y22 ⟨rfl, hb⟩
  replace HX : Hid (PcS p1 p2 p3 p4 y22 ∧ OwnAll y22 w.heap.size [(.slice (some ⟨bk0, 0, none⟩) 1 ck0, [(65, 90)]), (.slice (some ⟨bk1, 0, none⟩) 1 ck1, [(97, 122)]), (.slice (some ⟨bk2, 0, none⟩) 2 ck2, [(65, 90), (97, 122)]), (.slice (some ⟨bk3, 0, none⟩) 1 ck3, [(48, 57)]), (.slice (some ⟨bk4, 0, none⟩) 3 ck4, [(48, 57), (65, 90), (97, 122)]), (.slice (some ⟨bk5, 0, none⟩) 2 2, [(9, 13), (32, 32)]), (.slice (some ⟨bk6, 0, none⟩) 2 2, [(9, 9), (32, 32)]), (.slice (some ⟨bk7, 0, none⟩) 4 4, [(33, 47), (58, 64), (91, 96), (123, 126)]), (.slice (some ⟨bk8, 0, none⟩) 1 1, [(32, 126)]), (.slice (some ⟨bk9, 0, none⟩) 1 1, [(33, 126)]), (.slice (some ⟨bk10, 0, none⟩) 2 2, [(0, 31), (127, 127)])] ∧ Below w.heap.size w y22) := Lib.hid ⟨HX.out.1.next hb, HX.out.2.1.next hb, HX.out.2.2.trans (hb.mono HX.out.2.2.size)⟩
  clear hb
  refine hK.out _ _ HX.out.1 (fun _ => ?_)
  clear hK
  try simp only [Act.put, g1, g2, g3, g4, g5, g6]
  refine wpAnyH_one (i := 43) (by kernel_rfl) rfl (fun K hK => ?_)
  simp only [g4, g5, g6]
  go_simp
  go_at_call 73
  with_reducible refine (span_any 65 70 _).mono ?_
  rintro e y23 ⟨rfl, hb⟩
  replace HX : Hid (PcS p1 p2 p3 p4 y23 ∧ OwnAll y23 w.heap.size [(.slice (some ⟨bk0, 0, none⟩) 1 ck0, [(65, 90)]), (.slice (some ⟨bk1, 0, none⟩) 1 ck1, [(97, 122)]), (.slice (some ⟨bk2, 0, none⟩) 2 ck2, [(65, 90), (97, 122)]), (.slice (some ⟨bk3, 0, none⟩) 1 ck3, [(48, 57)]), (.slice (some ⟨bk4, 0, none⟩) 3 ck4, [(48, 57), (65, 90), (97, 122)]), (.slice (some ⟨bk5, 0, none⟩) 2 2, [(9, 13), (32, 32)]), (.slice (some ⟨bk6, 0, none⟩) 2 2, [(9, 9), (32, 32)]), (.slice (some ⟨bk7, 0, none⟩) 4 4, [(33, 47), (58, 64), (91, 96), (123, 126)]), (.slice (some ⟨bk8, 0, none⟩) 1 1, [(32, 126)]), (.slice (some ⟨bk9, 0, none⟩) 1 1, [(33, 126)]), (.slice (some ⟨bk10, 0, none⟩) 2 2, [(0, 31), (127, 127)])] ∧ Below w.heap.size w y23) := Lib.hid ⟨HX.out.1.next hb, HX.out.2.1.next hb, HX.out.2.2.trans (hb.mono HX.out.2.2.size)⟩
  clear hb
  refine hK.out _ _ HX.out.1 (fun _ => ?_)
  clear hK
  try simp only [Act.put, g1, g2, g3, g4, g5, g6]
  refine wpAnyH_one (i := 44) (by kernel_rfl) rfl (fun K hK => ?_)
  simp only [g4, g5, g6]
  go_simp
  go_at_call 73
  with_reducible refine (span_any 97 102 _).mono ?_
  rintro e y24 ⟨rfl, hb⟩
  replace HX : Hid (PcS p1 p2 p3 p4 y24 ∧ OwnAll y24 w.heap.size [(.slice (some ⟨bk0, 0, none⟩) 1 ck0, [(65, 90)]), (.slice (some ⟨bk1, 0, none⟩) 1 ck1, [(97, 122)]), (.slice (some ⟨bk2, 0, none⟩) 2 ck2, [(65, 90), (97, 122)]), (.slice (some ⟨bk3, 0, none⟩) 1 ck3, [(48, 57)]), (.slice (some ⟨bk4, 0, none⟩) 3 ck4, [(48, 57), (65, 90), (97, 122)]), (.slice (some ⟨bk5, 0, none⟩) 2 2, [(9, 13), (32, 32)]), (.slice (some ⟨bk6, 0, none⟩) 2 2, [(9, 9), (32, 32)]), (.slice (some ⟨bk7, 0, none⟩) 4 4, [(33, 47), (58, 64), (91, 96), (123, 126)]), (.slice (some ⟨bk8, 0, none⟩) 1 1, [(32, 126)]), (.slice (some ⟨bk9, 0, none⟩) 1 1, [(33, 126)]), (.slice (some ⟨bk10, 0, none⟩) 2 2, [(0, 31), (127, 127)])] ∧ Below w.heap.size w y24) := Lib.hid ⟨HX.out.1.next hb, HX.out.2.1.next hb, HX.out.2.2.trans (hb.mono HX.out.2.2.size)⟩
  clear hb
  refine hK.out _ _ HX.out.1 (fun _ => ?_)
  clear hK
  try simp only [Act.put, g1, g2, g3, g4, g5, g6]
  refine wpAnyH_one (i := 45) (by kernel_rfl) rfl (fun K hK => ?_)
  simp only [g4, g5, g6]
  go_simp
  replace HX : Hid (PcS p1 p2 p3 p4 (y24.alloc (.cells #[.int .i32 48, .int .i32 57, .int .i32 65, .int .i32 70, .int .i32 97, .int .i32 102] 109)) ∧ OwnAll (y24.alloc (.cells #[.int .i32 48, .int .i32 57, .int .i32 65, .int .i32 70, .int .i32 97, .int .i32 102] 109)) w.heap.size [(.slice (some ⟨bk0, 0, none⟩) 1 ck0, [(65, 90)]), (.slice (some ⟨bk1, 0, none⟩) 1 ck1, [(97, 122)]), (.slice (some ⟨bk2, 0, none⟩) 2 ck2, [(65, 90), (97, 122)]), (.slice (some ⟨bk3, 0, none⟩) 1 ck3, [(48, 57)]), (.slice (some ⟨bk4, 0, none⟩) 3 ck4, [(48, 57), (65, 90), (97, 122)]), (.slice (some ⟨bk5, 0, none⟩) 2 2, [(9, 13), (32, 32)]), (.slice (some ⟨bk6, 0, none⟩) 2 2, [(9, 9), (32, 32)]), (.slice (some ⟨bk7, 0, none⟩) 4 4, [(33, 47), (58, 64), (91, 96), (123, 126)]), (.slice (some ⟨bk8, 0, none⟩) 1 1, [(32, 126)]), (.slice (some ⟨bk9, 0, none⟩) 1 1, [(33, 126)]), (.slice (some ⟨bk10, 0, none⟩) 2 2, [(0, 31), (127, 127)]), (.slice (some ⟨y24.heap.size, 0, none⟩) 3 3, [(48, 57), (65, 70), (97, 102)])] ∧ Below w.heap.size w (y24.alloc (.cells #[.int .i32 48, .int .i32 57, .int .i32 65, .int .i32 70, .int .i32 97, .int .i32 102] 109))) := Lib.hid ⟨HX.out.1.next ((Below.refl _ _).alloc (Nat.le_refl _) _), HX.out.2.1.cons [(48, 57), (65, 70), (97, 102)] HX.out.2.2.size rfl (by unfold maxLen; omega), HX.out.2.2.alloc HX.out.2.2.size _⟩
  refine hK.out _ _ HX.out.1 (fun _ => ?_)
  clear hK
  generalize y24.alloc (.cells #[.int .i32 48, .int .i32 57, .int .i32 65, .int .i32 70, .int .i32 97, .int .i32 102] 109) = y25 at *
  generalize y24.heap.size = bk11 at *
  try simp only [Act.put, g1, g2, g3, g4, g5, g6]
  refine wpAnyH_one (i := 46) (by kernel_rfl) rfl (fun K hK => ?_)
  simp only [g4, g5, g6]
  go_simp
  go_at_call 74
  with_reducible refine (class_any ⟨#[120, 100, 105, 103, 105, 116]⟩ (some ⟨bk11, 0, none⟩) 3 3 _).mono ?_
  rintro e y26 ⟨rfl, hb⟩
  replace HX : Hid (PcS p1 p2 p3 p4 y26 ∧ OwnAll y26 w.heap.size [(.slice (some ⟨bk0, 0, none⟩) 1 ck0, [(65, 90)]), (.slice (some ⟨bk1, 0, none⟩) 1 ck1, [(97, 122)]), (.slice (some ⟨bk2, 0, none⟩) 2 ck2, [(65, 90), (97, 122)]), (.slice (some ⟨bk3, 0, none⟩) 1 ck3, [(48, 57)]), (.slice (some ⟨bk4, 0, none⟩) 3 ck4, [(48, 57), (65, 90), (97, 122)]), (.slice (some ⟨bk5, 0, none⟩) 2 2, [(9, 13), (32, 32)]), (.slice (some ⟨bk6, 0, none⟩) 2 2, [(9, 9), (32, 32)]), (.slice (some ⟨bk7, 0, none⟩) 4 4, [(33, 47), (58, 64), (91, 96), (123, 126)]), (.slice (some ⟨bk8, 0, none⟩) 1 1, [(32, 126)]), (.slice (some ⟨bk9, 0, none⟩) 1 1, [(33, 126)]), (.slice (some ⟨bk10, 0, none⟩) 2 2, [(0, 31), (127, 127)]), (.slice (some ⟨bk11, 0, none⟩) 3 3, [(48, 57), (65, 70), (97, 102)])] ∧ Below w.heap.size w y26) := Lib.hid ⟨HX.out.1.next hb, HX.out.2.1.next hb, HX.out.2.2.trans (hb.mono HX.out.2.2.size)⟩
  clear hb
  refine hK.out _ _ HX.out.1 (fun _ => ?_)
  clear hK
  try simp only [Act.put, g1, g2, g3, g4, g5, g6]
  refine wpAnyH_one (i := 47) (by kernel_rfl) rfl (fun K hK => ?_)
  simp only [g4, g5, g6]
  go_simp
  have hcl : ClsAt (y26.alloc (.cells #[.string ⟨#[117, 112, 112, 101, 114]⟩, .slice (some ⟨bk0, 0, none⟩) 1 ck0, .string ⟨#[108, 111, 119, 101, 114]⟩, .slice (some ⟨bk1, 0, none⟩) 1 ck1, .string ⟨#[97, 108, 112, 104, 97]⟩, .slice (some ⟨bk2, 0, none⟩) 2 ck2, .string ⟨#[100, 105, 103, 105, 116]⟩, .slice (some ⟨bk3, 0, none⟩) 1 ck3, .string ⟨#[97, 108, 110, 117, 109]⟩, .slice (some ⟨bk4, 0, none⟩) 3 ck4, .string ⟨#[115, 112, 97, 99, 101]⟩, .slice (some ⟨bk5, 0, none⟩) 2 2, .string ⟨#[98, 108, 97, 110, 107]⟩, .slice (some ⟨bk6, 0, none⟩) 2 2, .string ⟨#[112, 117, 110, 99, 116]⟩, .slice (some ⟨bk7, 0, none⟩) 4 4, .string ⟨#[112, 114, 105, 110, 116]⟩, .slice (some ⟨bk8, 0, none⟩) 1 1, .string ⟨#[103, 114, 97, 112, 104]⟩, .slice (some ⟨bk9, 0, none⟩) 1 1, .string ⟨#[99, 110, 116, 114, 108]⟩, .slice (some ⟨bk10, 0, none⟩) 2 2, .string ⟨#[120, 100, 105, 103, 105, 116]⟩, .slice (some ⟨bk11, 0, none⟩) 3 3] 86)) w.heap.size (.slice (some ⟨y26.heap.size, 0, none⟩) 12 12) plainCls := ⟨[.slice (some ⟨bk0, 0, none⟩) 1 ck0, .slice (some ⟨bk1, 0, none⟩) 1 ck1, .slice (some ⟨bk2, 0, none⟩) 2 ck2, .slice (some ⟨bk3, 0, none⟩) 1 ck3, .slice (some ⟨bk4, 0, none⟩) 3 ck4, (.slice (some ⟨bk5, 0, none⟩) 2 2), (.slice (some ⟨bk6, 0, none⟩) 2 2), (.slice (some ⟨bk7, 0, none⟩) 4 4), (.slice (some ⟨bk8, 0, none⟩) 1 1), (.slice (some ⟨bk9, 0, none⟩) 1 1), (.slice (some ⟨bk10, 0, none⟩) 2 2), (.slice (some ⟨bk11, 0, none⟩) 3 3)], rfl, own_newK (l := clsC plainCls [.slice (some ⟨bk0, 0, none⟩) 1 ck0, .slice (some ⟨bk1, 0, none⟩) 1 ck1, .slice (some ⟨bk2, 0, none⟩) 2 ck2, .slice (some ⟨bk3, 0, none⟩) 1 ck3, .slice (some ⟨bk4, 0, none⟩) 3 ck4, (.slice (some ⟨bk5, 0, none⟩) 2 2), (.slice (some ⟨bk6, 0, none⟩) 2 2), (.slice (some ⟨bk7, 0, none⟩) 4 4), (.slice (some ⟨bk8, 0, none⟩) 1 1), (.slice (some ⟨bk9, 0, none⟩) 1 1), (.slice (some ⟨bk10, 0, none⟩) 2 2), (.slice (some ⟨bk11, 0, none⟩) 3 3)]) HX.out.2.2.size (by rfl) (by unfold maxLen; omega), fun i c x hc hx => all_zip (vs := [.slice (some ⟨bk0, 0, none⟩) 1 ck0, .slice (some ⟨bk1, 0, none⟩) 1 ck1, .slice (some ⟨bk2, 0, none⟩) 2 ck2, .slice (some ⟨bk3, 0, none⟩) 1 ck3, .slice (some ⟨bk4, 0, none⟩) 3 ck4, (.slice (some ⟨bk5, 0, none⟩) 2 2), (.slice (some ⟨bk6, 0, none⟩) 2 2), (.slice (some ⟨bk7, 0, none⟩) 4 4), (.slice (some ⟨bk8, 0, none⟩) 1 1), (.slice (some ⟨bk9, 0, none⟩) 1 1), (.slice (some ⟨bk10, 0, none⟩) 2 2), (.slice (some ⟨bk11, 0, none⟩) 3 3)]) (cs := plainCls) (HX.out.2.1.next ((Below.refl _ _).alloc (Nat.le_refl _) _)) i c x hc hx⟩
  have HE : Hid (ClsAt (y26.alloc (.cells #[.string ⟨#[117, 112, 112, 101, 114]⟩, .slice (some ⟨bk0, 0, none⟩) 1 ck0, .string ⟨#[108, 111, 119, 101, 114]⟩, .slice (some ⟨bk1, 0, none⟩) 1 ck1, .string ⟨#[97, 108, 112, 104, 97]⟩, .slice (some ⟨bk2, 0, none⟩) 2 ck2, .string ⟨#[100, 105, 103, 105, 116]⟩, .slice (some ⟨bk3, 0, none⟩) 1 ck3, .string ⟨#[97, 108, 110, 117, 109]⟩, .slice (some ⟨bk4, 0, none⟩) 3 ck4, .string ⟨#[115, 112, 97, 99, 101]⟩, .slice (some ⟨bk5, 0, none⟩) 2 2, .string ⟨#[98, 108, 97, 110, 107]⟩, .slice (some ⟨bk6, 0, none⟩) 2 2, .string ⟨#[112, 117, 110, 99, 116]⟩, .slice (some ⟨bk7, 0, none⟩) 4 4, .string ⟨#[112, 114, 105, 110, 116]⟩, .slice (some ⟨bk8, 0, none⟩) 1 1, .string ⟨#[103, 114, 97, 112, 104]⟩, .slice (some ⟨bk9, 0, none⟩) 1 1, .string ⟨#[99, 110, 116, 114, 108]⟩, .slice (some ⟨bk10, 0, none⟩) 2 2, .string ⟨#[120, 100, 105, 103, 105, 116]⟩, .slice (some ⟨bk11, 0, none⟩) 3 3] 86)) w.heap.size (.slice (some ⟨y26.heap.size, 0, none⟩) 12 12) plainCls ∧ Below w.heap.size w (y26.alloc (.cells #[.string ⟨#[117, 112, 112, 101, 114]⟩, .slice (some ⟨bk0, 0, none⟩) 1 ck0, .string ⟨#[108, 111, 119, 101, 114]⟩, .slice (some ⟨bk1, 0, none⟩) 1 ck1, .string ⟨#[97, 108, 112, 104, 97]⟩, .slice (some ⟨bk2, 0, none⟩) 2 ck2, .string ⟨#[100, 105, 103, 105, 116]⟩, .slice (some ⟨bk3, 0, none⟩) 1 ck3, .string ⟨#[97, 108, 110, 117, 109]⟩, .slice (some ⟨bk4, 0, none⟩) 3 ck4, .string ⟨#[115, 112, 97, 99, 101]⟩, .slice (some ⟨bk5, 0, none⟩) 2 2, .string ⟨#[98, 108, 97, 110, 107]⟩, .slice (some ⟨bk6, 0, none⟩) 2 2, .string ⟨#[112, 117, 110, 99, 116]⟩, .slice (some ⟨bk7, 0, none⟩) 4 4, .string ⟨#[112, 114, 105, 110, 116]⟩, .slice (some ⟨bk8, 0, none⟩) 1 1, .string ⟨#[103, 114, 97, 112, 104]⟩, .slice (some ⟨bk9, 0, none⟩) 1 1, .string ⟨#[99, 110, 116, 114, 108]⟩, .slice (some ⟨bk10, 0, none⟩) 2 2, .string ⟨#[120, 100, 105, 103, 105, 116]⟩, .slice (some ⟨bk11, 0, none⟩) 3 3] 86))) := Lib.hid ⟨hcl, HX.out.2.2.alloc HX.out.2.2.size _⟩
  clear hcl
  refine hK.out _ _ (HX.out.1.next ((Below.refl _ _).alloc (Nat.le_refl _) _)) (fun _ => ?_)
  clear hK
  try simp only [Act.put, g1, g2, g3, g4, g5, g6]
  refine wpAnyH_one (i := 48) (by kernel_rfl) rfl (fun K hK => ?_)
  simp only [g4, g5, g6]
  go_simp
  refine hK.out _ _ (HX.out.1.next ((Below.refl _ _).alloc (Nat.le_refl _) _)) (fun _ => ?_)
  refine wpAnyH_done (by kernel_rfl) ?_ _
  go_wp2
  go_ret
  exact ⟨_, rfl, HE.out⟩
 case step =>
  clear HB5
  rintro n listed a W ⟨f, x10, x11, x13, x14, x17, x18, x20, x21, x25, x26, hn, rfl, rfl, hS, h⟩
  have hr := pc_ready f h.fit
  refine ⟨?_, ?_⟩
  ·intro h0
   have h1 := hr.2
   have h2 : (f.left == 0) = false := by rw [← hn]; rfl
   rw [h2, Bool.false_or] at h1
   have h5 := congrArg List.isEmpty h0
   rw [Bool.not_eq_true'] at h1
   exact absurd (h1.symm.trans h5) (by simp)
  intro i hi
  have hok : f.ok i = true := List.all_eq_true.1 hr.1 i hi
  clear hr hi
  unfold Fp.ok at hok
  split at hok
  ·have hm : f.b1 = false := by simpa using hok
   have zc : f.c1 = false := by cases e : f.c1 with | false => rfl | true => (have hft := h.fit; unfold Fp.fit at hft; simp [e, hm] at hft)
   have hN := h.next ((Below.refl W.heap.size W).alloc (Nat.le_refl _) (.cells #[.int .i32 65, .int .i32 90] 109))
   have hS2 := hS.next ((Below.refl W.heap.size W).alloc (Nat.le_refl _) (.cells #[.int .i32 65, .int .i32 90] 109))
   have hL : PcI w { f with b1 := true } (.slice (some ⟨W.heap.size, 0, none⟩) 1 1) x11 x13 x14 x17 x18 x20 x21 x25 x26 (W.alloc (.cells #[.int .i32 65, .int .i32 90] 109)) := ⟨hN.bel, by (have hft := h.fit; unfold Fp.fit at hft ⊢; simp only [hm, zc] at hft ⊢; simpa using hft), fun _ => ⟨⟨_, _, rfl⟩, own_newK (l := prsC [(65, 90)]) h.bel.size (by rfl) (by unfold maxLen; omega)⟩, hN.hb2, hN.hb3, hN.hb4, hN.hb5, fun e => absurd (show f.c1 = true from e) (by rw [zc]; simp), hN.hc2, hN.hc3, hN.hc4, hN.hc5⟩
   have HE : Hid (PcS p1 p2 p3 p4 (W.alloc (.cells #[.int .i32 65, .int .i32 90] 109)) ∧ PcQ w p1 p2 p3 p4 n (({ f with b1 := true } : Fp).arr) (pcAct p1 p2 p3 p4 (.slice (some ⟨W.heap.size, 0, none⟩) 1 1) x11 x13 x14 x17 x18 x20 x21 x25 x26) (W.alloc (.cells #[.int .i32 65, .int .i32 90] 109))) := Lib.hid ⟨hS2, { f with b1 := true }, (.slice (some ⟨W.heap.size, 0, none⟩) 1 1), x11, x13, x14, x17, x18, x20, x21, x25, x26, (by obtain ⟨b1, b2, b3, b4, b5, c1, c2, c3, c4, c5⟩ := f; simp only at hm; subst hm; simp only [Fp.left, Bool.not_false, Bool.not_true, Bool.toNat_true, Bool.toNat_false] at hn ⊢; omega), rfl, rfl, hS2, hL⟩
   clear hL hN h hS hS2
   refine wpOp_fit rfl ?_
   unfold pcAct
   go_simp
   exact HE.out.2
  ·have hm : f.b2 = false := by simpa using hok
   have zc : f.c2 = false := by cases e : f.c2 with | false => rfl | true => (have hft := h.fit; unfold Fp.fit at hft; simp [e, hm] at hft)
   have hN := h.next ((Below.refl W.heap.size W).alloc (Nat.le_refl _) (.cells #[.int .i32 97, .int .i32 122] 109))
   have hS2 := hS.next ((Below.refl W.heap.size W).alloc (Nat.le_refl _) (.cells #[.int .i32 97, .int .i32 122] 109))
   have hL : PcI w { f with b2 := true } x10 x11 (.slice (some ⟨W.heap.size, 0, none⟩) 1 1) x14 x17 x18 x20 x21 x25 x26 (W.alloc (.cells #[.int .i32 97, .int .i32 122] 109)) := ⟨hN.bel, by (have hft := h.fit; unfold Fp.fit at hft ⊢; simp only [hm, zc] at hft ⊢; simpa using hft), hN.hb1, fun _ => ⟨⟨_, _, rfl⟩, own_newK (l := prsC [(97, 122)]) h.bel.size (by rfl) (by unfold maxLen; omega)⟩, hN.hb3, hN.hb4, hN.hb5, hN.hc1, fun e => absurd (show f.c2 = true from e) (by rw [zc]; simp), hN.hc3, hN.hc4, hN.hc5⟩
   have HE : Hid (PcS p1 p2 p3 p4 (W.alloc (.cells #[.int .i32 97, .int .i32 122] 109)) ∧ PcQ w p1 p2 p3 p4 n (({ f with b2 := true } : Fp).arr) (pcAct p1 p2 p3 p4 x10 x11 (.slice (some ⟨W.heap.size, 0, none⟩) 1 1) x14 x17 x18 x20 x21 x25 x26) (W.alloc (.cells #[.int .i32 97, .int .i32 122] 109))) := Lib.hid ⟨hS2, { f with b2 := true }, x10, x11, (.slice (some ⟨W.heap.size, 0, none⟩) 1 1), x14, x17, x18, x20, x21, x25, x26, (by obtain ⟨b1, b2, b3, b4, b5, c1, c2, c3, c4, c5⟩ := f; simp only at hm; subst hm; simp only [Fp.left, Bool.not_false, Bool.not_true, Bool.toNat_true, Bool.toNat_false] at hn ⊢; omega), rfl, rfl, hS2, hL⟩
   clear hL hN h hS hS2
   refine wpOp_fit rfl ?_
   unfold pcAct
   go_simp
   exact HE.out.2
  ·have hm : f.b3 = false := by simpa using hok
   have zc : f.c3 = false := by cases e : f.c3 with | false => rfl | true => (have hft := h.fit; unfold Fp.fit at hft; simp [e, hm] at hft)
   have hN := h.next ((Below.refl W.heap.size W).alloc (Nat.le_refl _) (.cells #[.int .i32 65, .int .i32 90, .int .i32 97, .int .i32 122] 109))
   have hS2 := hS.next ((Below.refl W.heap.size W).alloc (Nat.le_refl _) (.cells #[.int .i32 65, .int .i32 90, .int .i32 97, .int .i32 122] 109))
   have hL : PcI w { f with b3 := true } x10 x11 x13 x14 (.slice (some ⟨W.heap.size, 0, none⟩) 2 2) x18 x20 x21 x25 x26 (W.alloc (.cells #[.int .i32 65, .int .i32 90, .int .i32 97, .int .i32 122] 109)) := ⟨hN.bel, by (have hft := h.fit; unfold Fp.fit at hft ⊢; simp only [hm, zc] at hft ⊢; simpa using hft), hN.hb1, hN.hb2, fun _ => ⟨⟨_, _, rfl⟩, own_newK (l := prsC [(65, 90), (97, 122)]) h.bel.size (by rfl) (by unfold maxLen; omega)⟩, hN.hb4, hN.hb5, hN.hc1, hN.hc2, fun e => absurd (show f.c3 = true from e) (by rw [zc]; simp), hN.hc4, hN.hc5⟩
   have HE : Hid (PcS p1 p2 p3 p4 (W.alloc (.cells #[.int .i32 65, .int .i32 90, .int .i32 97, .int .i32 122] 109)) ∧ PcQ w p1 p2 p3 p4 n (({ f with b3 := true } : Fp).arr) (pcAct p1 p2 p3 p4 x10 x11 x13 x14 (.slice (some ⟨W.heap.size, 0, none⟩) 2 2) x18 x20 x21 x25 x26) (W.alloc (.cells #[.int .i32 65, .int .i32 90, .int .i32 97, .int .i32 122] 109))) := Lib.hid ⟨hS2, { f with b3 := true }, x10, x11, x13, x14, (.slice (some ⟨W.heap.size, 0, none⟩) 2 2), x18, x20, x21, x25, x26, (by obtain ⟨b1, b2, b3, b4, b5, c1, c2, c3, c4, c5⟩ := f; simp only at hm; subst hm; simp only [Fp.left, Bool.not_false, Bool.not_true, Bool.toNat_true, Bool.toNat_false] at hn ⊢; omega), rfl, rfl, hS2, hL⟩
   clear hL hN h hS hS2
   refine wpOp_fit rfl ?_
   unfold pcAct
   go_simp
   exact HE.out.2
  ·have hm : f.b4 = false := by simpa using hok
   have zc : f.c4 = false := by cases e : f.c4 with | false => rfl | true => (have hft := h.fit; unfold Fp.fit at hft; simp [e, hm] at hft)
   have hN := h.next ((Below.refl W.heap.size W).alloc (Nat.le_refl _) (.cells #[.int .i32 48, .int .i32 57] 109))
   have hS2 := hS.next ((Below.refl W.heap.size W).alloc (Nat.le_refl _) (.cells #[.int .i32 48, .int .i32 57] 109))
   have hL : PcI w { f with b4 := true } x10 x11 x13 x14 x17 x18 (.slice (some ⟨W.heap.size, 0, none⟩) 1 1) x21 x25 x26 (W.alloc (.cells #[.int .i32 48, .int .i32 57] 109)) := ⟨hN.bel, by (have hft := h.fit; unfold Fp.fit at hft ⊢; simp only [hm, zc] at hft ⊢; simpa using hft), hN.hb1, hN.hb2, hN.hb3, fun _ => ⟨⟨_, _, rfl⟩, own_newK (l := prsC [(48, 57)]) h.bel.size (by rfl) (by unfold maxLen; omega)⟩, hN.hb5, hN.hc1, hN.hc2, hN.hc3, fun e => absurd (show f.c4 = true from e) (by rw [zc]; simp), hN.hc5⟩
   have HE : Hid (PcS p1 p2 p3 p4 (W.alloc (.cells #[.int .i32 48, .int .i32 57] 109)) ∧ PcQ w p1 p2 p3 p4 n (({ f with b4 := true } : Fp).arr) (pcAct p1 p2 p3 p4 x10 x11 x13 x14 x17 x18 (.slice (some ⟨W.heap.size, 0, none⟩) 1 1) x21 x25 x26) (W.alloc (.cells #[.int .i32 48, .int .i32 57] 109))) := Lib.hid ⟨hS2, { f with b4 := true }, x10, x11, x13, x14, x17, x18, (.slice (some ⟨W.heap.size, 0, none⟩) 1 1), x21, x25, x26, (by obtain ⟨b1, b2, b3, b4, b5, c1, c2, c3, c4, c5⟩ := f; simp only at hm; subst hm; simp only [Fp.left, Bool.not_false, Bool.not_true, Bool.toNat_true, Bool.toNat_false] at hn ⊢; omega), rfl, rfl, hS2, hL⟩
   clear hL hN h hS hS2
   refine wpOp_fit rfl ?_
   unfold pcAct
   go_simp
   exact HE.out.2
  ·have hm : f.b5 = false := by simpa using hok
   have zc : f.c5 = false := by cases e : f.c5 with | false => rfl | true => (have hft := h.fit; unfold Fp.fit at hft; simp [e, hm] at hft)
   have hN := h.next ((Below.refl W.heap.size W).alloc (Nat.le_refl _) (.cells #[.int .i32 48, .int .i32 57, .int .i32 65, .int .i32 90, .int .i32 97, .int .i32 122] 109))
   have hS2 := hS.next ((Below.refl W.heap.size W).alloc (Nat.le_refl _) (.cells #[.int .i32 48, .int .i32 57, .int .i32 65, .int .i32 90, .int .i32 97, .int .i32 122] 109))
   have hL : PcI w { f with b5 := true } x10 x11 x13 x14 x17 x18 x20 x21 (.slice (some ⟨W.heap.size, 0, none⟩) 3 3) x26 (W.alloc (.cells #[.int .i32 48, .int .i32 57, .int .i32 65, .int .i32 90, .int .i32 97, .int .i32 122] 109)) := ⟨hN.bel, by (have hft := h.fit; unfold Fp.fit at hft ⊢; simp only [hm, zc] at hft ⊢; simpa using hft), hN.hb1, hN.hb2, hN.hb3, hN.hb4, fun _ => ⟨⟨_, _, rfl⟩, own_newK (l := prsC [(48, 57), (65, 90), (97, 122)]) h.bel.size (by rfl) (by unfold maxLen; omega)⟩, hN.hc1, hN.hc2, hN.hc3, hN.hc4, fun e => absurd (show f.c5 = true from e) (by rw [zc]; simp)⟩
   have HE : Hid (PcS p1 p2 p3 p4 (W.alloc (.cells #[.int .i32 48, .int .i32 57, .int .i32 65, .int .i32 90, .int .i32 97, .int .i32 122] 109)) ∧ PcQ w p1 p2 p3 p4 n (({ f with b5 := true } : Fp).arr) (pcAct p1 p2 p3 p4 x10 x11 x13 x14 x17 x18 x20 x21 (.slice (some ⟨W.heap.size, 0, none⟩) 3 3) x26) (W.alloc (.cells #[.int .i32 48, .int .i32 57, .int .i32 65, .int .i32 90, .int .i32 97, .int .i32 122] 109))) := Lib.hid ⟨hS2, { f with b5 := true }, x10, x11, x13, x14, x17, x18, x20, x21, (.slice (some ⟨W.heap.size, 0, none⟩) 3 3), x26, (by obtain ⟨b1, b2, b3, b4, b5, c1, c2, c3, c4, c5⟩ := f; simp only at hm; subst hm; simp only [Fp.left, Bool.not_false, Bool.not_true, Bool.toNat_true, Bool.toNat_false] at hn ⊢; omega), rfl, rfl, hS2, hL⟩
   clear hL hN h hS hS2
   refine wpOp_fit rfl ?_
   unfold pcAct
   go_simp
   exact HE.out.2
  ·have hm : f.c1 = false := by simp only [Bool.and_eq_true, Bool.not_eq_true'] at hok; exact hok.2
   have hb' : f.b1 = true := by simp only [Bool.and_eq_true] at hok; exact hok.1
   
   obtain ⟨⟨g, c, rfl⟩, _⟩ := h.hb1 hb'
   have hca := class_any ⟨#[117, 112, 112, 101, 114]⟩ (some ⟨g, 0, none⟩) 1 c W
   refine wpOp_fit rfl ?_
   unfold pcAct
   go_simp
   go_at_call 74
   with_reducible refine hca.mono ?_
   rintro e W' ⟨rfl, hb⟩
   have hN := h.next hb
   have hS2 := hS.next hb
   have hL : PcI w { f with c1 := true } (.slice (some ⟨g, 0, none⟩) 1 c) (.agg #[.string ⟨#[117, 112, 112, 101, 114]⟩, .slice (some ⟨g, 0, none⟩) 1 c]) x13 x14 x17 x18 x20 x21 x25 x26 W' := ⟨hN.bel, by (have hft := h.fit; unfold Fp.fit at hft ⊢; simp only [hm, hb'] at hft ⊢; cases e : f.c2 with | false => simpa [e] using hft | true => simp [e] at hft), hN.hb1, hN.hb2, hN.hb3, hN.hb4, hN.hb5, fun _ => rfl, hN.hc2, hN.hc3, hN.hc4, hN.hc5⟩
   exact ⟨{ f with c1 := true }, (.slice (some ⟨g, 0, none⟩) 1 c), (.agg #[.string ⟨#[117, 112, 112, 101, 114]⟩, .slice (some ⟨g, 0, none⟩) 1 c]), x13, x14, x17, x18, x20, x21, x25, x26, (by obtain ⟨b1, b2, b3, b4, b5, c1, c2, c3, c4, c5⟩ := f; simp only at hm; subst hm; simp only [Fp.left, Bool.not_false, Bool.not_true, Bool.toNat_true, Bool.toNat_false] at hn ⊢; omega), rfl, rfl, hS2, hL⟩
  ·have hm : f.c2 = false := by simp only [Bool.and_eq_true, Bool.not_eq_true'] at hok; exact hok.2
   have hb' : f.b2 = true := by simp only [Bool.and_eq_true] at hok; exact hok.1.1
   have hp : f.c1 = true := by simp only [Bool.and_eq_true] at hok; exact hok.1.2
   obtain ⟨⟨g, c, rfl⟩, _⟩ := h.hb2 hb'
   have hca := class_any ⟨#[108, 111, 119, 101, 114]⟩ (some ⟨g, 0, none⟩) 1 c W
   refine wpOp_fit rfl ?_
   unfold pcAct
   go_simp
   go_at_call 74
   with_reducible refine hca.mono ?_
   rintro e W' ⟨rfl, hb⟩
   have hN := h.next hb
   have hS2 := hS.next hb
   have hL : PcI w { f with c2 := true } x10 x11 (.slice (some ⟨g, 0, none⟩) 1 c) (.agg #[.string ⟨#[108, 111, 119, 101, 114]⟩, .slice (some ⟨g, 0, none⟩) 1 c]) x17 x18 x20 x21 x25 x26 W' := ⟨hN.bel, by (have hft := h.fit; unfold Fp.fit at hft ⊢; simp only [hm, hb', hp] at hft ⊢; cases e : f.c3 with | false => simpa [e] using hft | true => simp [e] at hft), hN.hb1, hN.hb2, hN.hb3, hN.hb4, hN.hb5, hN.hc1, fun _ => rfl, hN.hc3, hN.hc4, hN.hc5⟩
   exact ⟨{ f with c2 := true }, x10, x11, (.slice (some ⟨g, 0, none⟩) 1 c), (.agg #[.string ⟨#[108, 111, 119, 101, 114]⟩, .slice (some ⟨g, 0, none⟩) 1 c]), x17, x18, x20, x21, x25, x26, (by obtain ⟨b1, b2, b3, b4, b5, c1, c2, c3, c4, c5⟩ := f; simp only at hm; subst hm; simp only [Fp.left, Bool.not_false, Bool.not_true, Bool.toNat_true, Bool.toNat_false] at hn ⊢; omega), rfl, rfl, hS2, hL⟩
  ·have hm : f.c3 = false := by simp only [Bool.and_eq_true, Bool.not_eq_true'] at hok; exact hok.2
   have hb' : f.b3 = true := by simp only [Bool.and_eq_true] at hok; exact hok.1.1
   have hp : f.c2 = true := by simp only [Bool.and_eq_true] at hok; exact hok.1.2
   obtain ⟨⟨g, c, rfl⟩, _⟩ := h.hb3 hb'
   have hca := class_any ⟨#[97, 108, 112, 104, 97]⟩ (some ⟨g, 0, none⟩) 2 c W
   refine wpOp_fit rfl ?_
   unfold pcAct
   go_simp
   go_at_call 74
   with_reducible refine hca.mono ?_
   rintro e W' ⟨rfl, hb⟩
   have hN := h.next hb
   have hS2 := hS.next hb
   have hL : PcI w { f with c3 := true } x10 x11 x13 x14 (.slice (some ⟨g, 0, none⟩) 2 c) (.agg #[.string ⟨#[97, 108, 112, 104, 97]⟩, .slice (some ⟨g, 0, none⟩) 2 c]) x20 x21 x25 x26 W' := ⟨hN.bel, by (have hft := h.fit; unfold Fp.fit at hft ⊢; simp only [hm, hb', hp] at hft ⊢; cases e : f.c4 with | false => simpa [e] using hft | true => simp [e] at hft), hN.hb1, hN.hb2, hN.hb3, hN.hb4, hN.hb5, hN.hc1, hN.hc2, fun _ => rfl, hN.hc4, hN.hc5⟩
   exact ⟨{ f with c3 := true }, x10, x11, x13, x14, (.slice (some ⟨g, 0, none⟩) 2 c), (.agg #[.string ⟨#[97, 108, 112, 104, 97]⟩, .slice (some ⟨g, 0, none⟩) 2 c]), x20, x21, x25, x26, (by obtain ⟨b1, b2, b3, b4, b5, c1, c2, c3, c4, c5⟩ := f; simp only at hm; subst hm; simp only [Fp.left, Bool.not_false, Bool.not_true, Bool.toNat_true, Bool.toNat_false] at hn ⊢; omega), rfl, rfl, hS2, hL⟩
  ·have hm : f.c4 = false := by simp only [Bool.and_eq_true, Bool.not_eq_true'] at hok; exact hok.2
   have hb' : f.b4 = true := by simp only [Bool.and_eq_true] at hok; exact hok.1.1
   have hp : f.c3 = true := by simp only [Bool.and_eq_true] at hok; exact hok.1.2
   obtain ⟨⟨g, c, rfl⟩, _⟩ := h.hb4 hb'
   have hca := class_any ⟨#[100, 105, 103, 105, 116]⟩ (some ⟨g, 0, none⟩) 1 c W
   refine wpOp_fit rfl ?_
   unfold pcAct
   go_simp
   go_at_call 74
   with_reducible refine hca.mono ?_
   rintro e W' ⟨rfl, hb⟩
   have hN := h.next hb
   have hS2 := hS.next hb
   have hL : PcI w { f with c4 := true } x10 x11 x13 x14 x17 x18 (.slice (some ⟨g, 0, none⟩) 1 c) (.agg #[.string ⟨#[100, 105, 103, 105, 116]⟩, .slice (some ⟨g, 0, none⟩) 1 c]) x25 x26 W' := ⟨hN.bel, by (have hft := h.fit; unfold Fp.fit at hft ⊢; simp only [hm, hb', hp] at hft ⊢; cases e : f.c5 with | false => simpa [e] using hft | true => simp [e] at hft), hN.hb1, hN.hb2, hN.hb3, hN.hb4, hN.hb5, hN.hc1, hN.hc2, hN.hc3, fun _ => rfl, hN.hc5⟩
   exact ⟨{ f with c4 := true }, x10, x11, x13, x14, x17, x18, (.slice (some ⟨g, 0, none⟩) 1 c), (.agg #[.string ⟨#[100, 105, 103, 105, 116]⟩, .slice (some ⟨g, 0, none⟩) 1 c]), x25, x26, (by obtain ⟨b1, b2, b3, b4, b5, c1, c2, c3, c4, c5⟩ := f; simp only at hm; subst hm; simp only [Fp.left, Bool.not_false, Bool.not_true, Bool.toNat_true, Bool.toNat_false] at hn ⊢; omega), rfl, rfl, hS2, hL⟩
  ·have hm : f.c5 = false := by simp only [Bool.and_eq_true, Bool.not_eq_true'] at hok; exact hok.2
   have hb' : f.b5 = true := by simp only [Bool.and_eq_true] at hok; exact hok.1.1
   have hp : f.c4 = true := by simp only [Bool.and_eq_true] at hok; exact hok.1.2
   obtain ⟨⟨g, c, rfl⟩, _⟩ := h.hb5 hb'
   have hca := class_any ⟨#[97, 108, 110, 117, 109]⟩ (some ⟨g, 0, none⟩) 3 c W
   refine wpOp_fit rfl ?_
   unfold pcAct
   go_simp
   go_at_call 74
   with_reducible refine hca.mono ?_
   rintro e W' ⟨rfl, hb⟩
   have hN := h.next hb
   have hS2 := hS.next hb
   have hL : PcI w { f with c5 := true } x10 x11 x13 x14 x17 x18 x20 x21 (.slice (some ⟨g, 0, none⟩) 3 c) (.agg #[.string ⟨#[97, 108, 110, 117, 109]⟩, .slice (some ⟨g, 0, none⟩) 3 c]) W' := ⟨hN.bel, by (have hft := h.fit; unfold Fp.fit at hft ⊢; simp only [hm, hb', hp] at hft ⊢; simpa using hft), hN.hb1, hN.hb2, hN.hb3, hN.hb4, hN.hb5, hN.hc1, hN.hc2, hN.hc3, hN.hc4, fun _ => rfl⟩
   exact ⟨{ f with c5 := true }, x10, x11, x13, x14, x17, x18, x20, x21, (.slice (some ⟨g, 0, none⟩) 3 c), (.agg #[.string ⟨#[97, 108, 110, 117, 109]⟩, .slice (some ⟨g, 0, none⟩) 3 c]), (by obtain ⟨b1, b2, b3, b4, b5, c1, c2, c3, c4, c5⟩ := f; simp only at hm; subst hm; simp only [Fp.left, Bool.not_false, Bool.not_true, Bool.toNat_true, Bool.toNat_false] at hn ⊢; omega), rfl, rfl, hS2, hL⟩
  ·have : f.left = n + 1 := hn.symm
   rw [this] at hok
   cases hok
  ·cases hok
end Go.Proofs.YtknjhlbhbnldpaaGreatDoor.C
