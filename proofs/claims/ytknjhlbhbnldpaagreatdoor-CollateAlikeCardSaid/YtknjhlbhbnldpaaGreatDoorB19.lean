/-
  Joined: KoJ, KoK, KoL, KoM. Each with what its own head says.
-/
import Derived.Test.YtknjhlbhbnldpaaGreatDoorB17
import Derived.Test.YtknjhlbhbnldpaaGreatDoorB18
import Derived.Test.YtknjhlbhbnldpaaGreatDoorB16

namespace Go.Proofs.YtknjhlbhbnldpaaGreatDoor.C
open Go.RowKit

theorem own_low {w : World} {b b' n sz : Nat} {v : Value} {xs : List Value} {e : TypeId} (h : w.ownsRow b e sz v n xs) (hb : b' ≤ b) : w.ownsRow b' e sz v n xs := ⟨h.1, h.2.imp id fun ⟨g, cap, cur, a, c, d⟩ => ⟨g, cap, cur, a, Nat.le_trans hb c, d⟩⟩
theorem TabAt.drew {w : World} {T : Nat} {L : Loc} {n : Int} (h : TabAt w T L n) : TabAt w.drew T L n := h.keep (Below.refl _ _).drew
theorem ri_new (w : World) (a b c d e : Int) : RI .i32 (w.alloc (.cells #[.int .i32 a, .int .i32 b, .int .i32 c, .int .i32 d, .int .i32 e] 23)) (w.heap.size + 1) (some ⟨w.heap.size, 0, none⟩) 5 [a, b, c, d, e] := by
 refine ⟨rfl, fun _ => ⟨_, rfl, Nat.lt_succ_self _, fun j u hu => ?_⟩⟩
 have hj : j < 5 := (List.getElem?_eq_some_iff.1 hu).1
 rcases (by omega : j = 0 ∨ j = 1 ∨ j = 2 ∨ j = 3 ∨ j = 4) with rfl | rfl | rfl | rfl | rfl <;> (simp at hu; subst hu; simp [Addr.add, World.cell?_alloc_new])
set_option maxRecDepth 100000 in
set_option maxHeartbeats 4000000 in
theorem fold_any (w : World) (T : Nat) (L : Loc) (n c : Int) (h : TabAt w T L n) (h0 : 0 ≤ n) (h1 : n < 4611686018427387904) (hR : rightL L = true) :
  Calls Tryz.prog 13 #[.pointer (some ⟨T, 0, none⟩), .int .i32 c] w fun e w' => ∃ v, e = .returned v ∧ w'.ownsRow w.heap.size 23 1 v (foldL L c).length (celC (foldL L c)) ∧ TabAt w' T L (n + 1) ∧ Fr w w' (· = T) := by
 have hc := count_any w T L n h h0 h1
 clear h
 go_enter Tryz.func13, Tryz.ntmps13
 go_wp2_with fail
 refine hc.mono ?_
 rintro e w1 ⟨rfl, ht, hf⟩
 have hu := up_any w1.drew T L (n + 1) c ht.drew hR
 have HF1 := Lib.hid hf
 clear hc ht hf
 go_wp2
 refine wp_region_held (S := fun _ : World => True) (by kernel_rfl) ?_
 change wpAnyH _ _ _ _ _ _ _ _ w1.drew
 have hS1 : (fun _ : World => True) w1.drew := trivial
 iterate 4 (refine wpH rfl rfl ?_; try simp only [Act.put, g1, g2, g3, g4, g5, g6])
 refine wpHn 5 rfl ?_; try simp only [Act.put, g1, g2, g3, g4, g5, g6]
 refine wpHn 6 rfl ?_; try simp only [Act.put, g1, g2, g3, g4, g5, g6]
 refine wpHn 7 rfl ?_; try simp only [Act.put, g1, g2, g3, g4, g5, g6]
 refine wpHn 8 rfl ?_; try simp only [Act.put, g1, g2, g3, g4, g5, g6]
 refine wpAnyH_one (i := 4) (by kernel_rfl) rfl (fun K hK => ?_)
 simp only [g4, g5, g6]
 go_simp
 go_at_call 36
 refine hu.mono ?_
 rintro e w2 ⟨rfl, ht, hf⟩
 have hl := lo_any w2 T L (n + 1) c ht hR
 have HF2 : Hid (Fr w w2 (· = T)) := Lib.hid (HF1.out.drew.trans hf)
 clear hu ht hf HF1
 refine hK.out _ _ trivial (fun hS2 => ?_)
 try simp only [Act.put, g1, g2, g3, g4, g5, g6]
 refine wpAnyH_one (i := 9) (by kernel_rfl) rfl (fun K hK => ?_)
 simp only [g4, g5, g6]
 go_simp
 go_at_call 36
 refine hl.mono ?_
 rintro e w3 ⟨rfl, ht, hf⟩
 have hl2 := lo_any w3.drew T L (n + 1) (toL L.up c) ht.drew hR
 have HF3 : Hid (Fr w w3 (· = T)) := Lib.hid (HF2.out.trans hf)
 clear hl ht hf HF2
 refine hK.out _ _ trivial (fun hS3 => ?_)
 try simp only [Act.put, g1, g2, g3, g4, g5, g6]
 iterate 2 (refine wpH rfl rfl ?_; try simp only [Act.put, g1, g2, g3, g4, g5, g6])
 refine wpAnyH_done (by kernel_rfl) ?_ _
 go_wp2
 refine wp_region_held (S := fun _ : World => True) (by kernel_rfl) ?_
 change wpAnyH _ _ _ _ _ _ _ _ w3.drew
 have hS4 : (fun _ : World => True) w3.drew := trivial
 iterate 7 (refine wpH rfl rfl ?_; try simp only [Act.put, g1, g2, g3, g4, g5, g6])
 refine wpHn 8 rfl ?_; try simp only [Act.put, g1, g2, g3, g4, g5, g6]
 refine wpHn 9 rfl ?_; try simp only [Act.put, g1, g2, g3, g4, g5, g6]
 refine wpHn 10 rfl ?_; try simp only [Act.put, g1, g2, g3, g4, g5, g6]
 refine wpHn 11 rfl ?_; try simp only [Act.put, g1, g2, g3, g4, g5, g6]
 refine wpAnyH_one (i := 7) (by kernel_rfl) rfl (fun K hK => ?_)
 simp only [g4, g5, g6]
 go_simp
 go_at_call 36
 refine hl2.mono ?_
 rintro e w4 ⟨rfl, ht, hf⟩
 have hu2 := up_any w4 T L (n + 1) (toL L.lo c) ht hR
 have HF4 : Hid (Fr w w4 (· = T)) := Lib.hid (HF3.out.drew.trans hf)
 clear hl2 ht hf HF3
 refine hK.out _ _ trivial (fun hS5 => ?_)
 try simp only [Act.put, g1, g2, g3, g4, g5, g6]
 refine wpAnyH_one (i := 12) (by kernel_rfl) rfl (fun K hK => ?_)
 simp only [g4, g5, g6]
 go_simp
 go_at_call 36
 refine hu2.mono ?_
 rintro e w5 ⟨rfl, ht, hf⟩
 have HF5 : Hid (Fr w w5 (· = T)) := Lib.hid (HF4.out.trans hf)
 have HT5 := Lib.hid ht
 have hri := rising_any _ _ _ 5 _ (ri_new w5 c (toL L.up c) (toL L.lo c) (toL L.lo (toL L.up c)) (toL L.up (toL L.lo c)))
 clear hu2 ht hf HF4
 refine hK.out _ _ trivial (fun hS6 => ?_)
 try simp only [Act.put, g1, g2, g3, g4, g5, g6]
 refine wpAnyH_one (i := 13) (by kernel_rfl) rfl (fun K hK => ?_)
 simp only [g4, g5, g6]
 go_simp
 refine hK.out _ _ trivial (fun hS7 => ?_)
 try simp only [Act.put, g1, g2, g3, g4, g5, g6]
 refine wpAnyH_one (i := 14) (by kernel_rfl) rfl (fun K hK => ?_)
 simp only [g4, g5, g6]
 go_simp
 go_at_call 37
 refine hri.mono ?_
 rintro e w6 ⟨v, rfl, hown, hb⟩
 have hs5 := HF5.out.size
 have HEND : Hid (w6.ownsRow w.heap.size 23 1 v (foldL L c).length (celC (foldL L c)) ∧ TabAt w6 T L (n + 1) ∧ Fr w w6 (· = T)) := Lib.hid ⟨own_low hown (by simp; omega), HT5.out.keep (((Below.refl _ _).alloc (Nat.le_refl _) _).trans (hb.mono (by simp))), HF5.out.trans ((Fr.of_below (((Below.refl _ _).alloc (Nat.le_refl _) _))).trans (.of_below hb))⟩
 clear hri hown hb
 refine hK.out _ _ trivial (fun hS8 => ?_)
 try simp only [Act.put, g1, g2, g3, g4, g5, g6]
 iterate 1 (refine wpH rfl rfl ?_; try simp only [Act.put, g1, g2, g3, g4, g5, g6])
 refine wpAnyH_done (by kernel_rfl) ?_ _
 go_wp2
 go_ret
 exact ⟨_, rfl, HEND.out⟩
end Go.Proofs.YtknjhlbhbnldpaaGreatDoor.C

namespace Go.Proofs.YtknjhlbhbnldpaaGreatDoor.C
open Go.RowKit

set_option maxRecDepth 100000 in
theorem cloneStr_any (s : ByteArray) (w : World) (hs : s.size ≤ 281474976710656) : Calls Tryz.prog 71 #[.string s] w fun e w' => e = .returned (.string s) ∧ Below w.heap.size w w' := by
 have h := Tryz.stringslite_Clone s w hs
 go_enter Tryz.func71, Tryz.ntmps71
 go_wp2_with (go_at_call 111; refine h.mono ?_; rintro e w' ⟨rfl, hb⟩)
 go_ret
 exact ⟨rfl, hb⟩
theorem below_cell {w w' : World} (hb : Below w.heap.size w w') {p : Addr} {v : Value} (h : w.cell? p = some v) : w'.cell? p = some v := (hb.cell (p := p) (World.block_lt_of_cell? w _ h)).trans h
theorem below_frozen {w w' : World} (hb : Below w.heap.size w w') {p : Addr} {v : Value} (h : w.cell? p = some v) (hz : w.frozen? p = false) : w'.frozen? p = false := (hb.frozen (p := p) (World.block_lt_of_cell? w _ h)).trans hz
set_option maxRecDepth 100000 in
set_option maxHeartbeats 4000000 in
theorem copyElem_any (w : World) (B : Nat) (nm : List UInt8) (cl : List Int) (sm : Int) (A : Option Addr) (c : Nat) (hx : RI .i32 w B A cl.length cl) (hB : B ≤ w.heap.size) (hn : cl.length ≤ 1073741824) (hnm : nm.length ≤ 281474976710656) :
  Calls Tryz.prog 29 #[.agg #[.string (str nm), .slice A cl.length c, .int .i64 sm]] w fun e w' => ∃ v, e = .returned (.agg #[.string (str nm), v, .int .i64 sm]) ∧ w'.ownsRow w.heap.size 23 1 v cl.length (celC cl) ∧ Below w.heap.size w w' := by
 obtain ⟨W, hW⟩ : ∃ W, W = (w.alloc (.cells #[.string (str nm), .slice A cl.length c, .int .i64 sm] 39)).alloc (.cells #[.string ⟨#[]⟩, .slice none 0 0, .int .i64 0] 39) := ⟨_, rfl⟩
 obtain ⟨S, hS⟩ : ∃ S, w.heap.size = S := ⟨_, rfl⟩
 have hs1 : (w.alloc (.cells #[.string (str nm), .slice A cl.length c, .int .i64 sm] 39)).heap.size = S + 1 := by simp [hS]
 have hb0 : Below w.heap.size w W := by rw [hW]; exact ((Below.refl _ _).alloc (by omega) _).alloc (by simp) _
 have hrx : Three W S 39 (.string (str nm)) (.slice A cl.length c) (.int .i64 sm) := by
  unfold Three
  rw [hW, heap_lt _ _ (by rw [hs1]; omega), ← hS]
  exact heap_new _ _
 have hrr : Three W (S + 1) 39 (.string ⟨#[]⟩) (.slice none 0 0) (.int .i64 0) := by
  unfold Three
  rw [hW, ← hs1]
  exact heap_new _ _
 have hcs := cloneStr_any (str nm) W.drew (by rw [str_size]; exact hnm)
 have hxW : RI .i32 W B A cl.length cl := hx.keep fun p hp => hb0.cell (p := p) (by omega)
 have HX := Lib.hid hxW
 have HR := Lib.hid hrr
 have HRX := Lib.hid hrx
 have HB0 := Lib.hid hb0
 have HSS := Lib.hid hS
 obtain ⟨c0, c1, c2⟩ := hrx.cells
 clear hx hxW hrr hrx hb0 hs1
 go_enter Tryz.func29, Tryz.ntmps29
 go_wp2
 rw [← hW]
 clear hW
 refine wp_region_held (S := fun W' : World => W'.cell? ⟨S, 0, none⟩ = some (.string (str nm)) ∧ W'.cell? ⟨S, 1, none⟩ = some (.slice A cl.length c) ∧ W'.cell? ⟨S, 2, none⟩ = some (.int .i64 sm)) (by kernel_rfl) ?_
 change wpAnyH _ _ _ _ _ _ _ _ W.drew
 have hS1 : (fun W' : World => W'.cell? ⟨S, 0, none⟩ = some (.string (str nm)) ∧ W'.cell? ⟨S, 1, none⟩ = some (.slice A cl.length c) ∧ W'.cell? ⟨S, 2, none⟩ = some (.int .i64 sm)) W.drew := ⟨c0, c1, c2⟩
 iterate 2 (refine wpH rfl rfl ?_; try simp only [Act.put, g1, g2, g3, g4, g5, g6])
 refine wpHn 3 rfl ?_; try simp only [Act.put, g1, g2, g3, g4, g5, g6]
 refine wpHn 4 rfl ?_; try simp only [Act.put, g1, g2, g3, g4, g5, g6]
 refine wpHn 6 rfl ?_; try simp only [Act.put, g1, g2, g3, g4, g5, g6]
 refine wpHn 7 rfl ?_; try simp only [Act.put, g1, g2, g3, g4, g5, g6]
 refine wpAnyH_one (i := 2) (by kernel_rfl) rfl (fun K hK => ?_)
 simp only [g4, g5, g6]
 go_simp
 go_at_call 71
 refine hcs.mono ?_
 rintro e w2 ⟨rfl, hb2⟩
 have hS2 : (fun W' : World => W'.cell? ⟨S, 0, none⟩ = some (.string (str nm)) ∧ W'.cell? ⟨S, 1, none⟩ = some (.slice A cl.length c) ∧ W'.cell? ⟨S, 2, none⟩ = some (.int .i64 sm)) w2 := ⟨below_cell hb2 c0, below_cell hb2 c1, below_cell hb2 c2⟩
 have hsz := HB0.out.size
 have hsz2 := hb2.size
 have hcc := cloneC_any w2 B A cl.length c cl (HX.out.keep fun p hp => hb2.cell (p := p) (by show p.block < W.heap.size; omega)) hn
 have HB2 : Hid (Below w.heap.size w w2) := Lib.hid (HB0.out.drew.trans (hb2.mono hsz))
 have HR2 : Hid (Three w2 (S + 1) 39 (.string ⟨#[]⟩) (.slice none 0 0) (.int .i64 0)) := Lib.hid ((hb2.block (S + 1) HR.out.lt).trans HR.out)
 have HC2 := Lib.hid hS2
 clear hcs hb2 c0 c1 c2
 refine hK.out _ _ hS2 (fun _ => ?_)
 try simp only [Act.put, g1, g2, g3, g4, g5, g6]
 refine wpAnyH_one (i := 5) (by kernel_rfl) rfl (fun K hK => ?_)
 simp only [g4, g5, g6]
 go_simp
 go_at_call 43
 refine hcc.mono ?_
 rintro e w3 ⟨v, rfl, hown, hb3⟩
 obtain ⟨vA, vc, rfl⟩ := row_form hown
 have hS3 : (fun W' : World => W'.cell? ⟨S, 0, none⟩ = some (.string (str nm)) ∧ W'.cell? ⟨S, 1, none⟩ = some (.slice A cl.length c) ∧ W'.cell? ⟨S, 2, none⟩ = some (.int .i64 sm)) w3 := ⟨below_cell hb3 HC2.out.1, below_cell hb3 HC2.out.2.1, below_cell hb3 HC2.out.2.2⟩
 have hr3 : Three w3 (S + 1) 39 (.string ⟨#[]⟩) (.slice none 0 0) (.int .i64 0) := (hb3.block (S + 1) HR2.out.lt).trans HR2.out
 obtain ⟨d0, d1, d2⟩ := hr3.cells
 have z0 : w3.frozen? ⟨S + 1, 0, none⟩ = false := by simp [World.frozen?, show w3.heap[S + 1]? = _ from hr3]
 have z1 : w3.frozen? ⟨S + 1, 1, none⟩ = false := by simp [World.frozen?, show w3.heap[S + 1]? = _ from hr3]
 have z2 : w3.frozen? ⟨S + 1, 2, none⟩ = false := by simp [World.frozen?, show w3.heap[S + 1]? = _ from hr3]
 clear hcc
 refine hK.out _ _ hS3 (fun _ => ?_)
 try simp only [Act.put, g1, g2, g3, g4, g5, g6]
 iterate 1 (refine wpH rfl rfl ?_; try simp only [Act.put, g1, g2, g3, g4, g5, g6])
 refine wpAnyH_one (i := 9) (by kernel_rfl) rfl (fun K hK => ?_)
 simp only [g4, g5, g6]
 go_simp
 have hr4 : Three (((w3.setCell ⟨S + 1, 0, none⟩ (.string (str nm))).setCell ⟨S + 1, 1, none⟩ (.slice vA cl.length vc)).setCell ⟨S + 1, 2, none⟩ (.int .i64 sm)) (S + 1) 39 (.string (str nm)) (.slice vA cl.length vc) (.int .i64 sm) := set_row (i := 2) (l := [_, _, _]) (set_row (i := 1) (l := [_, _, _]) (set_row (i := 0) (l := [_, _, _]) hr3 _) _) _
 have hf4 : Fr w3 (((w3.setCell ⟨S + 1, 0, none⟩ (.string (str nm))).setCell ⟨S + 1, 1, none⟩ (.slice vA cl.length vc)).setCell ⟨S + 1, 2, none⟩ (.int .i64 sm)) (· = S + 1) := (((Fr.refl w3 _).setT _ _).setT _ _).setT _ _
 have hS4 : (fun W' : World => W'.cell? ⟨S, 0, none⟩ = some (.string (str nm)) ∧ W'.cell? ⟨S, 1, none⟩ = some (.slice A cl.length c) ∧ W'.cell? ⟨S, 2, none⟩ = some (.int .i64 sm)) (((w3.setCell ⟨S + 1, 0, none⟩ (.string (str nm))).setCell ⟨S + 1, 1, none⟩ (.slice vA cl.length vc)).setCell ⟨S + 1, 2, none⟩ (.int .i64 sm)) :=
  ⟨(World.cell?_of_block (hf4.block S (World.block_lt_of_cell? w3 _ hS3.1) (by omega))).trans hS3.1, (World.cell?_of_block (hf4.block S (World.block_lt_of_cell? w3 _ hS3.1) (by omega))).trans hS3.2.1, (World.cell?_of_block (hf4.block S (World.block_lt_of_cell? w3 _ hS3.1) (by omega))).trans hS3.2.2⟩
 have hown4 := ownsRow_fr (own_low (b' := w.heap.size) hown (by have := HB2.out.size; omega)) hf4 (by
  rintro g hg rfl
  obtain ⟨cc, hcc⟩ := ownsRow_ty hown hg
  rw [show w3.heap[S + 1]? = _ from hr3] at hcc
  injection hcc with hcc
  injection hcc with _ hcc
  cases hcc)
 have HE : Hid ((((w3.setCell ⟨S + 1, 0, none⟩ (.string (str nm))).setCell ⟨S + 1, 1, none⟩ (.slice vA cl.length vc)).setCell ⟨S + 1, 2, none⟩ (.int .i64 sm)).ownsRow w.heap.size 23 1 (.slice vA cl.length vc) cl.length (celC cl) ∧ Below w.heap.size w (((w3.setCell ⟨S + 1, 0, none⟩ (.string (str nm))).setCell ⟨S + 1, 1, none⟩ (.slice vA cl.length vc)).setCell ⟨S + 1, 2, none⟩ (.int .i64 sm))) :=
  Lib.hid ⟨hown4, (HB2.out.trans (hb3.mono HB2.out.size)).trans (hf4.below (by rintro j _ rfl; omega) (by have := HB2.out.size; have := hb3.size; omega))⟩
 obtain ⟨e0, e1, e2⟩ := hr4.cells
 clear hr4 hf4 hown4 hown hb3 hr3
 generalize ((w3.setCell ⟨S + 1, 0, none⟩ (.string (str nm))).setCell ⟨S + 1, 1, none⟩ (.slice vA cl.length vc)).setCell ⟨S + 1, 2, none⟩ (.int .i64 sm) = w4 at *
 refine hK.out _ _ hS4 (fun _ => ?_)
 refine wpAnyH_done (by kernel_rfl) ?_ _
 go_wp2
 refine bodyPost_ret (v := .agg #[.string (str nm), .slice vA cl.length vc, .int .i64 sm]) (by simp [results, Tryz.results29, go_sem, e0, e1, e2]) rfl ⟨_, rfl, by rw [← HSS.out]; exact HE.out⟩
set_option maxRecDepth 100000 in
set_option maxHeartbeats 4000000 in
theorem copyCls_any (w : World) (B : Nat) (nm : List UInt8) (cl : List (Int × Int)) (A : Option Addr) (c : Nat) (hx : PrsR w B (.slice A cl.length c) cl) (hB : B ≤ w.heap.size) (hn : cl.length ≤ 1073741824) (hnm : nm.length ≤ 281474976710656) :
  Calls Tryz.prog 31 #[.agg #[.string (str nm), .slice A cl.length c]] w fun e w' => ∃ v, e = .returned (.agg #[.string (str nm), v]) ∧ w'.ownsRow w.heap.size 109 2 v cl.length (prsC cl) ∧ Below w.heap.size w w' := by
 obtain ⟨W, hW⟩ : ∃ W, W = (w.alloc (.cells #[.string (str nm), .slice A cl.length c] 86)).alloc (.cells #[.string ⟨#[]⟩, .slice none 0 0] 86) := ⟨_, rfl⟩
 obtain ⟨S, hS⟩ : ∃ S, w.heap.size = S := ⟨_, rfl⟩
 have hs1 : (w.alloc (.cells #[.string (str nm), .slice A cl.length c] 86)).heap.size = S + 1 := by simp [hS]
 have hb0 : Below w.heap.size w W := by rw [hW]; exact ((Below.refl _ _).alloc (by omega) _).alloc (by simp) _
 have hrx : Two W S 86 (.string (str nm)) (.slice A cl.length c) := by
  unfold Two
  rw [hW, heap_lt _ _ (by rw [hs1]; omega), ← hS]
  exact heap_new _ _
 have hrr : Two W (S + 1) 86 (.string ⟨#[]⟩) (.slice none 0 0) := by
  unfold Two
  rw [hW, ← hs1]
  exact heap_new _ _
 have hcs := cloneStr_any (str nm) W.drew (by rw [str_size]; exact hnm)
 have hxW : PrsR W B (.slice A cl.length c) cl := hx.keep fun p hp => hb0.cell (p := p) (by omega)
 have HX := Lib.hid hxW
 have HR := Lib.hid hrr
 have HRX := Lib.hid hrx
 have HB0 := Lib.hid hb0
 have HSS := Lib.hid hS
 obtain ⟨c0, c1⟩ := hrx.cells
 clear hx hxW hrr hrx hb0 hs1
 go_enter Tryz.func31, Tryz.ntmps31
 go_wp2
 rw [← hW]
 clear hW
 refine wp_region_held (S := fun W' : World => W'.cell? ⟨S, 0, none⟩ = some (.string (str nm)) ∧ W'.cell? ⟨S, 1, none⟩ = some (.slice A cl.length c)) (by kernel_rfl) ?_
 change wpAnyH _ _ _ _ _ _ _ _ W.drew
 have hS1 : (fun W' : World => W'.cell? ⟨S, 0, none⟩ = some (.string (str nm)) ∧ W'.cell? ⟨S, 1, none⟩ = some (.slice A cl.length c)) W.drew := ⟨c0, c1⟩
 iterate 2 (refine wpH rfl rfl ?_; try simp only [Act.put, g1, g2, g3, g4, g5, g6])
 refine wpHn 3 rfl ?_; try simp only [Act.put, g1, g2, g3, g4, g5, g6]
 refine wpHn 4 rfl ?_; try simp only [Act.put, g1, g2, g3, g4, g5, g6]
 refine wpAnyH_one (i := 2) (by kernel_rfl) rfl (fun K hK => ?_)
 simp only [g4, g5, g6]
 go_simp
 go_at_call 71
 refine hcs.mono ?_
 rintro e w2 ⟨rfl, hb2⟩
 have hS2 : (fun W' : World => W'.cell? ⟨S, 0, none⟩ = some (.string (str nm)) ∧ W'.cell? ⟨S, 1, none⟩ = some (.slice A cl.length c)) w2 := ⟨below_cell hb2 c0, below_cell hb2 c1⟩
 have hsz := HB0.out.size
 have hsz2 := hb2.size
 have hcc := cloneR_any w2 B _ cl (HX.out.keep fun p hp => hb2.cell (p := p) (by show p.block < W.heap.size; omega)) hn
 have HB2 : Hid (Below w.heap.size w w2) := Lib.hid (HB0.out.drew.trans (hb2.mono hsz))
 have HR2 : Hid (Two w2 (S + 1) 86 (.string ⟨#[]⟩) (.slice none 0 0)) := Lib.hid ((hb2.block (S + 1) HR.out.lt).trans HR.out)
 have HC2 := Lib.hid hS2
 clear hcs hb2 c0 c1
 refine hK.out _ _ hS2 (fun _ => ?_)
 try simp only [Act.put, g1, g2, g3, g4, g5, g6]
 refine wpAnyH_one (i := 5) (by kernel_rfl) rfl (fun K hK => ?_)
 simp only [g4, g5, g6]
 go_simp
 go_at_call 72
 refine hcc.mono ?_
 rintro e w3 ⟨v, rfl, hown, hb3⟩
 obtain ⟨vA, vc, rfl⟩ := row_form hown
 have hS3 : (fun W' : World => W'.cell? ⟨S, 0, none⟩ = some (.string (str nm)) ∧ W'.cell? ⟨S, 1, none⟩ = some (.slice A cl.length c)) w3 := ⟨below_cell hb3 HC2.out.1, below_cell hb3 HC2.out.2⟩
 have hr3 : Two w3 (S + 1) 86 (.string ⟨#[]⟩) (.slice none 0 0) := (hb3.block (S + 1) HR2.out.lt).trans HR2.out
 obtain ⟨d0, d1⟩ := hr3.cells
 have z0 : w3.frozen? ⟨S + 1, 0, none⟩ = false := by simp [World.frozen?, show w3.heap[S + 1]? = _ from hr3]
 have z1 : w3.frozen? ⟨S + 1, 1, none⟩ = false := by simp [World.frozen?, show w3.heap[S + 1]? = _ from hr3]
 clear hcc
 refine hK.out _ _ hS3 (fun _ => ?_)
 try simp only [Act.put, g1, g2, g3, g4, g5, g6]
 iterate 1 (refine wpH rfl rfl ?_; try simp only [Act.put, g1, g2, g3, g4, g5, g6])
 refine wpAnyH_one (i := 7) (by kernel_rfl) rfl (fun K hK => ?_)
 simp only [g4, g5, g6]
 go_simp
 have hr4 : Two ((w3.setCell ⟨S + 1, 0, none⟩ (.string (str nm))).setCell ⟨S + 1, 1, none⟩ (.slice vA cl.length vc)) (S + 1) 86 (.string (str nm)) (.slice vA cl.length vc) := set_row (i := 1) (l := [_, _]) (set_row (i := 0) (l := [_, _]) hr3 _) _
 have hf4 : Fr w3 ((w3.setCell ⟨S + 1, 0, none⟩ (.string (str nm))).setCell ⟨S + 1, 1, none⟩ (.slice vA cl.length vc)) (· = S + 1) := ((Fr.refl w3 _).setT _ _).setT _ _
 have hS4 : (fun W' : World => W'.cell? ⟨S, 0, none⟩ = some (.string (str nm)) ∧ W'.cell? ⟨S, 1, none⟩ = some (.slice A cl.length c)) ((w3.setCell ⟨S + 1, 0, none⟩ (.string (str nm))).setCell ⟨S + 1, 1, none⟩ (.slice vA cl.length vc)) :=
  ⟨(World.cell?_of_block (hf4.block S (World.block_lt_of_cell? w3 _ hS3.1) (by omega))).trans hS3.1, (World.cell?_of_block (hf4.block S (World.block_lt_of_cell? w3 _ hS3.1) (by omega))).trans hS3.2⟩
 have hown4 := ownsRow_fr (own_low (b' := w.heap.size) hown (by have := HB2.out.size; omega)) hf4 (by
  rintro g hg rfl
  obtain ⟨cc, hcc⟩ := ownsRow_ty hown hg
  rw [show w3.heap[S + 1]? = _ from hr3] at hcc
  injection hcc with hcc
  injection hcc with _ hcc
  cases hcc)
 have HE : Hid (((w3.setCell ⟨S + 1, 0, none⟩ (.string (str nm))).setCell ⟨S + 1, 1, none⟩ (.slice vA cl.length vc)).ownsRow w.heap.size 109 2 (.slice vA cl.length vc) cl.length (prsC cl) ∧ Below w.heap.size w ((w3.setCell ⟨S + 1, 0, none⟩ (.string (str nm))).setCell ⟨S + 1, 1, none⟩ (.slice vA cl.length vc))) :=
  Lib.hid ⟨hown4, (HB2.out.trans (hb3.mono HB2.out.size)).trans (hf4.below (by rintro j _ rfl; omega) (by have := HB2.out.size; have := hb3.size; omega))⟩
 obtain ⟨e0, e1⟩ := hr4.cells
 clear hr4 hf4 hown4 hown hb3 hr3
 generalize (w3.setCell ⟨S + 1, 0, none⟩ (.string (str nm))).setCell ⟨S + 1, 1, none⟩ (.slice vA cl.length vc) = w4 at *
 refine hK.out _ _ hS4 (fun _ => ?_)
 refine wpAnyH_done (by kernel_rfl) ?_ _
 go_wp2
 refine bodyPost_ret (v := .agg #[.string (str nm), .slice vA cl.length vc]) (by simp [results, Tryz.results31, go_sem, e0, e1]) rfl ⟨_, rfl, by rw [← HSS.out]; exact HE.out⟩
end Go.Proofs.YtknjhlbhbnldpaaGreatDoor.C

namespace Go.Proofs.YtknjhlbhbnldpaaGreatDoor.C
open Go.RowKit

set_option maxRecDepth 100000 in
set_option maxHeartbeats 4000000 in
theorem copiesE_any (w : World) (B : Nat) (v : Value) (o : List Elm) (h : OrdR w B v o) (hB : B ≤ w.heap.size) (hn : o.length ≤ 1073741824) (hnm : ∀ e ∈ o, e.name.length ≤ 281474976710656 ∧ e.cells.length ≤ 1073741824) :
  Calls Tryz.prog 28 #[v, .func (.func 29) #[] #[]] w fun e w' => ∃ v', e = .returned v' ∧ OrdAt w' w.heap.size v' o ∧ Below w.heap.size w w' := by
 obtain ⟨A, c, xs, rfl, _⟩ := id h
 obtain ⟨i0, hi, hz0, hz1, hz2⟩ := info_parts infoElem
 have H := Lib.hid h
 have HNM := Lib.hid hnm
 obtain ⟨m, hm⟩ : ∃ m, m = o.length := ⟨_, rfl⟩
 rw [← hm]
 have HM := Lib.hid hm
 have hm5 : m ≤ 1073741824 := by omega
 clear h hnm hm hn
 go_enter Tryz.func28, Tryz.ntmps28
 go_wp2_with (at_make; (refine wpList_make_own _ rfl _ _ 28 rfl w.heap.size 39 i0 (.agg #[.string (str []), .slice none 0 0, .int .i64 0]) 3 Tryz.underlying28 hi hz0 hz1 .i64 .i64 _ m rfl rfl (by omega) (by rw [hz2]; omega) (by unfold maxLen; omega) (by omega) ?_); intro w2 hown hgrow; have hb2 : Below w.heap.size w w2 := (Below.refl _ w).grown hgrow (Nat.le_refl _) (fun _ h => by cases h))
 have HO : Hid (OrdAt w2 w.heap.size (.slice (some ⟨w.heap.size, 0, none⟩) 0 m) []) := Lib.hid ⟨[], rfl, hown, by simp⟩
 have HB := Lib.hid hb2
 clear hown hgrow hb2
 go_wp2
 go_loopw [5, 13] (fun tv iv wr => ∃ k : Nat, k ≤ m ∧ iv = .int .i64 k ∧ Hid (OrdAt wr w.heap.size tv (o.take k) ∧ Below w.heap.size w wr)) (fun _ iv _ => m - (intOf iv).toNat)
 case atStart => exact ⟨0, Nat.zero_le _, rfl, Lib.hid ⟨HO.out, HB.out⟩⟩
 case round =>
  obtain ⟨k, hk, rfl, HQ⟩ := hrel
  by_cases hlt : k < m
  ·obtain ⟨p, hp⟩ : ∃ p, o[k]? = some p := ⟨_, List.getElem?_eq_getElem (by rw [← HM.out]; exact hlt)⟩
   have hbr := HQ.out.2
   have hsr := hbr.size
   have hOr : OrdR wr B (.slice A o.length c) o := H.out.on hbr hB
   obtain ⟨ad, c', Ac, cc, hv, hbl, hc0, hc1, hc2, hri⟩ := elmR_at hOr hp
   injection hv with hv _ hcc
   subst hv hcc
   have hpm := HNM.out _ (List.mem_of_getElem? hp)
   obtain ⟨nm, cl, sm⟩ := p
   have hb1 : Below wr.heap.size wr (wr.alloc (.cells #[.string (str nm), .slice Ac cl.length cc, .int .i64 sm] 39)) := (Below.refl _ _).alloc (Nat.le_refl _) _
   have hcp := copyElem_any (wr.alloc (.cells #[.string (str nm), .slice Ac cl.length cc, .int .i64 sm] 39)) B nm cl sm Ac cc (hri.keep fun q hq => hb1.cell (p := q) (by omega)) (by simp; omega) hpm.2 hpm.1
   have x0 : (wr.alloc (.cells #[.string (str nm), .slice Ac cl.length cc, .int .i64 sm] 39)).cell? ⟨wr.heap.size, 0, none⟩ = some (.string (str nm)) := by simp
   have x1 : (wr.alloc (.cells #[.string (str nm), .slice Ac cl.length cc, .int .i64 sm] 39)).cell? ⟨wr.heap.size, 1, none⟩ = some (.slice Ac cl.length cc) := by simp
   have x2 : (wr.alloc (.cells #[.string (str nm), .slice Ac cl.length cc, .int .i64 sm] 39)).cell? ⟨wr.heap.size, 2, none⟩ = some (.int .i64 sm) := by simp
   have i0' : (0 : Int) ≤ (k : Int) := by omega
   have i1 : (k : Int) < (m : Int) := by omega
   have HP := Lib.hid hp
   have HB1 := Lib.hid hb1
   clear hOr hp hb1 hbr hri hpm
   go_wp2_with fail
   with_reducible refine hcp.mono ?_
   rintro e w3 ⟨u, rfl, hown, hb3⟩
   obtain ⟨uA, uc, rfl⟩ := row_form hown
   have hs3 := hb3.size
   have hs1 := HB1.out.size
   have HB3 : Hid (Below w.heap.size w w3) := Lib.hid ((HQ.out.2.trans (HB1.out.mono hsr)).trans (hb3.mono (by omega)))
   have HX3 := Lib.hid (own_low (b' := w.heap.size) hown (by omega))
   obtain ⟨vs, q1, q2, q3⟩ := (HQ.out.1.next HB1.out).next hb3
   have hkl : (o.take k).length = k := by rw [List.length_take, ← HM.out]; omega
   rw [hkl] at q1 q2
   have HQ1 := Lib.hid q1
   have HQ2 := Lib.hid q2
   have HQ3 := Lib.hid q3
   clear hcp hown hb3 q1 q2 q3
   go_wp2_with (at_builtin; (refine wpList_append_lies _ rfl _ _ 28 rfl w.heap.size 39 i0 (.agg #[.string (str []), .slice none 0 0, .int .i64 0]) 3 48 Tryz.underlying28 hi hz0 hz1 hz2 rfl (by decide) u5 k (ordR (o.take k) vs).flatten rfl (HQ2.out.alloc _) ⟨w3.heap.size, 0, none⟩ 1 1 [.string (str nm), .slice uA cl.length uc, .int .i64 sm] rfl rfl (trip_new _ _ _ _ _ _ rfl) (by intro u hu; simp at hu; rcases hu with rfl | rfl | rfl <;> rfl) (by omega) (by unfold maxLen; omega) (by omega) (by simp; omega) (w3.heap.size + 1) (by simp) ?_); intro g cap w4 hown' hgrow hat hlt3)
   have HEND : Hid (OrdAt w4 w.heap.size (.slice (some ⟨g, 0, none⟩) (k + 1) cap) (o.take (k + 1)) ∧ Below w.heap.size w w4) := Lib.hid ⟨by
    rw [take_one HP.out]
    have h := OrdAt.snoc (w := w3.alloc (.cells #[.string (str nm), .slice uA cl.length uc, .int .i64 sm] 39)) (v := u5) (o := o.take k) (vs := vs) ⟨nm, cl, sm⟩ (by rw [hkl]; exact HQ1.out) (by rw [hkl]; exact HQ2.out.alloc _) (fun i e x a b => (HQ3.out i e x a b).alloc _) (HX3.out.alloc _) hgrow (by rw [hkl]; exact hown')
    rwa [hkl] at h, (HB3.out.alloc (by omega) _).grown hgrow (by simp; omega) (fun j hj => by have := HQ2.out.lt j hj; omega)⟩
   clear hown' hgrow
   go_wp2
   go_roundw
   case rel => exact ⟨k + 1, by omega, by go_num, HEND⟩
   case measure => simp [intOf]; omega
  ·obtain rfl : k = m := by omega
   have HE : Hid (OrdAt wr w.heap.size u5 o ∧ Below w.heap.size w wr) := Lib.hid ⟨by have := HQ.out.1; rwa [HM.out, List.take_length] at this, HQ.out.2⟩
   go_wp2
   go_ret
   exact ⟨_, rfl, HE.out⟩

set_option maxRecDepth 100000 in
set_option maxHeartbeats 4000000 in
theorem copiesC_any (w : World) (B : Nat) (v : Value) (o : List Cls) (h : ClsR w B v o) (hB : B ≤ w.heap.size) (hn : o.length ≤ 1073741824) (hnm : ∀ e ∈ o, e.name.length ≤ 281474976710656 ∧ e.rs.length ≤ 1073741824) :
  Calls Tryz.prog 30 #[v, .func (.func 31) #[] #[]] w fun e w' => ∃ v', e = .returned v' ∧ ClsAt w' w.heap.size v' o ∧ Below w.heap.size w w' := by
 obtain ⟨A, c, xs, rfl, _⟩ := id h
 obtain ⟨i0, hi, hz0, hz1, hz2⟩ := info_parts infoClass
 have H := Lib.hid h
 have HNM := Lib.hid hnm
 obtain ⟨m, hm⟩ : ∃ m, m = o.length := ⟨_, rfl⟩
 rw [← hm]
 have HM := Lib.hid hm
 have hm5 : m ≤ 1073741824 := by omega
 clear h hnm hm hn
 go_enter Tryz.func30, Tryz.ntmps30
 go_wp2_with (at_make; (refine wpList_make_own _ rfl _ _ 26 rfl w.heap.size 86 i0 (.agg #[.string (str []), .slice none 0 0]) 2 Tryz.underlying26 hi hz0 hz1 .i64 .i64 _ m rfl rfl (by omega) (by rw [hz2]; omega) (by unfold maxLen; omega) (by omega) ?_); intro w2 hown hgrow; have hb2 : Below w.heap.size w w2 := (Below.refl _ w).grown hgrow (Nat.le_refl _) (fun _ h => by cases h))
 have HO : Hid (ClsAt w2 w.heap.size (.slice (some ⟨w.heap.size, 0, none⟩) 0 m) []) := Lib.hid ⟨[], rfl, hown, by simp⟩
 have HB := Lib.hid hb2
 clear hown hgrow hb2
 go_wp2
 go_loopw [5, 13] (fun tv iv wr => ∃ k : Nat, k ≤ m ∧ iv = .int .i64 k ∧ Hid (ClsAt wr w.heap.size tv (o.take k) ∧ Below w.heap.size w wr)) (fun _ iv _ => m - (intOf iv).toNat)
 case atStart => exact ⟨0, Nat.zero_le _, rfl, Lib.hid ⟨HO.out, HB.out⟩⟩
 case round =>
  obtain ⟨k, hk, rfl, HQ⟩ := hrel
  by_cases hlt : k < m
  ·obtain ⟨p, hp⟩ : ∃ p, o[k]? = some p := ⟨_, List.getElem?_eq_getElem (by rw [← HM.out]; exact hlt)⟩
   have hbr := HQ.out.2
   have hsr := hbr.size
   have hOr : ClsR wr B (.slice A o.length c) o := H.out.on hbr hB
   obtain ⟨ad, c', Ac, cc, hv, hbl, hc0, hc1, hri⟩ := clsR_at hOr hp
   injection hv with hv _ hcc
   subst hv hcc
   have hpm := HNM.out _ (List.mem_of_getElem? hp)
   obtain ⟨nm, cl⟩ := p
   replace hri := hri.1
   have hb1 : Below wr.heap.size wr (wr.alloc (.cells #[.string (str nm), .slice Ac cl.length cc] 86)) := (Below.refl _ _).alloc (Nat.le_refl _) _
   have hcp := copyCls_any (wr.alloc (.cells #[.string (str nm), .slice Ac cl.length cc] 86)) B nm cl Ac cc (hri.keep fun q hq => hb1.cell (p := q) (by omega)) (by simp; omega) hpm.2 hpm.1
   have x0 : (wr.alloc (.cells #[.string (str nm), .slice Ac cl.length cc] 86)).cell? ⟨wr.heap.size, 0, none⟩ = some (.string (str nm)) := by simp
   have x1 : (wr.alloc (.cells #[.string (str nm), .slice Ac cl.length cc] 86)).cell? ⟨wr.heap.size, 1, none⟩ = some (.slice Ac cl.length cc) := by simp
   have i0' : (0 : Int) ≤ (k : Int) := by omega
   have i1 : (k : Int) < (m : Int) := by omega
   have HP := Lib.hid hp
   have HB1 := Lib.hid hb1
   clear hOr hp hb1 hbr hri hpm
   go_wp2_with fail
   with_reducible refine hcp.mono ?_
   rintro e w3 ⟨u, rfl, hown, hb3⟩
   obtain ⟨uA, uc, rfl⟩ := row_form hown
   have hs3 := hb3.size
   have hs1 := HB1.out.size
   have HB3 : Hid (Below w.heap.size w w3) := Lib.hid ((HQ.out.2.trans (HB1.out.mono hsr)).trans (hb3.mono (by omega)))
   have HX3 := Lib.hid (own_low (b' := w.heap.size) hown (by omega))
   obtain ⟨vs, q1, q2, q3⟩ := (HQ.out.1.next HB1.out).next hb3
   have hkl : (o.take k).length = k := by rw [List.length_take, ← HM.out]; omega
   rw [hkl] at q1 q2
   have HQ1 := Lib.hid q1
   have HQ2 := Lib.hid q2
   have HQ3 := Lib.hid q3
   clear hcp hown hb3 q1 q2 q3
   go_wp2_with (at_builtin; (refine wpList_append_lies _ rfl _ _ 26 rfl w.heap.size 86 i0 (.agg #[.string (str []), .slice none 0 0]) 2 40 Tryz.underlying26 hi hz0 hz1 hz2 rfl (by decide) u5 k (clsC (o.take k) vs) rfl (HQ2.out.alloc _) ⟨w3.heap.size, 0, none⟩ 1 1 [.string (str nm), .slice uA cl.length uc] rfl rfl (pair_new _ _ _ _ _ rfl) (by intro u hu; simp at hu; rcases hu with rfl | rfl <;> rfl) (by omega) (by unfold maxLen; omega) (by omega) (by simp; omega) (w3.heap.size + 1) (by simp) ?_); intro g cap w4 hown' hgrow hat hlt3)
   have HEND : Hid (ClsAt w4 w.heap.size (.slice (some ⟨g, 0, none⟩) (k + 1) cap) (o.take (k + 1)) ∧ Below w.heap.size w w4) := Lib.hid ⟨by
    rw [take_one HP.out]
    have h := ClsAt.snoc (w := w3.alloc (.cells #[.string (str nm), .slice uA cl.length uc] 86)) (v := u5) (cs := o.take k) (vs := vs) ⟨nm, cl⟩ (by rw [hkl]; exact HQ1.out) (by rw [hkl]; exact HQ2.out.alloc _) (fun i e x a b => (HQ3.out i e x a b).alloc _) (HX3.out.alloc _) hgrow (by rw [hkl]; exact hown')
    rwa [hkl] at h, (HB3.out.alloc (by omega) _).grown hgrow (by simp; omega) (fun j hj => by have := HQ2.out.lt j hj; omega)⟩
   clear hown' hgrow
   go_wp2
   go_roundw
   case rel => exact ⟨k + 1, by omega, by go_num, HEND⟩
   case measure => simp [intOf]; omega
  ·obtain rfl : k = m := by omega
   have HE : Hid (ClsAt wr w.heap.size u5 o ∧ Below w.heap.size w wr) := Lib.hid ⟨by have := HQ.out.1; rwa [HM.out, List.take_length] at this, HQ.out.2⟩
   go_wp2
   go_ret
   exact ⟨_, rfl, HE.out⟩
end Go.Proofs.YtknjhlbhbnldpaaGreatDoor.C

namespace Go.Proofs.YtknjhlbhbnldpaaGreatDoor.C
open Go.RowKit

theorem OrdAt.low {w : World} {b b' : Nat} {v : Value} {o : List Elm} (h : OrdAt w b v o) (hb : b' ≤ b) : OrdAt w b' v o := by
 obtain ⟨vs, h1, h2, h3⟩ := h
 exact ⟨vs, h1, own_low h2 hb, fun i e x a c => own_low (h3 i e x a c) hb⟩
theorem ClsAt.low {w : World} {b b' : Nat} {v : Value} {o : List Cls} (h : ClsAt w b v o) (hb : b' ≤ b) : ClsAt w b' v o := by
 obtain ⟨vs, h1, h2, h3⟩ := h
 exact ⟨vs, h1, own_low h2 hb, fun i e x a c => own_low (h3 i e x a c) hb⟩
theorem own_next {w w' : World} {b n sz : Nat} {v : Value} {xs : List Value} {e : TypeId} (h : w.ownsRow b e sz v n xs) (hb : Below w.heap.size w w') : w'.ownsRow b e sz v n xs := ownsRow_fr h (X := fun _ => False) (.of_below hb) (by rintro _ _ ⟨⟩)
theorem LocAt.fr {w w' : World} {lo : Nat} {v1 v2 v3 v4 : Value} {l : Loc} {X : Nat → Prop} (h : LocAt w lo v1 v2 v3 v4 l) (hf : Fr w w' X) (hX : ∀ j, X j → j < lo) : LocAt w' lo v1 v2 v3 v4 l := by
 have ho : ∀ {e : TypeId} {sz n : Nat} {v : Value} {xs : List Value}, w.ownsRow lo e sz v n xs → w'.ownsRow lo e sz v n xs := fun k => ownsRow_fr k hf fun g hg hx => by have := (k.lt g hg).1; have := hX g hx; omega
 obtain ⟨⟨vs, a1, a2, a3⟩, b, c, ⟨us, d1, d2, d3⟩⟩ := h
 exact ⟨⟨vs, a1, ho a2, fun i e x h1 h2 => ho (a3 i e x h1 h2)⟩, ho b, ho c, ⟨us, d1, ho d2, fun i e x h1 h2 => ho (d3 i e x h1 h2)⟩⟩
theorem LocAt.turned {w W : World} {lo S : Nat} {v1 v2 v3 v4 : Value} {l : Loc} (h : LocAt w lo v1 v2 v3 v4 l) (hf : Fr w W (· = S)) (hS : S < lo) (hlo : lo ≤ w.heap.size) (h1 : ∀ c ∈ l.cls, c.name.length ≤ maxLen) (h2 : ∀ e ∈ l.ord, e.name.length ≤ maxLen) : LocR W w.heap.size v1 v2 v3 v4 l := by
 have hSW : S < W.heap.size := by have := hf.size; omega
 have hV : Fr w (putObj w S W.heap[S]) (· = S) := ⟨rfl, rfl, rfl, by rw [putObj_size]; exact Nat.le_refl _, fun b _ hx => putObj_else w _ hx⟩
 have hb : Below w.heap.size (putObj w S W.heap[S]) W := ⟨hf.os, hf.tape, hf.output, by rw [putObj_size]; exact hf.size, fun k hk => by
  by_cases e : k = S
  ·subst e
   rw [putObj_at _ (by omega), Array.getElem?_eq_getElem hSW]
  ·rw [putObj_else w _ e]
   exact hf.block k hk e⟩
 have := LocR.of (h.fr hV (by rintro j rfl; exact hS)) h1 h2
 rw [putObj_size] at this
 exact this.on hb (Nat.le_refl _)
structure NewOk (l : Loc) : Prop where
 cls : l.cls.length ≤ 1073741824 ∧ ∀ e ∈ l.cls, e.name.length ≤ 281474976710656 ∧ e.rs.length ≤ 1073741824
 up : l.up.length ≤ 1073741824
 lo : l.lo.length ≤ 1073741824
 ord : ∀ e ∈ l.ord, e.name.length ≤ 281474976710656
def tabL (v1 v2 v3 v4 : Value) : List Value := [.int .i64 0, v4, .int .u32 0, .int .i32 0, .int .u32 0, .map none, .int .u32 0, .int .i32 0, .int .u32 0, .map none, .int .u32 0, .int .i32 0, .int .u32 0, .map none,
 .int .u32 0, .int .i32 0, .int .u32 0, .map none, v1, .int .u32 0, .int .i32 0, .int .u32 0, .map none, v2, .int .u32 0, .int .i32 0, .int .u32 0, .map none, v3]
theorem TabAt.new {w : World} {T : Nat} {v1 v2 v3 v4 : Value} {l : Loc} (h : Row w T 107 (tabL v1 v2 v3 v4)) (hl : LocR w T v1 v2 v3 v4 l) : TabAt w T l 0 :=
 ⟨_, v1, v2, v3, v4, h, rfl, rfl, rfl, rfl, rfl, rfl, hl, ⟨rfl, .inl ⟨rfl, rfl⟩⟩, ⟨rfl, .inl ⟨rfl, rfl⟩⟩, ⟨rfl, .inl ⟨rfl, rfl⟩⟩, ⟨rfl, .inl ⟨rfl, rfl⟩⟩, ⟨rfl, .inl ⟨rfl, rfl⟩⟩, ⟨rfl, .inl ⟨rfl, rfl⟩⟩⟩
set_option maxRecDepth 100000 in
set_option maxHeartbeats 4000000 in
theorem new_no (w : World) (B : Nat) (v1 v2 v3 v4 : Value) (l : Loc) (h : LocR w B v1 v2 v3 v4 l) (hB : B ≤ w.heap.size) (hG : Gm w) (hR : rightL l = false) :
  Calls Tryz.prog 10 #[.agg #[v1, v2, v3, v4]] w fun e w' => e = .returned (.pointer none) ∧ Below w.heap.size w w' := by
 obtain ⟨W, hW⟩ : ∃ W, W = w.alloc (.cells #[v1, v2, v3, v4] 30) := ⟨_, rfl⟩
 have hb : Below w.heap.size w W := by rw [hW]; exact (Below.refl _ _).alloc (Nat.le_refl _) _
 have hr := locRight_any W B v1 v2 v3 v4 l (h.on hb hB) (by have := hb.size; omega) (hG.next hb)
 rw [hR] at hr
 have hrow : Rw W w.heap.size 30 #[v1, v2, v3, v4] := by rw [hW]; exact heap_alloc_new w _
 obtain ⟨⟨A1, c1, x1, rfl, -⟩, ⟨A2, c2, rfl, -⟩, ⟨A3, c3, rfl, -⟩, ⟨A4, c4, x4, rfl, -⟩, -⟩ := h
 have p0 := hrow.cell (i := 0) rfl
 have p1 := hrow.cell (i := 1) rfl
 have p2 := hrow.cell (i := 2) rfl
 have p3 := hrow.cell (i := 3) rfl
 have HB := Lib.hid hb
 clear hb hrow hG
 go_enter Tryz.func10, Tryz.ntmps10
 go_wp2_with fail
 rw [← hW]
 clear hW
 refine hr.mono ?_
 rintro e w1 ⟨rfl, hb1⟩
 have HB1 : Hid (Below w.heap.size w w1) := Lib.hid (HB.out.trans (hb1.mono HB.out.size))
 clear hr hb1 p0 p1 p2 p3
 go_wp2
 go_ret
 exact ⟨rfl, HB1.out⟩
set_option maxRecDepth 100000 in
set_option maxHeartbeats 8000000 in
theorem new_yes (w : World) (B : Nat) (v1 v2 v3 v4 : Value) (l : Loc) (h : LocR w B v1 v2 v3 v4 l) (hB : B ≤ w.heap.size) (hG : Gm w) (hR : rightL l = true) (hok : NewOk l) :
  Calls Tryz.prog 10 #[.agg #[v1, v2, v3, v4]] w fun e w' => ∃ T, e = .returned (.pointer (some ⟨T, 0, none⟩)) ∧ w.heap.size ≤ T ∧ TabAt w' T l 0 ∧ Below w.heap.size w w' ∧ (∀ S W, S < w.heap.size → Fr w' W (· = S) → TabAt W T l 0) := by
 obtain ⟨X, hX⟩ : ∃ X, X = w.heap.size := ⟨_, rfl⟩
 obtain ⟨W, hW⟩ : ∃ W, W = w.alloc (.cells #[v1, v2, v3, v4] 30) := ⟨_, rfl⟩
 have hb : Below w.heap.size w W := by rw [hW]; exact (Below.refl _ _).alloc (Nat.le_refl _) _
 have hr := locRight_any W B v1 v2 v3 v4 l (h.on hb hB) (by have := hb.size; omega) (hG.next hb)
 rw [hR] at hr
 have hrow : Rw W X 30 #[v1, v2, v3, v4] := by rw [hW, hX]; exact heap_alloc_new w _
 have HL := Lib.hid (h.on hb hB)
 have hsz := hb.size
 obtain ⟨⟨A1, c1, x1, rfl, -⟩, ⟨A2, c2, rfl, -⟩, ⟨A3, c3, rfl, -⟩, ⟨A4, c4, x4, rfl, -⟩, -⟩ := h
 have p0 : W.cell? ⟨X, 0, none⟩ = some (.slice A1 l.cls.length c1) := hrow.cell rfl
 have p1 : W.cell? ⟨X, 1, none⟩ = some (.slice A2 l.up.length c2) := hrow.cell rfl
 have p2 : W.cell? ⟨X, 2, none⟩ = some (.slice A3 l.lo.length c3) := hrow.cell rfl
 have p3 : W.cell? ⟨X, 3, none⟩ = some (.slice A4 l.ord.length c4) := hrow.cell rfl
 have HB := Lib.hid hb
 have HBW : Hid (B ≤ W.heap.size) := Lib.hid (by omega)
 have HRW := Lib.hid hrow
 clear hb hrow hG hsz
 go_enter Tryz.func10, Tryz.ntmps10
 go_wp2_with fail
 rw [← hX, ← hW]
 clear hW hX
 refine hr.mono ?_
 rintro e w1 ⟨rfl, hb1⟩
 have HB1 : Hid (Below w.heap.size w w1) := Lib.hid (HB.out.trans (hb1.mono HB.out.size))
 have HL1 : Hid (LocR w1.drew B _ _ _ _ l) := Lib.hid ((HL.out.on hb1 HBW.out).on (Below.refl _ _).drew (Nat.le_trans HBW.out hb1.size))
 have q0 := below_cell hb1 p0
 have q1 := below_cell hb1 p1
 have q2 := below_cell hb1 p2
 have q3 := below_cell hb1 p3
 have hb1s := hb1.size
 clear hr hb1 p0 p1 p2 p3
 have hord := right_ord hR
 have hce := copiesE_any w1.drew B _ l.ord HL1.out.2.2.2.1 (Nat.le_trans HBW.out hb1s) (by unfold ordB at hord; simp only [Bool.and_eq_true, decide_eq_true_eq] at hord; omega) (fun e he => ⟨hok.ord e he, by have := len4 hord he; omega⟩)
 clear hord
 go_wp2
 refine wp_region_held (S := fun W' : World => W'.cell? ⟨X, 0, none⟩ = some (.slice A1 l.cls.length c1) ∧ W'.cell? ⟨X, 1, none⟩ = some (.slice A2 l.up.length c2) ∧ W'.cell? ⟨X, 2, none⟩ = some (.slice A3 l.lo.length c3) ∧ W'.cell? ⟨X, 3, none⟩ = some (.slice A4 l.ord.length c4)) (by kernel_rfl) ?_
 change wpAnyH _ _ _ _ _ _ _ _ w1.drew
 have hS1 : (fun W' : World => W'.cell? ⟨X, 0, none⟩ = some (.slice A1 l.cls.length c1) ∧ W'.cell? ⟨X, 1, none⟩ = some (.slice A2 l.up.length c2) ∧ W'.cell? ⟨X, 2, none⟩ = some (.slice A3 l.lo.length c3) ∧ W'.cell? ⟨X, 3, none⟩ = some (.slice A4 l.ord.length c4)) w1.drew := ⟨q0, q1, q2, q3⟩
 iterate 2 (refine wpH rfl rfl ?_; try simp only [Act.put, g1, g2, g3, g4, g5, g6])
 refine wpHn 4 rfl ?_; try simp only [Act.put, g1, g2, g3, g4, g5, g6]
 refine wpHn 5 rfl ?_; try simp only [Act.put, g1, g2, g3, g4, g5, g6]
 refine wpHn 8 rfl ?_; try simp only [Act.put, g1, g2, g3, g4, g5, g6]
 refine wpHn 9 rfl ?_; try simp only [Act.put, g1, g2, g3, g4, g5, g6]
 refine wpHn 12 rfl ?_; try simp only [Act.put, g1, g2, g3, g4, g5, g6]
 refine wpHn 13 rfl ?_; try simp only [Act.put, g1, g2, g3, g4, g5, g6]
 have HS := Lib.hid hS1
 clear q0 q1 q2 q3
 refine wpAnyH_one (i := 2) (by kernel_rfl) rfl (fun K hK => ?_)
 simp only [g4, g5, g6]
 go_simp
 go_at_call 28
 refine hce.mono ?_
 rintro e w2 ⟨u4, rfl, ho, hb⟩
 obtain ⟨B4, d4, rfl⟩ := ho.form
 have hS2 : (fun W' : World => W'.cell? ⟨X, 0, none⟩ = some (.slice A1 l.cls.length c1) ∧ W'.cell? ⟨X, 1, none⟩ = some (.slice A2 l.up.length c2) ∧ W'.cell? ⟨X, 2, none⟩ = some (.slice A3 l.lo.length c3) ∧ W'.cell? ⟨X, 3, none⟩ = some (.slice A4 l.ord.length c4)) w2 := ⟨below_cell hb HS.out.1, below_cell hb HS.out.2.1, below_cell hb HS.out.2.2.1, below_cell hb HS.out.2.2.2⟩
 have HL2 := Lib.hid (HL1.out.on hb (Nat.le_trans HBW.out hb1s))
 have HB2 : Hid (Below w.heap.size w w2) := Lib.hid (HB1.out.drew.trans (hb.mono HB1.out.size))
 have hs2 : w1.heap.size ≤ w2.heap.size := hb.size
 have HO2 := Lib.hid (ho.low (b' := w.heap.size) HB1.out.size)
 have hcc := copiesC_any w2 B _ l.cls HL2.out.1 (Nat.le_trans (Nat.le_trans HBW.out hb1s) hs2) hok.cls.1 hok.cls.2
 clear hce ho hb HL1 HB1 HS
 have HS := Lib.hid hS2
 refine hK.out _ _ hS2 (fun _ => ?_)
 try simp only [Act.put, g1, g2, g3, g4, g5, g6]
 refine wpHn 3 rfl ?_; try simp only [Act.put, g1, g2, g3, g4, g5, g6]
 refine wpAnyH_one (i := 6) (by kernel_rfl) rfl (fun K hK => ?_)
 simp only [g4, g5, g6]
 go_simp
 go_at_call 30
 refine hcc.mono ?_
 rintro e w3 ⟨u1, rfl, hc, hb⟩
 obtain ⟨B1, d1, rfl⟩ : ∃ B1 d1, u1 = .slice B1 l.cls.length d1 := by obtain ⟨_, _, h2, _⟩ := hc; exact row_form h2
 have hS3 : (fun W' : World => W'.cell? ⟨X, 0, none⟩ = some (.slice A1 l.cls.length c1) ∧ W'.cell? ⟨X, 1, none⟩ = some (.slice A2 l.up.length c2) ∧ W'.cell? ⟨X, 2, none⟩ = some (.slice A3 l.lo.length c3) ∧ W'.cell? ⟨X, 3, none⟩ = some (.slice A4 l.ord.length c4)) w3 := ⟨below_cell hb HS.out.1, below_cell hb HS.out.2.1, below_cell hb HS.out.2.2.1, below_cell hb HS.out.2.2.2⟩
 have HL3 := Lib.hid (HL2.out.on hb (by have := HBW.out; omega))
 have HB3 : Hid (Below w.heap.size w w3) := Lib.hid (HB2.out.trans (hb.mono HB2.out.size))
 have hs3 := hb.size
 have HO3 := Lib.hid (HO2.out.next hb)
 have HC3 := Lib.hid (hc.low (b' := w.heap.size) HB2.out.size)
 have hcp := cloneP_any w3 B _ l.up HL3.out.2.1 hok.up
 clear hcc hc hb HL2 HB2 HO2 HS
 have HS := Lib.hid hS3
 refine hK.out _ _ hS3 (fun _ => ?_)
 try simp only [Act.put, g1, g2, g3, g4, g5, g6]
 refine wpHn 7 rfl ?_; try simp only [Act.put, g1, g2, g3, g4, g5, g6]
 refine wpAnyH_one (i := 10) (by kernel_rfl) rfl (fun K hK => ?_)
 simp only [g4, g5, g6]
 go_simp
 go_at_call 32
 refine hcp.mono ?_
 rintro e w4 ⟨u2, rfl, hp, hb⟩
 obtain ⟨B2, d2, rfl⟩ := row_form hp
 have hS4 : (fun W' : World => W'.cell? ⟨X, 0, none⟩ = some (.slice A1 l.cls.length c1) ∧ W'.cell? ⟨X, 1, none⟩ = some (.slice A2 l.up.length c2) ∧ W'.cell? ⟨X, 2, none⟩ = some (.slice A3 l.lo.length c3) ∧ W'.cell? ⟨X, 3, none⟩ = some (.slice A4 l.ord.length c4)) w4 := ⟨below_cell hb HS.out.1, below_cell hb HS.out.2.1, below_cell hb HS.out.2.2.1, below_cell hb HS.out.2.2.2⟩
 have HL4 := Lib.hid (HL3.out.on hb (by have := HBW.out; omega))
 have HB4 : Hid (Below w.heap.size w w4) := Lib.hid (HB3.out.trans (hb.mono HB3.out.size))
 have hs4 := hb.size
 have HO4 := Lib.hid (HO3.out.next hb)
 have HC4 := Lib.hid (HC3.out.next hb)
 have HP4 := Lib.hid (own_low (b' := w.heap.size) hp HB3.out.size)
 have hcq := cloneP_any w4 B _ l.lo HL4.out.2.2.1 hok.lo
 clear hcp hp hb HL3 HB3 HO3 HC3 HS
 have HS := Lib.hid hS4
 refine hK.out _ _ hS4 (fun _ => ?_)
 try simp only [Act.put, g1, g2, g3, g4, g5, g6]
 refine wpHn 11 rfl ?_; try simp only [Act.put, g1, g2, g3, g4, g5, g6]
 refine wpAnyH_one (i := 14) (by kernel_rfl) rfl (fun K hK => ?_)
 simp only [g4, g5, g6]
 go_simp
 go_at_call 32
 refine hcq.mono ?_
 rintro e w5 ⟨u3, rfl, hp, hb⟩
 obtain ⟨B3, d3, rfl⟩ := row_form hp
 have hS5 : (fun W' : World => W'.cell? ⟨X, 0, none⟩ = some (.slice A1 l.cls.length c1) ∧ W'.cell? ⟨X, 1, none⟩ = some (.slice A2 l.up.length c2) ∧ W'.cell? ⟨X, 2, none⟩ = some (.slice A3 l.lo.length c3) ∧ W'.cell? ⟨X, 3, none⟩ = some (.slice A4 l.ord.length c4)) w5 := ⟨below_cell hb HS.out.1, below_cell hb HS.out.2.1, below_cell hb HS.out.2.2.1, below_cell hb HS.out.2.2.2⟩
 have HB5 : Hid (Below w.heap.size w w5) := Lib.hid (HB4.out.trans (hb.mono HB4.out.size))
 have HLA : Hid (LocAt w5 w.heap.size (.slice B1 l.cls.length d1) (.slice B2 l.up.length d2) (.slice B3 l.lo.length d3) (.slice B4 l.ord.length d4) l) := Lib.hid ⟨HC4.out.next hb, own_next HP4.out hb, own_low hp HB4.out.size, HO4.out.next hb⟩
 clear hcq hp hb HL4 HB4 HO4 HC4 HP4 HS
 have hend : Hid (Below w.heap.size w (w5.alloc (.cells (tabL (.slice B1 l.cls.length d1) (.slice B2 l.up.length d2) (.slice B3 l.lo.length d3) (.slice B4 l.ord.length d4)).toArray 107)) ∧ TabAt (w5.alloc (.cells (tabL (.slice B1 l.cls.length d1) (.slice B2 l.up.length d2) (.slice B3 l.lo.length d3) (.slice B4 l.ord.length d4)).toArray 107)) w5.heap.size l 0 ∧ (∀ S W, S < w.heap.size → Fr (w5.alloc (.cells (tabL (.slice B1 l.cls.length d1) (.slice B2 l.up.length d2) (.slice B3 l.lo.length d3) (.slice B4 l.ord.length d4)).toArray 107)) W (· = S) → TabAt W w5.heap.size l 0)) := by
  have h1 : Row (w5.alloc (.cells (tabL (.slice B1 l.cls.length d1) (.slice B2 l.up.length d2) (.slice B3 l.lo.length d3) (.slice B4 l.ord.length d4)).toArray 107)) w5.heap.size 107 (tabL (.slice B1 l.cls.length d1) (.slice B2 l.up.length d2) (.slice B3 l.lo.length d3) (.slice B4 l.ord.length d4)) := heap_alloc_new w5 _
  have hb : Below w5.heap.size w5 (w5.alloc (.cells (tabL (.slice B1 l.cls.length d1) (.slice B2 l.up.length d2) (.slice B3 l.lo.length d3) (.slice B4 l.ord.length d4)).toArray 107)) := (Below.refl _ _).alloc (Nat.le_refl _) _
  have hok1 : ∀ c ∈ l.cls, c.name.length ≤ maxLen := fun c hc => by have := (hok.cls.2 c hc).1; unfold maxLen; omega
  have hok2 : ∀ e ∈ l.ord, e.name.length ≤ maxLen := fun e he => by have := hok.ord e he; unfold maxLen; omega
  have h0 := HB5.out.size
  refine Lib.hid ⟨HB5.out.alloc HB5.out.size _, TabAt.new h1 ((LocR.of HLA.out hok1 hok2).on hb (Nat.le_refl _)), fun S W hS hf => ?_⟩
  have hf2 : Fr w5 W (· = S) := (Fr.of_below hb).trans hf
  exact TabAt.new (h1.fr hf (by omega)) (HLA.out.turned hf2 hS h0 hok1 hok2)
 refine hK.out _ _ hS5 (fun _ => ?_)
 try simp only [Act.put, g1, g2, g3, g4, g5, g6]
 refine wpHn 15 rfl ?_; try simp only [Act.put, g1, g2, g3, g4, g5, g6]
 refine wpHn 16 rfl ?_; try simp only [Act.put, g1, g2, g3, g4, g5, g6]
 refine wpAnyH_one (i := 17) (by kernel_rfl) rfl (fun K hK => ?_)
 simp only [g4, g5, g6]
 go_simp
 unfold tabL at hend
 have hba : Below w5.heap.size w5 (w5.alloc (.cells (tabL (.slice B1 l.cls.length d1) (.slice B2 l.up.length d2) (.slice B3 l.lo.length d3) (.slice B4 l.ord.length d4)).toArray 107)) := (Below.refl _ _).alloc (Nat.le_refl _) _
 have hS6 : (fun W' : World => W'.cell? ⟨X, 0, none⟩ = some (.slice A1 l.cls.length c1) ∧ W'.cell? ⟨X, 1, none⟩ = some (.slice A2 l.up.length c2) ∧ W'.cell? ⟨X, 2, none⟩ = some (.slice A3 l.lo.length c3) ∧ W'.cell? ⟨X, 3, none⟩ = some (.slice A4 l.ord.length c4)) (w5.alloc (.cells (tabL (.slice B1 l.cls.length d1) (.slice B2 l.up.length d2) (.slice B3 l.lo.length d3) (.slice B4 l.ord.length d4)).toArray 107)) := ⟨below_cell hba hS5.1, below_cell hba hS5.2.1, below_cell hba hS5.2.2.1, below_cell hba hS5.2.2.2⟩
 unfold tabL at hS6
 have hT : Hid (w.heap.size ≤ w5.heap.size) := Lib.hid HB5.out.size
 clear hba hS5 HB5 HLA
 refine hK.out _ _ hS6 (fun _ => ?_)
 try simp only [Act.put, g1, g2, g3, g4, g5, g6]
 refine wpHn 18 rfl ?_; try simp only [Act.put, g1, g2, g3, g4, g5, g6]
 refine wpAnyH_done (by kernel_rfl) ?_ _
 go_wp2
 go_ret
 exact ⟨w5.heap.size, rfl, hT.out, hend.out.2.1, hend.out.1, hend.out.2.2⟩
end Go.Proofs.YtknjhlbhbnldpaaGreatDoor.C
