/-
  Joined: KoJ, KoK, KoL, KpH. Each with what its own head says.
-/
import Derived.Test.YtknjhlbhbnldpaaGreatDoorB18
import Derived.Test.YtknjhlbhbnldpaaGreatDoorB19
import Derived.Test.YtknjhlbhbnldpaaGreatDoorB17

namespace Go.Proofs.YtknjhlbhbnldpaaGreatDoor.C
open Go.RowKit

theorem own_low {w : World} {b b' n sz : Nat} {v : Value} {xs : List Value} {e : TypeId} (h : w.ownsRow b e sz v n xs) (hb : b' ≤ b) : w.ownsRow b' e sz v n xs := ⟨h.1, h.2.imp id fun ⟨g, cap, cur, a, c, d⟩ => ⟨g, cap, cur, a, Nat.le_trans hb c, d⟩⟩
theorem TabAt.drew {w : World} {T : Nat} {L : Loc} {n : Int} (h : TabAt w T L n) : TabAt w.drew T L n := h.keep (Below.refl _ _).drew
theorem ri_new (w : World) (a b c d e : Int) : RI .i32 (w.alloc (.cells #[.int .i32 a, .int .i32 b, .int .i32 c, .int .i32 d, .int .i32 e] 23)) (w.heap.size + 1) (some ⟨w.heap.size, 0, none⟩) 5 [a, b, c, d, e] := by
 refine ⟨rfl, fun _ => ⟨_, rfl, Nat.lt_succ_self _, fun j u hu => ?_⟩⟩
 have hj : j < 5 := (List.getElem?_eq_some_iff.1 hu).1
 rcases (by omega : j = 0 ∨ j = 1 ∨ j = 2 ∨ j = 3 ∨ j = 4) with rfl | rfl | rfl | rfl | rfl <;> (simp at hu; subst hu; simp [Addr.add, World.cell?_alloc_new])
set_option maxRecDepth 100000 in
set_option maxHeartbeats 4000000 in
theorem fold_any (w : World) (T : Nat) (L : Loc) (n c : Int) (h : TabAt w T L n) (h0 : 0 ≤ n) (h1 : n < 4611686018427387904) (hR : rightL L = true) :
  Calls Tryz.prog 13 #[.pointer (some ⟨T, 0, none⟩), .int .i32 c] w fun e w' => ∃ v, e = .returned v ∧ w'.ownsRow w.heap.size 23 1 v (foldL L c).length (celC (foldL L c)) ∧ TabAt w' T L (n + 1) ∧ Fr w w' (· = T) := by
 have hc := count_any w T L n h h0 h1
 clear h
 go_enter Tryz.func13, Tryz.ntmps13
 go_wp2_with fail
 refine hc.mono ?_
 rintro e w1 ⟨rfl, ht, hf⟩
 have hu := up_any w1.drew T L (n + 1) c ht.drew hR
 have HF1 := Lib.hid hf
 clear hc ht hf
 go_wp2
 refine wp_region_held (S := fun _ : World => True) (by kernel_rfl) ?_
 change wpAnyH _ _ _ _ _ _ _ _ w1.drew
 have hS1 : (fun _ : World => True) w1.drew := trivial
 iterate 4 (refine wpH rfl rfl ?_; try simp only [Act.put, g1, g2, g3, g4, g5, g6])
 refine wpHn 5 rfl ?_; try simp only [Act.put, g1, g2, g3, g4, g5, g6]
 refine wpHn 6 rfl ?_; try simp only [Act.put, g1, g2, g3, g4, g5, g6]
 refine wpHn 7 rfl ?_; try simp only [Act.put, g1, g2, g3, g4, g5, g6]
 refine wpHn 8 rfl ?_; try simp only [Act.put, g1, g2, g3, g4, g5, g6]
 refine wpAnyH_one (i := 4) (by kernel_rfl) rfl (fun K hK => ?_)
 simp only [g4, g5, g6]
 go_simp
 go_at_call 36
 refine hu.mono ?_
 rintro e w2 ⟨rfl, ht, hf⟩
 have hl := lo_any w2 T L (n + 1) c ht hR
 have HF2 : Hid (Fr w w2 (· = T)) := Lib.hid (HF1.out.drew.trans hf)
 clear hu ht hf HF1
 refine hK.out _ _ trivial (fun hS2 => ?_)
 try simp only [Act.put, g1, g2, g3, g4, g5, g6]
 refine wpAnyH_one (i := 9) (by kernel_rfl) rfl (fun K hK => ?_)
 simp only [g4, g5, g6]
 go_simp
 go_at_call 36
 refine hl.mono ?_
 rintro e w3 ⟨rfl, ht, hf⟩
 have hl2 := lo_any w3.drew T L (n + 1) (toL L.up c) ht.drew hR
 have HF3 : Hid (Fr w w3 (· = T)) := Lib.hid (HF2.out.trans hf)
 clear hl ht hf HF2
 refine hK.out _ _ trivial (fun hS3 => ?_)
 try simp only [Act.put, g1, g2, g3, g4, g5, g6]
 iterate 2 (refine wpH rfl rfl ?_; try simp only [Act.put, g1, g2, g3, g4, g5, g6])
 refine wpAnyH_done (by kernel_rfl) ?_ _
 go_wp2
 refine wp_region_held (S := fun _ : World => True) (by kernel_rfl) ?_
 change wpAnyH _ _ _ _ _ _ _ _ w3.drew
 have hS4 : (fun _ : World => True) w3.drew := trivial
 iterate 7 (refine wpH rfl rfl ?_; try simp only [Act.put, g1, g2, g3, g4, g5, g6])
 refine wpHn 8 rfl ?_; try simp only [Act.put, g1, g2, g3, g4, g5, g6]
 refine wpHn 9 rfl ?_; try simp only [Act.put, g1, g2, g3, g4, g5, g6]
 refine wpHn 10 rfl ?_; try simp only [Act.put, g1, g2, g3, g4, g5, g6]
 refine wpHn 11 rfl ?_; try simp only [Act.put, g1, g2, g3, g4, g5, g6]
 refine wpAnyH_one (i := 7) (by kernel_rfl) rfl (fun K hK => ?_)
 simp only [g4, g5, g6]
 go_simp
 go_at_call 36
 refine hl2.mono ?_
 rintro e w4 ⟨rfl, ht, hf⟩
 have hu2 := up_any w4 T L (n + 1) (toL L.lo c) ht hR
 have HF4 : Hid (Fr w w4 (· = T)) := Lib.hid (HF3.out.drew.trans hf)
 clear hl2 ht hf HF3
 refine hK.out _ _ trivial (fun hS5 => ?_)
 try simp only [Act.put, g1, g2, g3, g4, g5, g6]
 refine wpAnyH_one (i := 12) (by kernel_rfl) rfl (fun K hK => ?_)
 simp only [g4, g5, g6]
 go_simp
 go_at_call 36
 refine hu2.mono ?_
 rintro e w5 ⟨rfl, ht, hf⟩
 have HF5 : Hid (Fr w w5 (· = T)) := Lib.hid (HF4.out.trans hf)
 have HT5 := Lib.hid ht
 have hri := rising_any _ _ _ 5 _ (ri_new w5 c (toL L.up c) (toL L.lo c) (toL L.lo (toL L.up c)) (toL L.up (toL L.lo c)))
 clear hu2 ht hf HF4
 refine hK.out _ _ trivial (fun hS6 => ?_)
 try simp only [Act.put, g1, g2, g3, g4, g5, g6]
 refine wpAnyH_one (i := 13) (by kernel_rfl) rfl (fun K hK => ?_)
 simp only [g4, g5, g6]
 go_simp
 refine hK.out _ _ trivial (fun hS7 => ?_)
 try simp only [Act.put, g1, g2, g3, g4, g5, g6]
 refine wpAnyH_one (i := 14) (by kernel_rfl) rfl (fun K hK => ?_)
 simp only [g4, g5, g6]
 go_simp
 go_at_call 37
 refine hri.mono ?_
 rintro e w6 ⟨v, rfl, hown, hb⟩
 have hs5 := HF5.out.size
 have HEND : Hid (w6.ownsRow w.heap.size 23 1 v (foldL L c).length (celC (foldL L c)) ∧ TabAt w6 T L (n + 1) ∧ Fr w w6 (· = T)) := Lib.hid ⟨own_low hown (by simp; omega), HT5.out.keep (((Below.refl _ _).alloc (Nat.le_refl _) _).trans (hb.mono (by simp))), HF5.out.trans ((Fr.of_below (((Below.refl _ _).alloc (Nat.le_refl _) _))).trans (.of_below hb))⟩
 clear hri hown hb
 refine hK.out _ _ trivial (fun hS8 => ?_)
 try simp only [Act.put, g1, g2, g3, g4, g5, g6]
 iterate 1 (refine wpH rfl rfl ?_; try simp only [Act.put, g1, g2, g3, g4, g5, g6])
 refine wpAnyH_done (by kernel_rfl) ?_ _
 go_wp2
 go_ret
 exact ⟨_, rfl, HEND.out⟩
end Go.Proofs.YtknjhlbhbnldpaaGreatDoor.C

namespace Go.Proofs.YtknjhlbhbnldpaaGreatDoor.C
open Go.RowKit

set_option maxRecDepth 100000 in
theorem cloneStr_any (s : ByteArray) (w : World) (hs : s.size ≤ 281474976710656) : Calls Tryz.prog 71 #[.string s] w fun e w' => e = .returned (.string s) ∧ Below w.heap.size w w' := by
 have h := Tryz.stringslite_Clone s w hs
 go_enter Tryz.func71, Tryz.ntmps71
 go_wp2_with (go_at_call 111; refine h.mono ?_; rintro e w' ⟨rfl, hb⟩)
 go_ret
 exact ⟨rfl, hb⟩
theorem below_cell {w w' : World} (hb : Below w.heap.size w w') {p : Addr} {v : Value} (h : w.cell? p = some v) : w'.cell? p = some v := (hb.cell (p := p) (World.block_lt_of_cell? w _ h)).trans h
theorem below_frozen {w w' : World} (hb : Below w.heap.size w w') {p : Addr} {v : Value} (h : w.cell? p = some v) (hz : w.frozen? p = false) : w'.frozen? p = false := (hb.frozen (p := p) (World.block_lt_of_cell? w _ h)).trans hz
set_option maxRecDepth 100000 in
set_option maxHeartbeats 4000000 in
theorem copyElem_any (w : World) (B : Nat) (nm : List UInt8) (cl : List Int) (sm : Int) (A : Option Addr) (c : Nat) (hx : RI .i32 w B A cl.length cl) (hB : B ≤ w.heap.size) (hn : cl.length ≤ 1073741824) (hnm : nm.length ≤ 281474976710656) :
  Calls Tryz.prog 29 #[.agg #[.string (str nm), .slice A cl.length c, .int .i64 sm]] w fun e w' => ∃ v, e = .returned (.agg #[.string (str nm), v, .int .i64 sm]) ∧ w'.ownsRow w.heap.size 23 1 v cl.length (celC cl) ∧ Below w.heap.size w w' := by
 obtain ⟨W, hW⟩ : ∃ W, W = (w.alloc (.cells #[.string (str nm), .slice A cl.length c, .int .i64 sm] 39)).alloc (.cells #[.string ⟨#[]⟩, .slice none 0 0, .int .i64 0] 39) := ⟨_, rfl⟩
 obtain ⟨S, hS⟩ : ∃ S, w.heap.size = S := ⟨_, rfl⟩
 have hs1 : (w.alloc (.cells #[.string (str nm), .slice A cl.length c, .int .i64 sm] 39)).heap.size = S + 1 := by simp [hS]
 have hb0 : Below w.heap.size w W := by rw [hW]; exact ((Below.refl _ _).alloc (by omega) _).alloc (by simp) _
 have hrx : Three W S 39 (.string (str nm)) (.slice A cl.length c) (.int .i64 sm) := by
  unfold Three
  rw [hW, heap_lt _ _ (by rw [hs1]; omega), ← hS]
  exact heap_new _ _
 have hrr : Three W (S + 1) 39 (.string ⟨#[]⟩) (.slice none 0 0) (.int .i64 0) := by
  unfold Three
  rw [hW, ← hs1]
  exact heap_new _ _
 have hcs := cloneStr_any (str nm) W.drew (by rw [str_size]; exact hnm)
 have hxW : RI .i32 W B A cl.length cl := hx.keep fun p hp => hb0.cell (p := p) (by omega)
 have HX := Lib.hid hxW
 have HR := Lib.hid hrr
 have HRX := Lib.hid hrx
 have HB0 := Lib.hid hb0
 have HSS := Lib.hid hS
 obtain ⟨c0, c1, c2⟩ := hrx.cells
 clear hx hxW hrr hrx hb0 hs1
 go_enter Tryz.func29, Tryz.ntmps29
 go_wp2
 rw [← hW]
 clear hW
 refine wp_region_held (S := fun W' : World => W'.cell? ⟨S, 0, none⟩ = some (.string (str nm)) ∧ W'.cell? ⟨S, 1, none⟩ = some (.slice A cl.length c) ∧ W'.cell? ⟨S, 2, none⟩ = some (.int .i64 sm)) (by kernel_rfl) ?_
 change wpAnyH _ _ _ _ _ _ _ _ W.drew
 have hS1 : (fun W' : World => W'.cell? ⟨S, 0, none⟩ = some (.string (str nm)) ∧ W'.cell? ⟨S, 1, none⟩ = some (.slice A cl.length c) ∧ W'.cell? ⟨S, 2, none⟩ = some (.int .i64 sm)) W.drew := ⟨c0, c1, c2⟩
 iterate 2 (refine wpH rfl rfl ?_; try simp only [Act.put, g1, g2, g3, g4, g5, g6])
 refine wpHn 3 rfl ?_; try simp only [Act.put, g1, g2, g3, g4, g5, g6]
 refine wpHn 4 rfl ?_; try simp only [Act.put, g1, g2, g3, g4, g5, g6]
 refine wpHn 6 rfl ?_; try simp only [Act.put, g1, g2, g3, g4, g5, g6]
 refine wpHn 7 rfl ?_; try simp only [Act.put, g1, g2, g3, g4, g5, g6]
 refine wpAnyH_one (i := 2) (by kernel_rfl) rfl (fun K hK => ?_)
 simp only [g4, g5, g6]
 go_simp
 go_at_call 71
 refine hcs.mono ?_
 rintro e w2 ⟨rfl, hb2⟩
 have hS2 : (fun W' : World => W'.cell? ⟨S, 0, none⟩ = some (.string (str nm)) ∧ W'.cell? ⟨S, 1, none⟩ = some (.slice A cl.length c) ∧ W'.cell? ⟨S, 2, none⟩ = some (.int .i64 sm)) w2 := ⟨below_cell hb2 c0, below_cell hb2 c1, below_cell hb2 c2⟩
 have hsz := HB0.out.size
 have hsz2 := hb2.size
 have hcc := cloneC_any w2 B A cl.length c cl (HX.out.keep fun p hp => hb2.cell (p := p) (by show p.block < W.heap.size; omega)) hn
 have HB2 : Hid (Below w.heap.size w w2) := Lib.hid (HB0.out.drew.trans (hb2.mono hsz))
 have HR2 : Hid (Three w2 (S + 1) 39 (.string ⟨#[]⟩) (.slice none 0 0) (.int .i64 0)) := Lib.hid ((hb2.block (S + 1) HR.out.lt).trans HR.out)
 have HC2 := Lib.hid hS2
 clear hcs hb2 c0 c1 c2
 refine hK.out _ _ hS2 (fun _ => ?_)
 try simp only [Act.put, g1, g2, g3, g4, g5, g6]
 refine wpAnyH_one (i := 5) (by kernel_rfl) rfl (fun K hK => ?_)
 simp only [g4, g5, g6]
 go_simp
 go_at_call 43
 refine hcc.mono ?_
 rintro e w3 ⟨v, rfl, hown, hb3⟩
 obtain ⟨vA, vc, rfl⟩ := row_form hown
 have hS3 : (fun W' : World => W'.cell? ⟨S, 0, none⟩ = some (.string (str nm)) ∧ W'.cell? ⟨S, 1, none⟩ = some (.slice A cl.length c) ∧ W'.cell? ⟨S, 2, none⟩ = some (.int .i64 sm)) w3 := ⟨below_cell hb3 HC2.out.1, below_cell hb3 HC2.out.2.1, below_cell hb3 HC2.out.2.2⟩
 have hr3 : Three w3 (S + 1) 39 (.string ⟨#[]⟩) (.slice none 0 0) (.int .i64 0) := (hb3.block (S + 1) HR2.out.lt).trans HR2.out
 obtain ⟨d0, d1, d2⟩ := hr3.cells
 have z0 : w3.frozen? ⟨S + 1, 0, none⟩ = false := by simp [World.frozen?, show w3.heap[S + 1]? = _ from hr3]
 have z1 : w3.frozen? ⟨S + 1, 1, none⟩ = false := by simp [World.frozen?, show w3.heap[S + 1]? = _ from hr3]
 have z2 : w3.frozen? ⟨S + 1, 2, none⟩ = false := by simp [World.frozen?, show w3.heap[S + 1]? = _ from hr3]
 clear hcc
 refine hK.out _ _ hS3 (fun _ => ?_)
 try simp only [Act.put, g1, g2, g3, g4, g5, g6]
 iterate 1 (refine wpH rfl rfl ?_; try simp only [Act.put, g1, g2, g3, g4, g5, g6])
 refine wpAnyH_one (i := 9) (by kernel_rfl) rfl (fun K hK => ?_)
 simp only [g4, g5, g6]
 go_simp
 have hr4 : Three (((w3.setCell ⟨S + 1, 0, none⟩ (.string (str nm))).setCell ⟨S + 1, 1, none⟩ (.slice vA cl.length vc)).setCell ⟨S + 1, 2, none⟩ (.int .i64 sm)) (S + 1) 39 (.string (str nm)) (.slice vA cl.length vc) (.int .i64 sm) := set_row (i := 2) (l := [_, _, _]) (set_row (i := 1) (l := [_, _, _]) (set_row (i := 0) (l := [_, _, _]) hr3 _) _) _
 have hf4 : Fr w3 (((w3.setCell ⟨S + 1, 0, none⟩ (.string (str nm))).setCell ⟨S + 1, 1, none⟩ (.slice vA cl.length vc)).setCell ⟨S + 1, 2, none⟩ (.int .i64 sm)) (· = S + 1) := (((Fr.refl w3 _).setT _ _).setT _ _).setT _ _
 have hS4 : (fun W' : World => W'.cell? ⟨S, 0, none⟩ = some (.string (str nm)) ∧ W'.cell? ⟨S, 1, none⟩ = some (.slice A cl.length c) ∧ W'.cell? ⟨S, 2, none⟩ = some (.int .i64 sm)) (((w3.setCell ⟨S + 1, 0, none⟩ (.string (str nm))).setCell ⟨S + 1, 1, none⟩ (.slice vA cl.length vc)).setCell ⟨S + 1, 2, none⟩ (.int .i64 sm)) :=
  ⟨(World.cell?_of_block (hf4.block S (World.block_lt_of_cell? w3 _ hS3.1) (by omega))).trans hS3.1, (World.cell?_of_block (hf4.block S (World.block_lt_of_cell? w3 _ hS3.1) (by omega))).trans hS3.2.1, (World.cell?_of_block (hf4.block S (World.block_lt_of_cell? w3 _ hS3.1) (by omega))).trans hS3.2.2⟩
 have hown4 := ownsRow_fr (own_low (b' := w.heap.size) hown (by have := HB2.out.size; omega)) hf4 (by
  rintro g hg rfl
  obtain ⟨cc, hcc⟩ := ownsRow_ty hown hg
  rw [show w3.heap[S + 1]? = _ from hr3] at hcc
  injection hcc with hcc
  injection hcc with _ hcc
  cases hcc)
 have HE : Hid ((((w3.setCell ⟨S + 1, 0, none⟩ (.string (str nm))).setCell ⟨S + 1, 1, none⟩ (.slice vA cl.length vc)).setCell ⟨S + 1, 2, none⟩ (.int .i64 sm)).ownsRow w.heap.size 23 1 (.slice vA cl.length vc) cl.length (celC cl) ∧ Below w.heap.size w (((w3.setCell ⟨S + 1, 0, none⟩ (.string (str nm))).setCell ⟨S + 1, 1, none⟩ (.slice vA cl.length vc)).setCell ⟨S + 1, 2, none⟩ (.int .i64 sm))) :=
  Lib.hid ⟨hown4, (HB2.out.trans (hb3.mono HB2.out.size)).trans (hf4.below (by rintro j _ rfl; omega) (by have := HB2.out.size; have := hb3.size; omega))⟩
 obtain ⟨e0, e1, e2⟩ := hr4.cells
 clear hr4 hf4 hown4 hown hb3 hr3
 generalize ((w3.setCell ⟨S + 1, 0, none⟩ (.string (str nm))).setCell ⟨S + 1, 1, none⟩ (.slice vA cl.length vc)).setCell ⟨S + 1, 2, none⟩ (.int .i64 sm) = w4 at *
 refine hK.out _ _ hS4 (fun _ => ?_)
 refine wpAnyH_done (by kernel_rfl) ?_ _
 go_wp2
 refine bodyPost_ret (v := .agg #[.string (str nm), .slice vA cl.length vc, .int .i64 sm]) (by simp [results, Tryz.results29, go_sem, e0, e1, e2]) rfl ⟨_, rfl, by rw [← HSS.out]; exact HE.out⟩
set_option maxRecDepth 100000 in
set_option maxHeartbeats 4000000 in
theorem copyCls_any (w : World) (B : Nat) (nm : List UInt8) (cl : List (Int × Int)) (A : Option Addr) (c : Nat) (hx : PrsR w B (.slice A cl.length c) cl) (hB : B ≤ w.heap.size) (hn : cl.length ≤ 17592186044416) (hnm : nm.length ≤ 281474976710656) :
  Calls Tryz.prog 31 #[.agg #[.string (str nm), .slice A cl.length c]] w fun e w' => ∃ v, e = .returned (.agg #[.string (str nm), v]) ∧ w'.ownsRow w.heap.size 109 2 v cl.length (prsC cl) ∧ Below w.heap.size w w' := by
 obtain ⟨W, hW⟩ : ∃ W, W = (w.alloc (.cells #[.string (str nm), .slice A cl.length c] 86)).alloc (.cells #[.string ⟨#[]⟩, .slice none 0 0] 86) := ⟨_, rfl⟩
 obtain ⟨S, hS⟩ : ∃ S, w.heap.size = S := ⟨_, rfl⟩
 have hs1 : (w.alloc (.cells #[.string (str nm), .slice A cl.length c] 86)).heap.size = S + 1 := by simp [hS]
 have hb0 : Below w.heap.size w W := by rw [hW]; exact ((Below.refl _ _).alloc (by omega) _).alloc (by simp) _
 have hrx : Two W S 86 (.string (str nm)) (.slice A cl.length c) := by
  unfold Two
  rw [hW, heap_lt _ _ (by rw [hs1]; omega), ← hS]
  exact heap_new _ _
 have hrr : Two W (S + 1) 86 (.string ⟨#[]⟩) (.slice none 0 0) := by
  unfold Two
  rw [hW, ← hs1]
  exact heap_new _ _
 have hcs := cloneStr_any (str nm) W.drew (by rw [str_size]; exact hnm)
 have hxW : PrsR W B (.slice A cl.length c) cl := hx.keep fun p hp => hb0.cell (p := p) (by omega)
 have HX := Lib.hid hxW
 have HR := Lib.hid hrr
 have HRX := Lib.hid hrx
 have HB0 := Lib.hid hb0
 have HSS := Lib.hid hS
 obtain ⟨c0, c1⟩ := hrx.cells
 clear hx hxW hrr hrx hb0 hs1
 go_enter Tryz.func31, Tryz.ntmps31
 go_wp2
 rw [← hW]
 clear hW
 refine wp_region_held (S := fun W' : World => W'.cell? ⟨S, 0, none⟩ = some (.string (str nm)) ∧ W'.cell? ⟨S, 1, none⟩ = some (.slice A cl.length c)) (by kernel_rfl) ?_
 change wpAnyH _ _ _ _ _ _ _ _ W.drew
 have hS1 : (fun W' : World => W'.cell? ⟨S, 0, none⟩ = some (.string (str nm)) ∧ W'.cell? ⟨S, 1, none⟩ = some (.slice A cl.length c)) W.drew := ⟨c0, c1⟩
 iterate 2 (refine wpH rfl rfl ?_; try simp only [Act.put, g1, g2, g3, g4, g5, g6])
 refine wpHn 3 rfl ?_; try simp only [Act.put, g1, g2, g3, g4, g5, g6]
 refine wpHn 4 rfl ?_; try simp only [Act.put, g1, g2, g3, g4, g5, g6]
 refine wpAnyH_one (i := 2) (by kernel_rfl) rfl (fun K hK => ?_)
 simp only [g4, g5, g6]
 go_simp
 go_at_call 71
 refine hcs.mono ?_
 rintro e w2 ⟨rfl, hb2⟩
 have hS2 : (fun W' : World => W'.cell? ⟨S, 0, none⟩ = some (.string (str nm)) ∧ W'.cell? ⟨S, 1, none⟩ = some (.slice A cl.length c)) w2 := ⟨below_cell hb2 c0, below_cell hb2 c1⟩
 have hsz := HB0.out.size
 have hsz2 := hb2.size
 have hcc := cloneR_any w2 B _ cl (HX.out.keep fun p hp => hb2.cell (p := p) (by show p.block < W.heap.size; omega)) hn
 have HB2 : Hid (Below w.heap.size w w2) := Lib.hid (HB0.out.drew.trans (hb2.mono hsz))
 have HR2 : Hid (Two w2 (S + 1) 86 (.string ⟨#[]⟩) (.slice none 0 0)) := Lib.hid ((hb2.block (S + 1) HR.out.lt).trans HR.out)
 have HC2 := Lib.hid hS2
 clear hcs hb2 c0 c1
 refine hK.out _ _ hS2 (fun _ => ?_)
 try simp only [Act.put, g1, g2, g3, g4, g5, g6]
 refine wpAnyH_one (i := 5) (by kernel_rfl) rfl (fun K hK => ?_)
 simp only [g4, g5, g6]
 go_simp
 go_at_call 72
 refine hcc.mono ?_
 rintro e w3 ⟨v, rfl, hown, hb3⟩
 obtain ⟨vA, vc, rfl⟩ := row_form hown
 have hS3 : (fun W' : World => W'.cell? ⟨S, 0, none⟩ = some (.string (str nm)) ∧ W'.cell? ⟨S, 1, none⟩ = some (.slice A cl.length c)) w3 := ⟨below_cell hb3 HC2.out.1, below_cell hb3 HC2.out.2⟩
 have hr3 : Two w3 (S + 1) 86 (.string ⟨#[]⟩) (.slice none 0 0) := (hb3.block (S + 1) HR2.out.lt).trans HR2.out
 obtain ⟨d0, d1⟩ := hr3.cells
 have z0 : w3.frozen? ⟨S + 1, 0, none⟩ = false := by simp [World.frozen?, show w3.heap[S + 1]? = _ from hr3]
 have z1 : w3.frozen? ⟨S + 1, 1, none⟩ = false := by simp [World.frozen?, show w3.heap[S + 1]? = _ from hr3]
 clear hcc
 refine hK.out _ _ hS3 (fun _ => ?_)
 try simp only [Act.put, g1, g2, g3, g4, g5, g6]
 iterate 1 (refine wpH rfl rfl ?_; try simp only [Act.put, g1, g2, g3, g4, g5, g6])
 refine wpAnyH_one (i := 7) (by kernel_rfl) rfl (fun K hK => ?_)
 simp only [g4, g5, g6]
 go_simp
 have hr4 : Two ((w3.setCell ⟨S + 1, 0, none⟩ (.string (str nm))).setCell ⟨S + 1, 1, none⟩ (.slice vA cl.length vc)) (S + 1) 86 (.string (str nm)) (.slice vA cl.length vc) := set_row (i := 1) (l := [_, _]) (set_row (i := 0) (l := [_, _]) hr3 _) _
 have hf4 : Fr w3 ((w3.setCell ⟨S + 1, 0, none⟩ (.string (str nm))).setCell ⟨S + 1, 1, none⟩ (.slice vA cl.length vc)) (· = S + 1) := ((Fr.refl w3 _).setT _ _).setT _ _
 have hS4 : (fun W' : World => W'.cell? ⟨S, 0, none⟩ = some (.string (str nm)) ∧ W'.cell? ⟨S, 1, none⟩ = some (.slice A cl.length c)) ((w3.setCell ⟨S + 1, 0, none⟩ (.string (str nm))).setCell ⟨S + 1, 1, none⟩ (.slice vA cl.length vc)) :=
  ⟨(World.cell?_of_block (hf4.block S (World.block_lt_of_cell? w3 _ hS3.1) (by omega))).trans hS3.1, (World.cell?_of_block (hf4.block S (World.block_lt_of_cell? w3 _ hS3.1) (by omega))).trans hS3.2⟩
 have hown4 := ownsRow_fr (own_low (b' := w.heap.size) hown (by have := HB2.out.size; omega)) hf4 (by
  rintro g hg rfl
  obtain ⟨cc, hcc⟩ := ownsRow_ty hown hg
  rw [show w3.heap[S + 1]? = _ from hr3] at hcc
  injection hcc with hcc
  injection hcc with _ hcc
  cases hcc)
 have HE : Hid (((w3.setCell ⟨S + 1, 0, none⟩ (.string (str nm))).setCell ⟨S + 1, 1, none⟩ (.slice vA cl.length vc)).ownsRow w.heap.size 109 2 (.slice vA cl.length vc) cl.length (prsC cl) ∧ Below w.heap.size w ((w3.setCell ⟨S + 1, 0, none⟩ (.string (str nm))).setCell ⟨S + 1, 1, none⟩ (.slice vA cl.length vc))) :=
  Lib.hid ⟨hown4, (HB2.out.trans (hb3.mono HB2.out.size)).trans (hf4.below (by rintro j _ rfl; omega) (by have := HB2.out.size; have := hb3.size; omega))⟩
 obtain ⟨e0, e1⟩ := hr4.cells
 clear hr4 hf4 hown4 hown hb3 hr3
 generalize (w3.setCell ⟨S + 1, 0, none⟩ (.string (str nm))).setCell ⟨S + 1, 1, none⟩ (.slice vA cl.length vc) = w4 at *
 refine hK.out _ _ hS4 (fun _ => ?_)
 refine wpAnyH_done (by kernel_rfl) ?_ _
 go_wp2
 refine bodyPost_ret (v := .agg #[.string (str nm), .slice vA cl.length vc]) (by simp [results, Tryz.results31, go_sem, e0, e1]) rfl ⟨_, rfl, by rw [← HSS.out]; exact HE.out⟩
end Go.Proofs.YtknjhlbhbnldpaaGreatDoor.C

namespace Go.Proofs.YtknjhlbhbnldpaaGreatDoor.C
open Go.RowKit

set_option maxRecDepth 100000 in
set_option maxHeartbeats 4000000 in
theorem copiesE_any (w : World) (B : Nat) (v : Value) (o : List Elm) (h : OrdR w B v o) (hB : B ≤ w.heap.size) (hn : o.length ≤ 1073741824) (hnm : ∀ e ∈ o, e.name.length ≤ 281474976710656 ∧ e.cells.length ≤ 1073741824) :
  Calls Tryz.prog 28 #[v, .func (.func 29) #[] #[]] w fun e w' => ∃ v', e = .returned v' ∧ OrdAt w' w.heap.size v' o ∧ Below w.heap.size w w' := by
 obtain ⟨A, c, xs, rfl, _⟩ := id h
 obtain ⟨i0, hi, hz0, hz1, hz2⟩ := info_parts infoElem
 have H := Lib.hid h
 have HNM := Lib.hid hnm
 obtain ⟨m, hm⟩ : ∃ m, m = o.length := ⟨_, rfl⟩
 rw [← hm]
 have HM := Lib.hid hm
 have hm5 : m ≤ 1073741824 := by omega
 clear h hnm hm hn
 go_enter Tryz.func28, Tryz.ntmps28
 go_wp2_with (at_make; (refine wpList_make_own _ rfl _ _ 28 rfl w.heap.size 39 i0 (.agg #[.string (str []), .slice none 0 0, .int .i64 0]) 3 Tryz.underlying28 hi hz0 hz1 .i64 .i64 _ m rfl rfl (by omega) (by rw [hz2]; omega) (by unfold maxLen; omega) (by omega) ?_); intro w2 hown hgrow; have hb2 : Below w.heap.size w w2 := (Below.refl _ w).grown hgrow (Nat.le_refl _) (fun _ h => by cases h))
 have HO : Hid (OrdAt w2 w.heap.size (.slice (some ⟨w.heap.size, 0, none⟩) 0 m) []) := Lib.hid ⟨[], rfl, hown, by simp⟩
 have HB := Lib.hid hb2
 clear hown hgrow hb2
 go_wp2
 go_loopw [5, 13] (fun tv iv wr => ∃ k : Nat, k ≤ m ∧ iv = .int .i64 k ∧ Hid (OrdAt wr w.heap.size tv (o.take k) ∧ Below w.heap.size w wr)) (fun _ iv _ => m - (intOf iv).toNat)
 case atStart => exact ⟨0, Nat.zero_le _, rfl, Lib.hid ⟨HO.out, HB.out⟩⟩
 case round =>
  obtain ⟨k, hk, rfl, HQ⟩ := hrel
  by_cases hlt : k < m
  ·obtain ⟨p, hp⟩ : ∃ p, o[k]? = some p := ⟨_, List.getElem?_eq_getElem (by rw [← HM.out]; exact hlt)⟩
   have hbr := HQ.out.2
   have hsr := hbr.size
   have hOr : OrdR wr B (.slice A o.length c) o := H.out.on hbr hB
   obtain ⟨ad, c', Ac, cc, hv, hbl, hc0, hc1, hc2, hri⟩ := elmR_at hOr hp
   injection hv with hv _ hcc
   subst hv hcc
   have hpm := HNM.out _ (List.mem_of_getElem? hp)
   obtain ⟨nm, cl, sm⟩ := p
   have hb1 : Below wr.heap.size wr (wr.alloc (.cells #[.string (str nm), .slice Ac cl.length cc, .int .i64 sm] 39)) := (Below.refl _ _).alloc (Nat.le_refl _) _
   have hcp := copyElem_any (wr.alloc (.cells #[.string (str nm), .slice Ac cl.length cc, .int .i64 sm] 39)) B nm cl sm Ac cc (hri.keep fun q hq => hb1.cell (p := q) (by omega)) (by simp; omega) hpm.2 hpm.1
   have x0 : (wr.alloc (.cells #[.string (str nm), .slice Ac cl.length cc, .int .i64 sm] 39)).cell? ⟨wr.heap.size, 0, none⟩ = some (.string (str nm)) := by simp
   have x1 : (wr.alloc (.cells #[.string (str nm), .slice Ac cl.length cc, .int .i64 sm] 39)).cell? ⟨wr.heap.size, 1, none⟩ = some (.slice Ac cl.length cc) := by simp
   have x2 : (wr.alloc (.cells #[.string (str nm), .slice Ac cl.length cc, .int .i64 sm] 39)).cell? ⟨wr.heap.size, 2, none⟩ = some (.int .i64 sm) := by simp
   have i0' : (0 : Int) ≤ (k : Int) := by omega
   have i1 : (k : Int) < (m : Int) := by omega
   have HP := Lib.hid hp
   have HB1 := Lib.hid hb1
   clear hOr hp hb1 hbr hri hpm
   go_wp2_with fail
   with_reducible refine hcp.mono ?_
   rintro e w3 ⟨u, rfl, hown, hb3⟩
   obtain ⟨uA, uc, rfl⟩ := row_form hown
   have hs3 := hb3.size
   have hs1 := HB1.out.size
   have HB3 : Hid (Below w.heap.size w w3) := Lib.hid ((HQ.out.2.trans (HB1.out.mono hsr)).trans (hb3.mono (by omega)))
   have HX3 := Lib.hid (own_low (b' := w.heap.size) hown (by omega))
   obtain ⟨vs, q1, q2, q3⟩ := (HQ.out.1.next HB1.out).next hb3
   have hkl : (o.take k).length = k := by rw [List.length_take, ← HM.out]; omega
   rw [hkl] at q1 q2
   have HQ1 := Lib.hid q1
   have HQ2 := Lib.hid q2
   have HQ3 := Lib.hid q3
   clear hcp hown hb3 q1 q2 q3
   go_wp2_with (at_builtin; (refine wpList_append_lies _ rfl _ _ 28 rfl w.heap.size 39 i0 (.agg #[.string (str []), .slice none 0 0, .int .i64 0]) 3 48 Tryz.underlying28 hi hz0 hz1 hz2 rfl (by decide) u5 k (ordR (o.take k) vs).flatten rfl (HQ2.out.alloc _) ⟨w3.heap.size, 0, none⟩ 1 1 [.string (str nm), .slice uA cl.length uc, .int .i64 sm] rfl rfl (trip_new _ _ _ _ _ _ rfl) (by intro u hu; simp at hu; rcases hu with rfl | rfl | rfl <;> rfl) (by omega) (by unfold maxLen; omega) (by omega) (by simp; omega) (w3.heap.size + 1) (by simp) ?_); intro g cap w4 hown' hgrow hat hlt3)
   have HEND : Hid (OrdAt w4 w.heap.size (.slice (some ⟨g, 0, none⟩) (k + 1) cap) (o.take (k + 1)) ∧ Below w.heap.size w w4) := Lib.hid ⟨by
    rw [take_one HP.out]
    have h := OrdAt.snoc (w := w3.alloc (.cells #[.string (str nm), .slice uA cl.length uc, .int .i64 sm] 39)) (v := u5) (o := o.take k) (vs := vs) ⟨nm, cl, sm⟩ (by rw [hkl]; exact HQ1.out) (by rw [hkl]; exact HQ2.out.alloc _) (fun i e x a b => (HQ3.out i e x a b).alloc _) (HX3.out.alloc _) hgrow (by rw [hkl]; exact hown')
    rwa [hkl] at h, (HB3.out.alloc (by omega) _).grown hgrow (by simp; omega) (fun j hj => by have := HQ2.out.lt j hj; omega)⟩
   clear hown' hgrow
   go_wp2
   go_roundw
   case rel => exact ⟨k + 1, by omega, by go_num, HEND⟩
   case measure => simp [intOf]; omega
  ·obtain rfl : k = m := by omega
   have HE : Hid (OrdAt wr w.heap.size u5 o ∧ Below w.heap.size w wr) := Lib.hid ⟨by have := HQ.out.1; rwa [HM.out, List.take_length] at this, HQ.out.2⟩
   go_wp2
   go_ret
   exact ⟨_, rfl, HE.out⟩

set_option maxRecDepth 100000 in
set_option maxHeartbeats 4000000 in
theorem copiesC_any (w : World) (B : Nat) (v : Value) (o : List Cls) (h : ClsR w B v o) (hB : B ≤ w.heap.size) (hn : o.length ≤ 1073741824) (hnm : ∀ e ∈ o, e.name.length ≤ 281474976710656 ∧ e.rs.length ≤ 17592186044416) :
  Calls Tryz.prog 30 #[v, .func (.func 31) #[] #[]] w fun e w' => ∃ v', e = .returned v' ∧ ClsAt w' w.heap.size v' o ∧ Below w.heap.size w w' := by
 obtain ⟨A, c, xs, rfl, _⟩ := id h
 obtain ⟨i0, hi, hz0, hz1, hz2⟩ := info_parts infoClass
 have H := Lib.hid h
 have HNM := Lib.hid hnm
 obtain ⟨m, hm⟩ : ∃ m, m = o.length := ⟨_, rfl⟩
 rw [← hm]
 have HM := Lib.hid hm
 have hm5 : m ≤ 1073741824 := by omega
 clear h hnm hm hn
 go_enter Tryz.func30, Tryz.ntmps30
 go_wp2_with (at_make; (refine wpList_make_own _ rfl _ _ 26 rfl w.heap.size 86 i0 (.agg #[.string (str []), .slice none 0 0]) 2 Tryz.underlying26 hi hz0 hz1 .i64 .i64 _ m rfl rfl (by omega) (by rw [hz2]; omega) (by unfold maxLen; omega) (by omega) ?_); intro w2 hown hgrow; have hb2 : Below w.heap.size w w2 := (Below.refl _ w).grown hgrow (Nat.le_refl _) (fun _ h => by cases h))
 have HO : Hid (ClsAt w2 w.heap.size (.slice (some ⟨w.heap.size, 0, none⟩) 0 m) []) := Lib.hid ⟨[], rfl, hown, by simp⟩
 have HB := Lib.hid hb2
 clear hown hgrow hb2
 go_wp2
 go_loopw [5, 13] (fun tv iv wr => ∃ k : Nat, k ≤ m ∧ iv = .int .i64 k ∧ Hid (ClsAt wr w.heap.size tv (o.take k) ∧ Below w.heap.size w wr)) (fun _ iv _ => m - (intOf iv).toNat)
 case atStart => exact ⟨0, Nat.zero_le _, rfl, Lib.hid ⟨HO.out, HB.out⟩⟩
 case round =>
  obtain ⟨k, hk, rfl, HQ⟩ := hrel
  by_cases hlt : k < m
  ·obtain ⟨p, hp⟩ : ∃ p, o[k]? = some p := ⟨_, List.getElem?_eq_getElem (by rw [← HM.out]; exact hlt)⟩
   have hbr := HQ.out.2
   have hsr := hbr.size
   have hOr : ClsR wr B (.slice A o.length c) o := H.out.on hbr hB
   obtain ⟨ad, c', Ac, cc, hv, hbl, hc0, hc1, hri⟩ := clsR_at hOr hp
   injection hv with hv _ hcc
   subst hv hcc
   have hpm := HNM.out _ (List.mem_of_getElem? hp)
   obtain ⟨nm, cl⟩ := p
   replace hri := hri.1
   have hb1 : Below wr.heap.size wr (wr.alloc (.cells #[.string (str nm), .slice Ac cl.length cc] 86)) := (Below.refl _ _).alloc (Nat.le_refl _) _
   have hcp := copyCls_any (wr.alloc (.cells #[.string (str nm), .slice Ac cl.length cc] 86)) B nm cl Ac cc (hri.keep fun q hq => hb1.cell (p := q) (by omega)) (by simp; omega) hpm.2 hpm.1
   have x0 : (wr.alloc (.cells #[.string (str nm), .slice Ac cl.length cc] 86)).cell? ⟨wr.heap.size, 0, none⟩ = some (.string (str nm)) := by simp
   have x1 : (wr.alloc (.cells #[.string (str nm), .slice Ac cl.length cc] 86)).cell? ⟨wr.heap.size, 1, none⟩ = some (.slice Ac cl.length cc) := by simp
   have i0' : (0 : Int) ≤ (k : Int) := by omega
   have i1 : (k : Int) < (m : Int) := by omega
   have HP := Lib.hid hp
   have HB1 := Lib.hid hb1
   clear hOr hp hb1 hbr hri hpm
   go_wp2_with fail
   with_reducible refine hcp.mono ?_
   rintro e w3 ⟨u, rfl, hown, hb3⟩
   obtain ⟨uA, uc, rfl⟩ := row_form hown
   have hs3 := hb3.size
   have hs1 := HB1.out.size
   have HB3 : Hid (Below w.heap.size w w3) := Lib.hid ((HQ.out.2.trans (HB1.out.mono hsr)).trans (hb3.mono (by omega)))
   have HX3 := Lib.hid (own_low (b' := w.heap.size) hown (by omega))
   obtain ⟨vs, q1, q2, q3⟩ := (HQ.out.1.next HB1.out).next hb3
   have hkl : (o.take k).length = k := by rw [List.length_take, ← HM.out]; omega
   rw [hkl] at q1 q2
   have HQ1 := Lib.hid q1
   have HQ2 := Lib.hid q2
   have HQ3 := Lib.hid q3
   clear hcp hown hb3 q1 q2 q3
   go_wp2_with (at_builtin; (refine wpList_append_lies _ rfl _ _ 26 rfl w.heap.size 86 i0 (.agg #[.string (str []), .slice none 0 0]) 2 40 Tryz.underlying26 hi hz0 hz1 hz2 rfl (by decide) u5 k (clsC (o.take k) vs) rfl (HQ2.out.alloc _) ⟨w3.heap.size, 0, none⟩ 1 1 [.string (str nm), .slice uA cl.length uc] rfl rfl (pair_new _ _ _ _ _ rfl) (by intro u hu; simp at hu; rcases hu with rfl | rfl <;> rfl) (by omega) (by unfold maxLen; omega) (by omega) (by simp; omega) (w3.heap.size + 1) (by simp) ?_); intro g cap w4 hown' hgrow hat hlt3)
   have HEND : Hid (ClsAt w4 w.heap.size (.slice (some ⟨g, 0, none⟩) (k + 1) cap) (o.take (k + 1)) ∧ Below w.heap.size w w4) := Lib.hid ⟨by
    rw [take_one HP.out]
    have h := ClsAt.snoc (w := w3.alloc (.cells #[.string (str nm), .slice uA cl.length uc] 86)) (v := u5) (cs := o.take k) (vs := vs) ⟨nm, cl⟩ (by rw [hkl]; exact HQ1.out) (by rw [hkl]; exact HQ2.out.alloc _) (fun i e x a b => (HQ3.out i e x a b).alloc _) (HX3.out.alloc _) hgrow (by rw [hkl]; exact hown')
    rwa [hkl] at h, (HB3.out.alloc (by omega) _).grown hgrow (by simp; omega) (fun j hj => by have := HQ2.out.lt j hj; omega)⟩
   clear hown' hgrow
   go_wp2
   go_roundw
   case rel => exact ⟨k + 1, by omega, by go_num, HEND⟩
   case measure => simp [intOf]; omega
  ·obtain rfl : k = m := by omega
   have HE : Hid (ClsAt wr w.heap.size u5 o ∧ Below w.heap.size w wr) := Lib.hid ⟨by have := HQ.out.1; rwa [HM.out, List.take_length] at this, HQ.out.2⟩
   go_wp2
   go_ret
   exact ⟨_, rfl, HE.out⟩
end Go.Proofs.YtknjhlbhbnldpaaGreatDoor.C

namespace Go.Proofs.YtknjhlbhbnldpaaGreatDoor.C
open Go.RowKit

set_option maxRecDepth 100000 in
set_option maxHeartbeats 1000000 in
theorem lower_any (w : World) (T : Nat) (L : Loc) (n c : Int) (h : TabAt w T L n) (h0 : 0 ≤ n) (h1 : n < 4611686018427387904) (hR : rightL L = true) :
  Calls Tryz.prog 52 #[.pointer (some ⟨T, 0, none⟩), .int .i32 c] w fun e w' => e = .returned (.int .i32 (toL L.lo c)) ∧ TabAt w' T L (n + 1) ∧ Fr w w' (· = T) := by
 have hc := count_any w T L n h h0 h1
 clear h
 go_enter Tryz.func52, Tryz.ntmps52
 go_wp2_with fail
 refine hc.mono ?_
 rintro e w1 ⟨rfl, ht, hf⟩
 have hu := lo_any w1 T L (n + 1) c ht hR
 have HF := Lib.hid hf
 clear hc ht hf
 go_wp2_with fail
 refine hu.mono ?_
 rintro e w2 ⟨rfl, ht, hf⟩
 have HE : Hid (TabAt w2 T L (n + 1) ∧ Fr w w2 (· = T)) := Lib.hid ⟨ht, HF.out.trans hf⟩
 clear hu ht hf
 go_wp2
 go_ret
 exact ⟨rfl, HE.out⟩
set_option maxRecDepth 100000 in
set_option maxHeartbeats 2000000 in
theorem classT_any (w : World) (T : Nat) (L : Loc) (n : Int) (nm : List UInt8) (h : TabAt w T L n) (h0 : 0 ≤ n) (h1 : n < 4611686018427387904) (hR : rightL L = true) (hn : ∀ k ∈ L.cls, k.rs.length ≤ 17592186044416) :
  Calls Tryz.prog 49 #[.pointer (some ⟨T, 0, none⟩), .string (str nm)] w fun e w' => ∃ v, e = .returned (.tuple #[v, .bool (rangesL L.cls nm).isSome]) ∧
   w'.ownsRow w.heap.size 109 2 v ((rangesL L.cls nm).getD []).length (prsC ((rangesL L.cls nm).getD [])) ∧ TabAt w' T L (n + 1) ∧ Fr w w' (· = T) := by
 have hc := count_any w T L n h h0 h1
 have hlen : ((rangesL L.cls nm).getD []).length ≤ 17592186044416 := by
  cases hl : rangesL L.cls nm with
  | none => exact Nat.zero_le _
  | some rs =>
   obtain ⟨i, k, hi, _, hrs⟩ := rangesL_some hl
   have := hn k (List.mem_of_getElem? hi)
   rw [hrs] at this
   exact this
 clear h hn
 go_enter Tryz.func49, Tryz.ntmps49
 go_wp2_with fail
 refine hc.mono ?_
 rintro e w1 ⟨rfl, ht, hf⟩
 have hrg := ranges_any w1 T L (n + 1) nm ht hR
 have HF1 := Lib.hid hf
 clear hc ht hf
 go_wp2_with fail
 refine hrg.mono ?_
 rintro e w2 ⟨ht, hf, v, rfl, hv, -⟩
 have hcl := cloneR_any w2 T v _ hv hlen
 have HF2 := Lib.hid (HF1.out.trans hf)
 have HT2 := Lib.hid ht
 obtain ⟨A, c, rfl, _⟩ := hv
 clear hrg ht hf
 go_wp2_with fail
 refine hcl.mono ?_
 rintro e w3 ⟨v3, rfl, ho, hb⟩
 have HE : Hid (w3.ownsRow w.heap.size 109 2 v3 ((rangesL L.cls nm).getD []).length (prsC ((rangesL L.cls nm).getD [])) ∧ TabAt w3 T L (n + 1) ∧ Fr w w3 (· = T)) := Lib.hid ⟨own_low ho HF2.out.size, HT2.out.keep hb, HF2.out.trans (.of_below hb)⟩
 clear hcl ho hb
 go_wp2
 go_ret2
 exact ⟨_, rfl, HE.out⟩
theorem toL_at {ps : List (Int × Int)} {k : Nat} {p : Int × Int} {c : Int} (hp : ps[k]? = some p) (hc : p.1 = c) (hx : ∀ x ∈ ps.take k, x.1 ≠ c) : toL ps c = p.2 := by
 induction ps generalizing k with
 | nil => cases hp
 | cons q r ih =>
  cases k with
  | zero =>
   obtain rfl : q = p := by simpa using hp
   unfold toL
   rw [if_pos hc]
  | succ j =>
   unfold toL
   rw [if_neg (hx q (by rw [List.take_succ_cons]; exact List.mem_cons_self))]
   exact ih (by simpa using hp) fun x hxm => hx x (by rw [List.take_succ_cons]; exact List.mem_cons_of_mem _ hxm)
set_option maxRecDepth 100000 in
set_option maxHeartbeats 2000000 in
theorem to08_any (w : World) (B : Nat) (v : Value) (ps : List (Int × Int)) (c : Int) (h : PrsR w B v ps) (hn : ps.length ≤ maxLen) :
  Calls Tryz.prog 55 #[v, .int .i32 c] w fun e w' => e = .returned (.int .i32 (toL ps c)) ∧ w' = w := by
 obtain ⟨A, cA, rfl, hsi⟩ := h
 unfold maxLen at hn
 have HSI := Lib.hid hsi
 clear hsi
 go_enter Tryz.func55, Tryz.ntmps55
 go_wp2
 go_loop [5] (fun i => ∃ k : Nat, k ≤ ps.length ∧ i = .int .i64 k ∧ Hid (∀ x ∈ ps.take k, x.1 ≠ c)) (fun i => ps.length - (intOf i).toNat)
 case atStart => exact ⟨0, Nat.zero_le _, rfl, Lib.hid (by simp)⟩
 case round =>
  obtain ⟨k, hk, rfl, HQ⟩ := hrel
  by_cases hlt : k < ps.length
  ·obtain ⟨p, hp⟩ : ∃ p, ps[k]? = some p := ⟨_, List.getElem?_eq_getElem hlt⟩
   obtain ⟨ad, rfl, _, hc0, hc1⟩ := prsR_at HSI.out hp
   have i0 : (0 : Int) ≤ (k : Int) := by omega
   have i1 : (k : Int) < (ps.length : Int) := by omega
   obtain ⟨a, b⟩ := p
   have HP := Lib.hid hp
   clear hp
   by_cases e : a = c
   ·have e1 : (a == c) = true := by simpa using e
    have HV : Hid (toL ps c = b) := Lib.hid (toL_at HP.out e HQ.out)
    clear e
    go_wp2
    go_ret
    exact ⟨by rw [HV.out]; rfl, rfl⟩
   ·have e1 : (a == c) = false := by simpa using e
    have HN : Hid (∀ x ∈ ps.take (k + 1), x.1 ≠ c) := Lib.hid (by
     rw [take_one HP.out]
     intro x hx
     rcases List.mem_append.1 hx with hx | hx
     ·exact HQ.out x hx
     ·rw [List.mem_singleton] at hx
      subst hx
      exact e)
    clear e
    go_wp2
    go_round
    case rel => exact ⟨k + 1, by omega, by go_num, HN⟩
    case measure => simp [intOf]; omega
  ·obtain rfl : k = ps.length := by omega
   have HV : Hid (toL ps c = c) := Lib.hid (toL_out (by
    have := HQ.out
    rw [List.take_length] at this
    intro hm
    obtain ⟨x, hx, e⟩ := List.mem_map.1 hm
    exact this x hx e))
   go_wp2
   go_ret
   exact ⟨by rw [HV.out]; rfl, rfl⟩
set_option maxRecDepth 100000 in
set_option maxHeartbeats 2000000 in
theorem in08_any (w : World) (B : Nat) (v : Value) (rs : List (Int × Int)) (c : Int) (h : PrsR w B v rs) (hn : rs.length ≤ maxLen) :
  Calls Tryz.prog 54 #[v, .int .i32 c] w fun e w' => e = .returned (.bool (rs.any (inR c))) ∧ w' = w := by
 obtain ⟨A, cA, rfl, hsi⟩ := h
 unfold maxLen at hn
 have HSI := Lib.hid hsi
 clear hsi
 go_enter Tryz.func54, Tryz.ntmps54
 go_wp2
 go_loop [5] (fun i => ∃ k : Nat, k ≤ rs.length ∧ i = .int .i64 k ∧ Hid (∀ x ∈ rs.take k, inR c x = false)) (fun i => rs.length - (intOf i).toNat)
 case atStart => exact ⟨0, Nat.zero_le _, rfl, Lib.hid (by simp)⟩
 case round =>
  obtain ⟨k, hk, rfl, HQ⟩ := hrel
  by_cases hlt : k < rs.length
  ·obtain ⟨p, hp⟩ : ∃ p, rs[k]? = some p := ⟨_, List.getElem?_eq_getElem hlt⟩
   obtain ⟨ad, rfl, _, hc0, hc1⟩ := prsR_at HSI.out hp
   have i0 : (0 : Int) ≤ (k : Int) := by omega
   have i1 : (k : Int) < (rs.length : Int) := by omega
   obtain ⟨a, b⟩ := p
   have HP := Lib.hid hp
   have HNX : Hid (inR c (a, b) = false → ∀ x ∈ rs.take (k + 1), inR c x = false) := Lib.hid (fun e => by
    rw [take_one HP.out]
    intro x hx
    rcases List.mem_append.1 hx with hx | hx
    ·exact HQ.out x hx
    ·rw [List.mem_singleton] at hx
     subst hx
     exact e)
   clear hp
   by_cases h1 : a ≤ c
   ·by_cases h2 : c ≤ b
    ·have HV : Hid (rs.any (inR c) = true) := Lib.hid (List.any_eq_true.2 ⟨_, List.mem_of_getElem? HP.out, by simp [inR, h1, h2]⟩)
     go_wp2
     go_ret
     exact ⟨by rw [HV.out]; rfl, rfl⟩
    ·have HN := Lib.hid (HNX.out (by simp [inR, h2]))
     go_wp2
     go_round
     case rel => exact ⟨k + 1, by omega, by go_num, HN⟩
     case measure => simp [intOf]; omega
   ·have HN := Lib.hid (HNX.out (by simp [inR, h1]))
    go_wp2
    go_round
    case rel => exact ⟨k + 1, by omega, by go_num, HN⟩
    case measure => simp [intOf]; omega
  ·obtain rfl : k = rs.length := by omega
   have HV : Hid (rs.any (inR c) = false) := Lib.hid (by
    rw [List.any_eq_false]
    intro r hr
    rw [HQ.out r (by rw [List.take_length]; exact hr)]
    decide)
   go_wp2
   go_ret
   exact ⟨by rw [HV.out]; rfl, rfl⟩
end Go.Proofs.YtknjhlbhbnldpaaGreatDoor.C
