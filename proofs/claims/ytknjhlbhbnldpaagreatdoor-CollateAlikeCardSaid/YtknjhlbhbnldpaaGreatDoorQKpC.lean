/-
  The map of the places of those that are as good as one, filled. No condition.
-/
import Derived.Test.YtknjhlbhbnldpaaGreatDoorQKpB
import Derived.Test.YtknjhlbhbnldpaaGreatDoorB20
import Derived.Test.YtknjhlbhbnldpaaGreatDoorB22
import Derived.Test.YtknjhlbhbnldpaaGreatDoorB24
namespace Go.Proofs.YtknjhlbhbnldpaaGreatDoor.C
open Go.RowKit

theorem infoInt8 : (Tryz.prog.info? 3).map (fun i => (i.zero, i.size, i.bytes)) = some (some (.int .i64 0), 1, 8) := by kernel_rfl
set_option maxRecDepth 100000 in
set_option maxHeartbeats 8000000 in
theorem fillAlike (T : Nat) (t : TypeId) (l : List Value) (w : World) (v : Value) (es : List Elm) (hl : l[1]? = some v) (hes : OrdR w T v es) (ho : ordB es = true) (hT : T < w.heap.size) :
  Fills 97 (.pointer (some ⟨T, 1, none⟩)) (.int .i64) T 10 t w l (PAlike T es) := by
 intro W M hf hr hM hm
 have hn : es.length ≤ 500 := by unfold ordB at ho; simp only [Bool.and_eq_true, decide_eq_true_eq] at ho; exact ho.1
 have hb := hf.belowT (Nat.le_of_lt hT)
 have hWT : T < W.heap.size := by have := hf.size; omega
 have c4 : W.cell? ⟨T, 1, none⟩ = some v := hr.cell (by rw [set_ne (by omega), set_ne (by omega)]; exact hl)
 have hO := hes.on hb (Nat.le_refl _)
 obtain ⟨A, c, xs, rfl, _⟩ := id hO
 obtain ⟨i0, hi, hz0, hz1, hz2⟩ := info_parts infoInt8
 have HO := Lib.hid hO
 have HTM : Hid (T < M ∧ T < W.heap.size) := Lib.hid ⟨by omega, hWT⟩
 have HM := Lib.hid hm
 obtain ⟨D, hD⟩ : ∃ D, W.heap.size = D + 1 := ⟨W.heap.size - 1, by omega⟩
 have HD := Lib.hid hD
 clear hf hr hes hb hO hl hm hM hT hWT ho hD
 go_enter Tryz.func97, Tryz.ntmps97
 go_wp2
 go_loopw [11] (fun iv wr => ∃ k : Nat, k ≤ es.length ∧ iv = .int .i64 k ∧ Hid (∃ kv, Fr W wr (· = M) ∧ AlSt D M es wr k kv)) (fun iv _ => es.length - (intOf iv).toNat)
 case atStart => exact ⟨0, Nat.zero_le _, rfl, Lib.hid ⟨[], Fr.refl _ _, HM.out, fun i e h => by omega, by simp, by simp⟩⟩
 case round =>
  obtain ⟨k, hk, rfl, HQ⟩ := hrel
  by_cases hlt : k < es.length
  ·obtain ⟨kv, hfr, hal⟩ := HQ.out
   obtain ⟨e, he⟩ : ∃ e, es[k]? = some e := ⟨_, List.getElem?_eq_getElem hlt⟩
   have hB := keep_map hfr (Nat.le_of_lt HTM.out.2) (Nat.le_of_lt HTM.out.1)
   obtain ⟨ad, c', Ac, cc, hv, hbl, hc0, hc1, hc2, hri⟩ := elmR_at (HO.out.on hB (Nat.le_refl _)) he
   injection hv with hv _ hcc
   subst hv hcc
   obtain ⟨nm, cl, sm⟩ := e
   obtain ⟨w2, hw2⟩ : ∃ w2, w2 = wr.alloc (.cells #[.string (str nm), .slice Ac cl.length cc, .int .i64 sm] 39) := ⟨_, rfl⟩
   have hb2 : Below wr.heap.size wr w2 := by rw [hw2]; exact (Below.refl _ _).alloc (Nat.le_refl _) _
   have hs2 : w2.heap.size = wr.heap.size + 1 := by rw [hw2]; simp
   have x2 : w2.cell? ⟨wr.heap.size, 2, none⟩ = some (.int .i64 sm) := by rw [hw2]; simp
   have hal2 := hal.next hb2
   obtain ⟨Av, cv, hlook, hown, hj⟩ := hal2.look sm
   have hle := plK_le es k sm
   obtain ⟨w3, hw3⟩ : ∃ w3, w3 = w2.drew.alloc (.cells #[.int .i64 (k : Int)] 3) := ⟨_, rfl⟩
   have hb3 : Below w2.heap.size w2 w3 := by rw [hw3]; exact (below_drew (Below.refl _ _)).alloc (Nat.le_refl _) _
   have hs3 : w3.heap.size = w2.heap.size + 1 := by rw [hw3]; simp
   have hal3 := hal2.next hb3
   have hown3 := own_next hown hb3
   have hbox : (Value.slice Av (plK es k sm).length cv).ownBlock ≠ some wr.heap.size := row_neK hown (by rw [hw2]; exact heap_alloc_new wr _) (by decide)
   have hS1 : (fun W' : World => W'.cell? ⟨wr.heap.size, 2, none⟩ = some (.int .i64 sm) ∧ (Instr.lookup 78 (.map (some M)) (.int .i64 sm) false).run Tryz.prog W' = .ok (.slice Av (plK es k sm).length cv) W') w2.drew := ⟨x2, hlook _ hal2.m⟩
   have hS3 : (fun W' : World => W'.cell? ⟨wr.heap.size, 2, none⟩ = some (.int .i64 sm) ∧ (Instr.lookup 78 (.map (some M)) (.int .i64 sm) false).run Tryz.prog W' = .ok (.slice Av (plK es k sm).length cv) W') w3 := ⟨below_cell (p := ⟨wr.heap.size, 2, none⟩) hb3 x2, hlook _ hal3.m⟩
   have i0' : (0 : Int) ≤ (k : Int) := by omega
   have i1 : (k : Int) < (es.length : Int) := by omega
   have HAL3 := Lib.hid hal3
   have HOWN3 := Lib.hid hown3
   have HJ := Lib.hid hj
   have HLOOK := Lib.hid hlook
   have HBOX := Lib.hid hbox
   have HE := Lib.hid he
   have HS := Lib.hid hs3
   have HF3 : Hid (Fr W w3 (· = M)) := Lib.hid ((hfr.trans (.of_below hb2)).trans (.of_below hb3))
   have HS3 := Lib.hid hS3
   have hsW := hfr.size
   have HW3 := Lib.hid hw3
   have HS2 := Lib.hid hs2
   clear hfr hal hB hri hbl hb2 hal2 hlook hown hj hb3 hal3 hown3 hbox he hs3 hw3 x2
   subst hw2
   go_wp2
   refine wp_region_E (S := fun W' : World => W'.cell? ⟨wr.heap.size, 2, none⟩ = some (.int .i64 sm) ∧ (Instr.lookup 78 (.map (some M)) (.int .i64 sm) false).run Tryz.prog W' = .ok (.slice Av (plK es k sm).length cv) W') (L := 10) (by kernel_rfl) ?_
   iterate 8 (refine wpE rfl rfl ?_; try simp only [Act.put, g1, g2, g3, g4, g5, g6])
   refine wpAnyE_one (i := 8) (by kernel_rfl) rfl (fun K hK => ?_)
   simp only [g4, g5, g6]
   go_simp
   rw [show ((wr.alloc (.cells #[.string (str nm), .slice Ac cl.length cc, .int .i64 sm] 39)).alloc (.cells #[.int .i64 (k : Int)] 3)).drew = w3 from by rw [HW3.out]; rfl]
   refine hK.out _ _ (fun _ => HS3.out) (fun hS => ?_)
   replace hS := hS (by decide)
   refine wpAnyE_one (i := 9) (by kernel_rfl) rfl (fun K hK => ?_)
   refine step_append_lies _ (by rfl) _ _ _ (by rfl) (D + 1) 3 i0 (.int .i64 0) 1 8 Tryz.underlying143 hi hz0 hz1 hz2 rfl (by decide) (.slice Av (plK es k sm).length cv) (plK es k sm).length (nat64 (plK es k sm)) (by rfl) HOWN3.out ⟨wr.heap.size + 1, 0, none⟩ 1 1 [.int .i64 (k : Int)] (by rfl) (by rfl) (by rw [HW3.out, ← HS2.out]; exact cell_one_new _ _ _) (by intro u hu; simp at hu; subst hu; rfl) (by decide) (by unfold maxLen; omega) (by omega) (by have := HS.out; have := HS2.out; have := HD.out; omega) _ rfl ?_
   intro g cap w5 hown5 hgr5 hat5 _
   obtain ⟨ob, kv', hrun, hal'⟩ := HAL3.out.step HE.out rfl HOWN3.out HJ.out hgr5 hown5 (hat5.imp_right (by rintro rfl; exact Nat.le_refl _))
   have hS5 : (fun W' : World => W'.cell? ⟨wr.heap.size, 2, none⟩ = some (.int .i64 sm) ∧ (Instr.lookup 78 (.map (some M)) (.int .i64 sm) false).run Tryz.prog W' = .ok (.slice Av (plK es k sm).length cv) W') w5 := ⟨(World.cell?_of_block (hgr5.block wr.heap.size (by have := HS.out; have := HS2.out; omega) (fun h => HBOX.out h.symm))).trans HS3.out.1, HLOOK.out w5 (HAL3.out.m.at_ (hgr5.block M HAL3.out.m.lt (fun h => own_nomap HOWN3.out HAL3.out.m h.symm)))⟩
   have HEND : Hid (∃ kv, Fr W (putObj w5 M ob) (· = M) ∧ AlSt D M es (putObj w5 M ob) (k + 1) kv) := Lib.hid ⟨kv', (HF3.out.next (.of_grown hgr5) (fun j hj hx => by have := (HOWN3.out.lt j hx).1; have := HD.out; omega)).next (.of_grown (putObj_only ob)) (by intro j _ e; injection e with e; exact e.symm), hal'⟩
   clear hown5 hgr5 hat5 hal'
   refine hK.out _ _ (fun _ => hS5) (fun hS => ?_)
   replace hS := hS (by decide)
   refine wpAnyE_one (i := 10) (by kernel_rfl) rfl (fun K hK => ?_)
   simp only [g4, g5, g6]
   go_simp
   refine hK.out _ _ (fun h => absurd rfl h) (fun _ => ?_)
   refine wpAnyE_done (by kernel_rfl) ?_ _
   clear hS hS5 hS1 hS3 hrun
   go_wp2
   go_roundw
   case rel => exact ⟨k + 1, by omega, by go_num, HEND⟩
   case measure => simp [intOf]; omega
  ·obtain rfl : k = es.length := by omega
   have HE : Hid (Fr W wr (· = M) ∧ PAlike T es wr M) := Lib.hid (by
    obtain ⟨kv, h1, h2⟩ := HQ.out
    refine ⟨h1, HTM.out.1, kv, h2.m, fun e he => ?_, fun x hx => own_low (h2.r x hx) (by have := HTM.out; have := HD.out; omega)⟩
    obtain ⟨i, hi⟩ := List.mem_iff_getElem?.1 he
    exact h2.a i e (List.getElem?_eq_some_iff.1 hi).1 hi)
   go_wp2
   go_end0
   exact ⟨rfl, HE.out⟩
end Go.Proofs.YtknjhlbhbnldpaaGreatDoor.C
