/-
  Joined: WLocaleTwice. Each with what its own head says.
-/
import Derived.Test.YthaibekbefndlaaGreatDoorH32
import Derived.Test.YthaibekbefndlaaGreatDoorH42
import Derived.Test.YthaibekbefndlaaGreatDoorH46
namespace Go.Proofs.YthaibekbefndlaaGreatDoor.C
open Go.RowKit

def moreArr : Array Value := #[.string ⟨#[99, 108, 97, 115, 115, 32, 97, 108, 112, 104, 97, 32, 60, 85, 48, 48, 52, 49, 62, 10]⟩, .string ⟨#[111, 114, 100, 101, 114, 32, 60, 85, 48, 48, 54, 49, 62, 10]⟩, .string ⟨#[116, 111, 117, 112, 112, 101, 114, 32, 40, 60, 85, 48, 48, 54, 49, 62, 44, 60, 85, 48, 48, 52, 49, 62, 41, 10]⟩]
theorem more_eq : moreArr = #[.string (str (moreL 0)), .string (str (moreL 1)), .string (str (moreL 2))] := by
 have h0 : moreL 0 = [99, 108, 97, 115, 115, 32, 97, 108, 112, 104, 97, 32, 60, 85, 48, 48, 52, 49, 62, 10] := by decide +kernel
 have h1 : moreL 1 = [111, 114, 100, 101, 114, 32, 60, 85, 48, 48, 54, 49, 62, 10] := by decide +kernel
 have h2 : moreL 2 = [116, 111, 117, 112, 112, 101, 114, 32, 40, 60, 85, 48, 48, 54, 49, 62, 44, 60, 85, 48, 48, 52, 49, 62, 41, 10] := by decide +kernel
 rw [h0, h1, h2]
 rfl
theorem more_cell (w : World) (t : TypeId) {k : Nat} (hk : k < 3) : (w.alloc (.cells moreArr t)).cell? ⟨w.heap.size, k, none⟩ = some (.string (str (moreL k))) := by
 rw [more_eq, World.cell?_alloc_new]
 rcases (by omega : k = 0 ∨ k = 1 ∨ k = 2) with rfl | rfl | rfl <;> rfl
theorem genL_cost (zs : List Int) (hb : Byt zs) : mT (genL zs) + 4 ≤ 204 := by
 have l1 : (zs.take 3).length ≤ 3 := by rw [List.length_take]; omega
 have l2 : ((zs.drop 3).take 3).length ≤ 3 := by rw [List.length_take]; omega
 have l3 : ((zs.drop 6).take 14).length ≤ 14 := by rw [List.length_take]; omega
 have b3 : Byt ((zs.drop 6).take 14) := fun z hz => hb z (List.mem_of_mem_drop (List.mem_of_mem_take hz))
 obtain ⟨o1, o2, o3, o4⟩ := ordG_ok _ l3 b3
 have c1 := clsG_cost (zs.take 3) 0
 have c2 := upG_len ((zs.drop 3).take 3) 0
 have c3 := loG_len ((zs.drop 3).take 3) 0
 unfold mT
 simp only [genL]
 rw [c2, c3]
 omega
theorem print_none : printL noL = ([], 0) := by decide +kernel
set_option maxRecDepth 100000 in
set_option maxHeartbeats 8000000 in
theorem localeTwiceWalk (a0 : Option Addr) (len0 cap0 : Nat) (z0 : List Int) (a1 : Int) (w : World) (hG : Gm w) (w0 : L.IsRow .u8 w a0 len0 cap0 z0) (w1 : (Lit.int .u8 a1).wf = true) :
  Calls Tryz.prog 4 #[.slice a0 len0 cap0, .int .u8 a1] w fun e w' => e = .returned (.bool true) ∧ Below w.heap.size w w' := by
 have hw1 : 0 ≤ a1 ∧ a1 < 256 := by
  have hmin : IntKind.u8.min = 0 := rfl
  have hmax : IntKind.u8.max = 255 := rfl
  simp only [Lit.wf, Bool.and_eq_true, decide_eq_true_eq] at w1
  omega
 obtain ⟨k, hk⟩ : ∃ k : Nat, a1 % 3 = (k : Int) := ⟨(a1 % 3).toNat, by omega⟩
 have hk3 : k < 3 := by omega
 have hby := row_u8 w0
 have hlc := locale_any w w.heap.size a0 len0 cap0 _ (RI.of_row w0) (Nat.le_refl _) hby (by have := row_len w0; omega)
 obtain ⟨l, hl⟩ : ∃ l, l = genL (z0.take len0) := ⟨_, rfl⟩
 have hok := genL_ok _ hby
 have hcost := genL_cost _ hby
 rw [← hl] at hlc hok hcost
 obtain ⟨hr, hn1, hn2, hfew, hmT, hq⟩ := hok
 obtain ⟨hf1, hf2, hpr⟩ := print_fits hr hn1 hn2 hmT
 have hf3 := (fits_of (short_of hr hn1 hn2) hcost).1
 obtain ⟨p, hp1, hp2, hp3⟩ := parse_twice hr hq (by omega) (by omega) (by omega) hk3
 have hml := (mps_good hk3).2.1
 obtain ⟨T, hT⟩ : ∃ T, T = str (linesT (locT l)) := ⟨_, rfl⟩
 obtain ⟨M, hM⟩ : ∃ M, M = str (moreL k) := ⟨_, rfl⟩
 obtain ⟨T1, hT1⟩ : ∃ T1, T1 = str (linesT (locT l) ++ moreL k) := ⟨_, rfl⟩
 obtain ⟨T2, hT2⟩ : ∃ T2, T2 = str (linesT (locT l) ++ (moreL k ++ moreL k)) := ⟨_, rfl⟩
 have e1 : T ++ M = T1 := by rw [hT, hM, hT1]; exact str_append _ _
 have e2 : T1 ++ M = T2 := by rw [hT1, hM, hT2, ← List.append_assoc]; exact str_append _ _
 have hTs : T.size = (linesT (locT l)).length := by rw [hT]; exact str_size _
 have hMs : M.size = (moreL k).length := by rw [hM]; exact str_size _
 have HG := Lib.hid hG
 have HN1 := Lib.hid hn1
 have HN2 := Lib.hid hn2
 have hpa : ∀ W, Gl W → Calls Tryz.prog 9 #[.string T2] W (fun e w' => ∃ v1 v2 v3 v4 lo, e = .returned (.tuple #[.agg #[v1, v2, v3, v4], .int .u16 (32 : Nat), .int .i64 (p : Nat)]) ∧ W.heap.size ≤ lo ∧ lo ≤ w'.heap.size ∧ LocAt w' lo v1 v2 v3 v4 noL ∧ Below W.heap.size W w') := by
  intro W hW
  have h := locParse_any T2 W hW
  rw [show T2.data.toList = linesT (locT l) ++ (moreL k ++ moreL k) by rw [hT2]; rfl, hp1] at h
  exact h
 obtain ⟨m2, hm2⟩ : ∃ m2 : Int, m2 = 2 * (M.size : Int) := ⟨_, rfl⟩
 obtain ⟨tm, htm⟩ : ∃ tm : Int, tm = (T.size : Int) + m2 := ⟨_, rfl⟩
 have x1 : IntKind.i64.wrap (2 * (M.size : Int)) = m2 := by rw [IntKind.wrap_i64]; omega
 have x2 : IntKind.i64.wrap ((T.size : Int) + m2) = tm := by rw [IntKind.wrap_i64]; omega
 have y1 : (T.size : Int) ≤ (p : Int) := by omega
 have y2 : (p : Int) < tm := by omega
 have k0 : (0 : Int) ≤ (k : Int) := by omega
 have k1 : (k : Int) < 3 := by omega
 have t0 : T.size ≤ 4000 := by omega
 have t1 : M.size ≤ 26 := by omega
 have t2 : T1.size ≤ 4100 := by rw [← e1, ByteArray.size_append]; omega
 have hmc := fun W => more_cell W 9 hk3
 rw [← hM] at hmc
 have HTT := Lib.hid hT
 clear hG w0 w1 hl hby hr hn1 hn2 hfew hmT hq hf1 hf2 hf3 hcost hp1 hp2 hp3 hml hT hM hT1 hT2 hTs hMs hm2 htm hk3
 go_enter Tryz.func4, Tryz.ntmps4
 go_wp2_with fail
 with_reducible refine hlc.mono ?_
 rintro e w2 ⟨v1, v2, v3, v4, rfl, hL, hb2⟩
 have hG2 := HG.out.next hb2
 have hR := LocR.of hL (fun c hc => by have := HN1.out c hc; unfold maxLen; omega) (fun c hc => by have := HN2.out c hc; unfold maxLen; omega)
 have hpt := locPrint_any w2 w2.heap.size _ _ _ _ l hR (Nat.le_refl _) hG2 (fun c hc => by have := HN1.out c hc; omega) (fun c hc => by have := HN2.out c hc; omega)
 rw [hpr] at hpt
 unfold PrintTold at hpt
 dsimp only at hpt
 rw [← HTT.out] at hpt
 have HG2 := Lib.hid hG2
 have HB2 := Lib.hid hb2
 clear hlc hb2 hL hR hG2
 go_wp2_with fail
 with_reducible refine hpt.mono ?_
 rintro e w3 ⟨rfl, hb3⟩
 obtain ⟨W3, hW3⟩ : ∃ W3, W3 = w3.alloc (.cells moreArr 9) := ⟨_, rfl⟩
 have hb3' : Below w3.heap.size w3 W3 := by rw [hW3]; exact (Below.refl _ _).alloc (Nat.le_refl _) _
 have hG3 := (HG2.out.next hb3).next hb3'
 have HB3 : Hid (Below w.heap.size w W3) := Lib.hid ((HB2.out.trans (hb3.mono HB2.out.size)).trans (hb3'.mono (Nat.le_trans HB2.out.size hb3.size)))
 have hm3 := hmc w3
 have hpe := locPrint_any W3 W3.heap.size _ _ _ _ noL (LocR.of (LocAt.nil W3 0) (by simp [noL]) (by simp [noL])) (Nat.le_refl _) hG3 (by simp [noL]) (by simp [noL])
 rw [print_none] at hpe
 have HG3 := Lib.hid hG3
 unfold moreArr at hW3 hm3
 clear hpt hb3 hb3' hmc hG3
 go_wp2_with fail
 rw [← hW3]
 clear hW3 hm3
 with_reducible refine hpe.mono ?_
 rintro e w4 ⟨rfl, hb4⟩
 have hG4 := HG3.out.next hb4
 have hpb := hpa w4 hG4.1
 have HB4 := Lib.hid (HB3.out.trans (hb4.mono HB3.out.size))
 have HG4 := Lib.hid hG4
 have z0 : str [] = (⟨#[]⟩ : ByteArray) := rfl
 rw [z0]
 clear hpe hb4 hpa hG4 z0
 go_wp2_with fail
 with_reducible refine hpb.mono ?_
 rintro e w5 ⟨u1, u2, u3, u4, lo, rfl, -, -, hL5, hb5⟩
 have hR5 := LocR.of hL5 (by simp [noL]) (by simp [noL])
 obtain ⟨⟨A1, c1, x1', rfl, -⟩, ⟨A2, c2, rfl, -⟩, ⟨A3, c3, rfl, -⟩, ⟨A4, c4, x4', rfl, -⟩, -⟩ := hR5
 simp only [noL, List.length_nil] at hL5 ⊢
 obtain ⟨W5, hW5⟩ : ∃ W5, W5 = w5.alloc (.cells #[.slice A1 0 c1, .slice A2 0 c2, .slice A3 0 c3, .slice A4 0 c4] 26) := ⟨_, rfl⟩
 have hb5' : Below w5.heap.size w5 W5 := by rw [hW5]; exact (Below.refl _ _).alloc (Nat.le_refl _) _
 have hkn := known07_any W5 ((HG4.out.next hb5).next hb5')
 have HB5 := Lib.hid ((HB4.out.trans (hb5.mono HB4.out.size)).trans (hb5'.mono (Nat.le_trans HB4.out.size hb5.size)))
 clear hpb hb5 hb5' hL5
 go_wp2_with fail
 rw [← hW5]
 clear hW5
 with_reducible refine hkn.mono ?_
 rintro e w6 ⟨rfl, hb6⟩
 have HB6 := Lib.hid (HB5.out.trans (hb6.mono HB5.out.size))
 clear hkn hb6
 go_wp2
 go_ret
 exact ⟨rfl, HB6.out⟩
end Go.Proofs.YthaibekbefndlaaGreatDoor.C
