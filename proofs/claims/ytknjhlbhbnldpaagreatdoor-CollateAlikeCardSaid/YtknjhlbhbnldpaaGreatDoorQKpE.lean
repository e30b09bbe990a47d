/-
  slices.Values at numbers: it tells a row's numbers, one behind the other. No condition.
-/
import Derived.Test.YtknjhlbhbnldpaaGreatDoorB20
import Derived.Test.YtknjhlbhbnldpaaGreatDoorB22
import Derived.Test.YtknjhlbhbnldpaaGreatDoorB24
namespace Go.Proofs.YtknjhlbhbnldpaaGreatDoor.C
open Go.RowKit Go.Shelf
attribute [local go_sem] Oper.semAt_some

set_option maxRecDepth 100000 in
set_option maxHeartbeats 4000000 in
theorem vs_in (n N : Nat) (hn : 1 ≤ n) (l Bs B : Nat) (ad : Addr) (c : Nat) (js : List Nat) (J Jx : List (PlN N) → World → Prop) (W : World) (hN : ∀ x ∈ js, x < N) (hm : js.length ≤ 1000)
  (hY : ∀ pre x W1, J pre W1 → pre.length < js.length → YieldAt Fence.wide (n - 1) Tryz.prog l (encN x) W1 fun e W' =>
   (e = .returned (.bool true) ∧ J (pre ++ [x]) W' ∧ Below B W1 W') ∨ (e = .returned (.bool false) ∧ Jx (pre ++ [x]) W'))
  (hs : W.cell? ⟨Bs, 0, none⟩ = some (.slice (some ad) js.length c)) (hc : ∀ (j x : Nat), js[j]? = some x → W.cell? (ad.add j) = some (.int .i64 (x : Int))) (hb : ad.block < B) (h0 : J [] W) :
  CallsIn Fence.wide n Tryz.prog 95 #[.func (.yield l) #[] #[], .pointer (some ⟨Bs, 0, none⟩)] W fun e W' => (∃ v, e = .returned v) ∧
   ((∃ ys, ys.map Subtype.val = js ∧ J ys W') ∨ (∃ pre, True ∧ Jx pre W')) := by
 have HC := Lib.hid hc
 have HN := Lib.hid hN
 clear hc hN
 refine callsIn_of_wp Tryz.func95 rfl trivial ?_ rfl
 simp only [Tryz.ntmps95, List.size_toArray, List.length_cons, List.length_nil, Nat.reduceAdd, Nat.reduceSub, Array.replicate_succ, Array.replicate_zero, List.push_toArray, List.append_toArray, List.nil_append, List.cons_append]
 gi_wp2
 gi_loopw [7] (fun v wr => ∃ k : Nat, k ≤ js.length ∧ v = .int .i64 (k : Int) ∧ (∃ pre, pre.map Subtype.val = js.take k ∧ J pre wr) ∧ Below B W wr) (fun v _ => js.length - (intOf v).toNat)
 case atStart => exact ⟨0, Nat.zero_le _, rfl, ⟨[], rfl, h0⟩, Below.refl _ _⟩
 case round =>
  obtain ⟨k, hk, rfl, ⟨pre, hpre, hJ⟩, hbw⟩ := hrel
  by_cases hlt : k < js.length
  ·have hlt' : (k : Int) < (js.length : Int) := by omega
   have h0' : (0 : Int) ≤ (k : Int) := by omega
   obtain ⟨x, hx⟩ : ∃ x, js[k]? = some x := ⟨_, List.getElem?_eq_getElem hlt⟩
   have hf : wr.cell? (ad.add k) = some (.int .i64 (x : Int)) := (hbw.cell (p := ad.add k) (by rw [block_of_add]; exact hb)).trans (HC.out k x hx)
   obtain ⟨fn, tmps, assign, body, hy, hR⟩ := hY pre ⟨x, HN.out x (List.mem_of_getElem? hx)⟩ wr hJ (by have := congrArg List.length hpre; rw [List.length_map, List.length_take] at this; omega)
   unfold encN at hy
   gi_wp2
   refine hR.mono ?_
   rintro e W3 (⟨rfl, hJ3, hk3⟩ | ⟨rfl, hJx3⟩)
   ·gi_wp2
    go_roundw
    case rel => exact ⟨k + 1, by omega, by go_num, ⟨_, by rw [List.map_append, hpre, take_one hx]; rfl, hJ3⟩, hbw.trans hk3⟩
    case measure => simp [intOf]; omega
   ·gi_wp2
    refine bodyPost_ret (results_none rfl _ _ _) rfl ?_
    exact ⟨⟨_, rfl⟩, .inr ⟨_, trivial, hJx3⟩⟩
  ·obtain rfl : k = js.length := by omega
   gi_wp2
   go_end0
   exact ⟨⟨_, rfl⟩, .inl ⟨_, by rw [hpre, List.take_length], hJ⟩⟩
theorem vs_stops (n N : Nat) (hn : 1 ≤ n) (Bs B : Nat) (ad : Addr) (c : Nat) (js : List Nat) (w : World) (hN : ∀ x ∈ js, x < N) (hm : js.length ≤ 1000) (hs : w.cell? ⟨Bs, 0, none⟩ = some (.slice (some ad) js.length c)) (hc : ∀ (j x : Nat), js[j]? = some x → w.cell? (ad.add j) = some (.int .i64 (x : Int))) (hb : ad.block < B) :
  SeqStopsK Fence.wide n Tryz.prog 95 #[.pointer (some ⟨Bs, 0, none⟩)] (encN (N := N)) (Below B) (fun ys => ys.map Subtype.val = js) (fun _ => True) js.length w := fun l J Jx W hW _ _ hY h0 =>
 vs_in n N hn l Bs B ad c js J Jx W hN hm hY (belowS_cell hW hs) (fun j x hx => belowS_cell hW (hc j x hx)) hb h0
set_option maxRecDepth 100000 in
theorem values_any (A : Option Addr) (n c : Nat) (w : World) : Calls Tryz.prog 65 #[.slice A n c] w fun e w' => e = .returned (.func (.func 95) #[] #[.pointer (some ⟨w.heap.size, 0, none⟩)]) ∧ w' = (w.alloc (.cells #[.slice A n c] 143)) := by
 have hmf : ∀ (fn : Fn) (first cap : Array Value) (w : World), (Instr.makeFunc fn first cap).run Tryz.prog w = .ok (.func fn first cap) w := fun _ _ _ _ => rfl
 go_enter Tryz.func65, Tryz.ntmps65
 go_wp2
 go_ret
 exact ⟨rfl, rfl⟩
end Go.Proofs.YtknjhlbhbnldpaaGreatDoor.C
