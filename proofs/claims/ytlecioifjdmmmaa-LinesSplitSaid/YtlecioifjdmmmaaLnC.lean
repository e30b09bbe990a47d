/-
  Contracts of lines.each and of the iterator that it makes: the lines of a text, one behind the other; nothing that was there changes.
-/
import Derived.Test.YtlecioifjdmmmaaLnB
import Derived.RangeFuncNested
import Derived.RangeFuncBound
import Derived.RangeFuncCalls
import Derived.RangeFuncLeaves
import Derived.Shelf.Abstract
import Derived.Shelf.RegionOpen
import Derived.OwnWalkIn
import Derived.TacticsInMore
import Derived.LoopNIn
import Derived.LoopIn
namespace Go.Proofs.Ytlecioifjdmmmaa.C
open Go.RowKit Go.Shelf
attribute [local go_sem] Oper.semAt_some

/-- a line as the iterator tells it: a part of the text's own memory -/
structure Ln (w : World) (B M : Nat) where
  A : Option Addr
  n : Nat
  c : Nat
  b : Bool
  zs : List Int
  ri : RI .i32 w B A n zs
  nc : n ≤ c
  cm : c ≤ maxLen
  nm : n ≤ M
def Ln.pl {w : World} {B M : Nat} (x : Ln w B M) : List Int × Bool := (x.zs, x.b)
def Ln.enc {w : World} {B M : Nat} (x : Ln w B M) : Array Value := #[.agg #[.slice x.A x.n x.c, .bool x.b]]

set_option maxHeartbeats 400000 in
theorem each_any (w : World) (A : Option Addr) (n c : Nat) :
    Calls Try.prog 17 #[.slice A n c] w fun e w' => e = .returned (.func (.func 22) #[] #[.pointer (some ⟨w.heap.size, 0, none⟩)]) ∧ w' = w.alloc (.cells #[.slice A n c] 23) := by
  have hmf : ∀ (fn : Fn) (first cap : Array Value) (w : World), (Instr.makeFunc fn first cap).run Try.prog w = .ok (.func fn first cap) w := fun _ _ _ _ => rfl
  go_enter Try.func17, Try.ntmps17
  go_wp2
  go_ret
  exact ⟨rfl, rfl⟩

theorem below_grown {w w' : World} (h : Below w.heap.size w w') : w.grownBy w' none := ⟨h.os, h.tape, h.output, h.size, fun k hk _ => h.block k hk⟩

set_option maxRecDepth 100000 in
set_option maxHeartbeats 2000000 in
theorem each1_in (n : Nat) (hn : 1 ≤ n) (l Bs B : Nat) (w0 : World) (A : Option Addr) (m c : Nat) (zs : List Int) (hx : RI .i32 w0 B A m zs) (hmc : m ≤ c) (hc : c ≤ maxLen) (J Jx : List (Ln w0 B m) → World → Prop) (W : World)
    (hJ : AbidesFrom W.heap.size J) (hbB : Below B w0 W) (hB : B ≤ w0.heap.size)
    (hY : ∀ pre x W1, J pre W1 → pre.length < m → YieldAt Fence.wide (n - 1) Try.prog l (Ln.enc x) W1 fun e W' =>
      (e = .returned (.bool true) ∧ J (pre ++ [x]) W' ∧ Below B W1 W') ∨ (e = .returned (.bool false) ∧ Jx (pre ++ [x]) W'))
    (hBs : W.cell? ⟨Bs, 0, none⟩ = some (.slice A m c)) (h0 : J [] W) :
    CallsIn Fence.wide n Try.prog 22 #[.func (.yield l) #[] #[], .pointer (some ⟨Bs, 0, none⟩)] W fun e W' => (∃ v, e = .returned v) ∧
      ((∃ ys, ys.map Ln.pl = splitL zs ∧ J ys W') ∨ (∃ pre, (∃ post, splitL zs = pre.map Ln.pl ++ post) ∧ Jx pre W')) := by
  have HX := Lib.hid hx
  clear hx
  refine callsIn_of_wp Try.func22 rfl trivial ?_ rfl
  simp only [Try.ntmps22, List.size_toArray, List.length_cons, List.length_nil, Nat.reduceAdd, Nat.reduceSub, Array.replicate_succ, Array.replicate_zero, List.push_toArray, List.append_toArray, List.nil_append, List.cons_append]
  gi_wp2
  gi_loopw [3] (fun v wr => ∃ (pre : List (Ln w0 B m)) (A' : Option Addr) (k c' : Nat) (zs' : List Int), v = .slice A' k c' ∧ k ≤ c' ∧ c' ≤ maxLen ∧ Hid (RI .i32 w0 B A' k zs') ∧ Hid (pre.map Ln.pl ++ splitL zs' = splitL zs) ∧ pre.length + k ≤ m ∧ J pre wr ∧ Below B w0 wr)
    (fun v _ => lenV v)
  case atStart => exact ⟨[], A, m, c, zs, rfl, hmc, hc, HX.out, rfl, by simp, h0, hbB⟩
  case round =>
    obtain ⟨pre, A', k, c', zs', rfl, hkc, hc', HR, HS, hpk, hJs, hbr⟩ := hrel
    by_cases hk : 0 < k
    · have hbs := hbr.size
      have hlen := HR.out.len
      gi_wp2_with fail
      refine ⟨trivial, (callsIn_wide.2 (first_any wr B A' k c' zs' (HR.out.below hbr) (by omega) hk hkc hc')).mono ?_⟩
      rintro e w3 ⟨hb3, ⟨hat, rfl⟩ | ⟨hat, rfl⟩⟩
      · have hJ4 : ∀ o, J pre (w3.alloc o) := fun o => hJ pre wr _ none hJs ((below_grown hb3).trans (World.grownBy_alloc w3 o none)) (fun r e => by cases e)
        have hs3 := hb3.size
        have hbr4 : ∀ o, Below B w0 (w3.alloc o) := fun o => (hbr.trans (hb3.mono (by omega))).alloc (by omega) o
        obtain ⟨q, hq⟩ : ∃ q, at10 zs' = q := ⟨_, rfl⟩
        have HQ := Lib.hid hq
        have hqk : q < k := by omega
        rw [hq]
        have hri : RI .i32 w0 B A' q (zs'.take q) := HR.out.front (by omega)
        have hrb : RI .i32 w0 B (adrB A' c' (q + 1)) (k - (q + 1)) (zs'.drop (q + 1)) := HR.out.behind (by omega) hkc
        have hsp : splitL zs' = (zs'.take q, true) :: splitL (zs'.drop (q + 1)) := by
          have := splitL_at (zs := zs') (by omega)
          rwa [hq] at this
        obtain ⟨x, hxe, hxp⟩ : ∃ x : Ln w0 B m, x.enc = #[.agg #[.slice A' q c', .bool true]] ∧ x.pl = (zs'.take q, true) := ⟨⟨A', q, c', true, zs'.take q, hri, by omega, hc', by omega⟩, rfl, rfl⟩
        obtain ⟨fn, tmps, assign, body, hy, hR⟩ := hY pre x _ (hJ4 (.cells #[.slice A' q c', .bool true] 32)) (by omega)
        rw [hxe] at hy
        have HXP := Lib.hid hxp
        clear hxp
        have HRB := Lib.hid hrb
        have HSP := Lib.hid hsp
        clear hq hat hri hrb hsp
        generalize adrB A' c' (q + 1) = A2 at *
        gi_wp2
        refine hR.mono ?_
        rintro e W3 (⟨rfl, hJ3, hk3⟩ | ⟨rfl, hJx3⟩)
        · gi_wp2
          have hst : Hid ((pre ++ [x]).map Ln.pl ++ splitL (zs'.drop (q + 1)) = splitL zs) := by
            have h1 := HS.out
            rw [HSP.out, ← HXP.out] at h1
            simpa [Hid] using h1
          have hbe : Below B w0 W3 := (hbr4 _).trans hk3
          go_roundw
          case rel => exact ⟨pre ++ [x], A2, k - (q + 1), c' - (q + 1), _, rfl, by omega, by omega, HRB.out, hst, by simp; omega, hJ3, hbe⟩
          case measure => simp [lenV]; omega
        · gi_wp2
          refine bodyPost_ret (results_none rfl _ _ _) rfl ?_
          exact ⟨⟨_, rfl⟩, .inr ⟨pre ++ [x], ⟨splitL (zs'.drop (q + 1)), by rw [← HS.out, HSP.out, ← HXP.out]; simp⟩, hJx3⟩⟩
      · have hJ4 : ∀ o, J pre (w3.alloc o) := fun o => hJ pre wr _ none hJs ((below_grown hb3).trans (World.grownBy_alloc w3 o none)) (fun r e => by cases e)
        have hs3 := hb3.size
        have hbr4 : ∀ o, Below B w0 (w3.alloc o) := fun o => (hbr.trans (hb3.mono (by omega))).alloc (by omega) o
        have hsp : splitL zs' = [(zs', false)] := splitL_miss (at10_all (by omega)) (fun h => by rw [h] at hlen; simp at hlen; omega)
        obtain ⟨x, hxe, hxp⟩ : ∃ x : Ln w0 B m, x.enc = #[.agg #[.slice A' k c', .bool false]] ∧ x.pl = (zs', false) := ⟨⟨A', k, c', false, zs', HR.out, by omega, hc', by omega⟩, rfl, rfl⟩
        obtain ⟨fn, tmps, assign, body, hy, hR⟩ := hY pre x _ (hJ4 (.cells #[.slice A' k c', .bool false] 32)) (by omega)
        rw [hxe] at hy
        have HXP := Lib.hid hxp
        have HSP := Lib.hid hsp
        clear hat hsp hxp
        gi_wp2
        refine hR.mono ?_
        rintro e W3 (⟨rfl, hJ3, hk3⟩ | ⟨rfl, hJx3⟩)
        · gi_wp2
          have hst : Hid ((pre ++ [x]).map Ln.pl ++ splitL [] = splitL zs) := by
            have h1 := HS.out
            rw [HSP.out, ← HXP.out] at h1
            simpa [Hid, splitL] using h1
          have hbe : Below B w0 W3 := (hbr4 _).trans hk3
          go_roundw
          case rel => exact ⟨pre ++ [x], none, 0, 0, [], rfl, by omega, by unfold maxLen; omega, RI.none_, hst, by simp; omega, hJ3, hbe⟩
          case measure => simp [lenV]; omega
        · gi_wp2
          refine bodyPost_ret (results_none rfl _ _ _) rfl ?_
          exact ⟨⟨_, rfl⟩, .inr ⟨pre ++ [x], ⟨[], by rw [← HS.out, HSP.out, ← HXP.out]; simp⟩, hJx3⟩⟩
    · obtain rfl : k = 0 := by omega
      have hz : zs' = [] := List.eq_nil_of_length_eq_zero HR.out.len
      subst hz
      gi_wp2
      go_end0
      exact ⟨⟨_, rfl⟩, .inl ⟨pre, by have := HS.out; simpa [splitL] using this, hJs⟩⟩
end Go.Proofs.Ytlecioifjdmmmaa.C
