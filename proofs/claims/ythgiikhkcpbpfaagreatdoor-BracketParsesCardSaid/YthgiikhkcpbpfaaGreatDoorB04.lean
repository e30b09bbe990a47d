/-
  Joined: MLxH, LcJ, KoA, LcN, LdJ, LdR, MCellG, LawKit, MUtfS. Each with what its own head says.
-/
import Derived.Lib.SmallJoins
import Derived.Tactics2
import Derived.Laws.Pointers
import Derived.Laws.LoneSync
import Derived.RegionCalls
import Derived.ChangeAlike
import Derived.Laws.BitsLemmas
import Derived.Lib.Slices
import Derived.Laws.Strings3
import Derived.Laws.RangeString
import Derived.Laws.RangeAny
import Derived.Test.YthgiikhkcpbpfaaGreatDoorRows
import Derived.OpenShut
import Derived.ShutString
import Derived.ChangeOld
import Derived.Carry
import Derived.Deep.DeepHandedRow
import Derived.Lib.LaidTab
import Derived.Stop.LaidErr
import Derived.LaidLaws
import Derived.Lay
import Derived.Laws.Concat
import Derived.Test.YthgiikhkcpbpfaaGreatDoorB03


namespace Go.Proofs.YthgiikhkcpbpfaaGreatDoor.C
open Go.RowKit
set_option maxHeartbeats 1000000 in
theorem tz64_16 (w : World) (h : w.cell? ⟨5, 15, none⟩ = some (.int .u8 4)) : Calls Tryz.prog 266 #[.int .u64 16] w fun e w' => e = .returned (.int .i64 4) ∧ w = w' := by
 have key : IntKind.u64.wrap (bits BinOp.and IntKind.u64 16 (IntKind.u64.wrap (-16)) * 285870213051353865) / 288230376151711744 = 15 := by decide +kernel
 go_enter Tryz.func266, Tryz.ntmps266
 go_wp2_with (simp only [key])
 all_goals go_ret
 all_goals exact ⟨rfl, rfl⟩
set_option maxHeartbeats 1000000 in
theorem isPow_16 (w : World) : Calls Tryz.prog 255 #[.int .i64 16] w fun e w' => e = .returned (.bool true) ∧ w = w' := by
 go_enter Tryz.func255, Tryz.ntmps255
 go_wp2
 all_goals go_ret
 all_goals exact ⟨rfl, rfl⟩
set_option maxHeartbeats 1000000 in
theorem tz_16 (w : World) (h : w.cell? ⟨5, 15, none⟩ = some (.int .u8 4)) : Calls Tryz.prog 256 #[.int .u64 16] w fun e w' => e = .returned (.int .i64 4) ∧ w = w' := by
 go_enter Tryz.func256, Tryz.ntmps256
 go_wp2_with fail
 refine (tz64_16 w h).mono ?_
 rintro e w' ⟨rfl, rfl⟩
 go_wp2
 all_goals go_ret
 all_goals exact ⟨rfl, rfl⟩
def zeros65 : Array Value := (Lib.byteCells (List.replicate 65 0)).toArray
theorem zeroArray (w : World) : (zeroValue 327).run Tryz.prog w = .ok (.agg zeros65) w := by kernel_rfl
def Digits (w : World) (g k : Nat) (d : List UInt8) : Prop := ∃ z : List UInt8, z.length = k ∧ w.heap[g]? = some (.cells (Lib.byteCells (z ++ d)).toArray 327 (0, 0))
theorem digits_start (w : World) : Digits (w.alloc (.cells zeros65 327)) w.heap.size 65 [] :=
 ⟨List.replicate 65 0, by simp, by rw [List.append_nil]; exact heap_alloc_new w _⟩
theorem digits_cell {w : World} {g k : Nat} {d : List UInt8} (h : Digits w g (k + 1) d) : ∃ x, w.cell? ⟨g, k, none⟩ = some (.int .u8 x) := by
 obtain ⟨z, hz, hg⟩ := h
 have hk : k < (z ++ d).length := by simp; omega
 refine ⟨((z ++ d)[k]).toNat, ?_⟩
 rw [cell_of_row w g k _ _ _ hg]
 simp only [Lib.byteCells, List.getElem?_toArray, List.getElem?_map, List.getElem?_eq_getElem hk, Option.map_some]
theorem digits_frozen {w : World} {g k : Nat} {d : List UInt8} (h : Digits w g (k + 1) d) : w.frozen? ⟨g, k, none⟩ = false := by
 obtain ⟨z, hz, hg⟩ := h
 simp [World.frozen?, hg]
theorem digits_set {w : World} {g k : Nat} {d : List UInt8} (h : Digits w g (k + 1) d) (c : UInt8) : Digits (w.setCell ⟨g, k, none⟩ (.int .u8 c.toNat)) g k (c :: d) := by
 obtain ⟨z, hz, hg⟩ := h
 refine ⟨z.take k, by simp; omega, ?_⟩
 simp only [World.setCell, Array.getElem?_modify, hg]
 simp only [if_true, Option.map_some, Option.some.injEq, Obj.cells.injEq, and_true]
 simp only [Lib.byteCells, List.setIfInBounds_toArray]
 congr 1
 rw [← List.map_set (f := fun b : UInt8 => Value.int .u8 b.toNat)]
 congr 1
 obtain ⟨z', y, rfl⟩ : ∃ z' y, z = z' ++ [y] := ⟨z.dropLast, z.getLast (by intro e; subst e; simp at hz), (List.dropLast_concat_getLast _).symm⟩
 simp at hz
 subst hz
 simp
theorem digits_cells {w : World} {g k : Nat} {d : List UInt8} (h : Digits w g k d) : ∀ j u, (Lib.byteCells d)[j]? = some u → w.cell? ((⟨g, k, none⟩ : Addr).add j) = some u := by
 obtain ⟨z, hz, hg⟩ := h
 intro j u hu
 have e : (⟨g, k, none⟩ : Addr).add j = ⟨g, k + j, none⟩ := by
  unfold Addr.add; split
  ·subst_vars; rfl
  ·rfl
 rw [e, cell_of_row w g (k + j) _ _ _ hg, ← hu]
 simp only [Lib.byteCells, List.map_append, List.getElem?_toArray]
 rw [List.getElem?_append_right (by simp; omega)]
 simp [hz]
theorem dig_at : ∀ (x : Nat) (h : x < (ByteArray.mk #[48, 49, 50, 51, 52, 53, 54, 55, 56, 57, 97, 98, 99, 100, 101, 102, 103, 104, 105, 106, 107, 108, 109, 110, 111, 112, 113, 114, 115, 116, 117, 118, 119, 120, 121, 122]).size), x < 16 → (ByteArray.mk #[48, 49, 50, 51, 52, 53, 54, 55, 56, 57, 97, 98, 99, 100, 101, 102, 103, 104, 105, 106, 107, 108, 109, 110, 111, 112, 113, 114, 115, 116, 117, 118, 119, 120, 121, 122])[x]'h = dig x
 | 0, _, _ => rfl
 | 1, _, _ => rfl
 | 2, _, _ => rfl
 | 3, _, _ => rfl
 | 4, _, _ => rfl
 | 5, _, _ => rfl
 | 6, _, _ => rfl
 | 7, _, _ => rfl
 | 8, _, _ => rfl
 | 9, _, _ => rfl
 | 10, _, _ => rfl
 | 11, _, _ => rfl
 | 12, _, _ => rfl
 | 13, _, _ => rfl
 | 14, _, _ => rfl
 | 15, _, _ => rfl
 | (x + 16), _, h => absurd h (by omega)
theorem and15 (u : Nat) (h : u < 18446744073709551616) : bits BinOp.and IntKind.u64 (u : Int) 15 = ((u % 16 : Nat) : Int) := by
 have := bits_and_u64_nat u 15 h (by omega)
 rw [show ((15 : Nat) : Int) = 15 from rfl] at this
 rw [this]
 have e : u &&& 15 = u % 16 := Nat.and_two_pow_sub_one_eq_mod u 4
 rw [e]
theorem arrayLen65 : Tryz.prog.arrayLen 327 = 65 := by kernel_rfl
theorem elem65 : Tryz.prog.elem 327 = 5 := by kernel_rfl
theorem under65 : Tryz.prog.underlying 327 = some (.array (Tryz.prog.arrayLen 327) (Tryz.prog.elem 327)) := by kernel_rfl
theorem sizeOf5 (W : World) : (sizeOf 5).run Tryz.prog W = .ok 1 W := by kernel_rfl
theorem slice65 (g k : Nat) (hk : k < 65) (W : World) : (Instr.sliceAt 327 (.pointer (some ⟨g, 0, none⟩)) (some (.int .i64 k)) none none).run Tryz.prog W = .ok (.slice (some ⟨g, k, none⟩) (65 - k) (65 - k)) W := by
 rw [run_sliceAt_array_l W 327 ⟨g, 0, none⟩ under65 .i64 k (by omega) (by rw [arrayLen65]; omega), elem65, sizeOf5, arrayLen65]
 simp only [Result.andThen, slicedAt, Int.toNat_natCast]
 rw [if_neg (by omega)]
 congr 3
 unfold Addr.add
 split <;> simp_all
end Go.Proofs.YthgiikhkcpbpfaaGreatDoor.C


namespace Go.Proofs.YthgiikhkcpbpfaaGreatDoor.C
open Go.RowKit
structure Fr (w w' : World) (X : Nat → Prop) : Prop where
 os : w'.os = w.os
 tape : w'.tape = w.tape
 output : w'.output = w.output
 size : w.heap.size ≤ w'.heap.size
 block : ∀ b, b < w.heap.size → ¬ X b → w'.heap[b]? = w.heap[b]?
section
variable {a b c w w' : World} {X Y : Nat → Prop}
theorem Fr.of_moved {R : Nat} (h : Moved w w' R) : Fr w w' (· = R) := ⟨h.os, h.tape, h.output, h.size, fun j hj hn => h.block j hj (fun e => hn (by injection e))⟩
theorem Fr.of_grown {row : Option Nat} (h : w.grownBy w' row) : Fr w w' (fun j => row = some j) := ⟨h.os, h.tape, h.output, h.size, fun j hj hn => h.block j hj (fun e => hn e.symm)⟩
theorem Fr.of_below (h : Below w.heap.size w w') : Fr w w' X := ⟨h.os, h.tape, h.output, h.size, fun j hj _ => h.block j hj⟩
theorem Fr.trans (h : Fr a b X) (k : Fr b c X) : Fr a c X := ⟨k.os.trans h.os, k.tape.trans h.tape, k.output.trans h.output, Nat.le_trans h.size k.size, fun j hj hn => (k.block j (Nat.lt_of_lt_of_le hj h.size) hn).trans (h.block j hj hn)⟩
theorem Fr.mono (h : Fr a b X) (hX : ∀ j, j < a.heap.size → X j → Y j) : Fr a b Y := ⟨h.os, h.tape, h.output, h.size, fun j hj hn => h.block j hj (fun hx => hn (hX j hj hx))⟩
theorem Fr.next (h : Fr a b X) (k : Fr b c Y) (hY : ∀ j, j < a.heap.size → Y j → X j) : Fr a c X := ⟨k.os.trans h.os, k.tape.trans h.tape, k.output.trans h.output, Nat.le_trans h.size k.size, fun j hj hn => (k.block j (Nat.lt_of_lt_of_le hj h.size) (fun hy => hn (hY j hj hy))).trans (h.block j hj hn)⟩
theorem Fr.alloc (h : Fr a b X) (o : Obj) : Fr a (b.alloc o) X := h.trans (.of_below ((Below.refl _ _).alloc (Nat.le_refl _) o))
theorem Fr.drew (h : Fr a b X) : Fr a b.drew X := ⟨h.os, h.tape, h.output, h.size, h.block⟩
theorem Fr.set (h : Fr a b X) (p : Addr) (u : Value) (hp : p.block < a.heap.size → X p.block) : Fr a (b.setCell p u) X :=
 ⟨h.os, h.tape, h.output, by simpa [World.setCell] using h.size, fun j hj hn => (Below.heap_setCell b p u j (fun e => hn (e ▸ hp (e ▸ hj)))).trans (h.block j hj hn)⟩
theorem Fr.below {B : Nat} (h : Fr a b X) (hX : ∀ j, j < a.heap.size → X j → B ≤ j) (hB : B ≤ a.heap.size) : Below B a b := ⟨h.os, h.tape, h.output, h.size, fun j hj => h.block j (by omega) (fun hx => by have := hX j (by omega) hx; omega)⟩
theorem ownsRow_fr {base size n : Nat} {e : TypeId} {v : Value} {xs : List Value} (h : w.ownsRow base e size v n xs) (hf : Fr w w' X) (hx : ∀ g, v.ownBlock = some g → ¬ X g) : w'.ownsRow base e size v n xs := by
 have hl := h.lt
 obtain ⟨h1, h2⟩ := h
 refine ⟨h1, h2.imp id ?_⟩
 rintro ⟨g, cap, cur, rfl, hg, hh, r⟩
 exact ⟨g, cap, cur, rfl, hg, (hf.block g (hl g rfl).2 (hx g rfl)).trans hh, r⟩
theorem One.fr {j : Nat} {t : TypeId} {v : Value} (h : One w j t v) (hf : Fr w w' X) (hx : ¬ X j) : One w' j t v := (hf.block j h.lt hx).trans h
theorem Two.fr {j : Nat} {t : TypeId} {u v : Value} (h : Two w j t u v) (hf : Fr w w' X) (hx : ¬ X j) : Two w' j t u v := (hf.block j h.lt hx).trans h
theorem One.drew {j : Nat} {t : TypeId} {v : Value} (h : One w j t v) : One w.drew j t v := h
theorem MapIs.fr {M : Nat} {kd : TypeDesc} {l : List (Value × Value)} (h : MapIs w M kd l) (hf : Fr w w' X) (hx : ¬ X M) : MapIs w' M kd l := h.at_ (hf.block M h.lt hx)
theorem FT.lt {t : TypeId} {kd : TypeDesc} {A M : Nat} {keys : List Value} (h : FT w t kd A M keys) : A < w.heap.size := (Array.getElem?_eq_some_iff.1 h.1).1
theorem FT.fr {t : TypeId} {kd : TypeDesc} {A M : Nat} {keys : List Value} (h : FT w t kd A M keys) (hf : Fr w w' X) (hA : ¬ X A) (hM : ¬ X M) : FT w' t kd A M keys := h.next (hf.block A h.lt hA) (hf.block M h.2.lt hM)
end
theorem set_row {w : World} {R i : Nat} {l : List Value} {t : TypeId} (h : w.heap[R]? = some (.cells l.toArray t (0, 0))) (u : Value) : (w.setCell ⟨R, i, none⟩ u).heap[R]? = some (.cells (l.set i u).toArray t (0, 0)) := by
 obtain ⟨hlt, hk⟩ := Array.getElem?_eq_some_iff.1 h
 show (w.heap.modify R _)[R]? = _
 rw [Array.getElem?_eq_getElem (by rw [Array.size_modify]; exact hlt), Array.getElem_modify_self, hk]
 simp
def clsC (cs : List Cls) (vs : List Value) : List Value := (cs.zip vs).flatMap fun x => [.string (str x.1.name), x.2]
theorem clsC_snoc {cs : List Cls} {vs : List Value} (h : vs.length = cs.length) (c : Cls) (v : Value) : clsC (cs ++ [c]) (vs ++ [v]) = clsC cs vs ++ [.string (str c.name), v] := by
 unfold clsC
 rw [List.zip_append h.symm]
 simp
def ClsAt (w : World) (lo : Nat) (v : Value) (cs : List Cls) : Prop :=
 ∃ vs : List Value, vs.length = cs.length ∧ w.ownsRow lo 79 2 v cs.length (clsC cs vs) ∧ ∀ (i : Nat) (c : Cls) (x : Value), cs[i]? = some c → vs[i]? = some x → w.ownsRow lo 46 2 x c.rs.length (prsC c.rs)
theorem ClsAt.nil (w : World) (lo : Nat) : ClsAt w lo (.slice none 0 0) [] := ⟨[], rfl, ⟨rfl, .inl ⟨rfl, rfl⟩⟩, by simp⟩
theorem ownsRow_ty {w : World} {base size n : Nat} {e : TypeId} {v : Value} {xs : List Value} (h : w.ownsRow base e size v n xs) {g : Nat} (hg : v.ownBlock = some g) : ∃ c, w.heap[g]? = some (.cells c e (0, 0)) := by
 rcases h.2 with ⟨rfl, _⟩ | ⟨g', cap, cur, rfl, _, hh, _⟩
 ·cases hg
 ·injection hg with hg
  subst hg
  exact ⟨cur, hh⟩
theorem ClsAt.fr {w w' : World} {X : Nat → Prop} {lo : Nat} {v : Value} {cs : List Cls} (h : ClsAt w lo v cs) (hf : Fr w w' X) (hx : ∀ g c z t, X g → w.heap[g]? = some (.cells c t z) → t ≠ 79 ∧ t ≠ 46) : ClsAt w' lo v cs := by
 obtain ⟨vs, h1, h2, h3⟩ := h
 refine ⟨vs, h1, ownsRow_fr h2 hf ?_, fun i c x hc hv => ownsRow_fr (h3 i c x hc hv) hf ?_⟩
 ·intro g hg hX
  obtain ⟨c, hc⟩ := ownsRow_ty h2 hg
  exact (hx g _ _ _ hX hc).1 rfl
 ·intro g hg hX
  obtain ⟨c, hc⟩ := ownsRow_ty (h3 i c x hc hv) hg
  exact (hx g _ _ _ hX hc).2 rfl
theorem ClsAt.next {w w' : World} {lo : Nat} {v : Value} {cs : List Cls} (h : ClsAt w lo v cs) (hb : Below w.heap.size w w') : ClsAt w' lo v cs := h.fr (X := fun _ => False) (.of_below hb) (by rintro _ _ _ _ ⟨⟩)
theorem ClsAt.snoc {w w' : World} {lo g cap : Nat} {v x : Value} {cs : List Cls} {vs : List Value} (c : Cls) (h1 : vs.length = cs.length) (h2 : w.ownsRow lo 79 2 v cs.length (clsC cs vs)) (h3 : ∀ (i : Nat) (c : Cls) (x : Value), cs[i]? = some c → vs[i]? = some x → w.ownsRow lo 46 2 x c.rs.length (prsC c.rs))
  (hx : w.ownsRow lo 46 2 x c.rs.length (prsC c.rs))
  (hg : w.grownBy w' v.ownBlock) (ho : w'.ownsRow lo 79 2 (.slice (some ⟨g, 0, none⟩) (cs.length + 1) cap) (cs.length + 1) (clsC cs vs ++ [.string (str c.name), x])) :
  ClsAt w' lo (.slice (some ⟨g, 0, none⟩) (cs.length + 1) cap) (cs ++ [c]) := by
 have key : ∀ {n : Nat} {u : Value} {xs : List Value}, w.ownsRow lo 46 2 u n xs → w'.ownsRow lo 46 2 u n xs := fun hu => hu.kept hg (by
  rcases hb : (Value.ownBlock _) with _ | g1
  ·exact .inl rfl
  ·refine .inr fun e => ?_
   obtain ⟨c1, hc1⟩ := ownsRow_ty hu hb
   obtain ⟨c2, hc2⟩ := ownsRow_ty h2 e.symm
   rw [hc1] at hc2
   injection hc2 with hc2
   injection hc2 with _ hc2
   cases hc2)
 refine ⟨vs ++ [x], by simp [h1], by rw [clsC_snoc h1, List.length_append]; exact ho, ?_⟩
 intro i d y hd hy
 rcases Nat.lt_or_ge i cs.length with hi | hi
 ·rw [List.getElem?_append_left hi] at hd
  rw [List.getElem?_append_left (by omega)] at hy
  exact key (h3 i d y hd hy)
 ·rw [List.getElem?_append_right hi] at hd
  rw [List.getElem?_append_right (by omega), h1] at hy
  have e0 : i - cs.length = 0 := by
   rcases hq : i - cs.length with _ | q
   ·rfl
   ·rw [hq] at hd
    simp at hd
  rw [e0] at hd hy
  simp at hd hy
  subst hd hy
  exact key hx
end Go.Proofs.YthgiikhkcpbpfaaGreatDoor.C


namespace Go.Proofs.YthgiikhkcpbpfaaGreatDoor.C
open Go.RowKit
def Row (w : World) (T : Nat) (t : TypeId) (l : List Value) : Prop := w.heap[T]? = some (.cells l.toArray t (0, 0))
section
variable {w w' : World} {T : Nat} {t : TypeId} {l : List Value}
theorem Row.lt (h : Row w T t l) : T < w.heap.size := (Array.getElem?_eq_some_iff.1 h).1
theorem Row.cell (h : Row w T t l) {i : Nat} {v : Value} (hi : l[i]? = some v) : w.cell? ⟨T, i, none⟩ = some v := by simp [World.cell?, show w.heap[T]? = _ from h, hi]
theorem Row.frozen (h : Row w T t l) (i : Nat) : w.frozen? ⟨T, i, none⟩ = false := by simp [World.frozen?, show w.heap[T]? = _ from h]
theorem Row.set (h : Row w T t l) (i : Nat) (u : Value) : Row (w.setCell ⟨T, i, none⟩ u) T t (l.set i u) := set_row h u
theorem Row.drew (h : Row w T t l) : Row w.drew T t l := h
theorem Row.alloc (h : Row w T t l) (o : Obj) : Row (w.alloc o) T t l := (heap_lt _ _ h.lt).trans h
theorem Row.fr {X : Nat → Prop} (h : Row w T t l) (hf : Fr w w' X) (hx : ¬ X T) : Row w' T t l := (hf.block T h.lt hx).trans h
theorem Row.below (h : Row w T t l) (hb : Below w.heap.size w w') : Row w' T t l := (hb.block T h.lt).trans h
theorem Fr.refl (w : World) (X : Nat → Prop) : Fr w w X := .of_below (Below.refl _ _)
theorem Fr.setT {a b : World} {T : Nat} (h : Fr a b (· = T)) (i : Nat) (u : Value) : Fr a (b.setCell ⟨T, i, none⟩ u) (· = T) := h.set _ _ fun _ => rfl
end
theorem set_eq {l : List Value} {i : Nat} {u v : Value} (h : l[i]? = some v) : (l.set i u)[i]? = some u := by
 rw [List.getElem?_set_self (List.getElem?_eq_some_iff.1 h).1]
theorem set_ne {l : List Value} {i j : Nat} {u : Value} (h : i ≠ j) : (l.set i u)[j]? = l[j]? := by
 rw [List.getElem?_set_ne h]
theorem run_enter {P : Program} {f : FuncId} {fn : Func} {c : Code} (hf : P.funcs[f]? = some fn) (hname : (fn.name == "runtime.NumGoroutine") = false) (hb : fn.body = some c) (args : Array Value) (w : World) : (callFunc f args).run P w = .ok (.enter f args) w := by
 have h1 : fn.name ≠ "runtime.NumGoroutine" := by simpa using hname
 simp [callFunc, hf, h1, hb]
theorem race_disable (w : World) : (callFunc 243 #[]).run Tryz.prog w = .ok (.value (.tuple #[])) w := run_call_mark0 Tryz.func243 (by kernel_rfl) (by kernel_rfl) (by kernel_rfl) .disable (by kernel_rfl) w
theorem race_enable (w : World) : (callFunc 245 #[]).run Tryz.prog w = .ok (.value (.tuple #[])) w := run_call_mark0 Tryz.func245 (by kernel_rfl) (by kernel_rfl) (by kernel_rfl) .enable (by kernel_rfl) w
theorem race_acquire (a : Addr) (w : World) : (callFunc 246 #[.pointer (some a)]).run Tryz.prog w = .ok (.value (.tuple #[])) w := run_call_marked Tryz.func246 (by kernel_rfl) (by kernel_rfl) (by kernel_rfl) .acquire (by kernel_rfl) a w
theorem race_merge (a : Addr) (w : World) : (callFunc 248 #[.pointer (some a)]).run Tryz.prog w = .ok (.value (.tuple #[])) w := run_call_marked Tryz.func248 (by kernel_rfl) (by kernel_rfl) (by kernel_rfl) .releaseMerge (by kernel_rfl) a w
set_option maxRecDepth 100000 in
set_option maxHeartbeats 1600000 in
theorem store_deferred (a : Addr) (x : Value) (u : FrameMode) (w : World) (hc : w.cell? a = some x) (hz : w.frozen? a = false) :
  CallsD Tryz.prog 215 #[.pointer (some a), .bool true] u w fun e u' w' => u' = u ∧ (e = .returned (.tuple #[]) ∧ w' = w.drew.setCell a (.int .u32 1)) := by
 have hc' : w.drew.cell? a = some x := by go_simp
 have hz' : w.drew.frozen? a = false := by go_simp
 have hst := run_call_store (P := Tryz.prog) Tryz.func230 (by kernel_rfl) (by kernel_rfl) (by kernel_rfl) (by kernel_rfl) (k := .u32) (y := 1) hc' hz'
 go_enter_d Tryz.func215, Tryz.ntmps215
 go_wp2
 go_region_calls
 all_goals (go_end0; exact ⟨rfl, rfl⟩)
set_option maxRecDepth 100000 in
set_option maxHeartbeats 1600000 in
theorem unlock_deferred (a : Addr) (u : FrameMode) (w : World) (hc : w.cell? a = some (.int .i32 1)) (hz : w.frozen? a = false) :
  CallsD Tryz.prog 214 #[.pointer (some a)] u w fun e u' w' => u' = u ∧ (e = .returned (.tuple #[]) ∧ w' = w.setCell a (.int .i32 0)) := by
 have hd := race_disable
 have he := race_enable
 have hr := race_merge
 have hadd := run_call_add (P := Tryz.prog) Tryz.func249 (by kernel_rfl) (by kernel_rfl) (by kernel_rfl) .i32 (by kernel_rfl) (y := -1) (s := 0) hc hz (by simp [go_sem]; rfl)
 have hcv := run_convert_to_unsafe (P := Tryz.prog) (src := 318) (dst := 322) Tryz.underlying318 Tryz.underlying322 (by kernel_rfl) hc
 go_enter_d Tryz.func214, Tryz.ntmps214
 go_wp2
 go_end0
 go_wp2
 go_end0
 exact ⟨rfl, rfl⟩
set_option maxRecDepth 100000 in
set_option maxHeartbeats 1600000 in
theorem lock_free (a : Addr) (w : World) (hc : w.cell? a = some (.int .i32 0)) (hz : w.frozen? a = false) :
  Calls Tryz.prog 213 #[.pointer (some a)] w fun e w' => e = .returned (.tuple #[]) ∧ w' = w.setCell a (.int .i32 1) := by
 have hd := race_disable
 have he := race_enable
 have ha := race_acquire
 have hcas := run_call_cas_hit (P := Tryz.prog) Tryz.func244 (by kernel_rfl) (by kernel_rfl) (by kernel_rfl) .i32 (by kernel_rfl) (y := 1) hc hz
 have hc' : (w.setCell a (.int .i32 1)).cell? a = some (.int .i32 1) := World.cell?_setCell_same w a _ hc
 have hcv := run_convert_to_unsafe (P := Tryz.prog) (src := 318) (dst := 322) Tryz.underlying318 Tryz.underlying322 (by kernel_rfl) hc'
 go_enter Tryz.func213, Tryz.ntmps213
 go_wp2
 first | go_end0 | (simp only [Exit.inBlock, Exit.then]; refine bodyPost_ret (results_none rfl _ _ _) rfl ?_) | refine bodyPost_ret (results_none rfl _ _ _) rfl ?_
 go_wp2
 go_end0
 exact ⟨rfl, rfl⟩
def OnceDoes (g : Nat) (lb : Array Value) (T o : Nat) (t : TypeId) (w : World) (l : List Value) (Q : World → List Value → Prop) : Prop :=
 ∀ W, Row W T t (l.set (o + 1) (.int .i32 1)) → Fr w W (· = T) → W.heap.size = w.heap.size → Calls Tryz.prog g lb W fun e W' => e = .returned (.tuple #[]) ∧ Fr W W' (· = T) ∧ ∃ l', Row W' T t l' ∧ l'[o]? = some (.int .u32 0) ∧ l'[o + 1]? = some (.int .i32 1) ∧ Q W' l'
def OnceTold (T o : Nat) (t : TypeId) (w : World) (Q : World → List Value → Prop) (w' : World) : Prop :=
 Fr w w' (· = T) ∧ ∃ W' l', Q W' l' ∧ Fr W' w' (· = T) ∧ w'.heap.size = W'.heap.size ∧ Row w' T t ((l'.set o (.int .u32 1)).set (o + 1) (.int .i32 0)) ∧ l'[o]? = some (.int .u32 0) ∧ l'[o + 1]? = some (.int .i32 1)
set_option maxRecDepth 100000 in
set_option maxHeartbeats 1600000 in
theorem slow_any (g : Nat) (lb : Array Value) (T o : Nat) (t : TypeId) (l : List Value) (w : World) (Q : World → List Value → Prop) (hr : Row w T t l) (h0 : l[o]? = some (.int .u32 0)) (h1 : l[o + 1]? = some (.int .i32 0))
  (eg : ∀ args w, (callFunc g args).run Tryz.prog w = .ok (.enter g args) w) (hf : OnceDoes g lb T o t w l Q) :
  Calls Tryz.prog 189 #[.pointer (some ⟨T, o, none⟩), .func (.func g) #[] lb] w fun e w' => e = .returned (.tuple #[]) ∧ OnceTold T o t w Q w' := by
 have hfr : Fr w (w.setCell ⟨T, o + 1, none⟩ (.int .i32 1)) (· = T) := (Fr.refl w _).setT _ _
 have hr1 := hr.set (o + 1) (.int .i32 1)
 have hsz : (w.setCell ⟨T, o + 1, none⟩ (.int .i32 1)).heap.size = w.heap.size := by simp [World.setCell]
 have hcall := hf _ hr1 hfr hsz
 have hl := run_call_load (P := Tryz.prog) Tryz.func212 (by kernel_rfl) (by kernel_rfl) (by kernel_rfl) .u32 (by kernel_rfl) (w := w.setCell ⟨T, o + 1, none⟩ (.int .i32 1)) (a := ⟨T, o, none⟩) (x := 0) (hr1.cell (by rw [set_ne (by omega)]; exact h0))
 have hlock := lock_free ⟨T, o + 1, none⟩ w (hr.cell h1) (hr.frozen _)
 have hnot : ∀ (x : Bool) (w : World), (Op.unary .not (.bool x)).run Tryz.prog w = .ok (.bool (!x)) w := fun _ _ => rfl
 have HF := Lib.hid hfr
 clear hf hfr hsz h0 h1
 have HR := Lib.hid hr
 have HR1 := Lib.hid hr1
 clear hr hr1
 go_enter_defers Tryz.func189, Tryz.ntmps189
 go_wp2_with (first | (go_at_call 213; refine hlock.mono ?_; rintro e w' ⟨rfl, rfl⟩) | (go_at_call 188; go_in) | (go_at_fn g; refine hcall.mono ?_; rintro e w1 ⟨rfl, hf1, l', hr2, k0, k1, hq⟩))
 refine leaves_cons (f := 215) (args := #[.pointer (some ⟨T, o, none⟩), .bool true]) (by simp) (by simp [go_sem]) ?_
 refine (store_deferred ⟨T, o, none⟩ (.int .u32 0) .returning _ (hr2.cell k0) (hr2.frozen _)).mono ?_
 rintro e u' w'' ⟨rfl, rfl, rfl⟩
 have hr3 : Row (w1.drew.setCell ⟨T, o, none⟩ (.int .u32 1)) T t (l'.set o (.int .u32 1)) := hr2.drew.set _ _
 refine leaves_cons (f := 214) (args := #[.pointer (some ⟨T, o + 1, none⟩)]) (by simp [settle]) (by simp [go_sem]) ?_
 refine (unlock_deferred ⟨T, o + 1, none⟩ _ _ (hr3.cell (by rw [set_ne (by omega)]; exact k1)) (hr3.frozen _)).mono ?_
 rintro e u' w'' ⟨rfl, rfl, rfl⟩
 have hend : OnceTold T o t w Q ((w1.drew.setCell ⟨T, o, none⟩ (.int .u32 1)).setCell ⟨T, o + 1, none⟩ (.int .i32 0)) := ⟨((HF.out.trans hf1).drew.setT _ _).setT _ _, w1, l', hq, ((Fr.refl w1 _).drew.setT _ _).setT _ _, by simp [World.setCell], hr3.set _ _, k0, k1⟩
 simp only [Leaves, settle]
 exact ⟨_, results_none rfl _ _ _, rfl, hend⟩
set_option maxRecDepth 100000 in
set_option maxHeartbeats 1600000 in
theorem do_first (g : Nat) (lb : Array Value) (T o : Nat) (t : TypeId) (l : List Value) (w : World) (Q : World → List Value → Prop) (hr : Row w T t l) (h0 : l[o]? = some (.int .u32 0)) (h1 : l[o + 1]? = some (.int .i32 0))
  (eg : ∀ args w, (callFunc g args).run Tryz.prog w = .ok (.enter g args) w) (hf : OnceDoes g lb T o t w l Q) :
  Calls Tryz.prog 153 #[.pointer (some ⟨T, o, none⟩), .func (.func g) #[] lb] w fun e w' => e = .returned (.tuple #[]) ∧ OnceTold T o t w Q w' := by
 have hs := slow_any g lb T o t l w Q hr h0 h1 eg hf
 have hl := run_call_load (P := Tryz.prog) Tryz.func212 (by kernel_rfl) (by kernel_rfl) (by kernel_rfl) .u32 (by kernel_rfl) (hr.cell h0)
 have hnot : ∀ (x : Bool) (w : World), (Op.unary .not (.bool x)).run Tryz.prog w = .ok (.bool (!x)) w := fun _ _ => rfl
 clear hf hr h0 h1
 go_enter Tryz.func153, Tryz.ntmps153
 go_wp2_with (first | (go_at_call 189; refine hs.mono ?_; rintro e w' ⟨rfl, hw⟩) | (go_at_call 188; go_in))
 go_end0
 exact ⟨rfl, hw⟩
set_option maxRecDepth 100000 in
set_option maxHeartbeats 1600000 in
theorem do_done (a : Addr) (fv : Value) (w : World) (h0 : w.cell? a = some (.int .u32 1)) :
  Calls Tryz.prog 153 #[.pointer (some a), fv] w fun e w' => e = .returned (.tuple #[]) ∧ w' = w := by
 have hl := run_call_load (P := Tryz.prog) Tryz.func212 (by kernel_rfl) (by kernel_rfl) (by kernel_rfl) .u32 (by kernel_rfl) h0
 have hnot : ∀ (x : Bool) (w : World), (Op.unary .not (.bool x)).run Tryz.prog w = .ok (.bool (!x)) w := fun _ _ => rfl
 go_enter Tryz.func153, Tryz.ntmps153
 go_wp2
 go_end0
 exact ⟨rfl, rfl⟩
end Go.Proofs.YthgiikhkcpbpfaaGreatDoor.C


namespace Go.Proofs.YthgiikhkcpbpfaaGreatDoor.C
open Go.RowKit
section
variable {l : List (Int × Int)} {a b x : Tok} {r : List Tok}
end
theorem One.nomap {w : World} {j M : Nat} {t : TypeId} {v : Value} {kd : TypeDesc} {l : List (Value × Value)} (h : One w j t v) (hm : MapIs w M kd l) : j ≠ M := by
 rintro rfl
 obtain ⟨es, c, h1, _⟩ := hm
 have e := h.symm.trans h1
 simp at e
theorem row_nomap {w : World} {base size n M : Nat} {e : TypeId} {v : Value} {xs : List Value} {kd : TypeDesc} {l : List (Value × Value)} (h : w.ownsRow base e size v n xs) (hm : MapIs w M kd l) : ¬ v.ownBlock = some M := by
 intro he
 obtain ⟨c, hc⟩ := ownsRow_ty h he
 obtain ⟨es, q, h1, _⟩ := hm
 rw [h1] at hc
 cases hc
theorem infoPair : (Tryz.prog.info? 81).map (fun i => (i.zero, i.size, i.bytes)) = some (some (.agg #[.int .i32 0, .int .i32 0]), 2, 8) := by kernel_rfl
section
variable {w0 : World} {u0 : Value} {lo R : Nat} {T : TV} {v1 v3 v4 v5 : Value} {A M Rb Ab Tb : Nat} {u : Value} {ks : List Value} {l : List (Int × Int)} {k : Nat} {W W' : World}
end
section
variable {w0 : World} {u0 : Value} {lo R : Nat} {T : TV} {v1 v2 v4 v5 : Value} {A M Rb Ab Tb : Nat} {u : Value} {ks : List Value} {l : List (Int × Int)} {k : Nat} {W W' : World}
end
end Go.Proofs.YthgiikhkcpbpfaaGreatDoor.C


namespace Go.Proofs.YthgiikhkcpbpfaaGreatDoor.C
open Go.RowKit
theorem wpAnyH_one {P : Program} {ops : Array Oper} {Q : Exit → Act → World → Prop} {md : Region.Mode} {S : World → Prop} {i : Nat} {o : Oper} {fuel : Nat} {listed : Array Bool} {a : Act} {w : World} (hr : Region.ready md ops listed = [i]) (ho : ops[i]? = some o)
  (h : ∀ K : Act → World → Prop, Hid (∀ a' w', S w' → (S w' → wpAnyH P md ops Q S fuel (listed.setIfInBounds i true) a' w') → K a' w') →
   if Region.wanted o (yielded ops a.tmps) = true then Oper.wp P o a w K Q else K (a.put o.dst undef) w) : wpAnyH P md ops Q S (fuel + 1) listed a w := by
 refine ⟨fun h0 => (by rw [hr] at h0; cases h0), fun j hj => ?_⟩
 rw [hr, List.mem_singleton] at hj
 subst hj
 have h1 := h (fun a' w' => S w' ∧ wpAnyH P md ops Q S fuel (listed.setIfInBounds j true) a' w') (Lib.hid fun a' w' hs hh => ⟨hs, hh hs⟩)
 unfold wpOp
 simp only [ho]
 split
 ·rename_i hw
  rw [if_pos hw] at h1
  exact .inl h1
 ·rename_i hw
  rw [if_neg hw] at h1
  exact h1
end Go.Proofs.YthgiikhkcpbpfaaGreatDoor.C


namespace Go.Proofs.YthgiikhkcpbpfaaGreatDoor.C
open Go.RowKit
theorem One.set_ {w : World} {b : Nat} {t : TypeId} {v : Value} (h : One w b t v) (u : Value) : One (w.setCell ⟨b, 0, none⟩ u) b t u := set_row (i := 0) (l := [v]) h u
theorem One.frozen {w : World} {b : Nat} {t : TypeId} {v : Value} (h : One w b t v) (i : Nat) : w.frozen? ⟨b, i, none⟩ = false := by simp [World.frozen?, show w.heap[b]? = _ from h]
theorem row_form {w : World} {lo n sz : Nat} {v : Value} {xs : List Value} {e : TypeId} (h : w.ownsRow lo e sz v n xs) : ∃ A c, v = .slice A n c := by
 rcases Joins.ownsRow_forms h with ⟨rfl, h0⟩ | ⟨g, c, rfl⟩
 ·exact ⟨none, 0, by rw [h0]⟩
 ·exact ⟨_, _, rfl⟩
theorem ClsAt.form {w : World} {lo : Nat} {v : Value} {cs : List Cls} (h : ClsAt w lo v cs) : ∃ A c, v = .slice A cs.length c := by
 obtain ⟨vs, _, h2, _⟩ := h
 exact row_form h2
def LocZ (w : World) (b : Nat) (v1 v2 v3 v4 : Value) : Prop := w.heap[b]? = some (.cells #[v1, v2, v3, v4] 27 (0, 0))
theorem LocZ.cells {w : World} {b : Nat} {v1 v2 v3 v4 : Value} (h : LocZ w b v1 v2 v3 v4) : w.cell? ⟨b, 0, none⟩ = some v1 ∧ w.cell? ⟨b, 1, none⟩ = some v2 ∧ w.cell? ⟨b, 2, none⟩ = some v3 ∧ w.cell? ⟨b, 3, none⟩ = some v4 := by
 simp [World.cell?, show w.heap[b]? = _ from h]
theorem LocZ.frozen {w : World} {b : Nat} {v1 v2 v3 v4 : Value} (h : LocZ w b v1 v2 v3 v4) (i : Nat) : w.frozen? ⟨b, i, none⟩ = false := by simp [World.frozen?, show w.heap[b]? = _ from h]
theorem LocZ.lt {w : World} {b : Nat} {v1 v2 v3 v4 : Value} (h : LocZ w b v1 v2 v3 v4) : b < w.heap.size := (Array.getElem?_eq_some_iff.1 h).1
end Go.Proofs.YthgiikhkcpbpfaaGreatDoor.C


namespace Go.Proofs.YthgiikhkcpbpfaaGreatDoor.C
open Go.RowKit
theorem info5 : (Tryz.prog.info? 5).map (fun i => (i.zero, i.size, i.bytes)) = some (some (.int .u8 0), 1, 1) := by kernel_rfl
theorem byteCells_one (l : List UInt8) : ∀ v ∈ Lib.byteCells l, v.oneCell' = true := by
 intro v hv
 simp only [Lib.byteCells, List.mem_map] at hv
 obtain ⟨b, _, rfl⟩ := hv
 rfl
def Grew (B : Nat) (w : World) (n : Nat) (xs : List UInt8) (v' : Value) (w' : World) : Prop := w'.ownsRow B 5 1 v' n (Lib.byteCells xs) ∧ Below B w w'
set_option maxRecDepth 100000 in
set_option maxHeartbeats 1000000 in
theorem formatBits_16 (w : World) (B : Nat) (v : Value) (n : Nat) (xs : List UInt8) (u : Nat) (hu : u < 16 ^ 16) (hT : w.cell? ⟨5, 15, none⟩ = some (.int .u8 4)) (hB : B ≤ w.heap.size) (hown : w.ownsRow B 5 1 v n (Lib.byteCells xs)) (hn : n ≤ 1099511627776) :
  Calls Tryz.prog 242 #[v, .int .u64 u, .int .i64 16, .bool false, .bool true] w fun e w' => ∃ v', e = .returned (.tuple #[v', .string ⟨#[]⟩]) ∧ Grew B w (n + (hexL u).length) (xs ++ hexL u) v' w' := by
 obtain ⟨i0, hi, hz0, hz1, hz2⟩ := info_parts info5
 have HO := Lib.hid hown
 have HU := Lib.hid hu
 clear hown hu
 have hz := zeroArray
 have hT1 : ∀ o, (w.alloc o).cell? ⟨5, 15, none⟩ = some (.int .u8 4) := fun o => by rw [World.cell?_alloc_lt w o _ (World.block_lt_of_cell? w _ hT)]; exact hT
 go_enter Tryz.func242, Tryz.ntmps242
 go_wp2_with fail
 refine (isPow_16 _).mono ?_
 rintro e w' ⟨rfl, rfl⟩
 go_wp2_with fail
 refine (tz_16 _ (hT1 _)).mono ?_
 rintro e w' ⟨rfl, rfl⟩
 go_wp2_with fail
 go_loopw [1, 13] (fun uv iv wr => ∃ (uu k : Nat) (d : List UInt8), uv = .int .u64 uu ∧ iv = .int .i64 k ∧ uu < 18446744073709551616 ∧ HexSt u uu d k ∧ Digits wr w.heap.size k d ∧ Below w.heap.size w wr) (fun uv _ _ => (intOf uv).toNat)
 case atStart => exact ⟨u, 65, [], rfl, rfl, by have := HU.out; simpa using this, hexSt_zero HU.out, digits_start w, (Below.refl _ _).alloc (Nat.le_refl _) _⟩
 case round =>
  obtain ⟨uu, k, d, rfl, rfl, huu, hst, hdg, hb⟩ := hrel
  obtain ⟨hk1, hk2⟩ := hexSt_left hst
  obtain ⟨k, rfl⟩ : ∃ k', k = k' + 1 := ⟨k - 1, by omega⟩
  obtain ⟨x, hcell⟩ := digits_cell hdg
  have hfz := digits_frozen hdg
  have HS := Lib.hid hst
  have HD := Lib.hid hdg
  clear hst hdg
  by_cases hlt : uu < 16
  ·have hend := hexSt_end HS.out hlt
   have hlen : (dig uu :: d).length = 65 - k := by have := HS.out.2.1; simp; omega
   have hdg2 : ∀ h, Digits (wr.setCell ⟨w.heap.size, k, none⟩ (.int .u8 ((ByteArray.mk #[48, 49, 50, 51, 52, 53, 54, 55, 56, 57, 97, 98, 99, 100, 101, 102, 103, 104, 105, 106, 107, 108, 109, 110, 111, 112, 113, 114, 115, 116, 117, 118, 119, 120, 121, 122])[uu]'h).toNat)) w.heap.size k (dig uu :: d) := fun h => by rw [dig_at _ _ hlt]; exact digits_set HD.out _
   have HE := Lib.hid hend
   have HL := Lib.hid hlen
   have HD2 := Lib.hid hdg2
   clear hend hlen hdg2
   have hsl := slice65 w.heap.size k (by omega)
   go_wp2_with (at_builtin; (refine wpList_append_own _ rfl _ _ 44 rfl B 5 i0 (.int .u8 0) 1 1 Tryz.underlying44 hi hz0 hz1 hz2 rfl (by decide) v n (Lib.byteCells xs) rfl (own_keep HO.out (hb.setCell (Nat.le_refl _) _)) ⟨w.heap.size, k, none⟩ (65 - k) (65 - k) (Lib.byteCells (dig uu :: d)) rfl (by rw [Lib.byteCells_length, HL.out]; omega) (digits_cells (HD2.out _)) (byteCells_one _) (by unfold maxLen; omega) (by omega) (by have := hb.size; simp [World.setCell]; omega) ?_); intro v' w3 hown' hgrow _)
   go_ret2
   refine ⟨v', rfl, ?_, ?_⟩
   ·rw [HE.out, HL.out, Lib.byteCells_append]
    exact hown'
   ·exact ((hb.mono hB).setCell hB _).grown hgrow (by have := hb.size; simp [World.setCell]; omega) (fun k hk => (HO.out.lt k hk).1)
  ·have hand := and15 uu huu
   have hm : uu % 16 < 16 := Nat.mod_lt _ (by omega)
   go_wp2
   go_roundw
   case rel => exact ⟨uu / 16, k, dig (uu % 16) :: d, by go_num, rfl, by omega, hexSt_step HS.out hlt, by rw [dig_at _ _ hm]; exact digits_set HD.out _, hb.setCell (Nat.le_refl _) _⟩
   case measure => simp [intOf]; omega
set_option maxRecDepth 100000 in
set_option maxHeartbeats 1000000 in
theorem appendUint_16 (w : World) (B : Nat) (v : Value) (n : Nat) (xs : List UInt8) (u : Nat) (hu : u < 1152921504606846976) (hT : w.cell? ⟨5, 15, none⟩ = some (.int .u8 4)) (hB : B ≤ w.heap.size) (hown : w.ownsRow B 5 1 v n (Lib.byteCells xs)) (hn : n ≤ 1099511627776) :
  Calls Tryz.prog 227 #[v, .int .u64 u, .int .i64 16] w fun e w' => ∃ v', e = .returned v' ∧ Grew B w (n + (hexL u).length) (xs ++ hexL u) v' w' := by
 have HO := Lib.hid hown
 clear hown
 go_enter Tryz.func227, Tryz.ntmps227
 go_wp2_with fail
 refine (formatBits_16 w B v n xs u (Nat.lt_of_lt_of_le hu (by decide)) hT hB HO.out hn).mono ?_
 rintro e w1 ⟨v', rfl, hg⟩
 have HG := Lib.hid hg
 clear hg
 go_wp2
 go_ret
 exact ⟨v', rfl, HG.out⟩
set_option maxRecDepth 100000 in
set_option maxHeartbeats 1000000 in
theorem appendInt_16 (w : World) (B : Nat) (v : Value) (n : Nat) (xs : List UInt8) (u : Nat) (hu : u < 1152921504606846976) (hT : w.cell? ⟨5, 15, none⟩ = some (.int .u8 4)) (hB : B ≤ w.heap.size) (hown : w.ownsRow B 5 1 v n (Lib.byteCells xs)) (hn : n ≤ 1099511627776) :
  Calls Tryz.prog 207 #[v, .int .i64 u, .int .i64 16] w fun e w' => ∃ v', e = .returned v' ∧ Grew B w (n + (hexL u).length) (xs ++ hexL u) v' w' := by
 have HO := Lib.hid hown
 clear hown
 go_enter Tryz.func207, Tryz.ntmps207
 go_wp2_with fail
 refine (appendUint_16 w B v n xs u hu hT hB HO.out hn).mono ?_
 rintro e w1 ⟨v', rfl, hg⟩
 have HG := Lib.hid hg
 clear hg
 go_wp2
 go_ret
 exact ⟨v', rfl, HG.out⟩
set_option maxRecDepth 100000 in
set_option maxHeartbeats 1000000 in
theorem strconvAppendInt_16 (w : World) (B : Nat) (v : Value) (n : Nat) (xs : List UInt8) (u : Nat) (hu : u < 1152921504606846976) (hT : w.cell? ⟨5, 15, none⟩ = some (.int .u8 4)) (hB : B ≤ w.heap.size) (hown : w.ownsRow B 5 1 v n (Lib.byteCells xs)) (hn : n ≤ 1099511627776) :
  Calls Tryz.prog 177 #[v, .int .i64 u, .int .i64 16] w fun e w' => ∃ v', e = .returned v' ∧ Grew B w (n + (hexL u).length) (xs ++ hexL u) v' w' := by
 have HO := Lib.hid hown
 clear hown
 go_enter Tryz.func177, Tryz.ntmps177
 go_wp2_with fail
 refine (appendInt_16 w B v n xs u hu hT hB HO.out hn).mono ?_
 rintro e w1 ⟨v', rfl, hg⟩
 have HG := Lib.hid hg
 clear hg
 go_wp2
 go_ret
 exact ⟨v', rfl, HG.out⟩
end Go.Proofs.YthgiikhkcpbpfaaGreatDoor.C

namespace Go.Proofs.YthgiikhkcpbpfaaGreatDoor.L
open Go.ChangeShapes Go.WideShapes Go.ChangeAt Go.RowKit

theorem own : ownKnob Tryz.prog.godebug = none := by kernel_rfl
theorem laidOut : laidOutB Tryz.prog = true := by kernel_rfl
theorem gTab : Tryz.prog.globalNamed "math/bits.deBruijn64tab" = some 5 := by kernel_rfl
theorem gTabType : (Tryz.prog.globals[5]?).map (·.type) = some 332 := by kernel_rfl
theorem cellsTab : Tryz.prog.cellsOf 332 = 64 := by kernel_rfl
theorem cells5 : Tryz.prog.cellsOf 5 = 1 := by kernel_rfl
theorem table {W : World} (h0 : laidMetH Tryz.prog [("math/bits.deBruijn32tab", Rows.laid_math_bits_deBruijn32tab), ("math/bits.deBruijn64tab", Rows.laid_math_bits_deBruijn64tab), ("internal/strconv.uint64pow10", Rows.laid_internal_strconv_uint64pow10), ("unicode/utf8.acceptRanges", Rows.laid_unicode_utf8_acceptRanges), ("unicode/utf8.first", Rows.laid_unicode_utf8_first)] W) : W.cell? ⟨5, 15, none⟩ = some (.int .u8 4) := by
 have h : laidMet Tryz.prog [("math/bits.deBruijn32tab", Rows.laid_math_bits_deBruijn32tab), ("math/bits.deBruijn64tab", Rows.laid_math_bits_deBruijn64tab), ("internal/strconv.uint64pow10", Rows.laid_internal_strconv_uint64pow10), ("unicode/utf8.acceptRanges", Rows.laid_unicode_utf8_acceptRanges), ("unicode/utf8.first", Rows.laid_unicode_utf8_first)] W := h0
 have ht : Lib.TabIs Tryz.prog W "math/bits.deBruijn64tab" .u8 [0, 1, 56, 2, 57, 49, 28, 3, 61, 58, 42, 50, 38, 29, 17, 4, 62, 47, 59, 36, 45, 43, 51, 22, 53, 39, 33, 30, 24, 18, 12, 5, 63, 55, 48, 27, 60, 41, 37, 16, 46, 35, 44, 21, 52, 32, 23, 11, 54, 26, 40, 15, 34, 20, 31, 10, 25, 14, 19, 9, 13, 8, 7, 6] :=
  Lib.tabIs_of_head gTab gTabType Tryz.underlying332 Tryz.underlying5 cells5 cellsTab (laidMet.tail h)
 exact ht.cell gTab 15 (by decide)
theorem nF : Tryz.prog.globalNamed "unicode/utf8.first" = some 0 := by kernel_rfl
theorem nA : Tryz.prog.globalNamed "unicode/utf8.acceptRanges" = some 1 := by kernel_rfl
theorem yF : (Tryz.prog.globals[0]?).map (·.type) = some 304 := by kernel_rfl
theorem yA : (Tryz.prog.globals[1]?).map (·.type) = some 307 := by kernel_rfl
theorem c5 : Tryz.prog.cellsOf 5 = 1 := by kernel_rfl
theorem c256 : Tryz.prog.cellsOf 304 = 256 := by kernel_rfl
theorem c2 : Tryz.prog.cellsOf 306 = 2 := by kernel_rfl
theorem dF : (Rows.laid_unicode_utf8_first : DataW Unit) = Lib.firstData := by kernel_rfl
theorem dA : (Rows.laid_unicode_utf8_acceptRanges : DataW Unit) = Lib.acceptData := by kernel_rfl
theorem tables {W : World} (h0 : laidMetH Tryz.prog [("math/bits.deBruijn32tab", Rows.laid_math_bits_deBruijn32tab), ("math/bits.deBruijn64tab", Rows.laid_math_bits_deBruijn64tab), ("internal/strconv.uint64pow10", Rows.laid_internal_strconv_uint64pow10), ("unicode/utf8.acceptRanges", Rows.laid_unicode_utf8_acceptRanges), ("unicode/utf8.first", Rows.laid_unicode_utf8_first)] W) : Lib.Utf8Tabs 0 1 W := by
 have h : laidMet Tryz.prog [("math/bits.deBruijn32tab", Rows.laid_math_bits_deBruijn32tab), ("math/bits.deBruijn64tab", Rows.laid_math_bits_deBruijn64tab), ("internal/strconv.uint64pow10", Rows.laid_internal_strconv_uint64pow10), ("unicode/utf8.acceptRanges", Rows.laid_unicode_utf8_acceptRanges), ("unicode/utf8.first", Rows.laid_unicode_utf8_first)] W := h0
 have h3 : Lib.VarReads Tryz.prog W "unicode/utf8.first" Lib.firstData := by
  have := Lib.laidMet.reads h (n := "unicode/utf8.first") (d := Rows.laid_unicode_utf8_first) (by simp)
  rwa [dF] at this
 have h4 : Lib.VarReads Tryz.prog W "unicode/utf8.acceptRanges" Lib.acceptData := by
  have := Lib.laidMet.reads h (n := "unicode/utf8.acceptRanges") (d := Rows.laid_unicode_utf8_acceptRanges) (by simp)
  rwa [dA] at this
 refine ⟨fun c hc => ?_, fun i hi => ?_⟩
 ·obtain ⟨g, t, cs, fuel, p, hg, hty, hvar, hd⟩ := h3
  obtain rfl := Option.some.inj (nF.symm.trans hg)
  obtain rfl := Option.some.inj (yF.symm.trans hty)
  have hcs := Lib.cells_of_tab Tryz.underlying304 Tryz.underlying5 c5 c256 hd
  rw [World.var?_cell hg hvar c, ← Array.getElem?_toList, hcs]
  simp [Lib.firstTab, hc]
 ·obtain ⟨g, t, cs, fuel, p, hg, hty, hvar, hd⟩ := h4
  obtain rfl := Option.some.inj (nA.symm.trans hg)
  obtain rfl := Option.some.inj (yA.symm.trans hty)
  obtain ⟨fuel', d, q, hdi, he⟩ := Lib.array_elem Tryz.underlying307 hd i hi
  simp only [List.getElem?_map, List.getElem?_range hi, Option.map_some, Option.some.injEq] at hdi
  subst hdi
  rw [c2] at he
  have hcs := Lib.ints_of_struct Tryz.underlying306 (fun j f hj => by
   match j, hj with
   | 0, hj => simp at hj; subst hj; exact ⟨Tryz.underlying5, rfl, c5⟩
   | 1, hj => simp at hj; subst hj; exact ⟨Tryz.underlying5, rfl, c5⟩
   | j + 2, hj => simp at hj) (by rw [c2]; rfl) he
  have e0 := congrArg (·[0]?) hcs
  have e1 := congrArg (·[1]?) hcs
  simp only [List.getElem?_take, List.getElem?_drop] at e0 e1
  constructor
  ·rw [World.var?_cell hg hvar (2 * i), ← Array.getElem?_toList]
   simpa [Nat.mul_comm] using e0
  ·rw [World.var?_cell hg hvar (2 * i + 1), ← Array.getElem?_toList]
   simpa [Nat.mul_comm] using e1

theorem gl0 {W : World} (h0 : laidMetH Tryz.prog [("math/bits.deBruijn32tab", Rows.laid_math_bits_deBruijn32tab), ("math/bits.deBruijn64tab", Rows.laid_math_bits_deBruijn64tab), ("internal/strconv.uint64pow10", Rows.laid_internal_strconv_uint64pow10), ("unicode/utf8.acceptRanges", Rows.laid_unicode_utf8_acceptRanges), ("unicode/utf8.first", Rows.laid_unicode_utf8_first)] W) : C.Gl W := table h0
theorem gl {W : World} (h0 : laidMetH Tryz.prog [("math/bits.deBruijn32tab", Rows.laid_math_bits_deBruijn32tab), ("math/bits.deBruijn64tab", Rows.laid_math_bits_deBruijn64tab), ("internal/strconv.uint64pow10", Rows.laid_internal_strconv_uint64pow10), ("unicode/utf8.acceptRanges", Rows.laid_unicode_utf8_acceptRanges), ("unicode/utf8.first", Rows.laid_unicode_utf8_first)] W) : C.Gm W := ⟨gl0 h0, tables h0⟩

noncomputable def laidWorld (os : Os) : World := World.laidAll Tryz.prog os [("math/bits.deBruijn32tab", Rows.laid_math_bits_deBruijn32tab), ("math/bits.deBruijn64tab", Rows.laid_math_bits_deBruijn64tab), ("internal/strconv.uint64pow10", Rows.laid_internal_strconv_uint64pow10), ("unicode/utf8.acceptRanges", Rows.laid_unicode_utf8_acceptRanges), ("unicode/utf8.first", Rows.laid_unicode_utf8_first)]
theorem laid_met (os : Os) (args : Array Value) : laidMet Tryz.prog [("math/bits.deBruijn32tab", Rows.laid_math_bits_deBruijn32tab), ("math/bits.deBruijn64tab", Rows.laid_math_bits_deBruijn64tab), ("internal/strconv.uint64pow10", Rows.laid_internal_strconv_uint64pow10), ("unicode/utf8.acceptRanges", Rows.laid_unicode_utf8_acceptRanges), ("unicode/utf8.first", Rows.laid_unicode_utf8_first)] ((laidWorld os).forCall (fun _ _ => 0) ⟨#[], args, []⟩).memory :=
 laidMet_laidAll _ (by kernel_rfl) (by kernel_rfl)
theorem witness {H : Type} {enc : TypeId × Value → H} {C : Checked} {os : Os} {f : FuncId} {fn : Func} {s : OpenSpec} {conds : List PathCond} {apart : Bool} {laid : List (String × DataW Unit)} (modest : Bool) (w0 : World) (args : Array Value) (hos : w0.os = os)
  (hsh : (w0.forCall (fun _ _ => 0) ⟨#[], args, []⟩).Shaped C.prog)
  (hok : Input.okWideB C.prog (w0.forCall (fun _ _ => 0) ⟨#[], args, []⟩) f ⟨#[], args, []⟩ = true)
  (hrow : s.preRow enc C.prog fn conds apart laid (w0.forCall (fun _ _ => 0) ⟨#[], args, []⟩).memory args) :
  ∃ (w : World) (tape : Tape) (i : Input), w.os = os ∧ (w.forCall tape i).Shaped C.prog ∧ i.vars = [] ∧ Input.okWide C.prog (w.forCall tape i) .any w.heap.size f i ∧
   s.preRow enc C.prog fn conds apart laid (w.forCall tape i).memory i.args ∧ ({ modest := modest } : Assume).holds C.prog (lone (Frame.enter C.prog f i.args .normal) [] (w.forCall tape i)) :=
 ⟨w0, fun _ _ => 0, ⟨#[], args, []⟩, hos, hsh, (Input.okWide_of_okWideB (base := 0) hok).1, (Input.okWide_of_okWideB hok).2, hrow, by
  simp only [Assume.holds]
  exact ⟨by simp, by simp, fun _ => Modest.zero, by simp, by simp⟩⟩

def IsRow (k : IntKind) (w : World) (a : Option Addr) (len cap : Nat) (zs : List Int) : Prop :=
 (a = none ∧ len = 0 ∧ cap = 0 ∧ zs = []) ∨
 ∃ x, a = some x ∧ len ≤ cap ∧ cap ≤ maxLen ∧ zs.length = cap ∧ (∀ i, i < zs.length → w.cell? (x.add i) = some (.int k (zs.getD i 0))) ∧ ∀ n ∈ zs, (Lit.int k n).wf = true
end Go.Proofs.YthgiikhkcpbpfaaGreatDoor.L


namespace Go.Proofs.YthgiikhkcpbpfaaGreatDoor.C
open Go.RowKit
set_option maxHeartbeats 400000 in
theorem refRight_any (c : Int) (w : World) : Calls Tryz.prog 51 #[.int .i32 c] w fun e w' => e = .returned (.bool (rightB c)) ∧ w = w' := by
 by_cases h1 : c < -256
 ·have hr : rightB c = false := by simp [rightB]; omega
  rw [hr]; clear hr
  have t1 : decide (-256 ≤ c) = false := by simp; omega
  have t2 : decide (57343 < c) = false := by simp; omega
  go_enter Tryz.func51, Tryz.ntmps51
  go_wp2
  all_goals go_ret
  all_goals exact ⟨rfl, rfl⟩
 by_cases h2 : c < 55296
 ·have hr : rightB c = true := by simp [rightB]; omega
  rw [hr]; clear hr
  go_enter Tryz.func51, Tryz.ntmps51
  go_wp2
  all_goals go_ret
  all_goals exact ⟨rfl, rfl⟩
 have t3 : decide (c < 55296) = false := by simpa using h2
 by_cases h3 : 57343 < c
 ·by_cases h4 : c ≤ 1114111
  ·have hr : rightB c = true := by simp [rightB]; omega
   rw [hr]; clear hr
   go_enter Tryz.func51, Tryz.ntmps51
   go_wp2
   all_goals go_ret
   all_goals exact ⟨rfl, rfl⟩
  ·have hr : rightB c = false := by simp [rightB]; omega
   rw [hr]; clear hr
   have t4 : decide (c ≤ 1114111) = false := by simpa using h4
   go_enter Tryz.func51, Tryz.ntmps51
   go_wp2
   all_goals go_ret
   all_goals exact ⟨rfl, rfl⟩
 ·have hr : rightB c = false := by simp [rightB]; omega
  rw [hr]; clear hr
  have t5 : decide (57343 < c) = false := by simpa using h3
  go_enter Tryz.func51, Tryz.ntmps51
  go_wp2
  all_goals go_ret
  all_goals exact ⟨rfl, rfl⟩
theorem refRight_is (c : Int) (w : World) (r : Bool) (hr : rightB c = r) : Calls Tryz.prog 51 #[.int .i32 c] w fun e w' => e = .returned (.bool r) ∧ w = w' := by
 subst hr
 exact refRight_any c w
set_option maxHeartbeats 400000 in
theorem refEscape_any (b : Int) (w : World) (h0 : 0 ≤ b) (h1 : b ≤ 255) : Calls Tryz.prog 30 #[.int .u8 b] w fun e w' => e = .returned (.int .i32 (-1 - b)) ∧ w = w' := by
 go_enter Tryz.func30, Tryz.ntmps30
 go_wp2
 go_ret
 exact ⟨rfl, rfl⟩
end Go.Proofs.YthgiikhkcpbpfaaGreatDoor.C
