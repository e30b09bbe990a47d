/-
  Joined: MLxR, MLxQ, MLxX, LcA, LcB, LcC, LcF, LcI, LcM, LcJ, LcK, LjT, LcL, LcN, LdR, LeG, MLyK, MLyO. Each with what its own head says.
-/
import Derived.Lib.RuneBytes
import Derived.Laws.BytesArg
import Derived.Lib.BufferWrite
import Derived.Deep.RegionLaw
import Derived.StillTailTactics
import Derived.WalkMore
import Derived.Defers
import Derived.Recover
import Derived.WalkLawsBesides
import Derived.Laws.CopyRow
import Derived.Laws.BitsAllLaws
import Derived.Laws.IdiomStrings
import Derived.Deep.RegionHeld3
import Derived.Deep.RegionWith
import Derived.OrdersHeld
import Derived.MapKept
import Derived.Laws.NewBlocks
import Derived.WideMake
import Derived.Laws.NewDeep
import Derived.Lib.SmallJoins
import Derived.Laws.BitsLemmas
import Derived.Lib.Slices
import Derived.Laws.Strings3
import Derived.Laws.RangeString
import Derived.Laws.RangeAny
import Derived.Deep.WholeRow
import Derived.Lib.AppendStr
import Derived.Lib.QuoteHex
import Derived.Lib.BufferRead
import Derived.Lib.LaidU8
import Derived.Test.YtknjhlbhbnldpaaGreatDoorRows
import Derived.OpenShut
import Derived.ShutString
import Derived.ChangeOld
import Derived.Carry
import Derived.Deep.DeepHandedRow
import Derived.Lib.LaidTab
import Derived.Stop.LaidErr
import Derived.LaidLaws
import Derived.Lay
import Derived.Shelf.Bytes.SlSmallAll
import Derived.Laws.ResultCell
import Derived.Test.YtknjhlbhbnldpaaGreatDoorB03


namespace Go.Proofs.YtknjhlbhbnldpaaGreatDoor.C
open Go.RowKit
theorem add_plain (b off j : Nat) : (⟨b, off, none⟩ : Addr).add j = ⟨b, off + j, none⟩ := by unfold Addr.add; split <;> simp_all
theorem row_ne {w : World} {base : Nat} {e : TypeId} {size n : Nat} {u : Value} {xs : List Value} (h : w.ownsRow base e size u n xs) {g : Nat} {cur : Array Value} {t : TypeId} {f : Nat × Nat} (hg : w.heap[g]? = some (.cells cur t f)) (hte : t ≠ e) : u.ownBlock ≠ some g := by
 intro he
 rcases h.2 with ⟨rfl, _⟩ | ⟨g', c, cur', rfl, _, hg', _⟩
 ·simp [Value.ownBlock] at he
 ·obtain rfl : g' = g := by simpa [Value.ownBlock] using he
  rw [hg] at hg'
  simp at hg'
  exact hte hg'.2.1
def tkC (x : Tok) : List Value := [.int .u8 x.k, .string (str x.t), .int .i64 x.n, .int .i64 x.at_]
section
variable {w w' : World} {R k : Nat} {s : ByteArray} {ts : List Tok}
end
theorem drop_ba {s : ByteArray} {k : Nat} (h : k < s.size) : s.data.toList.drop k = s[k]'h :: s.data.toList.drop (k + 1) := by
 have h' : k < s.data.toList.length := by rw [size_list]; exact h
 rw [List.drop_eq_getElem_cons h']
 rfl
theorem clone_any (s : ByteArray) (w : World) (hs : s.size ≤ 4000) : Calls Tryz.prog 71 #[.string s] w fun e w' => e = .returned (.string s) ∧ Below w.heap.size w w' := by
 have h := Tryz.stringslite_Clone s w (by omega)
 go_enter Tryz.func71, Tryz.ntmps71
 go_wp2_with (go_at_call 111; refine h.mono ?_; rintro e w' ⟨rfl, hb⟩)
 go_ret
 exact ⟨rfl, hb⟩
end Go.Proofs.YtknjhlbhbnldpaaGreatDoor.C


namespace Go.Proofs.YtknjhlbhbnldpaaGreatDoor.C
open Go.RowKit
theorem heap_new (w : World) (o : Obj) : (w.alloc o).heap[w.heap.size]? = some o := by
 show (w.heap.push o)[w.heap.size]? = _
 simp
theorem heap_lt (w : World) (o : Obj) {j : Nat} (h : j < w.heap.size) : (w.alloc o).heap[j]? = w.heap[j]? := by
 show (w.heap.push o)[j]? = _
 rw [Array.getElem?_push, if_neg (by omega)]
end Go.Proofs.YtknjhlbhbnldpaaGreatDoor.C


namespace Go.Proofs.YtknjhlbhbnldpaaGreatDoor.C
open Go.RowKit
theorem run_store_func {P : Program} (w : World) (a : Addr) (fn : Fn) (x y : Array Value) (hc : (w.cell? a).isSome = true) (hf : w.frozen? a = false) : (store a (.func fn x y)).run P w = .ok () (w.setCell a (.func fn x y)) := by
 obtain ⟨u, hu⟩ := Option.isSome_iff_exists.1 hc
 rw [run_store P w a _ _ rfl, hu]
 simp [hf]
end Go.Proofs.YtknjhlbhbnldpaaGreatDoor.C


namespace Go.Proofs.YtknjhlbhbnldpaaGreatDoor.C
open Go.RowKit
def inKs (ks : List Int) (v : Int) : Bool := ks.contains v
structure TV where
 A : Option Addr
 n : Nat
 c : Nat
 ts : List Tok
def Moved (w w' : World) (R : Nat) : Prop := w.grownBy w' (some R)
section
variable {w w' : World} {R k : Nat} {T : TV} {v1 v2 v3 v4 v5 : Value}
theorem Moved.of_below (h : Below w.heap.size w w') : Moved w w' R := ⟨h.os, h.tape, h.output, h.size, fun i hi _ => h.block i hi⟩
theorem Moved.trans {a b c : World} (h : Moved a b R) (k : Moved b c R) : Moved a c R := ⟨k.os.trans h.os, k.tape.trans h.tape, k.output.trans h.output, Nat.le_trans h.size k.size, fun i hi hne => (k.block i (Nat.lt_of_lt_of_le hi h.size) hne).trans (h.block i hi hne)⟩
theorem Moved.refl (w : World) (R : Nat) : Moved w w R := ⟨rfl, rfl, rfl, Nat.le_refl _, fun _ _ _ => rfl⟩
theorem Moved.alloc (h : Moved w w' R) (o : Obj) : Moved w (w'.alloc o) R := h.trans (.of_below ((Below.refl _ _).alloc (Nat.le_refl _) o))
theorem Moved.below {B : Nat} (h : Moved w w' R) (hB : B ≤ R) (hw : B ≤ w.heap.size) : Below B w w' := ⟨h.os, h.tape, h.output, h.size, fun i hi => h.block i (by omega) (fun e => by injection e; omega)⟩
end
end Go.Proofs.YtknjhlbhbnldpaaGreatDoor.C


namespace Go.Proofs.YtknjhlbhbnldpaaGreatDoor.C
open Go.RowKit
theorem below_drew {B : Nat} {a w : World} (h : Below B a w) : Below B a w.drew := ⟨h.os, h.tape, h.output, h.size, h.block⟩
theorem Moved.drew {w w' : World} {R : Nat} (h : Moved w w' R) : Moved w w'.drew R := ⟨h.os, h.tape, h.output, h.size, h.block⟩
end Go.Proofs.YtknjhlbhbnldpaaGreatDoor.C


namespace Go.Proofs.YtknjhlbhbnldpaaGreatDoor.C
open Go.RowKit
theorem str_inj {a b : List UInt8} (h : str a = str b) : a = b := by
 have := congrArg (fun z : ByteArray => z.data.toList) h
 simpa using this
theorem str_ne0 {a b : List UInt8} (h : a ≠ b) : ((str a).toList == (str b).toList) = false := by
 rw [Lib.toList_data, Lib.toList_data, str_list, str_list]
 simpa using h
section
variable (w : World) (R : Nat) (T : TV) (k : Nat) (v1 v2 v3 v4 v5 : Value) (x : Tok) (r : List Tok)
end
end Go.Proofs.YtknjhlbhbnldpaaGreatDoor.C


namespace Go.Proofs.YtknjhlbhbnldpaaGreatDoor.C
open Go.RowKit
def Ended (ts : List Tok) : Prop := ∃ p x, ts = p ++ [x] ∧ x.k = 6
theorem Ended.cons {x : Tok} {r : List Tok} (h : Ended (x :: r)) (hk : x.k ≠ 6) : Ended r := by
 obtain ⟨p, y, he, hy⟩ := h
 cases p with
 | nil =>
  simp at he
  exact absurd (he.1 ▸ hy) hk
 | cons a p =>
  simp at he
  exact ⟨p, y, he.2, hy⟩
def NumOk (T : TV) : Prop := ∀ t ∈ T.ts, t.n ≤ 1114111
theorem NumOk.at_ {T : TV} (h : NumOk T) {k : Nat} {x : Tok} {r : List Tok} (hr : T.ts.drop k = x :: r) : x.n ≤ 1114111 := h x (List.mem_of_mem_drop (i := k) (by rw [hr]; simp))
def Two (w : World) (b : Nat) (t : TypeId) (u v : Value) : Prop := w.heap[b]? = some (.cells #[u, v] t (0, 0))
theorem Two.cells {w : World} {b : Nat} {t : TypeId} {u v : Value} (h : Two w b t u v) : w.cell? ⟨b, 0, none⟩ = some u ∧ w.cell? ⟨b, 1, none⟩ = some v := by simp [World.cell?, show w.heap[b]? = _ from h]
theorem Two.frozen {w : World} {b : Nat} {t : TypeId} {u v : Value} (h : Two w b t u v) (i : Nat) : w.frozen? ⟨b, i, none⟩ = false := by simp [World.frozen?, show w.heap[b]? = _ from h]
theorem Two.lt {w : World} {b : Nat} {t : TypeId} {u v : Value} (h : Two w b t u v) : b < w.heap.size := (Array.getElem?_eq_some_iff.1 h).1
theorem Two.alloc {w : World} {b : Nat} {t : TypeId} {u v : Value} (h : Two w b t u v) (o : Obj) : Two (w.alloc o) b t u v := (Below.heap_alloc w o b h.lt).trans h
theorem Two.drew {w : World} {b : Nat} {t : TypeId} {u v : Value} (h : Two w b t u v) : Two w.drew b t u v := h
theorem Two.new (w : World) (t : TypeId) (u v : Value) : Two (w.alloc (.cells #[u, v] t)) w.heap.size t u v := heap_alloc_new w _
section
variable (w : World) (R : Nat) (T : TV) (k : Nat) (v1 v2 v3 v4 v5 : Value)
end
end Go.Proofs.YtknjhlbhbnldpaaGreatDoor.C


namespace Go.Proofs.YtknjhlbhbnldpaaGreatDoor.C
open Go.RowKit
theorem pair_new (w : World) (k : Nat) (a b : Value) (t : TypeId) (hk : w.heap.size = k) : ∀ j u, [a, b][j]? = some u → (w.alloc (.cells #[a, b] t)).cell? ((⟨k, 0, none⟩ : Addr).add j) = some u := by
 subst hk
 intro j u hu
 rw [add_plain, Nat.zero_add, World.cell?_alloc_new]
 simpa using hu
theorem infoRange : (Tryz.prog.info? 109).map (fun i => (i.zero, i.size, i.bytes)) = some (some (.agg #[.int .i32 0, .int .i32 0]), 2, 8) := by kernel_rfl
def prsC (l : List (Int × Int)) : List Value := l.flatMap fun x => [.int .i32 x.1, .int .i32 x.2]
theorem prsC_snoc (l : List (Int × Int)) (x : Int × Int) : prsC (l ++ [x]) = prsC l ++ [.int .i32 x.1, .int .i32 x.2] := by simp [prsC]
def One (w : World) (b : Nat) (t : TypeId) (v : Value) : Prop := w.heap[b]? = some (.cells #[v] t (0, 0))
theorem One.cell {w : World} {b : Nat} {t : TypeId} {v : Value} (h : One w b t v) : w.cell? ⟨b, 0, none⟩ = some v := by simp [World.cell?, show w.heap[b]? = _ from h]
theorem One.lt {w : World} {b : Nat} {t : TypeId} {v : Value} (h : One w b t v) : b < w.heap.size := (Array.getElem?_eq_some_iff.1 h).1
theorem One.kept {w w' : World} {row : Option Nat} {b : Nat} {t : TypeId} {v : Value} (h : One w b t v) (hg : w.grownBy w' row) (hne : some b ≠ row) : One w' b t v := (hg.block b h.lt hne).trans h
theorem One.alloc {w : World} {b : Nat} {t : TypeId} {v : Value} (h : One w b t v) (o : Obj) : One (w.alloc o) b t v := (Below.heap_alloc w o b h.lt).trans h
theorem Two.kept {w w' : World} {row : Option Nat} {b : Nat} {t : TypeId} {u v : Value} (h : Two w b t u v) (hg : w.grownBy w' row) (hne : some b ≠ row) : Two w' b t u v := (hg.block b h.lt hne).trans h
theorem Moved.kept {a w w' : World} {R : Nat} {row : Option Nat} (h : Moved a w R) (hg : w.grownBy w' row) (hr : ∀ g, row = some g → a.heap.size ≤ g) : Moved a w' R :=
 ⟨hg.os.trans h.os, hg.tape.trans h.tape, hg.output.trans h.output, Nat.le_trans h.size hg.size, fun j hj hne => (hg.block j (Nat.lt_of_lt_of_le hj h.size) (fun e => by have := hr j e.symm; omega)).trans (h.block j hj hne)⟩
section
variable (w0 : World) (R : Nat) (T : TV) (v1 v2 v3 v4 v5 : Value) (C Rb : Nat) (nm : Value)
theorem Two.set1 {w : World} {b : Nat} {t : TypeId} {u v : Value} (h : Two w b t u v) (x : Value) : Two (w.setCell ⟨b, 1, none⟩ x) b t u x := by
 obtain ⟨hlt, hk⟩ := Array.getElem?_eq_some_iff.1 h
 show (w.heap.modify b _)[b]? = _
 rw [Array.getElem?_eq_getElem (by rw [Array.size_modify]; exact hlt), Array.getElem_modify_self, hk]
 rfl
end
end Go.Proofs.YtknjhlbhbnldpaaGreatDoor.C


namespace Go.Proofs.YtknjhlbhbnldpaaGreatDoor.C
open Go.RowKit
def putObj (w : World) (b : Nat) (o : Obj) : World := { w with heap := w.heap.setIfInBounds b o }
theorem putObj_size (w : World) (b : Nat) (o : Obj) : (putObj w b o).heap.size = w.heap.size := by simp [putObj]
theorem putObj_at {w : World} {b : Nat} (o : Obj) (hb : b < w.heap.size) : (putObj w b o).heap[b]? = some o := by simp [putObj, hb]
theorem putObj_else (w : World) {b j : Nat} (o : Obj) (h : j ≠ b) : (putObj w b o).heap[j]? = w.heap[j]? := by
 simp only [putObj]
 rw [Array.getElem?_setIfInBounds_ne (Ne.symm h)]
section
variable {P : Program}
theorem run_insert (t k e : TypeId) (kd : TypeDesc) (ht : P.underlying t = some (.map k e)) (hk : P.underlying k = some kd) (w : World) (b : Nat) (es : Array MapEntry) (clock : Nat) (key val : Value)
  (hb : w.heap[b]? = some (.map es clock)) (hkey : MapKept.IsKey kd key) (hf : Instr.findNow kd key es.toList 0 = some none) :
  (Instr.mapUpdate t (.map (some b)) key val).run P w = .ok () (putObj w b (.map (es.push { key := key, val := val, born := clock }) (clock + 1))) := by
 have hc : (Instr.checkKey false 10000 k key).run P w = .ok () w := MapKept.run_checkKey hk hkey false 9999
 simp [Instr.mapUpdate, run_underlying ht, MapKept.run_getObj_map hb, hc, MapKept.run_findKey hk hf, MapKept.run_setObj_map _ hb, Result.andThen, putObj]
theorem run_look_yes (t k e : TypeId) (kd : TypeDesc) (ht : P.underlying t = some (.map k e)) (hk : P.underlying k = some kd) (w : World) (b : Nat) (es : Array MapEntry) (clock : Nat) (key val : Value) (i : Nat)
  (hb : w.heap[b]? = some (.map es clock)) (hkey : MapKept.IsKey kd key) (hf : Instr.findNow kd key es.toList 0 = some (some (i, val))) (c : Bool) :
  (Instr.lookup t (.map (some b)) key c).run P w = .ok (if c then .tuple #[val, .bool true] else val) w := by
 have hc : (Instr.checkKey es.isEmpty 10000 k key).run P w = .ok () w := MapKept.run_checkKey hk hkey _ 9999
 simp [Instr.lookup, run_underlying ht, MapKept.run_getObj_map hb, hc, MapKept.run_findKey hk hf, Result.andThen]
theorem run_look_no (t k e : TypeId) (kd : TypeDesc) (ht : P.underlying t = some (.map k e)) (hk : P.underlying k = some kd) (w : World) (b : Nat) (es : Array MapEntry) (clock : Nat) (key z : Value)
  (hz : (zeroValue e).run P w = .ok z w) (hb : w.heap[b]? = some (.map es clock)) (hkey : MapKept.IsKey kd key) (hf : Instr.findNow kd key es.toList 0 = some none) (c : Bool) :
  (Instr.lookup t (.map (some b)) key c).run P w = .ok (if c then .tuple #[z, .bool false] else z) w := by
 have hc : (Instr.checkKey es.isEmpty 10000 k key).run P w = .ok () w := MapKept.run_checkKey hk hkey _ 9999
 simp [Instr.lookup, run_underlying ht, MapKept.run_getObj_map hb, hc, MapKept.run_findKey hk hf, hz, Result.andThen]
end
def MapIs (w : World) (M : Nat) (kd : TypeDesc) (l : List (Value × Value)) : Prop :=
 ∃ es clock, w.heap[M]? = some (.map es clock) ∧ es.toList.map (fun e => (e.key, e.val)) = l ∧ (∀ x ∈ l, MapKept.IsKey kd x.1) ∧ (l.map Prod.fst).Nodup
section
variable {P : Program} {w : World} {M : Nat} {kd : TypeDesc} {l : List (Value × Value)} {t k e : TypeId} {key v : Value}
theorem MapIs.lt (h : MapIs w M kd l) : M < w.heap.size := by obtain ⟨es, c, h1, _⟩ := h; exact (Array.getElem?_eq_some_iff.1 h1).1
theorem MapIs.at_ {w' : World} (h : MapIs w M kd l) (hb : w'.heap[M]? = w.heap[M]?) : MapIs w' M kd l := by
 obtain ⟨es, c, h1, h2⟩ := h
 exact ⟨es, c, hb.trans h1, h2⟩
theorem MapIs.drewN (h : MapIs w M kd l) (n : Nat) : MapIs (w.drewN n) M kd l := h
theorem MapIs.new (w : World) (kd : TypeDesc) : MapIs (w.alloc (.map #[] 0)) w.heap.size kd [] := ⟨#[], 0, heap_alloc_new w _, rfl, by simp, by simp⟩
theorem MapIs.look_yes (h : MapIs w M kd l) (ht : P.underlying t = some (.map k e)) (hk : P.underlying k = some kd) (hkey : MapKept.IsKey kd key) (hm : (key, v) ∈ l) (c : Bool) :
  (Instr.lookup t (.map (some M)) key c).run P w = .ok (if c then .tuple #[v, .bool true] else v) w := by
 obtain ⟨es, clock, h1, h2, h3, h4⟩ := h
 have hks : ∀ x ∈ es.toList, MapKept.IsKey kd x.key := fun x hx => h3 (x.key, x.val) (by rw [← h2]; exact List.mem_map_of_mem hx)
 rcases MapKept.findNow_spec hkey es.toList 0 hks with ⟨_, hn⟩ | ⟨j, x, hf, hj, hx⟩
 ·rw [← h2, List.mem_map] at hm
  obtain ⟨x, hx, hxe⟩ := hm
  exact absurd (congrArg Prod.fst hxe) (hn x hx)
 ·have hv : x.val = v := by
   have hin : (x.key, x.val) ∈ l := by rw [← h2]; exact List.mem_map_of_mem (List.mem_of_getElem? hj)
   rw [hx] at hin
   have key_inj : ∀ (l : List (Value × Value)), (l.map Prod.fst).Nodup → (key, x.val) ∈ l → (key, v) ∈ l → x.val = v := by
    intro l
    induction l with
    | nil => intro _ h; cases h
    | cons a r ih =>
     intro hn ha hb
     rw [List.map_cons, List.nodup_cons] at hn
     rcases List.mem_cons.1 ha with ha | ha <;> rcases List.mem_cons.1 hb with hb | hb
     ·rw [← ha] at hb; exact (congrArg Prod.snd hb).symm
     ·exact absurd (by rw [← ha]; exact List.mem_map.2 ⟨_, hb, rfl⟩) hn.1
     ·exact absurd (by rw [← hb]; exact List.mem_map.2 ⟨_, ha, rfl⟩) hn.1
     ·exact ih hn.2 ha hb
   exact key_inj l h4 hin hm
  rw [← hv]
  exact run_look_yes t k e kd ht hk w M es clock key x.val _ h1 hkey hf c
theorem MapIs.look_no (h : MapIs w M kd l) (ht : P.underlying t = some (.map k e)) (hk : P.underlying k = some kd) (hkey : MapKept.IsKey kd key) (hm : key ∉ l.map Prod.fst) {z : Value} (hz : (zeroValue e).run P w = .ok z w) (c : Bool) :
  (Instr.lookup t (.map (some M)) key c).run P w = .ok (if c then .tuple #[z, .bool false] else z) w := by
 obtain ⟨es, clock, h1, h2, h3, h4⟩ := h
 have hks : ∀ x ∈ es.toList, MapKept.IsKey kd x.key := fun x hx => h3 (x.key, x.val) (by rw [← h2]; exact List.mem_map_of_mem hx)
 rcases MapKept.findNow_spec hkey es.toList 0 hks with ⟨hf, _⟩ | ⟨j, x, hf, hj, hx⟩
 ·exact run_look_no t k e kd ht hk w M es clock key z hz h1 hkey hf c
 ·exfalso
  apply hm
  rw [← h2, List.map_map, List.mem_map]
  exact ⟨x, List.mem_of_getElem? hj, hx⟩
theorem MapIs.put_new (h : MapIs w M kd l) (ht : P.underlying t = some (.map k e)) (hk : P.underlying k = some kd) (hkey : MapKept.IsKey kd key) (hm : key ∉ l.map Prod.fst) (val : Value) :
  ∃ o, (Instr.mapUpdate t (.map (some M)) key val).run P w = .ok () (putObj w M o) ∧ MapIs (putObj w M o) M kd (l ++ [(key, val)]) := by
 have hlt := h.lt
 obtain ⟨es, clock, h1, h2, h3, h4⟩ := h
 have hks : ∀ x ∈ es.toList, MapKept.IsKey kd x.key := fun x hx => h3 (x.key, x.val) (by rw [← h2]; exact List.mem_map_of_mem hx)
 rcases MapKept.findNow_spec hkey es.toList 0 hks with ⟨hf, _⟩ | ⟨j, x, hf, hj, hx⟩
 ·refine ⟨_, run_insert t k e kd ht hk w M es clock key val h1 hkey hf, _, _, putObj_at _ hlt, ?_, ?_, ?_⟩
  ·rw [Array.toList_push, List.map_append, h2]; rfl
  ·intro x hx
   rcases List.mem_append.1 hx with hx | hx
   ·exact h3 x hx
   ·rw [List.mem_singleton] at hx; subst hx; exact hkey
  ·rw [List.map_append, List.nodup_append]
   refine ⟨h4, by simp, ?_⟩
   intro a ha b hb
   simp only [List.map_cons, List.map_nil, List.mem_singleton] at hb
   subst hb
   rintro rfl
   exact hm ha
 ·exfalso
  apply hm
  rw [← h2, List.map_map, List.mem_map]
  exact ⟨x, List.mem_of_getElem? hj, hx⟩
theorem MapIs.put_old (h : MapIs w M kd l) (ht : P.underlying t = some (.map k e)) (hk : P.underlying k = some kd) (hkey : MapKept.IsKey kd key) (hm : key ∈ l.map Prod.fst) (val : Value) :
  ∃ o, (Instr.mapUpdate t (.map (some M)) key val).run P w = .ok () (putObj w M o) := by
 obtain ⟨es, clock, h1, h2, h3, h4⟩ := h
 have hks : ∀ x ∈ es.toList, MapKept.IsKey kd x.key := fun x hx => h3 (x.key, x.val) (by rw [← h2]; exact List.mem_map_of_mem hx)
 rcases MapKept.findNow_spec hkey es.toList 0 hks with ⟨_, hn⟩ | ⟨j, x, hf, hj, hx⟩
 ·exfalso
  rw [← h2, List.map_map, List.mem_map] at hm
  obtain ⟨x, hx, hxe⟩ := hm
  exact hn x hx hxe
 ·have hj' : es[j]? = some x := by simpa using hj
  have hc : (Instr.checkKey false 10000 k key).run P w = .ok () w := MapKept.run_checkKey hk hkey false 9999
  exact ⟨_, by simp [Instr.mapUpdate, run_underlying ht, MapKept.run_getObj_map h1, hc, MapKept.run_findKey hk hf, hj', hx, MapKept.run_keyThatStays hkey, MapKept.run_setObj_map _ h1, Result.andThen, putObj]; rfl⟩
end
theorem putObj_only {w : World} {M : Nat} (o : Obj) : w.grownBy (putObj w M o) (some M) := ⟨rfl, rfl, rfl, by rw [putObj_size]; exact Nat.le_refl _, fun i _ hne => putObj_else w o (fun e => hne (by rw [e]))⟩
def FT (w : World) (t : TypeId) (kd : TypeDesc) (A M : Nat) (keys : List Value) : Prop :=
 w.heap[A]? = some (.cells #[.map (some M)] t (0, 0)) ∧ MapIs w M kd (keys.map fun k => (k, .bool true))
theorem FT.next {w w' : World} {t : TypeId} {kd : TypeDesc} {A M : Nat} {keys : List Value} (h : FT w t kd A M keys) (hA : w'.heap[A]? = w.heap[A]?) (hM : w'.heap[M]? = w.heap[M]?) : FT w' t kd A M keys := ⟨hA.trans h.1, h.2.at_ hM⟩
theorem FT.cell {w : World} {t : TypeId} {kd : TypeDesc} {A M : Nat} {keys : List Value} (h : FT w t kd A M keys) : w.cell? ⟨A, 0, none⟩ = some (.map (some M)) := by simp [World.cell?, h.1]
theorem FT.ne {w : World} {t : TypeId} {kd : TypeDesc} {A M : Nat} {keys : List Value} (h : FT w t kd A M keys) : A ≠ M := by
 rintro rfl
 obtain ⟨es, c, h1, _⟩ := h.2
 rw [h.1] at h1
 cases h1
theorem map_keys (keys : List Value) : (keys.map fun k => (k, Value.bool true)).map Prod.fst = keys := by induction keys <;> simp_all
theorem zeroBoolS (w : World) : (zeroValue 4).run Tryz.prog w = .ok (.bool false) w := by kernel_rfl
set_option maxRecDepth 100000 in
set_option maxHeartbeats 1000000 in
theorem firstS_any (w : World) : Calls Tryz.prog 99 #[] w fun e w' => e = .returned (.func (.func 128) #[] #[.pointer (some ⟨w.heap.size + 1, 0, none⟩)]) ∧ FT w' 200 .string (w.heap.size + 1) w.heap.size [] ∧ Below w.heap.size w w' ∧ w'.heap.size = w.heap.size + 2 := by
 have hmf : ∀ (fn : Fn) (first cap : Array Value) (w : World), (Instr.makeFunc fn first cap).run Tryz.prog w = .ok (.func fn first cap) w := fun _ _ _ _ => rfl
 have hmm := @run_makeMap Tryz.prog
 have hA := heap_alloc_new (w.alloc (.map #[] 0)) (.cells #[.map (some w.heap.size)] 200)
 rw [World.size_alloc] at hA
 have hM : MapIs ((w.alloc (.map #[] 0)).alloc (.cells #[.map (some w.heap.size)] 200)) w.heap.size .string [] := (MapIs.new w .string).at_ (heap_lt _ _ (by simp))
 have HF : Hid (FT ((w.alloc (.map #[] 0)).alloc (.cells #[.map (some w.heap.size)] 200)) 200 .string (w.heap.size + 1) w.heap.size []) := Lib.hid ⟨hA, hM⟩
 clear hA hM
 go_enter Tryz.func99, Tryz.ntmps99
 go_wp2
 go_ret
 exact ⟨rfl, HF.out, ((Below.refl _ w).alloc (Nat.le_refl _) _).alloc (by simp) _, by simp⟩
set_option maxRecDepth 100000 in
set_option maxHeartbeats 1000000 in
theorem isNewS_yes (w : World) (A M : Nat) (keys : List Value) (s : ByteArray) (h : FT w 200 .string A M keys) (hs : (.string s) ∉ keys) :
  Calls Tryz.prog 128 #[(.string s), .pointer (some ⟨A, 0, none⟩)] w fun e w' => e = .returned (.bool true) ∧ FT w' 200 .string A M (keys ++ [(.string s)]) ∧ w.grownBy w' (some M) := by
 have hc := h.cell
 have hne := h.ne
 have q1 := h.2.look_no Tryz.underlying200 Tryz.underlying9 (key := (.string s)) (by first | trivial | rfl) (by rw [map_keys]; exact hs) (zeroBoolS w) false
 obtain ⟨o, q2, hM⟩ := h.2.put_new Tryz.underlying200 Tryz.underlying9 (key := (.string s)) (by first | trivial | rfl) (by rw [map_keys]; exact hs) (.bool true)
 have HF : Hid (FT (putObj w M o) 200 .string A M (keys ++ [(.string s)])) := Lib.hid ⟨(putObj_else w o hne).trans h.1, by rw [List.map_append]; exact hM⟩
 have HO : Hid (w.grownBy (putObj w M o) (some M)) := Lib.hid (putObj_only o)
 clear h hM hs
 go_enter Tryz.func128, Tryz.ntmps128
 go_wp2
 go_ret
 exact ⟨rfl, HF.out, HO.out⟩
set_option maxRecDepth 100000 in
set_option maxHeartbeats 1000000 in
theorem isNewS_no (w : World) (A M : Nat) (keys : List Value) (s : ByteArray) (h : FT w 200 .string A M keys) (hs : (.string s) ∈ keys) :
  Calls Tryz.prog 128 #[(.string s), .pointer (some ⟨A, 0, none⟩)] w fun e w' => e = .returned (.bool false) ∧ w.grownBy w' (some M) := by
 have hc := h.cell
 have q1 := h.2.look_yes Tryz.underlying200 Tryz.underlying9 (key := (.string s)) (v := .bool true) (by first | trivial | rfl) (List.mem_map_of_mem hs) false
 obtain ⟨o, q2⟩ := h.2.put_old Tryz.underlying200 Tryz.underlying9 (key := (.string s)) (by first | trivial | rfl) (by rw [map_keys]; exact hs) (.bool true)
 have HO : Hid (w.grownBy (putObj w M o) (some M)) := Lib.hid (putObj_only o)
 clear h hs
 go_enter Tryz.func128, Tryz.ntmps128
 go_wp2
 go_ret
 exact ⟨rfl, HO.out⟩
theorem zeroBoolC (w : World) : (zeroValue 4).run Tryz.prog w = .ok (.bool false) w := by kernel_rfl
set_option maxRecDepth 100000 in
set_option maxHeartbeats 1000000 in
theorem firstC_any (w : World) : Calls Tryz.prog 105 #[] w fun e w' => e = .returned (.func (.func 133) #[] #[.pointer (some ⟨w.heap.size + 1, 0, none⟩)]) ∧ FT w' 202 (.int .i32) (w.heap.size + 1) w.heap.size [] ∧ Below w.heap.size w w' ∧ w'.heap.size = w.heap.size + 2 := by
 have hmf : ∀ (fn : Fn) (first cap : Array Value) (w : World), (Instr.makeFunc fn first cap).run Tryz.prog w = .ok (.func fn first cap) w := fun _ _ _ _ => rfl
 have hmm := @run_makeMap Tryz.prog
 have hA := heap_alloc_new (w.alloc (.map #[] 0)) (.cells #[.map (some w.heap.size)] 202)
 rw [World.size_alloc] at hA
 have hM : MapIs ((w.alloc (.map #[] 0)).alloc (.cells #[.map (some w.heap.size)] 202)) w.heap.size (.int .i32) [] := (MapIs.new w (.int .i32)).at_ (heap_lt _ _ (by simp))
 have HF : Hid (FT ((w.alloc (.map #[] 0)).alloc (.cells #[.map (some w.heap.size)] 202)) 202 (.int .i32) (w.heap.size + 1) w.heap.size []) := Lib.hid ⟨hA, hM⟩
 clear hA hM
 go_enter Tryz.func105, Tryz.ntmps105
 go_wp2
 go_ret
 exact ⟨rfl, HF.out, ((Below.refl _ w).alloc (Nat.le_refl _) _).alloc (by simp) _, by simp⟩
set_option maxRecDepth 100000 in
set_option maxHeartbeats 1000000 in
theorem isNewC_yes (w : World) (A M : Nat) (keys : List Value) (s : Int) (h : FT w 202 (.int .i32) A M keys) (hs : (.int .i32 s) ∉ keys) :
  Calls Tryz.prog 133 #[(.int .i32 s), .pointer (some ⟨A, 0, none⟩)] w fun e w' => e = .returned (.bool true) ∧ FT w' 202 (.int .i32) A M (keys ++ [(.int .i32 s)]) ∧ w.grownBy w' (some M) := by
 have hc := h.cell
 have hne := h.ne
 have q1 := h.2.look_no Tryz.underlying202 Tryz.underlying23 (key := (.int .i32 s)) (by first | trivial | rfl) (by rw [map_keys]; exact hs) (zeroBoolC w) false
 obtain ⟨o, q2, hM⟩ := h.2.put_new Tryz.underlying202 Tryz.underlying23 (key := (.int .i32 s)) (by first | trivial | rfl) (by rw [map_keys]; exact hs) (.bool true)
 have HF : Hid (FT (putObj w M o) 202 (.int .i32) A M (keys ++ [(.int .i32 s)])) := Lib.hid ⟨(putObj_else w o hne).trans h.1, by rw [List.map_append]; exact hM⟩
 have HO : Hid (w.grownBy (putObj w M o) (some M)) := Lib.hid (putObj_only o)
 clear h hM hs
 go_enter Tryz.func133, Tryz.ntmps133
 go_wp2
 go_ret
 exact ⟨rfl, HF.out, HO.out⟩
set_option maxRecDepth 100000 in
set_option maxHeartbeats 1000000 in
theorem isNewC_no (w : World) (A M : Nat) (keys : List Value) (s : Int) (h : FT w 202 (.int .i32) A M keys) (hs : (.int .i32 s) ∈ keys) :
  Calls Tryz.prog 133 #[(.int .i32 s), .pointer (some ⟨A, 0, none⟩)] w fun e w' => e = .returned (.bool false) ∧ w.grownBy w' (some M) := by
 have hc := h.cell
 have q1 := h.2.look_yes Tryz.underlying202 Tryz.underlying23 (key := (.int .i32 s)) (v := .bool true) (by first | trivial | rfl) (List.mem_map_of_mem hs) false
 obtain ⟨o, q2⟩ := h.2.put_old Tryz.underlying202 Tryz.underlying23 (key := (.int .i32 s)) (by first | trivial | rfl) (by rw [map_keys]; exact hs) (.bool true)
 have HO : Hid (w.grownBy (putObj w M o) (some M)) := Lib.hid (putObj_only o)
 clear h hs
 go_enter Tryz.func133, Tryz.ntmps133
 go_wp2
 go_ret
 exact ⟨rfl, HO.out⟩
end Go.Proofs.YtknjhlbhbnldpaaGreatDoor.C


namespace Go.Proofs.YtknjhlbhbnldpaaGreatDoor.C
open Go.RowKit
structure Fr (w w' : World) (X : Nat → Prop) : Prop where
 os : w'.os = w.os
 tape : w'.tape = w.tape
 output : w'.output = w.output
 size : w.heap.size ≤ w'.heap.size
 block : ∀ b, b < w.heap.size → ¬ X b → w'.heap[b]? = w.heap[b]?
section
variable {a b c w w' : World} {X Y : Nat → Prop}
theorem Fr.of_moved {R : Nat} (h : Moved w w' R) : Fr w w' (· = R) := ⟨h.os, h.tape, h.output, h.size, fun j hj hn => h.block j hj (fun e => hn (by injection e))⟩
theorem Fr.of_grown {row : Option Nat} (h : w.grownBy w' row) : Fr w w' (fun j => row = some j) := ⟨h.os, h.tape, h.output, h.size, fun j hj hn => h.block j hj (fun e => hn e.symm)⟩
theorem Fr.of_below (h : Below w.heap.size w w') : Fr w w' X := ⟨h.os, h.tape, h.output, h.size, fun j hj _ => h.block j hj⟩
theorem Fr.trans (h : Fr a b X) (k : Fr b c X) : Fr a c X := ⟨k.os.trans h.os, k.tape.trans h.tape, k.output.trans h.output, Nat.le_trans h.size k.size, fun j hj hn => (k.block j (Nat.lt_of_lt_of_le hj h.size) hn).trans (h.block j hj hn)⟩
theorem Fr.mono (h : Fr a b X) (hX : ∀ j, j < a.heap.size → X j → Y j) : Fr a b Y := ⟨h.os, h.tape, h.output, h.size, fun j hj hn => h.block j hj (fun hx => hn (hX j hj hx))⟩
theorem Fr.next (h : Fr a b X) (k : Fr b c Y) (hY : ∀ j, j < a.heap.size → Y j → X j) : Fr a c X := ⟨k.os.trans h.os, k.tape.trans h.tape, k.output.trans h.output, Nat.le_trans h.size k.size, fun j hj hn => (k.block j (Nat.lt_of_lt_of_le hj h.size) (fun hy => hn (hY j hj hy))).trans (h.block j hj hn)⟩
theorem Fr.alloc (h : Fr a b X) (o : Obj) : Fr a (b.alloc o) X := h.trans (.of_below ((Below.refl _ _).alloc (Nat.le_refl _) o))
theorem Fr.drew (h : Fr a b X) : Fr a b.drew X := ⟨h.os, h.tape, h.output, h.size, h.block⟩
theorem Fr.set (h : Fr a b X) (p : Addr) (u : Value) (hp : p.block < a.heap.size → X p.block) : Fr a (b.setCell p u) X :=
 ⟨h.os, h.tape, h.output, by simpa [World.setCell] using h.size, fun j hj hn => (Below.heap_setCell b p u j (fun e => hn (e ▸ hp (e ▸ hj)))).trans (h.block j hj hn)⟩
theorem Fr.below {B : Nat} (h : Fr a b X) (hX : ∀ j, j < a.heap.size → X j → B ≤ j) (hB : B ≤ a.heap.size) : Below B a b := ⟨h.os, h.tape, h.output, h.size, fun j hj => h.block j (by omega) (fun hx => by have := hX j (by omega) hx; omega)⟩
theorem ownsRow_fr {base size n : Nat} {e : TypeId} {v : Value} {xs : List Value} (h : w.ownsRow base e size v n xs) (hf : Fr w w' X) (hx : ∀ g, v.ownBlock = some g → ¬ X g) : w'.ownsRow base e size v n xs := by
 have hl := h.lt
 obtain ⟨h1, h2⟩ := h
 refine ⟨h1, h2.imp id ?_⟩
 rintro ⟨g, cap, cur, rfl, hg, hh, r⟩
 exact ⟨g, cap, cur, rfl, hg, (hf.block g (hl g rfl).2 (hx g rfl)).trans hh, r⟩
theorem One.fr {j : Nat} {t : TypeId} {v : Value} (h : One w j t v) (hf : Fr w w' X) (hx : ¬ X j) : One w' j t v := (hf.block j h.lt hx).trans h
theorem Two.fr {j : Nat} {t : TypeId} {u v : Value} (h : Two w j t u v) (hf : Fr w w' X) (hx : ¬ X j) : Two w' j t u v := (hf.block j h.lt hx).trans h
theorem One.drew {j : Nat} {t : TypeId} {v : Value} (h : One w j t v) : One w.drew j t v := h
theorem MapIs.fr {M : Nat} {kd : TypeDesc} {l : List (Value × Value)} (h : MapIs w M kd l) (hf : Fr w w' X) (hx : ¬ X M) : MapIs w' M kd l := h.at_ (hf.block M h.lt hx)
theorem FT.lt {t : TypeId} {kd : TypeDesc} {A M : Nat} {keys : List Value} (h : FT w t kd A M keys) : A < w.heap.size := (Array.getElem?_eq_some_iff.1 h.1).1
theorem FT.fr {t : TypeId} {kd : TypeDesc} {A M : Nat} {keys : List Value} (h : FT w t kd A M keys) (hf : Fr w w' X) (hA : ¬ X A) (hM : ¬ X M) : FT w' t kd A M keys := h.next (hf.block A h.lt hA) (hf.block M h.2.lt hM)
end
theorem set_row {w : World} {R i : Nat} {l : List Value} {t : TypeId} (h : w.heap[R]? = some (.cells l.toArray t (0, 0))) (u : Value) : (w.setCell ⟨R, i, none⟩ u).heap[R]? = some (.cells (l.set i u).toArray t (0, 0)) := by
 obtain ⟨hlt, hk⟩ := Array.getElem?_eq_some_iff.1 h
 show (w.heap.modify R _)[R]? = _
 rw [Array.getElem?_eq_getElem (by rw [Array.size_modify]; exact hlt), Array.getElem_modify_self, hk]
 simp
def clsC (cs : List Cls) (vs : List Value) : List Value := (cs.zip vs).flatMap fun x => [.string (str x.1.name), x.2]
theorem clsC_snoc {cs : List Cls} {vs : List Value} (h : vs.length = cs.length) (c : Cls) (v : Value) : clsC (cs ++ [c]) (vs ++ [v]) = clsC cs vs ++ [.string (str c.name), v] := by
 unfold clsC
 rw [List.zip_append h.symm]
 simp
def ClsAt (w : World) (lo : Nat) (v : Value) (cs : List Cls) : Prop :=
 ∃ vs : List Value, vs.length = cs.length ∧ w.ownsRow lo 86 2 v cs.length (clsC cs vs) ∧ ∀ (i : Nat) (c : Cls) (x : Value), cs[i]? = some c → vs[i]? = some x → w.ownsRow lo 109 2 x c.rs.length (prsC c.rs)
theorem ClsAt.nil (w : World) (lo : Nat) : ClsAt w lo (.slice none 0 0) [] := ⟨[], rfl, ⟨rfl, .inl ⟨rfl, rfl⟩⟩, by simp⟩
theorem ownsRow_ty {w : World} {base size n : Nat} {e : TypeId} {v : Value} {xs : List Value} (h : w.ownsRow base e size v n xs) {g : Nat} (hg : v.ownBlock = some g) : ∃ c, w.heap[g]? = some (.cells c e (0, 0)) := by
 rcases h.2 with ⟨rfl, _⟩ | ⟨g', cap, cur, rfl, _, hh, _⟩
 ·cases hg
 ·injection hg with hg
  subst hg
  exact ⟨cur, hh⟩
theorem ClsAt.fr {w w' : World} {X : Nat → Prop} {lo : Nat} {v : Value} {cs : List Cls} (h : ClsAt w lo v cs) (hf : Fr w w' X) (hx : ∀ g c z t, X g → w.heap[g]? = some (.cells c t z) → t ≠ 86 ∧ t ≠ 109) : ClsAt w' lo v cs := by
 obtain ⟨vs, h1, h2, h3⟩ := h
 refine ⟨vs, h1, ownsRow_fr h2 hf ?_, fun i c x hc hv => ownsRow_fr (h3 i c x hc hv) hf ?_⟩
 ·intro g hg hX
  obtain ⟨c, hc⟩ := ownsRow_ty h2 hg
  exact (hx g _ _ _ hX hc).1 rfl
 ·intro g hg hX
  obtain ⟨c, hc⟩ := ownsRow_ty (h3 i c x hc hv) hg
  exact (hx g _ _ _ hX hc).2 rfl
theorem ClsAt.next {w w' : World} {lo : Nat} {v : Value} {cs : List Cls} (h : ClsAt w lo v cs) (hb : Below w.heap.size w w') : ClsAt w' lo v cs := h.fr (X := fun _ => False) (.of_below hb) (by rintro _ _ _ _ ⟨⟩)
theorem ClsAt.snoc {w w' : World} {lo g cap : Nat} {v x : Value} {cs : List Cls} {vs : List Value} (c : Cls) (h1 : vs.length = cs.length) (h2 : w.ownsRow lo 86 2 v cs.length (clsC cs vs)) (h3 : ∀ (i : Nat) (c : Cls) (x : Value), cs[i]? = some c → vs[i]? = some x → w.ownsRow lo 109 2 x c.rs.length (prsC c.rs))
  (hx : w.ownsRow lo 109 2 x c.rs.length (prsC c.rs))
  (hg : w.grownBy w' v.ownBlock) (ho : w'.ownsRow lo 86 2 (.slice (some ⟨g, 0, none⟩) (cs.length + 1) cap) (cs.length + 1) (clsC cs vs ++ [.string (str c.name), x])) :
  ClsAt w' lo (.slice (some ⟨g, 0, none⟩) (cs.length + 1) cap) (cs ++ [c]) := by
 have key : ∀ {n : Nat} {u : Value} {xs : List Value}, w.ownsRow lo 109 2 u n xs → w'.ownsRow lo 109 2 u n xs := fun hu => hu.kept hg (by
  rcases hb : (Value.ownBlock _) with _ | g1
  ·exact .inl rfl
  ·refine .inr fun e => ?_
   obtain ⟨c1, hc1⟩ := ownsRow_ty hu hb
   obtain ⟨c2, hc2⟩ := ownsRow_ty h2 e.symm
   rw [hc1] at hc2
   injection hc2 with hc2
   injection hc2 with _ hc2
   cases hc2)
 refine ⟨vs ++ [x], by simp [h1], by rw [clsC_snoc h1, List.length_append]; exact ho, ?_⟩
 intro i d y hd hy
 rcases Nat.lt_or_ge i cs.length with hi | hi
 ·rw [List.getElem?_append_left hi] at hd
  rw [List.getElem?_append_left (by omega)] at hy
  exact key (h3 i d y hd hy)
 ·rw [List.getElem?_append_right hi] at hd
  rw [List.getElem?_append_right (by omega), h1] at hy
  have e0 : i - cs.length = 0 := by
   rcases hq : i - cs.length with _ | q
   ·rfl
   ·rw [hq] at hd
    simp at hd
  rw [e0] at hd hy
  simp at hd hy
  subst hd hy
  exact key hx
end Go.Proofs.YtknjhlbhbnldpaaGreatDoor.C


namespace Go.Proofs.YtknjhlbhbnldpaaGreatDoor.C
open Go.RowKit
section
variable (w : World) (R : Nat) (T : TV) (k : Nat) (v1 v2 v3 v4 v5 : Value) (Rb : Nat) (nm : Value)
end
theorem infoClass : (Tryz.prog.info? 86).map (fun i => (i.zero, i.size, i.bytes)) = some (some (.agg #[.string (str []), .slice none 0 0]), 2, 40) := by kernel_rfl
end Go.Proofs.YtknjhlbhbnldpaaGreatDoor.C


namespace Go.Proofs.YtknjhlbhbnldpaaGreatDoor.C
def nums : List Nat := [0, 1, 2, 3, 4, 5, 6, 7, 8, 9, 10, 11, 12, 13, 14, 15, 16, 17, 18, 19, 20, 21, 22, 23, 24, 25, 26, 27, 28, 29, 30, 31, 32, 33, 34, 35, 36, 37, 38, 39, 40, 41, 42, 43, 44, 45, 46, 47]
def nextF (l : Array Bool) : List Nat := nums.drop (l.toList.findIdx (!·))
end Go.Proofs.YtknjhlbhbnldpaaGreatDoor.C


namespace Go.Proofs.YtknjhlbhbnldpaaGreatDoor.C
open Go.RowKit
section
variable (w : World) (lo R : Nat) (T : TV) (k : Nat) (v1 v2 v3 v4 v5 : Value) (Rb Ab A M : Nat) (cs : List Cls)
def FnS (A : Nat) : Value := .func (.func 128) #[] #[.pointer (some ⟨A, 0, none⟩)]
end
end Go.Proofs.YtknjhlbhbnldpaaGreatDoor.C


namespace Go.Proofs.YtknjhlbhbnldpaaGreatDoor.C
open Go.RowKit
section
variable {l : List (Int × Int)} {a b x : Tok} {r : List Tok}
end
theorem One.nomap {w : World} {j M : Nat} {t : TypeId} {v : Value} {kd : TypeDesc} {l : List (Value × Value)} (h : One w j t v) (hm : MapIs w M kd l) : j ≠ M := by
 rintro rfl
 obtain ⟨es, c, h1, _⟩ := hm
 have e := h.symm.trans h1
 simp at e
theorem row_nomap {w : World} {base size n M : Nat} {e : TypeId} {v : Value} {xs : List Value} {kd : TypeDesc} {l : List (Value × Value)} (h : w.ownsRow base e size v n xs) (hm : MapIs w M kd l) : ¬ v.ownBlock = some M := by
 intro he
 obtain ⟨c, hc⟩ := ownsRow_ty h he
 obtain ⟨es, q, h1, _⟩ := hm
 rw [h1] at hc
 cases hc
theorem infoPair : (Tryz.prog.info? 95).map (fun i => (i.zero, i.size, i.bytes)) = some (some (.agg #[.int .i32 0, .int .i32 0]), 2, 8) := by kernel_rfl
section
variable {w0 : World} {u0 : Value} {lo R : Nat} {T : TV} {v1 v3 v4 v5 : Value} {A M Rb Ab Tb : Nat} {u : Value} {ks : List Value} {l : List (Int × Int)} {k : Nat} {W W' : World}
end
section
variable {w0 : World} {u0 : Value} {lo R : Nat} {T : TV} {v1 v2 v4 v5 : Value} {A M Rb Ab Tb : Nat} {u : Value} {ks : List Value} {l : List (Int × Int)} {k : Nat} {W W' : World}
end
end Go.Proofs.YtknjhlbhbnldpaaGreatDoor.C


namespace Go.Proofs.YtknjhlbhbnldpaaGreatDoor.C
open Go.RowKit
theorem One.frozen {w : World} {b : Nat} {t : TypeId} {v : Value} (h : One w b t v) (i : Nat) : w.frozen? ⟨b, i, none⟩ = false := by simp [World.frozen?, show w.heap[b]? = _ from h]
theorem row_form {w : World} {lo n sz : Nat} {v : Value} {xs : List Value} {e : TypeId} (h : w.ownsRow lo e sz v n xs) : ∃ A c, v = .slice A n c := by
 rcases Joins.ownsRow_forms h with ⟨rfl, h0⟩ | ⟨g, c, rfl⟩
 ·exact ⟨none, 0, by rw [h0]⟩
 ·exact ⟨_, _, rfl⟩
theorem ClsAt.form {w : World} {lo : Nat} {v : Value} {cs : List Cls} (h : ClsAt w lo v cs) : ∃ A c, v = .slice A cs.length c := by
 obtain ⟨vs, _, h2, _⟩ := h
 exact row_form h2
def LocZ (w : World) (b : Nat) (v1 v2 v3 v4 : Value) : Prop := w.heap[b]? = some (.cells #[v1, v2, v3, v4] 30 (0, 0))
theorem LocZ.cells {w : World} {b : Nat} {v1 v2 v3 v4 : Value} (h : LocZ w b v1 v2 v3 v4) : w.cell? ⟨b, 0, none⟩ = some v1 ∧ w.cell? ⟨b, 1, none⟩ = some v2 ∧ w.cell? ⟨b, 2, none⟩ = some v3 ∧ w.cell? ⟨b, 3, none⟩ = some v4 := by
 simp [World.cell?, show w.heap[b]? = _ from h]
theorem LocZ.frozen {w : World} {b : Nat} {v1 v2 v3 v4 : Value} (h : LocZ w b v1 v2 v3 v4) (i : Nat) : w.frozen? ⟨b, i, none⟩ = false := by simp [World.frozen?, show w.heap[b]? = _ from h]
theorem LocZ.lt {w : World} {b : Nat} {v1 v2 v3 v4 : Value} (h : LocZ w b v1 v2 v3 v4) : b < w.heap.size := (Array.getElem?_eq_some_iff.1 h).1
end Go.Proofs.YtknjhlbhbnldpaaGreatDoor.C


namespace Go.Proofs.YtknjhlbhbnldpaaGreatDoor.C
open Go.RowKit
theorem dig_inj : ∀ a, a < 16 → ∀ b, b < 16 → dig a = dig b → a = b := by decide +kernel
theorem dig_no : ∀ a, a < 16 → dig a ≠ 125 := by decide +kernel
theorem hexL_ne : ∀ (n : Nat), hexL n ≠ [] := by
 intro n
 by_cases h : n < 16
 ·rw [hexL_small h]; simp
 ·rw [hexL_big h]; simp
theorem hexL_no (n : Nat) : (125 : UInt8) ∉ hexL n := by
 induction n using Nat.strongRecOn with
 | _ n ih =>
  by_cases h : n < 16
  ·rw [hexL_small h, List.mem_singleton]
   exact fun e => dig_no n h e.symm
  ·rw [hexL_big h, List.mem_append, List.mem_singleton]
   rintro (e | e)
   ·exact ih (n / 16) (by omega) e
   ·exact dig_no (n % 16) (by omega) e.symm
theorem hexL_inj : ∀ (a b : Nat), hexL a = hexL b → a = b := by
 intro a
 induction a using Nat.strongRecOn with
 | _ a ih =>
  intro b h
  by_cases ha : a < 16
  ·by_cases hb : b < 16
   ·rw [hexL_small ha, hexL_small hb] at h
    exact dig_inj a ha b hb (by simpa using h)
   ·rw [hexL_small ha, hexL_big hb] at h
    have := congrArg List.length h
    simp at this
    exact absurd this (hexL_ne _)
  ·by_cases hb : b < 16
   ·rw [hexL_small hb, hexL_big ha] at h
    have := congrArg List.length h
    simp at this
    exact absurd this (hexL_ne _)
   ·rw [hexL_big ha, hexL_big hb] at h
    have h2 := List.append_inj' h rfl
    have h3 := ih (a / 16) (by omega) (b / 16) h2.1
    have h4 := dig_inj (a % 16) (by omega) (b % 16) (by omega) (by simpa using h2.2)
    omega
theorem shown_kind {c : Int} (hc : rightB c = true) : (∃ m : Nat, m < 256 ∧ c = -1 - m ∧ shown c = [92, 120, dig (m / 16), dig (m % 16)]) ∨ (c = 92 ∧ shown c = [92, 92]) ∨ (c = 10 ∧ shown c = [92, 110]) ∨
  (∃ n : Nat, 32 ≤ n ∧ n ≤ 126 ∧ n ≠ 92 ∧ c = n ∧ shown c = [n.toUInt8]) ∨ (∃ n : Nat, c = n ∧ shown c = 92 :: 117 :: 123 :: (hexL n ++ [125])) := by
 have hr : -256 ≤ c ∧ c < 55296 ∨ 57343 < c ∧ c ≤ 1114111 := by
  unfold rightB at hc
  simpa using hc
 by_cases h1 : -256 ≤ c ∧ c < 0
 ·exact .inl ⟨(-1 - c).toNat, by omega, by omega, by unfold shown; rw [if_pos h1]⟩
 ·by_cases h2 : c = 92
  ·exact .inr (.inl ⟨h2, by subst h2; rfl⟩)
  ·by_cases h3 : c = 10
   ·exact .inr (.inr (.inl ⟨h3, by subst h3; rfl⟩))
   ·by_cases h4 : 32 ≤ c ∧ c ≤ 126
    ·refine .inr (.inr (.inr (.inl ⟨c.toNat, by omega, by omega, by omega, by omega, ?_⟩)))
     unfold shown
     rw [if_neg h1, if_neg (fun h => h hr), if_neg h2, if_neg h3, if_pos h4]
    ·refine .inr (.inr (.inr (.inr ⟨c.toNat, by omega, ?_⟩)))
     unfold shown
     rw [if_neg h1, if_neg (fun h => h hr), if_neg h2, if_neg h3, if_neg h4]
     simp
theorem u8_eq {a b : Nat} (ha : a < 256) (hb : b < 256) (h : a.toUInt8 = b.toUInt8) : a = b := by
 have := congrArg UInt8.toNat h
 simp at this
 omega
theorem split_125 : ∀ {a b x y : List UInt8}, (125 : UInt8) ∉ a → (125 : UInt8) ∉ b → a ++ 125 :: x = b ++ 125 :: y → a = b ∧ x = y
 | [], [], x, y, _, _, h => ⟨rfl, by simpa using h⟩
 | [], c :: b, x, y, _, hb, h => by
  simp at h
  exact absurd (h.1 ▸ List.mem_cons_self) hb
 | c :: a, [], x, y, ha, _, h => by
  simp at h
  exact absurd (h.1 ▸ List.mem_cons_self) ha
 | c :: a, d :: b, x, y, ha, hb, h => by
  simp only [List.cons_append, List.cons.injEq] at h
  obtain ⟨h1, h2⟩ := split_125 (fun e => ha (List.mem_cons_of_mem _ e)) (fun e => hb (List.mem_cons_of_mem _ e)) h.2
  exact ⟨by rw [h.1, h1], h2⟩
theorem u8_92 {n : Nat} (h1 : n ≤ 126) (h : n.toUInt8 = 92) : n = 92 := u8_eq (by omega) (by omega) h
theorem shown_cut {a b : Int} (ha : rightB a = true) (hb : rightB b = true) {x y : List UInt8} (h : shown a ++ x = shown b ++ y) : a = b ∧ x = y := by
 rcases shown_kind ha with ⟨m, m1, m2, e1⟩ | ⟨m2, e1⟩ | ⟨m2, e1⟩ | ⟨m, m0, m1, m3, m2, e1⟩ | ⟨m, m2, e1⟩ <;>
 rcases shown_kind hb with ⟨n, n1, n2, e2⟩ | ⟨n2, e2⟩ | ⟨n2, e2⟩ | ⟨n, n0, n1, n3, n2, e2⟩ | ⟨n, n2, e2⟩ <;>
 rw [e1, e2] at h <;> simp only [List.cons_append, List.nil_append, List.cons.injEq, List.append_assoc] at h
 ·have h1 := dig_inj (m / 16) (by omega) (n / 16) (by omega) h.2.2.1
  have h2 := dig_inj (m % 16) (by omega) (n % 16) (by omega) h.2.2.2.1
  exact ⟨by omega, h.2.2.2.2⟩
 ·exact absurd h.2.1 (by decide)
 ·exact absurd h.2.1 (by decide)
 ·exact absurd (u8_92 n1 h.1.symm) n3
 ·exact absurd h.2.1 (by decide)
 ·exact absurd h.2.1 (by decide)
 ·exact ⟨by omega, h.2.2⟩
 ·exact absurd h.2.1 (by decide)
 ·exact absurd (u8_92 n1 h.1.symm) n3
 ·exact absurd h.2.1 (by decide)
 ·exact absurd h.2.1 (by decide)
 ·exact absurd h.2.1 (by decide)
 ·exact ⟨by omega, h.2.2⟩
 ·exact absurd (u8_92 n1 h.1.symm) n3
 ·exact absurd h.2.1 (by decide)
 ·exact absurd (u8_92 m1 h.1) m3
 ·exact absurd (u8_92 m1 h.1) m3
 ·exact absurd (u8_92 m1 h.1) m3
 ·have := u8_eq (by omega) (by omega) h.1
  exact ⟨by omega, h.2⟩
 ·exact absurd (u8_92 m1 h.1) m3
 ·exact absurd h.2.1 (by decide)
 ·exact absurd h.2.1 (by decide)
 ·exact absurd h.2.1 (by decide)
 ·exact absurd (u8_92 n1 h.1.symm) n3
 ·obtain ⟨h1, h2⟩ := split_125 (hexL_no m) (hexL_no n) h.2.2.2
  have := hexL_inj m n h1
  exact ⟨by omega, h2⟩
theorem shown_ne (c : Int) : shown c ≠ [] := by
 unfold shown
 repeat' split
 all_goals simp
theorem textL_inj : ∀ {a b : List Int}, (∀ c ∈ a, rightB c = true) → (∀ c ∈ b, rightB c = true) → textL a = textL b → a = b
 | [], [], _, _, _ => rfl
 | [], c :: b, _, _, h => by
  have h' : [] = shown c ++ textL b := by simpa [textL] using h
  exact absurd (List.append_eq_nil_iff.1 h'.symm).1 (shown_ne c)
 | c :: a, [], _, _, h => by
  have h' : shown c ++ textL a = [] := by simpa [textL] using h
  exact absurd (List.append_eq_nil_iff.1 h').1 (shown_ne c)
 | c :: a, d :: b, ha, hb, h => by
  have h' : shown c ++ textL a = shown d ++ textL b := by simpa [textL] using h
  obtain ⟨h1, h2⟩ := shown_cut (ha c (by simp)) (hb d (by simp)) h'
  rw [h1, textL_inj (fun x hx => ha x (by simp [hx])) (fun x hx => hb x (by simp [hx])) h2]
end Go.Proofs.YtknjhlbhbnldpaaGreatDoor.C


namespace Go.Proofs.YtknjhlbhbnldpaaGreatDoor.C
open Go.RowKit
theorem ba_eq {b : UInt8} {n : Nat} (h : b.toNat = n) : b = UInt8.ofNat n := by
 rw [← h]
 simp
end Go.Proofs.YtknjhlbhbnldpaaGreatDoor.C


namespace Go.Proofs.YtknjhlbhbnldpaaGreatDoor.C
open Go.RowKit
def OneTold (w : World) (l : List UInt8) (e : Ending) (w' : World) : Prop :=
 ∃ (kd : Nat) (tx : ByteArray) (n m : Nat), e = .returned (.tuple #[.agg #[.int .u8 kd, .string tx, .int .i64 n, .int .i64 0], .int .i64 m]) ∧ Below w.heap.size w w' ∧
  match tokL l with
  | some (k, t, n', m') => kd = k ∧ tx = str t ∧ n = n' ∧ m = m'
  | none => m = 0
theorem OneTold.none_ {w w' : World} {l : List UInt8} (k n : Nat) (t : ByteArray) {e : Ending} (h : tokL l = none) (he : e = .returned (.tuple #[.agg #[.int .u8 k, .string t, .int .i64 n, .int .i64 0], .int .i64 0])) (hb : Below w.heap.size w w') : OneTold w l e w' :=
 ⟨k, t, n, 0, he, hb, by rw [h]⟩
theorem list_cons {s : ByteArray} (h0 : 0 < s.size) : s.data.toList = s[0]'h0 :: s.data.toList.drop 1 := by
 have := drop_ba h0
 simpa using this
end Go.Proofs.YtknjhlbhbnldpaaGreatDoor.C
