/-
  Joined: LcU, LgF, MLxY, LjU, MCellE, LdA, LdC, LdE, LdO, LfA, LiB, KoA. Each with what its own head says.
-/
import Derived.Lib.BufferKept
import Derived.Test.YtknjhlbhbnldpaaGreatDoorB05
import Derived.Test.YtknjhlbhbnldpaaGreatDoorB06
import Derived.Test.YtknjhlbhbnldpaaGreatDoorB07


namespace Go.Proofs.YtknjhlbhbnldpaaGreatDoor.C
theorem elemB_named {e : Elm} (h : elemB e = true) (h0 : e.name ≠ []) : quotB e.cells = true ∧ wordlyB e.name = true ∧ numL e.name = none := by
 obtain ⟨nm, cs, sm⟩ := e
 unfold elemB at h
 simp only at h h0 ⊢
 have hk : quotB cs = true ∧ wordlyB nm = true ∧ (numL nm).isNone = true := by
  match cs, h with
  | [], h => simpa [Bool.and_eq_true, and_assoc] using h
  | [c], h =>
   simp only [Bool.and_eq_true, List.isEmpty_iff] at h
   exact absurd h.2 h0
  | c :: d :: r, h => simpa [Bool.and_eq_true, and_assoc] using h
 exact ⟨hk.1, hk.2.1, by simpa using hk.2.2⟩
theorem elemB_plain {e : Elm} (h : elemB e = true) (h0 : e.name = []) : ∃ c, e.cells = [c] ∧ scalB c = true := by
 obtain ⟨nm, cs, sm⟩ := e
 unfold elemB at h
 simp only at h h0 ⊢
 subst h0
 match cs, h with
 | [], h => simp [wordlyB] at h
 | [c], h =>
  simp only [Bool.and_eq_true] at h
  exact ⟨c, rfl, h.1⟩
 | c :: d :: r, h => simp [wordlyB] at h
theorem quotB_parts {l : List Int} (h : quotB l = true) : 2 ≤ l.length ∧ l.length ≤ 4 ∧ (34 : Int) ∉ l ∧ (10 : Int) ∉ l ∧ canonB l = true := by
 unfold quotB at h
 simp only [Bool.and_eq_true, decide_eq_true_eq, Bool.not_eq_true', List.contains_eq_mem, decide_eq_false_iff_not] at h
 exact ⟨h.1.1.1.1, h.1.1.1.2, h.1.1.2, h.1.2, h.2⟩
theorem placeL_noneO {o : List Elm} {c : List Int} (h : ∀ x ∈ o, x.cells ≠ c) : placeL o c = none := by
 unfold placeL
 rw [List.findIdx?_eq_none_iff]
 intro x hx
 simpa using h x hx
theorem placeL_someO {o : List Elm} {c : List Int} {j : Nat} {x : Elm} (hx : o[j]? = some x) (hc : x.cells = c) (h : ∀ y ∈ o.take j, y.cells ≠ c) : placeL o c = some j := by
 unfold placeL
 rw [List.findIdx?_eq_some_iff_getElem]
 obtain ⟨hj, hxe⟩ := List.getElem?_eq_some_iff.1 hx
 refine ⟨hj, by rw [hxe]; simpa using hc, fun k hk => ?_⟩
 have : o[k]'(by omega) ∈ o.take j := by
  rw [List.mem_take_iff_getElem]
  exact ⟨k, by omega, rfl⟩
 simpa using h _ this
end Go.Proofs.YtknjhlbhbnldpaaGreatDoor.C


namespace Go.Proofs.YtknjhlbhbnldpaaGreatDoor.C
theorem placeL_out {o : List Elm} {c : List Int} (h : placeL o c = none) : ∀ x ∈ o, x.cells ≠ c := by
 unfold placeL at h
 rw [List.findIdx?_eq_none_iff] at h
 intro x hx he
 have := h x hx
 simp [he] at this
end Go.Proofs.YtknjhlbhbnldpaaGreatDoor.C


namespace Go.Proofs.YtknjhlbhbnldpaaGreatDoor.C
open Go.RowKit
def ErrAt (w : World) (E A : Nat) : Prop := w.heap[E]? = some (.cells #[.int .u16 0] 55 (0, 0)) ∧ w.heap[A]? = some (.cells #[.int .i64 0] 3 (0, 0)) ∧ E ≠ A
end Go.Proofs.YtknjhlbhbnldpaaGreatDoor.C


namespace Go.Proofs.YtknjhlbhbnldpaaGreatDoor.C
open Go.RowKit
theorem g1 {α : Type} (xs : List α) (i : Nat) (v : α) : xs.toArray.setIfInBounds i v = (xs.set i v).toArray := List.setIfInBounds_toArray _ _ _
theorem g2 {α : Type} (x : α) (xs : List α) (v : α) : (x :: xs).set 0 v = v :: xs := rfl
theorem g3 {α : Type} (x : α) (xs : List α) (i : Nat) (v : α) : (x :: xs).set (i + 1) v = x :: xs.set i v := rfl
theorem g4 {α : Type} (xs : List α) (i : Nat) (h : i < xs.toArray.size) : xs.toArray[i] = xs[i]'(by simpa using h) := rfl
theorem g5 {α : Type} (x : α) (xs : List α) (i : Nat) (h : i + 1 < (x :: xs).length) : (x :: xs)[i + 1] = xs[i]'(by simpa using h) := rfl
theorem g6 {α : Type} (x : α) (xs : List α) (h : 0 < (x :: xs).length) : (x :: xs)[0] = x := rfl
section
variable {P : Program} {ops : Array Oper} {Q : Exit → Act → World → Prop} {md : Region.Mode} {S : World → Prop}
theorem wpHn (n : Nat) {oi : Oper} {v : Value} {fuel : Nat} {listed : Array Bool} {a : Act} {w : World} (hi : ops[n]? = some oi)
  (h : wpAnyH P md ops Q S fuel (listed.setIfInBounds n true) (a.put oi.dst v) w)
  (hb : (Region.noSelect ops && Region.free md ops listed n && (Region.ready md ops listed).contains n) = true := by kernel_rfl)
  (hQ : ∀ c a w, Q (.panic c) (a.put oi.dst v) w → Q (.panic c) a w := by exact fun _ _ _ h => h) (hw : Region.wanted oi (yielded ops a.tmps) = true := by rfl)
  (hy : ∀ x, S x → (execOp a.eval oi).run P x = .ok (.value v) x := by (intro x hx; (try dsimp only at hx); simp only [g4, g5, g6]; go_split_ands; go_simp; try with_reducible rfl)) (hS : S w := by assumption) : wpAnyH P md ops Q S (fuel + 1) listed a w := by
 simp only [Bool.and_eq_true] at hb
 exact wpAnyH_take hi hb.1.1 hb.1.2 hb.2 hQ (.inl ⟨hw, hy⟩) hS h
theorem wpHt (n : Nat) {oi : Oper} {fuel : Nat} {listed : Array Bool} {a : Act} {w : World} (hi : ops[n]? = some oi) (hw : Region.wanted oi (yielded ops a.tmps) = false)
  (h : wpAnyH P md ops Q S fuel (listed.setIfInBounds n true) (a.put oi.dst undef) w)
  (hb : (Region.noSelect ops && Region.free md ops listed n && (Region.ready md ops listed).contains n) = true := by kernel_rfl)
  (hQ : ∀ c a w, Q (.panic c) (a.put oi.dst undef) w → Q (.panic c) a w := by exact fun _ _ _ h => h) (hS : S w := by assumption) : wpAnyH P md ops Q S (fuel + 1) listed a w := by
 simp only [Bool.and_eq_true] at hb
 exact wpAnyH_take hi hb.1.1 hb.1.2 hb.2 hQ (.inr ⟨hw, rfl⟩) hS h
theorem wpEn (n : Nat) {L : Nat} {oi : Oper} {v : Value} {fuel : Nat} {listed : Array Bool} {a : Act} {w : World} (hi : ops[n]? = some oi)
  (h : wpAnyE P md ops Q S L fuel (listed.setIfInBounds n true) (a.put oi.dst v) w)
  (hb : (Region.noSelect ops && Region.free md ops listed n && (Region.ready md ops listed).contains n && waitsFor md ops L n) = true := by kernel_rfl)
  (hQ : ∀ c a w, Q (.panic c) (a.put oi.dst v) w → Q (.panic c) a w := by exact fun _ _ _ h => h) (hw : Region.wanted oi (yielded ops a.tmps) = true := by rfl)
  (hy : ∀ x, S x → (execOp a.eval oi).run P x = .ok (.value v) x := by (intro x hx; (try dsimp only at hx); simp only [g4, g5, g6]; go_split_ands; go_simp; try with_reducible rfl)) (hS : S w := by assumption) : wpAnyE P md ops Q S L (fuel + 1) listed a w := by
 simp only [Bool.and_eq_true] at hb
 exact wpAnyE_take hi hb.1.1.1 hb.1.1.2 hb.1.2 hb.2 hQ (.inl ⟨hw, hy⟩) hS h
theorem wpH {n : Nat} {r : List Nat} {oi : Oper} {v : Value} {fuel : Nat} {listed : Array Bool} {a : Act} {w : World} (_hn : nextF listed = n :: r) (hi : ops[n]? = some oi)
  (h : wpAnyH P md ops Q S fuel (listed.setIfInBounds n true) (a.put oi.dst v) w)
  (hb : (Region.noSelect ops && Region.free md ops listed n && (Region.ready md ops listed).contains n) = true := by kernel_rfl)
  (hQ : ∀ c a w, Q (.panic c) (a.put oi.dst v) w → Q (.panic c) a w := by exact fun _ _ _ h => h) (hw : Region.wanted oi (yielded ops a.tmps) = true := by rfl)
  (hy : ∀ x, S x → (execOp a.eval oi).run P x = .ok (.value v) x := by (intro x hx; (try dsimp only at hx); simp only [g4, g5, g6]; go_split_ands; go_simp; try with_reducible rfl)) (hS : S w := by assumption) : wpAnyH P md ops Q S (fuel + 1) listed a w :=
 wpHn n hi h hb hQ hw hy hS
theorem wpHs {n : Nat} {r : List Nat} {oi : Oper} {fuel : Nat} {listed : Array Bool} {a : Act} {w : World} (_hn : nextF listed = n :: r) (hi : ops[n]? = some oi) (hw : Region.wanted oi (yielded ops a.tmps) = false)
  (h : wpAnyH P md ops Q S fuel (listed.setIfInBounds n true) (a.put oi.dst undef) w)
  (hb : (Region.noSelect ops && Region.free md ops listed n && (Region.ready md ops listed).contains n) = true := by kernel_rfl)
  (hQ : ∀ c a w, Q (.panic c) (a.put oi.dst undef) w → Q (.panic c) a w := by exact fun _ _ _ h => h) (hS : S w := by assumption) : wpAnyH P md ops Q S (fuel + 1) listed a w :=
 wpHt n hi hw h hb hQ hS
theorem wpE {L n : Nat} {r : List Nat} {oi : Oper} {v : Value} {fuel : Nat} {listed : Array Bool} {a : Act} {w : World} (_hn : nextF listed = n :: r) (hi : ops[n]? = some oi)
  (h : wpAnyE P md ops Q S L fuel (listed.setIfInBounds n true) (a.put oi.dst v) w)
  (hb : (Region.noSelect ops && Region.free md ops listed n && (Region.ready md ops listed).contains n && waitsFor md ops L n) = true := by kernel_rfl)
  (hQ : ∀ c a w, Q (.panic c) (a.put oi.dst v) w → Q (.panic c) a w := by exact fun _ _ _ h => h) (hw : Region.wanted oi (yielded ops a.tmps) = true := by rfl)
  (hy : ∀ x, S x → (execOp a.eval oi).run P x = .ok (.value v) x := by (intro x hx; (try dsimp only at hx); simp only [g4, g5, g6]; go_split_ands; go_simp; try with_reducible rfl)) (hS : S w := by assumption) : wpAnyE P md ops Q S L (fuel + 1) listed a w :=
 wpEn n hi h hb hQ hw hy hS
end
end Go.Proofs.YtknjhlbhbnldpaaGreatDoor.C


namespace Go.Proofs.YtknjhlbhbnldpaaGreatDoor.C
open Go.RowKit
set_option maxHeartbeats 1000000 in
theorem runeCount_any (s : ByteArray) (w : World) (hs : s.size < 9223372036854775807) :
  Calls Tryz.prog 85 #[.string s] w fun e w' => e = .returned (.int .i64 (Lib.runeCount s)) ∧ ∃ pos, w' = w.iter s pos := by
 go_enter Tryz.func85, Tryz.ntmps85
 go_wp2
 go_loopw [2] (fun n w' => ∃ (pos b acc : Nat), w' = w.iter s pos ∧ n = .int .i64 acc ∧ acc + Lib.runeCountFrom s b pos = Lib.runeCount s ∧ s.size ≤ pos + b ∧ acc ≤ pos) (fun _ w' => s.size - w'.iterPos w.heap.size)
 case atStart => exact ⟨0, s.size, 0, rfl, rfl, by simp [Lib.runeCount], by omega, Nat.le_refl _⟩
 case round =>
  obtain ⟨pos, b, acc, rfl, rfl, hc, hb, ha⟩ := hrel
  by_cases hp : pos < s.size
  ·have hnx : ∀ ty, (Instr.next (.pointer (some ⟨w.heap.size, 0, none⟩)) true ty).run Tryz.prog (w.iter s pos) = _ := fun ty => run_next_any w s pos ty hp
   have hwd := Lib.decode_width_pos s pos hp
   go_wp2
   go_roundw
   case rel =>
    cases b with
    | zero => omega
    | succ b =>
     refine ⟨pos + (Utf8.decode s pos).2, b, acc + 1, rfl, by go_num, ?_, by omega, by omega⟩
     rw [← hc]
     simp [Lib.runeCountFrom, hp]
     omega
   case measure =>
    simp
    omega
  ·have hnx : ∀ ty, (Instr.next (.pointer (some ⟨w.heap.size, 0, none⟩)) true ty).run Tryz.prog (w.iter s pos) = _ := fun ty => run_next_end w s pos ty hp
   go_wp2
   go_ret
   rw [Lib.runeCountFrom_end s b pos hp, Nat.add_zero] at hc
   subst hc
   exact ⟨rfl, _, rfl⟩
set_option maxHeartbeats 1000000 in
theorem sliteHasPrefix_any (s p : ByteArray) (w : World) :
  Calls Tryz.prog 121 #[.string s, .string p] w fun e w' => e = .returned (.bool (Lib.hasPrefix s.data.toList p.data.toList)) ∧ w = w' := by
 rw [← Lib.hasPrefix_of_take, ← Lib.size_eq, ← Lib.size_eq]
 go_enter Tryz.func121, Tryz.ntmps121
 go_wp2
 ·rename_i h
  go_ret
  refine ⟨?_, rfl⟩
  show Ending.returned (Value.bool ((s.extract 0 p.size).toList == p.toList)) = _
  rw [Lib.extract_toList, Lib.toList_data]
  simp [h]
 ·rename_i h
  go_ret
  refine ⟨?_, rfl⟩
  simp
  omega
set_option maxHeartbeats 1000000 in
theorem hasPrefix_any (s p : ByteArray) (w : World) :
  Calls Tryz.prog 86 #[.string s, .string p] w fun e w' => e = .returned (.bool (Lib.hasPrefix s.data.toList p.data.toList)) ∧ w = w' := by
 go_enter Tryz.func86, Tryz.ntmps86
 go_wp2_with fail
 refine (sliteHasPrefix_any _ _ _).mono ?_
 rintro e w' ⟨rfl, rfl⟩
 go_wp2
 go_ret
 exact ⟨rfl, rfl⟩
end Go.Proofs.YtknjhlbhbnldpaaGreatDoor.C


namespace Go.Proofs.YtknjhlbhbnldpaaGreatDoor.C
open Go.RowKit
def celC (c : List Int) : List Value := c.map (Value.int .i32)
def DeAt (w : World) (lo M : Nat) (d : List (List UInt8 × List Int)) : Prop :=
 ∃ vs : List Value, vs.length = d.length ∧ MapIs w M .string ((d.zip vs).map fun x => (.string (str x.1.1), x.2)) ∧ ∀ (i : Nat) (e : List UInt8 × List Int) (x : Value), d[i]? = some e → vs[i]? = some x → w.ownsRow lo 23 1 x e.2.length (celC e.2)
theorem DeAt.map {w : World} {lo M : Nat} {d : List (List UInt8 × List Int)} (h : DeAt w lo M d) : ∃ l, MapIs w M .string l := by
 obtain ⟨vs, _, h2, _⟩ := h
 exact ⟨_, h2⟩
theorem DeAt.fr {w w' : World} {X : Nat → Prop} {lo M : Nat} {d : List (List UInt8 × List Int)} (h : DeAt w lo M d) (hf : Fr w w' X) (hM : ¬ X M) (hx : ∀ g c z t, X g → w.heap[g]? = some (.cells c t z) → t ≠ 23) : DeAt w' lo M d := by
 obtain ⟨vs, h1, h2, h3⟩ := h
 refine ⟨vs, h1, h2.fr hf hM, fun i e x he hv => ownsRow_fr (h3 i e x he hv) hf ?_⟩
 intro g hg hX
 obtain ⟨c, hc⟩ := ownsRow_ty (h3 i e x he hv) hg
 exact hx g _ _ _ hX hc rfl
theorem DeAt.next {w w' : World} {lo M : Nat} {d : List (List UInt8 × List Int)} (h : DeAt w lo M d) (hb : Below w.heap.size w w') : DeAt w' lo M d := h.fr (X := fun _ => False) (.of_below hb) id (by rintro _ _ _ _ ⟨⟩)
theorem DeAt.drew {w : World} {lo M : Nat} {d : List (List UInt8 × List Int)} (h : DeAt w lo M d) : DeAt w.drew lo M d := h
theorem lookD_none {d : List (List UInt8 × List Int)} {n : List UInt8} (h : lookD d n = none) : ∀ e ∈ d, e.1 ≠ n := by
 unfold lookD at h
 rw [Option.map_eq_none_iff, List.find?_eq_none] at h
 intro e he hn
 exact h e he (by simpa using hn)
theorem zeroCells (w : World) : (zeroValue 33).run Tryz.prog w = .ok (.slice none 0 0) w := by kernel_rfl
theorem DeAt.keys {d : List (List UInt8 × List Int)} {vs : List Value} {n : List UInt8} (hl : lookD d n = none) : (.string (str n)) ∉ ((d.zip vs).map fun x => (Value.string (str x.1.1), x.2)).map Prod.fst := by
 rw [List.map_map, List.mem_map]
 rintro ⟨⟨e, x⟩, hx, he⟩
 simp at he
 exact lookD_none hl e (List.of_mem_zip hx).1 (str_inj he)
theorem DeAt.no {w : World} {lo M : Nat} {d : List (List UInt8 × List Int)} {n : List UInt8} (h : DeAt w lo M d) (hl : lookD d n = none) :
  (Instr.lookup 75 (.map (some M)) (.string (str n)) true).run Tryz.prog w = .ok (.tuple #[.slice none 0 0, .bool false]) w := by
 obtain ⟨vs, h1, h2, h3⟩ := h
 exact h2.look_no Tryz.underlying75 Tryz.underlying9 (by first | trivial | rfl) (DeAt.keys hl) (zeroCells w) true
theorem DeAt.put {w : World} {lo M : Nat} {d : List (List UInt8 × List Int)} {n : List UInt8} {c : List Int} {v : Value} (h : DeAt w lo M d) (hl : lookD d n = none) (hv : w.ownsRow lo 23 1 v c.length (celC c)) :
  ∃ o, (Instr.mapUpdate 75 (.map (some M)) (.string (str n)) v).run Tryz.prog w = .ok () (putObj w M o) ∧ DeAt (putObj w M o) lo M (d ++ [(n, c)]) := by
 obtain ⟨vs, h1, h2, h3⟩ := h
 obtain ⟨o, q2, hM⟩ := h2.put_new Tryz.underlying75 Tryz.underlying9 (key := (.string (str n))) (by first | trivial | rfl) (DeAt.keys hl) v
 have hg := putObj_only (w := w) (M := M) o
 refine ⟨o, q2, vs ++ [v], by simp [h1], ?_, ?_⟩
 ·rw [List.zip_append h1.symm, List.map_append]
  exact hM
 ·have key : ∀ {n : Nat} {u : Value} {xs : List Value}, w.ownsRow lo 23 1 u n xs → (putObj w M o).ownsRow lo 23 1 u n xs := fun hu => hu.kept hg (.inr (row_nomap hu h2))
  intro i e y hd hy
  rcases Nat.lt_or_ge i d.length with hi | hi
  ·rw [List.getElem?_append_left hi] at hd
   rw [List.getElem?_append_left (by omega)] at hy
   exact key (h3 i e y hd hy)
  ·rw [List.getElem?_append_right hi] at hd
   rw [List.getElem?_append_right (by omega), h1] at hy
   have e0 : i - d.length = 0 := by
    rcases hq : i - d.length with _ | q
    ·rfl
    ·rw [hq] at hd
     simp at hd
   rw [e0] at hd hy
   simp at hd hy
   subst hd hy
   exact key hv
section
variable {d : List (List UInt8 × List Int)} {n x : Tok} {r : List Tok}
end
def TxtOk (T : TV) : Prop := ∀ t ∈ T.ts, t.t.length ≤ 4000
theorem TxtOk.at_ {T : TV} (h : TxtOk T) {k : Nat} {x : Tok} {r : List Tok} (hr : T.ts.drop k = x :: r) : x.t.length ≤ 4000 := h x (List.mem_of_mem_drop (i := k) (by rw [hr]; simp))
end Go.Proofs.YtknjhlbhbnldpaaGreatDoor.C


namespace Go.Proofs.YtknjhlbhbnldpaaGreatDoor.C
open Go.RowKit
theorem flat_at {sz : Nat} : ∀ {xs : List (List Value)} {j i : Nat} {x : List Value} {u : Value}, (∀ x ∈ xs, x.length = sz) → xs[j]? = some x → x[i]? = some u → xs.flatten[j * sz + i]? = some u
 | [], j, i, x, u, _, hx, _ => by simp at hx
 | y :: r, 0, i, x, u, h, hx, hu => by
  simp at hx
  subst hx
  have hi : i < y.length := (List.getElem?_eq_some_iff.1 hu).1
  rw [List.flatten_cons, List.getElem?_append_left (by omega)]
  simpa using hu
 | y :: r, j + 1, i, x, u, h, hx, hu => by
  have hy := h y (by simp)
  rw [List.flatten_cons, List.getElem?_append_right (by rw [hy, Nat.succ_mul]; omega), hy]
  have := flat_at (xs := r) (j := j) (fun z hz => h z (List.mem_cons_of_mem _ hz)) (by simpa using hx) hu
  rw [show (j + 1) * sz + i - sz = j * sz + i by rw [Nat.succ_mul]; omega]
  exact this
theorem SI.of_own {w : World} {base sz n c : Nat} {e : TypeId} {A : Option Addr} {xs : List (List Value)} (h : w.ownsRow base e sz (.slice A n c) n xs.flatten) (hl : xs.length = n) (hx : ∀ x ∈ xs, x.length = sz) : SI sz w w.heap.size A n xs := by
 refine ⟨hl, hx, fun hn => ?_⟩
 rcases h.2 with ⟨_, h0⟩ | ⟨g, cap, cur, he, _⟩
 ·omega
 ·injection he with he _ _
  subst he
  refine ⟨_, rfl, (h.lt g rfl).2, fun j x hj i u hu => ?_⟩
  exact h.cells rfl _ _ (flat_at hx hj hu)
def ordR (o : List Elm) (vs : List Value) : List (List Value) := (o.zip vs).map fun x => [.string (str x.1.name), x.2, .int .i64 x.1.same]
theorem ordR_len {o : List Elm} {vs : List Value} (h : vs.length = o.length) : (ordR o vs).length = o.length := by simp [ordR, h]
theorem ordR_each {o : List Elm} {vs : List Value} : ∀ x ∈ ordR o vs, x.length = 3 := by
 intro x hx
 unfold ordR at hx
 rw [List.mem_map] at hx
 obtain ⟨y, _, rfl⟩ := hx
 rfl
theorem ordR_snoc {o : List Elm} {vs : List Value} (h : vs.length = o.length) (e : Elm) (v : Value) : ordR (o ++ [e]) (vs ++ [v]) = ordR o vs ++ [[.string (str e.name), v, .int .i64 e.same]] := by
 unfold ordR
 rw [List.zip_append h.symm]
 simp
def OrdAt (w : World) (lo : Nat) (v : Value) (o : List Elm) : Prop :=
 ∃ vs : List Value, vs.length = o.length ∧ w.ownsRow lo 39 3 v o.length (ordR o vs).flatten ∧ ∀ (i : Nat) (e : Elm) (x : Value), o[i]? = some e → vs[i]? = some x → w.ownsRow lo 23 1 x e.cells.length (celC e.cells)
theorem OrdAt.nil (w : World) (lo : Nat) : OrdAt w lo (.slice none 0 0) [] := ⟨[], rfl, ⟨rfl, .inl ⟨rfl, rfl⟩⟩, by simp⟩
theorem OrdAt.fr {w w' : World} {X : Nat → Prop} {lo : Nat} {v : Value} {o : List Elm} (h : OrdAt w lo v o) (hf : Fr w w' X) (hx : ∀ g c z t, X g → w.heap[g]? = some (.cells c t z) → t ≠ 23 ∧ t ≠ 39) : OrdAt w' lo v o := by
 obtain ⟨vs, h1, h2, h3⟩ := h
 refine ⟨vs, h1, ownsRow_fr h2 hf ?_, fun i e x he hv => ownsRow_fr (h3 i e x he hv) hf ?_⟩
 ·intro g hg hX
  obtain ⟨c, hc⟩ := ownsRow_ty h2 hg
  exact (hx g _ _ _ hX hc).2 rfl
 ·intro g hg hX
  obtain ⟨c, hc⟩ := ownsRow_ty (h3 i e x he hv) hg
  exact (hx g _ _ _ hX hc).1 rfl
theorem OrdAt.next {w w' : World} {lo : Nat} {v : Value} {o : List Elm} (h : OrdAt w lo v o) (hb : Below w.heap.size w w') : OrdAt w' lo v o := h.fr (X := fun _ => False) (.of_below hb) (by rintro _ _ _ _ ⟨⟩)
theorem OrdAt.drew {w : World} {lo : Nat} {v : Value} {o : List Elm} (h : OrdAt w lo v o) : OrdAt w.drew lo v o := h
theorem OrdAt.form {w : World} {lo : Nat} {v : Value} {o : List Elm} (h : OrdAt w lo v o) : ∃ A c, v = .slice A o.length c := by
 obtain ⟨vs, h1, h2, _⟩ := h
 rcases Joins.ownsRow_forms h2 with ⟨rfl, h0⟩ | ⟨g, c, rfl⟩
 ·exact ⟨none, 0, by rw [h0]⟩
 ·exact ⟨_, _, rfl⟩
def placeV (o : List Elm) (c : List Int) : Int := match placeL o c with | some i => (i : Int) | none => -1
theorem placeL_found {o : List Elm} {c : List Int} {k : Nat} (hk : k < o.length) (hq : (fun j => match o[j]? with | some e => sameB e.cells c | none => false) k = true) (hm : ∀ j, j < k → (fun j => match o[j]? with | some e => sameB e.cells c | none => false) j = false) : placeL o c = some k := by
 unfold placeL
 rw [List.findIdx?_eq_some_iff_getElem]
 refine ⟨hk, ?_, fun j hj => ?_⟩
 ·simp only [List.getElem?_eq_getElem hk] at hq
  simpa [sameB] using hq
 ·have := hm j hj
  simp only [List.getElem?_eq_getElem (Nat.lt_trans hj hk)] at this
  simpa [sameB] using this
theorem placeL_none {o : List Elm} {c : List Int} (hm : ∀ j, j < o.length → (fun j => match o[j]? with | some e => sameB e.cells c | none => false) j = false) : placeL o c = none := by
 unfold placeL
 rw [List.findIdx?_eq_none_iff]
 intro e he
 obtain ⟨i, hi⟩ := List.getElem?_of_mem he
 have hl : i < o.length := (List.getElem?_eq_some_iff.1 hi).1
 have := hm i hl
 simp only [hi] at this
 simpa [sameB] using this
end Go.Proofs.YtknjhlbhbnldpaaGreatDoor.C


namespace Go.Proofs.YtknjhlbhbnldpaaGreatDoor.C
open Go.RowKit
theorem trip_new (w : World) (k : Nat) (a b c : Value) (t : TypeId) (hk : w.heap.size = k) : ∀ j u, [a, b, c][j]? = some u → (w.alloc (.cells #[a, b, c] t)).cell? ((⟨k, 0, none⟩ : Addr).add j) = some u := by
 subst hk
 intro j u hu
 rw [add_plain, Nat.zero_add, World.cell?_alloc_new]
 simpa using hu
theorem infoElem : (Tryz.prog.info? 39).map (fun i => (i.zero, i.size, i.bytes)) = some (some (.agg #[.string (str []), .slice none 0 0, .int .i64 0]), 3, 48) := by kernel_rfl
theorem OrdAt.snoc {w w' : World} {lo g cap : Nat} {v x : Value} {o : List Elm} {vs : List Value} (c : Elm) (h1 : vs.length = o.length) (h2 : w.ownsRow lo 39 3 v o.length (ordR o vs).flatten) (h3 : ∀ (i : Nat) (e : Elm) (x : Value), o[i]? = some e → vs[i]? = some x → w.ownsRow lo 23 1 x e.cells.length (celC e.cells))
  (hx : w.ownsRow lo 23 1 x c.cells.length (celC c.cells))
  (hg : w.grownBy w' v.ownBlock) (ho : w'.ownsRow lo 39 3 (.slice (some ⟨g, 0, none⟩) (o.length + 1) cap) (o.length + 1) ((ordR o vs).flatten ++ [.string (str c.name), x, .int .i64 c.same])) :
  OrdAt w' lo (.slice (some ⟨g, 0, none⟩) (o.length + 1) cap) (o ++ [c]) := by
 have key : ∀ {n : Nat} {u : Value} {xs : List Value}, w.ownsRow lo 23 1 u n xs → w'.ownsRow lo 23 1 u n xs := fun hu => hu.kept hg (by
  rcases hb : (Value.ownBlock _) with _ | g1
  ·exact .inl rfl
  ·refine .inr fun e => ?_
   obtain ⟨c1, hc1⟩ := ownsRow_ty hu hb
   obtain ⟨c2, hc2⟩ := ownsRow_ty h2 e.symm
   rw [hc1] at hc2
   injection hc2 with hc2
   injection hc2 with _ hc2
   cases hc2)
 refine ⟨vs ++ [x], by simp [h1], by rw [ordR_snoc h1, List.length_append, List.flatten_append]; simpa using ho, ?_⟩
 intro i d y hd hy
 rcases Nat.lt_or_ge i o.length with hi | hi
 ·rw [List.getElem?_append_left hi] at hd
  rw [List.getElem?_append_left (by omega)] at hy
  exact key (h3 i d y hd hy)
 ·rw [List.getElem?_append_right hi] at hd
  rw [List.getElem?_append_right (by omega), h1] at hy
  have e0 : i - o.length = 0 := by
   rcases hq : i - o.length with _ | q
   ·rfl
   ·rw [hq] at hd
    simp at hd
  rw [e0] at hd hy
  simp at hd hy
  subst hd hy
  exact key hx
end Go.Proofs.YtknjhlbhbnldpaaGreatDoor.C


namespace Go.Proofs.YtknjhlbhbnldpaaGreatDoor.C
open Go.RowKit
def LocAt (w : World) (lo : Nat) (v1 v2 v3 v4 : Value) (l : Loc) : Prop := ClsAt w lo v1 l.cls ∧ w.ownsRow lo 95 2 v2 l.up.length (prsC l.up) ∧ w.ownsRow lo 95 2 v3 l.lo.length (prsC l.lo) ∧ OrdAt w lo v4 l.ord
theorem LocAt.nil (w : World) (lo : Nat) : LocAt w lo (.slice none 0 0) (.slice none 0 0) (.slice none 0 0) (.slice none 0 0) noL := ⟨ClsAt.nil w lo, World.ownsRow_nil _ _ _ _, World.ownsRow_nil _ _ _ _, OrdAt.nil w lo⟩
end Go.Proofs.YtknjhlbhbnldpaaGreatDoor.C


namespace Go.Proofs.YtknjhlbhbnldpaaGreatDoor.C
open Go.RowKit
def Kp (B P : Nat) (w w' : World) : Prop := Below B w w' ∧ Lib.OthersKept 5 (some P) w w'
theorem Kp.refl (B P : Nat) (w : World) : Kp B P w w := ⟨Below.refl _ _, Lib.OthersKept.refl _ _ _⟩
theorem Kp.trans {B P : Nat} {w w' w'' : World} (h : Kp B P w w') (k : Kp B P w' w'') : Kp B P w w'' := ⟨h.1.trans k.1, h.2.trans k.2⟩
theorem Kp.of_below {B P : Nat} {w w' : World} (h : Below w.heap.size w w') (hB : B ≤ w.heap.size) : Kp B P w w' := ⟨h.mono hB, (Lib.OthersKept.refl _ _ _).below h⟩
end Go.Proofs.YtknjhlbhbnldpaaGreatDoor.C


namespace Go.Proofs.YtknjhlbhbnldpaaGreatDoor.C
open Go.RowKit
theorem at_byte {s : ByteArray} {k : Nat} (h : k < s.size) : s.data.toList[k]? = some (s[k]'h) := by
  rw [Array.getElem?_toList]
  exact Array.getElem?_eq_getElem h
theorem all_next {α : Type} {p : α → Bool} {l : List α} {k : Nat} {x : α} (h : l[k]? = some x) (hk : (l.take k).all p = true) (hx : p x = true) : (l.take (k + 1)).all p = true := by
  rw [take_snoc h, List.all_append, hk, List.all_cons, hx]
  rfl
theorem all_fails {α : Type} {p : α → Bool} {l : List α} {k : Nat} {x : α} (h : l[k]? = some x) (hx : p x = false) : l.all p = false := by
  rw [List.all_eq_false]
  exact ⟨x, List.mem_of_getElem? h, by rw [hx]; exact Bool.false_ne_true⟩
set_option maxRecDepth 100000 in
set_option maxHeartbeats 2000000 in
theorem wordly07_any (s : ByteArray) (w : World) (hs : s.size ≤ maxLen) : Calls Tryz.prog 58 #[.string s] w fun e w' => e = .returned (.bool (wordlyB s.data.toList)) ∧ w' = w := by
  unfold maxLen at hs
  go_enter Tryz.func58, Tryz.ntmps58
  go_wp2
  go_loop [3] (fun i => ∃ k : Nat, k ≤ s.size ∧ i = .int .i64 k ∧ Hid ((s.data.toList.take k).all isW = true)) (fun i => s.size - (intOf i).toNat)
  case atStart => exact ⟨0, Nat.zero_le _, rfl, Lib.hid (by simp)⟩
  case round =>
    obtain ⟨k, hk, rfl, HK⟩ := hrel
    by_cases hlt : k < s.size
    · have HB := Lib.hid (at_byte hlt)
      have HF : Hid (isW (s[k]'hlt) = false → wordlyB s.data.toList = false) := Lib.hid (fun h => by unfold wordlyB; rw [all_fails HB.out h, Bool.and_false])
      go_wp2
      all_goals first
        | (go_ret
           refine ⟨?_, rfl⟩
           rw [HF.out (by unfold isW; simp only [decide_eq_false_iff_not]; (first | omega | (simp only [bne_iff_ne, ne_eq] at *; omega) | (simp only [bne_eq_false_iff_eq] at *; omega) | (simp at *; omega)))]
           rfl)
        | (go_round
           case rel => exact ⟨k + 1, by omega, by go_num, Lib.hid (all_next HB.out HK.out (by unfold isW; simp only [decide_eq_true_eq]; (first | omega | (simp only [bne_eq_false_iff_eq] at *; omega) | (simp at *; omega))))⟩
           case measure => simp [intOf]; omega)
    · obtain rfl : k = s.size := by omega
      have ha := HK.out
      rw [List.take_of_length_le (by rw [size_list]; exact Nat.le_refl _)] at ha
      have HA := Lib.hid ha
      clear ha
      by_cases h0 : s.size = 0
      · have hse : s = ⟨#[]⟩ := by
          have h1 : s.data.toList = [] := List.eq_nil_of_length_eq_zero (by rw [size_list]; exact h0)
          obtain ⟨⟨l⟩⟩ := s
          simp at h1
          subst h1
          rfl
        subst hse
        go_wp2
        go_ret
        exact ⟨rfl, rfl⟩
      · have hne : s.toList.isEmpty = false := by
          rw [Lib.toList_data]
          cases hl : s.data.toList with
          | nil => exact absurd (by rw [← size_list, hl]; rfl) h0
          | cons a r => rfl
        have hwd : wordlyB s.data.toList = true := by
          unfold wordlyB
          rw [HA.out, Bool.and_true]
          cases hl : s.data.toList with
          | nil => exact absurd (by rw [← size_list, hl]; rfl) h0
          | cons a r => rfl
        have HW := Lib.hid hwd
        clear hwd h0
        go_wp2
        go_ret
        exact ⟨by rw [HW.out]; rfl, rfl⟩
theorem wordly07_is (nm : List UInt8) (w : World) (hs : nm.length ≤ maxLen) {b : Bool} (h : wordlyB nm = b) : Calls Tryz.prog 58 #[.string (str nm)] w fun e w' => e = .returned (.bool b) ∧ w' = w := by
  subst h
  exact wordly07_any (str nm) w (by rw [str_size]; exact hs)
set_option maxRecDepth 100000 in
set_option maxHeartbeats 1000000 in
theorem scalar07_any (c : Int) (w : World) : Calls Tryz.prog 59 #[.int .i32 c] w fun e w' => e = .returned (.bool (scalB c)) ∧ w' = w := by
  have hr := refRight_any c w
  by_cases h0 : 0 ≤ c
  · have hb : scalB c = rightB c := by unfold scalB; rw [decide_eq_true h0, Bool.true_and]
    rw [hb]
    generalize rightB c = b at hr
    go_enter Tryz.func59, Tryz.ntmps59
    go_wp2_with fail
    with_reducible refine hr.mono ?_
    rintro e w' ⟨rfl, rfl⟩
    go_wp2
    go_ret
    exact ⟨rfl, rfl⟩
  · have hb : scalB c = false := by unfold scalB; rw [decide_eq_false h0, Bool.false_and]
    rw [hb]
    clear hr hb
    go_enter Tryz.func59, Tryz.ntmps59
    go_wp2
    go_ret
    exact ⟨rfl, rfl⟩
theorem scalar07_is (c : Int) (w : World) {b : Bool} (h : scalB c = b) : Calls Tryz.prog 59 #[.int .i32 c] w fun e w' => e = .returned (.bool b) ∧ w' = w := by
  subst h
  exact scalar07_any c w
theorem hexN_some : ∀ (d : List UInt8) (v : Nat), (hexN d v).isSome = d.all fun b => (digV b).isSome
  | [], _ => rfl
  | b :: r, v => by
    rw [List.all_cons]
    unfold hexN
    cases h : digV b with
    | none => rfl
    | some x => simp only [Option.isSome_some, Bool.true_and]; exact hexN_some r _
theorem numL_parts {c : UInt8} {d : List UInt8} : (numL (c :: d)).isSome = (decide (c = 85 ∧ 4 ≤ d.length ∧ d.length ≤ 6) && d.all fun b => (digV b).isSome) := by
  rw [numL_cons]
  by_cases h : c = 85 ∧ 4 ≤ d.length ∧ d.length ≤ 6
  · rw [if_pos h, decide_eq_true h, Bool.true_and, hexN_some]
  · rw [if_neg h, decide_eq_false h, Bool.false_and]
    rfl
theorem digV_yes {b : UInt8} (h : 48 ≤ b.toNat ∧ b.toNat ≤ 57 ∨ 97 ≤ b.toNat ∧ b.toNat ≤ 102 ∨ 65 ≤ b.toNat ∧ b.toNat ≤ 70) : (digV b).isSome = true := by
  unfold digV
  repeat' split
  all_goals first | rfl | (exfalso; omega)
theorem digV_no {b : UInt8} (h : ¬ (48 ≤ b.toNat ∧ b.toNat ≤ 57 ∨ 97 ≤ b.toNat ∧ b.toNat ≤ 102 ∨ 65 ≤ b.toNat ∧ b.toNat ≤ 70)) : (digV b).isSome = false := by
  unfold digV
  repeat' split
  all_goals first | rfl | (exfalso; omega)
set_option maxRecDepth 100000 in
set_option maxHeartbeats 2000000 in
theorem digits07_any (s : ByteArray) (w : World) : Calls Tryz.prog 122 #[.string s] w fun e w' => e = .returned (.bool (numL s.data.toList).isSome) ∧ w' = w := by
  by_cases h5 : s.size < 5 ∨ 7 < s.size
  · have hf : (numL s.data.toList).isSome = false := by
      cases hl : s.data.toList with
      | nil => rfl
      | cons c d =>
        have hsz : d.length + 1 = s.size := by rw [← size_list, hl]; rfl
        rw [numL_parts, decide_eq_false (by omega), Bool.false_and]
    rw [hf]
    clear hf
    go_enter Tryz.func122, Tryz.ntmps122
    rcases h5 with h5 | h5
    · have e1 : (s.size : Int) < 5 := by omega
      clear h5
      go_wp2
      go_ret
      exact ⟨rfl, rfl⟩
    · have e1 : ¬ (s.size : Int) < 5 := by omega
      have e2 : (7 : Int) < (s.size : Int) := by omega
      clear h5
      go_wp2
      go_ret
      exact ⟨rfl, rfl⟩
  · have hs0 : 0 < s.size := by omega
    have hl := list_cons hs0
    have hd : (s.data.toList.drop 1).length + 1 = s.size := by rw [List.length_drop, size_list]; omega
    have hp : (numL s.data.toList).isSome = (decide ((s[0]'hs0) = 85) && (s.data.toList.drop 1).all fun b => (digV b).isSome) := by
      rw [hl, numL_parts]
      simp only [List.drop_succ_cons, List.drop_zero]
      by_cases h85 : (s[0]'hs0) = 85
      · rw [decide_eq_true (show (s[0]'hs0) = 85 ∧ 4 ≤ (s.data.toList.drop 1).length ∧ (s.data.toList.drop 1).length ≤ 6 from ⟨h85, by omega, by omega⟩), decide_eq_true h85]
      · rw [decide_eq_false (fun h => h85 h.1), decide_eq_false h85]
    have e1 : ¬ (s.size : Int) < 5 := by omega
    have e2 : ¬ (7 : Int) < (s.size : Int) := by omega
    by_cases h85 : (s[0]'hs0).toNat = 85
    · rw [decide_eq_true (show (s[0]'hs0) = 85 from ba_eq h85), Bool.true_and] at hp
      have e3 : (((s[0]'hs0).toNat : Int) == 85) = true := by simp; omega
      obtain ⟨r, hr⟩ : ∃ r, r = ((s.data.toList.drop 1).all fun b => (digV b).isSome) := ⟨_, rfl⟩
      rw [hp, ← hr]
      have HD := Lib.hid hd
      have HR := Lib.hid hr
      clear hp hl hd h85 hr
      go_enter Tryz.func122, Tryz.ntmps122
      go_wp2
      clear e1 e2 e3
      go_loop [3] (fun i => ∃ k : Nat, 1 ≤ k ∧ k ≤ s.size ∧ i = .int .i64 k ∧ Hid (((s.data.toList.drop 1).take (k - 1)).all (fun b => (digV b).isSome) = true)) (fun i => s.size - (intOf i).toNat)
      case atStart => exact ⟨1, Nat.le_refl _, by omega, rfl, Lib.hid (by simp)⟩
      case round =>
        obtain ⟨k, h1, hk, rfl, HK⟩ := hrel
        by_cases hlt : k < s.size
        · have hb : (s.data.toList.drop 1)[k - 1]? = some (s[k]'hlt) := by
            rw [List.getElem?_drop, show 1 + (k - 1) = k by omega]
            exact at_byte hlt
          have HB := Lib.hid hb
          clear hb
          have HF : Hid ((digV (s[k]'hlt)).isSome = false → ((s.data.toList.drop 1).all fun b => (digV b).isSome) = false) := Lib.hid (fun h => all_fails HB.out h)
          have HE : Hid (k + 1 - 1 = k - 1 + 1) := Lib.hid (by omega)
          go_wp2
          all_goals first
            | (go_ret
               refine ⟨?_, rfl⟩
               rw [HR.out, HF.out (digV_no (by first | omega | (simp only [bne_iff_ne, ne_eq] at *; omega) | (simp only [bne_eq_false_iff_eq] at *; omega) | (simp at *; omega)))]
               rfl)
            | (go_round
               case rel => exact ⟨k + 1, by omega, by omega, by go_num, Lib.hid (by rw [HE.out]; exact all_next HB.out HK.out (digV_yes (by first | omega | (simp only [bne_iff_ne, ne_eq] at *; omega) | (simp only [bne_eq_false_iff_eq] at *; omega) | (simp at *; omega))))⟩
               case measure => simp [intOf]; omega)
        · obtain rfl : k = s.size := by omega
          have ha := HK.out
          rw [List.take_of_length_le (by have := HD.out; omega)] at ha
          have HA := Lib.hid ha
          clear ha
          go_wp2
          go_ret
          exact ⟨by rw [HR.out, HA.out]; rfl, rfl⟩
    · rw [decide_eq_false (show ¬ (s[0]'hs0) = 85 from fun h => h85 (by rw [h]; rfl)), Bool.false_and] at hp
      have e3 : (((s[0]'hs0).toNat : Int) == 85) = false := by simp; omega
      rw [hp]
      clear hp hl hd h85
      go_enter Tryz.func122, Tryz.ntmps122
      go_wp2
      go_ret
      exact ⟨rfl, rfl⟩
theorem digits07_is (nm : List UInt8) (w : World) {b : Bool} (h : (numL nm).isSome = b) : Calls Tryz.prog 122 #[.string (str nm)] w fun e w' => e = .returned (.bool b) ∧ w' = w := by
  subst h
  exact digits07_any (str nm) w
end Go.Proofs.YtknjhlbhbnldpaaGreatDoor.C

namespace Go.Proofs.YtknjhlbhbnldpaaGreatDoor.C
open Go.RowKit

def Row (w : World) (T : Nat) (t : TypeId) (l : List Value) : Prop := w.heap[T]? = some (.cells l.toArray t (0, 0))
section
variable {w w' : World} {T : Nat} {t : TypeId} {l : List Value}
theorem Row.lt (h : Row w T t l) : T < w.heap.size := (Array.getElem?_eq_some_iff.1 h).1
theorem Row.cell (h : Row w T t l) {i : Nat} {v : Value} (hi : l[i]? = some v) : w.cell? ⟨T, i, none⟩ = some v := by simp [World.cell?, show w.heap[T]? = _ from h, hi]
theorem Row.frozen (h : Row w T t l) (i : Nat) : w.frozen? ⟨T, i, none⟩ = false := by simp [World.frozen?, show w.heap[T]? = _ from h]
theorem Row.set (h : Row w T t l) (i : Nat) (u : Value) : Row (w.setCell ⟨T, i, none⟩ u) T t (l.set i u) := set_row h u
theorem Row.drew (h : Row w T t l) : Row w.drew T t l := h
theorem Row.alloc (h : Row w T t l) (o : Obj) : Row (w.alloc o) T t l := (heap_lt _ _ h.lt).trans h
theorem Row.fr {X : Nat → Prop} (h : Row w T t l) (hf : Fr w w' X) (hx : ¬ X T) : Row w' T t l := (hf.block T h.lt hx).trans h
theorem Row.below (h : Row w T t l) (hb : Below w.heap.size w w') : Row w' T t l := (hb.block T h.lt).trans h
theorem Fr.refl (w : World) (X : Nat → Prop) : Fr w w X := .of_below (Below.refl _ _)
theorem Fr.setT {a b : World} {T : Nat} (h : Fr a b (· = T)) (i : Nat) (u : Value) : Fr a (b.setCell ⟨T, i, none⟩ u) (· = T) := h.set _ _ fun _ => rfl
end
theorem set_eq {l : List Value} {i : Nat} {u v : Value} (h : l[i]? = some v) : (l.set i u)[i]? = some u := by
 rw [List.getElem?_set_self (List.getElem?_eq_some_iff.1 h).1]
theorem set_ne {l : List Value} {i j : Nat} {u : Value} (h : i ≠ j) : (l.set i u)[j]? = l[j]? := by
 rw [List.getElem?_set_ne h]

theorem run_enter {P : Program} {f : FuncId} {fn : Func} {c : Code} (hf : P.funcs[f]? = some fn) (hname : (fn.name == "runtime.NumGoroutine") = false) (hb : fn.body = some c) (args : Array Value) (w : World) : (callFunc f args).run P w = .ok (.enter f args) w := by
 have h1 : fn.name ≠ "runtime.NumGoroutine" := by simpa using hname
 simp [callFunc, hf, h1, hb]
theorem race_disable (w : World) : (callFunc 204 #[]).run Tryz.prog w = .ok (.value (.tuple #[])) w := run_call_mark0 Tryz.func204 (by kernel_rfl) (by kernel_rfl) (by kernel_rfl) .disable (by kernel_rfl) w
theorem race_enable (w : World) : (callFunc 206 #[]).run Tryz.prog w = .ok (.value (.tuple #[])) w := run_call_mark0 Tryz.func206 (by kernel_rfl) (by kernel_rfl) (by kernel_rfl) .enable (by kernel_rfl) w
theorem race_acquire (a : Addr) (w : World) : (callFunc 207 #[.pointer (some a)]).run Tryz.prog w = .ok (.value (.tuple #[])) w := run_call_marked Tryz.func207 (by kernel_rfl) (by kernel_rfl) (by kernel_rfl) .acquire (by kernel_rfl) a w
theorem race_merge (a : Addr) (w : World) : (callFunc 209 #[.pointer (some a)]).run Tryz.prog w = .ok (.value (.tuple #[])) w := run_call_marked Tryz.func209 (by kernel_rfl) (by kernel_rfl) (by kernel_rfl) .releaseMerge (by kernel_rfl) a w

set_option maxRecDepth 100000 in
set_option maxHeartbeats 1600000 in
theorem store_deferred (a : Addr) (x : Value) (u : FrameMode) (w : World) (hc : w.cell? a = some x) (hz : w.frozen? a = false) :
  CallsD Tryz.prog 172 #[.pointer (some a), .bool true] u w fun e u' w' => u' = u ∧ (e = .returned (.tuple #[]) ∧ w' = w.drew.setCell a (.int .u32 1)) := by
 have hc' : w.drew.cell? a = some x := by go_simp
 have hz' : w.drew.frozen? a = false := by go_simp
 have hst := run_call_store (P := Tryz.prog) Tryz.func193 (by kernel_rfl) (by kernel_rfl) (by kernel_rfl) (by kernel_rfl) (k := .u32) (y := 1) hc' hz'
 go_enter_d Tryz.func172, Tryz.ntmps172
 go_wp2
 go_region_calls
 all_goals (go_end0; exact ⟨rfl, rfl⟩)
set_option maxRecDepth 100000 in
set_option maxHeartbeats 1600000 in
theorem unlock_deferred (a : Addr) (u : FrameMode) (w : World) (hc : w.cell? a = some (.int .i32 1)) (hz : w.frozen? a = false) :
  CallsD Tryz.prog 171 #[.pointer (some a)] u w fun e u' w' => u' = u ∧ (e = .returned (.tuple #[]) ∧ w' = w.setCell a (.int .i32 0)) := by
 have hd := race_disable
 have he := race_enable
 have hr := race_merge
 have hadd := run_call_add (P := Tryz.prog) Tryz.func210 (by kernel_rfl) (by kernel_rfl) (by kernel_rfl) .i32 (by kernel_rfl) (y := -1) (s := 0) hc hz (by simp [go_sem]; rfl)
 have hcv := run_convert_to_unsafe (P := Tryz.prog) (src := 264) (dst := 268) Tryz.underlying264 Tryz.underlying268 (by kernel_rfl) hc
 go_enter_d Tryz.func171, Tryz.ntmps171
 go_wp2
 go_end0
 go_wp2
 go_end0
 exact ⟨rfl, rfl⟩
set_option maxRecDepth 100000 in
set_option maxHeartbeats 1600000 in
theorem lock_free (a : Addr) (w : World) (hc : w.cell? a = some (.int .i32 0)) (hz : w.frozen? a = false) :
  Calls Tryz.prog 170 #[.pointer (some a)] w fun e w' => e = .returned (.tuple #[]) ∧ w' = w.setCell a (.int .i32 1) := by
 have hd := race_disable
 have he := race_enable
 have ha := race_acquire
 have hcas := run_call_cas_hit (P := Tryz.prog) Tryz.func205 (by kernel_rfl) (by kernel_rfl) (by kernel_rfl) .i32 (by kernel_rfl) (y := 1) hc hz
 have hc' : (w.setCell a (.int .i32 1)).cell? a = some (.int .i32 1) := World.cell?_setCell_same w a _ hc
 have hcv := run_convert_to_unsafe (P := Tryz.prog) (src := 264) (dst := 268) Tryz.underlying264 Tryz.underlying268 (by kernel_rfl) hc'
 go_enter Tryz.func170, Tryz.ntmps170
 go_wp2
 first | go_end0 | (simp only [Exit.inBlock, Exit.then]; refine bodyPost_ret (results_none rfl _ _ _) rfl ?_) | refine bodyPost_ret (results_none rfl _ _ _) rfl ?_
 go_wp2
 go_end0
 exact ⟨rfl, rfl⟩

def OnceDoes (g : Nat) (lb : Array Value) (T o : Nat) (t : TypeId) (w : World) (l : List Value) (Q : World → List Value → Prop) : Prop :=
 ∀ W, Row W T t (l.set (o + 1) (.int .i32 1)) → Fr w W (· = T) → W.heap.size = w.heap.size → Calls Tryz.prog g lb W fun e W' => e = .returned (.tuple #[]) ∧ Fr W W' (· = T) ∧ ∃ l', Row W' T t l' ∧ l'[o]? = some (.int .u32 0) ∧ l'[o + 1]? = some (.int .i32 1) ∧ Q W' l'
def OnceTold (T o : Nat) (t : TypeId) (w : World) (Q : World → List Value → Prop) (w' : World) : Prop :=
 Fr w w' (· = T) ∧ ∃ W' l', Q W' l' ∧ Fr W' w' (· = T) ∧ w'.heap.size = W'.heap.size ∧ Row w' T t ((l'.set o (.int .u32 1)).set (o + 1) (.int .i32 0)) ∧ l'[o]? = some (.int .u32 0) ∧ l'[o + 1]? = some (.int .i32 1)

set_option maxRecDepth 100000 in
set_option maxHeartbeats 1600000 in
theorem slow_any (g : Nat) (lb : Array Value) (T o : Nat) (t : TypeId) (l : List Value) (w : World) (Q : World → List Value → Prop) (hr : Row w T t l) (h0 : l[o]? = some (.int .u32 0)) (h1 : l[o + 1]? = some (.int .i32 0))
  (eg : ∀ args w, (callFunc g args).run Tryz.prog w = .ok (.enter g args) w) (hf : OnceDoes g lb T o t w l Q) :
  Calls Tryz.prog 140 #[.pointer (some ⟨T, o, none⟩), .func (.func g) #[] lb] w fun e w' => e = .returned (.tuple #[]) ∧ OnceTold T o t w Q w' := by
 have hfr : Fr w (w.setCell ⟨T, o + 1, none⟩ (.int .i32 1)) (· = T) := (Fr.refl w _).setT _ _
 have hr1 := hr.set (o + 1) (.int .i32 1)
 have hsz : (w.setCell ⟨T, o + 1, none⟩ (.int .i32 1)).heap.size = w.heap.size := by simp [World.setCell]
 have hcall := hf _ hr1 hfr hsz
 have hl := run_call_load (P := Tryz.prog) Tryz.func169 (by kernel_rfl) (by kernel_rfl) (by kernel_rfl) .u32 (by kernel_rfl) (w := w.setCell ⟨T, o + 1, none⟩ (.int .i32 1)) (a := ⟨T, o, none⟩) (x := 0) (hr1.cell (by rw [set_ne (by omega)]; exact h0))
 have hlock := lock_free ⟨T, o + 1, none⟩ w (hr.cell h1) (hr.frozen _)
 have hnot : ∀ (x : Bool) (w : World), (Op.unary .not (.bool x)).run Tryz.prog w = .ok (.bool (!x)) w := fun _ _ => rfl
 have HF := Lib.hid hfr
 clear hf hfr hsz h0 h1
 have HR := Lib.hid hr
 have HR1 := Lib.hid hr1
 clear hr hr1
 go_enter_defers Tryz.func140, Tryz.ntmps140
 go_wp2_with (first | (go_at_call 170; refine hlock.mono ?_; rintro e w' ⟨rfl, rfl⟩) | (go_at_call 139; go_in) | (go_at_fn g; refine hcall.mono ?_; rintro e w1 ⟨rfl, hf1, l', hr2, k0, k1, hq⟩))
 refine leaves_cons (f := 172) (args := #[.pointer (some ⟨T, o, none⟩), .bool true]) (by simp) (by simp [go_sem]) ?_
 refine (store_deferred ⟨T, o, none⟩ (.int .u32 0) .returning _ (hr2.cell k0) (hr2.frozen _)).mono ?_
 rintro e u' w'' ⟨rfl, rfl, rfl⟩
 have hr3 : Row (w1.drew.setCell ⟨T, o, none⟩ (.int .u32 1)) T t (l'.set o (.int .u32 1)) := hr2.drew.set _ _
 refine leaves_cons (f := 171) (args := #[.pointer (some ⟨T, o + 1, none⟩)]) (by simp [settle]) (by simp [go_sem]) ?_
 refine (unlock_deferred ⟨T, o + 1, none⟩ _ _ (hr3.cell (by rw [set_ne (by omega)]; exact k1)) (hr3.frozen _)).mono ?_
 rintro e u' w'' ⟨rfl, rfl, rfl⟩
 have hend : OnceTold T o t w Q ((w1.drew.setCell ⟨T, o, none⟩ (.int .u32 1)).setCell ⟨T, o + 1, none⟩ (.int .i32 0)) := ⟨((HF.out.trans hf1).drew.setT _ _).setT _ _, w1, l', hq, ((Fr.refl w1 _).drew.setT _ _).setT _ _, by simp [World.setCell], hr3.set _ _, k0, k1⟩
 simp only [Leaves, settle]
 exact ⟨_, results_none rfl _ _ _, rfl, hend⟩
set_option maxRecDepth 100000 in
set_option maxHeartbeats 1600000 in
theorem do_first (g : Nat) (lb : Array Value) (T o : Nat) (t : TypeId) (l : List Value) (w : World) (Q : World → List Value → Prop) (hr : Row w T t l) (h0 : l[o]? = some (.int .u32 0)) (h1 : l[o + 1]? = some (.int .i32 0))
  (eg : ∀ args w, (callFunc g args).run Tryz.prog w = .ok (.enter g args) w) (hf : OnceDoes g lb T o t w l Q) :
  Calls Tryz.prog 113 #[.pointer (some ⟨T, o, none⟩), .func (.func g) #[] lb] w fun e w' => e = .returned (.tuple #[]) ∧ OnceTold T o t w Q w' := by
 have hs := slow_any g lb T o t l w Q hr h0 h1 eg hf
 have hl := run_call_load (P := Tryz.prog) Tryz.func169 (by kernel_rfl) (by kernel_rfl) (by kernel_rfl) .u32 (by kernel_rfl) (hr.cell h0)
 have hnot : ∀ (x : Bool) (w : World), (Op.unary .not (.bool x)).run Tryz.prog w = .ok (.bool (!x)) w := fun _ _ => rfl
 clear hf hr h0 h1
 go_enter Tryz.func113, Tryz.ntmps113
 go_wp2_with (first | (go_at_call 140; refine hs.mono ?_; rintro e w' ⟨rfl, hw⟩) | (go_at_call 139; go_in))
 go_end0
 exact ⟨rfl, hw⟩
set_option maxRecDepth 100000 in
set_option maxHeartbeats 1600000 in
theorem do_done (a : Addr) (fv : Value) (w : World) (h0 : w.cell? a = some (.int .u32 1)) :
  Calls Tryz.prog 113 #[.pointer (some a), fv] w fun e w' => e = .returned (.tuple #[]) ∧ w' = w := by
 have hl := run_call_load (P := Tryz.prog) Tryz.func169 (by kernel_rfl) (by kernel_rfl) (by kernel_rfl) .u32 (by kernel_rfl) h0
 have hnot : ∀ (x : Bool) (w : World), (Op.unary .not (.bool x)).run Tryz.prog w = .ok (.bool (!x)) w := fun _ _ => rfl
 go_enter Tryz.func113, Tryz.ntmps113
 go_wp2
 go_end0
 exact ⟨rfl, rfl⟩
end Go.Proofs.YtknjhlbhbnldpaaGreatDoor.C
