/-
  Joined: LcS, MCellG, MCellI, MCellJ, LfK. Each with what its own head says.
-/
import Derived.Test.YthaibekbefndlaaGreatDoorRows
import Derived.OpenShut
import Derived.ShutString
import Derived.ChangeOld
import Derived.Carry
import Derived.Deep.DeepHandedRow
import Derived.Lib.LaidTab
import Derived.Stop.LaidErr
import Derived.LaidLaws
import Derived.Lay
import Derived.Lib.AppendStr
import Derived.Lib.QuoteHex
import Derived.Lib.BufferRead
import Derived.Laws.Concat
import Derived.Shelf.Bytes.SlSmallAll
import Derived.Test.YthaibekbefndlaaGreatDoorH05
import Derived.Test.YthaibekbefndlaaGreatDoorH07

namespace Go.Proofs.YthaibekbefndlaaGreatDoor.C

def erE {α : Type} (f : α → α) : Re α → Re α
 | .ok (x, r) => .ok (f x, r.map erT)
 | .error e => .error (e.1, 0)
theorem takeK_er (ks : List Nat) (ts : List Tok) : takeK ks (ts.map erT) = erE erT (takeK ks ts) := by
 cases ts with
 | nil => rfl
 | cons t r =>
  simp only [List.map_cons, takeK]
  by_cases h : t.k ∈ ks
  ·rw [if_pos h, if_pos (show (erT t).k ∈ ks from h)]; rfl
  ·rw [if_neg h, if_neg (show ¬ (erT t).k ∈ ks from h)]; rfl
theorem takeT_er (k : Nat) (s : List UInt8) (ts : List Tok) : takeT k s (ts.map erT) = erE id (takeT k s ts) := by
 cases ts with
 | nil => rfl
 | cons t r =>
  simp only [List.map_cons, takeT]
  by_cases h : t.k = k ∧ t.t = s
  ·rw [if_pos h, if_pos (show (erT t).k = k ∧ (erT t).t = s from h)]; rfl
  ·rw [if_neg h, if_neg (show ¬ ((erT t).k = k ∧ (erT t).t = s) from h)]; rfl
theorem isSign_er (s : List UInt8) (ts : List Tok) : isSign s (ts.map erT) = isSign s ts := by cases ts <;> rfl
theorem notBelow_er (a : Tok) (ts : List Tok) : notBelow (erT a) (ts.map erT) = erE erT (notBelow a ts) := by
 unfold notBelow
 rw [takeK_er]
 rcases takeK [3] ts with e | ⟨b, r⟩
 ·rfl
 ·simp only [erE]
  by_cases h : b.n < a.n
  ·rw [if_pos h, if_pos (show (erT b).n < (erT a).n from h)]; rfl
  ·rw [if_neg h, if_neg (show ¬ (erT b).n < (erT a).n from h)]
theorem map_drop1 (ts : List Tok) : (ts.map erT).drop 1 = (ts.drop 1).map erT := by cases ts <;> rfl
theorem rangeL_er (rs : List (Int × Int)) (ts : List Tok) : rangeL rs (ts.map erT) = erE id (rangeL rs ts) := by
 unfold rangeL
 rw [takeK_er]
 rcases takeK [3] ts with e | ⟨a, r⟩
 ·rfl
 ·simp only [erE, isSign_er, map_drop1, notBelow_er]
  by_cases h : isSign sThru r = true
  ·rw [if_pos h, if_pos h]
   rcases notBelow a (r.drop 1) with e | ⟨b, r'⟩ <;> rfl
  ·rw [if_neg h, if_neg h]; rfl
theorem pairL_er (l : List (Int × Int)) (ts : List Tok) : pairL l (ts.map erT) = erE id (pairL l ts) := by
 unfold pairL
 rw [takeT_er]
 rcases takeT 2 sOpen ts with e | ⟨_, r1⟩
 ·rfl
 ·simp only [erE, takeK_er]
  rcases takeK [3] r1 with e | ⟨a, r2⟩
  ·rfl
  ·simp only [erE, takeT_er]
   by_cases h : (a.n : Int) ∈ l.map Prod.fst
   ·rw [if_pos h, if_pos (show ((erT a).n : Int) ∈ l.map Prod.fst from h)]; rfl
   ·rw [if_neg h, if_neg (show ¬ ((erT a).n : Int) ∈ l.map Prod.fst from h)]
    rcases takeT 2 sComma r2 with e | ⟨_, r3⟩
    ·rfl
    ·simp only [erE, takeK_er]
     rcases takeK [3] r3 with e | ⟨b, r4⟩
     ·rfl
     ·simp only [erE, takeT_er]
      rcases takeT 2 sShut r4 with e | ⟨_, r5⟩ <;> rfl
theorem itemsL_er {σ : Type} (item : σ → List Tok → Re σ) (h : ∀ s ts, item s (ts.map erT) = erE id (item s ts)) : ∀ f s ts, itemsL item f s (ts.map erT) = erE id (itemsL item f s ts)
 | 0, _, _ => rfl
 | f + 1, s, ts => by
  simp only [itemsL, h]
  rcases item s ts with e | ⟨s', r⟩
  ·rfl
  ·simp only [erE, isSign_er, map_drop1, id]
   by_cases hs : isSign sSemi r = true
   ·rw [if_pos hs, if_pos hs]
    exact itemsL_er item h f s' (r.drop 1)
   ·rw [if_neg hs, if_neg hs]
theorem classL_er (s : Sta) (ts : List Tok) : classL s (ts.map erT) = erE id (classL s ts) := by
 unfold classL
 rw [takeK_er]
 rcases takeK [1] ts with e | ⟨n, r⟩
 ·rfl
 ·simp only [erE, List.length_map, itemsL_er rangeL rangeL_er]
  by_cases h : n.t ∈ s.l.cls.map Cls.name
  ·rw [if_pos h, if_pos (show (erT n).t ∈ s.l.cls.map Cls.name from h)]; rfl
  ·rw [if_neg h, if_neg (show ¬ (erT n).t ∈ s.l.cls.map Cls.name from h)]
   rcases itemsL rangeL (r.length + 1) [] r with e | ⟨rs, r'⟩ <;> rfl
theorem upperL_er (s : Sta) (ts : List Tok) : upperL s (ts.map erT) = erE id (upperL s ts) := by
 unfold upperL
 rw [List.length_map, itemsL_er pairL pairL_er]
 rcases itemsL pairL (ts.length + 1) s.l.up ts with e | ⟨x, r⟩ <;> rfl
theorem lowerL_er (s : Sta) (ts : List Tok) : lowerL s (ts.map erT) = erE id (lowerL s ts) := by
 unfold lowerL
 rw [List.length_map, itemsL_er pairL pairL_er]
 rcases itemsL pairL (ts.length + 1) s.l.lo ts with e | ⟨x, r⟩ <;> rfl
theorem elementL_er (s : Sta) (ts : List Tok) : elementL s (ts.map erT) = erE id (elementL s ts) := by
 unfold elementL
 rw [takeK_er]
 rcases takeK [5] ts with e | ⟨n, r1⟩
 ·rfl
 ·simp only [erE, takeT_er]
  by_cases h : (lookD s.d n.t).isSome = true
  ·rw [if_pos h, if_pos (show (lookD s.d (erT n).t).isSome = true from h)]; rfl
  ·rw [if_neg h, if_neg (show ¬ (lookD s.d (erT n).t).isSome = true from h)]
   rcases takeT 1 wFrom r1 with e | ⟨_, r2⟩
   ·rfl
   ·simp only [erE, takeK_er]
    rcases takeK [4] r2 with e | ⟨q, r3⟩
    ·rfl
    ·simp only
     by_cases h2 : (cellsOf q.t).length < 2 ∨ 4 < (cellsOf q.t).length
     ·rw [if_pos h2, if_pos (show (cellsOf (erT q).t).length < 2 ∨ 4 < (cellsOf (erT q).t).length from h2)]; rfl
     ·rw [if_neg h2, if_neg (show ¬ ((cellsOf (erT q).t).length < 2 ∨ 4 < (cellsOf (erT q).t).length) from h2)]; rfl
def erX {α : Type} : Except Er α → Except Er α
 | .ok x => .ok x
 | .error e => .error (e.1, 0)
theorem itemL_er (d : List (List UInt8 × List Int)) (a : Tok) : itemL d (erT a) = erX (itemL d a) := by
 unfold itemL
 by_cases h : a.k = 3
 ·rw [if_pos h, if_pos (show (erT a).k = 3 from h)]; rfl
 ·rw [if_neg h, if_neg (show ¬ (erT a).k = 3 from h)]
  show (match lookD d a.t with | some c => Except.ok c | none => Except.error (31, 0)) = _
  cases lookD d a.t <;> rfl
theorem runAll_er (a : Tok) : ∀ (k : Nat) (o : List Elm) (c : Nat), runAll (erT a) o c k = erX (runAll a o c k)
 | 0, o, c => rfl
 | k + 1, o, c => by
  unfold runAll
  by_cases h : rightN c = true
  ·rw [if_pos h, if_pos h]
   by_cases h2 : o.length = 500
   ·rw [if_pos h2, if_pos h2]; rfl
   ·rw [if_neg h2, if_neg h2]
    exact runAll_er a k _ _
  ·rw [if_neg h, if_neg h]
   exact runAll_er a k _ _
theorem orderL_er (s : Sta) (ts : List Tok) : orderL s (ts.map erT) = erE id (orderL s ts) := by
 unfold orderL
 rw [takeK_er]
 rcases takeK [3, 5] ts with e | ⟨a, r⟩
 ·rfl
 ·simp only [erE, isSign_er, map_drop1, notBelow_er]
  by_cases h : a.k = 3 ∧ isSign sThru r = true
  ·rw [if_pos h, if_pos (show (erT a).k = 3 ∧ isSign sThru r = true from h)]
   rcases notBelow a (r.drop 1) with e | ⟨b, r'⟩
   ·rfl
   ·simp only [runAll_er]
    show (if amongB s.l.ord a.n b.n = true then _ else _) = _
    by_cases h2 : amongB s.l.ord a.n b.n = true
    ·rw [if_pos h2, if_pos h2]; rfl
    ·rw [if_neg h2, if_neg h2]
     show (match erX (runAll a s.l.ord a.n (b.n + 1 - a.n)) with | .error e => _ | .ok o => _) = _
     rcases runAll a s.l.ord a.n (b.n + 1 - a.n) with e | o <;> rfl
  ·rw [if_neg h, if_neg (show ¬ ((erT a).k = 3 ∧ isSign sThru r = true) from h), itemL_er]
   rcases itemL s.d a with e | c
   ·rfl
   ·simp only [erX, takeK_er]
    by_cases h2 : (placeL s.l.ord c).isSome = true
    ·rw [if_pos h2, if_pos h2]; rfl
    ·rw [if_neg h2, if_neg h2]
     by_cases h3 : s.l.ord.length = 500
     ·rw [if_pos h3, if_pos h3]; rfl
     ·rw [if_neg h3, if_neg h3]
      by_cases h4 : isSign sSemi r = true
      ·rw [if_pos h4, if_pos h4]
       rcases takeK [3, 5] (r.drop 1) with e | ⟨b, r'⟩
       ·rfl
       ·simp only [erE, itemL_er]
        rcases itemL s.d b with e | c'
        ·rfl
        ·simp only [erX]
         cases placeL s.l.ord c' <;> rfl
      ·rw [if_neg h4, if_neg h4]; rfl
theorem lineL_er (s : Sta) (ts : List Tok) : lineL s (ts.map erT) = erE id (lineL s ts) := by
 unfold lineL
 rw [takeK_er]
 rcases takeK [1] ts with e | ⟨w, r⟩
 ·rfl
 ·have key : (if (erT w).t = wClass then classL s (r.map erT) else if (erT w).t = wUpper then upperL s (r.map erT) else if (erT w).t = wLower then lowerL s (r.map erT) else if (erT w).t = wElem then elementL s (r.map erT) else if (erT w).t = wOrder then orderL s (r.map erT) else .error (30, (erT w).at_)) = erE id (if w.t = wClass then classL s r else if w.t = wUpper then upperL s r else if w.t = wLower then lowerL s r else if w.t = wElem then elementL s r else if w.t = wOrder then orderL s r else .error (30, w.at_)) := by
   rw [classL_er, upperL_er, lowerL_er, elementL_er, orderL_er]
   show (if w.t = wClass then _ else if w.t = wUpper then _ else if w.t = wLower then _ else if w.t = wElem then _ else if w.t = wOrder then _ else _) = _
   repeat' split
   all_goals rfl
  simp only [erE]
  rw [key]
  generalize (if w.t = wClass then classL s r else if w.t = wUpper then upperL s r else if w.t = wLower then lowerL s r else if w.t = wElem then elementL s r else if w.t = wOrder then orderL s r else Except.error (30, w.at_) : Re Sta) = X
  rcases X with e | ⟨s', r'⟩
  ·rfl
  ·simp only [erE, takeK_er]
   rcases takeK [6] r' with e | ⟨_, r''⟩ <;> rfl
theorem linesL_step {f : Nat} {s s' : Sta} {ts r : List Tok} (h : lineL s ts = .ok (s', r)) (h0 : ts ≠ []) : linesL (f + 1) s ts = linesL f s' r := by
 unfold linesL
 rw [if_neg (by cases ts with | nil => exact absurd rfl h0 | cons => simp), h]
 cases f <;> rfl
end Go.Proofs.YthaibekbefndlaaGreatDoor.C

namespace Go.Proofs.YthaibekbefndlaaGreatDoor.C
open Go.RowKit

theorem info5 : (Tryz.prog.info? 5).map (fun i => (i.zero, i.size, i.bytes)) = some (some (.int .u8 0), 1, 1) := by kernel_rfl

theorem byteCells_one (l : List UInt8) : ∀ v ∈ Lib.byteCells l, v.oneCell' = true := by
 intro v hv
 simp only [Lib.byteCells, List.mem_map] at hv
 obtain ⟨b, _, rfl⟩ := hv
 rfl

def Grew (B : Nat) (w : World) (n : Nat) (xs : List UInt8) (v' : Value) (w' : World) : Prop := w'.ownsRow B 5 1 v' n (Lib.byteCells xs) ∧ Below B w w'

set_option maxRecDepth 100000 in
set_option maxHeartbeats 1000000 in
theorem formatBits_16 (w : World) (B : Nat) (v : Value) (n : Nat) (xs : List UInt8) (u : Nat) (hu : u < 16 ^ 16) (hT : w.cell? ⟨10, 15, none⟩ = some (.int .u8 4)) (hB : B ≤ w.heap.size) (hown : w.ownsRow B 5 1 v n (Lib.byteCells xs)) (hn : n ≤ 1099511627776) :
  Calls Tryz.prog 233 #[v, .int .u64 u, .int .i64 16, .bool false, .bool true] w fun e w' => ∃ v', e = .returned (.tuple #[v', .string ⟨#[]⟩]) ∧ Grew B w (n + (hexL u).length) (xs ++ hexL u) v' w' := by
 obtain ⟨i0, hi, hz0, hz1, hz2⟩ := info_parts info5
 have HO := Lib.hid hown
 have HU := Lib.hid hu
 clear hown hu
 have hz := zeroArray
 have hT1 : ∀ o, (w.alloc o).cell? ⟨10, 15, none⟩ = some (.int .u8 4) := fun o => by rw [World.cell?_alloc_lt w o _ (World.block_lt_of_cell? w _ hT)]; exact hT
 go_enter Tryz.func233, Tryz.ntmps233
 go_wp2_with fail
 refine (isPow_16 _).mono ?_
 rintro e w' ⟨rfl, rfl⟩
 go_wp2_with fail
 refine (tz_16 _ (hT1 _)).mono ?_
 rintro e w' ⟨rfl, rfl⟩
 go_wp2_with fail
 go_loopw [1, 13] (fun uv iv wr => ∃ (uu k : Nat) (d : List UInt8), uv = .int .u64 uu ∧ iv = .int .i64 k ∧ uu < 18446744073709551616 ∧ HexSt u uu d k ∧ Digits wr w.heap.size k d ∧ Below w.heap.size w wr) (fun uv _ _ => (intOf uv).toNat)
 case atStart => exact ⟨u, 65, [], rfl, rfl, by have := HU.out; simpa using this, hexSt_zero HU.out, digits_start w, (Below.refl _ _).alloc (Nat.le_refl _) _⟩
 case round =>
  obtain ⟨uu, k, d, rfl, rfl, huu, hst, hdg, hb⟩ := hrel
  obtain ⟨hk1, hk2⟩ := hexSt_left hst
  obtain ⟨k, rfl⟩ : ∃ k', k = k' + 1 := ⟨k - 1, by omega⟩
  obtain ⟨x, hcell⟩ := digits_cell hdg
  have hfz := digits_frozen hdg
  have HS := Lib.hid hst
  have HD := Lib.hid hdg
  clear hst hdg
  by_cases hlt : uu < 16
  ·have hend := hexSt_end HS.out hlt
   have hlen : (dig uu :: d).length = 65 - k := by have := HS.out.2.1; simp; omega
   have hdg2 : ∀ h, Digits (wr.setCell ⟨w.heap.size, k, none⟩ (.int .u8 ((ByteArray.mk #[48, 49, 50, 51, 52, 53, 54, 55, 56, 57, 97, 98, 99, 100, 101, 102, 103, 104, 105, 106, 107, 108, 109, 110, 111, 112, 113, 114, 115, 116, 117, 118, 119, 120, 121, 122])[uu]'h).toNat)) w.heap.size k (dig uu :: d) := fun h => by rw [dig_at _ _ hlt]; exact digits_set HD.out _
   have HE := Lib.hid hend
   have HL := Lib.hid hlen
   have HD2 := Lib.hid hdg2
   clear hend hlen hdg2
   have hsl := slice65 w.heap.size k (by omega)
   go_wp2_with (at_builtin; (refine wpList_append_own _ rfl _ _ 38 rfl B 5 i0 (.int .u8 0) 1 1 Tryz.underlying38 hi hz0 hz1 hz2 rfl (by decide) v n (Lib.byteCells xs) rfl (own_keep HO.out (hb.setCell (Nat.le_refl _) _)) ⟨w.heap.size, k, none⟩ (65 - k) (65 - k) (Lib.byteCells (dig uu :: d)) rfl (by rw [Lib.byteCells_length, HL.out]; omega) (digits_cells (HD2.out _)) (byteCells_one _) (by unfold maxLen; omega) (by omega) (by have := hb.size; simp [World.setCell]; omega) ?_); intro v' w3 hown' hgrow _)
   go_ret2
   refine ⟨v', rfl, ?_, ?_⟩
   ·rw [HE.out, HL.out, Lib.byteCells_append]
    exact hown'
   ·exact ((hb.mono hB).setCell hB _).grown hgrow (by have := hb.size; simp [World.setCell]; omega) (fun k hk => (HO.out.lt k hk).1)
  ·have hand := and15 uu huu
   have hm : uu % 16 < 16 := Nat.mod_lt _ (by omega)
   go_wp2
   go_roundw
   case rel => exact ⟨uu / 16, k, dig (uu % 16) :: d, by go_num, rfl, by omega, hexSt_step HS.out hlt, by rw [dig_at _ _ hm]; exact digits_set HD.out _, hb.setCell (Nat.le_refl _) _⟩
   case measure => simp [intOf]; omega

set_option maxRecDepth 100000 in
set_option maxHeartbeats 1000000 in
theorem appendUint_16 (w : World) (B : Nat) (v : Value) (n : Nat) (xs : List UInt8) (u : Nat) (hu : u < 1152921504606846976) (hT : w.cell? ⟨10, 15, none⟩ = some (.int .u8 4)) (hB : B ≤ w.heap.size) (hown : w.ownsRow B 5 1 v n (Lib.byteCells xs)) (hn : n ≤ 1099511627776) :
  Calls Tryz.prog 209 #[v, .int .u64 u, .int .i64 16] w fun e w' => ∃ v', e = .returned v' ∧ Grew B w (n + (hexL u).length) (xs ++ hexL u) v' w' := by
 have HO := Lib.hid hown
 clear hown
 go_enter Tryz.func209, Tryz.ntmps209
 go_wp2_with fail
 refine (formatBits_16 w B v n xs u (Nat.lt_of_lt_of_le hu (by decide)) hT hB HO.out hn).mono ?_
 rintro e w1 ⟨v', rfl, hg⟩
 have HG := Lib.hid hg
 clear hg
 go_wp2
 go_ret
 exact ⟨v', rfl, HG.out⟩

set_option maxRecDepth 100000 in
set_option maxHeartbeats 1000000 in
theorem appendInt_16 (w : World) (B : Nat) (v : Value) (n : Nat) (xs : List UInt8) (u : Nat) (hu : u < 1152921504606846976) (hT : w.cell? ⟨10, 15, none⟩ = some (.int .u8 4)) (hB : B ≤ w.heap.size) (hown : w.ownsRow B 5 1 v n (Lib.byteCells xs)) (hn : n ≤ 1099511627776) :
  Calls Tryz.prog 193 #[v, .int .i64 u, .int .i64 16] w fun e w' => ∃ v', e = .returned v' ∧ Grew B w (n + (hexL u).length) (xs ++ hexL u) v' w' := by
 have HO := Lib.hid hown
 clear hown
 go_enter Tryz.func193, Tryz.ntmps193
 go_wp2_with fail
 refine (appendUint_16 w B v n xs u hu hT hB HO.out hn).mono ?_
 rintro e w1 ⟨v', rfl, hg⟩
 have HG := Lib.hid hg
 clear hg
 go_wp2
 go_ret
 exact ⟨v', rfl, HG.out⟩

set_option maxRecDepth 100000 in
set_option maxHeartbeats 1000000 in
theorem strconvAppendInt_16 (w : World) (B : Nat) (v : Value) (n : Nat) (xs : List UInt8) (u : Nat) (hu : u < 1152921504606846976) (hT : w.cell? ⟨10, 15, none⟩ = some (.int .u8 4)) (hB : B ≤ w.heap.size) (hown : w.ownsRow B 5 1 v n (Lib.byteCells xs)) (hn : n ≤ 1099511627776) :
  Calls Tryz.prog 162 #[v, .int .i64 u, .int .i64 16] w fun e w' => ∃ v', e = .returned v' ∧ Grew B w (n + (hexL u).length) (xs ++ hexL u) v' w' := by
 have HO := Lib.hid hown
 clear hown
 go_enter Tryz.func162, Tryz.ntmps162
 go_wp2_with fail
 refine (appendInt_16 w B v n xs u hu hT hB HO.out hn).mono ?_
 rintro e w1 ⟨v', rfl, hg⟩
 have HG := Lib.hid hg
 clear hg
 go_wp2
 go_ret
 exact ⟨v', rfl, HG.out⟩
end Go.Proofs.YthaibekbefndlaaGreatDoor.C

namespace Go.Proofs.YthaibekbefndlaaGreatDoor.C
open Go.RowKit

set_option maxRecDepth 100000 in
set_option maxHeartbeats 2000000 in
theorem shown_wrong (w : World) (B : Nat) (v : Value) (n : Nat) (xs : List UInt8) (c : Int) (hno : ¬ (-256 ≤ c ∧ c < 55296 ∨ 57343 < c ∧ c ≤ 1114111)) (hB : B ≤ w.heap.size) (hown : w.ownsRow B 5 1 v n (Lib.byteCells xs)) (hn : n ≤ 1099511627000) :
  Calls Tryz.prog 111 #[v, .int .i32 c] w fun e w' => ∃ v', e = .returned v' ∧ Grew B w (n + (shown c).length) (xs ++ shown c) v' w' := by
 obtain ⟨i0, hi, hz0, hz1, hz2⟩ := info_parts info5
 have hsh : shown c = [92, 63] := by
  unfold shown
  rw [if_neg (by omega), if_pos hno]
 rw [hsh]
 have HO := Lib.hid hown
 clear hown hsh
 have hr : rightB c = false := by simp [rightB]; omega
 have HR := Lib.hid hr
 clear hr
 go_enter Tryz.func111, Tryz.ntmps111
 go_wp2_with fail
 refine (byte_no c w (by omega)).mono ?_
 rintro e w' ⟨rfl, rfl⟩
 go_wp2_with fail
 refine (right_any _ _).mono ?_
 rintro e w' ⟨rfl, rfl⟩
 rw [HR.out]
 go_wp2_with (at_builtin; (refine Lib.wpList_append_own_string _ rfl _ _ 38 9 rfl B 5 i0 Tryz.underlying38 Tryz.underlying9 hi hz0 hz1 hz2 _ _ _ rfl HO.out _ rfl (by unfold maxLen; show n + 2 ≤ _; omega) (by show n + 2 ≤ _; omega) hB ?_); intro v' w3 hown' hgrow _)
 go_ret
 exact ⟨v', rfl, by rw [Lib.byteCells_append]; exact hown', (Below.refl _ _).grown hgrow hB (fun k hk => (HO.out.lt k hk).1)⟩

set_option maxRecDepth 100000 in
set_option maxHeartbeats 2000000 in
theorem shown_92 (w : World) (B : Nat) (v : Value) (n : Nat) (xs : List UInt8) (c : Int) (hc : c = 92) (hB : B ≤ w.heap.size) (hown : w.ownsRow B 5 1 v n (Lib.byteCells xs)) (hn : n ≤ 1099511627000) :
  Calls Tryz.prog 111 #[v, .int .i32 c] w fun e w' => ∃ v', e = .returned v' ∧ Grew B w (n + (shown c).length) (xs ++ shown c) v' w' := by
 obtain ⟨i0, hi, hz0, hz1, hz2⟩ := info_parts info5
 have hsh : shown c = [92, 92] := by
  unfold shown
  subst hc; rfl
 rw [hsh]
 have HO := Lib.hid hown
 clear hown hsh
 subst hc
 have hr : rightB 92 = true := by decide
 have HR := Lib.hid hr
 clear hr
 go_enter Tryz.func111, Tryz.ntmps111
 go_wp2_with fail
 refine (byte_no 92 w (by omega)).mono ?_
 rintro e w' ⟨rfl, rfl⟩
 go_wp2_with fail
 refine (right_any _ _).mono ?_
 rintro e w' ⟨rfl, rfl⟩
 rw [HR.out]
 go_wp2_with (at_builtin; (refine Lib.wpList_append_own_string _ rfl _ _ 38 9 rfl B 5 i0 Tryz.underlying38 Tryz.underlying9 hi hz0 hz1 hz2 _ _ _ rfl HO.out _ rfl (by unfold maxLen; show n + 2 ≤ _; omega) (by show n + 2 ≤ _; omega) hB ?_); intro v' w3 hown' hgrow _)
 go_ret
 exact ⟨v', rfl, by rw [Lib.byteCells_append]; exact hown', (Below.refl _ _).grown hgrow hB (fun k hk => (HO.out.lt k hk).1)⟩

set_option maxRecDepth 100000 in
set_option maxHeartbeats 2000000 in
theorem shown_10 (w : World) (B : Nat) (v : Value) (n : Nat) (xs : List UInt8) (c : Int) (hc : c = 10) (hB : B ≤ w.heap.size) (hown : w.ownsRow B 5 1 v n (Lib.byteCells xs)) (hn : n ≤ 1099511627000) :
  Calls Tryz.prog 111 #[v, .int .i32 c] w fun e w' => ∃ v', e = .returned v' ∧ Grew B w (n + (shown c).length) (xs ++ shown c) v' w' := by
 obtain ⟨i0, hi, hz0, hz1, hz2⟩ := info_parts info5
 have hsh : shown c = [92, 110] := by
  unfold shown
  subst hc; rfl
 rw [hsh]
 have HO := Lib.hid hown
 clear hown hsh
 subst hc
 have hr : rightB 10 = true := by decide
 have HR := Lib.hid hr
 clear hr
 go_enter Tryz.func111, Tryz.ntmps111
 go_wp2_with fail
 refine (byte_no 10 w (by omega)).mono ?_
 rintro e w' ⟨rfl, rfl⟩
 go_wp2_with fail
 refine (right_any _ _).mono ?_
 rintro e w' ⟨rfl, rfl⟩
 rw [HR.out]
 go_wp2_with (at_builtin; (refine Lib.wpList_append_own_string _ rfl _ _ 38 9 rfl B 5 i0 Tryz.underlying38 Tryz.underlying9 hi hz0 hz1 hz2 _ _ _ rfl HO.out _ rfl (by unfold maxLen; show n + 2 ≤ _; omega) (by show n + 2 ≤ _; omega) hB ?_); intro v' w3 hown' hgrow _)
 go_ret
 exact ⟨v', rfl, by rw [Lib.byteCells_append]; exact hown', (Below.refl _ _).grown hgrow hB (fun k hk => (HO.out.lt k hk).1)⟩

theorem byteCells_byte (c : Int) (h0 : 0 ≤ c) (h1 : c ≤ 255) : Lib.byteCells [c.toNat.toUInt8] = [.int .u8 c] := by
 have : c.toNat.toUInt8.toNat = c.toNat := by simp [Nat.toUInt8, UInt8.toNat_ofNat']; omega
 simp only [Lib.byteCells, List.map_cons, List.map_nil, this]
 rw [Int.toNat_of_nonneg h0]

set_option maxRecDepth 100000 in
set_option maxHeartbeats 2000000 in
theorem shown_plain (w : World) (B : Nat) (v : Value) (n : Nat) (xs : List UInt8) (c : Int) (h1 : 32 ≤ c) (h2 : c ≤ 126) (h3 : c ≠ 92) (hB : B ≤ w.heap.size) (hown : w.ownsRow B 5 1 v n (Lib.byteCells xs)) (hn : n ≤ 1099511627000) :
  Calls Tryz.prog 111 #[v, .int .i32 c] w fun e w' => ∃ v', e = .returned v' ∧ Grew B w (n + (shown c).length) (xs ++ shown c) v' w' := by
 obtain ⟨i0, hi, hz0, hz1, hz2⟩ := info_parts info5
 have hsh : shown c = [c.toNat.toUInt8] := by
  unfold shown
  rw [if_neg (by omega), if_neg (by omega), if_neg h3, if_neg (by omega), if_pos ⟨h1, h2⟩]
 rw [hsh]
 have HO := Lib.hid hown
 have e1 : (c == 92) = false := by simpa using h3
 have e2 : (c == 10) = false := by simp; omega
 clear hown hsh h3
 have hr : rightB c = true := by simp [rightB]; omega
 have HR := Lib.hid hr
 clear hr
 go_enter Tryz.func111, Tryz.ntmps111
 go_wp2_with fail
 refine (byte_no c w (by omega)).mono ?_
 rintro e w' ⟨rfl, rfl⟩
 go_wp2_with fail
 refine (right_any _ _).mono ?_
 rintro e w' ⟨rfl, rfl⟩
 rw [HR.out]
 go_wp2_with (at_builtin; (refine wpList_append_own _ rfl _ _ 38 rfl B 5 i0 (.int .u8 0) 1 1 Tryz.underlying38 hi hz0 hz1 hz2 rfl (by decide) _ _ _ rfl (HO.out.alloc _) _ 1 1 [.int .u8 c] rfl rfl (cell_one_new _ _ _) (by intro u hu; simp at hu; subst hu; rfl) (by unfold maxLen; omega) (by omega) (by simp; omega) ?_); intro v' w3 hown' hgrow _)
 go_ret
 exact ⟨v', rfl, by rw [Lib.byteCells_append, byteCells_byte c (by omega) (by omega)]; exact hown', ((Below.refl _ _).alloc hB _).grown hgrow (by simp; omega) (fun k hk => (HO.out.lt k hk).1)⟩

theorem strconvAppendInt_16z (w : World) (B : Nat) (v : Value) (n : Nat) (xs : List UInt8) (c : Int) (h0 : 0 ≤ c) (h1 : c ≤ 1114111) (hT : w.cell? ⟨10, 15, none⟩ = some (.int .u8 4)) (hB : B ≤ w.heap.size) (hown : w.ownsRow B 5 1 v n (Lib.byteCells xs)) (hn : n ≤ 1099511627776) :
  Calls Tryz.prog 162 #[v, .int .i64 c, .int .i64 16] w fun e w' => ∃ v', e = .returned v' ∧ Grew B w (n + (hexL c.toNat).length) (xs ++ hexL c.toNat) v' w' := by
 obtain ⟨u, rfl⟩ := Int.eq_ofNat_of_zero_le h0
 rw [Int.toNat_natCast]
 exact strconvAppendInt_16 w B v n xs u (by omega) hT hB hown hn

set_option maxRecDepth 100000 in
set_option maxHeartbeats 2000000 in
theorem shown_big (w : World) (B : Nat) (v : Value) (n : Nat) (xs : List UInt8) (c : Int) (h0 : 0 ≤ c) (h1 : c < 32 ∨ 126 < c) (h2 : c ≠ 10) (hy : -256 ≤ c ∧ c < 55296 ∨ 57343 < c ∧ c ≤ 1114111) (hT : w.cell? ⟨10, 15, none⟩ = some (.int .u8 4)) (hTB : 10 < B) (hB : B ≤ w.heap.size) (hown : w.ownsRow B 5 1 v n (Lib.byteCells xs)) (hn : n ≤ 1099511627000) :
  Calls Tryz.prog 111 #[v, .int .i32 c] w fun e w' => ∃ v', e = .returned v' ∧ Grew B w (n + (shown c).length) (xs ++ shown c) v' w' := by
 obtain ⟨i0, hi, hz0, hz1, hz2⟩ := info_parts info5
 have hsh : shown c = [92, 117, 123] ++ hexL c.toNat ++ [125] := by
  unfold shown
  rw [if_neg (by omega), if_neg (by omega), if_neg (by omega), if_neg h2, if_neg (by omega)]
 have HSH := Lib.hid hsh
 have HO := Lib.hid hown
 have e1 : (c == 92) = false := by simp; omega
 have e2 : (c == 10) = false := by simpa using h2
 have HT := Lib.hid hT
 have hlen := hexL_len 5 c.toNat (by have h16 : (16 : Nat) ^ (5 + 1) = 16777216 := (by decide); omega)
 have HLEN := Lib.hid hlen
 have hr : rightB c = true := by simp [rightB]; omega
 have HR := Lib.hid hr
 clear hr
 have hle : c ≤ 1114111 := by omega
 clear hown hsh h2 hT hlen hy
 go_enter Tryz.func111, Tryz.ntmps111
 go_wp2_with fail
 refine (byte_no c w (by omega)).mono ?_
 rintro e w' ⟨rfl, rfl⟩
 go_wp2_with fail
 refine (right_any _ _).mono ?_
 rintro e w' ⟨rfl, rfl⟩
 rw [HR.out]
 rcases h1 with h1 | h1
 all_goals
  go_wp2_with (at_builtin; (refine Lib.wpList_append_own_string _ rfl _ _ 38 9 rfl B 5 i0 Tryz.underlying38 Tryz.underlying9 hi hz0 hz1 hz2 _ _ _ rfl HO.out _ rfl (by unfold maxLen; show n + 3 ≤ _; omega) (by show n + 3 ≤ _; omega) hB ?_); intro v1 w1 hown1 hgrow1 _; have hb1 : Below B w w1 := (Below.refl _ _).grown hgrow1 hB (fun k hk => (HO.out.lt k hk).1); have HO1 := Lib.hid hown1; clear hown1 hgrow1)
  have hsz1 := hb1.size
  have HO1b : Hid (w1.ownsRow B 5 1 v1 (n + 3) (Lib.byteCells (xs ++ [92, 117, 123]))) := by rw [Lib.byteCells_append]; exact HO1.out
  refine (strconvAppendInt_16z w1 B v1 (n + 3) (xs ++ [92, 117, 123]) c h0 hle ((hb1.cell (p := ⟨10, 15, none⟩) hTB).trans HT.out) (by omega) HO1b.out (by omega)).mono ?_
  rintro e w2 ⟨v2, rfl, hown2, hb2⟩
  have HO2 := Lib.hid hown2
  have hsz2 := hb2.size
  clear hown2
  go_wp2_with (at_builtin; (refine wpList_append_own _ rfl _ _ 38 rfl B 5 i0 (.int .u8 0) 1 1 Tryz.underlying38 hi hz0 hz1 hz2 rfl (by decide) _ _ _ rfl (HO2.out.alloc _) _ 1 1 [.int .u8 125] rfl rfl (cell_one_new _ _ _) (by intro u hu; simp at hu; subst hu; rfl) (by have := HLEN.out; unfold maxLen; omega) (by have := HLEN.out; omega) (by simp; omega) ?_); intro v' w3 hown' hgrow _)
  go_ret
  refine ⟨v', rfl, ?_, ?_⟩
  ·have e3 : Lib.byteCells (xs ++ ([92, 117, 123] ++ hexL c.toNat ++ [125])) = Lib.byteCells (xs ++ [92, 117, 123] ++ hexL c.toNat) ++ [Value.int .u8 125] := by simp [Lib.byteCells]
   have e4 : n + ([92, 117, 123] ++ hexL c.toNat ++ [125]).length = n + 3 + (hexL c.toNat).length + 1 := by simp; omega
   rw [HSH.out, e3, e4]
   exact hown'
  ·exact (((hb1.trans hb2)).alloc (by omega) _).grown hgrow (by simp; omega) (fun k hk => (HO2.out.lt k hk).1)

theorem hex16_at : ∀ (x : Nat) (h : x < (ByteArray.mk #[48, 49, 50, 51, 52, 53, 54, 55, 56, 57, 97, 98, 99, 100, 101, 102]).size), (ByteArray.mk #[48, 49, 50, 51, 52, 53, 54, 55, 56, 57, 97, 98, 99, 100, 101, 102])[x]'h = dig x
 | 0, _ => rfl
 | 1, _ => rfl
 | 2, _ => rfl
 | 3, _ => rfl
 | 4, _ => rfl
 | 5, _ => rfl
 | 6, _ => rfl
 | 7, _ => rfl
 | 8, _ => rfl
 | 9, _ => rfl
 | 10, _ => rfl
 | 11, _ => rfl
 | 12, _ => rfl
 | 13, _ => rfl
 | 14, _ => rfl
 | 15, _ => rfl
 | (x + 16), h => absurd h (by show ¬ x + 16 < 16; omega)
theorem esc_cells (xs : List UInt8) (p q : Nat) (hp : p < (ByteArray.mk #[48, 49, 50, 51, 52, 53, 54, 55, 56, 57, 97, 98, 99, 100, 101, 102]).size) (hq : q < (ByteArray.mk #[48, 49, 50, 51, 52, 53, 54, 55, 56, 57, 97, 98, 99, 100, 101, 102]).size) :
  Lib.byteCells (xs ++ [92, 120, dig p, dig q]) = Lib.byteCells xs ++ [Value.int .u8 92, Value.int .u8 120, Value.int .u8 ((ByteArray.mk #[48, 49, 50, 51, 52, 53, 54, 55, 56, 57, 97, 98, 99, 100, 101, 102])[p]'hp).toNat, Value.int .u8 ((ByteArray.mk #[48, 49, 50, 51, 52, 53, 54, 55, 56, 57, 97, 98, 99, 100, 101, 102])[q]'hq).toNat] := by
 rw [hex16_at p hp, hex16_at q hq]
 simp [Lib.byteCells]
theorem and15_u8 (b : Nat) (h : b ≤ 255) : bits BinOp.and IntKind.u8 (b : Int) 15 = ((b % 16 : Nat) : Int) := by
 have : ∀ b : Fin 256, bits BinOp.and IntKind.u8 ((b.val : Nat) : Int) 15 = ((b.val % 16 : Nat) : Int) := by decide +kernel
 exact this ⟨b, by omega⟩
theorem cell_four_new (w : World) (a b c d : Value) (t : TypeId) : ∀ j u, [a, b, c, d][j]? = some u → (w.alloc (.cells #[a, b, c, d] t)).cell? ((⟨w.heap.size, 0, none⟩ : Addr).add j) = some u := by
 intro j u h
 match j, h with
 | 0, h => simpa [Addr.add] using h
 | 1, h => simpa [Addr.add] using h
 | 2, h => simpa [Addr.add] using h
 | 3, h => simpa [Addr.add] using h

set_option maxRecDepth 100000 in
set_option maxHeartbeats 2000000 in
theorem shown_esc (w : World) (B : Nat) (v : Value) (n : Nat) (xs : List UInt8) (c : Int) (h0 : -256 ≤ c) (h1 : c < 0) (hB : B ≤ w.heap.size) (hown : w.ownsRow B 5 1 v n (Lib.byteCells xs)) (hn : n ≤ 1099511627000) :
  Calls Tryz.prog 111 #[v, .int .i32 c] w fun e w' => ∃ v', e = .returned v' ∧ Grew B w (n + (shown c).length) (xs ++ shown c) v' w' := by
 obtain ⟨i0, hi, hz0, hz1, hz2⟩ := info_parts info5
 have hsh : shown c = [92, 120, dig ((-1 - c).toNat / 16), dig ((-1 - c).toNat % 16)] := by
  unfold shown
  rw [if_pos ⟨h0, h1⟩]
 have HSH := Lib.hid hsh
 have HO := Lib.hid hown
 clear hown hsh
 go_enter Tryz.func111, Tryz.ntmps111
 go_wp2_with fail
 refine (byte_yes c w h0 h1).mono ?_
 rintro e w' ⟨rfl, rfl⟩
 obtain ⟨b, hb⟩ : ∃ b : Nat, -1 - c = b := ⟨(-1 - c).toNat, by omega⟩
 rw [hb]
 have hb2 : b ≤ 255 := by omega
 have HB := Lib.hid hb
 clear hb
 obtain ⟨p, hp⟩ : ∃ p : Nat, p = b / 16 := ⟨_, rfl⟩
 obtain ⟨q, hq⟩ : ∃ q : Nat, q = b % 16 := ⟨_, rfl⟩
 have hp1 : (b : Int) / 16 = (p : Int) := by omega
 have hq1 : (b : Int) % 16 = (q : Int) := by omega
 have hp2 : p < 16 := by omega
 have hq2 : q < 16 := by omega
 have hp3 : (p : Int) < 16 := by omega
 have hq3 : (q : Int) < 16 := by omega
 have hand : bits BinOp.and IntKind.u8 (b : Int) 15 = (q : Int) := by rw [and15_u8 b hb2, hq]
 have HP := Lib.hid hp
 have HQ := Lib.hid hq
 clear hp hq
 go_wp2
 go_region_law ((refine step_append_lies _ rfl (.tmp 14) (.tmp 21) 38 rfl B 5 i0 (.int .u8 0) 1 1 Tryz.underlying38 hi hz0 hz1 hz2 rfl (by decide) v n (Lib.byteCells xs) (by simp [Act.eval]) (HO.out.alloc _) _ 4 4 _ (by simp [Act.eval]) rfl (cell_four_new _ _ _ _ _ _) (by intro u hu; simp at hu; rcases hu with rfl | rfl | rfl | rfl <;> rfl) (by decide) (by unfold maxLen; omega) (by omega) (by simp; omega) _ rfl ?_); intro g cap w1 hown1 hgrow1 _ _)
 all_goals
  have HO1 := Lib.hid hown1
  have HG1 := Lib.hid hgrow1
  clear hown1 hgrow1
  go_wp2
  go_ret
  refine ⟨.slice (some ⟨g, 0, none⟩) (n + 4) cap, rfl, ?_, ?_⟩
  ·have e5 : shown c = [92, 120, dig p, dig q] := by rw [HSH.out, HB.out, Int.toNat_natCast, ← HP.out, ← HQ.out]
   rw [e5, esc_cells xs p q hp2 hq2]
   exact HO1.out
  ·exact ((Below.refl _ _).alloc hB _).drew.grown HG1.out (by simp; omega) (fun k hk => (HO.out.lt k hk).1)

theorem appendShown_any (w : World) (B : Nat) (v : Value) (n : Nat) (xs : List UInt8) (c : Int) (hT : w.cell? ⟨10, 15, none⟩ = some (.int .u8 4)) (hTB : 10 < B) (hB : B ≤ w.heap.size) (hown : w.ownsRow B 5 1 v n (Lib.byteCells xs)) (hn : n ≤ 1099511627000) :
  Calls Tryz.prog 111 #[v, .int .i32 c] w fun e w' => ∃ v', e = .returned v' ∧ Grew B w (n + (shown c).length) (xs ++ shown c) v' w' := by
 by_cases h1 : -256 ≤ c ∧ c < 0
 ·exact shown_esc w B v n xs c h1.1 h1.2 hB hown hn
 by_cases h2 : -256 ≤ c ∧ c < 55296 ∨ 57343 < c ∧ c ≤ 1114111
 ·by_cases h3 : c = 92
  ·exact shown_92 w B v n xs c h3 hB hown hn
  by_cases h4 : c = 10
  ·exact shown_10 w B v n xs c h4 hB hown hn
  by_cases h5 : 32 ≤ c ∧ c ≤ 126
  ·exact shown_plain w B v n xs c h5.1 h5.2 h3 hB hown hn
  ·exact shown_big w B v n xs c (by omega) (by omega) h4 h2 hT hTB hB hown hn
 ·exact shown_wrong w B v n xs c h2 hB hown hn
end Go.Proofs.YthaibekbefndlaaGreatDoor.C

namespace Go.Proofs.YthaibekbefndlaaGreatDoor.C
open Go.RowKit

theorem conv_own {w : World} {B : Nat} {v : Value} {n : Nat} {xs : List UInt8} (h : w.ownsRow B 5 1 v n (Lib.byteCells xs)) : (convert 38 9 v).run Tryz.prog w = .ok (.string (str xs)) w := by
 have hl : xs.length = n := by have := h.1; rw [Lib.byteCells_length] at this; omega
 rcases h.2 with ⟨rfl, rfl⟩ | ⟨g, cap, cur, rfl, h2, h3, h4⟩
 ·obtain rfl : xs = [] := List.eq_nil_of_length_eq_zero hl
  exact Lib.run_convert_nil_bytes w 38 9 5 0 Tryz.underlying38 Tryz.underlying5 Tryz.underlying9
 ·subst hl
  refine run_convert_bytes_back w 38 9 5 ⟨g, 0, none⟩ cap xs Tryz.underlying38 Tryz.underlying5 Tryz.underlying9 ?_
  intro j hj
  refine h.cells (g := g) rfl j _ ?_
  simp [Lib.byteCells, hj]

theorem textL_snoc (l : List Int) (c : Int) : textL (l ++ [c]) = textL l ++ shown c := by simp [textL]
theorem textL_le (l : List Int) : (textL l).length ≤ 10 * l.length := by
 induction l with
 | nil => simp [textL]
 | cons c l ih =>
  have := shown_le c
  simp only [textL, List.flatMap_cons, List.length_append, List.length_cons] at *
  omega
set_option maxRecDepth 100000 in
set_option maxHeartbeats 1000000 in
theorem text_any (w : World) (Bx : Nat) (Ax : Option Addr) (n cx : Nat) (xs : List Int) (hx : RI .i32 w Bx Ax n xs) (hBx : Bx ≤ w.heap.size) (hn : n ≤ 1073741824) (hT : w.cell? ⟨10, 15, none⟩ = some (.int .u8 4)) :
  Calls Tryz.prog 65 #[.slice Ax n cx] w fun e w' => e = .returned (.string (str (textL xs))) ∧ Below w.heap.size w w' := by
 have HX := Lib.hid hx
 have hTB := World.block_lt_of_cell? w _ hT
 have HT := Lib.hid hT
 clear hx hT
 go_enter Tryz.func65, Tryz.ntmps65
 go_wp2
 go_loopw [3, 8] (fun v i wr => ∃ k : Nat, k ≤ n ∧ i = .int .i64 k ∧ Hid (wr.ownsRow w.heap.size 5 1 v (textL (xs.take k)).length (Lib.byteCells (textL (xs.take k)))) ∧ Below w.heap.size w wr) (fun _ i _ => n - (intOf i).toNat)
 case atStart => exact ⟨0, Nat.zero_le _, rfl, World.ownsRow_nil _ _ _ _, Below.refl _ _⟩
 case round =>
  obtain ⟨k, hk, rfl, HW, hb⟩ := hrel
  by_cases hlt : k < n
  ·obtain ⟨ad, c, rfl, hbl, hc, hcell⟩ := HX.out.at_ hlt
   have hcr : wr.cell? (ad.add k) = some (.int .i32 c) := (hb.cell (p := ad.add k) (by rw [block_of_add]; omega)).trans hcell
   have hle := textL_le (xs.take k)
   have hlk : (xs.take k).length ≤ k := List.length_take_le _ _
   have HC := Lib.hid hc
   clear hc hcell
   go_wp2_with fail
   refine (appendShown_any wr w.heap.size _ (textL (xs.take k)).length (textL (xs.take k)) c ((hb.cell (p := ⟨10, 15, none⟩) hTB).trans HT.out) hTB hb.size HW.out (by omega)).mono ?_
   rintro e w1 ⟨v1, rfl, hown1, hb1⟩
   have hown2 : Hid (w1.ownsRow w.heap.size 5 1 v1 (textL (xs.take (k + 1))).length (Lib.byteCells (textL (xs.take (k + 1))))) := by
    rw [take_snoc HC.out, textL_snoc, List.length_append]
    exact hown1
   clear hown1
   have hb2 := hb.trans hb1
   go_wp2
   go_roundw
   case rel => exact ⟨k + 1, by omega, by go_num, hown2, hb2⟩
   case measure => simp [intOf]; omega
  ·have hkn : k = n := by omega
   have hcv := conv_own HW.out
   have HK := Lib.hid hkn
   clear hkn
   go_wp2
   go_ret
   refine ⟨?_, hb⟩
   have e1 : xs.take k = xs := List.take_of_length_le (by rw [HX.out.len, HK.out]; exact Nat.le_refl _)
   rw [e1]
   rfl
end Go.Proofs.YthaibekbefndlaaGreatDoor.C

namespace Go.Proofs.YthaibekbefndlaaGreatDoor.C
open Go.RowKit

section
variable {P : Program} {ops : Array Oper} {Q : Exit → Act → World → Prop} {md : Region.Mode} {S : World → Prop}
def chainB (md : Region.Mode) (ops : Array Oper) : Nat → List Nat → Bool
 | _, [] => true
 | i, j :: r => waitsFor md ops j i && chainB md ops j r
def closedB (md : Region.Mode) (ops : Array Oper) (listed : Array Bool) : Bool :=
 (List.range ops.size).all fun j => !listed.getD j false || ((ops[j]?).map (·.after.all fun e => !Region.binds md e || listed.getD e.on false)).getD true
def Closed (md : Region.Mode) (ops : Array Oper) (listed : Array Bool) : Prop := ∀ (j : Nat) (o : Oper), ops[j]? = some o → listed.getD j false = true → ∀ e ∈ o.after, Region.binds md e = true → listed.getD e.on false = true
theorem closed_of {listed : Array Bool} (h : closedB md ops listed = true) : Closed md ops listed := by
 intro j o ho hl e he hb
 have hlt : j < ops.size := (Array.getElem?_eq_some_iff.1 ho).1
 have h1 := (List.all_eq_true.1 h) j (List.mem_range.2 hlt)
 rw [hl, ho] at h1
 simp only [Bool.not_true, Bool.false_or, Option.map_some, Option.getD_some, Array.all_eq_true_iff_forall_mem, Bool.or_eq_true, Bool.not_eq_true'] at h1
 rcases h1 e he with h2 | h2
 ·rw [hb] at h2; cases h2
 ·exact h2
theorem waits_of {j i : Nat} (h : waitsFor md ops j i = true) : ∃ o, ops[j]? = some o ∧ ∃ e ∈ o.after, Region.binds md e = true ∧ e.on = i := by
 unfold waitsFor at h
 cases ho : ops[j]? with
 | none => rw [ho] at h; cases h
 | some o =>
  rw [ho] at h
  simp only [Array.any_eq_true] at h
  obtain ⟨q, hq, he⟩ := h
  simp only [Bool.and_eq_true, beq_iff_eq] at he
  exact ⟨o, rfl, _, Array.getElem_mem hq, he.1, he.2⟩
theorem closed_waits {listed : Array Bool} (h : Closed md ops listed) {j i : Nat} (hw : waitsFor md ops j i = true) (hj : listed.getD j false = true) : listed.getD i false = true := by
 obtain ⟨o, ho, e, he, hb, rfl⟩ := waits_of hw
 exact h j o ho hj e he hb
theorem ready_waits {listed : Array Bool} {j i : Nat} (hw : waitsFor md ops j i = true) (hj : j ∈ Region.ready md ops listed) : listed.getD i false = true := by
 obtain ⟨o, ho, e, he, hb, rfl⟩ := waits_of hw
 obtain ⟨_, o', ho', hall⟩ := mem_ready.1 hj
 obtain rfl : o = o' := Option.some.inj (ho.symm.trans ho')
 exact hall e he hb
theorem chain_back {listed : Array Bool} (h : Closed md ops listed) {L : Nat} (hL : L ∈ Region.ready md ops listed) : ∀ (c : List Nat) (i : Nat), c ≠ [] → chainB md ops i c = true → c.getLast? = some L → listed.getD i false = true
 | [], _, h0, _, _ => absurd rfl h0
 | [j], i, _, hc, hl => by
  simp only [chainB, Bool.and_true] at hc
  obtain rfl : j = L := by simpa using hl
  exact ready_waits hc hL
 | j :: k :: r, i, _, hc, hl => by
  have hc' : waitsFor md ops j i = true ∧ chainB md ops j (k :: r) = true := by
   rw [← Bool.and_eq_true]; exact hc
  have hl' : (k :: r).getLast? = some L := by rw [← hl, List.getLast?_cons_cons]
  exact closed_waits h hc'.1 (chain_back h hL (k :: r) j (by simp) hc'.2 hl')
theorem getD_set_self {listed : Array Bool} {j : Nat} (h : j < listed.size) (d : Bool) : (listed.setIfInBounds j true).getD j d = true := by
 simp [Array.getD, h]
theorem getD_set_mono {listed : Array Bool} {j k : Nat} (h : listed.getD k false = true) : (listed.setIfInBounds j true).getD k false = true := by
 by_cases hk : k < listed.size
 ·by_cases hjk : j = k
  ·subst hjk; exact getD_set_self hk _
  ·rw [getD_set_ne false hjk]; exact h
 ·simp [Array.getD, hk] at h
theorem Closed.set {listed : Array Bool} (h : Closed md ops listed) {j : Nat} (hj : j ∈ Region.ready md ops listed) : Closed md ops (listed.setIfInBounds j true) := by
 intro k o ho hl e he hb
 by_cases hjk : j = k
 ·subst hjk
  obtain ⟨_, o', ho', hall⟩ := mem_ready.1 hj
  obtain rfl : o = o' := Option.some.inj (ho.symm.trans ho')
  exact getD_set_mono (hall e he hb)
 ·rw [getD_set_ne false hjk] at hl
  exact getD_set_mono (h k o ho hl e he hb)
theorem wpAnyE_first2 {L i : Nat} {oi : Oper} {v : Value} (ch : List Nat) (hch : (chainB md ops i ch && (ch.getLast? == some L)) = true) (hi : ops[i]? = some oi) (hsel : ∀ (j : Nat) (o : Oper) cs b, ops[j]? = some o → o.op ≠ .select cs b)
  (hQ : ∀ c a w, Q (.panic c) (a.put oi.dst v) w → Q (.panic c) a w) :
  ∀ (fuel : Nat) (listed : Array Bool) (a : Act) (w : World), Closed md ops listed →
   (∀ j oj, ops[j]? = some oj → j ≠ i → listed.getD j true = false → (∀ e ∈ oj.after, Region.binds md e = true → e.on ≠ i) → oi.apart ops oj = true) →
   i ∈ Region.ready md ops listed → YieldsIf P ops S oi v a → S w →
   wpAnyE P md ops Q S L fuel (listed.setIfInBounds i true) (a.put oi.dst v) w → wpAnyE P md ops Q S L (fuel + 1) listed a w := by
 intro fuel
 simp only [Bool.and_eq_true, beq_iff_eq] at hch
 induction fuel with
 | zero =>
  intro listed a w _ _ hr hy hS H
  refine ⟨fun h => (by rw [h] at hr; cases hr), fun j hj => ?_⟩
  by_cases hji : j = i
  ·subst hji; exact hy.wpOp hi hS ⟨fun _ => hS, H⟩
  ·have := ready_mono hj hji
   rw [H.1] at this
   cases this
 | succ fuel ih =>
  intro listed a w hcl hfree hr hy hS H
  refine ⟨fun h => (by rw [h] at hr; cases hr), fun j hj => ?_⟩
  by_cases hji : j = i
  ·subst hji; exact hy.wpOp hi hS ⟨fun _ => hS, H⟩
  ·have h1 := H.2 j (ready_mono hj hji)
   obtain ⟨hjun, oj, hoj, hall⟩ := mem_ready.1 hj
   have hun : listed.getD i false ≠ true := by
    have h0 := (mem_ready.1 hr).1
    rcases Nat.lt_or_ge i listed.size with h' | h'
    ·simp [Array.getD, h'] at h0 ⊢; exact h0
    ·simp [Array.getD, Nat.not_lt.2 h']
   have hnot : ∀ e ∈ oj.after, Region.binds md e = true → e.on ≠ i := fun e he hb heq => by
    have h1 := hall e he hb
    rw [heq] at h1
    exact hun h1
   have hjL : j ≠ L := by
    rintro rfl
    exact hun (chain_back hcl hj ch i (by rintro rfl; simp at hch) hch.1 hch.2)
   have h2 := wpOp_putIf hoj (hfree j oj hoj hji hjun hnot) (fun cs b => hsel i oi cs b hi) (fun cs b => hsel j oj cs b hoj) hQ hy h1
   have hfree' : ∀ k ok, ops[k]? = some ok → k ≠ i → (listed.setIfInBounds j true).getD k true = false →
     (∀ e ∈ ok.after, Region.binds md e = true → e.on ≠ i) → oi.apart ops ok = true := fun k ok hk hki hun hno => by
    refine hfree k ok hk hki ?_ hno
    by_cases hjk : j = k
    ·subst hjk; exact hjun
    ·rw [getD_set_ne true hjk] at hun; exact hun
   refine wpOp_mono (fun a' w' h3 => ⟨fun _ => h3.2.1 hjL, ih (listed.setIfInBounds j true) a' w' (hcl.set hj) hfree' (ready_mono hr (Ne.symm hji)) h3.1 (h3.2.1 hjL) ?_⟩) h2
   rw [Array.setIfInBounds_comm _ _ hji]
   exact h3.2.2
theorem wpAnyE_take2 {L i : Nat} {oi : Oper} {v : Value} {fuel : Nat} {listed : Array Bool} {a : Act} {w : World} (ch : List Nat) (hi : ops[i]? = some oi)
  (hs : Region.noSelect ops = true) (hf : Region.free md ops listed i = true) (hr : (Region.ready md ops listed).contains i = true) (hch : (chainB md ops i ch && (ch.getLast? == some L)) = true) (hcl : closedB md ops listed = true)
  (hQ : ∀ c a w, Q (.panic c) (a.put oi.dst v) w → Q (.panic c) a w) (hy : YieldsIf P ops S oi v a) (hS : S w)
  (h : wpAnyE P md ops Q S L fuel (listed.setIfInBounds i true) (a.put oi.dst v) w) : wpAnyE P md ops Q S L (fuel + 1) listed a w :=
 wpAnyE_first2 ch hch hi (Region.noSelect_spec hs) hQ fuel listed a w (closed_of hcl) (Region.free_spec hi hf) (by simpa using hr) hy hS h
end
end Go.Proofs.YthaibekbefndlaaGreatDoor.C
