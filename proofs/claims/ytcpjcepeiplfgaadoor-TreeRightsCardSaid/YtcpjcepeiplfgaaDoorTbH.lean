/-
  The program's Right: whether a tree may be. No condition but what each names.
-/
import Derived.Test.YtcpjcepeiplfgaaDoorTbG
namespace Go.Proofs.YtcpjcepeiplfgaaDoor.C
open Go.RowKit

theorem MapIs.len {P : Program} {w : World} {M : Nat} {kd : TypeDesc} {l : List (Value × Value)} {t k e : TypeId} (h : MapIs w M kd l) (ht : P.underlying t = some (.map k e)) (ty : TypeId) : (Builtin.len_ #[t] ty #[.map (some M)]).run P w = .ok (.int .i64 l.length) w := by
  obtain ⟨es, clock, hb, h2, _, _⟩ := h
  have e1 : l.length = es.size := by rw [← h2]; simp
  rw [e1]
  simp [Builtin.len_, run_underlying ht, MapKept.run_getObj_map hb, goInt, Result.andThen]
theorem arrayLen9 : Tryd.prog.arrayLen 54 = 9 := by kernel_rfl
theorem elem9 : Tryd.prog.elem 54 = 4 := by kernel_rfl
theorem under9 : Tryd.prog.underlying 54 = some (.array (Tryd.prog.arrayLen 54) (Tryd.prog.elem 54)) := by kernel_rfl
theorem sizeOfB (W : World) : (sizeOf 4).run Tryd.prog W = .ok 1 W := by kernel_rfl
theorem slice9 (a : Addr) (k : Nat) (hk : k ≤ 9) (W : World) : (Instr.sliceAt 54 (.pointer (some a)) none (some (.int .i64 k)) none).run Tryd.prog W = .ok (.slice (some a) k 9) W := by
  rw [run_sliceAt_array_h W 54 a under9 .i64 k (by omega) (by rw [arrayLen9]; omega), elem9, sizeOfB, arrayLen9]
  simp only [Result.andThen, slicedAt, Int.toNat_natCast]
  rw [if_neg (by omega)]
  congr 3
/-- bools in a row -/
def BoolsAt (w : World) (ad : Addr) (bs : List Bool) : Prop := ∀ j b, bs[j]? = some b → w.cell? (ad.add j) = some (.bool b)
def IdxTold (w : World) (bs : List Bool) (e : Ending) (w' : World) : Prop := (∃ k : Nat, e = .returned (.int .i64 k) ∧ bs[k]? = some false ∧ w' = w) ∨ (e = .returned (.int .i64 (-1)) ∧ w' = w ∧ ∀ b ∈ bs, b = true)
set_option maxRecDepth 100000 in
set_option maxHeartbeats 1000000 in
theorem indexB_any (w : World) (ad : Addr) (n c : Nat) (bs : List Bool) (hl : bs.length = n) (h : BoolsAt w ad bs) (hn : n ≤ 9) :
    Calls Tryd.prog 43 #[.slice (some ad) n c, .bool false] w (IdxTold w bs) := by
  have H := Lib.hid h
  clear h
  go_enter Tryd.func43, Tryd.ntmps43
  go_wp2
  go_loopw [8] (fun iv wr => ∃ k : Nat, k ≤ n ∧ iv = .int .i64 k ∧ wr = w ∧ Hid (∀ j, j < k → bs[j]? = some true)) (fun iv _ => n - (intOf iv).toNat)
  case atStart => exact ⟨0, Nat.zero_le _, rfl, rfl, Lib.hid (fun j hj => absurd hj (by omega))⟩
  case round =>
    obtain ⟨k, hkn, rfl, rfl, HQ⟩ := hrel
    by_cases hlt : k < n
    · obtain ⟨b, hb⟩ : ∃ b, bs[k]? = some b := ⟨_, List.getElem?_eq_getElem (by omega)⟩
      have c0 := H.out k b hb
      have HB := Lib.hid hb
      clear hb
      cases b with
      | false =>
        go_wp2
        go_ret
        exact .inl ⟨k, rfl, HB.out, rfl⟩
      | true =>
        go_wp2
        go_roundw
        case rel =>
          refine ⟨k + 1, by omega, by go_num, by first | rfl | trivial, Lib.hid fun j hj => ?_⟩
          by_cases e : j = k
          · rw [e]; exact HB.out
          · exact HQ.out j (by omega)
        case measure => simp [intOf]; omega
    · obtain rfl : k = n := by omega
      have HE : Hid (∀ b ∈ bs, b = true) := Lib.hid fun b hb => by
        obtain ⟨j, hj⟩ := List.mem_iff_getElem?.1 hb
        have := HQ.out j (by have := (List.getElem?_eq_some_iff.1 hj).1; omega)
        rw [hj] at this
        injection this
      go_wp2
      go_ret
      exact .inr ⟨rfl, rfl, HE.out⟩
set_option maxRecDepth 100000 in
set_option maxHeartbeats 1000000 in
theorem containsB_any (w : World) (ad : Addr) (n c : Nat) (bs : List Bool) (hl : bs.length = n) (h : BoolsAt w ad bs) (hn : n ≤ 9) :
    Calls Tryd.prog 24 #[.slice (some ad) n c, .bool false] w fun e w' => e = .returned (.bool (!bs.all id)) ∧ w' = w := by
  have hf := indexB_any w ad n c bs hl h hn
  clear h hn hl
  go_enter Tryd.func24, Tryd.ntmps24
  go_wp2_with fail
  refine hf.mono ?_
  rintro e w2 (⟨k, rfl, h1, rfl⟩ | ⟨rfl, rfl, h1⟩)
  · have hr : bs.all id = false := by rw [List.all_eq_false]; exact ⟨false, List.mem_of_getElem? h1, by simp⟩
    have HR := Lib.hid hr
    clear hf hr h1
    go_wp2
    go_ret
    rw [HR.out]
    exact ⟨rfl, rfl⟩
  · have hr : bs.all id = true := by rw [List.all_eq_true]; exact fun b hb => h1 b hb
    have HR := Lib.hid hr
    clear hf hr h1
    go_wp2
    go_ret
    rw [HR.out]
    exact ⟨rfl, rfl⟩
/-- nine cells of a node in a row -/
structure Cells9 (w : World) (p : Addr) (x : Nd) (vR vT vK : Value) : Prop where
  c0 : w.cell? p = some (.int .u8 x.k)
  c1 : w.cell? ⟨p.block, p.off + 1, none⟩ = some (.int .i32 x.c)
  c2 : w.cell? ⟨p.block, p.off + 2, none⟩ = some (.bool x.nt)
  c3 : w.cell? ⟨p.block, p.off + 3, none⟩ = some vR
  c4 : w.cell? ⟨p.block, p.off + 4, none⟩ = some vT
  c5 : w.cell? ⟨p.block, p.off + 5, none⟩ = some (.int .i64 x.n)
  c6 : w.cell? ⟨p.block, p.off + 6, none⟩ = some (.int .i64 x.mn)
  c7 : w.cell? ⟨p.block, p.off + 7, none⟩ = some (.int .i64 x.mx)
  c8 : w.cell? ⟨p.block, p.off + 8, none⟩ = some vK
theorem NdsP.at_ {w : World} {P : Nat → Prop} {A : Option Addr} {ns : List Nd} {xs : List (List Value)} (h : NdsP w P A ns xs) {i : Nat} {x : Nd} (hx : ns[i]? = some x) : ∃ ad vR vT vK, A = some ad ∧ P ad.block ∧ Cells9 w (ad.add (i * 9)) x vR vT vK ∧ NdP w P x vR vT vK := by
  obtain ⟨vR, vT, vK, h1, h2⟩ := h.2 i x hx
  obtain ⟨ad, y, e, hb, hy, hl, hc⟩ := h.1.at_ (k := i) ((List.getElem?_eq_some_iff.1 hx).1)
  rw [h1] at hy
  injection hy with hy
  subst hy
  refine ⟨ad, vR, vT, vK, e, hb, ⟨hc 0 _ rfl, ?_, ?_, ?_, ?_, ?_, ?_, ?_, ?_⟩, h2⟩
  all_goals rw [add_more' _ _ _ (by omega)]
  · exact hc 1 _ rfl
  · exact hc 2 _ rfl
  · exact hc 3 _ rfl
  · exact hc 4 _ rfl
  · exact hc 5 _ rfl
  · exact hc 6 _ rfl
  · exact hc 7 _ rfl
  · exact hc 8 _ rfl
theorem Cells9.keep {w w' : World} {p : Addr} {x : Nd} {vR vT vK : Value} (h : Cells9 w p x vR vT vK) (hb : w'.heap[p.block]? = w.heap[p.block]?) : Cells9 w' p x vR vT vK := by
  have key : ∀ q : Addr, q.block = p.block → w'.cell? q = w.cell? q := fun q hq => World.cell?_of_block (by rw [hq]; exact hb)
  exact ⟨(key _ rfl).trans h.c0, (key ⟨p.block, p.off + 1, none⟩ rfl).trans h.c1, (key ⟨p.block, p.off + 2, none⟩ rfl).trans h.c2, (key ⟨p.block, p.off + 3, none⟩ rfl).trans h.c3, (key ⟨p.block, p.off + 4, none⟩ rfl).trans h.c4, (key ⟨p.block, p.off + 5, none⟩ rfl).trans h.c5, (key ⟨p.block, p.off + 6, none⟩ rfl).trans h.c6, (key ⟨p.block, p.off + 7, none⟩ rfl).trans h.c7, (key ⟨p.block, p.off + 8, none⟩ rfl).trans h.c8⟩
/-- what stands while Right goes through the nodes: box S, map S + 1, checker S + 1 + 1 -/
structure RtSt (w : World) (S : Nat) (P : Nat → Prop) (A : Option Addr) (c : Nat) (t : Tr) (xs : List (List Value)) (i : Nat) (wr : World) : Prop where
  b : Below S w wr
  tr : Rw wr S 34 #[.slice A t.ns.length c, .int .i64 t.g]
  ck : CkAt wr (S + 1 + 1) t.g (gsOf (t.ns.take i)) (S + 1)
  ks : KsIs wr (S + 1) (kidsOf (t.ns.take i))
  ok : OkTo t i
theorem RtSt.nds {w wr : World} {S : Nat} {P : Nat → Prop} {A : Option Addr} {c : Nat} {t : Tr} {xs : List (List Value)} {i : Nat} (h : RtSt w S P A c t xs i wr) (hn : NdsP w P A t.ns xs) (hP : ∀ b, P b → b < S) : NdsP wr P A t.ns xs := hn.keep (below_cells h.b hP)
theorem right_start (w W1 W3 : World) (S : Nat) (P : Nat → Prop) (A : Option Addr) (c : Nat) (t : Tr) (xs : List (List Value)) (hb1 : Below S w W1) (hr1 : Rw W1 S 34 #[.slice A t.ns.length c, .int .i64 t.g]) (hs1 : W1.heap.size = S + 1) (hW3 : W3 = (W1.alloc (.map #[] 0)).alloc (.cells #[.int .i64 t.g, .bool false, .bool false, .bool false, .bool false, .bool false, .bool false, .bool false, .bool false, .bool false, .map (some (S + 1))] 56)) : RtSt w S P A c t xs 0 W3 := by
  have hb2 : Below (S + 1) W1 (W1.alloc (.map #[] 0)) := (Below.refl _ _).alloc (by omega) _
  have hb3 : Below (S + 1 + 1) (W1.alloc (.map #[] 0)) W3 := by rw [hW3]; exact (Below.refl _ _).alloc (by simp; omega) _
  have hm : KsIs (W1.alloc (.map #[] 0)) (S + 1) [] := by rw [← hs1]; exact MapIs.new W1 _
  have hck : CkAt W3 (S + 1 + 1) t.g [] (S + 1) := by
    have := heap_alloc_new (W1.alloc (.map #[] 0)) (.cells #[.int .i64 t.g, .bool false, .bool false, .bool false, .bool false, .bool false, .bool false, .bool false, .bool false, .bool false, .map (some (S + 1))] 56)
    rw [World.size_alloc, hs1] at this
    rw [hW3]
    exact this
  exact ⟨hb1.trans ((hb2.trans (hb3.mono (by omega))).mono (by omega)), (hr1.on hb2 (by omega)).on hb3 (by omega), by simpa [gsOf] using hck, by
    have h : KsIs W3 (S + 1) [] := MapIs.at_ hm (hb3.block (S + 1) (by omega))
    simpa [kidsOf] using h, OkTo.zero t⟩
theorem right_end {t : Tr} (h1 : 1 ≤ t.ns.length) (h2 : t.ns.length ≤ 200) (h3 : 0 ≤ t.g) (h4 : t.g ≤ 9) (h : OkTo t t.ns.length) : rightT t = (decide ((kidsOf t.ns).length = t.ns.length - 1) && ((List.range t.g.toNat).map fun i : Nat => decide ((i : Int) + 1 ∈ gsOf t.ns)).all id) := by
  rw [Bool.eq_iff_iff]
  simp only [Bool.and_eq_true, decide_eq_true_eq, List.all_map, List.all_eq_true, List.mem_range, Function.comp, id]
  constructor
  · intro hr
    obtain ⟨-, -, -, hl, -, hg⟩ := right_parts hr
    exact ⟨hl, fun i hi => by rw [Int.add_comm]; exact hg i hi⟩
  · rintro ⟨hl, hg⟩
    exact right_of h1 h2 h3 h4 h hl (fun i hi => by rw [Int.add_comm]; exact hg i hi)
theorem RtSt.next {w wr w1 w2 w3 : World} {S : Nat} {P : Nat → Prop} {A : Option Addr} {c : Nat} {t : Tr} {xs : List (List Value)} {i : Nat} {x : Nd} (h : RtSt w S P A c t xs i wr) (hx : t.ns[i]? = some x) (hb1 : Below wr.heap.size wr w1) (hf2 : Fr w1 w2 (· = S + 1 + 1)) (hn : nodeB x t.g = true) (hg : x.k = 7 → x.n ∉ gsOf (t.ns.take i)) (hck : CkAt w2 (S + 1 + 1) t.g (if x.k = 7 then gsOf (t.ns.take i) ++ [x.n] else gsOf (t.ns.take i)) (S + 1)) (hf3 : Fr w2 w3 (· = S + 1)) (hk : ∀ k ∈ x.ks, 0 ≤ k ∧ k < (i : Int)) (hks : KsIs w3 (S + 1) (kidsOf (t.ns.take i) ++ x.ks)) : RtSt w S P A c t xs (i + 1) w3 := by
  have hsz := h.b.size
  have h0 := h.tr.lt
  have e1 : gsOf (t.ns.take (i + 1)) = if x.k = 7 then gsOf (t.ns.take i) ++ [x.n] else gsOf (t.ns.take i) := by
    rw [take_nd hx, gsOf_snoc]
    split <;> simp
  have hS1 : S + 1 < wr.heap.size := MapIs.lt h.ks
  have hS2 : S + 1 + 1 < wr.heap.size := Rw.lt h.ck
  have b1 : Below S wr w1 := hb1.mono (by omega)
  have b2 : Below S w1 w2 := hf2.below (by rintro j _ rfl; omega) (by have := hb1.size; omega)
  have b3 : Below S w2 w3 := hf3.below (by rintro j _ rfl; omega) (by have := hb1.size; have := hf2.size; omega)
  refine ⟨((h.b.trans b1).trans b2).trans b3, ?_, ?_, ?_, h.ok.step hx hn hk hks.nodup hg⟩
  · refine ((hf3.block S (by have := hb1.size; have := hf2.size; omega) (by omega)).trans ((hf2.block S (by have := hb1.size; omega) (by omega)).trans ?_))
    exact h.tr.on hb1 h0
  · rw [e1]
    exact (hf3.block (S + 1 + 1) (by have := hb1.size; have := hf2.size; omega) (by omega)).trans hck
  · rw [take_nd hx, kidsOf_snoc]
    exact hks
set_option maxRecDepth 100000 in
set_option maxHeartbeats 8000000 in
theorem treeRight_any (w : World) (P : Nat → Prop) (A : Option Addr) (c : Nat) (t : Tr) (xs : List (List Value)) (hN : NdsP w P A t.ns xs) (hP : ∀ b, P b → b < w.heap.size) (hl : t.ns.length ≤ maxLen) :
    Calls Tryd.prog 10 #[.agg #[.slice A t.ns.length c, .int .i64 t.g]] w fun e w' => e = .returned (.bool (rightT t)) ∧ Below w.heap.size w w' := by
  unfold maxLen at hl
  obtain ⟨S, hS⟩ : ∃ S, w.heap.size = S := ⟨_, rfl⟩
  rw [hS]
  obtain ⟨W1, hW1⟩ : ∃ W1, W1 = w.alloc (.cells #[.slice A t.ns.length c, .int .i64 t.g] 34) := ⟨_, rfl⟩
  have hb1 : Below S w W1 := by rw [hW1]; exact (Below.refl _ _).alloc (by omega) _
  have hr1 : Rw W1 S 34 #[.slice A t.ns.length c, .int .i64 t.g] := by rw [hW1, ← hS]; exact heap_alloc_new w _
  have hs1 : W1.heap.size = S + 1 := by rw [hW1]; simp; omega
  have HN := Lib.hid hN
  have HP : Hid (∀ b, P b → b < S) := Lib.hid (by rw [← hS]; exact hP)
  have HB1 := Lib.hid hb1
  have HR1 := Lib.hid hr1
  have c0 : W1.cell? ⟨S, 0, none⟩ = some (.slice A t.ns.length c) := hr1.cell (i := 0) rfl
  have c1 : W1.cell? ⟨S, 1, none⟩ = some (.int .i64 t.g) := hr1.cell (i := 1) rfl
  clear hN hP hb1 hr1
  by_cases hr : 1 ≤ t.ns.length ∧ t.ns.length ≤ 200 ∧ 0 ≤ t.g ∧ t.g ≤ 9
  · obtain ⟨g1, g2, g3, g4⟩ := hr
    have e1 : ¬ (t.ns.length : Int) < 1 := by omega
    have e2 : ¬ (200 : Int) < (t.ns.length : Int) := by omega
    have e3 : ¬ t.g < 0 := by omega
    have e4 : ¬ 9 < t.g := by omega
    have hmm := @run_makeMap Tryd.prog
    go_enter Tryd.func10, Tryd.ntmps10
    go_upto_region 3 with fail
    rw [← hW1]
    clear hW1
    go_wp2_with fail
    obtain ⟨W3, hW3⟩ : ∃ W3, W3 = (W1.alloc (.map #[] 0)).alloc (.cells #[.int .i64 t.g, .bool false, .bool false, .bool false, .bool false, .bool false, .bool false, .bool false, .bool false, .bool false, .map (some (S + 1))] 56) := ⟨_, rfl⟩
    have H0 := Lib.hid (right_start w W1 W3 S P A c t xs HB1.out HR1.out hs1 hW3)
    rw [← hW3]
    have HG : Hid ((1 ≤ t.ns.length ∧ t.ns.length ≤ 200) ∧ 0 ≤ t.g ∧ t.g ≤ 9) := Lib.hid ⟨⟨g1, g2⟩, g3, g4⟩
    clear hW3 HB1 HR1 c0 c1 hs1 g1 g2 g3 g4 e1 e2 e3 e4 hmm
    obtain ⟨n, hnn⟩ : ∃ n, n = t.ns.length := ⟨_, rfl⟩
    have HNN := Lib.hid hnn
    rw [← hnn]
    clear hl
    go_loopw [33] (fun iv wr => ∃ i : Nat, i ≤ n ∧ iv = .int .i64 i ∧ Hid (RtSt w S P A c t xs i wr)) (fun iv _ => n - (intOf iv).toNat)
    case atStart => exact ⟨0, Nat.zero_le _, rfl, H0⟩
    case round =>
      clear H0
      obtain ⟨i, hin, rfl, HR⟩ := hrel
      by_cases hlt : i < n
      · obtain ⟨x, hx⟩ : ∃ x, t.ns[i]? = some x := ⟨_, List.getElem?_eq_getElem (by omega)⟩
        have hnds := HR.out.nds HN.out HP.out
        obtain ⟨ad, vR, vT, vK, rfl, hPa, h9, hnd⟩ := hnds.at_ hx
        obtain ⟨⟨AR, cR, rfl, -⟩, ⟨AT, cT, us, rfl, -⟩, ⟨AK, cK, rfl, -⟩⟩ := id hnd
        have HX := Lib.hid hx
        have HND := Lib.hid hnd
        obtain ⟨d0, d1, d2, d3, d4, d5, d6, d7, d8⟩ := h9
        obtain ⟨w1, hw1⟩ : ∃ w1, w1 = wr.alloc (.cells #[.int .u8 x.k, .int .i32 x.c, .bool x.nt, .slice AR x.rs.length cR, .slice AT x.ts.length cT, .int .i64 x.n, .int .i64 x.mn, .int .i64 x.mx, .slice AK x.ks.length cK] 31) := ⟨_, rfl⟩
        clear hnd hnds hx hPa hnn
        go_upto_region 7 with fail
        rw [← hw1]
        have hb1 : Below wr.heap.size wr w1 := by rw [hw1]; exact (Below.refl _ _).alloc (Nat.le_refl _) _
        have hrow1 : Rw w1 wr.heap.size 31 (ndRow x (.slice AR x.rs.length cR) (.slice AT x.ts.length cT) (.slice AK x.ks.length cK)).toArray := by rw [hw1]; exact heap_alloc_new wr _
        have hP1 : ∀ b, P b → b < w1.heap.size ∧ b ≠ S + 1 + 1 ∧ b ≠ S + 1 ∧ b < wr.heap.size := fun b hp => by have := HP.out b hp; have := hb1.size; have := HR.out.b.size; have := HR.out.tr.lt; omega
        have hnd1 := HND.out.keep (below_cells hb1 fun b hp => (hP1 b hp).2.2.2)
        have hck1 : CkAt w1 (S + 1 + 1) t.g (gsOf (t.ns.take i)) (S + 1) := Rw.on HR.out.ck hb1 (Rw.lt HR.out.ck)
        have hc := isNode_any w1 (S + 1 + 1) (S + 1) t.g (gsOf (t.ns.take i)) x _ _ _ P hck1 HG.out.2 hnd1 (fun b hp => (hP1 b hp).1)
        unfold ndVal at hc
        have HB1 := Lib.hid hb1
        have HROW1 := Lib.hid hrow1
        have HP1 := Lib.hid hP1
        have HND1 := Lib.hid hnd1
        have q0 : w1.cell? ⟨wr.heap.size, 0, none⟩ = some (.int .u8 x.k) := hrow1.cell (i := 0) rfl
        have q1 : w1.cell? ⟨wr.heap.size, 1, none⟩ = some (.int .i32 x.c) := hrow1.cell (i := 1) rfl
        have q2 : w1.cell? ⟨wr.heap.size, 2, none⟩ = some (.bool x.nt) := hrow1.cell (i := 2) rfl
        have q3 : w1.cell? ⟨wr.heap.size, 3, none⟩ = some (.slice AR x.rs.length cR) := hrow1.cell (i := 3) rfl
        have q4 : w1.cell? ⟨wr.heap.size, 4, none⟩ = some (.slice AT x.ts.length cT) := hrow1.cell (i := 4) rfl
        have q5 : w1.cell? ⟨wr.heap.size, 5, none⟩ = some (.int .i64 x.n) := hrow1.cell (i := 5) rfl
        have q6 : w1.cell? ⟨wr.heap.size, 6, none⟩ = some (.int .i64 x.mn) := hrow1.cell (i := 6) rfl
        have q7 : w1.cell? ⟨wr.heap.size, 7, none⟩ = some (.int .i64 x.mx) := hrow1.cell (i := 7) rfl
        have q8 : w1.cell? ⟨wr.heap.size, 8, none⟩ = some (.slice AK x.ks.length cK) := hrow1.cell (i := 8) rfl
        clear hw1 hb1 hrow1 hP1 hnd1 hck1 d0 d1 d2 d3 d4 d5 d6 d7 d8
        go_wp2_with fail
        refine hc.mono ?_
        rintro e w2 ⟨r, rfl, hf2, hy, hno⟩
        clear hc q0 q1 q2 q3 q4 q5 q6 q7 q8
        have HSW : Hid (S + 1 + 1 < wr.heap.size) := Lib.hid (Rw.lt HR.out.ck)
        have hbw2 : Below S w w2 := (HR.out.b.trans (HB1.out.mono (by have := HR.out.tr.lt; omega))).trans (hf2.below (by rintro j _ rfl; omega) (by have := HB1.out.size; have := HSW.out; omega))
        cases r with
        | false =>
          have hfalse : rightT t = false := by
            rcases hno rfl with h | h
            · exact bad_node HX.out h
            · exact bad_group HX.out h.1 h.2
          have HFAL := Lib.hid hfalse
          have HBW := Lib.hid hbw2
          clear hno hy hf2 hbw2 hfalse
          go_wp2
          go_ret
          rw [HFAL.out]
          exact ⟨rfl, HBW.out⟩
        | true =>
          obtain ⟨y1, y2, y3⟩ := hy rfl
          have hrow2 : Rw w2 wr.heap.size 31 (ndRow x (.slice AR x.rs.length cR) (.slice AT x.ts.length cT) (.slice AK x.ks.length cK)).toArray := (hf2.block _ HROW1.out.lt (by have := HSW.out; omega)).trans HROW1.out
          have q8 : w2.cell? ⟨wr.heap.size, 8, none⟩ = some (.slice AK x.ks.length cK) := hrow2.cell (i := 8) rfl
          have hks2 : KsIs w2 (S + 1) (kidsOf (t.ns.take i)) := MapIs.at_ HR.out.ks ((hf2.block (S + 1) (by have := HSW.out; have := HB1.out.size; omega) (by omega)).trans (HB1.out.block (S + 1) (by have := HSW.out; omega)))
          have hnd2 := HND1.out.keep (fr_cells hf2 fun b hp => ⟨(HP1.out b hp).1, (HP1.out b hp).2.1⟩)
          have hc := areKids_any w2 P (S + 1 + 1) (S + 1) i t.g _ (kidsOf (t.ns.take i)) x.ks _ y3 hks2 hnd2.2.2 (fun b hp => ⟨Nat.lt_of_lt_of_le (HP1.out b hp).1 hf2.size, (HP1.out b hp).2.2.1⟩)
          have HF2 := Lib.hid hf2
          have HY1 := Lib.hid y1
          have HY2 := Lib.hid y2
          have HY3 := Lib.hid y3
          have HBW2 := Lib.hid hbw2
          clear hno hy hf2 y1 y2 y3 hrow2 hks2 hnd2 hbw2
          go_wp2_with fail
          refine hc.mono ?_
          rintro e w3 ⟨r, rfl, hf3, hy, hno⟩
          clear hc q8
          cases r with
          | false =>
            have hfalse : rightT t = false := by
              obtain ⟨j, k, h1, h2⟩ := hno rfl
              exact bad_kid HX.out h1 h2
            have HFAL := Lib.hid hfalse
            have HBW : Hid (Below S w w3) := Lib.hid (HBW2.out.trans (hf3.below (by rintro j _ rfl; omega) (by have := HBW2.out.size; have := HF2.out.size; have := HB1.out.size; have := HSW.out; omega)))
            clear hno hy hf3 hfalse
            go_wp2
            go_ret
            rw [HFAL.out]
            exact ⟨rfl, HBW.out⟩
          | true =>
            have HR3 := Lib.hid (HR.out.next HX.out HB1.out HF2.out HY1.out HY2.out HY3.out hf3 (hy rfl).1 (hy rfl).2)
            have w1 : IntKind.i64.wrap ((i : Int) + 1) = (i : Int) + 1 := by rw [IntKind.wrap_i64]; have := HG.out.1.2; have := HNN.out; omega
            clear hno hy hf3
            go_wp2
            go_roundw
            case rel => exact ⟨i + 1, by omega, by go_num, HR3⟩
            case measure => simp [intOf]; omega
      · obtain rfl : i = n := by omega
        have hst := HR.out
        have e1 : t.ns.take i = t.ns := by rw [HNN.out]; exact List.take_length
        have hks := hst.ks
        have hck := hst.ck
        have hok := hst.ok
        rw [e1] at hks hck
        rw [HNN.out] at hok
        have hend := right_end HG.out.1.1 HG.out.1.2 HG.out.2.1 HG.out.2.2 hok
        obtain ⟨gn, hgn⟩ : ∃ gn : Nat, t.g = (gn : Int) := ⟨t.g.toNat, by have := HG.out.2.1; omega⟩
        have hg9 : gn ≤ 9 := by have := HG.out.2.2; omega
        obtain ⟨bs, hbs⟩ : ∃ bs, bs = (List.range t.g.toNat).map fun i : Nat => decide ((i : Int) + 1 ∈ gsOf t.ns) := ⟨_, rfl⟩
        have hbl : bs.length = gn := by rw [hbs, List.length_map, List.length_range]; omega
        have hba : BoolsAt wr ⟨S + 1 + 1, 1, none⟩ bs := by
          intro j b hj
          have hj9 : j < 9 := by have := (List.getElem?_eq_some_iff.1 hj).1; omega
          have hjl := (List.getElem?_eq_some_iff.1 hj).1
          rw [hbl] at hjl
          rw [hbs, List.getElem?_map, List.getElem?_range (by omega)] at hj
          obtain rfl : decide ((j : Int) + 1 ∈ gsOf t.ns) = b := by simpa using hj
          rw [add_plain]
          exact Rw.cell hck (ck_at hj9)
        have HG9 := Lib.hid hg9
        have hcon := containsB_any wr ⟨S + 1 + 1, 1, none⟩ gn 9 bs hbl hba hg9
        rw [← hbs] at hend
        obtain ⟨ba, hbae⟩ : ∃ ba, bs.all id = ba := ⟨_, rfl⟩
        rw [hbae] at hcon hend
        have m0 : wr.cell? ⟨S + 1 + 1, 10, none⟩ = some (.map (some (S + 1))) := Rw.cell hck (i := 10) rfl
        have t0 : wr.cell? ⟨S, 0, none⟩ = some (.slice A i c) := by rw [HNN.out]; exact hst.tr.cell (i := 0) rfl
        have t1 : wr.cell? ⟨S, 1, none⟩ = some (.int .i64 (gn : Int)) := by rw [← hgn]; exact hst.tr.cell (i := 1) rfl
        have ql : ∀ ty, (Builtin.len_ #[53] ty #[.map (some (S + 1))]).run Tryd.prog wr = .ok (.int .i64 (kidsOf t.ns).length) wr := fun ty => by
          have := MapIs.len (P := Tryd.prog) hks Tryd.underlying53 ty
          rw [List.length_map] at this
          exact this
        obtain ⟨kl, hkl⟩ : ∃ kl, kl = (kidsOf t.ns).length := ⟨_, rfl⟩
        rw [← hkl] at ql hend
        have HEND := Lib.hid hend
        have HBW := Lib.hid hst.b
        have wn : IntKind.i64.wrap ((i : Int) - 1) = (i : Int) - 1 := by rw [IntKind.wrap_i64]; have := HG.out.1.2; have := HNN.out; omega
        clear hst e1 hks hck hok hend hbs hbl hba hbae hkl hnn hgn
        by_cases hk : kl = i - 1
        · have b1 : ((kl : Int) == (i : Int) - 1) = true := by rw [beq_iff_eq]; have := HG.out.1.1; have := HNN.out; omega
          have HK := Lib.hid hk
          have hsl := slice9 ⟨S + 1 + 1, 1, none⟩ gn HG9.out wr
          clear hk
          go_wp2_with fail
          refine hcon.mono ?_
          rintro e w5 ⟨rfl, rfl⟩
          clear hcon hsl ql
          go_wp2
          go_ret
          rw [HEND.out, ← HNN.out, decide_eq_true HK.out, Bool.true_and]
          exact ⟨by simp, HBW.out⟩
        · have b1 : ((kl : Int) == (i : Int) - 1) = false := by rw [beq_eq_false_iff_ne]; have := HG.out.1.1; have := HNN.out; omega
          have HK := Lib.hid hk
          clear hk hcon
          go_wp2_with fail
          go_ret
          rw [HEND.out, ← HNN.out, decide_eq_false HK.out]
          exact ⟨rfl, HBW.out⟩
  · have hf : rightT t = false := by
      cases h : rightT t with
      | false => rfl
      | true => exact absurd (right_parts h).1 hr
    rw [hf]
    have hr' : (t.ns.length : Int) < 1 ∨ (200 : Int) < (t.ns.length : Int) ∨ t.g < 0 ∨ 9 < t.g := by omega
    clear hf hr
    by_cases e1 : (t.ns.length : Int) < 1
    · clear hr'
      go_enter Tryd.func10, Tryd.ntmps10
      go_wp2_with fail
      go_ret
      rw [← hW1]
      exact ⟨rfl, HB1.out⟩
    by_cases e2 : (200 : Int) < (t.ns.length : Int)
    · clear hr'
      go_enter Tryd.func10, Tryd.ntmps10
      go_wp2_with fail
      go_ret
      rw [← hW1]
      exact ⟨rfl, HB1.out⟩
    by_cases e3 : t.g < 0
    · clear hr'
      go_enter Tryd.func10, Tryd.ntmps10
      go_wp2_with fail
      go_ret
      rw [← hW1]
      exact ⟨rfl, HB1.out⟩
    have e4 : 9 < t.g := by omega
    clear hr'
    go_enter Tryd.func10, Tryd.ntmps10
    go_wp2_with fail
    go_ret
    rw [← hW1]
    exact ⟨rfl, HB1.out⟩
end Go.Proofs.YtcpjcepeiplfgaaDoor.C
