/-
  slices.Clone of numbers, of ranges, of no texts; copyOf of a node without texts: the same in new memory. Condition: at most 2^30 of each.
-/
import Derived.Test.YtcpjcepeiplfgaaDoorTbH
import Derived.Test.YtcpjcepeiplfgaaDoorTaC
namespace Go.Proofs.YtcpjcepeiplfgaaDoor.C
open Go.RowKit

theorem infoRgT : (Tryd.prog.info? 62).map (fun i => (i.zero, i.size, i.bytes)) = some (some (.agg #[.int .i32 0, .int .i32 0]), 2, 8) := by kernel_rfl
theorem infoTxT : (Tryd.prog.info? 93).map (fun i => (i.zero, i.size, i.bytes)) = some (some (.slice none 0 0), 1, 24) := by kernel_rfl
theorem infoInT : (Tryd.prog.info? 3).map (fun i => (i.zero, i.size, i.bytes)) = some (some (.int .i64 0), 1, 8) := by kernel_rfl
theorem SIp.flat {sz : Nat} {w : World} {P : Nat → Prop} {ad : Addr} {n : Nat} {xs : List (List Value)} (h : SIp sz w P (some ad) n xs) : ∀ (j : Nat) (u : Value), xs.flatten[j]? = some u → w.cell? (ad.add j) = some u := by
  intro j u hu
  obtain ⟨k, i, x, hx, hxi, rfl⟩ := flat_in h.2.1 hu
  obtain ⟨ad', e, _, hc⟩ := h.2.2 (by have := (List.getElem?_eq_some_iff.1 hx).1; have := h.1; omega)
  injection e with e
  subst e
  exact hc k x hx i u hxi
theorem SIp.of_own {w : World} {base sz n c : Nat} {e : TypeId} {A : Option Addr} {xs : List (List Value)} {X : Nat → Prop} (h : w.ownsRow base e sz (.slice A n c) n xs.flatten) (hl : xs.length = n) (hx : ∀ x ∈ xs, x.length = sz) (hX : ∀ g, (Value.slice A n c).ownBlock = some g → X g) : SIp sz w X A n xs := by
  refine ⟨hl, hx, fun hn => ?_⟩
  obtain ⟨g, cap, hv, hg, hlt⟩ := h.form hn
  have hA : A = some ⟨g, 0, none⟩ := by injection hv
  subst hA
  exact ⟨_, rfl, hX g rfl, fun j x hj i u hu => h.cells (g := g) rfl _ _ (flat_at hx hj hu)⟩
theorem flat_lenT {sz : Nat} : ∀ {xs : List (List Value)}, (∀ x ∈ xs, x.length = sz) → xs.flatten.length = xs.length * sz
  | [], _ => by simp
  | x :: r, h => by
    rw [List.flatten_cons, List.length_append, h x (by simp), flat_lenT (fun y hy => h y (by simp [hy])), List.length_cons, Nat.add_mul]
    omega
/-- new blocks -/
def NewB (w w' : World) : Nat → Prop := fun b => w.heap.size ≤ b ∧ b < w'.heap.size
set_option maxRecDepth 100000 in
set_option maxHeartbeats 2000000 in
theorem cloneIn_raw (w : World) (ad : Addr) (n c : Nat) (news : List Value) (hl : news.length = n * 1) (hn : n ≤ 1073741824) (hc : ∀ (j : Nat) (u : Value), news[j]? = some u → w.cell? (ad.add j) = some u) (h1 : ∀ u ∈ news, u.oneCell' = true) :
    Calls Tryd.prog 46 #[.slice (some ad) n c] w fun e w' => ∃ v, e = .returned v ∧ w'.ownsRow w.heap.size 3 1 v n news ∧ Below w.heap.size w w' := by
  have q22 : ∀ (w : World) (a : Option Addr) (n c n' c' : Nat), (binOp .eql 29 (.slice a n c) (.slice none n' c')).run Tryd.prog w = .ok (.bool a.isNone) w := fun w a n c n' c' => Lib.run_eql_slice_nil w _ _ a n c n' c' Tryd.underlying29
  obtain ⟨i0, hi, hz0, hz1, hz2⟩ := info_parts infoInT
  have HC := Lib.hid hc
  have HL := Lib.hid hl
  clear hc hl
  go_enter Tryd.func46, Tryd.ntmps46
  go_wp2_with (at_builtin; refine wpList_append_own _ rfl _ _ 29 rfl w.heap.size 3 i0 (.int .i64 0) 1 8 Tryd.underlying29 hi hz0 hz1 hz2 rfl (by decide) _ _ _ rfl (World.ownsRow_made w #[] 0 (Nat.le_refl _) (Nat.zero_le _) (by simp)) ad n c news rfl ?qc1 ?qc2 ?qc3 ?qc4 ?qc5 ?qc6 ?_)
  case qc1 => exact HL.out
  case qc2 =>
    intro j u hj
    exact Lib.cell?_alloc_some _ (HC.out j u hj)
  case qc3 => exact h1
  case qc4 => rw [Nat.zero_add]; unfold maxLen; omega
  case qc5 => rw [Nat.zero_add]; omega
  case qc6 => simp
  intro v' w1 hown hgrow hnil
  have HE : Hid (w1.ownsRow w.heap.size 3 1 v' n news ∧ Below w.heap.size w w1) := Lib.hid ⟨by simpa using hown, ((Below.refl _ w).alloc (Nat.le_refl _) _).grown hgrow (by simp) (fun k hk => by simp [Value.ownBlock] at hk; omega)⟩
  clear hown hgrow hnil
  go_wp2
  go_ret
  exact ⟨_, rfl, HE.out⟩
set_option maxRecDepth 100000 in
set_option maxHeartbeats 1000000 in
theorem cloneIn_nil (w : World) (n c : Nat) : Calls Tryd.prog 46 #[.slice none n c] w fun e w' => e = .returned (.slice none 0 0) ∧ w' = w := by
  have q22 : ∀ (w : World) (a : Option Addr) (n c n' c' : Nat), (binOp .eql 29 (.slice a n c) (.slice none n' c')).run Tryd.prog w = .ok (.bool a.isNone) w := fun w a n c n' c' => Lib.run_eql_slice_nil w _ _ a n c n' c' Tryd.underlying29
  go_enter Tryd.func46, Tryd.ntmps46
  go_wp2
  go_ret
  exact ⟨rfl, rfl⟩
set_option maxRecDepth 100000 in
set_option maxHeartbeats 2000000 in
theorem cloneRn_raw (w : World) (ad : Addr) (n c : Nat) (news : List Value) (hl : news.length = n * 2) (hn : n ≤ 1073741824) (hc : ∀ (j : Nat) (u : Value), news[j]? = some u → w.cell? (ad.add j) = some u) (h1 : ∀ u ∈ news, u.oneCell' = true) :
    Calls Tryd.prog 47 #[.slice (some ad) n c] w fun e w' => ∃ v, e = .returned v ∧ w'.ownsRow w.heap.size 62 2 v n news ∧ Below w.heap.size w w' := by
  have q22 : ∀ (w : World) (a : Option Addr) (n c n' c' : Nat), (binOp .eql 25 (.slice a n c) (.slice none n' c')).run Tryd.prog w = .ok (.bool a.isNone) w := fun w a n c n' c' => Lib.run_eql_slice_nil w _ _ a n c n' c' Tryd.underlying25
  obtain ⟨i0, hi, hz0, hz1, hz2⟩ := info_parts infoRgT
  have HC := Lib.hid hc
  have HL := Lib.hid hl
  clear hc hl
  go_enter Tryd.func47, Tryd.ntmps47
  go_wp2_with (at_builtin; refine wpList_append_own _ rfl _ _ 25 rfl w.heap.size 62 i0 (.agg #[.int .i32 0, .int .i32 0]) 2 8 Tryd.underlying25 hi hz0 hz1 hz2 rfl (by decide) _ _ _ rfl (World.ownsRow_made w #[] 0 (Nat.le_refl _) (Nat.zero_le _) (by simp)) ad n c news rfl ?qc1 ?qc2 ?qc3 ?qc4 ?qc5 ?qc6 ?_)
  case qc1 => exact HL.out
  case qc2 =>
    intro j u hj
    exact Lib.cell?_alloc_some _ (HC.out j u hj)
  case qc3 => exact h1
  case qc4 => rw [Nat.zero_add]; unfold maxLen; omega
  case qc5 => rw [Nat.zero_add]; omega
  case qc6 => simp
  intro v' w1 hown hgrow hnil
  have HE : Hid (w1.ownsRow w.heap.size 62 2 v' n news ∧ Below w.heap.size w w1) := Lib.hid ⟨by simpa using hown, ((Below.refl _ w).alloc (Nat.le_refl _) _).grown hgrow (by simp) (fun k hk => by simp [Value.ownBlock] at hk; omega)⟩
  clear hown hgrow hnil
  go_wp2
  go_ret
  exact ⟨_, rfl, HE.out⟩
set_option maxRecDepth 100000 in
set_option maxHeartbeats 1000000 in
theorem cloneRn_nil (w : World) (n c : Nat) : Calls Tryd.prog 47 #[.slice none n c] w fun e w' => e = .returned (.slice none 0 0) ∧ w' = w := by
  have q22 : ∀ (w : World) (a : Option Addr) (n c n' c' : Nat), (binOp .eql 25 (.slice a n c) (.slice none n' c')).run Tryd.prog w = .ok (.bool a.isNone) w := fun w a n c n' c' => Lib.run_eql_slice_nil w _ _ a n c n' c' Tryd.underlying25
  go_enter Tryd.func47, Tryd.ntmps47
  go_wp2
  go_ret
  exact ⟨rfl, rfl⟩
set_option maxRecDepth 100000 in
set_option maxHeartbeats 2000000 in
theorem cloneTx_raw (w : World) (ad : Addr) (n c : Nat) (news : List Value) (hl : news.length = n * 1) (hn : n ≤ 1073741824) (hc : ∀ (j : Nat) (u : Value), news[j]? = some u → w.cell? (ad.add j) = some u) (h1 : ∀ u ∈ news, u.oneCell' = true) :
    Calls Tryd.prog 48 #[.slice (some ad) n c] w fun e w' => ∃ v, e = .returned v ∧ w'.ownsRow w.heap.size 93 1 v n news ∧ Below w.heap.size w w' := by
  have q22 : ∀ (w : World) (a : Option Addr) (n c n' c' : Nat), (binOp .eql 26 (.slice a n c) (.slice none n' c')).run Tryd.prog w = .ok (.bool a.isNone) w := fun w a n c n' c' => Lib.run_eql_slice_nil w _ _ a n c n' c' Tryd.underlying26
  obtain ⟨i0, hi, hz0, hz1, hz2⟩ := info_parts infoTxT
  have HC := Lib.hid hc
  have HL := Lib.hid hl
  clear hc hl
  go_enter Tryd.func48, Tryd.ntmps48
  go_wp2_with (at_builtin; refine wpList_append_own _ rfl _ _ 26 rfl w.heap.size 93 i0 (.slice none 0 0) 1 24 Tryd.underlying26 hi hz0 hz1 hz2 rfl (by decide) _ _ _ rfl (World.ownsRow_made w #[] 0 (Nat.le_refl _) (Nat.zero_le _) (by simp)) ad n c news rfl ?qc1 ?qc2 ?qc3 ?qc4 ?qc5 ?qc6 ?_)
  case qc1 => exact HL.out
  case qc2 =>
    intro j u hj
    exact Lib.cell?_alloc_some _ (HC.out j u hj)
  case qc3 => exact h1
  case qc4 => rw [Nat.zero_add]; unfold maxLen; omega
  case qc5 => rw [Nat.zero_add]; omega
  case qc6 => simp
  intro v' w1 hown hgrow hnil
  have HE : Hid (w1.ownsRow w.heap.size 93 1 v' n news ∧ Below w.heap.size w w1) := Lib.hid ⟨by simpa using hown, ((Below.refl _ w).alloc (Nat.le_refl _) _).grown hgrow (by simp) (fun k hk => by simp [Value.ownBlock] at hk; omega)⟩
  clear hown hgrow hnil
  go_wp2
  go_ret
  exact ⟨_, rfl, HE.out⟩
set_option maxRecDepth 100000 in
set_option maxHeartbeats 1000000 in
theorem cloneTx_nil (w : World) (n c : Nat) : Calls Tryd.prog 48 #[.slice none n c] w fun e w' => e = .returned (.slice none 0 0) ∧ w' = w := by
  have q22 : ∀ (w : World) (a : Option Addr) (n c n' c' : Nat), (binOp .eql 26 (.slice a n c) (.slice none n' c')).run Tryd.prog w = .ok (.bool a.isNone) w := fun w a n c n' c' => Lib.run_eql_slice_nil w _ _ a n c n' c' Tryd.underlying26
  go_enter Tryd.func48, Tryd.ntmps48
  go_wp2
  go_ret
  exact ⟨rfl, rfl⟩
theorem cloneIn_any (w : World) (P : Nat → Prop) (v : Value) (ks : List Int) (h : KsP w P v ks) (hn : ks.length ≤ 1073741824) :
    Calls Tryd.prog 46 #[v] w fun e w' => ∃ A' c', e = .returned (.slice A' ks.length c') ∧ KsP w' (NewB w w') (.slice A' ks.length c') ks ∧ Below w.heap.size w w' := by
  obtain ⟨A, c, rfl, hr, hm⟩ := h
  cases A with
  | none =>
    obtain rfl : ks = [] := by
      rcases Nat.eq_zero_or_pos ks.length with h | h
      · exact List.length_eq_zero_iff.1 h
      · obtain ⟨_, _, e, _⟩ := hr.at_ h
        cases e
    refine (cloneIn_nil w 0 c).mono ?_
    rintro e w' ⟨rfl, rfl⟩
    exact ⟨none, 0, rfl, ⟨none, 0, rfl, ⟨rfl, fun h => absurd h (by simp)⟩, hm⟩, Below.refl _ _⟩
  | some ad =>
    refine (cloneIn_raw w ad ks.length c (ks.map (Value.int .i64)) (by simp) hn (fun j u hj => ?_) (fun u hu => ?_)).mono ?_
    · rw [List.getElem?_map] at hj
      obtain ⟨x, hx, rfl⟩ := Option.map_eq_some_iff.1 hj
      obtain ⟨ad', e, _, hc⟩ := hr.2 (by have := (List.getElem?_eq_some_iff.1 hx).1; omega)
      injection e with e
      subst e
      exact hc j x hx
    · obtain ⟨x, _, rfl⟩ := List.mem_map.1 hu
      rfl
    · rintro e w' ⟨v, rfl, hown, hb⟩
      obtain ⟨A', c', rfl⟩ := row_form hown
      exact ⟨A', c', rfl, ⟨A', c', rfl, RIp.of_own hown (fun g hg => hown.lt g hg), hm⟩, hb⟩
theorem cloneRn_any (w : World) (P : Nat → Prop) (v : Value) (rs : List (Int × Int)) (h : PrsP w P v rs) (hn : rs.length ≤ 1073741824) :
    Calls Tryd.prog 47 #[v] w fun e w' => ∃ A' c', e = .returned (.slice A' rs.length c') ∧ PrsP w' (NewB w w') (.slice A' rs.length c') rs ∧ Below w.heap.size w w' := by
  obtain ⟨A, c, rfl, hr, hm⟩ := h
  have hx2 : ∀ x ∈ rs.map prRow, x.length = 2 := by intro x hx; obtain ⟨y, _, rfl⟩ := List.mem_map.1 hx; rfl
  cases A with
  | none =>
    obtain rfl : rs = [] := by
      rcases Nat.eq_zero_or_pos rs.length with h | h
      · exact List.length_eq_zero_iff.1 h
      · obtain ⟨_, _, e, _⟩ := hr.at_ h
        cases e
    refine (cloneRn_nil w 0 c).mono ?_
    rintro e w' ⟨rfl, rfl⟩
    exact ⟨none, 0, rfl, ⟨none, 0, rfl, ⟨rfl, by simp, fun h => absurd h (by simp)⟩, hm⟩, Below.refl _ _⟩
  | some ad =>
    refine (cloneRn_raw w ad rs.length c (rs.map prRow).flatten (by rw [flat_lenT hx2, List.length_map]) hn hr.flat (fun u hu => ?_)).mono ?_
    · obtain ⟨x, hx, hxu⟩ := List.mem_flatten.1 hu
      obtain ⟨y, _, rfl⟩ := List.mem_map.1 hx
      simp only [prRow, List.mem_cons, List.not_mem_nil, or_false] at hxu
      rcases hxu with rfl | rfl <;> rfl
    · rintro e w' ⟨v, rfl, hown, hb⟩
      obtain ⟨A', c', rfl⟩ := row_form hown
      exact ⟨A', c', rfl, ⟨A', c', rfl, SIp.of_own hown (by simp) hx2 (fun g hg => hown.lt g hg), hm⟩, hb⟩
theorem cloneTx_none (w : World) (P : Nat → Prop) (v : Value) (h : TxsP w P v []) :
    Calls Tryd.prog 48 #[v] w fun e w' => ∃ A' c', e = .returned (.slice A' 0 c') ∧ Below w.heap.size w w' := by
  obtain ⟨A, c, us, rfl, hr, hm, -⟩ := h
  cases A with
  | none =>
    refine (cloneTx_nil w 0 c).mono ?_
    rintro e w' ⟨rfl, rfl⟩
    exact ⟨none, 0, rfl, Below.refl _ _⟩
  | some ad =>
    refine (cloneTx_raw w ad 0 c [] rfl (by omega) (fun j u hj => by simp at hj) (by simp)).mono ?_
    rintro e w' ⟨v, rfl, hown, hb⟩
    obtain ⟨A', c', rfl⟩ := row_form hown
    exact ⟨A', c', rfl, hb⟩
theorem txs_none (w : World) (P : Nat → Prop) (A : Option Addr) (c : Nat) : TxsP w P (.slice A 0 c) [] := ⟨A, c, [], rfl, ⟨rfl, by simp, fun h => absurd h (by simp)⟩, by simp, by simp⟩
/-- what stands in copyOf -/
structure CpSt (w : World) (S : Nat) (x : Nd) (vR vT vK : Value) (wr : World) : Prop where
  b : Below S w wr
  n : Rw wr S 31 (ndRow x vR vT vK).toArray
  r : Rw wr (S + 1) 31 #[.int .u8 0, .int .i32 0, .bool false, .slice none 0 0, .slice none 0 0, .int .i64 0, .int .i64 0, .int .i64 0, .slice none 0 0]
theorem CpSt.next {w wr w2 : World} {S : Nat} {x : Nd} {vR vT vK : Value} (h : CpSt w S x vR vT vK wr) (hb : Below wr.heap.size wr w2) : CpSt w S x vR vT vK w2 := ⟨h.b.trans (hb.mono (by have := h.n.lt; omega)), h.n.on hb h.n.lt, h.r.on hb h.r.lt⟩
theorem CpSt.set {w wr : World} {S i : Nat} {x : Nd} {vR vT vK vR' vT' vK' u : Value} (h : CpSt w S x vR vT vK wr) (hr : (ndRow x vR vT vK).set i u = ndRow x vR' vT' vK') : CpSt w S x vR' vT' vK' (wr.setCell ⟨S, i, none⟩ u) := by
  refine ⟨h.b.setCell (p := ⟨S, i, none⟩) (Nat.le_refl _) _, ?_, ?_⟩
  · have := set_row (i := i) (l := ndRow x vR vT vK) h.n u
    rw [hr] at this
    exact this
  · exact (Below.heap_setCell wr ⟨S, i, none⟩ u (S + 1) (by show S + 1 ≠ S; omega)).trans h.r
/-- blocks that are new and no box -/
def NwB (S : Nat) (wr : World) : Nat → Prop := fun b => S + 2 ≤ b ∧ b < wr.heap.size
theorem nw_set {wr : World} {S i : Nat} {u : Value} : ∀ p : Addr, NwB S wr p.block → (wr.setCell ⟨S, i, none⟩ u).cell? p = wr.cell? p := fun p hp => World.cell?_of_block (Below.heap_setCell wr ⟨S, i, none⟩ u p.block (by have := hp.1; show p.block ≠ S; omega))
theorem nw_size {wr : World} {S i : Nat} {u : Value} : NwB S (wr.setCell ⟨S, i, none⟩ u) = NwB S wr := by unfold NwB; simp [World.setCell]
theorem nw_below {wr w2 : World} {S : Nat} (hb : Below wr.heap.size wr w2) : ∀ p : Addr, NwB S wr p.block → w2.cell? p = wr.cell? p := below_cells hb (fun _ hb => hb.2)
theorem nw_mono {wr w2 : World} {S : Nat} (hs : wr.heap.size ≤ w2.heap.size) : ∀ b, NwB S wr b → NwB S w2 b := fun _ hb => ⟨hb.1, Nat.lt_of_lt_of_le hb.2 hs⟩
theorem cp_start {w W2 : World} {S : Nat} {x : Nd} {vR vT vK : Value} (hS : w.heap.size = S) (hW2 : W2 = (w.alloc (.cells #[.int .u8 x.k, .int .i32 x.c, .bool x.nt, vR, vT, .int .i64 x.n, .int .i64 x.mn, .int .i64 x.mx, vK] 31)).alloc (.cells #[.int .u8 0, .int .i32 0, .bool false, .slice none 0 0, .slice none 0 0, .int .i64 0, .int .i64 0, .int .i64 0, .slice none 0 0] 31)) : CpSt w S x vR vT vK W2 ∧ W2.heap.size = S + 2 := by
  subst hS
  have hb : Below (w.heap.size + 1) (w.alloc (.cells #[.int .u8 x.k, .int .i32 x.c, .bool x.nt, vR, vT, .int .i64 x.n, .int .i64 x.mn, .int .i64 x.mx, vK] 31)) W2 := by rw [hW2]; exact (Below.refl _ _).alloc (by simp) _
  have h1 : Rw (w.alloc (.cells #[.int .u8 x.k, .int .i32 x.c, .bool x.nt, vR, vT, .int .i64 x.n, .int .i64 x.mn, .int .i64 x.mx, vK] 31)) w.heap.size 31 (ndRow x vR vT vK).toArray := heap_alloc_new w _
  have h2 := heap_alloc_new (w.alloc (.cells #[.int .u8 x.k, .int .i32 x.c, .bool x.nt, vR, vT, .int .i64 x.n, .int .i64 x.mn, .int .i64 x.mx, vK] 31)) (.cells #[.int .u8 0, .int .i32 0, .bool false, .slice none 0 0, .slice none 0 0, .int .i64 0, .int .i64 0, .int .i64 0, .slice none 0 0] 31)
  rw [World.size_alloc] at h2
  exact ⟨⟨((Below.refl _ w).alloc (Nat.le_refl _) _).trans (hb.mono (Nat.le_succ _)), h1.on hb (Nat.lt_succ_self _), by rw [hW2]; exact h2⟩, by rw [hW2]; simp⟩
set_option maxRecDepth 100000 in
set_option maxHeartbeats 8000000 in
theorem copyOf_any (w : World) (P : Nat → Prop) (x : Nd) (vR vT vK : Value) (hx : NdP w P x vR vT vK) (hP : ∀ b, P b → b < w.heap.size) (ht : x.ts = []) (hr : x.rs.length ≤ 1073741824) (hk : x.ks.length ≤ 1073741824) :
    Calls Tryd.prog 31 #[ndVal x vR vT vK] w fun e w' => ∃ vR' vT' vK', e = .returned (ndVal x vR' vT' vK') ∧ NdP w' (NewB w w') x vR' vT' vK' ∧ Below w.heap.size w w' := by
  obtain ⟨hxR, hxT, hxK⟩ := hx
  rw [ht] at hxT
  obtain ⟨AR, cR, rfl, -⟩ := id hxR
  obtain ⟨AT, cT, us, rfl, -⟩ := id hxT
  obtain ⟨AK, cK, rfl, -⟩ := id hxK
  simp only [List.length_nil] at hxT ⊢
  obtain ⟨S, hS⟩ : ∃ S, w.heap.size = S := ⟨_, rfl⟩
  unfold NewB
  rw [hS]
  have hP2 : ∀ b, P b → b < S := by rw [← hS]; exact hP
  obtain ⟨W2, hW2⟩ : ∃ W2, W2 = (w.alloc (.cells #[.int .u8 x.k, .int .i32 x.c, .bool x.nt, (.slice AR x.rs.length cR), (.slice AT 0 cT), .int .i64 x.n, .int .i64 x.mn, .int .i64 x.mx, (.slice AK x.ks.length cK)] 31)).alloc (.cells #[.int .u8 0, .int .i32 0, .bool false, .slice none 0 0, .slice none 0 0, .int .i64 0, .int .i64 0, .int .i64 0, .slice none 0 0] 31) := ⟨_, rfl⟩
  obtain ⟨hc2, hs2⟩ := cp_start hS hW2
  have H2 := Lib.hid hc2
  have HS2 := Lib.hid hs2
  have HXR := Lib.hid hxR
  have HXT := Lib.hid hxT
  have HP := Lib.hid hP2
  have HR := Lib.hid hr
  have HT := Lib.hid ht
  have call1 := cloneIn_any W2 P _ x.ks (hxK.keep (below_cells hc2.b hP2)) hk
  clear hxR hxT hxK hP hP2 hc2 hs2 hr hk ht
  have p0 : W2.cell? ⟨S, 0, none⟩ = some (.int .u8 x.k) := H2.out.n.cell (i := 0) rfl
  have p1 : W2.cell? ⟨S, 1, none⟩ = some (.int .i32 x.c) := H2.out.n.cell (i := 1) rfl
  have p2 : W2.cell? ⟨S, 2, none⟩ = some (.bool x.nt) := H2.out.n.cell (i := 2) rfl
  have p3 : W2.cell? ⟨S, 3, none⟩ = some (.slice AR x.rs.length cR) := H2.out.n.cell (i := 3) rfl
  have p4 : W2.cell? ⟨S, 4, none⟩ = some (.slice AT 0 cT) := H2.out.n.cell (i := 4) rfl
  have p5 : W2.cell? ⟨S, 5, none⟩ = some (.int .i64 x.n) := H2.out.n.cell (i := 5) rfl
  have p6 : W2.cell? ⟨S, 6, none⟩ = some (.int .i64 x.mn) := H2.out.n.cell (i := 6) rfl
  have p7 : W2.cell? ⟨S, 7, none⟩ = some (.int .i64 x.mx) := H2.out.n.cell (i := 7) rfl
  have p8 : W2.cell? ⟨S, 8, none⟩ = some (.slice AK x.ks.length cK) := H2.out.n.cell (i := 8) rfl
  unfold ndVal
  go_enter Tryd.func31, Tryd.ntmps31
  go_upto_region 1 with fail
  rw [show S + 1 = S + 1 from rfl, ← hW2]
  clear hW2 hS
  go_wp2_with fail
  refine call1.mono ?_
  rintro e w3 ⟨BK, dK, rfl, hk3, hb3⟩
  have H3 := Lib.hid (H2.out.next hb3)
  have HB3 := Lib.hid hb3
  have hk3' : KsP w3 (NwB S w3) (.slice BK x.ks.length dK) x.ks := hk3.mono fun b _ h => ⟨by rw [← HS2.out]; exact h.1, h.2⟩
  have HK3 := Lib.hid hk3'
  have f8 := rw_frozen H3.out.n 8
  clear call1 hk3 hb3 hk3' p0 p1 p2 p3 p4 p5 p6 p7 p8
  have p0 : w3.cell? ⟨S, 0, none⟩ = some (.int .u8 x.k) := H3.out.n.cell (i := 0) rfl
  have p1 : w3.cell? ⟨S, 1, none⟩ = some (.int .i32 x.c) := H3.out.n.cell (i := 1) rfl
  have p2 : w3.cell? ⟨S, 2, none⟩ = some (.bool x.nt) := H3.out.n.cell (i := 2) rfl
  have p3 : w3.cell? ⟨S, 3, none⟩ = some (.slice AR x.rs.length cR) := H3.out.n.cell (i := 3) rfl
  have p4 : w3.cell? ⟨S, 4, none⟩ = some (.slice AT 0 cT) := H3.out.n.cell (i := 4) rfl
  have p5 : w3.cell? ⟨S, 5, none⟩ = some (.int .i64 x.n) := H3.out.n.cell (i := 5) rfl
  have p6 : w3.cell? ⟨S, 6, none⟩ = some (.int .i64 x.mn) := H3.out.n.cell (i := 6) rfl
  have p7 : w3.cell? ⟨S, 7, none⟩ = some (.int .i64 x.mx) := H3.out.n.cell (i := 7) rfl
  have p8 : w3.cell? ⟨S, 8, none⟩ = some (.slice AK x.ks.length cK) := H3.out.n.cell (i := 8) rfl
  go_upto_region 2 with fail
  refine wp_nameW fun w4 hw4 => ?_
  have H4 : Hid (CpSt w S x (.slice AR x.rs.length cR) (.slice AT 0 cT) (.slice BK x.ks.length dK) w4) := Lib.hid (by rw [hw4]; exact H3.out.set rfl)
  have HK4 : Hid (KsP w4 (NwB S w4) (.slice BK x.ks.length dK) x.ks) := Lib.hid (by rw [hw4, nw_size]; exact HK3.out.keep nw_set)
  have call2 := cloneRn_any w4 P _ x.rs (HXR.out.keep (below_cells H4.out.b HP.out)) HR.out
  have HSZ4 : Hid (S + 2 ≤ w4.heap.size) := Lib.hid (by have := HB3.out.size; have := HS2.out; rw [hw4]; simp [World.setCell]; omega)
  clear hw4 f8 p0 p1 p2 p3 p4 p5 p6 p7 p8 H3 HK3
  have p0 : w4.cell? ⟨S, 0, none⟩ = some (.int .u8 x.k) := H4.out.n.cell (i := 0) rfl
  have p1 : w4.cell? ⟨S, 1, none⟩ = some (.int .i32 x.c) := H4.out.n.cell (i := 1) rfl
  have p2 : w4.cell? ⟨S, 2, none⟩ = some (.bool x.nt) := H4.out.n.cell (i := 2) rfl
  have p3 : w4.cell? ⟨S, 3, none⟩ = some (.slice AR x.rs.length cR) := H4.out.n.cell (i := 3) rfl
  have p4 : w4.cell? ⟨S, 4, none⟩ = some (.slice AT 0 cT) := H4.out.n.cell (i := 4) rfl
  have p5 : w4.cell? ⟨S, 5, none⟩ = some (.int .i64 x.n) := H4.out.n.cell (i := 5) rfl
  have p6 : w4.cell? ⟨S, 6, none⟩ = some (.int .i64 x.mn) := H4.out.n.cell (i := 6) rfl
  have p7 : w4.cell? ⟨S, 7, none⟩ = some (.int .i64 x.mx) := H4.out.n.cell (i := 7) rfl
  have p8 : w4.cell? ⟨S, 8, none⟩ = some (.slice BK x.ks.length dK) := H4.out.n.cell (i := 8) rfl
  go_wp2_with fail
  refine call2.mono ?_
  rintro e w5 ⟨BR, dR, rfl, hr5, hb5⟩
  have H5 := Lib.hid (H4.out.next hb5)
  have HB5 := Lib.hid hb5
  have HR5 : Hid (PrsP w5 (NwB S w5) (.slice BR x.rs.length dR) x.rs) := Lib.hid (hr5.mono fun b _ h => ⟨by have := HSZ4.out; have := h.1; omega, h.2⟩)
  have HK5 : Hid (KsP w5 (NwB S w5) (.slice BK x.ks.length dK) x.ks) := Lib.hid ((HK4.out.keep (nw_below hb5)).mono fun b _ h => nw_mono hb5.size b h)
  have f3 := rw_frozen H5.out.n 3
  clear call2 hr5 hb5 p0 p1 p2 p3 p4 p5 p6 p7 p8
  have p0 : w5.cell? ⟨S, 0, none⟩ = some (.int .u8 x.k) := H5.out.n.cell (i := 0) rfl
  have p1 : w5.cell? ⟨S, 1, none⟩ = some (.int .i32 x.c) := H5.out.n.cell (i := 1) rfl
  have p2 : w5.cell? ⟨S, 2, none⟩ = some (.bool x.nt) := H5.out.n.cell (i := 2) rfl
  have p3 : w5.cell? ⟨S, 3, none⟩ = some (.slice AR x.rs.length cR) := H5.out.n.cell (i := 3) rfl
  have p4 : w5.cell? ⟨S, 4, none⟩ = some (.slice AT 0 cT) := H5.out.n.cell (i := 4) rfl
  have p5 : w5.cell? ⟨S, 5, none⟩ = some (.int .i64 x.n) := H5.out.n.cell (i := 5) rfl
  have p6 : w5.cell? ⟨S, 6, none⟩ = some (.int .i64 x.mn) := H5.out.n.cell (i := 6) rfl
  have p7 : w5.cell? ⟨S, 7, none⟩ = some (.int .i64 x.mx) := H5.out.n.cell (i := 7) rfl
  have p8 : w5.cell? ⟨S, 8, none⟩ = some (.slice BK x.ks.length dK) := H5.out.n.cell (i := 8) rfl
  go_upto_region 3 with fail
  refine wp_nameW fun w6 hw6 => ?_
  have H6 : Hid (CpSt w S x (.slice BR x.rs.length dR) (.slice AT 0 cT) (.slice BK x.ks.length dK) w6) := Lib.hid (by rw [hw6]; exact H5.out.set rfl)
  have HK6 : Hid (KsP w6 (NwB S w6) (.slice BK x.ks.length dK) x.ks) := Lib.hid (by rw [hw6, nw_size]; exact HK5.out.keep nw_set)
  have HR6 : Hid (PrsP w6 (NwB S w6) (.slice BR x.rs.length dR) x.rs) := Lib.hid (by rw [hw6, nw_size]; exact HR5.out.keep nw_set)
  have call3 := cloneTx_none w6 P _ (HXT.out.keep (below_cells H6.out.b HP.out))
  clear hw6 f3 p0 p1 p2 p3 p4 p5 p6 p7 p8 H5 HK5 HR5 HK4 H4
  have p0 : w6.cell? ⟨S, 0, none⟩ = some (.int .u8 x.k) := H6.out.n.cell (i := 0) rfl
  have p1 : w6.cell? ⟨S, 1, none⟩ = some (.int .i32 x.c) := H6.out.n.cell (i := 1) rfl
  have p2 : w6.cell? ⟨S, 2, none⟩ = some (.bool x.nt) := H6.out.n.cell (i := 2) rfl
  have p3 : w6.cell? ⟨S, 3, none⟩ = some (.slice BR x.rs.length dR) := H6.out.n.cell (i := 3) rfl
  have p4 : w6.cell? ⟨S, 4, none⟩ = some (.slice AT 0 cT) := H6.out.n.cell (i := 4) rfl
  have p5 : w6.cell? ⟨S, 5, none⟩ = some (.int .i64 x.n) := H6.out.n.cell (i := 5) rfl
  have p6 : w6.cell? ⟨S, 6, none⟩ = some (.int .i64 x.mn) := H6.out.n.cell (i := 6) rfl
  have p7 : w6.cell? ⟨S, 7, none⟩ = some (.int .i64 x.mx) := H6.out.n.cell (i := 7) rfl
  have p8 : w6.cell? ⟨S, 8, none⟩ = some (.slice BK x.ks.length dK) := H6.out.n.cell (i := 8) rfl
  go_wp2_with fail
  refine call3.mono ?_
  rintro e w7 ⟨BT, dT, rfl, hb7⟩
  have H7 := Lib.hid (H6.out.next hb7)
  have HR7 : Hid (PrsP w7 (NwB S w7) (.slice BR x.rs.length dR) x.rs) := Lib.hid ((HR6.out.keep (nw_below hb7)).mono fun b _ h => nw_mono hb7.size b h)
  have HK7 : Hid (KsP w7 (NwB S w7) (.slice BK x.ks.length dK) x.ks) := Lib.hid ((HK6.out.keep (nw_below hb7)).mono fun b _ h => nw_mono hb7.size b h)
  have f4 := rw_frozen H7.out.n 4
  clear call3 hb7 p0 p1 p2 p3 p4 p5 p6 p7 p8
  have p0 : w7.cell? ⟨S, 0, none⟩ = some (.int .u8 x.k) := H7.out.n.cell (i := 0) rfl
  have p1 : w7.cell? ⟨S, 1, none⟩ = some (.int .i32 x.c) := H7.out.n.cell (i := 1) rfl
  have p2 : w7.cell? ⟨S, 2, none⟩ = some (.bool x.nt) := H7.out.n.cell (i := 2) rfl
  have p3 : w7.cell? ⟨S, 3, none⟩ = some (.slice BR x.rs.length dR) := H7.out.n.cell (i := 3) rfl
  have p4 : w7.cell? ⟨S, 4, none⟩ = some (.slice AT 0 cT) := H7.out.n.cell (i := 4) rfl
  have p5 : w7.cell? ⟨S, 5, none⟩ = some (.int .i64 x.n) := H7.out.n.cell (i := 5) rfl
  have p6 : w7.cell? ⟨S, 6, none⟩ = some (.int .i64 x.mn) := H7.out.n.cell (i := 6) rfl
  have p7 : w7.cell? ⟨S, 7, none⟩ = some (.int .i64 x.mx) := H7.out.n.cell (i := 7) rfl
  have p8 : w7.cell? ⟨S, 8, none⟩ = some (.slice BK x.ks.length dK) := H7.out.n.cell (i := 8) rfl
  go_upto_region 4 with fail
  refine wp_nameW fun w8 hw8 => ?_
  have H8 : Hid (CpSt w S x (.slice BR x.rs.length dR) (.slice BT 0 dT) (.slice BK x.ks.length dK) w8) := Lib.hid (by rw [hw8]; exact H7.out.set rfl)
  have HK8 : Hid (KsP w8 (NwB S w8) (.slice BK x.ks.length dK) x.ks) := Lib.hid (by rw [hw8, nw_size]; exact HK7.out.keep nw_set)
  have HR8 : Hid (PrsP w8 (NwB S w8) (.slice BR x.rs.length dR) x.rs) := Lib.hid (by rw [hw8, nw_size]; exact HR7.out.keep nw_set)
  clear hw8 f4 p0 p1 p2 p3 p4 p5 p6 p7 p8 H7 HK7 HR7 HK6 HR6 H6
  have p0 : w8.cell? ⟨S, 0, none⟩ = some (.int .u8 x.k) := H8.out.n.cell (i := 0) rfl
  have p1 : w8.cell? ⟨S, 1, none⟩ = some (.int .i32 x.c) := H8.out.n.cell (i := 1) rfl
  have p2 : w8.cell? ⟨S, 2, none⟩ = some (.bool x.nt) := H8.out.n.cell (i := 2) rfl
  have p3 : w8.cell? ⟨S, 3, none⟩ = some (.slice BR x.rs.length dR) := H8.out.n.cell (i := 3) rfl
  have p4 : w8.cell? ⟨S, 4, none⟩ = some (.slice BT 0 dT) := H8.out.n.cell (i := 4) rfl
  have p5 : w8.cell? ⟨S, 5, none⟩ = some (.int .i64 x.n) := H8.out.n.cell (i := 5) rfl
  have p6 : w8.cell? ⟨S, 6, none⟩ = some (.int .i64 x.mn) := H8.out.n.cell (i := 6) rfl
  have p7 : w8.cell? ⟨S, 7, none⟩ = some (.int .i64 x.mx) := H8.out.n.cell (i := 7) rfl
  have p8 : w8.cell? ⟨S, 8, none⟩ = some (.slice BK x.ks.length dK) := H8.out.n.cell (i := 8) rfl
  have z0 := H8.out.r.cell (i := 0) rfl
  have z1 := H8.out.r.cell (i := 1) rfl
  have z2 := H8.out.r.cell (i := 2) rfl
  have z3 := H8.out.r.cell (i := 3) rfl
  have z4 := H8.out.r.cell (i := 4) rfl
  have z5 := H8.out.r.cell (i := 5) rfl
  have z6 := H8.out.r.cell (i := 6) rfl
  have z7 := H8.out.r.cell (i := 7) rfl
  have z8 := H8.out.r.cell (i := 8) rfl
  have f0 := rw_frozen H8.out.r 0
  have f1 := rw_frozen H8.out.r 1
  have f2 := rw_frozen H8.out.r 2
  have f3 := rw_frozen H8.out.r 3
  have f4 := rw_frozen H8.out.r 4
  have f5 := rw_frozen H8.out.r 5
  have f6 := rw_frozen H8.out.r 6
  have f7 := rw_frozen H8.out.r 7
  have f8 := rw_frozen H8.out.r 8
  go_wp2
  go_loopw [25] (fun iv wr => iv = .int .i64 0 ∧ wr = w8) (fun _ _ => 0)
  case atStart => exact ⟨rfl, rfl⟩
  case round =>
    obtain ⟨rfl, rfl⟩ := hrel
    go_wp2
    have hbox := node_box (x := x) (vR := .slice BR x.rs.length dR) (vT := .slice BT 0 dT) (vK := .slice BK x.ks.length dK) (l := [_, _, _, _, _, _, _, _, _]) H8.out.r rfl
    obtain ⟨w9, hw9⟩ : ∃ w9, w9 = (((((((((wr.setCell ⟨S + 1, 0, none⟩ (.int .u8 x.k)).setCell ⟨S + 1, 1, none⟩ (.int .i32 x.c)).setCell ⟨S + 1, 2, none⟩ (.bool x.nt)).setCell ⟨S + 1, 3, none⟩ (.slice BR x.rs.length dR)).setCell ⟨S + 1, 4, none⟩ (.slice BT 0 dT)).setCell ⟨S + 1, 5, none⟩ (.int .i64 x.n)).setCell ⟨S + 1, 6, none⟩ (.int .i64 x.mn)).setCell ⟨S + 1, 7, none⟩ (.int .i64 x.mx)).setCell ⟨S + 1, 8, none⟩ (.slice BK x.ks.length dK)) := ⟨_, rfl⟩
    have hf : Fr wr w9 (· = S + 1) := by
      rw [hw9]
      exact (((((((((Fr.of_below (X := (· = S + 1)) (Below.refl _ wr)).set ⟨S + 1, 0, none⟩ _ (fun _ => rfl)).set ⟨S + 1, 1, none⟩ _ (fun _ => rfl)).set ⟨S + 1, 2, none⟩ _ (fun _ => rfl)).set ⟨S + 1, 3, none⟩ _ (fun _ => rfl)).set ⟨S + 1, 4, none⟩ _ (fun _ => rfl)).set ⟨S + 1, 5, none⟩ _ (fun _ => rfl)).set ⟨S + 1, 6, none⟩ _ (fun _ => rfl)).set ⟨S + 1, 7, none⟩ _ (fun _ => rfl)).set ⟨S + 1, 8, none⟩ _ (fun _ => rfl)
    rw [← hw9] at hbox ⊢
    clear hw9
    have hk : ∀ p : Addr, NwB S wr p.block → w9.cell? p = wr.cell? p := fr_cells hf (fun b hb => ⟨hb.2, by have := hb.1; omega⟩)
    have hm : ∀ b, b < w9.heap.size → NwB S wr b → S ≤ b ∧ b < w9.heap.size := fun b h hb => ⟨by have := hb.1; omega, h⟩
    have q0 : w9.cell? ⟨S + 1, 0, none⟩ = some (.int .u8 x.k) := hbox.cell (i := 0) rfl
    have q1 : w9.cell? ⟨S + 1, 1, none⟩ = some (.int .i32 x.c) := hbox.cell (i := 1) rfl
    have q2 : w9.cell? ⟨S + 1, 2, none⟩ = some (.bool x.nt) := hbox.cell (i := 2) rfl
    have q3 : w9.cell? ⟨S + 1, 3, none⟩ = some (.slice BR x.rs.length dR) := hbox.cell (i := 3) rfl
    have q4 : w9.cell? ⟨S + 1, 4, none⟩ = some (.slice BT 0 dT) := hbox.cell (i := 4) rfl
    have q5 : w9.cell? ⟨S + 1, 5, none⟩ = some (.int .i64 x.n) := hbox.cell (i := 5) rfl
    have q6 : w9.cell? ⟨S + 1, 6, none⟩ = some (.int .i64 x.mn) := hbox.cell (i := 6) rfl
    have q7 : w9.cell? ⟨S + 1, 7, none⟩ = some (.int .i64 x.mx) := hbox.cell (i := 7) rfl
    have q8 : w9.cell? ⟨S + 1, 8, none⟩ = some (.slice BK x.ks.length dK) := hbox.cell (i := 8) rfl
    refine bodyPost_ret (v := ndVal x (.slice BR x.rs.length dR) (.slice BT 0 dT) (.slice BK x.ks.length dK)) (by simp [results, Tryd.results31, go_sem, q0, q1, q2, q3, q4, q5, q6, q7, q8, ndVal]) rfl ⟨_, _, _, rfl, ⟨(HR8.out.keep hk).mono hm, by rw [HT.out]; exact txs_none _ _ _ _, (HK8.out.keep hk).mono hm⟩, H8.out.b.trans (hf.below (by rintro j _ rfl; omega) (by have := H8.out.n.lt; omega))⟩
end Go.Proofs.YtcpjcepeiplfgaaDoor.C
