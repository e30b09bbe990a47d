/-
  The statements' answers: of a locale that may be all that a table tells is what the document's own say. Condition: what is asked of the listed variables.
-/
import Derived.Test.YtknjhlbhbnldpaaGreatDoorB26
import Derived.Test.YtknjhlbhbnldpaaGreatDoorB28
import Derived.Test.YtknjhlbhbnldpaaGreatDoorB32
import Derived.Test.YtknjhlbhbnldpaaGreatDoorB33
import Derived.Test.YtknjhlbhbnldpaaGreatDoorB34
namespace Go.Proofs.YtknjhlbhbnldpaaGreatDoor.C
open Go.RowKit

structure AnsSt (w0 : World) (B T : Nat) (v1 v2 v3 v4 : Value) (l : Loc) (n : Int) (w : World) : Prop where
 row : Rw w w0.heap.size 30 #[v1, v2, v3, v4]
 loc : LocR w B v1 v2 v3 v4 l
 tab : TabAt w T l n
 b : Below w0.heap.size w0 w
section
variable {w0 w w' : World} {B T : Nat} {v1 v2 v3 v4 : Value} {l : Loc} {n m : Int}
theorem AnsSt.fr (h : AnsSt w0 B T v1 v2 v3 v4 l n w) (hf : Fr w w' (· = T)) (ht : TabAt w' T l m) (hT : w0.heap.size < T) (hB : B ≤ w0.heap.size) : AnsSt w0 B T v1 v2 v3 v4 l m w' := by
 have hb := hf.belowT (Nat.le_of_lt h.tab.lt)
 exact ⟨h.row.on hb hT, h.loc.on hb (by omega), ht, Fr.past h.b hf (Nat.le_of_lt hT)⟩
theorem AnsSt.next (h : AnsSt w0 B T v1 v2 v3 v4 l n w) (hb : Below w.heap.size w w') (hT : w0.heap.size < T) (hB : B ≤ w0.heap.size) : AnsSt w0 B T v1 v2 v3 v4 l n w' :=
 h.fr (.of_below hb) (h.tab.keep hb) hT hB
end
def betR (o : List Elm) (p q : Int) : List (List Int) := if p < 0 ∨ q < p then [] else (runN p.toNat (q.toNat - p.toNat + 1)).map (cellsJ o)
def betE (p q : Int) : Int := if p < 0 ∨ q < p then 40 else 0
theorem bet_told {w' : World} {lo : Nat} {o : List Elm} {xs ys : List Int} {e : Ending} (hno : (placeV o xs < 0 ∨ placeV o ys < placeV o xs) → e = .returned (.tuple #[.slice none 0 0, .int .u16 40]))
  (hyes : ∀ i k : Nat, placeV o xs = (i : Int) → placeV o ys = (k : Int) → i ≤ k → ∃ v, e = .returned (.tuple #[v, .int .u16 0]) ∧ RowsAt w' lo v ((runN i (k - i + 1)).map (cellsJ o))) :
  ∃ bv, e = .returned (.tuple #[bv, .int .u16 (betE (placeV o xs) (placeV o ys))]) ∧ RowsAt w' lo bv (betR o (placeV o xs) (placeV o ys)) := by
 unfold betE betR
 by_cases h : placeV o xs < 0 ∨ placeV o ys < placeV o xs
 ·rw [if_pos h, if_pos h]
  exact ⟨_, hno h, RowsAt.nil _ _⟩
 ·rw [if_neg h, if_neg h]
  exact hyes _ _ (by omega) (by omega) (by omega)
theorem bet08_told {w w' : World} {B : Nat} {o : List Elm} {xs ys : List Int} {e : Ending} (h : BtTold w w' B o xs ys e) : Below w.heap.size w w' ∧ ∃ A c, e = .returned (.tuple #[.slice A (betR o (placeV o xs) (placeV o ys)).length c, .int .i64 (betE (placeV o xs) (placeV o ys))]) ∧ RowsQ w' B (w.heap.size + 1) A (betR o (placeV o xs) (placeV o ys)) := by
 obtain ⟨hb, hno, hyes⟩ := h
 refine ⟨hb, ?_⟩
 unfold betE betR
 by_cases h : placeV o xs < 0 ∨ placeV o ys < placeV o xs
 ·rw [if_pos h, if_pos h]
  exact ⟨none, 0, hno h, fun h => absurd h (by simp)⟩
 ·rw [if_neg h, if_neg h]
  exact hyes _ _ (by omega) (by omega) (by omega)
theorem wp_name {P : Program} {c : Code} {Q : Exit → Act → World → Prop} {a : Act} {w : World} (h : ∀ a', a' = a → c.wp P Q a' w) : c.wp P Q a w := h a rfl
set_option maxRecDepth 100000 in
set_option maxHeartbeats 8000000 in
theorem answers08_any (w : World) (hG : Gm w) (B : Nat) (v1 v2 v3 v4 : Value) (l : Loc) (h : LocR w B v1 v2 v3 v4 l) (hB : B ≤ w.heap.size) (hR : rightL l = true) (hok : NewOk l) (c d : Int) (nm : List UInt8) (hnm : nm.length ≤ 1099511627776) :
  Calls Tryz.prog 20 #[.agg #[v1, v2, v3, v4], .int .i32 c, .int .i32 d, .string (str nm)] w fun e w' => e = .returned (.bool true) ∧ Below w.heap.size w w' := by
 obtain ⟨W, hW⟩ : ∃ W, W = w.alloc (.cells #[v1, v2, v3, v4] 30) := ⟨_, rfl⟩
 have hb : Below w.heap.size w W := by rw [hW]; exact (Below.refl _ _).alloc (Nat.le_refl _) _
 have hrow : Rw W w.heap.size 30 #[v1, v2, v3, v4] := by rw [hW]; exact heap_alloc_new w _
 have hsW : W.heap.size = w.heap.size + 1 := by rw [hW]; simp
 have hL := h.on hb hB
 have hn := new_yes W B v1 v2 v3 v4 l hL (by omega) (hG.next hb) hR hok
 obtain ⟨⟨A1, c1, x1, rfl, -⟩, ⟨A2, c2, rfl, -⟩, ⟨A3, c3, rfl, -⟩, ⟨A4, c4, x4, rfl, -⟩, -⟩ := id hL
 have HG := Lib.hid hG
 have HR := Lib.hid hR
 have HOK := Lib.hid hok
 have HL := Lib.hid hL
 have HB := Lib.hid hb
 have HROW := Lib.hid hrow
 have p0 := hrow.cell (i := 0) rfl
 have p1 := hrow.cell (i := 1) rfl
 have p2 := hrow.cell (i := 2) rfl
 have p3 := hrow.cell (i := 3) rfl
 have HBW : Hid (B ≤ w.heap.size ∧ W.heap.size = w.heap.size + 1) := Lib.hid ⟨hB, hsW⟩
 clear hG hR hok hL hb hrow h
 rw [hW] at p0 p1 p2 p3
 go_enter Tryz.func20, Tryz.ntmps20
 go_wp2_with fail
 rw [← hW]
 clear hW p0 p1 p2 p3
 refine hn.mono ?_
 rintro e w2 ⟨T, rfl, hT, ht, hb2, -⟩
 have HT : Hid (w.heap.size < T) := Lib.hid (by have := HBW.out; omega)
 have HS2 : Hid (AnsSt w B T (.slice A1 l.cls.length c1) (.slice A2 l.up.length c2) (.slice A3 l.lo.length c3) (.slice A4 l.ord.length c4) l 0 w2) := Lib.hid ⟨HROW.out.on hb2 HROW.out.lt, HL.out.on hb2 (by have := HBW.out; omega), ht, HB.out.trans (hb2.mono HB.out.size)⟩
 have hcl := classT_any w2 T l 0 nm ht (by omega) (by omega) HR.out (fun k hk => (HOK.out.cls.2 k hk).2)
 clear hn ht hb2 hT HROW HL HB
 go_wp2_with fail
 refine hcl.mono ?_
 rintro e w3 ⟨v, rfl, ho, ht, hf⟩
 obtain ⟨rs, hrs⟩ : ∃ rs, rs = (rangesL l.cls nm).getD [] := ⟨_, rfl⟩
 rw [← hrs] at ho
 obtain ⟨Ar, cr, rfl⟩ := row_form ho
 have HS3 := Lib.hid (HS2.out.fr hf ht HT.out HBW.out.1)
 have HR3 := Lib.hid ho
 have hc8 := class08_any w3 B _ _ _ _ l nm HS3.out.loc (by have := HBW.out; have := HS3.out.b.size; omega)
 rw [← hrs] at hc8
 have q0 := HS3.out.row.cell (i := 0) rfl
 have q1 := HS3.out.row.cell (i := 1) rfl
 have q2 := HS3.out.row.cell (i := 2) rfl
 have q3 := HS3.out.row.cell (i := 3) rfl
 have HRS := Lib.hid hrs
 clear hcl ho ht hf hrs
 go_wp2_with fail
 refine hc8.mono ?_
 rintro e w4 ⟨hb4, v, rfl, hq⟩
 obtain ⟨Aq, cq, rfl, hqs⟩ := hq
 have HS4 := Lib.hid (HS3.out.next hb4 HT.out HBW.out.1)
 have HQ4 : Hid (PrsR w4 B (.slice Aq rs.length cq) rs) := Lib.hid ⟨Aq, cq, rfl, hqs⟩
 have HR4 := Lib.hid (own_next HR3.out hb4)
 have his := is_any w4 T l 1 c nm HS4.out.tab (by omega) (by omega) HR.out
 clear hc8 hb4 hqs q0 q1 q2 q3
 go_wp2_with fail
 refine his.mono ?_
 rintro e w5 ⟨rfl, ht, hf⟩
 have HS5 := Lib.hid (HS4.out.fr hf ht HT.out HBW.out.1)
 have HR5 : Hid (w5.ownsRow w2.heap.size 109 2 (.slice Ar rs.length cr) rs.length (prsC rs)) := Lib.hid (ownsRow_fr HR4.out hf fun g hg hx => by have := (HR4.out.lt g hg).1; have := HS2.out.tab.lt; omega)
 have HQ5 : Hid (PrsR w5 B (.slice Aq rs.length cq) rs) := Lib.hid (HQ4.out.on (hf.belowT (Nat.le_of_lt HS4.out.tab.lt)) (by have := HBW.out; have := HT.out; omega))
 have hgT : (5 : Nat) < T := Nat.lt_of_lt_of_le (World.block_lt_of_cell? w _ HG.out.1) (Nat.le_of_lt HT.out)
 have HGT := Lib.hid hgT
 clear his ht hf HR4 HQ4
 obtain ⟨w6, hw6⟩ : ∃ w6, w6 = (w5.alloc (.cells #[.int .i32 c] 23)).alloc (.cells #[.int .i32 d] 23) := ⟨_, rfl⟩
 have hb6 : Below w5.heap.size w5 w6 := by rw [hw6]; exact ((Below.refl _ _).alloc (Nat.le_refl _) _).alloc (by simp) _
 have hx6 : RI .i32 w6 (w5.heap.size + 1) (some ⟨w5.heap.size, 0, none⟩) 1 [c] := by
  rw [hw6]
  exact (ri_one w5 c).keep fun p hp => ((Below.refl _ _).alloc (by simp) _).cell (p := p) hp
 have hy6 : RI .i32 w6 (w5.heap.size + 2) (some ⟨w5.heap.size + 1, 0, none⟩) 1 [d] := by
  rw [hw6]
  have := ri_one (w5.alloc (.cells #[.int .i32 c] 23)) d
  simpa using this
 have hs6 : w6.heap.size = w5.heap.size + 2 := by rw [hw6]; simp
 have HS6 := Lib.hid (HS5.out.next hb6 HT.out HBW.out.1)
 have hTl := HS5.out.tab.lt
 have hbt := between_any w6 T l 2 _ _ _ _ 1 1 1 1 [c] [d] HS6.out.tab (by omega) (by omega) HR.out hx6 (by omega) (by rintro _ ad h; injection h with h; subst h; simp only; omega) hy6 (by omega) (by rintro _ ad h; injection h with h; subst h; simp only; omega) (HG.out.next HS6.out.b).1 hgT
 have HB6 := Lib.hid hb6
 clear hb6 hx6 hy6 hs6 hTl hgT
 go_wp2_with fail
 rw [← hw6]
 clear hw6
 refine hbt.mono ?_
 rintro e w7 ⟨ht, hf, hno, hyes⟩
 have HS7 := Lib.hid (HS6.out.fr hf ht HT.out HBW.out.1)
 have HR7 : Hid (w7.ownsRow w2.heap.size 109 2 (.slice Ar rs.length cr) rs.length (prsC rs)) := Lib.hid (ownsRow_fr (own_next HR5.out HB6.out) hf fun g hg hx => by have := (HR5.out.lt g hg).1; have := HS2.out.tab.lt; omega)
 have HQ7 : Hid (PrsR w7 B (.slice Aq rs.length cq) rs) := Lib.hid ((HQ5.out.on HB6.out (by have := HBW.out; have := HS5.out.b.size; omega)).on (hf.belowT (Nat.le_of_lt HS6.out.tab.lt)) (by have := HBW.out; have := HT.out; omega))
 obtain ⟨bv, rfl, hrows⟩ := bet_told hno hyes
 obtain ⟨bx, hbx⟩ : ∃ bx, bx = betR l.ord (placeV l.ord [c]) (placeV l.ord [d]) := ⟨_, rfl⟩
 obtain ⟨be, hbe⟩ : ∃ be, be = betE (placeV l.ord [c]) (placeV l.ord [d]) := ⟨_, rfl⟩
 rw [← hbx] at hrows
 rw [← hbe]
 have HBX := Lib.hid hbx
 have HBE := Lib.hid hbe
 obtain ⟨Ab, cb, rfl, _⟩ := hrows.reads
 have HRB7 := Lib.hid hrows
 have hbl : bx.length ≤ maxLen := by obtain ⟨_, _, hh, _⟩ := id hrows; exact own_len hh
 clear hbt ht hf hno hyes HR5 HQ5 hrows hbx hbe
 obtain ⟨w8, hw8⟩ : ∃ w8, w8 = (w7.alloc (.cells #[.int .i32 c] 23)).alloc (.cells #[.int .i32 d] 23) := ⟨_, rfl⟩
 have hb8 : Below w7.heap.size w7 w8 := by rw [hw8]; exact ((Below.refl _ _).alloc (Nat.le_refl _) _).alloc (by simp) _
 have hx8 : RI .i32 w8 (w7.heap.size + 1) (some ⟨w7.heap.size, 0, none⟩) 1 [c] := by
  rw [hw8]
  exact (ri_one w7 c).keep fun p hp => ((Below.refl _ _).alloc (by simp) _).cell (p := p) hp
 have hy8 : RI .i32 w8 (w7.heap.size + 2) (some ⟨w7.heap.size + 1, 0, none⟩) 1 [d] := by
  rw [hw8]
  have := ri_one (w7.alloc (.cells #[.int .i32 c] 23)) d
  simpa using this
 have hs8 : w8.heap.size = w7.heap.size + 2 := by rw [hw8]; simp
 have HS8 := Lib.hid (HS7.out.next hb8 HT.out HBW.out.1)
 have h500 : l.ord.length ≤ 500 := by have hord := right_ord HR.out; unfold ordB at hord; simp only [Bool.and_eq_true, decide_eq_true_eq] at hord; exact hord.1
 have hbu := between08_any w8 B _ _ _ _ _ _ l _ _ 1 1 1 1 [c] [d] HS8.out.loc (by have := HBW.out; have := HS8.out.b.size; omega) h500 hx8 (by omega) (by decide) hy8 (by omega) (by decide)
 have HB8 := Lib.hid hb8
 have q0 := HS7.out.row.cell (i := 0) rfl
 have q1 := HS7.out.row.cell (i := 1) rfl
 have q2 := HS7.out.row.cell (i := 2) rfl
 have q3 := HS7.out.row.cell (i := 3) rfl
 clear hb8 hx8 hy8 hs8
 go_wp2_with fail
 rw [← hw8]
 clear hw8 q0 q1 q2 q3
 refine hbu.mono ?_
 rintro e w9 hend
 obtain ⟨hb9, Ax, cx, rfl, hrx⟩ := bet08_told hend
 rw [← HBX.out] at hrx ⊢
 rw [← HBE.out]
 have HB9 := Lib.hid (HB8.out.trans (hb9.mono HB8.out.size))
 have HS9 := Lib.hid (HS8.out.next hb9 HT.out HBW.out.1)
 have HRX9 := Lib.hid hrx
 have HRB9 := Lib.hid (HRB7.out.next HB9.out)
 have HR9 := Lib.hid (own_next HR7.out HB9.out)
 have HQ9 : Hid (PrsR w9 B (.slice Aq rs.length cq) rs) := Lib.hid (HQ7.out.on HB9.out (by have := HBW.out; have := HS7.out.b.size; omega))
 have hup := upper_any w9 T l 3 c HS9.out.tab (by omega) (by omega) HR.out
 clear hbu hend hb9 hrx HR7 HQ7 HRB7
 go_wp2_with fail
 refine hup.mono ?_
 rintro e w10 ⟨rfl, ht, hf⟩
 have HF10 := Lib.hid hf
 have HS10 := Lib.hid (HS9.out.fr hf ht HT.out HBW.out.1)
 have hlo := lower_any w10 T l 4 c HS10.out.tab (by omega) (by omega) HR.out
 clear hup ht hf
 go_wp2_with fail
 refine hlo.mono ?_
 rintro e w11 ⟨rfl, ht, hf⟩
 have HF11 := Lib.hid (HF10.out.trans hf)
 have HS11 := Lib.hid (HS10.out.fr hf ht HT.out HBW.out.1)
 have HT11 : Hid (T < w11.heap.size) := Lib.hid HS11.out.tab.lt
 have hna := named_any w11 T l 5 nm HS11.out.tab (by omega) (by omega) HR.out hnm
 clear hlo ht hf HF10 HS10
 go_wp2_with fail
 refine hna.mono ?_
 rintro e w12 ⟨v, rfl, hon, ht, hf⟩
 obtain ⟨An, cn, rfl⟩ := row_form hon
 have HF12 := Lib.hid (HF11.out.trans hf)
 have HS12 := Lib.hid (HS11.out.fr hf ht HT.out HBW.out.1)
 have HON := Lib.hid hon
 clear hna ht hf HF11 HS11 hon
 have hT9 := HS9.out.tab.lt
 have HRX12 := Lib.hid (HRX9.out.fr HF12.out (by have := HBW.out; have := HT.out; omega) (by have := HS7.out.tab.lt; have := HB8.out.size; omega) (Nat.le_of_lt hT9))
 have HRB12 : Hid (RowsR w12 w12.heap.size Ab bx) := Lib.hid (HRB9.out.fr HF12.out (by have := HS6.out.tab.lt; omega)).readsR
 have HR12 : Hid (w12.ownsRow w2.heap.size 109 2 (.slice Ar rs.length cr) rs.length (prsC rs)) := Lib.hid (ownsRow_fr HR9.out HF12.out fun g hg hx => by have := (HR9.out.lt g hg).1; have := HS2.out.tab.lt; omega)
 have HQ12 : Hid (PrsR w12 B (.slice Aq rs.length cq) rs) := Lib.hid (HQ9.out.on (HF12.out.belowT (Nat.le_of_lt hT9)) (by have := HBW.out; have := HT.out; omega))
 clear HRX9 HRB9 HR9 HQ9 HF12 hT9
 have hss := same08_yes w12.drew _ _ Ab Ax cb cx bx HRB12.out (HRX12.out.toR (by have := HBW.out; have := HS12.out.b.size; omega)) hbl
 have q0 := HS12.out.row.cell (i := 0) rfl
 have q1 := HS12.out.row.cell (i := 1) rfl
 have q2 := HS12.out.row.cell (i := 2) rfl
 have q3 := HS12.out.row.cell (i := 3) rfl
 go_wp2
 rename_i K' hK'
 refine wp_name fun act hact => ?_
 have HK : ∀ (u71 u72 u73 u74 u75 u76 u77 u78 u79 u80 u81 u82 u83 u84 : Value) (wz : World), Hid (AnsSt w B T (.slice A1 l.cls.length c1) (.slice A2 l.up.length c2) (.slice A3 l.lo.length c3) (.slice A4 l.ord.length c4) l 7 wz) → Hid (Fr w12 wz (· = T)) → K' (((((((((((((((act.put (some 71) u71).put (some 72) u72).put (some 73) u73).put (some 74) u74).put (some 75) u75).put (some 76) u76).put (some 77) u77).put (some 78) u78).put (some 79) u79).put (some 80) u80).put (some 81) u81).put (some 82) u82).put (some 83) u83).put (some 84) u84).put (some 22) (.bool true)) wz := by
  intro u71 u72 u73 u74 u75 u76 u77 u78 u79 u80 u81 u82 u83 u84 wz ASz FZz
  rw [hact]
  simp only [Act.put, g1, g2, g3]
  refine hK' _ _ ?_
  have hT12 := HS12.out.tab.lt
  have HRz : Hid (wz.ownsRow w2.heap.size 109 2 (.slice Ar rs.length cr) rs.length (prsC rs)) := Lib.hid (ownsRow_fr HR12.out FZz.out fun g hg hx => by have := (HR12.out.lt g hg).1; have := HS2.out.tab.lt; omega)
  have HQz : Hid (PrsR wz B (.slice Aq rs.length cq) rs) := Lib.hid (HQ12.out.on (FZz.out.belowT (Nat.le_of_lt hT12)) (by have := HBW.out; have := HT.out; omega))
  have HNz : Hid (wz.ownsRow w11.heap.size 23 1 (.slice An (namedT l.ord nm).length cn) (namedT l.ord nm).length (celC (namedT l.ord nm))) := Lib.hid (ownsRow_fr HON.out FZz.out fun g hg hx => by have := (HON.out.lt g hg).1; have := HT11.out; omega)
  clear hT12
  have hrl : rs.length ≤ maxLen := own_len HRz.out
  unfold maxLen at hrl
  go_wp2
  go_loopw [23] (fun iv wr => ∃ k : Nat, k ≤ rs.length ∧ iv = .int .i64 k ∧ Hid (∃ q, wr = wz.drewN q)) (fun iv _ => rs.length - (intOf iv).toNat)
  case atStart => exact ⟨0, Nat.zero_le _, rfl, Lib.hid ⟨0, rfl⟩⟩
  case round =>
   obtain ⟨k, hk, rfl, HW⟩ := hrel
   obtain ⟨q, rfl⟩ := HW.out
   by_cases hlt : k < rs.length
   ·obtain ⟨p, hp⟩ : ∃ p, rs[k]? = some p := ⟨_, List.getElem?_eq_getElem hlt⟩
    obtain ⟨Ar', cr', hvr, hsr⟩ := PrsR.of HRz.out
    injection hvr with hA _ hC
    subst hA hC
    obtain ⟨ar, rfl, _, d0, d1⟩ := prsR_at hsr hp
    obtain ⟨Aq', cq', hvq, hsq⟩ := HQz.out
    injection hvq with hA _ hC
    subst hA hC
    obtain ⟨aq, rfl, _, e0, e1⟩ := prsR_at hsq hp
    obtain ⟨pa, pb⟩ := p
    simp only at d0 d1 e0 e1
    have i0 : (0 : Int) ≤ (k : Int) := by omega
    have i1 : (k : Int) < (rs.length : Int) := by omega
    clear hsr hsq hp
    go_wp2
    refine wp_region_held (S := fun W' : World => W'.cell? (ar.add (k * 2)) = some (.int .i32 pa) ∧ W'.cell? ⟨(ar.add (k * 2)).block, (ar.add (k * 2)).off + 1, none⟩ = some (.int .i32 pb) ∧ W'.cell? (aq.add (k * 2)) = some (.int .i32 pa) ∧ W'.cell? ⟨(aq.add (k * 2)).block, (aq.add (k * 2)).off + 1, none⟩ = some (.int .i32 pb)) (by kernel_rfl) ?_
    change wpAnyH _ _ _ _ _ _ _ _ (wz.drewN q).drew
    have hS1 : (fun W' : World => W'.cell? (ar.add (k * 2)) = some (.int .i32 pa) ∧ W'.cell? ⟨(ar.add (k * 2)).block, (ar.add (k * 2)).off + 1, none⟩ = some (.int .i32 pb) ∧ W'.cell? (aq.add (k * 2)) = some (.int .i32 pa) ∧ W'.cell? ⟨(aq.add (k * 2)).block, (aq.add (k * 2)).off + 1, none⟩ = some (.int .i32 pb)) (wz.drewN q).drew := ⟨d0, d1, e0, e1⟩
    iterate 9 (refine wpH rfl rfl ?_; try simp only [Act.put, g1, g2, g3, g4, g5, g6])
    refine wpAnyH_done (by kernel_rfl) ?_ _
    clear hS1 d0 d1 e0 e1
    go_wp2
    go_roundw
    case rel => exact ⟨k + 1, by omega, by go_num, Lib.hid ⟨q + 1, rfl⟩⟩
    case measure => simp [intOf]; omega
   ·obtain rfl : k = rs.length := by omega
    obtain ⟨w20, hw20⟩ : ∃ w20, w20 = (wz.drewN q).drew := ⟨_, rfl⟩
    have hb20 : Below wz.heap.size wz w20 := by rw [hw20]; exact below_drew (below_drewN (Below.refl _ _) q)
    have ASw20 := Lib.hid (ASz.out.next hb20 HT.out HBW.out.1)
    have HQ20 : Hid (PrsR w20 B (.slice Aq rs.length cq) rs) := Lib.hid (HQz.out.on hb20 (by have := HBW.out; have := ASz.out.b.size; omega))
    have HN20 := Lib.hid (own_next HNz.out hb20)
    have HISB : Hid (isL l.cls nm c = rs.any (inR c)) := Lib.hid (by unfold isL; rw [HRS.out])
    have hwb : IntKind.i64.wrap be = be := by rw [HBE.out]; unfold betE; split <;> rfl
    have hSw20 : (fun W' : World => W'.cell? ⟨w.heap.size, 0, none⟩ = some (.slice A1 l.cls.length c1) ∧ W'.cell? ⟨w.heap.size, 1, none⟩ = some (.slice A2 l.up.length c2) ∧ W'.cell? ⟨w.heap.size, 2, none⟩ = some (.slice A3 l.lo.length c3) ∧ W'.cell? ⟨w.heap.size, 3, none⟩ = some (.slice A4 l.ord.length c4)) w20 := ⟨ASw20.out.row.cell (i := 0) rfl, ASw20.out.row.cell (i := 1) rfl, ASw20.out.row.cell (i := 2) rfl, ASw20.out.row.cell (i := 3) rfl⟩
    have hml : rs.length ≤ maxLen := own_len HRz.out
    have hin := in08_any w20 B _ rs c HQ20.out hml
    have hup := to08_any w20 B _ l.up c ASw20.out.loc.2.1 ASw20.out.loc.2.2.2.2.2.1
    have hlo := to08_any w20 B _ l.lo c ASw20.out.loc.2.2.1 ASw20.out.loc.2.2.2.2.2.2
    have hnm8 := named08_any w20 B _ _ _ _ l nm ASw20.out.loc (by have := HBW.out; have := ASw20.out.b.size; omega) h500 hnm
    rw [← HISB.out] at hin
    generalize isL l.cls nm c = ib at hin ⊢
    generalize toL l.up c = ub at hup ⊢
    generalize toL l.lo c = lb at hlo ⊢
    generalize (rangesL l.cls nm).isSome = sb
    skip
    clear HISB
    go_wp2
    refine wp_region_held (S := fun W' : World => W'.cell? ⟨w.heap.size, 0, none⟩ = some (.slice A1 l.cls.length c1) ∧ W'.cell? ⟨w.heap.size, 1, none⟩ = some (.slice A2 l.up.length c2) ∧ W'.cell? ⟨w.heap.size, 2, none⟩ = some (.slice A3 l.lo.length c3) ∧ W'.cell? ⟨w.heap.size, 3, none⟩ = some (.slice A4 l.ord.length c4)) (by kernel_rfl) ?_
    change wpAnyH _ _ _ _ _ _ _ _ (wz.drewN q).drew
    rw [← hw20]
    clear hw20 hb20
    iterate 7 (refine wpH rfl rfl ?_; try simp only [Act.put, g1, g2, g3, g4, g5, g6])
    refine wpAnyH_one (i := 7) (by kernel_rfl) rfl (fun K hK => ?_)
    simp only [g4, g5, g6]
    go_simp
    go_at_call 54
    refine hin.mono ?_
    rintro e _ ⟨rfl, rfl⟩
    clear hin
    refine hK.out _ _ hSw20 (fun _ => ?_)
    try simp only [Act.put, g1, g2, g3, g4, g5, g6]
    iterate 13 (refine wpH rfl rfl ?_; try simp only [Act.put, g1, g2, g3, g4, g5, g6])
    refine wpAnyH_one (i := 21) (by kernel_rfl) rfl (fun K hK => ?_)
    simp only [g4, g5, g6]
    go_simp
    go_at_call 55
    refine hup.mono ?_
    rintro e _ ⟨rfl, rfl⟩
    clear hup
    refine hK.out _ _ hSw20 (fun _ => ?_)
    try simp only [Act.put, g1, g2, g3, g4, g5, g6]
    iterate 7 (refine wpH rfl rfl ?_; try simp only [Act.put, g1, g2, g3, g4, g5, g6])
    refine wpAnyH_one (i := 29) (by kernel_rfl) rfl (fun K hK => ?_)
    simp only [g4, g5, g6]
    go_simp
    go_at_call 55
    refine hlo.mono ?_
    rintro e _ ⟨rfl, rfl⟩
    clear hlo
    refine hK.out _ _ hSw20 (fun _ => ?_)
    try simp only [Act.put, g1, g2, g3, g4, g5, g6]
    iterate 6 (refine wpH rfl rfl ?_; try simp only [Act.put, g1, g2, g3, g4, g5, g6])
    refine wpAnyH_one (i := 36) (by kernel_rfl) rfl (fun K hK => ?_)
    simp only [g4, g5, g6]
    go_simp
    go_at_call 56
    refine hnm8.mono ?_
    rintro e w21 hend
    obtain ⟨hb21, An8, cn8, rfl, hr21⟩ := hend
    have ASw21 := Lib.hid (ASw20.out.next hb21 HT.out HBW.out.1)
    have hSw21 : (fun W' : World => W'.cell? ⟨w.heap.size, 0, none⟩ = some (.slice A1 l.cls.length c1) ∧ W'.cell? ⟨w.heap.size, 1, none⟩ = some (.slice A2 l.up.length c2) ∧ W'.cell? ⟨w.heap.size, 2, none⟩ = some (.slice A3 l.lo.length c3) ∧ W'.cell? ⟨w.heap.size, 3, none⟩ = some (.slice A4 l.ord.length c4)) w21 := ⟨ASw21.out.row.cell (i := 0) rfl, ASw21.out.row.cell (i := 1) rfl, ASw21.out.row.cell (i := 2) rfl, ASw21.out.row.cell (i := 3) rfl⟩
    have hs21 := same_any w21 _ _ An An8 _ cn _ cn8 _ _ (RI.of_own (own_next HN20.out hb21)) hr21 (own_len HN20.out) (own_len HN20.out)
    rw [sameL_true rfl] at hs21
    clear hnm8 hb21 hr21
    refine hK.out _ _ hSw21 (fun _ => ?_)
    try simp only [Act.put, g1, g2, g3, g4, g5, g6]
    refine wpAnyH_one (i := 37) (by kernel_rfl) rfl (fun K hK => ?_)
    simp only [g4, g5, g6]
    go_simp
    go_at_call 15
    refine hs21.mono ?_
    rintro e w22 ⟨rfl, q2, hw22⟩
    have hb22 : Below w21.heap.size w21 w22 := by rw [hw22]; exact below_drewN (Below.refl _ _) q2
    have ASw22 := Lib.hid (ASw21.out.next hb22 HT.out HBW.out.1)
    have hSw22 : (fun W' : World => W'.cell? ⟨w.heap.size, 0, none⟩ = some (.slice A1 l.cls.length c1) ∧ W'.cell? ⟨w.heap.size, 1, none⟩ = some (.slice A2 l.up.length c2) ∧ W'.cell? ⟨w.heap.size, 2, none⟩ = some (.slice A3 l.lo.length c3) ∧ W'.cell? ⟨w.heap.size, 3, none⟩ = some (.slice A4 l.ord.length c4)) w22 := ⟨ASw22.out.row.cell (i := 0) rfl, ASw22.out.row.cell (i := 1) rfl, ASw22.out.row.cell (i := 2) rfl, ASw22.out.row.cell (i := 3) rfl⟩
    have hfd := fold_any w22 T l 7 c ASw22.out.tab (by omega) (by omega) HR.out
    clear hs21 hw22 hb22
    refine hK.out _ _ hSw22 (fun _ => ?_)
    try simp only [Act.put, g1, g2, g3, g4, g5, g6]
    iterate 4 (refine wpH rfl rfl ?_; try simp only [Act.put, g1, g2, g3, g4, g5, g6])
    refine wpHn 43 rfl ?_; try simp only [Act.put, g1, g2, g3, g4, g5, g6]
    refine wpHn 44 rfl ?_; try simp only [Act.put, g1, g2, g3, g4, g5, g6]
    refine wpAnyH_one (i := 42) (by kernel_rfl) rfl (fun K hK => ?_)
    simp only [g4, g5, g6]
    go_simp
    go_at_call 13
    refine hfd.mono ?_
    rintro e w23 ⟨v, rfl, hof, ht, hf⟩
    obtain ⟨Af, cf, rfl⟩ := row_form hof
    have ASw23 := Lib.hid (ASw22.out.fr hf ht HT.out HBW.out.1)
    have hSw23 : (fun W' : World => W'.cell? ⟨w.heap.size, 0, none⟩ = some (.slice A1 l.cls.length c1) ∧ W'.cell? ⟨w.heap.size, 1, none⟩ = some (.slice A2 l.up.length c2) ∧ W'.cell? ⟨w.heap.size, 2, none⟩ = some (.slice A3 l.lo.length c3) ∧ W'.cell? ⟨w.heap.size, 3, none⟩ = some (.slice A4 l.ord.length c4)) w23 := ⟨ASw23.out.row.cell (i := 0) rfl, ASw23.out.row.cell (i := 1) rfl, ASw23.out.row.cell (i := 2) rfl, ASw23.out.row.cell (i := 3) rfl⟩
    have HF23 := Lib.hid hof
    have hf8 := fold08_any w23 B _ _ _ _ l c ASw23.out.loc (by have := HBW.out; have := ASw23.out.b.size; omega)
    clear hfd hof ht hf
    refine hK.out _ _ hSw23 (fun _ => ?_)
    try simp only [Act.put, g1, g2, g3, g4, g5, g6]
    refine wpAnyH_one (i := 45) (by kernel_rfl) rfl (fun K hK => ?_)
    simp only [g4, g5, g6]
    go_simp
    go_at_call 57
    refine hf8.mono ?_
    rintro e w24 ⟨v, rfl, hog, hb24⟩
    obtain ⟨Ag, cg, rfl⟩ := row_form hog
    have ASw24 := Lib.hid (ASw23.out.next hb24 HT.out HBW.out.1)
    have hSw24 : (fun W' : World => W'.cell? ⟨w.heap.size, 0, none⟩ = some (.slice A1 l.cls.length c1) ∧ W'.cell? ⟨w.heap.size, 1, none⟩ = some (.slice A2 l.up.length c2) ∧ W'.cell? ⟨w.heap.size, 2, none⟩ = some (.slice A3 l.lo.length c3) ∧ W'.cell? ⟨w.heap.size, 3, none⟩ = some (.slice A4 l.ord.length c4)) w24 := ⟨ASw24.out.row.cell (i := 0) rfl, ASw24.out.row.cell (i := 1) rfl, ASw24.out.row.cell (i := 2) rfl, ASw24.out.row.cell (i := 3) rfl⟩
    have hs24 := same_any w24 _ _ Af Ag _ cf _ cg _ _ (RI.of_own (own_next HF23.out hb24)) (RI.of_own hog) (own_len HF23.out) (own_len hog)
    rw [sameL_true rfl] at hs24
    clear hf8 hog hb24
    refine hK.out _ _ hSw24 (fun _ => ?_)
    try simp only [Act.put, g1, g2, g3, g4, g5, g6]
    refine wpAnyH_one (i := 46) (by kernel_rfl) rfl (fun K hK => ?_)
    simp only [g4, g5, g6]
    go_simp
    go_at_call 15
    refine hs24.mono ?_
    rintro e w25 ⟨rfl, q3, hw25⟩
    have hb25 : Below w24.heap.size w24 w25 := by rw [hw25]; exact below_drewN (Below.refl _ _) q3
    have ASw25 := Lib.hid (ASw24.out.next hb25 HT.out HBW.out.1)
    have hSw25 : (fun W' : World => W'.cell? ⟨w.heap.size, 0, none⟩ = some (.slice A1 l.cls.length c1) ∧ W'.cell? ⟨w.heap.size, 1, none⟩ = some (.slice A2 l.up.length c2) ∧ W'.cell? ⟨w.heap.size, 2, none⟩ = some (.slice A3 l.lo.length c3) ∧ W'.cell? ⟨w.heap.size, 3, none⟩ = some (.slice A4 l.ord.length c4)) w25 := ⟨ASw25.out.row.cell (i := 0) rfl, ASw25.out.row.cell (i := 1) rfl, ASw25.out.row.cell (i := 2) rfl, ASw25.out.row.cell (i := 3) rfl⟩
    clear hs24 hw25 hb25
    refine hK.out _ _ hSw25 (fun _ => ?_)
    try simp only [Act.put, g1, g2, g3, g4, g5, g6]
    refine wpHn 47 rfl ?_; try simp only [Act.put, g1, g2, g3, g4, g5, g6]
    refine wpHn 48 rfl ?_; try simp only [Act.put, g1, g2, g3, g4, g5, g6]
    refine wpHn 49 rfl ?_; try simp only [Act.put, g1, g2, g3, g4, g5, g6]
    refine wpHn 50 rfl ?_; try simp only [Act.put, g1, g2, g3, g4, g5, g6]
    refine wpHn 53 rfl ?_; try simp only [Act.put, g1, g2, g3, g4, g5, g6]
    refine wpHn 54 rfl ?_; try simp only [Act.put, g1, g2, g3, g4, g5, g6]
    refine wpHn 55 rfl ?_; try simp only [Act.put, g1, g2, g3, g4, g5, g6]
    refine wpAnyH_two (i := 51) (j := 56) (by kernel_rfl) rfl rfl (fun K hK => ?_) (fun K hK => ?_)
    ·simp only [g4, g5, g6]
     go_simp
     obtain ⟨wa, hwwa⟩ : ∃ wa, wa = w25.alloc (.cells #[.int .i32 c] 23) := ⟨_, rfl⟩
     have hbwa : Below w25.heap.size w25 wa := by rw [hwwa]; exact (Below.refl _ _).alloc (Nat.le_refl _) _
     have RI1wa : Hid (RI .i32 wa (w25.heap.size + 1) (some ⟨w25.heap.size, 0, none⟩) 1 [c] ∧ T < w25.heap.size ∧ w25.heap.size + 1 ≤ wa.heap.size) := Lib.hid ⟨by rw [hwwa]; exact ri_one w25 c, ASw25.out.tab.lt, by rw [hwwa]; simp⟩
     have ASwa := Lib.hid (ASw25.out.next hbwa HT.out HBW.out.1)
     have hSwa : (fun W' : World => W'.cell? ⟨w.heap.size, 0, none⟩ = some (.slice A1 l.cls.length c1) ∧ W'.cell? ⟨w.heap.size, 1, none⟩ = some (.slice A2 l.up.length c2) ∧ W'.cell? ⟨w.heap.size, 2, none⟩ = some (.slice A3 l.lo.length c3) ∧ W'.cell? ⟨w.heap.size, 3, none⟩ = some (.slice A4 l.ord.length c4)) wa := ⟨ASwa.out.row.cell (i := 0) rfl, ASwa.out.row.cell (i := 1) rfl, ASwa.out.row.cell (i := 2) rfl, ASwa.out.row.cell (i := 3) rfl⟩
     rw [show (w25.alloc (.cells #[.int .i32 c] 23)) = wa from hwwa.symm]
     clear hwwa hbwa
     refine hK.out _ _ hSwa (fun _ => ?_)
     try simp only [Act.put, g1, g2, g3, g4, g5, g6]
     have hrk := rank8_any wa T l 8 (w25.heap.size + 1) (some ⟨w25.heap.size, 0, none⟩) 1 1 [c] ASwa.out.tab (by omega) (by omega) HR.out RI1wa.out.1 RI1wa.out.2.2 (by rintro _ ad h; injection h with h; subst h; have := RI1wa.out.2.1; simp only; omega) (HG.out.next ASwa.out.b).1 HGT.out
     refine wpAnyH_two (i := 52) (j := 56) (by kernel_rfl) rfl rfl (fun K hK => ?_) (fun K hK => ?_)
     ·simp only [g4, g5, g6]
      go_simp
      go_at_call 38
      refine hrk.mono ?_
      rintro e wb ⟨rfl, ht, hf⟩
      have ASwb := Lib.hid (ASwa.out.fr hf ht HT.out HBW.out.1)
      have hSwb : (fun W' : World => W'.cell? ⟨w.heap.size, 0, none⟩ = some (.slice A1 l.cls.length c1) ∧ W'.cell? ⟨w.heap.size, 1, none⟩ = some (.slice A2 l.up.length c2) ∧ W'.cell? ⟨w.heap.size, 2, none⟩ = some (.slice A3 l.lo.length c3) ∧ W'.cell? ⟨w.heap.size, 3, none⟩ = some (.slice A4 l.ord.length c4)) wb := ⟨ASwb.out.row.cell (i := 0) rfl, ASwb.out.row.cell (i := 1) rfl, ASwb.out.row.cell (i := 2) rfl, ASwb.out.row.cell (i := 3) rfl⟩
      have RI1wb : Hid (RI .i32 wb (w25.heap.size + 1) (some ⟨w25.heap.size, 0, none⟩) 1 [c] ∧ T < w25.heap.size ∧ w25.heap.size + 1 ≤ wb.heap.size) := Lib.hid ⟨RI1wa.out.1.fr hf RI1wa.out.2.2 (by rintro _ ad h; injection h with h; subst h; have := RI1wa.out.2.1; simp only; omega), RI1wa.out.2.1, Nat.le_trans RI1wa.out.2.2 hf.size⟩
      clear hrk ht hf
      refine hK.out _ _ hSwb (fun _ => ?_)
      try simp only [Act.put, g1, g2, g3, g4, g5, g6]
      refine wpAnyH_one (i := 56) (by kernel_rfl) rfl (fun K hK => ?_)
      simp only [g4, g5, g6]
      go_simp
      obtain ⟨wc, hwwc⟩ : ∃ wc, wc = wb.alloc (.cells #[.int .i32 c] 23) := ⟨_, rfl⟩
      have hbwc : Below wb.heap.size wb wc := by rw [hwwc]; exact (Below.refl _ _).alloc (Nat.le_refl _) _
      have RI2wc : Hid (RI .i32 wc (wb.heap.size + 1) (some ⟨wb.heap.size, 0, none⟩) 1 [c] ∧ T < wb.heap.size ∧ wb.heap.size + 1 ≤ wc.heap.size) := Lib.hid ⟨by rw [hwwc]; exact ri_one wb c, ASwb.out.tab.lt, by rw [hwwc]; simp⟩
      have ASwc := Lib.hid (ASwb.out.next hbwc HT.out HBW.out.1)
      have hSwc : (fun W' : World => W'.cell? ⟨w.heap.size, 0, none⟩ = some (.slice A1 l.cls.length c1) ∧ W'.cell? ⟨w.heap.size, 1, none⟩ = some (.slice A2 l.up.length c2) ∧ W'.cell? ⟨w.heap.size, 2, none⟩ = some (.slice A3 l.lo.length c3) ∧ W'.cell? ⟨w.heap.size, 3, none⟩ = some (.slice A4 l.ord.length c4)) wc := ⟨ASwc.out.row.cell (i := 0) rfl, ASwc.out.row.cell (i := 1) rfl, ASwc.out.row.cell (i := 2) rfl, ASwc.out.row.cell (i := 3) rfl⟩
      have RI1wc : Hid (RI .i32 wc (w25.heap.size + 1) (some ⟨w25.heap.size, 0, none⟩) 1 [c] ∧ T < w25.heap.size ∧ w25.heap.size + 1 ≤ wc.heap.size) := Lib.hid ⟨RI1wb.out.1.on hbwc RI1wb.out.2.2, RI1wb.out.2.1, Nat.le_trans RI1wb.out.2.2 hbwc.size⟩
      rw [show (wb.alloc (.cells #[.int .i32 c] 23)) = wc from hwwc.symm]
      clear hwwc hbwc
      refine hK.out _ _ hSwc (fun _ => ?_)
      try simp only [Act.put, g1, g2, g3, g4, g5, g6]
      have hpl := place07_any wc B (wb.heap.size + 1) _ l.ord (some ⟨wb.heap.size, 0, none⟩) 1 1 [c] ASwc.out.loc.2.2.2.1 RI2wc.out.1 h500 (by decide)
      refine wpAnyH_one (i := 57) (by kernel_rfl) rfl (fun K hK => ?_)
      simp only [g4, g5, g6]
      go_simp
      go_at_call 33
      refine hpl.mono ?_
      rintro e wy ⟨rfl, qy, hwy⟩
      have hbwy : Below wc.heap.size wc wy := by rw [hwy]; exact below_drewN (Below.refl _ _) qy
      have ASwy := Lib.hid (ASwc.out.next hbwy HT.out HBW.out.1)
      have hSwy : (fun W' : World => W'.cell? ⟨w.heap.size, 0, none⟩ = some (.slice A1 l.cls.length c1) ∧ W'.cell? ⟨w.heap.size, 1, none⟩ = some (.slice A2 l.up.length c2) ∧ W'.cell? ⟨w.heap.size, 2, none⟩ = some (.slice A3 l.lo.length c3) ∧ W'.cell? ⟨w.heap.size, 3, none⟩ = some (.slice A4 l.ord.length c4)) wy := ⟨ASwy.out.row.cell (i := 0) rfl, ASwy.out.row.cell (i := 1) rfl, ASwy.out.row.cell (i := 2) rfl, ASwy.out.row.cell (i := 3) rfl⟩
      clear hpl hwy hbwy
      refine hK.out _ _ hSwy (fun _ => ?_)
      try simp only [Act.put, g1, g2, g3, g4, g5, g6]
      refine wpHn 58 rfl ?_; try simp only [Act.put, g1, g2, g3, g4, g5, g6]
      refine wpHn 59 rfl ?_; try simp only [Act.put, g1, g2, g3, g4, g5, g6]
      refine wpHn 60 rfl ?_; try simp only [Act.put, g1, g2, g3, g4, g5, g6]
      refine wpAnyH_done (by kernel_rfl) ?_ _
      go_wp2
      go_ret
      exact ⟨rfl, ASwy.out.b⟩
     ·clear hrk
      simp only [g4, g5, g6]
      go_simp
      obtain ⟨wb, hwwb⟩ : ∃ wb, wb = wa.alloc (.cells #[.int .i32 c] 23) := ⟨_, rfl⟩
      have hbwb : Below wa.heap.size wa wb := by rw [hwwb]; exact (Below.refl _ _).alloc (Nat.le_refl _) _
      have RI2wb : Hid (RI .i32 wb (wa.heap.size + 1) (some ⟨wa.heap.size, 0, none⟩) 1 [c] ∧ T < wa.heap.size ∧ wa.heap.size + 1 ≤ wb.heap.size) := Lib.hid ⟨by rw [hwwb]; exact ri_one wa c, ASwa.out.tab.lt, by rw [hwwb]; simp⟩
      have ASwb := Lib.hid (ASwa.out.next hbwb HT.out HBW.out.1)
      have hSwb : (fun W' : World => W'.cell? ⟨w.heap.size, 0, none⟩ = some (.slice A1 l.cls.length c1) ∧ W'.cell? ⟨w.heap.size, 1, none⟩ = some (.slice A2 l.up.length c2) ∧ W'.cell? ⟨w.heap.size, 2, none⟩ = some (.slice A3 l.lo.length c3) ∧ W'.cell? ⟨w.heap.size, 3, none⟩ = some (.slice A4 l.ord.length c4)) wb := ⟨ASwb.out.row.cell (i := 0) rfl, ASwb.out.row.cell (i := 1) rfl, ASwb.out.row.cell (i := 2) rfl, ASwb.out.row.cell (i := 3) rfl⟩
      have RI1wb : Hid (RI .i32 wb (w25.heap.size + 1) (some ⟨w25.heap.size, 0, none⟩) 1 [c] ∧ T < w25.heap.size ∧ w25.heap.size + 1 ≤ wb.heap.size) := Lib.hid ⟨RI1wa.out.1.on hbwb RI1wa.out.2.2, RI1wa.out.2.1, Nat.le_trans RI1wa.out.2.2 hbwb.size⟩
      rw [show (wa.alloc (.cells #[.int .i32 c] 23)) = wb from hwwb.symm]
      clear hwwb hbwb
      refine hK.out _ _ hSwb (fun _ => ?_)
      try simp only [Act.put, g1, g2, g3, g4, g5, g6]
      have hrk := rank8_any wb T l 8 (w25.heap.size + 1) (some ⟨w25.heap.size, 0, none⟩) 1 1 [c] ASwb.out.tab (by omega) (by omega) HR.out RI1wb.out.1 RI1wb.out.2.2 (by rintro _ ad h; injection h with h; subst h; have := RI1wb.out.2.1; simp only; omega) (HG.out.next ASwb.out.b).1 HGT.out
      refine wpAnyH_one (i := 52) (by kernel_rfl) rfl (fun K hK => ?_)
      simp only [g4, g5, g6]
      go_simp
      go_at_call 38
      refine hrk.mono ?_
      rintro e wc ⟨rfl, ht, hf⟩
      have ASwc := Lib.hid (ASwb.out.fr hf ht HT.out HBW.out.1)
      have hSwc : (fun W' : World => W'.cell? ⟨w.heap.size, 0, none⟩ = some (.slice A1 l.cls.length c1) ∧ W'.cell? ⟨w.heap.size, 1, none⟩ = some (.slice A2 l.up.length c2) ∧ W'.cell? ⟨w.heap.size, 2, none⟩ = some (.slice A3 l.lo.length c3) ∧ W'.cell? ⟨w.heap.size, 3, none⟩ = some (.slice A4 l.ord.length c4)) wc := ⟨ASwc.out.row.cell (i := 0) rfl, ASwc.out.row.cell (i := 1) rfl, ASwc.out.row.cell (i := 2) rfl, ASwc.out.row.cell (i := 3) rfl⟩
      have RI1wc : Hid (RI .i32 wc (w25.heap.size + 1) (some ⟨w25.heap.size, 0, none⟩) 1 [c] ∧ T < w25.heap.size ∧ w25.heap.size + 1 ≤ wc.heap.size) := Lib.hid ⟨RI1wb.out.1.fr hf RI1wb.out.2.2 (by rintro _ ad h; injection h with h; subst h; have := RI1wb.out.2.1; simp only; omega), RI1wb.out.2.1, Nat.le_trans RI1wb.out.2.2 hf.size⟩
      have RI2wc : Hid (RI .i32 wc (wa.heap.size + 1) (some ⟨wa.heap.size, 0, none⟩) 1 [c] ∧ T < wa.heap.size ∧ wa.heap.size + 1 ≤ wc.heap.size) := Lib.hid ⟨RI2wb.out.1.fr hf RI2wb.out.2.2 (by rintro _ ad h; injection h with h; subst h; have := RI2wb.out.2.1; simp only; omega), RI2wb.out.2.1, Nat.le_trans RI2wb.out.2.2 hf.size⟩
      clear hrk ht hf
      refine hK.out _ _ hSwc (fun _ => ?_)
      try simp only [Act.put, g1, g2, g3, g4, g5, g6]
      have hpl := place07_any wc B (wa.heap.size + 1) _ l.ord (some ⟨wa.heap.size, 0, none⟩) 1 1 [c] ASwc.out.loc.2.2.2.1 RI2wc.out.1 h500 (by decide)
      refine wpAnyH_one (i := 57) (by kernel_rfl) rfl (fun K hK => ?_)
      simp only [g4, g5, g6]
      go_simp
      go_at_call 33
      refine hpl.mono ?_
      rintro e wy ⟨rfl, qy, hwy⟩
      have hbwy : Below wc.heap.size wc wy := by rw [hwy]; exact below_drewN (Below.refl _ _) qy
      have ASwy := Lib.hid (ASwc.out.next hbwy HT.out HBW.out.1)
      have hSwy : (fun W' : World => W'.cell? ⟨w.heap.size, 0, none⟩ = some (.slice A1 l.cls.length c1) ∧ W'.cell? ⟨w.heap.size, 1, none⟩ = some (.slice A2 l.up.length c2) ∧ W'.cell? ⟨w.heap.size, 2, none⟩ = some (.slice A3 l.lo.length c3) ∧ W'.cell? ⟨w.heap.size, 3, none⟩ = some (.slice A4 l.ord.length c4)) wy := ⟨ASwy.out.row.cell (i := 0) rfl, ASwy.out.row.cell (i := 1) rfl, ASwy.out.row.cell (i := 2) rfl, ASwy.out.row.cell (i := 3) rfl⟩
      clear hpl hwy hbwy
      refine hK.out _ _ hSwy (fun _ => ?_)
      try simp only [Act.put, g1, g2, g3, g4, g5, g6]
      refine wpHn 58 rfl ?_; try simp only [Act.put, g1, g2, g3, g4, g5, g6]
      refine wpHn 59 rfl ?_; try simp only [Act.put, g1, g2, g3, g4, g5, g6]
      refine wpHn 60 rfl ?_; try simp only [Act.put, g1, g2, g3, g4, g5, g6]
      refine wpAnyH_done (by kernel_rfl) ?_ _
      go_wp2
      go_ret
      exact ⟨rfl, ASwy.out.b⟩
    ·simp only [g4, g5, g6]
     go_simp
     obtain ⟨wa, hwwa⟩ : ∃ wa, wa = w25.alloc (.cells #[.int .i32 c] 23) := ⟨_, rfl⟩
     have hbwa : Below w25.heap.size w25 wa := by rw [hwwa]; exact (Below.refl _ _).alloc (Nat.le_refl _) _
     have RI2wa : Hid (RI .i32 wa (w25.heap.size + 1) (some ⟨w25.heap.size, 0, none⟩) 1 [c] ∧ T < w25.heap.size ∧ w25.heap.size + 1 ≤ wa.heap.size) := Lib.hid ⟨by rw [hwwa]; exact ri_one w25 c, ASw25.out.tab.lt, by rw [hwwa]; simp⟩
     have ASwa := Lib.hid (ASw25.out.next hbwa HT.out HBW.out.1)
     have hSwa : (fun W' : World => W'.cell? ⟨w.heap.size, 0, none⟩ = some (.slice A1 l.cls.length c1) ∧ W'.cell? ⟨w.heap.size, 1, none⟩ = some (.slice A2 l.up.length c2) ∧ W'.cell? ⟨w.heap.size, 2, none⟩ = some (.slice A3 l.lo.length c3) ∧ W'.cell? ⟨w.heap.size, 3, none⟩ = some (.slice A4 l.ord.length c4)) wa := ⟨ASwa.out.row.cell (i := 0) rfl, ASwa.out.row.cell (i := 1) rfl, ASwa.out.row.cell (i := 2) rfl, ASwa.out.row.cell (i := 3) rfl⟩
     rw [show (w25.alloc (.cells #[.int .i32 c] 23)) = wa from hwwa.symm]
     clear hwwa hbwa
     refine hK.out _ _ hSwa (fun _ => ?_)
     try simp only [Act.put, g1, g2, g3, g4, g5, g6]
     refine wpAnyH_one (i := 51) (by kernel_rfl) rfl (fun K hK => ?_)
     simp only [g4, g5, g6]
     go_simp
     obtain ⟨wb, hwwb⟩ : ∃ wb, wb = wa.alloc (.cells #[.int .i32 c] 23) := ⟨_, rfl⟩
     have hbwb : Below wa.heap.size wa wb := by rw [hwwb]; exact (Below.refl _ _).alloc (Nat.le_refl _) _
     have RI1wb : Hid (RI .i32 wb (wa.heap.size + 1) (some ⟨wa.heap.size, 0, none⟩) 1 [c] ∧ T < wa.heap.size ∧ wa.heap.size + 1 ≤ wb.heap.size) := Lib.hid ⟨by rw [hwwb]; exact ri_one wa c, ASwa.out.tab.lt, by rw [hwwb]; simp⟩
     have ASwb := Lib.hid (ASwa.out.next hbwb HT.out HBW.out.1)
     have hSwb : (fun W' : World => W'.cell? ⟨w.heap.size, 0, none⟩ = some (.slice A1 l.cls.length c1) ∧ W'.cell? ⟨w.heap.size, 1, none⟩ = some (.slice A2 l.up.length c2) ∧ W'.cell? ⟨w.heap.size, 2, none⟩ = some (.slice A3 l.lo.length c3) ∧ W'.cell? ⟨w.heap.size, 3, none⟩ = some (.slice A4 l.ord.length c4)) wb := ⟨ASwb.out.row.cell (i := 0) rfl, ASwb.out.row.cell (i := 1) rfl, ASwb.out.row.cell (i := 2) rfl, ASwb.out.row.cell (i := 3) rfl⟩
     have RI2wb : Hid (RI .i32 wb (w25.heap.size + 1) (some ⟨w25.heap.size, 0, none⟩) 1 [c] ∧ T < w25.heap.size ∧ w25.heap.size + 1 ≤ wb.heap.size) := Lib.hid ⟨RI2wa.out.1.on hbwb RI2wa.out.2.2, RI2wa.out.2.1, Nat.le_trans RI2wa.out.2.2 hbwb.size⟩
     rw [show (wa.alloc (.cells #[.int .i32 c] 23)) = wb from hwwb.symm]
     clear hwwb hbwb
     refine hK.out _ _ hSwb (fun _ => ?_)
     try simp only [Act.put, g1, g2, g3, g4, g5, g6]
     have hrk := rank8_any wb T l 8 (wa.heap.size + 1) (some ⟨wa.heap.size, 0, none⟩) 1 1 [c] ASwb.out.tab (by omega) (by omega) HR.out RI1wb.out.1 RI1wb.out.2.2 (by rintro _ ad h; injection h with h; subst h; have := RI1wb.out.2.1; simp only; omega) (HG.out.next ASwb.out.b).1 HGT.out
     refine wpAnyH_one (i := 52) (by kernel_rfl) rfl (fun K hK => ?_)
     simp only [g4, g5, g6]
     go_simp
     go_at_call 38
     refine hrk.mono ?_
     rintro e wc ⟨rfl, ht, hf⟩
     have ASwc := Lib.hid (ASwb.out.fr hf ht HT.out HBW.out.1)
     have hSwc : (fun W' : World => W'.cell? ⟨w.heap.size, 0, none⟩ = some (.slice A1 l.cls.length c1) ∧ W'.cell? ⟨w.heap.size, 1, none⟩ = some (.slice A2 l.up.length c2) ∧ W'.cell? ⟨w.heap.size, 2, none⟩ = some (.slice A3 l.lo.length c3) ∧ W'.cell? ⟨w.heap.size, 3, none⟩ = some (.slice A4 l.ord.length c4)) wc := ⟨ASwc.out.row.cell (i := 0) rfl, ASwc.out.row.cell (i := 1) rfl, ASwc.out.row.cell (i := 2) rfl, ASwc.out.row.cell (i := 3) rfl⟩
     have RI1wc : Hid (RI .i32 wc (wa.heap.size + 1) (some ⟨wa.heap.size, 0, none⟩) 1 [c] ∧ T < wa.heap.size ∧ wa.heap.size + 1 ≤ wc.heap.size) := Lib.hid ⟨RI1wb.out.1.fr hf RI1wb.out.2.2 (by rintro _ ad h; injection h with h; subst h; have := RI1wb.out.2.1; simp only; omega), RI1wb.out.2.1, Nat.le_trans RI1wb.out.2.2 hf.size⟩
     have RI2wc : Hid (RI .i32 wc (w25.heap.size + 1) (some ⟨w25.heap.size, 0, none⟩) 1 [c] ∧ T < w25.heap.size ∧ w25.heap.size + 1 ≤ wc.heap.size) := Lib.hid ⟨RI2wb.out.1.fr hf RI2wb.out.2.2 (by rintro _ ad h; injection h with h; subst h; have := RI2wb.out.2.1; simp only; omega), RI2wb.out.2.1, Nat.le_trans RI2wb.out.2.2 hf.size⟩
     clear hrk ht hf
     refine hK.out _ _ hSwc (fun _ => ?_)
     try simp only [Act.put, g1, g2, g3, g4, g5, g6]
     have hpl := place07_any wc B (w25.heap.size + 1) _ l.ord (some ⟨w25.heap.size, 0, none⟩) 1 1 [c] ASwc.out.loc.2.2.2.1 RI2wc.out.1 h500 (by decide)
     refine wpAnyH_one (i := 57) (by kernel_rfl) rfl (fun K hK => ?_)
     simp only [g4, g5, g6]
     go_simp
     go_at_call 33
     refine hpl.mono ?_
     rintro e wy ⟨rfl, qy, hwy⟩
     have hbwy : Below wc.heap.size wc wy := by rw [hwy]; exact below_drewN (Below.refl _ _) qy
     have ASwy := Lib.hid (ASwc.out.next hbwy HT.out HBW.out.1)
     have hSwy : (fun W' : World => W'.cell? ⟨w.heap.size, 0, none⟩ = some (.slice A1 l.cls.length c1) ∧ W'.cell? ⟨w.heap.size, 1, none⟩ = some (.slice A2 l.up.length c2) ∧ W'.cell? ⟨w.heap.size, 2, none⟩ = some (.slice A3 l.lo.length c3) ∧ W'.cell? ⟨w.heap.size, 3, none⟩ = some (.slice A4 l.ord.length c4)) wy := ⟨ASwy.out.row.cell (i := 0) rfl, ASwy.out.row.cell (i := 1) rfl, ASwy.out.row.cell (i := 2) rfl, ASwy.out.row.cell (i := 3) rfl⟩
     clear hpl hwy hbwy
     refine hK.out _ _ hSwy (fun _ => ?_)
     try simp only [Act.put, g1, g2, g3, g4, g5, g6]
     refine wpHn 58 rfl ?_; try simp only [Act.put, g1, g2, g3, g4, g5, g6]
     refine wpHn 59 rfl ?_; try simp only [Act.put, g1, g2, g3, g4, g5, g6]
     refine wpHn 60 rfl ?_; try simp only [Act.put, g1, g2, g3, g4, g5, g6]
     refine wpAnyH_done (by kernel_rfl) ?_ _
     go_wp2
     go_ret
     exact ⟨rfl, ASwy.out.b⟩
 simp only [hact, Act.put, g1, g2, g3] at HK
 subst hact
 refine wp_region_held (S := fun W' : World => W'.cell? ⟨w.heap.size, 0, none⟩ = some (.slice A1 l.cls.length c1) ∧ W'.cell? ⟨w.heap.size, 1, none⟩ = some (.slice A2 l.up.length c2) ∧ W'.cell? ⟨w.heap.size, 2, none⟩ = some (.slice A3 l.lo.length c3) ∧ W'.cell? ⟨w.heap.size, 3, none⟩ = some (.slice A4 l.ord.length c4)) (by kernel_rfl) ?_
 change wpAnyH _ _ _ _ _ _ _ _ w12.drew
 have hS1 : (fun W' : World => W'.cell? ⟨w.heap.size, 0, none⟩ = some (.slice A1 l.cls.length c1) ∧ W'.cell? ⟨w.heap.size, 1, none⟩ = some (.slice A2 l.up.length c2) ∧ W'.cell? ⟨w.heap.size, 2, none⟩ = some (.slice A3 l.lo.length c3) ∧ W'.cell? ⟨w.heap.size, 3, none⟩ = some (.slice A4 l.ord.length c4)) w12.drew := ⟨q0, q1, q2, q3⟩
 have HBOX := Lib.hid hS1
 iterate 2 (refine wpH rfl rfl ?_; try simp only [Act.put, g1, g2, g3, g4, g5, g6])
 refine wpAnyH_one (i := 2) (by kernel_rfl) rfl (fun K hK => ?_)
 simp only [g4, g5, g6]
 go_simp
 go_at_call 25
 refine hss.mono ?_
 rintro e w13 ⟨rfl, qz, hw13⟩
 have hb13 : Below w12.heap.size w12 w13 := by rw [hw13]; exact below_drewN (below_drew (Below.refl _ _)) qz
 have ASw13 := Lib.hid (HS12.out.next hb13 HT.out HBW.out.1)
 have FZw13 : Hid (Fr w12 w13 (· = T)) := Lib.hid (.of_below hb13)
 have hSw13 : (fun W' : World => W'.cell? ⟨w.heap.size, 0, none⟩ = some (.slice A1 l.cls.length c1) ∧ W'.cell? ⟨w.heap.size, 1, none⟩ = some (.slice A2 l.up.length c2) ∧ W'.cell? ⟨w.heap.size, 2, none⟩ = some (.slice A3 l.lo.length c3) ∧ W'.cell? ⟨w.heap.size, 3, none⟩ = some (.slice A4 l.ord.length c4)) w13 := ⟨ASw13.out.row.cell (i := 0) rfl, ASw13.out.row.cell (i := 1) rfl, ASw13.out.row.cell (i := 2) rfl, ASw13.out.row.cell (i := 3) rfl⟩
 have hal : (alikeL l.ord [c]).length ≤ maxLen := by
  unfold alikeL maxLen
  split
  ·split
   ·simp
   ·rw [List.length_map]; have := placesL_len l.ord (by assumption : Elm).same; omega
  ·simp
 clear hw13 hb13
 clear hss q0 q1 q2 q3
 refine hK.out _ _ hSw13 (fun _ => ?_)
 try simp only [Act.put, g1, g2, g3, g4, g5, g6]
 iterate 3 (refine wpH rfl rfl ?_; try simp only [Act.put, g1, g2, g3, g4, g5, g6])
 refine wpHn 8 rfl ?_; try simp only [Act.put, g1, g2, g3, g4, g5, g6]
 refine wpHn 9 rfl ?_; try simp only [Act.put, g1, g2, g3, g4, g5, g6]
 refine wpAnyH_two (i := 6) (j := 10) (by kernel_rfl) rfl rfl (fun K hK => ?_) (fun K hK => ?_)
 ·simp only [g4, g5, g6]
  go_simp
  obtain ⟨wa, hwwa⟩ : ∃ wa, wa = w13.alloc (.cells #[.int .i32 c] 23) := ⟨_, rfl⟩
  have hbwa : Below w13.heap.size w13 wa := by rw [hwwa]; exact (Below.refl _ _).alloc (Nat.le_refl _) _
  have RI1wa : Hid (RI .i32 wa (w13.heap.size + 1) (some ⟨w13.heap.size, 0, none⟩) 1 [c] ∧ T < w13.heap.size ∧ w13.heap.size + 1 ≤ wa.heap.size) := Lib.hid ⟨by rw [hwwa]; exact ri_one w13 c, ASw13.out.tab.lt, by rw [hwwa]; simp⟩
  have ASwa := Lib.hid (ASw13.out.next hbwa HT.out HBW.out.1)
  have FZwa := Lib.hid (FZw13.out.trans (.of_below hbwa))
  have hSwa : (fun W' : World => W'.cell? ⟨w.heap.size, 0, none⟩ = some (.slice A1 l.cls.length c1) ∧ W'.cell? ⟨w.heap.size, 1, none⟩ = some (.slice A2 l.up.length c2) ∧ W'.cell? ⟨w.heap.size, 2, none⟩ = some (.slice A3 l.lo.length c3) ∧ W'.cell? ⟨w.heap.size, 3, none⟩ = some (.slice A4 l.ord.length c4)) wa := ⟨ASwa.out.row.cell (i := 0) rfl, ASwa.out.row.cell (i := 1) rfl, ASwa.out.row.cell (i := 2) rfl, ASwa.out.row.cell (i := 3) rfl⟩
  rw [show (w13.alloc (.cells #[.int .i32 c] 23)) = wa from hwwa.symm]
  clear hwwa
  clear hbwa
  refine hK.out _ _ hSwa (fun _ => ?_)
  try simp only [Act.put, g1, g2, g3, g4, g5, g6]
  have halk := alike_any wa T l 6 (w13.heap.size + 1) (some ⟨w13.heap.size, 0, none⟩) 1 1 [c] ASwa.out.tab (by omega) (by omega) HR.out RI1wa.out.1 (by omega) RI1wa.out.2.2 (by rintro _ ad h; injection h with h; subst h; have := RI1wa.out.2.1; simp only; omega) (HG.out.next ASwa.out.b).1 HGT.out
  refine wpAnyH_two (i := 7) (j := 10) (by kernel_rfl) rfl rfl (fun K hK => ?_) (fun K hK => ?_)
  ·simp only [g4, g5, g6]
   go_simp
   go_at_call 23
   refine halk.mono ?_
   rintro e wb ⟨v, rfl, hrow, ht, hf⟩
   obtain ⟨Ap, cp, rfl, _⟩ := hrow.reads
   have ASwb := Lib.hid (ASwa.out.fr hf ht HT.out HBW.out.1)
   have FZwb := Lib.hid (FZwa.out.trans hf)
   have hSwb : (fun W' : World => W'.cell? ⟨w.heap.size, 0, none⟩ = some (.slice A1 l.cls.length c1) ∧ W'.cell? ⟨w.heap.size, 1, none⟩ = some (.slice A2 l.up.length c2) ∧ W'.cell? ⟨w.heap.size, 2, none⟩ = some (.slice A3 l.lo.length c3) ∧ W'.cell? ⟨w.heap.size, 3, none⟩ = some (.slice A4 l.ord.length c4)) wb := ⟨ASwb.out.row.cell (i := 0) rfl, ASwb.out.row.cell (i := 1) rfl, ASwb.out.row.cell (i := 2) rfl, ASwb.out.row.cell (i := 3) rfl⟩
   have HPwb := Lib.hid hrow
   have RI1wb : Hid (RI .i32 wb (w13.heap.size + 1) (some ⟨w13.heap.size, 0, none⟩) 1 [c] ∧ T < w13.heap.size ∧ w13.heap.size + 1 ≤ wb.heap.size) := Lib.hid ⟨RI1wa.out.1.fr hf RI1wa.out.2.2 (by rintro _ ad h; injection h with h; subst h; have := RI1wa.out.2.1; simp only; omega), RI1wa.out.2.1, Nat.le_trans RI1wa.out.2.2 hf.size⟩
   clear halk hrow ht hf
   refine hK.out _ _ hSwb (fun _ => ?_)
   try simp only [Act.put, g1, g2, g3, g4, g5, g6]
   refine wpAnyH_one (i := 10) (by kernel_rfl) rfl (fun K hK => ?_)
   simp only [g4, g5, g6]
   go_simp
   obtain ⟨wc, hwwc⟩ : ∃ wc, wc = wb.alloc (.cells #[.int .i32 c] 23) := ⟨_, rfl⟩
   have hbwc : Below wb.heap.size wb wc := by rw [hwwc]; exact (Below.refl _ _).alloc (Nat.le_refl _) _
   have RI2wc : Hid (RI .i32 wc (wb.heap.size + 1) (some ⟨wb.heap.size, 0, none⟩) 1 [c] ∧ T < wb.heap.size ∧ wb.heap.size + 1 ≤ wc.heap.size) := Lib.hid ⟨by rw [hwwc]; exact ri_one wb c, ASwb.out.tab.lt, by rw [hwwc]; simp⟩
   have ASwc := Lib.hid (ASwb.out.next hbwc HT.out HBW.out.1)
   have FZwc := Lib.hid (FZwb.out.trans (.of_below hbwc))
   have hSwc : (fun W' : World => W'.cell? ⟨w.heap.size, 0, none⟩ = some (.slice A1 l.cls.length c1) ∧ W'.cell? ⟨w.heap.size, 1, none⟩ = some (.slice A2 l.up.length c2) ∧ W'.cell? ⟨w.heap.size, 2, none⟩ = some (.slice A3 l.lo.length c3) ∧ W'.cell? ⟨w.heap.size, 3, none⟩ = some (.slice A4 l.ord.length c4)) wc := ⟨ASwc.out.row.cell (i := 0) rfl, ASwc.out.row.cell (i := 1) rfl, ASwc.out.row.cell (i := 2) rfl, ASwc.out.row.cell (i := 3) rfl⟩
   have RI1wc : Hid (RI .i32 wc (w13.heap.size + 1) (some ⟨w13.heap.size, 0, none⟩) 1 [c] ∧ T < w13.heap.size ∧ w13.heap.size + 1 ≤ wc.heap.size) := Lib.hid ⟨RI1wb.out.1.on hbwc RI1wb.out.2.2, RI1wb.out.2.1, Nat.le_trans RI1wb.out.2.2 hbwc.size⟩
   rw [show (wb.alloc (.cells #[.int .i32 c] 23)) = wc from hwwc.symm]
   clear hwwc
   have HPwc := Lib.hid (HPwb.out.next hbwc)
   clear hbwc
   refine hK.out _ _ hSwc (fun _ => ?_)
   try simp only [Act.put, g1, g2, g3, g4, g5, g6]
   have halx := alike08_any wc B (wb.heap.size + 1) _ _ _ _ l (some ⟨wb.heap.size, 0, none⟩) 1 1 [c] ASwc.out.loc (by have := HBW.out; have := ASwc.out.b.size; omega) h500 RI2wc.out.1 RI2wc.out.2.2 (by decide)
   refine wpAnyH_one (i := 11) (by kernel_rfl) rfl (fun K hK => ?_)
   simp only [g4, g5, g6]
   go_simp
   go_at_call 53
   refine halx.mono ?_
   rintro e wy ⟨hbwy, Ay, cy, rfl, hry⟩
   have ASwy := Lib.hid (ASwc.out.next hbwy HT.out HBW.out.1)
   have FZwy := Lib.hid (FZwc.out.trans (.of_below hbwy))
   have hSwy : (fun W' : World => W'.cell? ⟨w.heap.size, 0, none⟩ = some (.slice A1 l.cls.length c1) ∧ W'.cell? ⟨w.heap.size, 1, none⟩ = some (.slice A2 l.up.length c2) ∧ W'.cell? ⟨w.heap.size, 2, none⟩ = some (.slice A3 l.lo.length c3) ∧ W'.cell? ⟨w.heap.size, 3, none⟩ = some (.slice A4 l.ord.length c4)) wy := ⟨ASwy.out.row.cell (i := 0) rfl, ASwy.out.row.cell (i := 1) rfl, ASwy.out.row.cell (i := 2) rfl, ASwy.out.row.cell (i := 3) rfl⟩
   have hsm := same08_yes wy _ _ Ap Ay cp cy (alikeL l.ord [c]) (HPwc.out.next hbwy).readsR hry hal
   clear halx hry
   clear hbwy
   refine hK.out _ _ hSwy (fun _ => ?_)
   try simp only [Act.put, g1, g2, g3, g4, g5, g6]
   refine wpAnyH_one (i := 12) (by kernel_rfl) rfl (fun K hK => ?_)
   simp only [g4, g5, g6]
   go_simp
   go_at_call 25
   refine hsm.mono ?_
   rintro e wz ⟨rfl, qy, hwz⟩
   have hbwz : Below wy.heap.size wy wz := by rw [hwz]; exact below_drewN (Below.refl _ _) qy
   have ASwz := Lib.hid (ASwy.out.next hbwz HT.out HBW.out.1)
   have FZwz := Lib.hid (FZwy.out.trans (.of_below hbwz))
   have hSwz : (fun W' : World => W'.cell? ⟨w.heap.size, 0, none⟩ = some (.slice A1 l.cls.length c1) ∧ W'.cell? ⟨w.heap.size, 1, none⟩ = some (.slice A2 l.up.length c2) ∧ W'.cell? ⟨w.heap.size, 2, none⟩ = some (.slice A3 l.lo.length c3) ∧ W'.cell? ⟨w.heap.size, 3, none⟩ = some (.slice A4 l.ord.length c4)) wz := ⟨ASwz.out.row.cell (i := 0) rfl, ASwz.out.row.cell (i := 1) rfl, ASwz.out.row.cell (i := 2) rfl, ASwz.out.row.cell (i := 3) rfl⟩
   clear hsm hwz
   clear hbwz
   refine hK.out _ _ hSwz (fun _ => ?_)
   try simp only [Act.put, g1, g2, g3, g4, g5, g6]
   iterate 2 (refine wpH rfl rfl ?_; try simp only [Act.put, g1, g2, g3, g4, g5, g6])
   refine wpAnyH_done (by kernel_rfl) ?_ _
   exact HK _ _ _ _ _ _ _ _ _ _ _ _ _ _ wz ASwz FZwz
  ·clear halk
   simp only [g4, g5, g6]
   go_simp
   obtain ⟨wb, hwwb⟩ : ∃ wb, wb = wa.alloc (.cells #[.int .i32 c] 23) := ⟨_, rfl⟩
   have hbwb : Below wa.heap.size wa wb := by rw [hwwb]; exact (Below.refl _ _).alloc (Nat.le_refl _) _
   have RI2wb : Hid (RI .i32 wb (wa.heap.size + 1) (some ⟨wa.heap.size, 0, none⟩) 1 [c] ∧ T < wa.heap.size ∧ wa.heap.size + 1 ≤ wb.heap.size) := Lib.hid ⟨by rw [hwwb]; exact ri_one wa c, ASwa.out.tab.lt, by rw [hwwb]; simp⟩
   have ASwb := Lib.hid (ASwa.out.next hbwb HT.out HBW.out.1)
   have FZwb := Lib.hid (FZwa.out.trans (.of_below hbwb))
   have hSwb : (fun W' : World => W'.cell? ⟨w.heap.size, 0, none⟩ = some (.slice A1 l.cls.length c1) ∧ W'.cell? ⟨w.heap.size, 1, none⟩ = some (.slice A2 l.up.length c2) ∧ W'.cell? ⟨w.heap.size, 2, none⟩ = some (.slice A3 l.lo.length c3) ∧ W'.cell? ⟨w.heap.size, 3, none⟩ = some (.slice A4 l.ord.length c4)) wb := ⟨ASwb.out.row.cell (i := 0) rfl, ASwb.out.row.cell (i := 1) rfl, ASwb.out.row.cell (i := 2) rfl, ASwb.out.row.cell (i := 3) rfl⟩
   have RI1wb : Hid (RI .i32 wb (w13.heap.size + 1) (some ⟨w13.heap.size, 0, none⟩) 1 [c] ∧ T < w13.heap.size ∧ w13.heap.size + 1 ≤ wb.heap.size) := Lib.hid ⟨RI1wa.out.1.on hbwb RI1wa.out.2.2, RI1wa.out.2.1, Nat.le_trans RI1wa.out.2.2 hbwb.size⟩
   rw [show (wa.alloc (.cells #[.int .i32 c] 23)) = wb from hwwb.symm]
   clear hwwb
   clear hbwb
   refine hK.out _ _ hSwb (fun _ => ?_)
   try simp only [Act.put, g1, g2, g3, g4, g5, g6]
   have halk := alike_any wb T l 6 (w13.heap.size + 1) (some ⟨w13.heap.size, 0, none⟩) 1 1 [c] ASwb.out.tab (by omega) (by omega) HR.out RI1wb.out.1 (by omega) RI1wb.out.2.2 (by rintro _ ad h; injection h with h; subst h; have := RI1wb.out.2.1; simp only; omega) (HG.out.next ASwb.out.b).1 HGT.out
   refine wpAnyH_one (i := 7) (by kernel_rfl) rfl (fun K hK => ?_)
   simp only [g4, g5, g6]
   go_simp
   go_at_call 23
   refine halk.mono ?_
   rintro e wc ⟨v, rfl, hrow, ht, hf⟩
   obtain ⟨Ap, cp, rfl, _⟩ := hrow.reads
   have ASwc := Lib.hid (ASwb.out.fr hf ht HT.out HBW.out.1)
   have FZwc := Lib.hid (FZwb.out.trans hf)
   have hSwc : (fun W' : World => W'.cell? ⟨w.heap.size, 0, none⟩ = some (.slice A1 l.cls.length c1) ∧ W'.cell? ⟨w.heap.size, 1, none⟩ = some (.slice A2 l.up.length c2) ∧ W'.cell? ⟨w.heap.size, 2, none⟩ = some (.slice A3 l.lo.length c3) ∧ W'.cell? ⟨w.heap.size, 3, none⟩ = some (.slice A4 l.ord.length c4)) wc := ⟨ASwc.out.row.cell (i := 0) rfl, ASwc.out.row.cell (i := 1) rfl, ASwc.out.row.cell (i := 2) rfl, ASwc.out.row.cell (i := 3) rfl⟩
   have HPwc := Lib.hid hrow
   have RI1wc : Hid (RI .i32 wc (w13.heap.size + 1) (some ⟨w13.heap.size, 0, none⟩) 1 [c] ∧ T < w13.heap.size ∧ w13.heap.size + 1 ≤ wc.heap.size) := Lib.hid ⟨RI1wb.out.1.fr hf RI1wb.out.2.2 (by rintro _ ad h; injection h with h; subst h; have := RI1wb.out.2.1; simp only; omega), RI1wb.out.2.1, Nat.le_trans RI1wb.out.2.2 hf.size⟩
   have RI2wc : Hid (RI .i32 wc (wa.heap.size + 1) (some ⟨wa.heap.size, 0, none⟩) 1 [c] ∧ T < wa.heap.size ∧ wa.heap.size + 1 ≤ wc.heap.size) := Lib.hid ⟨RI2wb.out.1.fr hf RI2wb.out.2.2 (by rintro _ ad h; injection h with h; subst h; have := RI2wb.out.2.1; simp only; omega), RI2wb.out.2.1, Nat.le_trans RI2wb.out.2.2 hf.size⟩
   clear halk hrow ht hf
   refine hK.out _ _ hSwc (fun _ => ?_)
   try simp only [Act.put, g1, g2, g3, g4, g5, g6]
   have halx := alike08_any wc B (wa.heap.size + 1) _ _ _ _ l (some ⟨wa.heap.size, 0, none⟩) 1 1 [c] ASwc.out.loc (by have := HBW.out; have := ASwc.out.b.size; omega) h500 RI2wc.out.1 RI2wc.out.2.2 (by decide)
   refine wpAnyH_one (i := 11) (by kernel_rfl) rfl (fun K hK => ?_)
   simp only [g4, g5, g6]
   go_simp
   go_at_call 53
   refine halx.mono ?_
   rintro e wy ⟨hbwy, Ay, cy, rfl, hry⟩
   have ASwy := Lib.hid (ASwc.out.next hbwy HT.out HBW.out.1)
   have FZwy := Lib.hid (FZwc.out.trans (.of_below hbwy))
   have hSwy : (fun W' : World => W'.cell? ⟨w.heap.size, 0, none⟩ = some (.slice A1 l.cls.length c1) ∧ W'.cell? ⟨w.heap.size, 1, none⟩ = some (.slice A2 l.up.length c2) ∧ W'.cell? ⟨w.heap.size, 2, none⟩ = some (.slice A3 l.lo.length c3) ∧ W'.cell? ⟨w.heap.size, 3, none⟩ = some (.slice A4 l.ord.length c4)) wy := ⟨ASwy.out.row.cell (i := 0) rfl, ASwy.out.row.cell (i := 1) rfl, ASwy.out.row.cell (i := 2) rfl, ASwy.out.row.cell (i := 3) rfl⟩
   have hsm := same08_yes wy _ _ Ap Ay cp cy (alikeL l.ord [c]) (HPwc.out.next hbwy).readsR hry hal
   clear halx hry
   clear hbwy
   refine hK.out _ _ hSwy (fun _ => ?_)
   try simp only [Act.put, g1, g2, g3, g4, g5, g6]
   refine wpAnyH_one (i := 12) (by kernel_rfl) rfl (fun K hK => ?_)
   simp only [g4, g5, g6]
   go_simp
   go_at_call 25
   refine hsm.mono ?_
   rintro e wz ⟨rfl, qy, hwz⟩
   have hbwz : Below wy.heap.size wy wz := by rw [hwz]; exact below_drewN (Below.refl _ _) qy
   have ASwz := Lib.hid (ASwy.out.next hbwz HT.out HBW.out.1)
   have FZwz := Lib.hid (FZwy.out.trans (.of_below hbwz))
   have hSwz : (fun W' : World => W'.cell? ⟨w.heap.size, 0, none⟩ = some (.slice A1 l.cls.length c1) ∧ W'.cell? ⟨w.heap.size, 1, none⟩ = some (.slice A2 l.up.length c2) ∧ W'.cell? ⟨w.heap.size, 2, none⟩ = some (.slice A3 l.lo.length c3) ∧ W'.cell? ⟨w.heap.size, 3, none⟩ = some (.slice A4 l.ord.length c4)) wz := ⟨ASwz.out.row.cell (i := 0) rfl, ASwz.out.row.cell (i := 1) rfl, ASwz.out.row.cell (i := 2) rfl, ASwz.out.row.cell (i := 3) rfl⟩
   clear hsm hwz
   clear hbwz
   refine hK.out _ _ hSwz (fun _ => ?_)
   try simp only [Act.put, g1, g2, g3, g4, g5, g6]
   iterate 2 (refine wpH rfl rfl ?_; try simp only [Act.put, g1, g2, g3, g4, g5, g6])
   refine wpAnyH_done (by kernel_rfl) ?_ _
   exact HK _ _ _ _ _ _ _ _ _ _ _ _ _ _ wz ASwz FZwz
 ·simp only [g4, g5, g6]
  go_simp
  obtain ⟨wa, hwwa⟩ : ∃ wa, wa = w13.alloc (.cells #[.int .i32 c] 23) := ⟨_, rfl⟩
  have hbwa : Below w13.heap.size w13 wa := by rw [hwwa]; exact (Below.refl _ _).alloc (Nat.le_refl _) _
  have RI2wa : Hid (RI .i32 wa (w13.heap.size + 1) (some ⟨w13.heap.size, 0, none⟩) 1 [c] ∧ T < w13.heap.size ∧ w13.heap.size + 1 ≤ wa.heap.size) := Lib.hid ⟨by rw [hwwa]; exact ri_one w13 c, ASw13.out.tab.lt, by rw [hwwa]; simp⟩
  have ASwa := Lib.hid (ASw13.out.next hbwa HT.out HBW.out.1)
  have FZwa := Lib.hid (FZw13.out.trans (.of_below hbwa))
  have hSwa : (fun W' : World => W'.cell? ⟨w.heap.size, 0, none⟩ = some (.slice A1 l.cls.length c1) ∧ W'.cell? ⟨w.heap.size, 1, none⟩ = some (.slice A2 l.up.length c2) ∧ W'.cell? ⟨w.heap.size, 2, none⟩ = some (.slice A3 l.lo.length c3) ∧ W'.cell? ⟨w.heap.size, 3, none⟩ = some (.slice A4 l.ord.length c4)) wa := ⟨ASwa.out.row.cell (i := 0) rfl, ASwa.out.row.cell (i := 1) rfl, ASwa.out.row.cell (i := 2) rfl, ASwa.out.row.cell (i := 3) rfl⟩
  rw [show (w13.alloc (.cells #[.int .i32 c] 23)) = wa from hwwa.symm]
  clear hwwa
  clear hbwa
  refine hK.out _ _ hSwa (fun _ => ?_)
  try simp only [Act.put, g1, g2, g3, g4, g5, g6]
  refine wpAnyH_one (i := 6) (by kernel_rfl) rfl (fun K hK => ?_)
  simp only [g4, g5, g6]
  go_simp
  obtain ⟨wb, hwwb⟩ : ∃ wb, wb = wa.alloc (.cells #[.int .i32 c] 23) := ⟨_, rfl⟩
  have hbwb : Below wa.heap.size wa wb := by rw [hwwb]; exact (Below.refl _ _).alloc (Nat.le_refl _) _
  have RI1wb : Hid (RI .i32 wb (wa.heap.size + 1) (some ⟨wa.heap.size, 0, none⟩) 1 [c] ∧ T < wa.heap.size ∧ wa.heap.size + 1 ≤ wb.heap.size) := Lib.hid ⟨by rw [hwwb]; exact ri_one wa c, ASwa.out.tab.lt, by rw [hwwb]; simp⟩
  have ASwb := Lib.hid (ASwa.out.next hbwb HT.out HBW.out.1)
  have FZwb := Lib.hid (FZwa.out.trans (.of_below hbwb))
  have hSwb : (fun W' : World => W'.cell? ⟨w.heap.size, 0, none⟩ = some (.slice A1 l.cls.length c1) ∧ W'.cell? ⟨w.heap.size, 1, none⟩ = some (.slice A2 l.up.length c2) ∧ W'.cell? ⟨w.heap.size, 2, none⟩ = some (.slice A3 l.lo.length c3) ∧ W'.cell? ⟨w.heap.size, 3, none⟩ = some (.slice A4 l.ord.length c4)) wb := ⟨ASwb.out.row.cell (i := 0) rfl, ASwb.out.row.cell (i := 1) rfl, ASwb.out.row.cell (i := 2) rfl, ASwb.out.row.cell (i := 3) rfl⟩
  have RI2wb : Hid (RI .i32 wb (w13.heap.size + 1) (some ⟨w13.heap.size, 0, none⟩) 1 [c] ∧ T < w13.heap.size ∧ w13.heap.size + 1 ≤ wb.heap.size) := Lib.hid ⟨RI2wa.out.1.on hbwb RI2wa.out.2.2, RI2wa.out.2.1, Nat.le_trans RI2wa.out.2.2 hbwb.size⟩
  rw [show (wa.alloc (.cells #[.int .i32 c] 23)) = wb from hwwb.symm]
  clear hwwb
  clear hbwb
  refine hK.out _ _ hSwb (fun _ => ?_)
  try simp only [Act.put, g1, g2, g3, g4, g5, g6]
  have halk := alike_any wb T l 6 (wa.heap.size + 1) (some ⟨wa.heap.size, 0, none⟩) 1 1 [c] ASwb.out.tab (by omega) (by omega) HR.out RI1wb.out.1 (by omega) RI1wb.out.2.2 (by rintro _ ad h; injection h with h; subst h; have := RI1wb.out.2.1; simp only; omega) (HG.out.next ASwb.out.b).1 HGT.out
  refine wpAnyH_one (i := 7) (by kernel_rfl) rfl (fun K hK => ?_)
  simp only [g4, g5, g6]
  go_simp
  go_at_call 23
  refine halk.mono ?_
  rintro e wc ⟨v, rfl, hrow, ht, hf⟩
  obtain ⟨Ap, cp, rfl, _⟩ := hrow.reads
  have ASwc := Lib.hid (ASwb.out.fr hf ht HT.out HBW.out.1)
  have FZwc := Lib.hid (FZwb.out.trans hf)
  have hSwc : (fun W' : World => W'.cell? ⟨w.heap.size, 0, none⟩ = some (.slice A1 l.cls.length c1) ∧ W'.cell? ⟨w.heap.size, 1, none⟩ = some (.slice A2 l.up.length c2) ∧ W'.cell? ⟨w.heap.size, 2, none⟩ = some (.slice A3 l.lo.length c3) ∧ W'.cell? ⟨w.heap.size, 3, none⟩ = some (.slice A4 l.ord.length c4)) wc := ⟨ASwc.out.row.cell (i := 0) rfl, ASwc.out.row.cell (i := 1) rfl, ASwc.out.row.cell (i := 2) rfl, ASwc.out.row.cell (i := 3) rfl⟩
  have HPwc := Lib.hid hrow
  have RI1wc : Hid (RI .i32 wc (wa.heap.size + 1) (some ⟨wa.heap.size, 0, none⟩) 1 [c] ∧ T < wa.heap.size ∧ wa.heap.size + 1 ≤ wc.heap.size) := Lib.hid ⟨RI1wb.out.1.fr hf RI1wb.out.2.2 (by rintro _ ad h; injection h with h; subst h; have := RI1wb.out.2.1; simp only; omega), RI1wb.out.2.1, Nat.le_trans RI1wb.out.2.2 hf.size⟩
  have RI2wc : Hid (RI .i32 wc (w13.heap.size + 1) (some ⟨w13.heap.size, 0, none⟩) 1 [c] ∧ T < w13.heap.size ∧ w13.heap.size + 1 ≤ wc.heap.size) := Lib.hid ⟨RI2wb.out.1.fr hf RI2wb.out.2.2 (by rintro _ ad h; injection h with h; subst h; have := RI2wb.out.2.1; simp only; omega), RI2wb.out.2.1, Nat.le_trans RI2wb.out.2.2 hf.size⟩
  clear halk hrow ht hf
  refine hK.out _ _ hSwc (fun _ => ?_)
  try simp only [Act.put, g1, g2, g3, g4, g5, g6]
  have halx := alike08_any wc B (w13.heap.size + 1) _ _ _ _ l (some ⟨w13.heap.size, 0, none⟩) 1 1 [c] ASwc.out.loc (by have := HBW.out; have := ASwc.out.b.size; omega) h500 RI2wc.out.1 RI2wc.out.2.2 (by decide)
  refine wpAnyH_one (i := 11) (by kernel_rfl) rfl (fun K hK => ?_)
  simp only [g4, g5, g6]
  go_simp
  go_at_call 53
  refine halx.mono ?_
  rintro e wy ⟨hbwy, Ay, cy, rfl, hry⟩
  have ASwy := Lib.hid (ASwc.out.next hbwy HT.out HBW.out.1)
  have FZwy := Lib.hid (FZwc.out.trans (.of_below hbwy))
  have hSwy : (fun W' : World => W'.cell? ⟨w.heap.size, 0, none⟩ = some (.slice A1 l.cls.length c1) ∧ W'.cell? ⟨w.heap.size, 1, none⟩ = some (.slice A2 l.up.length c2) ∧ W'.cell? ⟨w.heap.size, 2, none⟩ = some (.slice A3 l.lo.length c3) ∧ W'.cell? ⟨w.heap.size, 3, none⟩ = some (.slice A4 l.ord.length c4)) wy := ⟨ASwy.out.row.cell (i := 0) rfl, ASwy.out.row.cell (i := 1) rfl, ASwy.out.row.cell (i := 2) rfl, ASwy.out.row.cell (i := 3) rfl⟩
  have hsm := same08_yes wy _ _ Ap Ay cp cy (alikeL l.ord [c]) (HPwc.out.next hbwy).readsR hry hal
  clear halx hry
  clear hbwy
  refine hK.out _ _ hSwy (fun _ => ?_)
  try simp only [Act.put, g1, g2, g3, g4, g5, g6]
  refine wpAnyH_one (i := 12) (by kernel_rfl) rfl (fun K hK => ?_)
  simp only [g4, g5, g6]
  go_simp
  go_at_call 25
  refine hsm.mono ?_
  rintro e wz ⟨rfl, qy, hwz⟩
  have hbwz : Below wy.heap.size wy wz := by rw [hwz]; exact below_drewN (Below.refl _ _) qy
  have ASwz := Lib.hid (ASwy.out.next hbwz HT.out HBW.out.1)
  have FZwz := Lib.hid (FZwy.out.trans (.of_below hbwz))
  have hSwz : (fun W' : World => W'.cell? ⟨w.heap.size, 0, none⟩ = some (.slice A1 l.cls.length c1) ∧ W'.cell? ⟨w.heap.size, 1, none⟩ = some (.slice A2 l.up.length c2) ∧ W'.cell? ⟨w.heap.size, 2, none⟩ = some (.slice A3 l.lo.length c3) ∧ W'.cell? ⟨w.heap.size, 3, none⟩ = some (.slice A4 l.ord.length c4)) wz := ⟨ASwz.out.row.cell (i := 0) rfl, ASwz.out.row.cell (i := 1) rfl, ASwz.out.row.cell (i := 2) rfl, ASwz.out.row.cell (i := 3) rfl⟩
  clear hsm hwz
  clear hbwz
  refine hK.out _ _ hSwz (fun _ => ?_)
  try simp only [Act.put, g1, g2, g3, g4, g5, g6]
  iterate 2 (refine wpH rfl rfl ?_; try simp only [Act.put, g1, g2, g3, g4, g5, g6])
  refine wpAnyH_done (by kernel_rfl) ?_ _
  exact HK _ _ _ _ _ _ _ _ _ _ _ _ _ _ wz ASwz FZwz
end Go.Proofs.YtknjhlbhbnldpaaGreatDoor.C
