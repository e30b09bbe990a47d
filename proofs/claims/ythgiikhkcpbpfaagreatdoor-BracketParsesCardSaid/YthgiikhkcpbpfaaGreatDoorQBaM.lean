/-
  The contract of Parse: the plain reader's answer; a set in new memory. Condition: no more cells than 100000, a right locale with no more than 1000 ranges a class, a table that was not asked too often; what is asked of the listed variables.
-/
import Derived.Test.YthgiikhkcpbpfaaGreatDoorQBaL
namespace Go.Proofs.YthgiikhkcpbpfaaGreatDoor.C
open Go.RowKit

def BSetAt (w : World) (lo : Nat) (v : Value) (s : BSet) : Prop := ∃ vR vT, v = .agg #[.bool s.no, vR, vT] ∧ w.ownsRow lo 46 2 vR s.rs.length (prsC s.rs) ∧ RowsAt w lo vT s.ts
def BrkTold (w : World) (T : Nat) (L : Loc) (m : Nat) (r : BSet × Nat × Nat × Nat) (e : Ending) (w' : World) : Prop :=
 ∃ v, e = .returned (.tuple #[v, .int .i64 r.2.1, .int .u16 r.2.2.1, .int .i64 r.2.2.2]) ∧ BSetAt w' w.heap.size v r.1 ∧ TabU T w' T L m ∧ Fr w w' (· = T)
theorem TabU.base {F : Nat} {w : World} {T m : Nat} {L : Loc} (h : TabU F w T L m) : TabU T w T L m := by obtain ⟨n, a, b, c⟩ := h; exact ⟨n, a, b, c.base⟩
theorem TabU.frK {F : Nat} {w w' : World} {T m : Nat} {L : Loc} {X : Nat → Prop} (h : TabU F w T L m) (hf : Fr w w' X) (hX : Odd F w T X) : TabU F w' T L m := by obtain ⟨n, a, b, c⟩ := h; exact ⟨n, a, b, c.frK hf hX⟩
def BrkZ (w : World) (b : Nat) (v0 v1 v2 : Value) : Prop := w.heap[b]? = some (.cells #[v0, v1, v2] 34 (0, 0))
theorem BrkZ.cells {w : World} {b : Nat} {v0 v1 v2 : Value} (h : BrkZ w b v0 v1 v2) : w.cell? ⟨b, 0, none⟩ = some v0 ∧ w.cell? ⟨b, 1, none⟩ = some v1 ∧ w.cell? ⟨b, 2, none⟩ = some v2 := by
 simp [World.cell?, show w.heap[b]? = _ from h]
theorem BrkZ.frozen {w : World} {b : Nat} {v0 v1 v2 : Value} (h : BrkZ w b v0 v1 v2) (i : Nat) : w.frozen? ⟨b, i, none⟩ = false := by simp [World.frozen?, show w.heap[b]? = _ from h]
theorem BrkZ.lt {w : World} {b : Nat} {v0 v1 v2 : Value} (h : BrkZ w b v0 v1 v2) : b < w.heap.size := (Array.getElem?_eq_some_iff.1 h).1
def brkW (w : World) (Al : Option Addr) (n c k T : Nat) : World := (((w.alloc (.cells #[.bool false, .slice none 0 0, .slice none 0 0] 34)).alloc (.cells #[.int .u16 0] 36)).alloc (.cells #[.int .i64 0] 3)).alloc (.cells (rdRow Al n c k false (.slice none 0 0) (.slice none 0 0) T).toArray 60)
theorem brkW_below (w : World) (Al : Option Addr) (n c k T : Nat) : Below w.heap.size w (brkW w Al n c k T) := ((((Below.refl _ _).alloc (Nat.le_refl _) _).alloc (by simp) _).alloc (by simp; omega) _).alloc (by simp; omega) _
theorem brkW_new (w : World) (Al : Option Addr) (n c k T : Nat) : BrkZ (brkW w Al n c k T) w.heap.size (.bool false) (.slice none 0 0) (.slice none 0 0) ∧ One (brkW w Al n c k T) (w.heap.size + 1) 36 (.int .u16 0) ∧ One (brkW w Al n c k T) (w.heap.size + 1 + 1) 3 (.int .i64 0) ∧ Row (brkW w Al n c k T) (w.heap.size + 1 + 1 + 1) 60 (rdRow Al n c k false (.slice none 0 0) (.slice none 0 0) T) := by
 unfold brkW
 refine ⟨?_, ?_, ?_, ?_⟩
 ·unfold BrkZ
  rw [heap_lt _ _ (by simp; omega), heap_lt _ _ (by simp; omega), heap_lt _ _ (by simp), heap_new]
 ·unfold One
  rw [heap_lt _ _ (by simp), heap_lt _ _ (by simp)]
  have := heap_new (w.alloc (.cells #[.bool false, .slice none 0 0, .slice none 0 0] 34)) (.cells #[.int .u16 0] 36)
  simpa using this
 ·unfold One
  rw [heap_lt _ _ (by simp)]
  have := heap_new ((w.alloc (.cells #[.bool false, .slice none 0 0, .slice none 0 0] 34)).alloc (.cells #[.int .u16 0] 36)) (.cells #[.int .i64 0] 3)
  simpa using this
 ·unfold Row
  have := heap_new (((w.alloc (.cells #[.bool false, .slice none 0 0, .slice none 0 0] 34)).alloc (.cells #[.int .u16 0] 36)).alloc (.cells #[.int .i64 0] 3)) (.cells (rdRow Al n c k false (.slice none 0 0) (.slice none 0 0) T).toArray 60)
  simpa using this
theorem brkW_rd (w : World) (T m B : Nat) (L : Loc) (Al : Option Addr) (c k : Nat) (l : List Int) (hk : k ≤ l.length) (hc : l.length ≤ c) (hl : RI .i32 w B Al l.length l) (hB : B ≤ w.heap.size) (hT : 0 < l.length → ∀ ad, Al = some ad → ad.block ≠ T) (ht : TabU T w T L m) (hg : Gl w) (hgt : (5 : Nat) < T) :
  RdB (brkW w Al l.length c k T) ⟨w.heap.size + 1 + 1 + 1, T, Al, c, l, L, w.heap.size + 1 + 1⟩ m (fun _ _ => True) k ⟨false, [], []⟩ := by
 have hb := brkW_below w Al l.length c k T
 have htl := ht.lt
 exact ⟨⟨_, _, (brkW_new w Al l.length c k T).2.2.2, World.ownsRow_nil _ _ _ _, RowsAt.nil _ _, trivial⟩, hk, hc, (hl.on hb hB).more (by show B ≤ w.heap.size + 1 + 1 + 1; omega), hT, by show T < w.heap.size + 1 + 1 + 1; omega, by
  obtain ⟨n, a, b, cc⟩ := ht
  exact ⟨n, a, b, cc.free hb (by show w.heap.size ≤ w.heap.size + 1 + 1; omega) (by show w.heap.size + 1 + 1 < (brkW w Al l.length c k T).heap.size; unfold brkW; simp)⟩, hg.next hb, hgt⟩
def EOk (l : List Int) (er : BEr) : Prop := er.1 = 30 → er.2 = l.length
theorem namedB_e {L : Loc} {l : List Int} {b k : Nat} {x : Int} {er : BEr} (h : namedB L l b k x = .error er) : EOk l er := by
 unfold namedB at h
 cases hu : upToL l k x with
 | error e =>
  rw [hu] at h
  injection h with h
  subst h
  rw [upToL_err hu]
  exact fun _ => rfl
 | ok p =>
  rw [hu] at h
  simp only at h
  split at h
  ·injection h with h; subst h; exact fun _ => rfl
  ·split at h
   ·cases h
   ·split at h
    ·injection h with h; subst h; exact fun h => absurd h (by simp)
    ·cases h
theorem elemB10_e {L : Loc} {l : List Int} {k : Nat} {er : BEr} (h : elemB10 L l k = .error er) : EOk l er := by
 unfold elemB10 at h
 split at h
 ·exact namedB_e h
 ·split at h
  ·injection h with h; subst h; exact fun _ => rfl
  ·cases h
theorem betwB_e {L : Loc} {s : BSet} {a b : List Int} {p : Nat} {l : List Int} {er : BEr} (h : betwB L s a b p = .error er) : EOk l er := by
 unfold betwB at h
 split at h
 ·split at h
  ·injection h with h; subst h; exact fun h => absurd h (by simp)
  ·cases h
 ·split at h
  ·injection h with h; subst h; exact fun h => absurd h (by simp)
  ·cases h
theorem itemB_e {L : Loc} {l : List Int} {s : BSet} {k : Nat} {er : BEr} (h : itemB L l s k = .error er) : EOk l er := by
 cases h1 : atS l k [91, 58] with
 | true =>
  rw [item_class h1] at h
  unfold classB at h
  cases hu : upToL l (k + 2) 58 with
  | error e =>
   rw [hu] at h
   injection h with h
   subst h
   rw [upToL_err hu]
   exact fun _ => rfl
  | ok p =>
   rw [hu] at h
   simp only at h
   cases hr : rangesL L.cls (textL p.1) with
   | none => rw [hr] at h; injection h with h; subst h; exact fun h => absurd h (by simp)
   | some rs => rw [hr] at h; cases h
 | false =>
  cases h2 : atS l k [91, 61] with
  | true =>
   rw [item_alike h1 h2] at h
   cases hu : namedB L l k (k + 2) 61 with
   | error e => rw [hu] at h; injection h with h; subst h; exact namedB_e hu
   | ok p => rw [hu] at h; cases h
  | false =>
   rw [item_elems h1 h2] at h
   unfold elemsB at h
   cases hu : elemB10 L l k with
   | error e => rw [hu] at h; injection h with h; subst h; exact elemB10_e hu
   | ok p =>
    rw [hu] at h
    simp only at h
    split at h
    ·cases hv : elemB10 L l (p.2 + 1) with
     | error e => rw [hv] at h; injection h with h; subst h; exact elemB10_e hv
     | ok x =>
      rw [hv] at h
      simp only at h
      cases hw : betwB L s p.1 x.1 p.2 with
      | error e => rw [hw] at h; injection h with h; subst h; exact betwB_e hw
      | ok s2 => rw [hw] at h; cases h
    ·cases h
theorem itemsB_e {L : Loc} {l : List Int} : ∀ (f : Nat) (s : BSet) (k : Nat) (er : BEr), itemsB L l f s k = .error er → EOk l er
 | 0, _, _, _, h => by
  unfold itemsB at h
  injection h with h; subst h; exact fun _ => rfl
 | f + 1, s, k, er, h => by
  unfold itemsB at h
  split at h
  ·cases h
  ·cases hu : itemB L l s k with
   | error e => rw [hu] at h; injection h with h; subst h; exact itemB_e hu
   | ok p => rw [hu] at h; exact itemsB_e f _ _ er h
theorem readB_e {L : Loc} {l : List Int} {k : Nat} {er : BEr} (h : readB L l k = .error er) : EOk l er := by
 unfold readB at h
 simp only at h
 cases hu : itemB L l ⟨atS l k [94], [], []⟩ (if atS l k [94] = true then k + 1 else k) with
 | error e => rw [hu] at h; injection h with h; subst h; exact itemB_e hu
 | ok p =>
  rw [hu] at h
  simp only at h
  cases hv : itemsB L l (l.length + 1 - p.2) p.1 p.2 with
  | error e => rw [hv] at h; injection h with h; subst h; exact itemsB_e _ _ _ _ hv
  | ok x => rw [hv] at h; cases h
set_option maxRecDepth 100000 in
set_option maxHeartbeats 2000000 in
theorem parseB_any (w : World) (T m B : Nat) (L : Loc) (Al : Option Addr) (c : Nat) (l : List Int) (at_ : Int) (hc : l.length ≤ c) (hl : RI .i32 w B Al l.length l) (hB : B ≤ w.heap.size) (hT : 0 < l.length → ∀ ad, Al = some ad → ad.block ≠ T) (ht : TabU T w T L m) (hg : Gl w) (hgt : (5 : Nat) < T)
  (hn : l.length ≤ 100000) (hR : rightL L = true) (hcl : ∀ k ∈ L.cls, k.rs.length ≤ 1000) (hm : m ≤ 100000000) :
  Calls Tryz.prog 9 #[.slice Al l.length c, .int .i64 at_, .pointer (some ⟨T, 0, none⟩)] w (BrkTold w T L (m + 8 * (l.length + 1)) (brkL L l at_)) := by
 have hmf : ∀ (fn : Fn) (first cap : Array Value) (w : World), (Instr.makeFunc fn first cap).run Tryz.prog w = .ok (.func fn first cap) w := fun _ _ _ _ => rfl
 obtain ⟨k0, hk0⟩ : ∃ k0, k0 = min at_.toNat l.length := ⟨_, rfl⟩
 have hrd := readB_any _ _ m _ k0 (brkW_rd w T m B L Al c k0 l (by omega) hc hl hB hT ht hg hgt) ⟨by show l.length ≤ 1000000; omega, hR, hcl, by show m + 8 * (l.length + 1) ≤ 1000000000; omega⟩ hn
 have HN := Lib.hid (brkW_new w Al l.length c k0 T)
 have HB0 := Lib.hid (brkW_below w Al l.length c k0 T)
 have HV : Hid (brkL L l at_ = match readB L l k0 with | .error e => (⟨false, [], []⟩, 0, e.1, e.2) | .ok (s, k) => (s, k, 0, 0)) := Lib.hid (by unfold brkL; rw [← hk0]; rfl)
 have HK : Hid (min (max at_ 0) (l.length : Int) = (k0 : Int)) := Lib.hid (by omega)
 have htl := ht.lt
 obtain ⟨n, hnl⟩ : ∃ n, n = l.length := ⟨_, rfl⟩
 rw [← hnl] at hrd HN HB0 HK ⊢
 have HNL := Lib.hid hnl
 have HT : Hid (T < w.heap.size) := Lib.hid htl
 obtain ⟨S, hS⟩ : ∃ S, S = w.heap.size := ⟨_, rfl⟩
 obtain ⟨E, hE⟩ : ∃ E, E = S + 1 := ⟨_, rfl⟩
 obtain ⟨F, hF⟩ : ∃ F, F = S + 1 + 1 := ⟨_, rfl⟩
 obtain ⟨R, hR'⟩ : ∃ R, R = S + 1 + 1 + 1 := ⟨_, rfl⟩
 rw [← hS, ← hR', ← hF] at hrd
 rw [← hS, ← hR', ← hF, ← hE] at HN
 have HSZ : Hid (S = w.heap.size ∧ E = S + 1 ∧ F = S + 1 + 1 ∧ R = S + 1 + 1 + 1) := Lib.hid ⟨hS, hE, hF, hR'⟩
 have hES : E ≠ S := by omega
 have hFS : F ≠ S := by omega
 have hEF : E ≠ F := by omega
 clear hk0 hl hT ht hg hcl hR hc hnl htl
 go_enter_defers Tryz.func9, Tryz.ntmps9
 clear hS hE hF hR'
 go_wp2_with fail
 rw [HK.out, show w.heap.size + 1 + 1 + 1 = R by have := HSZ.out; omega, show w.heap.size + 1 + 1 = F by have := HSZ.out; omega, show w.heap.size + 1 = E by have := HSZ.out; omega, show w.heap.size = S by have := HSZ.out; omega]
 change Calls _ _ _ (brkW w Al n c k0 T) _
 cases hu : readB L l k0 with
 | error er =>
  have he := readB_e hu
  rw [hu] at hrd
  have HV1 : Hid (brkL L l at_ = (⟨false, [], []⟩, 0, er.1, er.2)) := Lib.hid (by rw [HV.out, hu])
  have HEO : Hid (er.1 = 30 → er.2 = n) := Lib.hid (fun h => by rw [HNL.out]; exact he h)
  clear hu he
  unfold BOut at hrd
  simp only at hrd
  refine hrd.mono ?_
  rintro e w4 ⟨rfl, hb⟩
  rw [panB_is]
  obtain ⟨n0, n1, n2, _⟩ := HN.out
  have hkeep : ∀ j, j < R → j ≠ T → j < (brkW w Al n c k0 T).heap.size → w4.heap[j]? = (brkW w Al n c k0 T).heap[j]? := fun j h1 h2 h3 => hb.fr.block j h3 (by rintro (h | h); exact h2 h; exact absurd h (by show ¬ R ≤ j; omega))
  have m0 : BrkZ w4 S _ _ _ := (hkeep S (by have := HSZ.out; omega) (by have := HSZ.out; have := HT.out; omega) n0.lt).trans n0
  have m1 : One w4 E _ _ := (hkeep E (by have := HSZ.out; omega) (by have := HSZ.out; have := HT.out; omega) n1.lt).trans n1
  have m2 : One w4 F _ _ := (hkeep F (by have := HSZ.out; omega) (by have := HSZ.out; have := HT.out; omega) n2.lt).trans n2
  have HM := Lib.hid (And.intro m0 (And.intro m1 m2))
  have hcell : w4.cell? ⟨R, 0, none⟩ = some (.slice Al n c) := by have := hb.cell; rw [← HNL.out] at this; exact this
  have hcatch := bcatch_of w4 R E F [] er Al n c hcell HEO.out m1 m2 hEF
  have HFR : Hid (Fr w w4 (fun j => j = T ∨ S ≤ j)) := Lib.hid ((Fr.of_below HB0.out).trans (hb.fr.mono fun j _ h => h.imp id fun h => by have := HSZ.out; have h : R ≤ j := h; omega))
  have HTU : Hid (TabU F w4 T L (m + 8 * (n + 1))) := Lib.hid hb.tab
  clear hrd hb hkeep m0 m1 m2 n0 n1 n2 hcell
  go_wp2
  refine leaves_cons (f := 18) (args := #[.pointer (some ⟨R, 0, none⟩), .pointer (some ⟨E, 0, none⟩), .pointer (some ⟨F, 0, none⟩)]) (by simp) (by simp [go_sem]) ?_
  refine hcatch.mono ?_
  rintro e u' w5 ⟨rfl, rfl, w6, hb6, rfl⟩
  obtain ⟨m0, m1, m2⟩ := HM.out
  have g0 : BrkZ w6 S _ _ _ := (hb6.block _ m0.lt).trans m0
  have g1 : One w6 E _ _ := (hb6.block _ m1.lt).trans m1
  have g2 : One w6 F _ _ := (hb6.block _ m2.lt).trans m2
  obtain ⟨W7, hW7⟩ : ∃ W7, W7 = (w6.setCell ⟨E, 0, none⟩ (.int .u16 er.1)).setCell ⟨F, 0, none⟩ (.int .i64 er.2) := ⟨_, rfl⟩
  have y1 : One W7 E 36 (.int .u16 er.1) := by rw [hW7]; exact (g1.set_ _).far (p := ⟨F, 0, none⟩) hEF _
  have y2 : One W7 F 3 (.int .i64 er.2) := by rw [hW7]; exact (g2.far (p := ⟨E, 0, none⟩) hEF.symm _).set_ _
  have y0 : BrkZ W7 S (.bool false) (.slice none 0 0) (.slice none 0 0) := by rw [hW7]; exact (Below.heap_setCell _ ⟨F, 0, none⟩ _ S hFS.symm).trans ((Below.heap_setCell _ ⟨E, 0, none⟩ _ S hES.symm).trans g0)
  have hf67 : Fr w6 W7 (fun j => j = E ∨ j = F) := by rw [hW7]; exact ((Fr.refl w6 _).set ⟨E, 0, none⟩ _ (fun _ => .inl rfl)).set ⟨F, 0, none⟩ _ (fun _ => .inr rfl)
  have ht7 : TabU T W7 T L (m + 8 * (n + 1)) := ((HTU.out.keep hb6).frK hf67 (by
   rintro j (rfl | rfl) _
   ·exact ⟨by have := HSZ.out; have := HT.out; omega, _, _, _, g1, .inl (by decide)⟩
   ·exact ⟨by have := HSZ.out; have := HT.out; omega, _, _, _, g2, .inr rfl⟩)).base
  have hf7 : Fr w W7 (· = T) := ((HFR.out.trans (.of_below hb6)).trans (hf67.mono fun j _ h => .inr (by have := HSZ.out; omega))).mono fun j hj h => by have := HSZ.out; omega
  obtain ⟨z0, z1, z2⟩ := y0.cells
  have z4 := y1.cell
  have z5 := y2.cell
  have hfin : BrkTold w T L (m + 8 * (n + 1)) (brkL L l at_) (.returned (.tuple #[.agg #[.bool false, .slice none 0 0, .slice none 0 0], .int .i64 0, .int .u16 er.1, .int .i64 er.2])) W7 := ⟨_, by rw [HV1.out]; rfl, by rw [HV1.out]; exact ⟨_, _, rfl, World.ownsRow_nil _ _ _ _, RowsAt.nil _ _⟩, ht7, hf7⟩
  rw [← hW7]
  simp [Leaves, settle, results, Tryz.results9, go_sem, z0, z1, z2, z4, z5]
  exact hfin
 | ok p =>
  obtain ⟨s, k⟩ := p
  rw [hu] at hrd
  have HV1 : Hid (brkL L l at_ = (s, k, 0, 0)) := Lib.hid (by rw [HV.out, hu])
  clear hu
  unfold BOut at hrd
  simp only at hrd
  refine hrd.mono ?_
  rintro e w4 ⟨rfl, h4, hf4⟩
  obtain ⟨n0, n1, n2, _⟩ := HN.out
  have hkeep : ∀ j, j < R → j ≠ T → j < (brkW w Al n c k0 T).heap.size → w4.heap[j]? = (brkW w Al n c k0 T).heap[j]? := fun j h1 h2 h3 => hf4.block j h3 (by rintro (h | h); exact h2 h; exact absurd h (by show ¬ R ≤ j; omega))
  have m0 : BrkZ w4 S _ _ _ := (hkeep S (by have := HSZ.out; omega) (by have := HSZ.out; have := HT.out; omega) n0.lt).trans n0
  have m1 : One w4 E _ _ := (hkeep E (by have := HSZ.out; omega) (by have := HSZ.out; have := HT.out; omega) n1.lt).trans n1
  have m2 : One w4 F _ _ := (hkeep F (by have := HSZ.out; omega) (by have := HSZ.out; have := HT.out; omega) n2.lt).trans n2
  have HFR : Hid (Fr w w4 (fun j => j = T ∨ S ≤ j)) := Lib.hid ((Fr.of_below HB0.out).trans (hf4.mono fun j _ h => h.imp id fun h => by have := HSZ.out; have h : R ≤ j := h; omega))
  obtain ⟨vR, vT, hx, -⟩ := h4.open_
  obtain ⟨AR, cR, hvR⟩ := row_form hx.r
  subst hvR
  obtain ⟨AT, cT, hvT⟩ : ∃ AT cT, vT = .slice AT s.ts.length cT := by obtain ⟨_, _, a, _⟩ := hx.t; exact row_form a
  subst hvT
  have HX := Lib.hid hx
  have HTU : Hid (TabU F w4 T L (m + 8 * (n + 1))) := Lib.hid h4.tab
  have hRS : R ≠ S := by have := HSZ.out; omega
  have hRE : R ≠ E := by have := HSZ.out; omega
  have hRF : R ≠ F := by have := HSZ.out; omega
  obtain ⟨W2, hW2⟩ : ∃ W2, W2 = w4 := ⟨_, rfl⟩
  have HM := Lib.hid (And.intro m0 (And.intro m1 m2))
  have hrow := hx.row
  clear hrd h4 hf4 hkeep m0 m1 m2 n0 n1 n2 hx hW2
  have hS2 : (fun W : World => W.cell? ⟨R, 1, none⟩ = some (.int .i64 (k : Int)) ∧ W.cell? ⟨R, 2, none⟩ = some (.bool s.no) ∧ W.cell? ⟨R, 3, none⟩ = some (.slice AR s.rs.length cR) ∧ W.cell? ⟨R, 4, none⟩ = some (.slice AT s.ts.length cT)) w4.drew := ⟨hrow.cell rfl, hrow.cell rfl, hrow.cell rfl, hrow.cell rfl⟩
  have HROW := Lib.hid hrow
  clear hrow
  obtain ⟨z0, z1, z2⟩ := HM.out.1.cells
  have y0 := HM.out.1.frozen 0
  have y1 := HM.out.1.frozen 1
  have y2 := HM.out.1.frozen 2
  go_wp2
  refine wp_region_noPanic ?_
  refine wp_region_held (S := fun W : World => W.cell? ⟨R, 1, none⟩ = some (.int .i64 (k : Int)) ∧ W.cell? ⟨R, 2, none⟩ = some (.bool s.no) ∧ W.cell? ⟨R, 3, none⟩ = some (.slice AR s.rs.length cR) ∧ W.cell? ⟨R, 4, none⟩ = some (.slice AT s.ts.length cT)) (by kernel_rfl) ?_
  change wpAnyH _ _ _ _ _ _ _ _ w4.drew
  iterate 5 (refine wpH rfl rfl ?_; try simp only [Act.put, g1, g2, g3, g4, g5, g6])
  refine wpAnyH_one (i := 5) (by kernel_rfl) rfl (fun K hK => ?_)
  simp only [g4, g5, g6]
  go_simp
  obtain ⟨W3, hW3⟩ : ∃ W3, W3 = (((w4.setCell ⟨S, 0, none⟩ (.bool s.no)).setCell ⟨S, 1, none⟩ (.slice AR s.rs.length cR)).setCell ⟨S, 2, none⟩ (.slice AT s.ts.length cT)).drew := ⟨_, rfl⟩
  rw [← hW3]
  have hf3 : Fr w4 W3 (· = S) := by rw [hW3]; exact ((((Fr.refl w4 (· = S)).set ⟨S, 0, none⟩ _ (fun _ => rfl)).set ⟨S, 1, none⟩ _ (fun _ => rfl)).set ⟨S, 2, none⟩ _ (fun _ => rfl)).drew
  have hz3 : BrkZ W3 S (.bool s.no) (.slice AR s.rs.length cR) (.slice AT s.ts.length cT) := by
   rw [hW3]
   exact set_row (i := 2) (l := [_, _, _]) (set_row (i := 1) (l := [_, _, _]) (set_row (i := 0) (l := [_, _, _]) HM.out.1 (.bool s.no)) (.slice AR s.rs.length cR)) (.slice AT s.ts.length cT)
  have HF3 := Lib.hid hf3
  have HZ3 := Lib.hid hz3
  have HR3 := Lib.hid (HROW.out.fr hf3 hRS)
  have HE3 : Hid (One W3 E 36 (.int .u16 0)) := Lib.hid ((hf3.block E (Array.getElem?_eq_some_iff.1 HM.out.2.1).1 hES).trans HM.out.2.1)
  have HA3 : Hid (One W3 F 3 (.int .i64 0)) := Lib.hid ((hf3.block F (Array.getElem?_eq_some_iff.1 HM.out.2.2).1 hFS).trans HM.out.2.2)
  clear hW3 hf3 hz3 z0 z1 z2 y0 y1 y2 hS2
  have HSS : Hid (∀ W, Row W R 60 (rdRow Al l.length c k s.no (.slice AR s.rs.length cR) (.slice AT s.ts.length cT) T) → W.cell? ⟨R, 1, none⟩ = some (.int .i64 (k : Int)) ∧ W.cell? ⟨R, 2, none⟩ = some (.bool s.no) ∧ W.cell? ⟨R, 3, none⟩ = some (.slice AR s.rs.length cR) ∧ W.cell? ⟨R, 4, none⟩ = some (.slice AT s.ts.length cT)) := Lib.hid fun W h => ⟨h.cell rfl, h.cell rfl, h.cell rfl, h.cell rfl⟩
  refine hK.out _ _ (HSS.out _ HR3.out) (fun hS3 => ?_)
  clear hK hS3
  try simp only [Act.put, g1, g2, g3, g4, g5, g6]
  refine wpAnyH_one (i := 6) (by kernel_rfl) rfl (fun K hK => ?_)
  simp only [g4, g5, g6]
  go_simp
  refine hK.out _ _ (HSS.out _ HR3.out) (fun hS3 => ?_)
  clear hK hS3
  try simp only [Act.put, g1, g2, g3, g4, g5, g6]
  refine wpAnyH_one (i := 7) (by kernel_rfl) rfl (fun K hK => ?_)
  simp only [g4, g5, g6]
  have x0 := HE3.out.cell
  have x1 := HE3.out.frozen 0
  go_simp
  obtain ⟨W4, hW4⟩ : ∃ W4, W4 = W3.setCell ⟨E, 0, none⟩ (.int .u16 0) := ⟨_, rfl⟩
  rw [← hW4]
  have hf4 : Fr W3 W4 (· = E) := by rw [hW4]; exact (Fr.refl W3 (· = E)).set ⟨E, 0, none⟩ _ (fun _ => rfl)
  have HF4 := Lib.hid hf4
  have HR4 := Lib.hid (HR3.out.fr hf4 hRE)
  have HE4 : Hid (One W4 E 36 (.int .u16 0)) := Lib.hid (by rw [hW4]; exact HE3.out.set_ _)
  have HA4 : Hid (One W4 F 3 (.int .i64 0)) := Lib.hid ((hf4.block F (Array.getElem?_eq_some_iff.1 HA3.out).1 hEF.symm).trans HA3.out)
  have HZ4 : Hid (BrkZ W4 S (.bool s.no) (.slice AR s.rs.length cR) (.slice AT s.ts.length cT)) := Lib.hid ((hf4.block S HZ3.out.lt hES.symm).trans HZ3.out)
  clear hW4 hf4 x0 x1
  refine hK.out _ _ (HSS.out _ HR4.out) (fun hS3 => ?_)
  clear hK hS3
  try simp only [Act.put, g1, g2, g3, g4, g5, g6]
  refine wpAnyH_one (i := 8) (by kernel_rfl) rfl (fun K hK => ?_)
  simp only [g4, g5, g6]
  have x0 := HA4.out.cell
  have x1 := HA4.out.frozen 0
  go_simp
  obtain ⟨W5, hW5⟩ : ∃ W5, W5 = W4.setCell ⟨F, 0, none⟩ (.int .i64 0) := ⟨_, rfl⟩
  rw [← hW5]
  have hf5 : Fr W4 W5 (· = F) := by rw [hW5]; exact (Fr.refl W4 (· = F)).set ⟨F, 0, none⟩ _ (fun _ => rfl)
  have HF5 := Lib.hid hf5
  have HR5 := Lib.hid (HR4.out.fr hf5 hRF)
  have HE5 : Hid (One W5 E 36 (.int .u16 0)) := Lib.hid ((hf5.block E (Array.getElem?_eq_some_iff.1 HE4.out).1 hEF).trans HE4.out)
  have HA5 : Hid (One W5 F 3 (.int .i64 0)) := Lib.hid (by rw [hW5]; exact HA4.out.set_ _)
  have HZ5 : Hid (BrkZ W5 S (.bool s.no) (.slice AR s.rs.length cR) (.slice AT s.ts.length cT)) := Lib.hid ((hf5.block S HZ4.out.lt hFS.symm).trans HZ4.out)
  clear hW5 hf5 x0 x1
  refine hK.out _ _ (HSS.out _ HR5.out) (fun hS3 => ?_)
  clear hK hS3
  try simp only [Act.put, g1, g2, g3, g4, g5, g6]
  refine wpAnyH_done (by kernel_rfl) (NoPanic.normal ?_) _
  have hf45 : Fr w4 W5 (fun j => j = S ∨ j = E ∨ j = F) := ((HF3.out.mono fun _ _ h => .inl h).trans (HF4.out.mono fun _ _ h => .inr (.inl h))).trans (HF5.out.mono fun _ _ h => .inr (.inr h))
  have ht5 : TabU T W5 T L (m + 8 * (n + 1)) := (HTU.out.frK hf45 (by
   rintro j (rfl | rfl | rfl) _
   ·exact ⟨by have := HSZ.out; have := HT.out; omega, _, _, _, HM.out.1, .inl (by decide)⟩
   ·exact ⟨by have := HSZ.out; have := HT.out; omega, _, _, _, HM.out.2.1, .inl (by decide)⟩
   ·exact ⟨by have := HSZ.out; have := HT.out; omega, _, _, _, HM.out.2.2, .inr rfl⟩)).base
  have hfw : Fr w W5 (· = T) := (HFR.out.trans (hf45.mono fun j _ h => .inr (by have := HSZ.out; omega))).mono fun j hj h => by have := HSZ.out; omega
  have hlo : ∀ g, R + 1 ≤ g → ¬ (g = S ∨ g = E ∨ g = F) := fun g hg h => by have := HSZ.out; omega
  have hset : BSetAt W5 w.heap.size (.agg #[.bool s.no, .slice AR s.rs.length cR, .slice AT s.ts.length cT]) s := ⟨_, _, rfl, own_low (ownsRow_fr HX.out.r hf45 fun g hg => hlo g (own_ge HX.out.r hg)) (by have := HSZ.out; show w.heap.size ≤ R + 1; omega), (HX.out.t.frX hf45 hlo).low (by have := HSZ.out; show w.heap.size ≤ R + 1; omega)⟩
  obtain ⟨z0, z1, z2⟩ := HZ5.out.cells
  have z4 := HE5.out.cell
  have z5 := HA5.out.cell
  have hfin : BrkTold w T L (m + 8 * (n + 1)) (brkL L l at_) (.returned (.tuple #[.agg #[.bool s.no, .slice AR s.rs.length cR, .slice AT s.ts.length cT], .int .i64 (k : Int), .int .u16 0, .int .i64 0])) W5 := ⟨_, by rw [HV1.out]; rfl, by rw [HV1.out]; exact hset, ht5, hfw⟩
  have HFIN := Lib.hid hfin
  clear hfin hset hfw ht5 hf45 hlo z0 z1 z2 z4 z5
  go_wp2
  refine leaves_cons (f := 18) (args := #[.pointer (some ⟨R, 0, none⟩), .pointer (some ⟨E, 0, none⟩), .pointer (some ⟨F, 0, none⟩)]) (by simp) (by simp [go_sem]) ?_
  refine (bcatch_idle _ _ _ _).mono ?_
  rintro e u' w5 ⟨rfl, rfl, rfl⟩
  obtain ⟨z0, z1, z2⟩ := HZ5.out.cells
  have z4 := HE5.out.cell
  have z5 := HA5.out.cell
  simp [Leaves, settle, results, Tryz.results9, go_sem, z0, z1, z2, z4, z5]
  exact HFIN.out
end Go.Proofs.YthgiikhkcpbpfaaGreatDoor.C
