/-
  Joined: MLxV, MLxX, MLxY. Each with what its own head says.
-/
import Derived.Test.YthaibekbefndlaaGreatDoorG03
import Derived.WalkMore
import Derived.Deep.LoopGhost
import Derived.Defers
import Derived.Recover

namespace Go.Proofs.YthaibekbefndlaaGreatDoor.C
open Go.RowKit

theorem pre_one (a : UInt8) (r : List UInt8) (c : UInt8) : Lib.hasPrefix (a :: r) [c] = decide (a = c) := by
  rw [hasPrefix_one]; simp
theorem pre_three (a : UInt8) (r : List UInt8) : Lib.hasPrefix (a :: r) [46, 46, 46] = decide (a = 46 ∧ r.take 2 = [46, 46]) := by
  rw [Bool.eq_iff_iff, decide_eq_true_iff]
  unfold Lib.hasPrefix
  rw [List.isPrefixOf_iff_prefix, List.cons_prefix_cons, List.prefix_iff_eq_take]
  constructor
  · rintro ⟨h1, h2⟩
    exact ⟨h1.symm, h2.symm⟩
  · rintro ⟨h1, h2⟩
    exact ⟨h1.symm, h2.symm⟩
theorem sign_case (a : UInt8) (r : List UInt8) : (∃ J, J < 5 ∧ signL (a :: r) = some (sgB J).data.toList ∧ (∀ i, i < J → i < 5 → Lib.hasPrefix (a :: r) (sgB i).data.toList = false) ∧ Lib.hasPrefix (a :: r) (sgB J).data.toList = true) ∨
    (signL (a :: r) = none ∧ ∀ i, i < 5 → i < 5 → Lib.hasPrefix (a :: r) (sgB i).data.toList = false) := by
  have h0 : Lib.hasPrefix (a :: r) (sgB 0).data.toList = decide (a = 59) := pre_one a r 59
  have h1 : Lib.hasPrefix (a :: r) (sgB 1).data.toList = decide (a = 44) := pre_one a r 44
  have h2 : Lib.hasPrefix (a :: r) (sgB 2).data.toList = decide (a = 40) := pre_one a r 40
  have h3 : Lib.hasPrefix (a :: r) (sgB 3).data.toList = decide (a = 41) := pre_one a r 41
  have h4 : Lib.hasPrefix (a :: r) (sgB 4).data.toList = decide (a = 46 ∧ r.take 2 = [46, 46]) := pre_three a r
  have all : ∀ n : Nat, n ≤ 5 → (∀ i, i < n → i < 5 → i = 0 ∨ i = 1 ∨ i = 2 ∨ i = 3 ∨ i = 4) := fun n hn i hi _ => by omega
  by_cases e0 : a = 59
  · subst e0
    exact .inl ⟨0, by omega, by rw [signL_cons, if_pos (by simp)]; rfl, fun i hi => by omega, by rw [h0]; simp⟩
  by_cases e1 : a = 44
  · subst e1
    refine .inl ⟨1, by omega, by rw [signL_cons, if_pos (by simp)]; rfl, fun i hi _ => ?_, by rw [h1]; simp⟩
    obtain rfl : i = 0 := by omega
    rw [h0]; simp
  by_cases e2 : a = 40
  · subst e2
    refine .inl ⟨2, by omega, by rw [signL_cons, if_pos (by simp)]; rfl, fun i hi _ => ?_, by rw [h2]; simp⟩
    rcases (by omega : i = 0 ∨ i = 1) with rfl | rfl
    · rw [h0]; simp
    · rw [h1]; simp
  by_cases e3 : a = 41
  · subst e3
    refine .inl ⟨3, by omega, by rw [signL_cons, if_pos (by simp)]; rfl, fun i hi _ => ?_, by rw [h3]; simp⟩
    rcases (by omega : i = 0 ∨ i = 1 ∨ i = 2) with rfl | rfl | rfl
    · rw [h0]; simp
    · rw [h1]; simp
    · rw [h2]; simp
  have n0 : decide (a = 59) = false := decide_eq_false e0
  have n1 : decide (a = 44) = false := decide_eq_false e1
  have n2 : decide (a = 40) = false := decide_eq_false e2
  have n3 : decide (a = 41) = false := decide_eq_false e3
  rw [n0] at h0
  rw [n1] at h1
  rw [n2] at h2
  rw [n3] at h3
  have hs : signL (a :: r) = if a = 46 ∧ r.take 2 = [46, 46] then some [46, 46, 46] else none := by rw [signL_cons, if_neg (by simp [e0, e1, e2, e3])]
  by_cases e4 : a = 46 ∧ r.take 2 = [46, 46]
  · refine .inl ⟨4, by omega, by rw [hs, if_pos e4]; rfl, fun i hi _ => ?_, by rw [h4]; exact decide_eq_true e4⟩
    rcases (by omega : i = 0 ∨ i = 1 ∨ i = 2 ∨ i = 3) with rfl | rfl | rfl | rfl <;> assumption
  · refine .inr ⟨by rw [hs, if_neg e4], fun i hi _ => ?_⟩
    rw [decide_eq_false e4] at h4
    rcases (by omega : i = 0 ∨ i = 1 ∨ i = 2 ∨ i = 3 ∨ i = 4) with rfl | rfl | rfl | rfl | rfl <;> assumption

def fns : Nat → Nat
  | 0 => 67
  | 1 => 68
  | 2 => 69
  | 3 => 70
  | 4 => 71
  | 5 => 72
  | 6 => 73
  | _ => 74
/-- asked at a place, a step takes nothing; it takes something; it finds what is no token -/
def StNo (R k : Nat) (s : ByteArray) (ts : List Tok) (i : Nat) : Prop := ∀ W, RD W R s k ts → Gl W → Calls Tryz.prog (fns i) #[.pointer (some ⟨R, 0, none⟩)] W (Stepped W R s false k ts)
def StYes (R k : Nat) (s : ByteArray) (ts : List Tok) (i k' : Nat) (ts' : List Tok) : Prop := ∀ W, RD W R s k ts → Gl W → Calls Tryz.prog (fns i) #[.pointer (some ⟨R, 0, none⟩)] W (Stepped W R s true k' ts')
def StBad (R k : Nat) (s : ByteArray) (ts : List Tok) : Prop := ∀ W, RD W R s k ts → Gl W → Calls Tryz.prog (fns 4) #[.pointer (some ⟨R, 0, none⟩)] W (Bad W R k)

theorem toNat_ne {a b : UInt8} (h : a ≠ b) : a.toNat ≠ b.toNat := fun e => h (UInt8.toNat_inj.1 e)
theorem steps_case (R k : Nat) (s : ByteArray) (ts : List Tok) (hk : k < s.size) (hs : s.size ≤ 4000) (hts : ts.length ≤ 4500) :
    (∃ J ts' m, J < 8 ∧ stepL (s.data.toList.drop k) k ts = some (ts', m) ∧ (∀ i, i < J → StNo R k s ts i) ∧ StYes R k s ts J (k + m) ts') ∨
    (stepL (s.data.toList.drop k) k ts = none ∧ (∀ i, i < 4 → StNo R k s ts i) ∧ StBad R k s ts) ∨
    (stepL (s.data.toList.drop k) k ts = none ∧ ∀ i, i < 8 → StNo R k s ts i) := by
  have hd := drop_ba hk
  obtain ⟨a, ha⟩ : ∃ a, s[k]'hk = a := ⟨_, rfl⟩
  obtain ⟨r, hr⟩ : ∃ r, s.data.toList.drop (k + 1) = r := ⟨_, rfl⟩
  rw [ha, hr] at hd
  have bl : blankL (s.data.toList.drop k) = if a = 32 ∨ a = 9 then 1 else if a = 37 then 1 + (r.takeWhile (· ≠ 10)).length else 0 := by rw [hd, blankL_cons]
  have n0 : a ≠ 32 → a ≠ 9 → StNo R k s ts 0 := fun h1 h2 W hW _ => blank_no W R k s ts hW hk hs (by rw [ha]; exact toNat_ne h1) (by rw [ha]; exact toNat_ne h2)
  have n1 : a ≠ 37 → StNo R k s ts 1 := fun h1 W hW _ => remark_no W R k s ts hW hk hs (by rw [ha]; exact toNat_ne h1)
  have n2 : a ≠ 10 → StNo R k s ts 2 := fun h1 W hW _ => lineEnd_no W R k s ts hW hk hs (by rw [ha]; exact toNat_ne h1)
  by_cases e0 : a = 32
  · refine .inl ⟨0, ts, 1, by omega, ?_, fun i hi => by omega, fun W hW _ => blank_32 W R k s ts hW hk hs (by rw [ha, e0]; rfl)⟩
    have bl1 : blankL (s.data.toList.drop k) = 1 := by rw [bl, if_pos (Or.inl e0)]
    unfold stepL
    rw [bl1, if_pos (by decide)]
  by_cases e1 : a = 9
  · refine .inl ⟨0, ts, 1, by omega, ?_, fun i hi => by omega, fun W hW _ => blank_9 W R k s ts hW hk hs (by rw [ha, e1]; rfl)⟩
    have bl1 : blankL (s.data.toList.drop k) = 1 := by rw [bl, if_pos (Or.inr e1)]
    unfold stepL
    rw [bl1, if_pos (by decide)]
  rw [if_neg (by simp [e0, e1])] at bl
  by_cases e2 : a = 37
  · refine .inl ⟨1, ts, ((s.data.toList.drop k).takeWhile (fun x : UInt8 => decide (x ≠ 10))).length, by omega, ?_, fun i hi => ?_, fun W hW _ => remark_yes W R k s ts hW hk hs (by rw [ha, e2]; rfl)⟩
    · have : ((s.data.toList.drop k).takeWhile (fun x : UInt8 => decide (x ≠ 10))).length = 1 + (r.takeWhile (fun x : UInt8 => decide (x ≠ 10))).length := by
        rw [hd, e2, List.takeWhile_cons, if_pos (by decide), List.length_cons]; omega
      rw [this]
      unfold stepL
      rw [bl, if_pos e2, if_pos (by omega)]
    · obtain rfl : i = 0 := by omega
      exact n0 e0 e1
  rw [if_neg e2] at bl
  have st : stepL (s.data.toList.drop k) k ts = if (s.data.toList.drop k).head? = some 10 then some (endL ts k, 1) else match tokL (s.data.toList.drop k) with
    | some (kd, t, n, m) => some (ts ++ [⟨kd, t, n, k⟩], m)
    | none => none := by
    unfold stepL
    rw [bl, if_neg (by simp)]
    rfl
  rw [st]
  by_cases e3 : a = 10
  · refine .inl ⟨2, endL ts k, 1, by omega, by rw [hd, if_pos (by rw [e3]; rfl)], fun i hi => ?_, fun W hW _ => lineEnd_yes W R k s ts hW hk hs (by omega) (by rw [ha, e3]; rfl)⟩
    rcases (by omega : i = 0 ∨ i = 1) with rfl | rfl
    · exact n0 e0 e1
    · exact n1 e2
  rw [if_neg (by rw [hd]; simp [e3])]
  have n012 : ∀ i, i < 3 → StNo R k s ts i := fun i hi => by
    rcases (by omega : i = 0 ∨ i = 1 ∨ i = 2) with rfl | rfl | rfl
    · exact n0 e0 e1
    · exact n1 e2
    · exact n2 e3
  rcases sign_case a r with ⟨J, hJ, hsg, hn, hy⟩ | ⟨hsg, hn⟩
  · rw [← hd] at hsg hn hy
    have tk : tokL (s.data.toList.drop k) = some (2, (sgB J).data.toList, 0, (sgB J).data.toList.length) := by unfold tokL; rw [hsg]
    rw [tk]
    refine .inl ⟨3, _, _, by omega, rfl, n012, fun W hW hG => ?_⟩
    have := ssign_any W R k s ts hW hG hk hs hts J (by omega) hn (fun _ => hy)
    refine this.mono fun e w' h => ?_
    unfold SignTold at h
    rw [if_pos hJ, ← size_list] at h
    exact h
  · rw [← hd] at hsg hn
    have n3 : StNo R k s ts 3 := fun W hW hG => by
      have := ssign_any W R k s ts hW hG hk hs hts 5 (by omega) hn (fun h => absurd h (by omega))
      refine this.mono fun e w' h => ?_
      unfold SignTold at h
      rw [if_neg (by omega)] at h
      exact h
    have n0123 : ∀ i, i < 4 → StNo R k s ts i := fun i hi => by
      rcases (by omega : i < 3 ∨ i = 3) with h | rfl
      · exact n012 i h
      · exact n3
    unfold tokL
    rw [hsg]
    simp only
    cases hnum : numL (nameL (s.data.toList.drop k)) with
    | some v =>
      simp only
      cases hv : rightN v with
      | true =>
        exact .inl ⟨4, _, _, by omega, rfl, n0123, fun W hW _ => sscalar_yes W R k s ts hW hk hs hts v hnum hv⟩
      | false =>
        exact .inr (.inl ⟨rfl, n0123, fun W hW _ => sscalar_bad W R k s ts hW hk hs hts v hnum hv⟩)
    | none =>
      simp only
      have n4 : StNo R k s ts 4 := fun W hW hG => sscalar_no W R k s ts hW hk hs hts hG hnum
      have n04 : ∀ i, i < 5 → StNo R k s ts i := fun i hi => by
        rcases (by omega : i < 4 ∨ i = 4) with h | rfl
        · exact n0123 i h
        · exact n4
      by_cases hnm : nameL (s.data.toList.drop k) = []
      · rw [if_neg (by simp [hnm])]
        have n05 : ∀ i, i < 6 → StNo R k s ts i := fun i hi => by
          rcases (by omega : i < 5 ∨ i = 5) with h | rfl
          · exact n04 i h
          · exact fun W hW _ => sname_no W R k s ts hW hk hs hts hnm
        have n06 : quoL (s.data.toList.drop k) = none → ∀ i, i < 7 → StNo R k s ts i := fun hq i hi => by
          rcases (by omega : i < 6 ∨ i = 6) with h | rfl
          · exact n05 i h
          · intro W hW _
            by_cases e34 : a = 34
            · rw [e34] at hd
              by_cases hlt : (r.takeWhile (· ≠ 34)).length < r.length
              · by_cases h10 : 10 ∈ r.takeWhile (· ≠ 34)
                · exact squoted_no3 W R k s ts hW hk hs hts r hd hlt h10
                · rw [hd, quoL_cons, if_pos ⟨rfl, hlt, h10⟩] at hq
                  cases hq
              · exact squoted_no2 W R k s ts hW hk hs hts r hd hlt
            · exact squoted_no1 W R k s ts hW hk hs hts (by rw [hd]; simp [e34])
        cases hq : quoL (s.data.toList.drop k) with
        | some t =>
          simp only
          have hq' := hq
          rw [hd, quoL_cons] at hq'
          by_cases hc : a = 34 ∧ (r.takeWhile (· ≠ 34)).length < r.length ∧ 10 ∉ r.takeWhile (· ≠ 34)
          · rw [if_pos hc] at hq'
            injection hq' with hq'
            subst hq'
            exact .inl ⟨6, _, _, by omega, rfl, n05, fun W hW _ => squoted_yes W R k s ts hW hk hs hts r (by rw [hd, hc.1]) hc.2.1 hc.2.2⟩
          · rw [if_neg hc] at hq'
            cases hq'
        | none =>
          simp only
          by_cases hw : wordL (s.data.toList.drop k) = []
          · rw [if_neg (by simp [hw])]
            refine .inr (.inr ⟨rfl, fun i hi => ?_⟩)
            rcases (by omega : i < 7 ∨ i = 7) with h | rfl
            · exact n06 hq i h
            · exact fun W hW _ => sword_no W R k s ts hW hk hs hts hw
          · rw [if_pos hw]
            exact .inl ⟨7, _, _, by omega, rfl, n06 hq, fun W hW _ => sword_yes W R k s ts hW hk hs hts hw⟩
      · rw [if_pos hnm]
        exact .inl ⟨5, _, _, by omega, rfl, n04, fun W hW _ => sname_yes W R k s ts hW hk hs hts hnm⟩
end Go.Proofs.YthaibekbefndlaaGreatDoor.C

namespace Go.Proofs.YthaibekbefndlaaGreatDoor.C
open Go.RowKit

/-- the steps, as a reader's read asks them -/
def arrV (R : Nat) : Array Value := #[.func (.func 67) #[.pointer (some ⟨R, 0, none⟩)] #[], .func (.func 68) #[.pointer (some ⟨R, 0, none⟩)] #[], .func (.func 69) #[.pointer (some ⟨R, 0, none⟩)] #[], .func (.func 70) #[.pointer (some ⟨R, 0, none⟩)] #[], .func (.func 71) #[.pointer (some ⟨R, 0, none⟩)] #[], .func (.func 72) #[.pointer (some ⟨R, 0, none⟩)] #[], .func (.func 73) #[.pointer (some ⟨R, 0, none⟩)] #[], .func (.func 74) #[.pointer (some ⟨R, 0, none⟩)] #[]]
def ArrAt (w : World) (S R : Nat) : Prop := w.heap[S]? = some (.cells (arrV R) 129 (0, 0))
theorem ArrAt.cells {w : World} {S R : Nat} (h : ArrAt w S R) : w.cell? ⟨S, 0, none⟩ = some (.func (.func 67) #[.pointer (some ⟨R, 0, none⟩)] #[]) ∧ w.cell? ⟨S, 1, none⟩ = some (.func (.func 68) #[.pointer (some ⟨R, 0, none⟩)] #[]) ∧ w.cell? ⟨S, 2, none⟩ = some (.func (.func 69) #[.pointer (some ⟨R, 0, none⟩)] #[]) ∧ w.cell? ⟨S, 3, none⟩ = some (.func (.func 70) #[.pointer (some ⟨R, 0, none⟩)] #[]) ∧ w.cell? ⟨S, 4, none⟩ = some (.func (.func 71) #[.pointer (some ⟨R, 0, none⟩)] #[]) ∧ w.cell? ⟨S, 5, none⟩ = some (.func (.func 72) #[.pointer (some ⟨R, 0, none⟩)] #[]) ∧ w.cell? ⟨S, 6, none⟩ = some (.func (.func 73) #[.pointer (some ⟨R, 0, none⟩)] #[]) ∧ w.cell? ⟨S, 7, none⟩ = some (.func (.func 74) #[.pointer (some ⟨R, 0, none⟩)] #[]) := by
  simp [World.cell?, show w.heap[S]? = _ from h, arrV]
theorem ArrAt.on {w w' : World} {S R R' : Nat} (h : ArrAt w S R) (hb : Bk R' w w') : ArrAt w' S R := hb.2 S _ _ _ h (by decide) (by decide)
theorem arr_ix0 (R : Nat) (W : World) : (Instr.index 129 (.agg #[.func (.func 67) #[.pointer (some ⟨R, 0, none⟩)] #[], .func (.func 68) #[.pointer (some ⟨R, 0, none⟩)] #[], .func (.func 69) #[.pointer (some ⟨R, 0, none⟩)] #[], .func (.func 70) #[.pointer (some ⟨R, 0, none⟩)] #[], .func (.func 71) #[.pointer (some ⟨R, 0, none⟩)] #[], .func (.func 72) #[.pointer (some ⟨R, 0, none⟩)] #[], .func (.func 73) #[.pointer (some ⟨R, 0, none⟩)] #[], .func (.func 74) #[.pointer (some ⟨R, 0, none⟩)] #[]]) (.int .i64 0)).run Tryz.prog W = .ok (.func (.func 67) #[.pointer (some ⟨R, 0, none⟩)] #[]) W := by kernel_rfl
theorem arr_ix1 (R : Nat) (W : World) : (Instr.index 129 (.agg #[.func (.func 67) #[.pointer (some ⟨R, 0, none⟩)] #[], .func (.func 68) #[.pointer (some ⟨R, 0, none⟩)] #[], .func (.func 69) #[.pointer (some ⟨R, 0, none⟩)] #[], .func (.func 70) #[.pointer (some ⟨R, 0, none⟩)] #[], .func (.func 71) #[.pointer (some ⟨R, 0, none⟩)] #[], .func (.func 72) #[.pointer (some ⟨R, 0, none⟩)] #[], .func (.func 73) #[.pointer (some ⟨R, 0, none⟩)] #[], .func (.func 74) #[.pointer (some ⟨R, 0, none⟩)] #[]]) (.int .i64 1)).run Tryz.prog W = .ok (.func (.func 68) #[.pointer (some ⟨R, 0, none⟩)] #[]) W := by kernel_rfl
theorem arr_ix2 (R : Nat) (W : World) : (Instr.index 129 (.agg #[.func (.func 67) #[.pointer (some ⟨R, 0, none⟩)] #[], .func (.func 68) #[.pointer (some ⟨R, 0, none⟩)] #[], .func (.func 69) #[.pointer (some ⟨R, 0, none⟩)] #[], .func (.func 70) #[.pointer (some ⟨R, 0, none⟩)] #[], .func (.func 71) #[.pointer (some ⟨R, 0, none⟩)] #[], .func (.func 72) #[.pointer (some ⟨R, 0, none⟩)] #[], .func (.func 73) #[.pointer (some ⟨R, 0, none⟩)] #[], .func (.func 74) #[.pointer (some ⟨R, 0, none⟩)] #[]]) (.int .i64 2)).run Tryz.prog W = .ok (.func (.func 69) #[.pointer (some ⟨R, 0, none⟩)] #[]) W := by kernel_rfl
theorem arr_ix3 (R : Nat) (W : World) : (Instr.index 129 (.agg #[.func (.func 67) #[.pointer (some ⟨R, 0, none⟩)] #[], .func (.func 68) #[.pointer (some ⟨R, 0, none⟩)] #[], .func (.func 69) #[.pointer (some ⟨R, 0, none⟩)] #[], .func (.func 70) #[.pointer (some ⟨R, 0, none⟩)] #[], .func (.func 71) #[.pointer (some ⟨R, 0, none⟩)] #[], .func (.func 72) #[.pointer (some ⟨R, 0, none⟩)] #[], .func (.func 73) #[.pointer (some ⟨R, 0, none⟩)] #[], .func (.func 74) #[.pointer (some ⟨R, 0, none⟩)] #[]]) (.int .i64 3)).run Tryz.prog W = .ok (.func (.func 70) #[.pointer (some ⟨R, 0, none⟩)] #[]) W := by kernel_rfl
theorem arr_ix4 (R : Nat) (W : World) : (Instr.index 129 (.agg #[.func (.func 67) #[.pointer (some ⟨R, 0, none⟩)] #[], .func (.func 68) #[.pointer (some ⟨R, 0, none⟩)] #[], .func (.func 69) #[.pointer (some ⟨R, 0, none⟩)] #[], .func (.func 70) #[.pointer (some ⟨R, 0, none⟩)] #[], .func (.func 71) #[.pointer (some ⟨R, 0, none⟩)] #[], .func (.func 72) #[.pointer (some ⟨R, 0, none⟩)] #[], .func (.func 73) #[.pointer (some ⟨R, 0, none⟩)] #[], .func (.func 74) #[.pointer (some ⟨R, 0, none⟩)] #[]]) (.int .i64 4)).run Tryz.prog W = .ok (.func (.func 71) #[.pointer (some ⟨R, 0, none⟩)] #[]) W := by kernel_rfl
theorem arr_ix5 (R : Nat) (W : World) : (Instr.index 129 (.agg #[.func (.func 67) #[.pointer (some ⟨R, 0, none⟩)] #[], .func (.func 68) #[.pointer (some ⟨R, 0, none⟩)] #[], .func (.func 69) #[.pointer (some ⟨R, 0, none⟩)] #[], .func (.func 70) #[.pointer (some ⟨R, 0, none⟩)] #[], .func (.func 71) #[.pointer (some ⟨R, 0, none⟩)] #[], .func (.func 72) #[.pointer (some ⟨R, 0, none⟩)] #[], .func (.func 73) #[.pointer (some ⟨R, 0, none⟩)] #[], .func (.func 74) #[.pointer (some ⟨R, 0, none⟩)] #[]]) (.int .i64 5)).run Tryz.prog W = .ok (.func (.func 72) #[.pointer (some ⟨R, 0, none⟩)] #[]) W := by kernel_rfl
theorem arr_ix6 (R : Nat) (W : World) : (Instr.index 129 (.agg #[.func (.func 67) #[.pointer (some ⟨R, 0, none⟩)] #[], .func (.func 68) #[.pointer (some ⟨R, 0, none⟩)] #[], .func (.func 69) #[.pointer (some ⟨R, 0, none⟩)] #[], .func (.func 70) #[.pointer (some ⟨R, 0, none⟩)] #[], .func (.func 71) #[.pointer (some ⟨R, 0, none⟩)] #[], .func (.func 72) #[.pointer (some ⟨R, 0, none⟩)] #[], .func (.func 73) #[.pointer (some ⟨R, 0, none⟩)] #[], .func (.func 74) #[.pointer (some ⟨R, 0, none⟩)] #[]]) (.int .i64 6)).run Tryz.prog W = .ok (.func (.func 73) #[.pointer (some ⟨R, 0, none⟩)] #[]) W := by kernel_rfl
theorem arr_ix7 (R : Nat) (W : World) : (Instr.index 129 (.agg #[.func (.func 67) #[.pointer (some ⟨R, 0, none⟩)] #[], .func (.func 68) #[.pointer (some ⟨R, 0, none⟩)] #[], .func (.func 69) #[.pointer (some ⟨R, 0, none⟩)] #[], .func (.func 70) #[.pointer (some ⟨R, 0, none⟩)] #[], .func (.func 71) #[.pointer (some ⟨R, 0, none⟩)] #[], .func (.func 72) #[.pointer (some ⟨R, 0, none⟩)] #[], .func (.func 73) #[.pointer (some ⟨R, 0, none⟩)] #[], .func (.func 74) #[.pointer (some ⟨R, 0, none⟩)] #[]]) (.int .i64 7)).run Tryz.prog W = .ok (.func (.func 74) #[.pointer (some ⟨R, 0, none⟩)] #[]) W := by kernel_rfl

theorem run_store_func {P : Program} (w : World) (a : Addr) (fn : Fn) (x y : Array Value) (hc : (w.cell? a).isSome = true) (hf : w.frozen? a = false) : (store a (.func fn x y)).run P w = .ok () (w.setCell a (.func fn x y)) := by
  obtain ⟨u, hu⟩ := Option.isSome_iff_exists.1 hc
  rw [run_store P w a _ _ rfl, hu]
  simp [hf]
/-- what is wrong with a text that is too long, or has too many tokens -/
def LongE (R : Nat) (w : World) (e : Ending) (w' : World) : Prop := e = .panicked [{ v := .iface 127 (.agg #[]), recovered := false }] ∧ Below R w w'
def ReadTold (R : Nat) (w : World) (s : ByteArray) : List Tok ⊕ Nat → Ending → World → Prop
  | .inl ts, e, w' => if 1000 < ts.length then LongE R w e w' else e = .returned (.tuple #[]) ∧ (∃ k, RD w' R s k ts) ∧ Bk R w w'
  | .inr at_, e, w' => Bad w R at_ e w'
theorem readTold_inl {R : Nat} {w : World} {s : ByteArray} {ts : List Tok} {e : Ending} {w' : World} : ReadTold R w s (.inl ts) e w' = if 1000 < ts.length then LongE R w e w' else e = .returned (.tuple #[]) ∧ (∃ k, RD w' R s k ts) ∧ Bk R w w' := rfl
theorem endL_len (ts : List Tok) (k : Nat) (h : ts.length ≤ 4999) : (endL ts k).length ≤ 5000 := by
  unfold endL
  split
  · omega
  · rw [List.length_append, List.length_cons, List.length_nil]; omega

set_option maxHeartbeats 1000000 in
theorem read_long (w : World) (R k : Nat) (s : ByteArray) (ts : List Tok) (h : RD w R s k ts) (hs : 4000 < s.size) :
    Calls Tryz.prog 35 #[.pointer (some ⟨R, 0, none⟩)] w (LongE R w) := by
  obtain ⟨_, v, hb, _⟩ := h
  obtain ⟨c0, _, _, _, _⟩ := rd_cells hb
  have hs' : (4000 : Int) < (s.size : Int) := by omega
  clear hb
  go_enter Tryz.func35, Tryz.ntmps35
  go_step3
  go_wp2
  exact ⟨rfl, rfl, Below.refl _ _⟩
theorem read_end {R : Nat} {w : World} {s : ByteArray} {l : List UInt8} {k : Nat} {ts : List Tok} {e : Ending} {w' : World} (h : runL l 0 [] = runL [] k ts) (hr : ReadTold R w s (.inl (endL ts k)) e w') : ReadTold R w s (runL l 0 []) e w' := by
  rw [h, runL_nil]
  exact hr
theorem read_bad {R : Nat} {w : World} {s : ByteArray} {l m : List UInt8} {k : Nat} {ts : List Tok} {e : Ending} {w' : World} (h : runL l 0 [] = runL m k ts) (h0 : m ≠ []) (hs : stepL m k ts = none) (hr : Bad w R k e w') : ReadTold R w s (runL l 0 []) e w' := by
  rw [h, runL_none h0 hs]
  exact hr

set_option maxRecDepth 100000 in
set_option maxHeartbeats 16000000 in
theorem read_any (w : World) (R : Nat) (s : ByteArray) (h : RD w R s 0 []) (hG : Gl w) (hs : s.size ≤ 4000) :
    Calls Tryz.prog 35 #[.pointer (some ⟨R, 0, none⟩)] w (ReadTold R w s (runL s.data.toList 0 [])) := by
  have hmf : ∀ (fn : Fn) (first cap : Array Value) (w : World), (Instr.makeFunc fn first cap).run Tryz.prog w = .ok (.func fn first cap) w := fun _ _ _ _ => rfl
  have hst := @run_store_func Tryz.prog
  have H := Lib.hid h
  have hlt := h.lt
  have hgl := h.gl
  have hGl := Lib.hid (fun W (hb : Bk R w W) => hG.on hb.1 hgl)
  obtain ⟨_, v, hb, _⟩ := h
  obtain ⟨c0, _, _, _, _⟩ := rd_cells hb
  have hs' : ¬ (4000 : Int) < (s.size : Int) := by omega
  have hbw : Below w.heap.size w (w.alloc (.cells (arrV R) 129)) := (Below.refl _ _).alloc (Nat.le_refl _) _
  have hD0 := H.out.next hbw
  have hA0 : ArrAt (w.alloc (.cells (arrV R) 129)) w.heap.size R := heap_new _ _
  have hB0 : Bk R w (w.alloc (.cells (arrV R) 129)) := bk_of hbw (Nat.le_of_lt hlt)
  have HX := Lib.hid (And.intro hD0 (And.intro hA0 hB0))
  clear hb hD0 hA0 hB0 hbw hG
  go_enter Tryz.func35, Tryz.ntmps35
  go_step3
  go_wp2
  go_step3
  go_wp2
  clear c0 hmf hst
  generalize w.heap.size = S at *
  go_loopg [40] s.size (fun g s40 wr => ∃ (k : Nat) (ts : List Tok), k + g = s.size ∧ RD wr R s k ts ∧ ArrAt wr S R ∧ Bk R w wr ∧ Hid (runL s.data.toList 0 [] = runL (s.data.toList.drop k) k ts) ∧ ts.length ≤ k)
  case atStart => exact ⟨0, [], by omega, HX.out.1, HX.out.2.1, HX.out.2.2, Lib.hid (by simp), by simp⟩
  case round =>
    obtain ⟨k, ts, hkg, hD, hA, hB, HR, hts⟩ := hrel
    obtain ⟨wp, hwp⟩ : ∃ wp, wp = wr := ⟨_, rfl⟩
    subst hwp
    obtain ⟨g1, hg1⟩ : ∃ g1, g1 = gk := ⟨_, rfl⟩
    subst hg1
    have HD0 := Lib.hid hD
    have HA0 := Lib.hid hA
    have HB0 := Lib.hid hB
    obtain ⟨_, vv, hbb, _⟩ := hD
    obtain ⟨c0, c1, _, _, _⟩ := rd_cells hbb
    obtain ⟨z0, z1, z2, z3, z4, z5, z6, z7⟩ := hA.cells
    clear hbb hA hB
    by_cases hk : k < s.size
    · have hne : s.data.toList.drop k ≠ [] := fun e => by rw [drop_ba hk] at e; cases e
      have HNE := Lib.hid hne
      clear hne
      rcases steps_case R k s ts hk hs (by omega) with ⟨J, ts', m, hJ8, hst, hno, hyes⟩ | ⟨hst, hno, hbad⟩ | ⟨hst, hno⟩
      · have hln := stepL_len HNE.out hst
        rw [List.length_drop, size_list] at hln
        obtain ⟨hm1, hm2, hts2⟩ := hln
        have HN := Lib.hid ((HR.out).trans (runL_some HNE.out hst hm1))
        rw [List.drop_drop] at HN
        clear hst
        go_wp2
        go_quiet (fail)
        go_wp2
        clear z0 z1 z2 z3 z4 z5 z6 z7 c0 c1
        go_loopg [41] 8 (fun g2 s41 wy => ∃ (i : Nat) (j : Int), i + g2 = 8 ∧ i ≤ J ∧ j = (i : Int) ∧ s41 = .int .i64 j ∧ RD wy R s k ts ∧ ArrAt wy S R ∧ Bk R w wy)
        case atStart => exact ⟨0, 0, by omega, by omega, rfl, rfl, HD0.out.drewN _, HA0.out.on (bk_drewN R wp nq), HB0.out.trans (bk_drewN _ _ _)⟩
        case round =>
          obtain ⟨i, j, hig, hiJ, hj, rfl, hD, hA, hB⟩ := hrel
          have hcase : i = 0 ∨ i = 1 ∨ i = 2 ∨ i = 3 ∨ i = 4 ∨ i = 5 ∨ i = 6 ∨ i = 7 := by omega
          rcases hcase with rfl | rfl | rfl | rfl | rfl | rfl | rfl | rfl
          · obtain rfl : j = 0 := by omega
            clear hj
            have HD := Lib.hid hD
            have HG2 := Lib.hid (hGl.out wr hB)
            have HA := Lib.hid hA
            have HB := Lib.hid hB
            clear hD hA hB
            by_cases hJi : 0 = J
            · subst hJi
              have hc : ∀ W, RD W R s k ts → Gl W → Calls Tryz.prog 67 #[.pointer (some ⟨R, 0, none⟩)] W (Stepped W R s true (k + m) ts') := hyes
              have hix := arr_ix0 R
              go_wp2_with (go_at_call 67; refine (hc _ HD.out HG2.out).mono ?_; rintro e w2 ⟨rfl, hr, hb2⟩)
              go_roundg (s.size - (k + m))
              case measure => omega
              case rel => exact ⟨k + m, ts', by omega, hr, HA.out.on hb2, HB.out.trans hb2, HN, by omega⟩
            · have hlt : 0 < J := by omega
              have hc : ∀ W, RD W R s k ts → Gl W → Calls Tryz.prog 67 #[.pointer (some ⟨R, 0, none⟩)] W (Stepped W R s false k ts) := hno 0 (by omega)
              have hix := arr_ix0 R
              go_wp2_with (go_at_call 67; refine (hc _ HD.out HG2.out).mono ?_; rintro e w2 ⟨rfl, hr, hb2⟩)
              go_roundg (7)
              case measure => omega
              case rel => exact ⟨1, 1, by omega, by omega, rfl, rfl, hr, HA.out.on hb2, HB.out.trans hb2⟩
          · obtain rfl : j = 1 := by omega
            clear hj
            have HD := Lib.hid hD
            have HG2 := Lib.hid (hGl.out wr hB)
            have HA := Lib.hid hA
            have HB := Lib.hid hB
            clear hD hA hB
            by_cases hJi : 1 = J
            · subst hJi
              have hc : ∀ W, RD W R s k ts → Gl W → Calls Tryz.prog 68 #[.pointer (some ⟨R, 0, none⟩)] W (Stepped W R s true (k + m) ts') := hyes
              have hix := arr_ix1 R
              go_wp2_with (go_at_call 68; refine (hc _ HD.out HG2.out).mono ?_; rintro e w2 ⟨rfl, hr, hb2⟩)
              go_roundg (s.size - (k + m))
              case measure => omega
              case rel => exact ⟨k + m, ts', by omega, hr, HA.out.on hb2, HB.out.trans hb2, HN, by omega⟩
            · have hlt : 1 < J := by omega
              have hc : ∀ W, RD W R s k ts → Gl W → Calls Tryz.prog 68 #[.pointer (some ⟨R, 0, none⟩)] W (Stepped W R s false k ts) := hno 1 (by omega)
              have hix := arr_ix1 R
              go_wp2_with (go_at_call 68; refine (hc _ HD.out HG2.out).mono ?_; rintro e w2 ⟨rfl, hr, hb2⟩)
              go_roundg (6)
              case measure => omega
              case rel => exact ⟨2, 2, by omega, by omega, rfl, rfl, hr, HA.out.on hb2, HB.out.trans hb2⟩
          · obtain rfl : j = 2 := by omega
            clear hj
            have HD := Lib.hid hD
            have HG2 := Lib.hid (hGl.out wr hB)
            have HA := Lib.hid hA
            have HB := Lib.hid hB
            clear hD hA hB
            by_cases hJi : 2 = J
            · subst hJi
              have hc : ∀ W, RD W R s k ts → Gl W → Calls Tryz.prog 69 #[.pointer (some ⟨R, 0, none⟩)] W (Stepped W R s true (k + m) ts') := hyes
              have hix := arr_ix2 R
              go_wp2_with (go_at_call 69; refine (hc _ HD.out HG2.out).mono ?_; rintro e w2 ⟨rfl, hr, hb2⟩)
              go_roundg (s.size - (k + m))
              case measure => omega
              case rel => exact ⟨k + m, ts', by omega, hr, HA.out.on hb2, HB.out.trans hb2, HN, by omega⟩
            · have hlt : 2 < J := by omega
              have hc : ∀ W, RD W R s k ts → Gl W → Calls Tryz.prog 69 #[.pointer (some ⟨R, 0, none⟩)] W (Stepped W R s false k ts) := hno 2 (by omega)
              have hix := arr_ix2 R
              go_wp2_with (go_at_call 69; refine (hc _ HD.out HG2.out).mono ?_; rintro e w2 ⟨rfl, hr, hb2⟩)
              go_roundg (5)
              case measure => omega
              case rel => exact ⟨3, 3, by omega, by omega, rfl, rfl, hr, HA.out.on hb2, HB.out.trans hb2⟩
          · obtain rfl : j = 3 := by omega
            clear hj
            have HD := Lib.hid hD
            have HG2 := Lib.hid (hGl.out wr hB)
            have HA := Lib.hid hA
            have HB := Lib.hid hB
            clear hD hA hB
            by_cases hJi : 3 = J
            · subst hJi
              have hc : ∀ W, RD W R s k ts → Gl W → Calls Tryz.prog 70 #[.pointer (some ⟨R, 0, none⟩)] W (Stepped W R s true (k + m) ts') := hyes
              have hix := arr_ix3 R
              go_wp2_with (go_at_call 70; refine (hc _ HD.out HG2.out).mono ?_; rintro e w2 ⟨rfl, hr, hb2⟩)
              go_roundg (s.size - (k + m))
              case measure => omega
              case rel => exact ⟨k + m, ts', by omega, hr, HA.out.on hb2, HB.out.trans hb2, HN, by omega⟩
            · have hlt : 3 < J := by omega
              have hc : ∀ W, RD W R s k ts → Gl W → Calls Tryz.prog 70 #[.pointer (some ⟨R, 0, none⟩)] W (Stepped W R s false k ts) := hno 3 (by omega)
              have hix := arr_ix3 R
              go_wp2_with (go_at_call 70; refine (hc _ HD.out HG2.out).mono ?_; rintro e w2 ⟨rfl, hr, hb2⟩)
              go_roundg (4)
              case measure => omega
              case rel => exact ⟨4, 4, by omega, by omega, rfl, rfl, hr, HA.out.on hb2, HB.out.trans hb2⟩
          · obtain rfl : j = 4 := by omega
            clear hj
            have HD := Lib.hid hD
            have HG2 := Lib.hid (hGl.out wr hB)
            have HA := Lib.hid hA
            have HB := Lib.hid hB
            clear hD hA hB
            by_cases hJi : 4 = J
            · subst hJi
              have hc : ∀ W, RD W R s k ts → Gl W → Calls Tryz.prog 71 #[.pointer (some ⟨R, 0, none⟩)] W (Stepped W R s true (k + m) ts') := hyes
              have hix := arr_ix4 R
              go_wp2_with (go_at_call 71; refine (hc _ HD.out HG2.out).mono ?_; rintro e w2 ⟨rfl, hr, hb2⟩)
              go_roundg (s.size - (k + m))
              case measure => omega
              case rel => exact ⟨k + m, ts', by omega, hr, HA.out.on hb2, HB.out.trans hb2, HN, by omega⟩
            · have hlt : 4 < J := by omega
              have hc : ∀ W, RD W R s k ts → Gl W → Calls Tryz.prog 71 #[.pointer (some ⟨R, 0, none⟩)] W (Stepped W R s false k ts) := hno 4 (by omega)
              have hix := arr_ix4 R
              go_wp2_with (go_at_call 71; refine (hc _ HD.out HG2.out).mono ?_; rintro e w2 ⟨rfl, hr, hb2⟩)
              go_roundg (3)
              case measure => omega
              case rel => exact ⟨5, 5, by omega, by omega, rfl, rfl, hr, HA.out.on hb2, HB.out.trans hb2⟩
          · obtain rfl : j = 5 := by omega
            clear hj
            have HD := Lib.hid hD
            have HG2 := Lib.hid (hGl.out wr hB)
            have HA := Lib.hid hA
            have HB := Lib.hid hB
            clear hD hA hB
            by_cases hJi : 5 = J
            · subst hJi
              have hc : ∀ W, RD W R s k ts → Gl W → Calls Tryz.prog 72 #[.pointer (some ⟨R, 0, none⟩)] W (Stepped W R s true (k + m) ts') := hyes
              have hix := arr_ix5 R
              go_wp2_with (go_at_call 72; refine (hc _ HD.out HG2.out).mono ?_; rintro e w2 ⟨rfl, hr, hb2⟩)
              go_roundg (s.size - (k + m))
              case measure => omega
              case rel => exact ⟨k + m, ts', by omega, hr, HA.out.on hb2, HB.out.trans hb2, HN, by omega⟩
            · have hlt : 5 < J := by omega
              have hc : ∀ W, RD W R s k ts → Gl W → Calls Tryz.prog 72 #[.pointer (some ⟨R, 0, none⟩)] W (Stepped W R s false k ts) := hno 5 (by omega)
              have hix := arr_ix5 R
              go_wp2_with (go_at_call 72; refine (hc _ HD.out HG2.out).mono ?_; rintro e w2 ⟨rfl, hr, hb2⟩)
              go_roundg (2)
              case measure => omega
              case rel => exact ⟨6, 6, by omega, by omega, rfl, rfl, hr, HA.out.on hb2, HB.out.trans hb2⟩
          · obtain rfl : j = 6 := by omega
            clear hj
            have HD := Lib.hid hD
            have HG2 := Lib.hid (hGl.out wr hB)
            have HA := Lib.hid hA
            have HB := Lib.hid hB
            clear hD hA hB
            by_cases hJi : 6 = J
            · subst hJi
              have hc : ∀ W, RD W R s k ts → Gl W → Calls Tryz.prog 73 #[.pointer (some ⟨R, 0, none⟩)] W (Stepped W R s true (k + m) ts') := hyes
              have hix := arr_ix6 R
              go_wp2_with (go_at_call 73; refine (hc _ HD.out HG2.out).mono ?_; rintro e w2 ⟨rfl, hr, hb2⟩)
              go_roundg (s.size - (k + m))
              case measure => omega
              case rel => exact ⟨k + m, ts', by omega, hr, HA.out.on hb2, HB.out.trans hb2, HN, by omega⟩
            · have hlt : 6 < J := by omega
              have hc : ∀ W, RD W R s k ts → Gl W → Calls Tryz.prog 73 #[.pointer (some ⟨R, 0, none⟩)] W (Stepped W R s false k ts) := hno 6 (by omega)
              have hix := arr_ix6 R
              go_wp2_with (go_at_call 73; refine (hc _ HD.out HG2.out).mono ?_; rintro e w2 ⟨rfl, hr, hb2⟩)
              go_roundg (1)
              case measure => omega
              case rel => exact ⟨7, 7, by omega, by omega, rfl, rfl, hr, HA.out.on hb2, HB.out.trans hb2⟩
          · obtain rfl : j = 7 := by omega
            clear hj
            have HD := Lib.hid hD
            have HG2 := Lib.hid (hGl.out wr hB)
            have HA := Lib.hid hA
            have HB := Lib.hid hB
            clear hD hA hB
            by_cases hJi : 7 = J
            · subst hJi
              have hc : ∀ W, RD W R s k ts → Gl W → Calls Tryz.prog 74 #[.pointer (some ⟨R, 0, none⟩)] W (Stepped W R s true (k + m) ts') := hyes
              have hix := arr_ix7 R
              go_wp2_with (go_at_call 74; refine (hc _ HD.out HG2.out).mono ?_; rintro e w2 ⟨rfl, hr, hb2⟩)
              go_roundg (s.size - (k + m))
              case measure => omega
              case rel => exact ⟨k + m, ts', by omega, hr, HA.out.on hb2, HB.out.trans hb2, HN, by omega⟩
            · have hlt : 7 < J := by omega
              omega
      · have HS := Lib.hid hst
        clear hst
        go_wp2
        go_quiet (fail)
        go_wp2
        clear z0 z1 z2 z3 z4 z5 z6 z7 c0 c1
        go_loopg [41] 8 (fun g2 s41 wy => ∃ (i : Nat) (j : Int), i + g2 = 8 ∧ i ≤ 4 ∧ j = (i : Int) ∧ s41 = .int .i64 j ∧ RD wy R s k ts ∧ ArrAt wy S R ∧ Bk R w wy)
        case atStart => exact ⟨0, 0, by omega, by omega, rfl, rfl, HD0.out.drewN _, HA0.out.on (bk_drewN R wp nq), HB0.out.trans (bk_drewN _ _ _)⟩
        case round =>
          obtain ⟨i, j, hig, hiJ, hj, rfl, hD, hA, hB⟩ := hrel
          have hcase : i = 0 ∨ i = 1 ∨ i = 2 ∨ i = 3 ∨ i = 4 := by omega
          rcases hcase with rfl | rfl | rfl | rfl | rfl
          · obtain rfl : j = 0 := by omega
            clear hj
            have HD := Lib.hid hD
            have HG2 := Lib.hid (hGl.out wr hB)
            have HA := Lib.hid hA
            have HB := Lib.hid hB
            clear hD hA hB
            have hc : ∀ W, RD W R s k ts → Gl W → Calls Tryz.prog 67 #[.pointer (some ⟨R, 0, none⟩)] W (Stepped W R s false k ts) := hno 0 (by omega)
            have hix := arr_ix0 R
            go_wp2_with (go_at_call 67; refine (hc _ HD.out HG2.out).mono ?_; rintro e w2 ⟨rfl, hr, hb2⟩)
            go_roundg (7)
            case measure => omega
            case rel => exact ⟨1, 1, by omega, by omega, rfl, rfl, hr, HA.out.on hb2, HB.out.trans hb2⟩
          · obtain rfl : j = 1 := by omega
            clear hj
            have HD := Lib.hid hD
            have HG2 := Lib.hid (hGl.out wr hB)
            have HA := Lib.hid hA
            have HB := Lib.hid hB
            clear hD hA hB
            have hc : ∀ W, RD W R s k ts → Gl W → Calls Tryz.prog 68 #[.pointer (some ⟨R, 0, none⟩)] W (Stepped W R s false k ts) := hno 1 (by omega)
            have hix := arr_ix1 R
            go_wp2_with (go_at_call 68; refine (hc _ HD.out HG2.out).mono ?_; rintro e w2 ⟨rfl, hr, hb2⟩)
            go_roundg (6)
            case measure => omega
            case rel => exact ⟨2, 2, by omega, by omega, rfl, rfl, hr, HA.out.on hb2, HB.out.trans hb2⟩
          · obtain rfl : j = 2 := by omega
            clear hj
            have HD := Lib.hid hD
            have HG2 := Lib.hid (hGl.out wr hB)
            have HA := Lib.hid hA
            have HB := Lib.hid hB
            clear hD hA hB
            have hc : ∀ W, RD W R s k ts → Gl W → Calls Tryz.prog 69 #[.pointer (some ⟨R, 0, none⟩)] W (Stepped W R s false k ts) := hno 2 (by omega)
            have hix := arr_ix2 R
            go_wp2_with (go_at_call 69; refine (hc _ HD.out HG2.out).mono ?_; rintro e w2 ⟨rfl, hr, hb2⟩)
            go_roundg (5)
            case measure => omega
            case rel => exact ⟨3, 3, by omega, by omega, rfl, rfl, hr, HA.out.on hb2, HB.out.trans hb2⟩
          · obtain rfl : j = 3 := by omega
            clear hj
            have HD := Lib.hid hD
            have HG2 := Lib.hid (hGl.out wr hB)
            have HA := Lib.hid hA
            have HB := Lib.hid hB
            clear hD hA hB
            have hc : ∀ W, RD W R s k ts → Gl W → Calls Tryz.prog 70 #[.pointer (some ⟨R, 0, none⟩)] W (Stepped W R s false k ts) := hno 3 (by omega)
            have hix := arr_ix3 R
            go_wp2_with (go_at_call 70; refine (hc _ HD.out HG2.out).mono ?_; rintro e w2 ⟨rfl, hr, hb2⟩)
            go_roundg (4)
            case measure => omega
            case rel => exact ⟨4, 4, by omega, by omega, rfl, rfl, hr, HA.out.on hb2, HB.out.trans hb2⟩
          · obtain rfl : j = 4 := by omega
            clear hj
            have HD := Lib.hid hD
            have HG2 := Lib.hid (hGl.out wr hB)
            have HA := Lib.hid hA
            have HB := Lib.hid hB
            clear hD hA hB
            have hc : ∀ W, RD W R s k ts → Gl W → Calls Tryz.prog 71 #[.pointer (some ⟨R, 0, none⟩)] W (Bad W R k) := hbad
            have hix := arr_ix4 R
            go_wp2_with (go_at_call 71; refine (hc _ HD.out HG2.out).mono ?_; rintro e w2 ⟨rfl, hb2⟩)
            exact ⟨rfl, read_bad HR.out HNE.out HS.out ⟨rfl, HB.out.1.trans hb2⟩⟩
      · have HS := Lib.hid hst
        clear hst
        go_wp2
        go_quiet (fail)
        go_wp2
        clear z0 z1 z2 z3 z4 z5 z6 z7 c0 c1
        go_loopg [41] 8 (fun g2 s41 wy => ∃ (i : Nat) (j : Int), i + g2 = 8 ∧ i ≤ 8 ∧ j = (i : Int) ∧ s41 = .int .i64 j ∧ RD wy R s k ts ∧ ArrAt wy S R ∧ Bk R w wy)
        case atStart => exact ⟨0, 0, by omega, by omega, rfl, rfl, HD0.out.drewN _, HA0.out.on (bk_drewN R wp nq), HB0.out.trans (bk_drewN _ _ _)⟩
        case round =>
          obtain ⟨i, j, hig, hiJ, hj, rfl, hD, hA, hB⟩ := hrel
          have hcase : i = 0 ∨ i = 1 ∨ i = 2 ∨ i = 3 ∨ i = 4 ∨ i = 5 ∨ i = 6 ∨ i = 7 ∨ i = 8 := by omega
          rcases hcase with rfl | rfl | rfl | rfl | rfl | rfl | rfl | rfl | rfl
          · obtain rfl : j = 0 := by omega
            clear hj
            have HD := Lib.hid hD
            have HG2 := Lib.hid (hGl.out wr hB)
            have HA := Lib.hid hA
            have HB := Lib.hid hB
            clear hD hA hB
            have hc : ∀ W, RD W R s k ts → Gl W → Calls Tryz.prog 67 #[.pointer (some ⟨R, 0, none⟩)] W (Stepped W R s false k ts) := hno 0 (by omega)
            have hix := arr_ix0 R
            go_wp2_with (go_at_call 67; refine (hc _ HD.out HG2.out).mono ?_; rintro e w2 ⟨rfl, hr, hb2⟩)
            go_roundg (7)
            case measure => omega
            case rel => exact ⟨1, 1, by omega, by omega, rfl, rfl, hr, HA.out.on hb2, HB.out.trans hb2⟩
          · obtain rfl : j = 1 := by omega
            clear hj
            have HD := Lib.hid hD
            have HG2 := Lib.hid (hGl.out wr hB)
            have HA := Lib.hid hA
            have HB := Lib.hid hB
            clear hD hA hB
            have hc : ∀ W, RD W R s k ts → Gl W → Calls Tryz.prog 68 #[.pointer (some ⟨R, 0, none⟩)] W (Stepped W R s false k ts) := hno 1 (by omega)
            have hix := arr_ix1 R
            go_wp2_with (go_at_call 68; refine (hc _ HD.out HG2.out).mono ?_; rintro e w2 ⟨rfl, hr, hb2⟩)
            go_roundg (6)
            case measure => omega
            case rel => exact ⟨2, 2, by omega, by omega, rfl, rfl, hr, HA.out.on hb2, HB.out.trans hb2⟩
          · obtain rfl : j = 2 := by omega
            clear hj
            have HD := Lib.hid hD
            have HG2 := Lib.hid (hGl.out wr hB)
            have HA := Lib.hid hA
            have HB := Lib.hid hB
            clear hD hA hB
            have hc : ∀ W, RD W R s k ts → Gl W → Calls Tryz.prog 69 #[.pointer (some ⟨R, 0, none⟩)] W (Stepped W R s false k ts) := hno 2 (by omega)
            have hix := arr_ix2 R
            go_wp2_with (go_at_call 69; refine (hc _ HD.out HG2.out).mono ?_; rintro e w2 ⟨rfl, hr, hb2⟩)
            go_roundg (5)
            case measure => omega
            case rel => exact ⟨3, 3, by omega, by omega, rfl, rfl, hr, HA.out.on hb2, HB.out.trans hb2⟩
          · obtain rfl : j = 3 := by omega
            clear hj
            have HD := Lib.hid hD
            have HG2 := Lib.hid (hGl.out wr hB)
            have HA := Lib.hid hA
            have HB := Lib.hid hB
            clear hD hA hB
            have hc : ∀ W, RD W R s k ts → Gl W → Calls Tryz.prog 70 #[.pointer (some ⟨R, 0, none⟩)] W (Stepped W R s false k ts) := hno 3 (by omega)
            have hix := arr_ix3 R
            go_wp2_with (go_at_call 70; refine (hc _ HD.out HG2.out).mono ?_; rintro e w2 ⟨rfl, hr, hb2⟩)
            go_roundg (4)
            case measure => omega
            case rel => exact ⟨4, 4, by omega, by omega, rfl, rfl, hr, HA.out.on hb2, HB.out.trans hb2⟩
          · obtain rfl : j = 4 := by omega
            clear hj
            have HD := Lib.hid hD
            have HG2 := Lib.hid (hGl.out wr hB)
            have HA := Lib.hid hA
            have HB := Lib.hid hB
            clear hD hA hB
            have hc : ∀ W, RD W R s k ts → Gl W → Calls Tryz.prog 71 #[.pointer (some ⟨R, 0, none⟩)] W (Stepped W R s false k ts) := hno 4 (by omega)
            have hix := arr_ix4 R
            go_wp2_with (go_at_call 71; refine (hc _ HD.out HG2.out).mono ?_; rintro e w2 ⟨rfl, hr, hb2⟩)
            go_roundg (3)
            case measure => omega
            case rel => exact ⟨5, 5, by omega, by omega, rfl, rfl, hr, HA.out.on hb2, HB.out.trans hb2⟩
          · obtain rfl : j = 5 := by omega
            clear hj
            have HD := Lib.hid hD
            have HG2 := Lib.hid (hGl.out wr hB)
            have HA := Lib.hid hA
            have HB := Lib.hid hB
            clear hD hA hB
            have hc : ∀ W, RD W R s k ts → Gl W → Calls Tryz.prog 72 #[.pointer (some ⟨R, 0, none⟩)] W (Stepped W R s false k ts) := hno 5 (by omega)
            have hix := arr_ix5 R
            go_wp2_with (go_at_call 72; refine (hc _ HD.out HG2.out).mono ?_; rintro e w2 ⟨rfl, hr, hb2⟩)
            go_roundg (2)
            case measure => omega
            case rel => exact ⟨6, 6, by omega, by omega, rfl, rfl, hr, HA.out.on hb2, HB.out.trans hb2⟩
          · obtain rfl : j = 6 := by omega
            clear hj
            have HD := Lib.hid hD
            have HG2 := Lib.hid (hGl.out wr hB)
            have HA := Lib.hid hA
            have HB := Lib.hid hB
            clear hD hA hB
            have hc : ∀ W, RD W R s k ts → Gl W → Calls Tryz.prog 73 #[.pointer (some ⟨R, 0, none⟩)] W (Stepped W R s false k ts) := hno 6 (by omega)
            have hix := arr_ix6 R
            go_wp2_with (go_at_call 73; refine (hc _ HD.out HG2.out).mono ?_; rintro e w2 ⟨rfl, hr, hb2⟩)
            go_roundg (1)
            case measure => omega
            case rel => exact ⟨7, 7, by omega, by omega, rfl, rfl, hr, HA.out.on hb2, HB.out.trans hb2⟩
          · obtain rfl : j = 7 := by omega
            clear hj
            have HD := Lib.hid hD
            have HG2 := Lib.hid (hGl.out wr hB)
            have HA := Lib.hid hA
            have HB := Lib.hid hB
            clear hD hA hB
            have hc : ∀ W, RD W R s k ts → Gl W → Calls Tryz.prog 74 #[.pointer (some ⟨R, 0, none⟩)] W (Stepped W R s false k ts) := hno 7 (by omega)
            have hix := arr_ix7 R
            go_wp2_with (go_at_call 74; refine (hc _ HD.out HG2.out).mono ?_; rintro e w2 ⟨rfl, hr, hb2⟩)
            go_roundg (0)
            case measure => omega
            case rel => exact ⟨8, 8, by omega, by omega, rfl, rfl, hr, HA.out.on hb2, HB.out.trans hb2⟩
          · obtain rfl : j = 8 := by omega
            clear hj
            have HD := Lib.hid hD
            have HG2 := Lib.hid (hGl.out wr hB)
            have HA := Lib.hid hA
            have HB := Lib.hid hB
            clear hD hA hB
            obtain ⟨_, v2, hb2, _⟩ := HD.out
            obtain ⟨_, d1, _, _, _⟩ := rd_cells hb2
            clear hb2
            go_wp2
            exact ⟨rfl, read_bad HR.out HNE.out HS.out ⟨rfl, HB.out.1⟩⟩
    · obtain rfl : k = s.size := by omega
      have hend := fun n => endLine_any (wp.drewN n) R s.size s ts (HD0.out.drewN n) (by omega) (by omega)
      have HE := HR.out
      rw [← size_list, List.drop_length, size_list] at HE
      have HE2 := Lib.hid HE
      clear HE z0 z1 z2 z3 z4 z5 z6 z7
      have hel : (endL ts s.size).length ≤ 5000 := endL_len ts s.size (by omega)
      obtain ⟨T, hT⟩ : ∃ T, endL ts s.size = T := ⟨_, rfl⟩
      rw [hT] at hend hel
      have HT := Lib.hid hT
      clear hT
      go_wp2
      go_quiet (fail)
      go_wp2_with fail
      refine (hend _).mono ?_
      rintro e w2 ⟨rfl, hr, hb2⟩
      have HR2 := Lib.hid hr
      have HB2 := Lib.hid (HB0.out.trans ((bk_drewN R wp nq).trans hb2))
      obtain ⟨_, v2, hbb, hown⟩ := hr
      obtain ⟨A, c, rfl, _, _⟩ := own_slice4 hown
      obtain ⟨_, _, d2, _, _⟩ := rd_cells hbb
      obtain ⟨q, hq⟩ : ∃ q, T.length = q := ⟨_, rfl⟩
      have HQ := Lib.hid hq
      rw [hq] at d2 hel
      clear hbb hown hq hend hb2 c0 c1
      by_cases hbig : 1000 < q
      · have hbig' : (1000 : Int) < (q : Int) := by omega
        go_wp2
        refine ⟨rfl, read_end HE2.out ?_⟩
        rw [HT.out]
        rw [readTold_inl, if_pos (by rw [HQ.out]; exact hbig)]
        exact ⟨rfl, HB2.out.1⟩
      · have hbig' : ¬ (1000 : Int) < (q : Int) := by omega
        go_wp2
        go_end0
        refine read_end HE2.out ?_
        rw [HT.out]
        rw [readTold_inl, if_neg (by rw [HQ.out]; exact hbig)]
        exact ⟨rfl, ⟨_, HR2.out⟩, HB2.out⟩
end Go.Proofs.YthaibekbefndlaaGreatDoor.C

namespace Go.Proofs.YthaibekbefndlaaGreatDoor.C
open Go.RowKit

theorem assert_long (W : World) : (Instr.typeAssert (.iface 127 (.agg #[])) 20 127 true).run Tryz.prog W = .ok (.tuple #[.agg #[], .bool true]) W := by kernel_rfl
theorem assert_not (k : Int) (W : World) : (Instr.typeAssert (.iface 128 (.int .i64 k)) 20 127 true).run Tryz.prog W = .ok (.tuple #[.agg #[], .bool false]) W := by kernel_rfl
theorem assert_bad (k : Int) (W : World) : (Instr.typeAssert (.iface 128 (.int .i64 k)) 20 128 true).run Tryz.prog W = .ok (.tuple #[.int .i64 k, .bool true]) W := by kernel_rfl
set_option maxRecDepth 100000 in
set_option maxHeartbeats 1000000 in
theorem whatIs_long (w : World) (R : Nat) :
    Calls Tryz.prog 34 #[.pointer (some ⟨R, 0, none⟩), .iface 127 (.agg #[])] w fun e w' => e = .returned (.tuple #[.int .u16 3, .int .i64 0]) ∧ Below w.heap.size w w' := by
  have q0 := assert_long
  go_enter Tryz.func34, Tryz.ntmps34
  go_wp2
  go_ret2
  exact ⟨rfl, (Below.refl _ _).alloc (Nat.le_refl _) _⟩
set_option maxRecDepth 100000 in
set_option maxHeartbeats 1000000 in
theorem whatIs_bad (w : World) (R : Nat) (k : Int) :
    Calls Tryz.prog 34 #[.pointer (some ⟨R, 0, none⟩), .iface 128 (.int .i64 k)] w fun e w' => e = .returned (.tuple #[.int .u16 20, .int .i64 k]) ∧ Below w.heap.size w w' := by
  have q0 := assert_not k
  have q1 := assert_bad k
  go_enter Tryz.func34, Tryz.ntmps34
  go_wp2
  go_ret2
  exact ⟨rfl, Below.refl _ _⟩

/-- what the closure leaves -/
def Caught (w : World) (E A : Nat) (er : Nat) (k : Int) (w' : World) : Prop := ∃ w1, Below w.heap.size w w1 ∧ w' = (w1.setCell ⟨E, 0, none⟩ (.int .u16 er)).setCell ⟨A, 0, none⟩ (.int .i64 k)
def ErrAt (w : World) (E A : Nat) : Prop := w.heap[E]? = some (.cells #[.int .u16 0] 28 (0, 0)) ∧ w.heap[A]? = some (.cells #[.int .i64 0] 3 (0, 0)) ∧ E ≠ A

theorem catch_of (w : World) (R E A : Nat) (t : TypeId) (pv : Value) (older : List PanicEntry) (er : Nat) (k : Int) (hE : ErrAt w E A)
    (hw : ∀ W, Calls Tryz.prog 34 #[.pointer (some ⟨R, 0, none⟩), .iface t pv] W fun e w' => e = .returned (.tuple #[.int .u16 er, .int .i64 k]) ∧ Below W.heap.size W w') :
    CallsD Tryz.prog 33 #[.pointer (some ⟨R, 0, none⟩), .pointer (some ⟨E, 0, none⟩), .pointer (some ⟨A, 0, none⟩)] (.panicking ({ v := .iface t pv, recovered := false } :: older)) w fun e u' w' =>
      e = .returned (.tuple #[]) ∧ u' = .panicking ({ v := .iface t pv, recovered := true } :: older) ∧ Caught w E A er k w' := by
  obtain ⟨h1, h2, hne⟩ := hE
  have hl1 := (Array.getElem?_eq_some_iff.1 h1).1
  have hl2 := (Array.getElem?_eq_some_iff.1 h2).1
  refine callsD_of_wpS Tryz.func33 rfl fun c₀ cs hu => ?_
  apply wpS_seq
  apply wpS_region
  simp [wpOpsS, go_sem, recoverD, hu, Tryz.ntmps33, Exit.thenS]
  simp only [Array.replicate_succ, Array.replicate_zero, List.push_toArray, List.setIfInBounds_toArray, List.set_cons_zero, List.set_cons_succ, List.append_toArray, List.nil_append, List.cons_append]
  refine wpS_of_wp ?_
  go_wp2_with fail
  refine (hw _).mono ?_
  rintro e w1 ⟨rfl, hb1⟩
  have k1 := (hb1.block E hl1).trans h1
  have k2 := (hb1.block A hl2).trans h2
  have c1 : w1.cell? ⟨E, 0, none⟩ = some (.int .u16 0) := by simp [World.cell?, k1]
  have c2 : w1.cell? ⟨A, 0, none⟩ = some (.int .i64 0) := by simp [World.cell?, k2]
  have f1 : w1.frozen? ⟨E, 0, none⟩ = false := by simp [World.frozen?, k1]
  have f2 : w1.frozen? ⟨A, 0, none⟩ = false := by simp [World.frozen?, k2]
  clear k1 k2 h1 h2
  go_wp2
  have hC : Caught w E A er k ((w1.setCell ⟨E, 0, none⟩ (.int .u16 er)).setCell ⟨A, 0, none⟩ (.int .i64 k)) := ⟨w1, hb1, rfl⟩
  simp [bodyPostS, results, Tryz.results33, hC]

theorem catch_idle (w : World) (R E A : Nat) :
    CallsD Tryz.prog 33 #[.pointer (some ⟨R, 0, none⟩), .pointer (some ⟨E, 0, none⟩), .pointer (some ⟨A, 0, none⟩)] .returning w fun e u' w' => e = .returned (.tuple #[]) ∧ u' = .returning ∧ w' = w := by
  refine callsD_of_wpS Tryz.func33 rfl fun c₀ cs hu => ?_
  apply wpS_seq
  apply wpS_region
  simp [wpOpsS, go_sem, recoverD, hu, Tryz.ntmps33, Exit.thenS]
  simp only [Array.replicate_succ, Array.replicate_zero, List.push_toArray, List.setIfInBounds_toArray, List.set_cons_zero, List.set_cons_succ, List.append_toArray, List.nil_append, List.cons_append]
  refine wpS_of_wp ?_
  go_wp2
  cases c₀
  simp_all [bodyPostS, results, Tryz.results33]
end Go.Proofs.YthaibekbefndlaaGreatDoor.C
