/-
  A reader's steps together: which one takes what stands at a place; each that is asked ahead of it takes nothing. No condition.
-/
import Derived.Test.YtnifcgiajjmogaaGreatDoorLxT
namespace Go.Proofs.YtnifcgiajjmogaaGreatDoor.C
open Go.RowKit

theorem pre_one (a : UInt8) (r : List UInt8) (c : UInt8) : Lib.hasPrefix (a :: r) [c] = decide (a = c) := by
  rw [hasPrefix_one]; simp
theorem pre_three (a : UInt8) (r : List UInt8) : Lib.hasPrefix (a :: r) [46, 46, 46] = decide (a = 46 ∧ r.take 2 = [46, 46]) := by
  rw [Bool.eq_iff_iff, decide_eq_true_iff]
  unfold Lib.hasPrefix
  rw [List.isPrefixOf_iff_prefix, List.cons_prefix_cons, List.prefix_iff_eq_take]
  constructor
  · rintro ⟨h1, h2⟩
    exact ⟨h1.symm, h2.symm⟩
  · rintro ⟨h1, h2⟩
    exact ⟨h1.symm, h2.symm⟩
theorem sign_case (a : UInt8) (r : List UInt8) : (∃ J, J < 5 ∧ signL (a :: r) = some (sgB J).data.toList ∧ (∀ i, i < J → i < 5 → Lib.hasPrefix (a :: r) (sgB i).data.toList = false) ∧ Lib.hasPrefix (a :: r) (sgB J).data.toList = true) ∨
    (signL (a :: r) = none ∧ ∀ i, i < 5 → i < 5 → Lib.hasPrefix (a :: r) (sgB i).data.toList = false) := by
  have h0 : Lib.hasPrefix (a :: r) (sgB 0).data.toList = decide (a = 59) := pre_one a r 59
  have h1 : Lib.hasPrefix (a :: r) (sgB 1).data.toList = decide (a = 44) := pre_one a r 44
  have h2 : Lib.hasPrefix (a :: r) (sgB 2).data.toList = decide (a = 40) := pre_one a r 40
  have h3 : Lib.hasPrefix (a :: r) (sgB 3).data.toList = decide (a = 41) := pre_one a r 41
  have h4 : Lib.hasPrefix (a :: r) (sgB 4).data.toList = decide (a = 46 ∧ r.take 2 = [46, 46]) := pre_three a r
  have all : ∀ n : Nat, n ≤ 5 → (∀ i, i < n → i < 5 → i = 0 ∨ i = 1 ∨ i = 2 ∨ i = 3 ∨ i = 4) := fun n hn i hi _ => by omega
  by_cases e0 : a = 59
  · subst e0
    exact .inl ⟨0, by omega, by rw [signL_cons, if_pos (by simp)]; rfl, fun i hi => by omega, by rw [h0]; simp⟩
  by_cases e1 : a = 44
  · subst e1
    refine .inl ⟨1, by omega, by rw [signL_cons, if_pos (by simp)]; rfl, fun i hi _ => ?_, by rw [h1]; simp⟩
    obtain rfl : i = 0 := by omega
    rw [h0]; simp
  by_cases e2 : a = 40
  · subst e2
    refine .inl ⟨2, by omega, by rw [signL_cons, if_pos (by simp)]; rfl, fun i hi _ => ?_, by rw [h2]; simp⟩
    rcases (by omega : i = 0 ∨ i = 1) with rfl | rfl
    · rw [h0]; simp
    · rw [h1]; simp
  by_cases e3 : a = 41
  · subst e3
    refine .inl ⟨3, by omega, by rw [signL_cons, if_pos (by simp)]; rfl, fun i hi _ => ?_, by rw [h3]; simp⟩
    rcases (by omega : i = 0 ∨ i = 1 ∨ i = 2) with rfl | rfl | rfl
    · rw [h0]; simp
    · rw [h1]; simp
    · rw [h2]; simp
  have n0 : decide (a = 59) = false := decide_eq_false e0
  have n1 : decide (a = 44) = false := decide_eq_false e1
  have n2 : decide (a = 40) = false := decide_eq_false e2
  have n3 : decide (a = 41) = false := decide_eq_false e3
  rw [n0] at h0
  rw [n1] at h1
  rw [n2] at h2
  rw [n3] at h3
  have hs : signL (a :: r) = if a = 46 ∧ r.take 2 = [46, 46] then some [46, 46, 46] else none := by rw [signL_cons, if_neg (by simp [e0, e1, e2, e3])]
  by_cases e4 : a = 46 ∧ r.take 2 = [46, 46]
  · refine .inl ⟨4, by omega, by rw [hs, if_pos e4]; rfl, fun i hi _ => ?_, by rw [h4]; exact decide_eq_true e4⟩
    rcases (by omega : i = 0 ∨ i = 1 ∨ i = 2 ∨ i = 3) with rfl | rfl | rfl | rfl <;> assumption
  · refine .inr ⟨by rw [hs, if_neg e4], fun i hi _ => ?_⟩
    rw [decide_eq_false e4] at h4
    rcases (by omega : i = 0 ∨ i = 1 ∨ i = 2 ∨ i = 3 ∨ i = 4) with rfl | rfl | rfl | rfl | rfl <;> assumption

def fns : Nat → Nat
  | 0 => 21
  | 1 => 22
  | 2 => 23
  | 3 => 24
  | 4 => 25
  | 5 => 26
  | 6 => 27
  | _ => 28
/-- asked at a place, a step takes nothing; it takes something; it finds what is no token -/
def StNo (R k : Nat) (s : ByteArray) (ts : List Tok) (i : Nat) : Prop := ∀ W, RD W R s k ts → Gl W → Calls Tryz.prog (fns i) #[.pointer (some ⟨R, 0, none⟩)] W (Stepped W R s false k ts)
def StYes (R k : Nat) (s : ByteArray) (ts : List Tok) (i k' : Nat) (ts' : List Tok) : Prop := ∀ W, RD W R s k ts → Gl W → Calls Tryz.prog (fns i) #[.pointer (some ⟨R, 0, none⟩)] W (Stepped W R s true k' ts')
def StBad (R k : Nat) (s : ByteArray) (ts : List Tok) : Prop := ∀ W, RD W R s k ts → Gl W → Calls Tryz.prog (fns 4) #[.pointer (some ⟨R, 0, none⟩)] W (Bad W R k)

theorem toNat_ne {a b : UInt8} (h : a ≠ b) : a.toNat ≠ b.toNat := fun e => h (UInt8.toNat_inj.1 e)
theorem steps_case (R k : Nat) (s : ByteArray) (ts : List Tok) (hk : k < s.size) (hs : s.size ≤ 4000) (hts : ts.length ≤ 4500) :
    (∃ J ts' m, J < 8 ∧ stepL (s.data.toList.drop k) k ts = some (ts', m) ∧ (∀ i, i < J → StNo R k s ts i) ∧ StYes R k s ts J (k + m) ts') ∨
    (stepL (s.data.toList.drop k) k ts = none ∧ (∀ i, i < 4 → StNo R k s ts i) ∧ StBad R k s ts) ∨
    (stepL (s.data.toList.drop k) k ts = none ∧ ∀ i, i < 8 → StNo R k s ts i) := by
  have hd := drop_ba hk
  obtain ⟨a, ha⟩ : ∃ a, s[k]'hk = a := ⟨_, rfl⟩
  obtain ⟨r, hr⟩ : ∃ r, s.data.toList.drop (k + 1) = r := ⟨_, rfl⟩
  rw [ha, hr] at hd
  have bl : blankL (s.data.toList.drop k) = if a = 32 ∨ a = 9 then 1 else if a = 37 then 1 + (r.takeWhile (· ≠ 10)).length else 0 := by rw [hd, blankL_cons]
  have n0 : a ≠ 32 → a ≠ 9 → StNo R k s ts 0 := fun h1 h2 W hW _ => blank_no W R k s ts hW hk hs (by rw [ha]; exact toNat_ne h1) (by rw [ha]; exact toNat_ne h2)
  have n1 : a ≠ 37 → StNo R k s ts 1 := fun h1 W hW _ => remark_no W R k s ts hW hk hs (by rw [ha]; exact toNat_ne h1)
  have n2 : a ≠ 10 → StNo R k s ts 2 := fun h1 W hW _ => lineEnd_no W R k s ts hW hk hs (by rw [ha]; exact toNat_ne h1)
  by_cases e0 : a = 32
  · refine .inl ⟨0, ts, 1, by omega, ?_, fun i hi => by omega, fun W hW _ => blank_32 W R k s ts hW hk hs (by rw [ha, e0]; rfl)⟩
    have bl1 : blankL (s.data.toList.drop k) = 1 := by rw [bl, if_pos (Or.inl e0)]
    unfold stepL
    rw [bl1, if_pos (by decide)]
  by_cases e1 : a = 9
  · refine .inl ⟨0, ts, 1, by omega, ?_, fun i hi => by omega, fun W hW _ => blank_9 W R k s ts hW hk hs (by rw [ha, e1]; rfl)⟩
    have bl1 : blankL (s.data.toList.drop k) = 1 := by rw [bl, if_pos (Or.inr e1)]
    unfold stepL
    rw [bl1, if_pos (by decide)]
  rw [if_neg (by simp [e0, e1])] at bl
  by_cases e2 : a = 37
  · refine .inl ⟨1, ts, ((s.data.toList.drop k).takeWhile (fun x : UInt8 => decide (x ≠ 10))).length, by omega, ?_, fun i hi => ?_, fun W hW _ => remark_yes W R k s ts hW hk hs (by rw [ha, e2]; rfl)⟩
    · have : ((s.data.toList.drop k).takeWhile (fun x : UInt8 => decide (x ≠ 10))).length = 1 + (r.takeWhile (fun x : UInt8 => decide (x ≠ 10))).length := by
        rw [hd, e2, List.takeWhile_cons, if_pos (by decide), List.length_cons]; omega
      rw [this]
      unfold stepL
      rw [bl, if_pos e2, if_pos (by omega)]
    · obtain rfl : i = 0 := by omega
      exact n0 e0 e1
  rw [if_neg e2] at bl
  have st : stepL (s.data.toList.drop k) k ts = if (s.data.toList.drop k).head? = some 10 then some (endL ts k, 1) else match tokL (s.data.toList.drop k) with
    | some (kd, t, n, m) => some (ts ++ [⟨kd, t, n, k⟩], m)
    | none => none := by
    unfold stepL
    rw [bl, if_neg (by simp)]
    rfl
  rw [st]
  by_cases e3 : a = 10
  · refine .inl ⟨2, endL ts k, 1, by omega, by rw [hd, if_pos (by rw [e3]; rfl)], fun i hi => ?_, fun W hW _ => lineEnd_yes W R k s ts hW hk hs (by omega) (by rw [ha, e3]; rfl)⟩
    rcases (by omega : i = 0 ∨ i = 1) with rfl | rfl
    · exact n0 e0 e1
    · exact n1 e2
  rw [if_neg (by rw [hd]; simp [e3])]
  have n012 : ∀ i, i < 3 → StNo R k s ts i := fun i hi => by
    rcases (by omega : i = 0 ∨ i = 1 ∨ i = 2) with rfl | rfl | rfl
    · exact n0 e0 e1
    · exact n1 e2
    · exact n2 e3
  rcases sign_case a r with ⟨J, hJ, hsg, hn, hy⟩ | ⟨hsg, hn⟩
  · rw [← hd] at hsg hn hy
    have tk : tokL (s.data.toList.drop k) = some (2, (sgB J).data.toList, 0, (sgB J).data.toList.length) := by unfold tokL; rw [hsg]
    rw [tk]
    refine .inl ⟨3, _, _, by omega, rfl, n012, fun W hW hG => ?_⟩
    have := ssign_any W R k s ts hW hG hk hs hts J (by omega) hn (fun _ => hy)
    refine this.mono fun e w' h => ?_
    unfold SignTold at h
    rw [if_pos hJ, ← size_list] at h
    exact h
  · rw [← hd] at hsg hn
    have n3 : StNo R k s ts 3 := fun W hW hG => by
      have := ssign_any W R k s ts hW hG hk hs hts 5 (by omega) hn (fun h => absurd h (by omega))
      refine this.mono fun e w' h => ?_
      unfold SignTold at h
      rw [if_neg (by omega)] at h
      exact h
    have n0123 : ∀ i, i < 4 → StNo R k s ts i := fun i hi => by
      rcases (by omega : i < 3 ∨ i = 3) with h | rfl
      · exact n012 i h
      · exact n3
    unfold tokL
    rw [hsg]
    simp only
    cases hnum : numL (nameL (s.data.toList.drop k)) with
    | some v =>
      simp only
      cases hv : rightN v with
      | true =>
        exact .inl ⟨4, _, _, by omega, rfl, n0123, fun W hW _ => sscalar_yes W R k s ts hW hk hs hts v hnum hv⟩
      | false =>
        exact .inr (.inl ⟨rfl, n0123, fun W hW _ => sscalar_bad W R k s ts hW hk hs hts v hnum hv⟩)
    | none =>
      simp only
      have n4 : StNo R k s ts 4 := fun W hW hG => sscalar_no W R k s ts hW hk hs hts hG hnum
      have n04 : ∀ i, i < 5 → StNo R k s ts i := fun i hi => by
        rcases (by omega : i < 4 ∨ i = 4) with h | rfl
        · exact n0123 i h
        · exact n4
      by_cases hnm : nameL (s.data.toList.drop k) = []
      · rw [if_neg (by simp [hnm])]
        have n05 : ∀ i, i < 6 → StNo R k s ts i := fun i hi => by
          rcases (by omega : i < 5 ∨ i = 5) with h | rfl
          · exact n04 i h
          · exact fun W hW _ => sname_no W R k s ts hW hk hs hts hnm
        have n06 : quoL (s.data.toList.drop k) = none → ∀ i, i < 7 → StNo R k s ts i := fun hq i hi => by
          rcases (by omega : i < 6 ∨ i = 6) with h | rfl
          · exact n05 i h
          · intro W hW _
            by_cases e34 : a = 34
            · rw [e34] at hd
              by_cases hlt : (r.takeWhile (· ≠ 34)).length < r.length
              · by_cases h10 : 10 ∈ r.takeWhile (· ≠ 34)
                · exact squoted_no3 W R k s ts hW hk hs hts r hd hlt h10
                · rw [hd, quoL_cons, if_pos ⟨rfl, hlt, h10⟩] at hq
                  cases hq
              · exact squoted_no2 W R k s ts hW hk hs hts r hd hlt
            · exact squoted_no1 W R k s ts hW hk hs hts (by rw [hd]; simp [e34])
        cases hq : quoL (s.data.toList.drop k) with
        | some t =>
          simp only
          have hq' := hq
          rw [hd, quoL_cons] at hq'
          by_cases hc : a = 34 ∧ (r.takeWhile (· ≠ 34)).length < r.length ∧ 10 ∉ r.takeWhile (· ≠ 34)
          · rw [if_pos hc] at hq'
            injection hq' with hq'
            subst hq'
            exact .inl ⟨6, _, _, by omega, rfl, n05, fun W hW _ => squoted_yes W R k s ts hW hk hs hts r (by rw [hd, hc.1]) hc.2.1 hc.2.2⟩
          · rw [if_neg hc] at hq'
            cases hq'
        | none =>
          simp only
          by_cases hw : wordL (s.data.toList.drop k) = []
          · rw [if_neg (by simp [hw])]
            refine .inr (.inr ⟨rfl, fun i hi => ?_⟩)
            rcases (by omega : i < 7 ∨ i = 7) with h | rfl
            · exact n06 hq i h
            · exact fun W hW _ => sword_no W R k s ts hW hk hs hts hw
          · rw [if_pos hw]
            exact .inl ⟨7, _, _, by omega, rfl, n06 hq, fun W hW _ => sword_yes W R k s ts hW hk hs hts hw⟩
      · rw [if_pos hnm]
        exact .inl ⟨5, _, _, by omega, rfl, n04, fun W hW _ => sname_yes W R k s ts hW hk hs hts hnm⟩
end Go.Proofs.YtnifcgiajjmogaaGreatDoor.C
