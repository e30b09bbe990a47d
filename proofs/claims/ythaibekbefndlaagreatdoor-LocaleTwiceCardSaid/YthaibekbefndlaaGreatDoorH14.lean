/-
  Joined: LcH, LcI, LcJ, LcK. Each with what its own head says.
-/
import Derived.Test.YthaibekbefndlaaGreatDoorH12
import Derived.Test.YthaibekbefndlaaGreatDoorH07

namespace Go.Proofs.YthaibekbefndlaaGreatDoor.C
open Go.RowKit

theorem takeK_suf {ks : List Nat} {ts r : List Tok} {x : Tok} (h : takeK ks ts = .ok (x, r)) : ts = x :: r ∧ x.k ∈ ks := by
 cases ts with
 | nil => simp [takeK] at h
 | cons t l =>
  simp only [takeK] at h
  by_cases hk : t.k ∈ ks
  ·rw [if_pos hk] at h
   simp at h
   obtain ⟨rfl, rfl⟩ := h
   exact ⟨rfl, hk⟩
  ·rw [if_neg hk] at h
   cases h
theorem takeT_suf {k : Nat} {s : List UInt8} {ts r : List Tok} {u : Unit} (h : takeT k s ts = .ok (u, r)) : ∃ x, ts = x :: r ∧ x.k = k := by
 cases ts with
 | nil => simp [takeT] at h
 | cons t l =>
  simp only [takeT] at h
  by_cases hk : t.k = k ∧ t.t = s
  ·rw [if_pos hk] at h
   simp at h
   obtain ⟨_, rfl⟩ := h
   exact ⟨t, rfl, hk.1⟩
  ·rw [if_neg hk] at h
   cases h
def Left (ts r : List Tok) : Prop := Ended r ∧ r.length < ts.length ∧ r <:+ ts
theorem Left.trans {a b c : List Tok} (h : Left a b) (k : Left b c) : Left a c := ⟨k.1, Nat.lt_trans k.2.1 h.2.1, k.2.2.trans h.2.2⟩
theorem left_cons {x : Tok} {r : List Tok} (h : Ended (x :: r)) (hk : x.k ≠ 6) : Left (x :: r) r := ⟨h.cons hk, by simp, List.suffix_cons x r⟩
theorem takeK_left {ks : List Nat} {ts r : List Tok} {x : Tok} (hE : Ended ts) (h : takeK ks ts = .ok (x, r)) (h6 : 6 ∉ ks) : Left ts r := by
 obtain ⟨rfl, hk⟩ := takeK_suf h
 exact left_cons hE (fun e => h6 (e ▸ hk))
theorem takeT_left {k : Nat} {s : List UInt8} {ts r : List Tok} {u : Unit} (hE : Ended ts) (h : takeT k s ts = .ok (u, r)) (h6 : k ≠ 6) : Left ts r := by
 obtain ⟨x, rfl, hk⟩ := takeT_suf h
 exact left_cons hE (fun e => h6 (by rw [← hk]; exact e))
theorem sign_left {s : List UInt8} {ts : List Tok} (hE : Ended ts) (h : isSign s ts = true) : Left ts (ts.drop 1) := by
 cases ts with
 | nil => simp [isSign] at h
 | cons x r =>
  have : x.k = 2 ∧ x.t = s := by simpa [isSign] using h
  exact left_cons hE (by omega)
theorem notBelow_left {a x : Tok} {ts r : List Tok} (hE : Ended ts) (h : notBelow a ts = .ok (x, r)) : Left ts r := by
 unfold notBelow at h
 cases ht : takeK [3] ts with
 | error e => rw [ht] at h; cases h
 | ok y =>
  obtain ⟨b, r'⟩ := y
  rw [ht] at h
  simp only at h
  split at h
  ·cases h
  ·simp at h
   obtain ⟨_, rfl⟩ := h
   exact takeK_left hE ht (by simp)
theorem scalL_left {ts r : List Tok} {x : Int × Int} (hE : Ended ts) (h : scalL ts = .ok (x, r)) : Left ts r := by
 unfold scalL at h
 cases ht : takeK [3] ts with
 | error e => rw [ht] at h; cases h
 | ok y =>
  obtain ⟨a, r1⟩ := y
  rw [ht] at h
  simp only at h
  have h1 := takeK_left hE ht (by simp)
  by_cases hs : isSign sThru r1 = true
  ·rw [if_pos hs] at h
   have h2 := sign_left h1.1 hs
   cases hn : notBelow a (r1.drop 1) with
   | error e => rw [hn] at h; cases h
   | ok z =>
    obtain ⟨b, r2⟩ := z
    rw [hn] at h
    simp at h
    obtain ⟨_, rfl⟩ := h
    exact (h1.trans h2).trans (notBelow_left h2.1 hn)
  ·rw [if_neg hs] at h
   simp at h
   obtain ⟨_, rfl⟩ := h
   exact h1
theorem rangeL_left {rs rs' : List (Int × Int)} {ts r : List Tok} (hE : Ended ts) (h : rangeL rs ts = .ok (rs', r)) : Left ts r := by
 rw [rangeL_scal] at h
 cases hs : scalL ts with
 | error e => rw [hs] at h; cases h
 | ok y =>
  obtain ⟨x, r1⟩ := y
  rw [hs] at h
  simp at h
  obtain ⟨_, rfl⟩ := h
  exact scalL_left hE hs
theorem pairL_left {l l' : List (Int × Int)} {ts r : List Tok} (hE : Ended ts) (h : pairL l ts = .ok (l', r)) : Left ts r := by
 unfold pairL at h
 cases h1 : takeT 2 sOpen ts with
 | error e => rw [h1] at h; cases h
 | ok y1 =>
  obtain ⟨u1, r1⟩ := y1
  have k1 := takeT_left hE h1 (by omega)
  rw [h1] at h
  simp only at h
  cases h2 : takeK [3] r1 with
  | error e => rw [h2] at h; cases h
  | ok y2 =>
   obtain ⟨a, r2⟩ := y2
   have k2 := takeK_left k1.1 h2 (by simp)
   rw [h2] at h
   simp only at h
   split at h
   ·cases h
   ·cases h3 : takeT 2 sComma r2 with
    | error e => rw [h3] at h; cases h
    | ok y3 =>
     obtain ⟨u3, r3⟩ := y3
     have k3 := takeT_left k2.1 h3 (by omega)
     rw [h3] at h
     simp only at h
     cases h4 : takeK [3] r3 with
     | error e => rw [h4] at h; cases h
     | ok y4 =>
      obtain ⟨b, r4⟩ := y4
      have k4 := takeK_left k3.1 h4 (by simp)
      rw [h4] at h
      simp only at h
      cases h5 : takeT 2 sShut r4 with
      | error e => rw [h5] at h; cases h
      | ok y5 =>
       obtain ⟨u5, r5⟩ := y5
       have k5 := takeT_left k4.1 h5 (by omega)
       rw [h5] at h
       simp at h
       obtain ⟨_, rfl⟩ := h
       exact (((k1.trans k2).trans k3).trans k4).trans k5
def contL {σ : Type} (item : σ → List Tok → Re σ) (f : Nat) (s : σ) (r : List Tok) : Re σ := if isSign sSemi r then itemsL item f s (r.drop 1) else .ok (s, r)
theorem itemsL_cont {σ : Type} (item : σ → List Tok → Re σ) (f : Nat) (s : σ) (ts : List Tok) : itemsL item (f + 1) s ts = match item s ts with
  | .error e => .error e
  | .ok (s', r) => contL item f s' r := rfl
theorem itemsL_left {σ : Type} (item : σ → List Tok → Re σ) (hi : ∀ s s' ts r, Ended ts → item s ts = .ok (s', r) → Left ts r) : ∀ f s s' ts r, Ended ts → itemsL item f s ts = .ok (s', r) → Left ts r
 | 0, s, s', ts, r, _, h => by cases h
 | f + 1, s, s', ts, r, hE, h => by
  rw [itemsL_cont] at h
  cases h1 : item s ts with
  | error e => rw [h1] at h; cases h
  | ok y =>
   obtain ⟨s1, r1⟩ := y
   have k1 := hi s s1 ts r1 hE h1
   rw [h1] at h
   simp only [contL] at h
   by_cases hs : isSign sSemi r1 = true
   ·rw [if_pos hs] at h
    have k2 := sign_left k1.1 hs
    exact (k1.trans k2).trans (itemsL_left item hi f s1 s' _ r k2.1 h)
   ·rw [if_neg hs] at h
    simp at h
    obtain ⟨rfl, rfl⟩ := h
    exact k1
def ItTold {σ : Type} (T : TV) (I : σ → Nat → World → Prop) (Fin : World → Prop) : Re σ → Ending → World → Prop
 | .ok (s, r), e, w' => ∃ k, e = .returned (.tuple #[]) ∧ I s k w' ∧ T.ts.drop k = r
 | .error er, e, w' => e = .panicked (faultV er.1 er.2) ∧ Fin w'

theorem skips_cu {W W' : World} {R k k' : Nat} {T : TV} {a1 a2 a3 a4 a5 v1 v2 v3 v4 v5 : Value} (h' : CU W' R T k' a1 a2 a3 a4 a5) (h : CU W R T k v1 v2 v3 v4 v5) (hW : CU W R T k a1 a2 a3 a4 a5) : CU W' R T k' v1 v2 v3 v4 v5 := by
 have e := h.1.symm.trans hW.1
 simp at e
 obtain ⟨rfl, rfl, rfl, rfl, rfl⟩ := e
 exact h'

set_option maxRecDepth 100000 in
set_option maxHeartbeats 4000000 in
theorem itemsRange_any {σ : Type} (item : σ → List Tok → Re σ) (w : World) (R : Nat) (T : TV) (k0 : Nat) (V0 V1 : Nat) (s0 : σ) (f0 : Nat) (I : σ → Nat → World → Prop) (Fin : World → Prop)
  (hi : ∀ s s' ts r, Ended ts → item s ts = .ok (s', r) → Left ts r)
  (hcu : ∀ s k W, I s k W → ∃ v1 v2 v3 v4 v5, CU W R T k v1 v2 v3 v4 v5)
  (hgo : ∀ s k W W', I s k W → (∀ v1 v2 v3 v4 v5, CU W R T k v1 v2 v3 v4 v5 → CU W' R T (k + 1) v1 v2 v3 v4 v5) → Moved W W' R → I s (k + 1) W')
  (hbel : ∀ s k W W', I s k W → Below W.heap.size W W' → I s k W')
  (hit : ∀ s k W, I s k W → Ended (T.ts.drop k) → Calls Tryz.prog 123 #[.pointer (some ⟨V0, 0, none⟩), .pointer (some ⟨V1, 0, none⟩)] W (ItTold T I Fin (item s (T.ts.drop k))))
  (h0 : I s0 k0 w) (hE : Ended (T.ts.drop k0)) (hf : (T.ts.drop k0).length ≤ f0) :
  Calls Tryz.prog 122 #[.pointer (some ⟨R, 0, none⟩), .func (.func 123) #[] #[.pointer (some ⟨V0, 0, none⟩), .pointer (some ⟨V1, 0, none⟩)]] w (ItTold T I Fin (itemsL item (f0 + 1) s0 (T.ts.drop k0))) := by
 have hc0 := hit s0 k0 w h0 hE
 rw [itemsL_cont]
 have HI := Lib.hid hi
 have HCU := Lib.hid hcu
 have HGO := Lib.hid hgo
 have HBEL := Lib.hid hbel
 have HIT := Lib.hid hit
 cases h1 : item s0 (T.ts.drop k0) with
 | error er =>
  rw [h1] at hc0
  clear hi hcu hgo hbel hit h0 hE hf h1
  simp only
  go_enter Tryz.func122, Tryz.ntmps122
  go_wp2_with fail
  refine hc0.mono ?_
  rintro e w1 ⟨rfl, hF⟩
  exact ⟨rfl, rfl, hF⟩
 | ok y =>
  obtain ⟨s1, r1⟩ := y
  rw [h1] at hc0
  have hL := hi s0 s1 _ r1 hE h1
  have hlen : r1.length ≤ f0 := by have := hL.2.1; omega
  have HL := Lib.hid hL
  simp only
  obtain ⟨M, hM⟩ : ∃ M, M = contL item f0 s1 r1 := ⟨_, rfl⟩
  rw [← hM]
  have HM := Lib.hid hM
  clear hi hcu hgo hbel hit h0 hE hf h1 hL hM
  go_enter Tryz.func122, Tryz.ntmps122
  go_wp2_with fail
  refine hc0.mono ?_
  rintro e w1 ⟨k1, rfl, hI1, hr1⟩
  have HI1 := Lib.hid hI1
  have HR1 := Lib.hid hr1
  clear hI1 hr1 hc0
  go_wp2
  go_loopg [7] r1.length (fun g _bv wr => ∃ (s : σ) (k f : Nat), Hid (I s k wr) ∧ Hid (M = contL item f s (T.ts.drop k)) ∧ Hid (Ended (T.ts.drop k)) ∧ (T.ts.drop k).length ≤ g ∧ (T.ts.drop k).length ≤ f)
  case atStart => exact ⟨s1, k1, f0, HI1, Lib.hid (by rw [HR1.out]; exact HM.out), Lib.hid (by rw [HR1.out]; exact HL.out.1), by rw [HR1.out]; exact Nat.le_refl _, by rw [HR1.out]; exact hlen⟩
  case round =>
   obtain ⟨s, k, f, HIk, HMk, HEk, hg, hfk⟩ := hrel
   obtain ⟨v1, v2, v3, v4, v5, hcu⟩ := HCU.out s k wr HIk.out
   have HCK := Lib.hid hcu
   obtain ⟨x, r, hx⟩ := HEk.out.some_
   cases hs : isSign sSemi (x :: r) with
   | false =>
    have hsk := skips_no wr R T k v1 v2 v3 v4 v5 x r sSemi hcu hx hs
    have hMk : M = .ok (s, T.ts.drop k) := by
     have := HMk.out
     unfold contL at this
     rw [hx, hs, if_neg (by simp)] at this
     rw [this, hx]
    have HMk2 := Lib.hid hMk
    clear hcu hx hs hMk
    go_wp2_with (go_at_call 130; refine hsk.mono ?_; rintro e w2 ⟨rfl, hb⟩; have HI2 := Lib.hid (HBEL.out s k wr w2 HIk.out hb); clear hb)
    rw [HMk2.out]
    go_end0
    exact ⟨k, rfl, HI2.out, rfl⟩
   | true =>
    have hsk := skips_yes wr R T k v1 v2 v3 v4 v5 x r sSemi hcu hx hs
    have hL2 := sign_left (ts := T.ts.drop k) HEk.out (by rw [hx]; exact hs)
    have hd : (T.ts.drop k).drop 1 = T.ts.drop (k + 1) := by rw [List.drop_drop]
    rw [hd] at hL2
    have hlen2 := hL2.2.1
    obtain ⟨f', rfl⟩ : ∃ f', f = f' + 1 := ⟨f - 1, by omega⟩
    have hMk : M = match item s (T.ts.drop (k + 1)) with
      | .error e => .error e
      | .ok (s', r) => contL item f' s' r := by
     have := HMk.out
     unfold contL at this
     rw [if_pos (by rw [hx]; exact hs), hd, itemsL_cont] at this
     exact this
    have HE2 := Lib.hid hL2.1
    have hit2 := fun W h => HIT.out s (k + 1) W h HE2.out
    cases h2 : item s (T.ts.drop (k + 1)) with
    | error er =>
     rw [h2] at hMk
     have hit3 : ∀ W, I s (k + 1) W → Calls Tryz.prog 123 #[.pointer (some ⟨V0, 0, none⟩), .pointer (some ⟨V1, 0, none⟩)] W (ItTold T I Fin (.error er)) := fun W h => by have := hit2 W h; rwa [h2] at this
     have HIT3 := Lib.hid hit3
     have HMk2 := Lib.hid hMk
     clear hcu hx hs hMk hit2 hit3 h2 hL2 hd
     go_wp2_with (first
      | (go_at_call 130; refine hsk.mono ?_; rintro e w2 ⟨rfl, hc2, hm2⟩; have HI2 := Lib.hid (HGO.out s k wr w2 HIk.out (fun _ _ _ _ _ h => (skips_cu hc2 h HCK.out)) hm2); clear hc2 hm2)
      | (go_at_call 123; refine (HIT3.out _ HI2.out).mono ?_; rintro e w3 ⟨rfl, hF⟩; rw [HMk2.out]))
     exact ⟨rfl, rfl, hF⟩
    | ok y2 =>
     obtain ⟨s2, r2⟩ := y2
     rw [h2] at hMk
     have hit3 : ∀ W, I s (k + 1) W → Calls Tryz.prog 123 #[.pointer (some ⟨V0, 0, none⟩), .pointer (some ⟨V1, 0, none⟩)] W (ItTold T I Fin (.ok (s2, r2))) := fun W h => by have := hit2 W h; rwa [h2] at this
     have hL3 := HI.out s s2 _ r2 HE2.out h2
     have hlen3 := hL3.2.1
     have HE3 := Lib.hid hL3.1
     have HIT3 := Lib.hid hit3
     have HMk2 := Lib.hid hMk
     clear hcu hx hs hMk hit2 hit3 h2 hL2 hd hL3
     go_wp2_with (first
      | (go_at_call 130; refine hsk.mono ?_; rintro e w2 ⟨rfl, hc2, hm2⟩; have HI2 := Lib.hid (HGO.out s k wr w2 HIk.out (fun _ _ _ _ _ h => (skips_cu hc2 h HCK.out)) hm2); clear hc2 hm2)
      | (go_at_call 123; refine (HIT3.out _ HI2.out).mono ?_; rintro e w3 ⟨k3, rfl, hI3, hr3⟩; have HI3 := Lib.hid hI3; have HR3 := Lib.hid hr3; clear hI3 hr3))
     go_roundg r2.length
     case measure => omega
     case rel => exact ⟨s2, k3, f', HI3, Lib.hid (by rw [HR3.out]; exact HMk2.out), Lib.hid (by rw [HR3.out]; exact HE3.out), by rw [HR3.out]; exact Nat.le_refl _, by rw [HR3.out]; omega⟩

set_option maxRecDepth 100000 in
set_option maxHeartbeats 4000000 in
theorem itemsPair_any {σ : Type} (item : σ → List Tok → Re σ) (w : World) (R : Nat) (T : TV) (k0 : Nat) (V0 V1 V2 : Nat) (s0 : σ) (f0 : Nat) (I : σ → Nat → World → Prop) (Fin : World → Prop)
  (hi : ∀ s s' ts r, Ended ts → item s ts = .ok (s', r) → Left ts r)
  (hcu : ∀ s k W, I s k W → ∃ v1 v2 v3 v4 v5, CU W R T k v1 v2 v3 v4 v5)
  (hgo : ∀ s k W W', I s k W → (∀ v1 v2 v3 v4 v5, CU W R T k v1 v2 v3 v4 v5 → CU W' R T (k + 1) v1 v2 v3 v4 v5) → Moved W W' R → I s (k + 1) W')
  (hbel : ∀ s k W W', I s k W → Below W.heap.size W W' → I s k W')
  (hit : ∀ s k W, I s k W → Ended (T.ts.drop k) → Calls Tryz.prog 127 #[.pointer (some ⟨V0, 0, none⟩), .pointer (some ⟨V1, 0, none⟩), .pointer (some ⟨V2, 0, none⟩)] W (ItTold T I Fin (item s (T.ts.drop k))))
  (h0 : I s0 k0 w) (hE : Ended (T.ts.drop k0)) (hf : (T.ts.drop k0).length ≤ f0) :
  Calls Tryz.prog 122 #[.pointer (some ⟨R, 0, none⟩), .func (.func 127) #[] #[.pointer (some ⟨V0, 0, none⟩), .pointer (some ⟨V1, 0, none⟩), .pointer (some ⟨V2, 0, none⟩)]] w (ItTold T I Fin (itemsL item (f0 + 1) s0 (T.ts.drop k0))) := by
 have hc0 := hit s0 k0 w h0 hE
 rw [itemsL_cont]
 have HI := Lib.hid hi
 have HCU := Lib.hid hcu
 have HGO := Lib.hid hgo
 have HBEL := Lib.hid hbel
 have HIT := Lib.hid hit
 cases h1 : item s0 (T.ts.drop k0) with
 | error er =>
  rw [h1] at hc0
  clear hi hcu hgo hbel hit h0 hE hf h1
  simp only
  go_enter Tryz.func122, Tryz.ntmps122
  go_wp2_with fail
  refine hc0.mono ?_
  rintro e w1 ⟨rfl, hF⟩
  exact ⟨rfl, rfl, hF⟩
 | ok y =>
  obtain ⟨s1, r1⟩ := y
  rw [h1] at hc0
  have hL := hi s0 s1 _ r1 hE h1
  have hlen : r1.length ≤ f0 := by have := hL.2.1; omega
  have HL := Lib.hid hL
  simp only
  obtain ⟨M, hM⟩ : ∃ M, M = contL item f0 s1 r1 := ⟨_, rfl⟩
  rw [← hM]
  have HM := Lib.hid hM
  clear hi hcu hgo hbel hit h0 hE hf h1 hL hM
  go_enter Tryz.func122, Tryz.ntmps122
  go_wp2_with fail
  refine hc0.mono ?_
  rintro e w1 ⟨k1, rfl, hI1, hr1⟩
  have HI1 := Lib.hid hI1
  have HR1 := Lib.hid hr1
  clear hI1 hr1 hc0
  go_wp2
  go_loopg [7] r1.length (fun g _bv wr => ∃ (s : σ) (k f : Nat), Hid (I s k wr) ∧ Hid (M = contL item f s (T.ts.drop k)) ∧ Hid (Ended (T.ts.drop k)) ∧ (T.ts.drop k).length ≤ g ∧ (T.ts.drop k).length ≤ f)
  case atStart => exact ⟨s1, k1, f0, HI1, Lib.hid (by rw [HR1.out]; exact HM.out), Lib.hid (by rw [HR1.out]; exact HL.out.1), by rw [HR1.out]; exact Nat.le_refl _, by rw [HR1.out]; exact hlen⟩
  case round =>
   obtain ⟨s, k, f, HIk, HMk, HEk, hg, hfk⟩ := hrel
   obtain ⟨v1, v2, v3, v4, v5, hcu⟩ := HCU.out s k wr HIk.out
   have HCK := Lib.hid hcu
   obtain ⟨x, r, hx⟩ := HEk.out.some_
   cases hs : isSign sSemi (x :: r) with
   | false =>
    have hsk := skips_no wr R T k v1 v2 v3 v4 v5 x r sSemi hcu hx hs
    have hMk : M = .ok (s, T.ts.drop k) := by
     have := HMk.out
     unfold contL at this
     rw [hx, hs, if_neg (by simp)] at this
     rw [this, hx]
    have HMk2 := Lib.hid hMk
    clear hcu hx hs hMk
    go_wp2_with (go_at_call 130; refine hsk.mono ?_; rintro e w2 ⟨rfl, hb⟩; have HI2 := Lib.hid (HBEL.out s k wr w2 HIk.out hb); clear hb)
    rw [HMk2.out]
    go_end0
    exact ⟨k, rfl, HI2.out, rfl⟩
   | true =>
    have hsk := skips_yes wr R T k v1 v2 v3 v4 v5 x r sSemi hcu hx hs
    have hL2 := sign_left (ts := T.ts.drop k) HEk.out (by rw [hx]; exact hs)
    have hd : (T.ts.drop k).drop 1 = T.ts.drop (k + 1) := by rw [List.drop_drop]
    rw [hd] at hL2
    have hlen2 := hL2.2.1
    obtain ⟨f', rfl⟩ : ∃ f', f = f' + 1 := ⟨f - 1, by omega⟩
    have hMk : M = match item s (T.ts.drop (k + 1)) with
      | .error e => .error e
      | .ok (s', r) => contL item f' s' r := by
     have := HMk.out
     unfold contL at this
     rw [if_pos (by rw [hx]; exact hs), hd, itemsL_cont] at this
     exact this
    have HE2 := Lib.hid hL2.1
    have hit2 := fun W h => HIT.out s (k + 1) W h HE2.out
    cases h2 : item s (T.ts.drop (k + 1)) with
    | error er =>
     rw [h2] at hMk
     have hit3 : ∀ W, I s (k + 1) W → Calls Tryz.prog 127 #[.pointer (some ⟨V0, 0, none⟩), .pointer (some ⟨V1, 0, none⟩), .pointer (some ⟨V2, 0, none⟩)] W (ItTold T I Fin (.error er)) := fun W h => by have := hit2 W h; rwa [h2] at this
     have HIT3 := Lib.hid hit3
     have HMk2 := Lib.hid hMk
     clear hcu hx hs hMk hit2 hit3 h2 hL2 hd
     go_wp2_with (first
      | (go_at_call 130; refine hsk.mono ?_; rintro e w2 ⟨rfl, hc2, hm2⟩; have HI2 := Lib.hid (HGO.out s k wr w2 HIk.out (fun _ _ _ _ _ h => (skips_cu hc2 h HCK.out)) hm2); clear hc2 hm2)
      | (go_at_call 127; refine (HIT3.out _ HI2.out).mono ?_; rintro e w3 ⟨rfl, hF⟩; rw [HMk2.out]))
     exact ⟨rfl, rfl, hF⟩
    | ok y2 =>
     obtain ⟨s2, r2⟩ := y2
     rw [h2] at hMk
     have hit3 : ∀ W, I s (k + 1) W → Calls Tryz.prog 127 #[.pointer (some ⟨V0, 0, none⟩), .pointer (some ⟨V1, 0, none⟩), .pointer (some ⟨V2, 0, none⟩)] W (ItTold T I Fin (.ok (s2, r2))) := fun W h => by have := hit2 W h; rwa [h2] at this
     have hL3 := HI.out s s2 _ r2 HE2.out h2
     have hlen3 := hL3.2.1
     have HE3 := Lib.hid hL3.1
     have HIT3 := Lib.hid hit3
     have HMk2 := Lib.hid hMk
     clear hcu hx hs hMk hit2 hit3 h2 hL2 hd hL3
     go_wp2_with (first
      | (go_at_call 130; refine hsk.mono ?_; rintro e w2 ⟨rfl, hc2, hm2⟩; have HI2 := Lib.hid (HGO.out s k wr w2 HIk.out (fun _ _ _ _ _ h => (skips_cu hc2 h HCK.out)) hm2); clear hc2 hm2)
      | (go_at_call 127; refine (HIT3.out _ HI2.out).mono ?_; rintro e w3 ⟨k3, rfl, hI3, hr3⟩; have HI3 := Lib.hid hI3; have HR3 := Lib.hid hr3; clear hI3 hr3))
     go_roundg r2.length
     case measure => omega
     case rel => exact ⟨s2, k3, f', HI3, Lib.hid (by rw [HR3.out]; exact HMk2.out), Lib.hid (by rw [HR3.out]; exact HE3.out), by rw [HR3.out]; exact Nat.le_refl _, by rw [HR3.out]; omega⟩
end Go.Proofs.YthaibekbefndlaaGreatDoor.C

namespace Go.Proofs.YthaibekbefndlaaGreatDoor.C
open Go.RowKit

theorem pair_new (w : World) (k : Nat) (a b : Value) (t : TypeId) (hk : w.heap.size = k) : ∀ j u, [a, b][j]? = some u → (w.alloc (.cells #[a, b] t)).cell? ((⟨k, 0, none⟩ : Addr).add j) = some u := by
 subst hk
 intro j u hu
 rw [add_plain, Nat.zero_add, World.cell?_alloc_new]
 simpa using hu
theorem infoRange : (Tryz.prog.info? 51).map (fun i => (i.zero, i.size, i.bytes)) = some (some (.agg #[.int .i32 0, .int .i32 0]), 2, 8) := by kernel_rfl
def prsC (l : List (Int × Int)) : List Value := l.flatMap fun x => [.int .i32 x.1, .int .i32 x.2]
theorem prsC_snoc (l : List (Int × Int)) (x : Int × Int) : prsC (l ++ [x]) = prsC l ++ [.int .i32 x.1, .int .i32 x.2] := by simp [prsC]
def One (w : World) (b : Nat) (t : TypeId) (v : Value) : Prop := w.heap[b]? = some (.cells #[v] t (0, 0))
theorem One.cell {w : World} {b : Nat} {t : TypeId} {v : Value} (h : One w b t v) : w.cell? ⟨b, 0, none⟩ = some v := by simp [World.cell?, show w.heap[b]? = _ from h]
theorem One.lt {w : World} {b : Nat} {t : TypeId} {v : Value} (h : One w b t v) : b < w.heap.size := (Array.getElem?_eq_some_iff.1 h).1
theorem One.kept {w w' : World} {row : Option Nat} {b : Nat} {t : TypeId} {v : Value} (h : One w b t v) (hg : w.grownBy w' row) (hne : some b ≠ row) : One w' b t v := (hg.block b h.lt hne).trans h
theorem One.alloc {w : World} {b : Nat} {t : TypeId} {v : Value} (h : One w b t v) (o : Obj) : One (w.alloc o) b t v := (Below.heap_alloc w o b h.lt).trans h
theorem One.far {w : World} {b : Nat} {t : TypeId} {v : Value} (h : One w b t v) {p : Addr} (hp : b ≠ p.block) (u : Value) : One (w.setCell p u) b t v := (Below.heap_setCell w p u b hp).trans h
theorem Two.kept {w w' : World} {row : Option Nat} {b : Nat} {t : TypeId} {u v : Value} (h : Two w b t u v) (hg : w.grownBy w' row) (hne : some b ≠ row) : Two w' b t u v := (hg.block b h.lt hne).trans h
theorem CU.kept {w w' : World} {row : Option Nat} {R k : Nat} {T : TV} {v1 v2 v3 v4 v5 : Value} (h : CU w R T k v1 v2 v3 v4 v5) (hg : w.grownBy w' row) (hr : ∀ g, row = some g → R < g) : CU w' R T k v1 v2 v3 v4 v5 := by
 have hlt := h.lt
 obtain ⟨h1, h2, h3⟩ := h
 refine ⟨(hg.block R hlt (fun e => by have := hr R e.symm; omega)).trans h1, h2.keep fun p hp => World.cell?_of_block (hg.block p.block (by omega) (fun e => by have := hr _ e.symm; omega)), h3⟩
theorem Moved.kept {a w w' : World} {R : Nat} {row : Option Nat} (h : Moved a w R) (hg : w.grownBy w' row) (hr : ∀ g, row = some g → a.heap.size ≤ g) : Moved a w' R :=
 ⟨hg.os.trans h.os, hg.tape.trans h.tape, hg.output.trans h.output, Nat.le_trans h.size hg.size, fun j hj hne => (hg.block j (Nat.lt_of_lt_of_le hj h.size) (fun e => by have := hr j e.symm; omega)).trans (h.block j hj hne)⟩

def RgI (w0 : World) (R : Nat) (T : TV) (v1 v2 v3 v4 v5 : Value) (C Rb : Nat) (nm : Value) (rs : List (Int × Int)) (k : Nat) (w : World) : Prop :=
 CU w R T k v1 v2 v3 v4 v5 ∧ (∃ v, Two w C 47 nm v ∧ w.ownsRow w0.heap.size 51 2 v rs.length (prsC rs)) ∧ One w Rb 88 (.pointer (some ⟨R, 0, none⟩)) ∧ Moved w0 w R
section
variable (w0 : World) (R : Nat) (T : TV) (v1 v2 v3 v4 v5 : Value) (C Rb : Nat) (nm : Value)
theorem RgI.go {w0 : World} {R : Nat} {T : TV} {v1 v2 v3 v4 v5 : Value} {C Rb : Nat} {nm : Value} {rs : List (Int × Int)} {k k' : Nat} {W W' : World} (h : RgI w0 R T v1 v2 v3 v4 v5 C Rb nm rs k W) (hc : CU W' R T k' v1 v2 v3 v4 v5) (hm : Moved W W' R) (hC : C ≠ R) (hRb : Rb ≠ R) : RgI w0 R T v1 v2 v3 v4 v5 C Rb nm rs k' W' := by
 obtain ⟨h1, ⟨v, h2, h3⟩, h4, h5⟩ := h
 refine ⟨hc, ⟨v, h2.moved hm hC, h3.kept hm (.inr ?_)⟩, h4.kept hm (by simpa using hRb), h5.trans hm⟩
 exact fun e => row_ne h3 h1.1 (by decide) e
theorem RgI.below {w0 : World} {R : Nat} {T : TV} {v1 v2 v3 v4 v5 : Value} {C Rb : Nat} {nm : Value} {rs : List (Int × Int)} {k : Nat} {W W' : World} (h : RgI w0 R T v1 v2 v3 v4 v5 C Rb nm rs k W) (hb : Below W.heap.size W W') (hC : C ≠ R) (hRb : Rb ≠ R) : RgI w0 R T v1 v2 v3 v4 v5 C Rb nm rs k W' := h.go (h.1.next hb) (.of_below hb) hC hRb

theorem Two.set1 {w : World} {b : Nat} {t : TypeId} {u v : Value} (h : Two w b t u v) (x : Value) : Two (w.setCell ⟨b, 1, none⟩ x) b t u x := by
 obtain ⟨hlt, hk⟩ := Array.getElem?_eq_some_iff.1 h
 show (w.heap.modify b _)[b]? = _
 rw [Array.getElem?_eq_getElem (by rw [Array.size_modify]; exact hlt), Array.getElem_modify_self, hk]
 rfl
theorem rg_done {w0 w1 w2 : World} {R k1 C Rb g cap : Nat} {T : TV} {v1 v2 v3 v4 v5 nm v : Value} (rs : List (Int × Int)) (x : Int × Int) {o : Obj} (hc : CU w1 R T k1 v1 v2 v3 v4 v5) (ho1 : w1.ownsRow w0.heap.size 51 2 v rs.length (prsC rs))
  (hv : Two w2 C 47 nm v) (hone : One w2 Rb 88 (.pointer (some ⟨R, 0, none⟩))) (ho : w2.ownsRow w0.heap.size 51 2 (.slice (some ⟨g, 0, none⟩) (rs.length + 1) cap) (rs.length + 1) (prsC rs ++ [.int .i32 x.1, .int .i32 x.2]))
  (hg : (w1.alloc o).grownBy w2 v.ownBlock) (hm : Moved w0 w1 R) (hC : w0.heap.size ≤ C) (hRb : Rb < w0.heap.size) (hR : R < w0.heap.size) :
  RgI w0 R T v1 v2 v3 v4 v5 C Rb nm (rs ++ [x]) k1 (w2.setCell ⟨C, 1, none⟩ (.slice (some ⟨g, 0, none⟩) (rs.length + 1) cap)) := by
 have hrow : ∀ b, v.ownBlock = some b → w0.heap.size ≤ b := fun b e => (ho1.lt b e).1
 refine ⟨((hc.alloc o).kept hg (fun b e => by have := hrow b e; omega)).far (p := ⟨C, 1, none⟩) (by show R < C; omega) _, ⟨_, hv.set1 _, ?_⟩, hone.far (p := ⟨C, 1, none⟩) (by show Rb ≠ C; omega) _, ((hm.alloc o).kept hg hrow).fresh (p := ⟨C, 1, none⟩) hC _⟩
 have hne := row_ne ho hv (by decide)
 have := ho.kept (Lib.grownBy_setCell w2 C 1 (.slice (some ⟨g, 0, none⟩) (rs.length + 1) cap)) (.inr hne)
 rw [List.length_append, prsC_snoc]
 exact this

set_option maxRecDepth 100000 in
set_option maxHeartbeats 4000000 in
theorem rangeItem_any (w : World) (rs : List (Int × Int)) (k : Nat) (h : RgI w0 R T v1 v2 v3 v4 v5 C Rb nm rs k w) (hN : NumOk T) (hE : Ended (T.ts.drop k)) (hC : w0.heap.size ≤ C) (hRb : Rb < w0.heap.size) (hRR : Rb ≠ R) (hR : R < w0.heap.size) (hrs : rs.length ≤ 2000) :
  Calls Tryz.prog 123 #[.pointer (some ⟨C, 0, none⟩), .pointer (some ⟨Rb, 0, none⟩)] w (ItTold T (RgI w0 R T v1 v2 v3 v4 v5 C Rb nm) (fun w' => Moved w0 w' R) (rangeL rs (T.ts.drop k))) := by
 have H := Lib.hid h
 obtain ⟨hcu, ⟨v, hv, hown⟩, hone, hmv⟩ := h
 obtain ⟨_, q1⟩ := hv.cells
 have q2 := hone.cell
 have hsc := fun W hc => scalars_any W R T k v1 v2 v3 v4 v5 hc hN hE
 have HSC := Lib.hid hsc
 have HCU := Lib.hid hcu
 rw [rangeL_scal]
 cases hs : scalL (T.ts.drop k) with
 | error er =>
  have hsc2 : ∀ W, CU W R T k v1 v2 v3 v4 v5 → Calls Tryz.prog 124 #[.pointer (some ⟨R, 0, none⟩)] W (ReTold W R T v1 v2 v3 v4 v5 pairV (.error er)) := fun W hc => by have := HSC.out W hc; rwa [hs] at this
  have HSC2 := Lib.hid hsc2
  have HMV := Lib.hid hmv
  clear hsc hv hown hone hcu hs hmv hsc2
  simp only
  go_enter Tryz.func123, Tryz.ntmps123
  go_wp2
  go_region_with ((go_at_call 124; refine (HSC2.out _ HCU.out.drew).mono ?_; rintro e w4 ⟨rfl, hm4⟩; (suffices _hh : wpAny Tryz.prog .any #[] (fun _ _ _ => True) 0 #[] ⟨#[], []⟩ w4 from ⟨rfl, rfl, HMV.out.drew.trans hm4⟩)))
  all_goals exact True.intro
 | ok y =>
  obtain ⟨x, r⟩ := y
  have hsc2 : Calls Tryz.prog 124 #[.pointer (some ⟨R, 0, none⟩)] w.drew (ReTold w.drew R T v1 v2 v3 v4 v5 pairV (.ok (x, r))) := by have := HSC.out w.drew hcu.drew; rwa [hs] at this
  have HV : Hid (Two w.drew C 47 nm v) := Lib.hid hv
  have HOWN : Hid (w.drew.ownsRow w0.heap.size 51 2 v rs.length (prsC rs)) := Lib.hid hown
  have HONE : Hid (One w.drew Rb 88 (.pointer (some ⟨R, 0, none⟩))) := Lib.hid hone
  have hCR : C ≠ R := by omega
  have hRR' : some Rb ≠ some R := by simpa using hRR
  have HNE := Lib.hid (row_ne hown hcu.1 (by decide))
  have HNC := Lib.hid (row_ne hown hv (by decide)).symm
  have HNR := Lib.hid (row_ne hown hone (by decide)).symm
  have hsz := hmv.size
  have HMV := Lib.hid hmv
  clear hsc hv hown hone hcu hs hmv
  simp only
  obtain ⟨i0, hi, hz0, hz1, hz2⟩ := info_parts infoRange
  go_enter Tryz.func123, Tryz.ntmps123
  go_wp2
  go_region_law
   ((first
    | (go_simp; go_at_call 124; refine hsc2.mono ?_; rintro e w1 ⟨k1, rfl, hc1, hr1, hm1⟩; (have HV1 := Lib.hid (HV.out.moved hm1 hCR)); (have p1 := HV1.out.cells.2); (have HONE1 := Lib.hid (HONE.out.kept hm1 hRR')); (have p2 := HONE1.out.cell); (have hlC := HV1.out.lt); (have hlR := HONE1.out.lt); (have hs1 := hm1.size); (have hs1' : w0.heap.size ≤ w1.heap.size := by have := hs1; simp at this; omega); (have HOWN1 := Lib.hid (HOWN.out.kept hm1 (.inr HNE.out))); (have HC1 := Lib.hid hc1); (have HR1 := Lib.hid hr1); (have HM1 := Lib.hid hm1); clear hc1 hr1 hm1; unfold pairV; go_simp)
    | (refine step_append_lies _ (by rfl) _ _ _ (by rfl) w0.heap.size 51 i0 (.agg #[.int .i32 0, .int .i32 0]) 2 8 Tryz.underlying45 hi hz0 hz1 hz2 rfl (by decide) v rs.length (prsC rs) (by rfl) (HOWN1.out.alloc _) ⟨w1.heap.size, 0, none⟩ 1 1 [.int .i32 x.1, .int .i32 x.2] (by rfl) (by rfl) (pair_new _ _ _ _ _ (by simp)) (by intro u hu; simp at hu; rcases hu with rfl | rfl <;> rfl) (by omega) (by unfold maxLen; omega) (by omega) (by simp; omega) (w1.heap.size + 1) (by simp) ?_; intro g cap w2 hown2 hgrow hat hlt2; (have HV2 := Lib.hid ((HV1.out.alloc (.cells #[.int .i32 x.1, .int .i32 x.2] 51)).kept hgrow HNC.out)); (have HONE2 := Lib.hid ((HONE1.out.alloc (.cells #[.int .i32 x.1, .int .i32 x.2] 51)).kept hgrow HNR.out)); (have p3 := HV2.out.cells.2); (have p4 := HONE2.out.cell); (have p5 := HV2.out.frozen 1); (have HOWN2 := Lib.hid hown2); (have HGR := Lib.hid hgrow); (have HAT := Lib.hid hat); clear hown2 hgrow hat)))
  all_goals
   go_end0
   exact ⟨k1, rfl, rg_done rs x HC1.out HOWN1.out HV2.out HONE2.out HOWN2.out HGR.out (HMV.out.drew.trans HM1.out) hC hRb hR, HR1.out⟩
end
end Go.Proofs.YthaibekbefndlaaGreatDoor.C

namespace Go.Proofs.YthaibekbefndlaaGreatDoor.C
open Go.RowKit

structure Fr (w w' : World) (X : Nat → Prop) : Prop where
 os : w'.os = w.os
 tape : w'.tape = w.tape
 output : w'.output = w.output
 size : w.heap.size ≤ w'.heap.size
 block : ∀ b, b < w.heap.size → ¬ X b → w'.heap[b]? = w.heap[b]?
section
variable {a b c w w' : World} {X Y : Nat → Prop}
theorem Fr.of_moved {R : Nat} (h : Moved w w' R) : Fr w w' (· = R) := ⟨h.os, h.tape, h.output, h.size, fun j hj hn => h.block j hj (fun e => hn (by injection e))⟩
theorem Fr.of_grown {row : Option Nat} (h : w.grownBy w' row) : Fr w w' (fun j => row = some j) := ⟨h.os, h.tape, h.output, h.size, fun j hj hn => h.block j hj (fun e => hn e.symm)⟩
theorem Fr.of_below (h : Below w.heap.size w w') : Fr w w' X := ⟨h.os, h.tape, h.output, h.size, fun j hj _ => h.block j hj⟩
theorem Fr.trans (h : Fr a b X) (k : Fr b c X) : Fr a c X := ⟨k.os.trans h.os, k.tape.trans h.tape, k.output.trans h.output, Nat.le_trans h.size k.size, fun j hj hn => (k.block j (Nat.lt_of_lt_of_le hj h.size) hn).trans (h.block j hj hn)⟩
theorem Fr.mono (h : Fr a b X) (hX : ∀ j, j < a.heap.size → X j → Y j) : Fr a b Y := ⟨h.os, h.tape, h.output, h.size, fun j hj hn => h.block j hj (fun hx => hn (hX j hj hx))⟩
theorem Fr.next (h : Fr a b X) (k : Fr b c Y) (hY : ∀ j, j < a.heap.size → Y j → X j) : Fr a c X := ⟨k.os.trans h.os, k.tape.trans h.tape, k.output.trans h.output, Nat.le_trans h.size k.size, fun j hj hn => (k.block j (Nat.lt_of_lt_of_le hj h.size) (fun hy => hn (hY j hj hy))).trans (h.block j hj hn)⟩
theorem Fr.alloc (h : Fr a b X) (o : Obj) : Fr a (b.alloc o) X := h.trans (.of_below ((Below.refl _ _).alloc (Nat.le_refl _) o))
theorem Fr.drew (h : Fr a b X) : Fr a b.drew X := ⟨h.os, h.tape, h.output, h.size, h.block⟩
theorem Fr.set (h : Fr a b X) (p : Addr) (u : Value) (hp : p.block < a.heap.size → X p.block) : Fr a (b.setCell p u) X :=
 ⟨h.os, h.tape, h.output, by simpa [World.setCell] using h.size, fun j hj hn => (Below.heap_setCell b p u j (fun e => hn (e ▸ hp (e ▸ hj)))).trans (h.block j hj hn)⟩
theorem Fr.below {B : Nat} (h : Fr a b X) (hX : ∀ j, j < a.heap.size → X j → B ≤ j) (hB : B ≤ a.heap.size) : Below B a b := ⟨h.os, h.tape, h.output, h.size, fun j hj => h.block j (by omega) (fun hx => by have := hX j (by omega) hx; omega)⟩
theorem ownsRow_fr {base size n : Nat} {e : TypeId} {v : Value} {xs : List Value} (h : w.ownsRow base e size v n xs) (hf : Fr w w' X) (hx : ∀ g, v.ownBlock = some g → ¬ X g) : w'.ownsRow base e size v n xs := by
 have hl := h.lt
 obtain ⟨h1, h2⟩ := h
 refine ⟨h1, h2.imp id ?_⟩
 rintro ⟨g, cap, cur, rfl, hg, hh, r⟩
 exact ⟨g, cap, cur, rfl, hg, (hf.block g (hl g rfl).2 (hx g rfl)).trans hh, r⟩
theorem One.fr {j : Nat} {t : TypeId} {v : Value} (h : One w j t v) (hf : Fr w w' X) (hx : ¬ X j) : One w' j t v := (hf.block j h.lt hx).trans h
theorem Two.fr {j : Nat} {t : TypeId} {u v : Value} (h : Two w j t u v) (hf : Fr w w' X) (hx : ¬ X j) : Two w' j t u v := (hf.block j h.lt hx).trans h
theorem CU.fr {R k : Nat} {T : TV} {v1 v2 v3 v4 v5 : Value} (h : CU w R T k v1 v2 v3 v4 v5) (hf : Fr w w' X) (hx : ∀ j, X j → R < j) : CU w' R T k v1 v2 v3 v4 v5 := by
 have hlt := h.lt
 obtain ⟨h1, h2, h3⟩ := h
 refine ⟨(hf.block R hlt (fun e => by have := hx R e; omega)).trans h1, h2.keep fun p hp => World.cell?_of_block (hf.block p.block (by omega) (fun e => by have := hx _ e; omega)), h3⟩
theorem One.drew {j : Nat} {t : TypeId} {v : Value} (h : One w j t v) : One w.drew j t v := h
theorem MapIs.fr {M : Nat} {kd : TypeDesc} {l : List (Value × Value)} (h : MapIs w M kd l) (hf : Fr w w' X) (hx : ¬ X M) : MapIs w' M kd l := h.at_ (hf.block M h.lt hx)
theorem FT.lt {t : TypeId} {kd : TypeDesc} {A M : Nat} {keys : List Value} (h : FT w t kd A M keys) : A < w.heap.size := (Array.getElem?_eq_some_iff.1 h.1).1
theorem FT.fr {t : TypeId} {kd : TypeDesc} {A M : Nat} {keys : List Value} (h : FT w t kd A M keys) (hf : Fr w w' X) (hA : ¬ X A) (hM : ¬ X M) : FT w' t kd A M keys := h.next (hf.block A h.lt hA) (hf.block M h.2.lt hM)
end
theorem CU.one {w : World} {R k : Nat} {T : TV} {v1 v2 v3 v4 v5 : Value} (h : CU w R T k v1 v2 v3 v4 v5) (i : Nat) : w.frozen? ⟨R, i, none⟩ = false := by simp [World.frozen?, h.1]
theorem set_row {w : World} {R i : Nat} {l : List Value} {t : TypeId} (h : w.heap[R]? = some (.cells l.toArray t (0, 0))) (u : Value) : (w.setCell ⟨R, i, none⟩ u).heap[R]? = some (.cells (l.set i u).toArray t (0, 0)) := by
 obtain ⟨hlt, hk⟩ := Array.getElem?_eq_some_iff.1 h
 show (w.heap.modify R _)[R]? = _
 rw [Array.getElem?_eq_getElem (by rw [Array.size_modify]; exact hlt), Array.getElem_modify_self, hk]
 simp
theorem TI.fr_set {w : World} {R k : Nat} {T : TV} {v1 v2 v3 v4 v5 : Value} (h : CU w R T k v1 v2 v3 v4 v5) (i : Nat) (u : Value) : TI (w.setCell ⟨R, i, none⟩ u) R T.A T.n T.ts :=
 h.2.1.keep fun p hp => World.cell?_of_block (Below.heap_setCell w ⟨R, i, none⟩ u p.block (by show p.block ≠ R; omega))
theorem CU.set1 {w : World} {R k : Nat} {T : TV} {v1 v2 v3 v4 v5 : Value} (h : CU w R T k v1 v2 v3 v4 v5) (u : Value) : CU (w.setCell ⟨R, 2, none⟩ u) R T k u v2 v3 v4 v5 := ⟨set_row (i := 2) (l := [_, _, _, _, _, _, _]) h.1 u, TI.fr_set h 2 u, h.2.2⟩
theorem CU.set2 {w : World} {R k : Nat} {T : TV} {v1 v2 v3 v4 v5 : Value} (h : CU w R T k v1 v2 v3 v4 v5) (u : Value) : CU (w.setCell ⟨R, 3, none⟩ u) R T k v1 u v3 v4 v5 := ⟨set_row (i := 3) (l := [_, _, _, _, _, _, _]) h.1 u, TI.fr_set h 3 u, h.2.2⟩
theorem CU.set3 {w : World} {R k : Nat} {T : TV} {v1 v2 v3 v4 v5 : Value} (h : CU w R T k v1 v2 v3 v4 v5) (u : Value) : CU (w.setCell ⟨R, 4, none⟩ u) R T k v1 v2 u v4 v5 := ⟨set_row (i := 4) (l := [_, _, _, _, _, _, _]) h.1 u, TI.fr_set h 4 u, h.2.2⟩
theorem CU.set4 {w : World} {R k : Nat} {T : TV} {v1 v2 v3 v4 v5 : Value} (h : CU w R T k v1 v2 v3 v4 v5) (u : Value) : CU (w.setCell ⟨R, 5, none⟩ u) R T k v1 v2 v3 u v5 := ⟨set_row (i := 5) (l := [_, _, _, _, _, _, _]) h.1 u, TI.fr_set h 5 u, h.2.2⟩

def clsC (cs : List Cls) (vs : List Value) : List Value := (cs.zip vs).flatMap fun x => [.string (str x.1.name), x.2]
theorem clsC_snoc {cs : List Cls} {vs : List Value} (h : vs.length = cs.length) (c : Cls) (v : Value) : clsC (cs ++ [c]) (vs ++ [v]) = clsC cs vs ++ [.string (str c.name), v] := by
 unfold clsC
 rw [List.zip_append h.symm]
 simp
def ClsAt (w : World) (lo : Nat) (v : Value) (cs : List Cls) : Prop :=
 ∃ vs : List Value, vs.length = cs.length ∧ w.ownsRow lo 47 2 v cs.length (clsC cs vs) ∧ ∀ (i : Nat) (c : Cls) (x : Value), cs[i]? = some c → vs[i]? = some x → w.ownsRow lo 51 2 x c.rs.length (prsC c.rs)
theorem ClsAt.nil (w : World) (lo : Nat) : ClsAt w lo (.slice none 0 0) [] := ⟨[], rfl, ⟨rfl, .inl ⟨rfl, rfl⟩⟩, by simp⟩
theorem ownsRow_ty {w : World} {base size n : Nat} {e : TypeId} {v : Value} {xs : List Value} (h : w.ownsRow base e size v n xs) {g : Nat} (hg : v.ownBlock = some g) : ∃ c, w.heap[g]? = some (.cells c e (0, 0)) := by
 rcases h.2 with ⟨rfl, _⟩ | ⟨g', cap, cur, rfl, _, hh, _⟩
 ·cases hg
 ·injection hg with hg
  subst hg
  exact ⟨cur, hh⟩
theorem ClsAt.fr {w w' : World} {X : Nat → Prop} {lo : Nat} {v : Value} {cs : List Cls} (h : ClsAt w lo v cs) (hf : Fr w w' X) (hx : ∀ g c z t, X g → w.heap[g]? = some (.cells c t z) → t ≠ 47 ∧ t ≠ 51) : ClsAt w' lo v cs := by
 obtain ⟨vs, h1, h2, h3⟩ := h
 refine ⟨vs, h1, ownsRow_fr h2 hf ?_, fun i c x hc hv => ownsRow_fr (h3 i c x hc hv) hf ?_⟩
 ·intro g hg hX
  obtain ⟨c, hc⟩ := ownsRow_ty h2 hg
  exact (hx g _ _ _ hX hc).1 rfl
 ·intro g hg hX
  obtain ⟨c, hc⟩ := ownsRow_ty (h3 i c x hc hv) hg
  exact (hx g _ _ _ hX hc).2 rfl
theorem ClsAt.frR {w w' : World} {R k : Nat} {T : TV} {v1 v2 v3 v4 v5 : Value} {lo : Nat} {v : Value} {cs : List Cls} (h : ClsAt w lo v cs) (hc : CU w R T k v1 v2 v3 v4 v5) (hf : Fr w w' (· = R)) : ClsAt w' lo v cs := h.fr hf (by
 rintro g c z t rfl hg
 rw [hc.1] at hg
 simp at hg
 obtain ⟨-, rfl, -⟩ := hg
 decide)
theorem ClsAt.frM {w w' : World} {M : Nat} {kd : TypeDesc} {l : List (Value × Value)} {lo : Nat} {v : Value} {cs : List Cls} (h : ClsAt w lo v cs) (hm : MapIs w M kd l) (hf : Fr w w' (· = M)) : ClsAt w' lo v cs := h.fr hf (by
 rintro g c z t rfl hg
 obtain ⟨es, q, h1, _⟩ := hm
 rw [h1] at hg
 cases hg)
theorem ClsAt.next {w w' : World} {lo : Nat} {v : Value} {cs : List Cls} (h : ClsAt w lo v cs) (hb : Below w.heap.size w w') : ClsAt w' lo v cs := h.fr (X := fun _ => False) (.of_below hb) (by rintro _ _ _ _ ⟨⟩)
theorem ClsAt.snoc {w w' : World} {lo g cap : Nat} {v x : Value} {cs : List Cls} {vs : List Value} (c : Cls) (h1 : vs.length = cs.length) (h2 : w.ownsRow lo 47 2 v cs.length (clsC cs vs)) (h3 : ∀ (i : Nat) (c : Cls) (x : Value), cs[i]? = some c → vs[i]? = some x → w.ownsRow lo 51 2 x c.rs.length (prsC c.rs))
  (hx : w.ownsRow lo 51 2 x c.rs.length (prsC c.rs))
  (hg : w.grownBy w' v.ownBlock) (ho : w'.ownsRow lo 47 2 (.slice (some ⟨g, 0, none⟩) (cs.length + 1) cap) (cs.length + 1) (clsC cs vs ++ [.string (str c.name), x])) :
  ClsAt w' lo (.slice (some ⟨g, 0, none⟩) (cs.length + 1) cap) (cs ++ [c]) := by
 have key : ∀ {n : Nat} {u : Value} {xs : List Value}, w.ownsRow lo 51 2 u n xs → w'.ownsRow lo 51 2 u n xs := fun hu => hu.kept hg (by
  rcases hb : (Value.ownBlock _) with _ | g1
  ·exact .inl rfl
  ·refine .inr fun e => ?_
   obtain ⟨c1, hc1⟩ := ownsRow_ty hu hb
   obtain ⟨c2, hc2⟩ := ownsRow_ty h2 e.symm
   rw [hc1] at hc2
   injection hc2 with hc2
   injection hc2 with _ hc2
   cases hc2)
 refine ⟨vs ++ [x], by simp [h1], by rw [clsC_snoc h1, List.length_append]; exact ho, ?_⟩
 intro i d y hd hy
 rcases Nat.lt_or_ge i cs.length with hi | hi
 ·rw [List.getElem?_append_left hi] at hd
  rw [List.getElem?_append_left (by omega)] at hy
  exact key (h3 i d y hd hy)
 ·rw [List.getElem?_append_right hi] at hd
  rw [List.getElem?_append_right (by omega), h1] at hy
  have e0 : i - cs.length = 0 := by
   rcases hq : i - cs.length with _ | q
   ·rfl
   ·rw [hq] at hd
    simp at hd
  rw [e0] at hd hy
  simp at hd hy
  subst hd hy
  exact key hx
end Go.Proofs.YthaibekbefndlaaGreatDoor.C

namespace Go.Proofs.YthaibekbefndlaaGreatDoor.C
open Go.RowKit

def clsL (cs : List Cls) (ts : List Tok) : Re (List Cls) :=
 match takeK [1] ts with
 | .error e => .error e
 | .ok (n, r) => if n.t ∈ cs.map Cls.name then .error (32, n.at_) else
  match itemsL rangeL (r.length + 1) [] r with
  | .error e => .error e
  | .ok (rs, r') => .ok (cs ++ [⟨n.t, rs⟩], r')
theorem classL_cls (s : Sta) (ts : List Tok) : classL s ts = match clsL s.l.cls ts with
 | .error e => .error e
 | .ok (cs, r) => .ok ({ s with l := { s.l with cls := cs } }, r) := by
 unfold classL clsL
 cases takeK [1] ts with
 | error e => rfl
 | ok y =>
  obtain ⟨n, r⟩ := y
  simp only
  by_cases hn : n.t ∈ List.map Cls.name s.l.cls
  ·rw [if_pos hn, if_pos hn]
  ·rw [if_neg hn, if_neg hn]
   cases itemsL rangeL (r.length + 1) [] r <;> rfl
theorem rangeL_len {rs rs' : List (Int × Int)} {ts r : List Tok} (h : rangeL rs ts = .ok (rs', r)) : rs'.length = rs.length + 1 := by
 rw [rangeL_scal] at h
 cases hs : scalL ts with
 | error e => rw [hs] at h; cases h
 | ok y =>
  obtain ⟨x, r1⟩ := y
  rw [hs] at h
  simp at h
  obtain ⟨rfl, rfl⟩ := h
  simp
theorem drop_more {T : TV} {k k' : Nat} (h : (T.ts.drop k').length < (T.ts.drop k).length) : k < k' := by
 rw [List.length_drop, List.length_drop] at h
 omega
def namesV (cs : List Cls) : List Value := cs.map fun c => .string (str c.name)
theorem names_in {cs : List Cls} {n : List UInt8} : Value.string (str n) ∈ namesV cs ↔ n ∈ cs.map Cls.name := by
 unfold namesV
 rw [List.mem_map, List.mem_map]
 constructor
 ·rintro ⟨c, hc, he⟩
  injection he with he
  exact ⟨c, hc, str_inj he⟩
 ·rintro ⟨c, hc, he⟩
  exact ⟨c, hc, by rw [he]⟩

section
variable (w : World) (R : Nat) (T : TV) (k : Nat) (v1 v2 v3 v4 v5 : Value) (Rb : Nat) (nm : Value)
theorem clsItems (hc : CU w R T k v1 v2 v3 v4 v5) (hone : One w Rb 88 (.pointer (some ⟨R, 0, none⟩))) (hN : NumOk T) (hE : Ended (T.ts.drop k)) (hRR : Rb ≠ R) :
  Calls Tryz.prog 122 #[.pointer (some ⟨R, 0, none⟩), .func (.func 123) #[] #[.pointer (some ⟨w.heap.size, 0, none⟩), .pointer (some ⟨Rb, 0, none⟩)]] (w.alloc (.cells #[nm, .slice none 0 0] 47))
   (ItTold T (fun rs k' w' => RgI w R T v1 v2 v3 v4 v5 w.heap.size Rb nm rs k' w' ∧ rs.length ≤ k') (fun w' => Moved w w' R) (itemsL rangeL ((T.ts.drop k).length + 1) [] (T.ts.drop k))) := by
 have hR := hc.lt
 have hb := hone.lt
 refine itemsRange_any rangeL _ R T k w.heap.size Rb [] (T.ts.drop k).length _ _ (fun s s' ts r hE h => rangeL_left hE h) ?_ ?_ ?_ ?_ ?_ hE (Nat.le_refl _)
 ·intro s k W h
  exact ⟨_, _, _, _, _, h.1.1⟩
 ·intro s k W W' h hn hm
  exact ⟨h.1.go (hn _ _ _ _ _ h.1.1) hm (by omega) hRR, by have := h.2; omega⟩
 ·intro s k W W' h hb'
  exact ⟨h.1.below hb' (by omega) hRR, h.2⟩
 ·intro s k W h hE'
  have hk := h.1.1.2.2
  have := rangeItem_any w R T v1 v2 v3 v4 v5 w.heap.size Rb nm W s k h.1 hN hE' (Nat.le_refl _) hb hRR hR (by have := h.2; omega)
  refine this.mono ?_
  intro e w' he
  cases hr : rangeL s (T.ts.drop k) with
  | error er => rw [hr] at he; exact he
  | ok y =>
   obtain ⟨rs', r'⟩ := y
   rw [hr] at he
   obtain ⟨k', h1, h2, h3⟩ := he
   refine ⟨k', h1, ⟨h2, ?_⟩, h3⟩
   have h4 := rangeL_len hr
   have h5 := (rangeL_left hE' hr).2.1
   rw [← h3] at h5
   have := drop_more h5
   have := h.2
   omega
 ·exact ⟨⟨hc.alloc _, ⟨_, Two.new w _ _ _, rfl, .inl ⟨rfl, rfl⟩⟩, hone.alloc _, (Moved.refl w R).alloc _⟩, Nat.zero_le _⟩
end

def ClTold (w : World) (lo R : Nat) (T : TV) (v1 v2 v3 v4 v5 : Value) (A M : Nat) : Re (List Cls) → Ending → World → Prop
 | .ok (cs, r), e, w' => ∃ k u1, e = .returned (.tuple #[]) ∧ CU w' R T k u1 v2 v3 v4 v5 ∧ T.ts.drop k = r ∧ ClsAt w' lo u1 cs ∧ FT w' 151 .string A M (namesV cs) ∧ Fr w w' (fun j => j = R ∨ j = M ∨ v1.ownBlock = some j)
 | .error er, e, w' => e = .panicked (faultV er.1 er.2) ∧ Fr w w' (fun j => j = R ∨ j = M ∨ v1.ownBlock = some j)
theorem infoClass : (Tryz.prog.info? 47).map (fun i => (i.zero, i.size, i.bytes)) = some (some (.agg #[.string (str []), .slice none 0 0]), 2, 40) := by kernel_rfl
end Go.Proofs.YthaibekbefndlaaGreatDoor.C
