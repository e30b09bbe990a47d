/-
  Joined: LdO. Each with what its own head says.
-/
import Derived.Test.YthaibekbefndlaaGreatDoorH23

namespace Go.Proofs.YthaibekbefndlaaGreatDoor.C
open Go.RowKit

def lineX (s : Sta) (w : Tok) (r : List Tok) : Re Sta := if w.t = wClass then classL s r else if w.t = wUpper then upperL s r else if w.t = wLower then lowerL s r else if w.t = wElem then elementL s r else if w.t = wOrder then orderL s r else .error (30, w.at_)
theorem lineL_x (s : Sta) {w : Tok} {r : List Tok} (h : w.k = 1) : lineL s (w :: r) = match lineX s w r with
  | .error e => .error e
  | .ok (s', r') => match takeK [6] r' with
   | .error e => .error e
   | .ok (_, r'') => .ok (s', r'') := by
 rw [lineL, takeK, if_pos (by simpa using h)]
 rfl
theorem lineX_left {s s' : Sta} {w : Tok} {ts r : List Tok} (hE : Ended ts) (ho : s.l.ord.length ≤ 500) (h : lineX s w ts = .ok (s', r)) : Left ts r := by
 unfold lineX at h
 split at h
 ·rw [classL_cls] at h
  cases hx : clsL s.l.cls ts with
  | error e => rw [hx] at h; cases h
  | ok y =>
   obtain ⟨a, b⟩ := y
   rw [hx] at h
   simp at h
   obtain ⟨_, rfl⟩ := h
   exact (clsL_left hE hx).1
 ·split at h
  ·unfold upperL at h
   cases hx : itemsL pairL (ts.length + 1) s.l.up ts with
   | error e => rw [hx] at h; cases h
   | ok y =>
    obtain ⟨a, b⟩ := y
    rw [hx] at h
    simp at h
    obtain ⟨_, rfl⟩ := h
    exact itemsL_left pairL (fun s s' ts r hE h => pairL_left hE h) _ _ _ _ _ hE hx
  ·split at h
   ·unfold lowerL at h
    cases hx : itemsL pairL (ts.length + 1) s.l.lo ts with
    | error e => rw [hx] at h; cases h
    | ok y =>
     obtain ⟨a, b⟩ := y
     rw [hx] at h
     simp at h
     obtain ⟨_, rfl⟩ := h
     exact itemsL_left pairL (fun s s' ts r hE h => pairL_left hE h) _ _ _ _ _ hE hx
   ·split at h
    ·rw [elementL_elm] at h
     cases hx : elmL s.d ts with
     | error e => rw [hx] at h; cases h
     | ok y =>
      obtain ⟨a, b⟩ := y
      rw [hx] at h
      simp at h
      obtain ⟨_, rfl⟩ := h
      exact elmL_left hE hx
    ·split at h
     ·rw [orderL_ord] at h
      cases hx : ordL s.d s.l.ord ts with
      | error e => rw [hx] at h; cases h
      | ok y =>
       obtain ⟨a, b⟩ := y
       rw [hx] at h
       simp at h
       obtain ⟨_, rfl⟩ := h
       exact (ordL_left hE ho hx).1
     ·cases h
def Rest (ts : List Tok) : Prop := ts = [] ∨ Ended ts
theorem Rest.tail {x : Tok} {r : List Tok} (h : Ended (x :: r)) : Rest r := by
 obtain ⟨p, y, he, hy⟩ := h
 cases p with
 | nil =>
  simp at he
  exact .inl he.2
 | cons a p =>
  simp at he
  exact .inr ⟨p, y, he.2, hy⟩
theorem zeroFunc (w : World) : (zeroValue 1).run Tryz.prog w = .ok .nilFunc w := by kernel_rfl
def LocAt (w : World) (lo : Nat) (v1 v2 v3 v4 : Value) (l : Loc) : Prop := ClsAt w lo v1 l.cls ∧ w.ownsRow lo 49 2 v2 l.up.length (prsC l.up) ∧ w.ownsRow lo 49 2 v3 l.lo.length (prsC l.lo) ∧ OrdAt w lo v4 l.ord
theorem LocAt.nil (w : World) (lo : Nat) : LocAt w lo (.slice none 0 0) (.slice none 0 0) (.slice none 0 0) (.slice none 0 0) noL := ⟨ClsAt.nil w lo, World.ownsRow_nil _ _ _ _, World.ownsRow_nil _ _ _ _, OrdAt.nil w lo⟩
def ReaTold (T : TV) (B R Md : Nat) (w : World) : Except Er Loc → Ending → World → Prop
 | .ok l, e, w' => ∃ k v1 v2 v3 v4, e = .returned (.tuple #[]) ∧ CU w' R T k v1 v2 v3 v4 (.map (some Md)) ∧ LocAt w' w.heap.size v1 v2 v3 v4 l ∧ Fr w w' (fun j => B ≤ j)
 | .error er, e, w' => e = .panicked (faultV er.1 er.2) ∧ Fr w w' (fun j => B ≤ j)
set_option maxRecDepth 100000 in
set_option maxHeartbeats 4000000 in
theorem read_lines (w : World) (T : TV) (B R Md : Nat) (hN : NumOk T) (hXT : TxtOk T) (hT : Rest T.ts) (hcl : Calls Tryz.prog 36 #[.pointer (some ⟨R, 0, none⟩)] w fun e w' => ∃ q : Pl, q.R = R ∧ q.B = B ∧ q.Md = Md ∧ q.lo = w.heap.size ∧ PlOk q ∧ e = .returned (.map (some q.ML)) ∧ RdS T q ⟨noL, []⟩ 0 (.slice none 0 0) (.slice none 0 0) (.slice none 0 0) (.slice none 0 0) w' ∧ Fr w w' (fun j => q.B ≤ j)) :
  Calls Tryz.prog 21 #[.pointer (some ⟨R, 0, none⟩)] w (ReaTold T B R Md w (readL T.ts)) := by
 have HN := Lib.hid hN
 have HXT := Lib.hid hXT
 have HT := Lib.hid hT
 obtain ⟨X, hX⟩ : ∃ X, X = readL T.ts := ⟨_, rfl⟩
 rw [← hX]
 unfold readL at hX
 have HX := Lib.hid hX
 clear hN hXT hT hX
 go_enter Tryz.func21, Tryz.ntmps21
 go_wp2_with fail
 refine hcl.mono ?_
 rintro e w1 ⟨q, rfl, rfl, rfl, hlo, hq, rfl, hs1, hf1⟩
 have HQ := Lib.hid hq
 have HLO := Lib.hid hlo
 have HS := Lib.hid hs1
 have HF := Lib.hid hf1
 clear hs1 hf1 hcl hq hlo
 go_wp2
 go_loopg [] T.ts.length (fun g wr => ∃ (s : Sta) (k f : Nat) (v1 v2 v3 v4 : Value), Hid (RdS T q s k v1 v2 v3 v4 wr) ∧ Hid (X = linesL f s (T.ts.drop k)) ∧ Hid (Rest (T.ts.drop k)) ∧ (T.ts.drop k).length ≤ g ∧ (T.ts.drop k).length < f ∧ Hid (Fr w wr (fun j => q.B ≤ j)))
 case atStart => exact ⟨⟨noL, []⟩, 0, T.ts.length + 1, _, _, _, _, HS, HX, HT, Nat.le_refl _, by simp, HF⟩
 case round =>
  obtain ⟨s, k, f, v1, v2, v3, v4, HSr, HMr, HEr, hg, hf, HFr⟩ := hrel
  obtain ⟨c0, c1, -⟩ := HSr.out.cu.cells
  obtain ⟨f, rfl⟩ : ∃ f', f = f' + 1 := ⟨f - 1, by omega⟩
  have hkn := HSr.out.cu.2.2.2
  have hleft := HSr.out.cu.left
  cases hd : T.ts.drop k with
  | nil =>
   have hX2 : X = .ok s.l := by have := HMr.out; rw [hd] at this; exact this
   have hk2 : k = T.n := by
    have := congrArg List.length hd
    rw [List.length_drop] at this
    simp at this
    omega
   have hlt : ¬ (k : Int) < (T.n : Int) := by omega
   have HX2 := Lib.hid hX2
   clear hX2 hd hk2
   go_wp2
   go_region_held3 (fun w' => w'.cell? ⟨q.R, 0, none⟩ = some (.slice T.A T.n T.c) ∧ w'.cell? ⟨q.R, 1, none⟩ = some (.int .i64 k)) (go_keep) (fail)
   go_wp2
   rw [HX2.out]
   go_end0
   have hS := HSr.out.below (below_drew (Below.refl _ _))
   exact ⟨k, v1, v2, v3, v4, rfl, hS.cu, by rw [← HLO.out]; exact ⟨hS.cls, hS.up, hS.lw, hS.ord⟩, HFr.out.drew⟩
  | cons x r =>
   have hlt : (k : Int) < (T.n : Int) := by
    have := congrArg List.length hd
    rw [List.length_drop] at this
    simp at this
    omega
   have hE : Ended (x :: r) := by
    rcases HEr.out with h | h
    ·rw [hd] at h; cases h
    ·rwa [hd] at h
   have HSd : Hid (RdS T q s k v1 v2 v3 v4 wr.drew) := Lib.hid (HSr.out.below (below_drew (Below.refl _ _)))
   have HFd : Hid (Fr w wr.drew (fun j => q.B ≤ j)) := Lib.hid HFr.out.drew
   by_cases hk : x.k = 1
   rotate_left
   ·have hta := take1_no wr.drew q.R T k v1 v2 v3 v4 (.map (some q.Md)) x r _ rfl 1 HSd.out.cu hd hk
    have hX2 : X = .error (30, x.at_) := by
     have := HMr.out
     rw [hd, linesL, if_neg (by simp), lineL, takeK, if_neg (by simpa using hk)] at this
     exact this
    have HX2 := Lib.hid hX2
    have HTA := Lib.hid hta
    clear hX2 hd hE hk hta
    go_wp2
    go_region_held3 (fun w' => w'.cell? ⟨q.R, 0, none⟩ = some (.slice T.A T.n T.c) ∧ w'.cell? ⟨q.R, 1, none⟩ = some (.int .i64 k)) (go_keep) (fail)
    go_wp2_with fail
    refine HTA.out.mono ?_
    rintro e w1 ⟨rfl, hm1⟩
    have eX := HX2.out
    subst eX
    exact ⟨rfl, rfl, HFd.out.next (Fr.of_moved hm1) (fun j _ e => by rw [show j = q.R from e]; exact HQ.out.b0)⟩
   have hta := take1_yes wr.drew q.R T k v1 v2 v3 v4 (.map (some q.Md)) x r _ rfl 1 HSd.out.cu hd hk
   have HTA := Lib.hid hta
   have HM1 : Hid (X = match lineX s x r with
    | .error e => .error e
    | .ok (s', r') => match takeK [6] r' with
     | .error e => .error e
     | .ok (_, r'') => linesL f s' r'') := Lib.hid (by
    have := HMr.out
    rw [hd, linesL, if_neg (by simp), lineL_x s hk] at this
    rw [this]
    cases lineX s x r with
    | error e => rfl
    | ok y =>
     obtain ⟨s', r'⟩ := y
     simp only
     cases takeK [6] r' <;> rfl)
   have HD1 : Hid (T.ts.drop (k + 1) = r) := Lib.hid (drop_next hd)
   have HE1 : Hid (Ended (T.ts.drop (k + 1))) := Lib.hid (by rw [drop_next hd]; exact hE.cons (by omega))
   have HLR : Hid (r.length < gk ∧ r.length < f) := Lib.hid (by rw [hd] at hg hf; simp at hg hf; omega)
   clear hta hd hE hk hg hf
   by_cases hk0 : x.t = wClass
   ·have hy : lineX s x r = classL s r := by
     unfold lineX
     rw [if_pos hk0]
    have HLN : Hid (∀ W, RdS T q s (k + 1) v1 v2 v3 v4 W → Calls Tryz.prog 121 #[.pointer (some ⟨q.r1, 0, none⟩), .pointer (some ⟨q.a1, 0, none⟩)] W (LnTold T q W (lineX s x r))) := Lib.hid (fun W hR2 => by
     have hE2 := HE1.out
     have hq := HQ.out
     have hN := HN.out
     have hXT := HXT.out
     have := line1_any hR2 hq hN hE2
     rw [hy, ← HD1.out]
     exact this)
    clear hy
    go_wp2
    go_region_held3 (fun w' => w'.cell? ⟨q.R, 0, none⟩ = some (.slice T.A T.n T.c) ∧ w'.cell? ⟨q.R, 1, none⟩ = some (.int .i64 k)) (go_keep) (fail)
    go_wp2_with fail
    refine HTA.out.mono ?_
    rintro e w1 ⟨rfl, hc1, hm1⟩
    have HS1 := Lib.hid (HSd.out.go hc1 hm1 (Nat.le_succ k))
    have HF1 := Lib.hid (HFd.out.next (Fr.of_moved hm1) (fun j _ e => by rw [show j = q.R from e]; exact HQ.out.b0))
    obtain ⟨W1, hW1⟩ : ∃ W1, W1 = w1.alloc (.cells #[.int .u8 x.k, .string (str x.t), .int .i64 x.n, .int .i64 x.at_] 92) := ⟨_, rfl⟩
    have HT1 : Hid (LTk W1 w1.heap.size x) := Lib.hid (by rw [hW1]; exact LTk.new w1 x)
    have HS2 : Hid (RdS T q s (k + 1) v1 v2 v3 v4 W1) := Lib.hid (by rw [hW1]; exact HS1.out.below ((Below.refl _ _).alloc (Nat.le_refl _) _))
    have HF3 : Hid (Fr w W1 (fun j => q.B ≤ j)) := Lib.hid (by rw [hW1]; exact HF1.out.alloc _)
    clear hc1 hm1
    obtain ⟨ls, hls1, hls2⟩ := HS2.out.ml
    unfold tkV
    have hlk : (Instr.lookup 89 (.map (some q.ML)) (.string (str x.t)) true).run Tryz.prog W1 = .ok (.tuple #[q.f1, .bool true]) W1 := by
     rw [hk0]
     exact hls1.look_yes Tryz.underlying89 Tryz.underlying9 (by first | trivial | rfl) ((hls2 _ _).2 (.inl ⟨rfl, rfl⟩)) true
    unfold Pl.f1 at hlk
    obtain ⟨t0, t1, t2, t3⟩ := HT1.out.cells
    rw [hW1] at hlk t0 t1 t2 t3
    have hca := HLN.out W1 HS2.out
    clear hls1 hls2 hk0
    go_wp2_with fail
    rw [← hW1]
    clear hlk hW1 t0 t1 t2 t3
    refine hca.mono ?_
    intro e w2 h2
    have HML := Lib.hid HM1.out
    cases hx : lineX s x r with
    | error er =>
     rw [hx] at h2
     obtain ⟨rfl, hf2⟩ := h2
     have hX2 : X = .error er := by have := HM1.out; rw [hx] at this; exact this
     subst hX2
     exact ⟨rfl, rfl, HF3.out.next hf2 (fun _ _ e => e)⟩
    | ok y =>
     obtain ⟨s2, r2⟩ := y
     rw [hx] at h2
     obtain ⟨k2, u1, u2, u3, u4, rfl, hs2, hr2, hf2⟩ := h2
     have hleft := lineX_left (by rw [← HD1.out]; exact HE1.out) HS1.out.n4 hx
     have HS4 := Lib.hid hs2
     have HF4 := Lib.hid (HF3.out.next hf2 (fun _ _ e => e))
     have hX2 : X = match takeK [6] r2 with
      | .error e => .error e
      | .ok (_, r'') => linesL f s2 r'' := by
      have := HM1.out
      rw [hx] at this
      simp only at this
      rw [this]
     obtain ⟨z, r3, hz⟩ := hleft.1.some_
     rw [hz] at hr2 hX2 hleft
     have hrest := Rest.tail hleft.1
     have hlen := hleft.2.1
     have HZ := Lib.hid hr2
     have hd2 := drop_next hr2
     clear hs2 hf2 hleft hr2 hx hca
     by_cases hzk : z.k = 6
     ·have hX3 : Hid (X = linesL f s2 (T.ts.drop (k2 + 1))) := Lib.hid (by rw [hd2]; rw [takeK, if_pos (by simpa using hzk)] at hX2; exact hX2)
      have hta2 := take1_yes w2 q.R T k2 u1 u2 u3 u4 (.map (some q.Md)) z r3 _ rfl 6 HS4.out.cu HZ.out hzk
      have HR3 : Hid (Rest (T.ts.drop (k2 + 1))) := Lib.hid (by rw [hd2]; exact hrest)
      have HL3 : Hid ((T.ts.drop (k2 + 1)).length < r.length) := Lib.hid (by rw [hd2]; simp at hlen; omega)
      clear hX2 hrest hlen hd2 hzk hz
      go_wp2_with fail
      refine hta2.mono ?_
      rintro e w3 ⟨rfl, hc3, hm3⟩
      have HS5 := Lib.hid (HS4.out.go hc3 hm3 (Nat.le_succ k2))
      have HF5 := Lib.hid (HF4.out.next (Fr.of_moved hm3) (fun j _ e => by rw [show j = q.R from e]; exact HQ.out.b0))
      clear hc3 hm3 hta2
      have HLg := HL3.out
      have HRg := HLR.out
      go_wp2
      go_roundg (T.ts.drop (k2 + 1)).length
      case measure => omega
      case rel => exact ⟨s2, k2 + 1, f, u1, u2, u3, u4, HS5, hX3, HR3, Nat.le_refl _, by omega, HF5⟩
     ·have hX3 : X = .error (30, z.at_) := by rw [takeK, if_neg (by simpa using hzk)] at hX2; exact hX2
      have hta2 := take1_no w2 q.R T k2 u1 u2 u3 u4 (.map (some q.Md)) z r3 _ rfl 6 HS4.out.cu HZ.out hzk
      have HX3 := Lib.hid hX3
      clear hX2 hX3 hrest hlen hd2 hzk hz
      go_wp2_with fail
      refine hta2.mono ?_
      rintro e w3 ⟨rfl, hm3⟩
      have eX := HX3.out
      subst eX
      exact ⟨rfl, rfl, HF4.out.next (Fr.of_moved hm3) (fun j _ e => by rw [show j = q.R from e]; exact HQ.out.b0)⟩
   by_cases hk1 : x.t = wUpper
   ·have hy : lineX s x r = upperL s r := by
     unfold lineX
     rw [if_neg hk0]; rw [if_pos hk1]
    have HLN : Hid (∀ W, RdS T q s (k + 1) v1 v2 v3 v4 W → Calls Tryz.prog 126 #[.pointer (some ⟨q.r2, 0, none⟩), .pointer (some ⟨q.a2, 0, none⟩), .pointer (some ⟨q.t2, 0, none⟩)] W (LnTold T q W (lineX s x r))) := Lib.hid (fun W hR2 => by
     have hE2 := HE1.out
     have hq := HQ.out
     have hN := HN.out
     have hXT := HXT.out
     have := line2_any hR2 hq hN hE2
     rw [hy, ← HD1.out]
     exact this)
    clear hy
    go_wp2
    go_region_held3 (fun w' => w'.cell? ⟨q.R, 0, none⟩ = some (.slice T.A T.n T.c) ∧ w'.cell? ⟨q.R, 1, none⟩ = some (.int .i64 k)) (go_keep) (fail)
    go_wp2_with fail
    refine HTA.out.mono ?_
    rintro e w1 ⟨rfl, hc1, hm1⟩
    have HS1 := Lib.hid (HSd.out.go hc1 hm1 (Nat.le_succ k))
    have HF1 := Lib.hid (HFd.out.next (Fr.of_moved hm1) (fun j _ e => by rw [show j = q.R from e]; exact HQ.out.b0))
    obtain ⟨W1, hW1⟩ : ∃ W1, W1 = w1.alloc (.cells #[.int .u8 x.k, .string (str x.t), .int .i64 x.n, .int .i64 x.at_] 92) := ⟨_, rfl⟩
    have HT1 : Hid (LTk W1 w1.heap.size x) := Lib.hid (by rw [hW1]; exact LTk.new w1 x)
    have HS2 : Hid (RdS T q s (k + 1) v1 v2 v3 v4 W1) := Lib.hid (by rw [hW1]; exact HS1.out.below ((Below.refl _ _).alloc (Nat.le_refl _) _))
    have HF3 : Hid (Fr w W1 (fun j => q.B ≤ j)) := Lib.hid (by rw [hW1]; exact HF1.out.alloc _)
    clear hc1 hm1
    obtain ⟨ls, hls1, hls2⟩ := HS2.out.ml
    unfold tkV
    have hlk : (Instr.lookup 89 (.map (some q.ML)) (.string (str x.t)) true).run Tryz.prog W1 = .ok (.tuple #[q.f2, .bool true]) W1 := by
     rw [hk1]
     exact hls1.look_yes Tryz.underlying89 Tryz.underlying9 (by first | trivial | rfl) ((hls2 _ _).2 (.inr (.inl ⟨rfl, rfl⟩))) true
    unfold Pl.f2 at hlk
    obtain ⟨t0, t1, t2, t3⟩ := HT1.out.cells
    rw [hW1] at hlk t0 t1 t2 t3
    have hca := HLN.out W1 HS2.out
    clear hls1 hls2 hk1
    go_wp2_with fail
    rw [← hW1]
    clear hlk hW1 t0 t1 t2 t3
    refine hca.mono ?_
    intro e w2 h2
    have HML := Lib.hid HM1.out
    cases hx : lineX s x r with
    | error er =>
     rw [hx] at h2
     obtain ⟨rfl, hf2⟩ := h2
     have hX2 : X = .error er := by have := HM1.out; rw [hx] at this; exact this
     subst hX2
     exact ⟨rfl, rfl, HF3.out.next hf2 (fun _ _ e => e)⟩
    | ok y =>
     obtain ⟨s2, r2⟩ := y
     rw [hx] at h2
     obtain ⟨k2, u1, u2, u3, u4, rfl, hs2, hr2, hf2⟩ := h2
     have hleft := lineX_left (by rw [← HD1.out]; exact HE1.out) HS1.out.n4 hx
     have HS4 := Lib.hid hs2
     have HF4 := Lib.hid (HF3.out.next hf2 (fun _ _ e => e))
     have hX2 : X = match takeK [6] r2 with
      | .error e => .error e
      | .ok (_, r'') => linesL f s2 r'' := by
      have := HM1.out
      rw [hx] at this
      simp only at this
      rw [this]
     obtain ⟨z, r3, hz⟩ := hleft.1.some_
     rw [hz] at hr2 hX2 hleft
     have hrest := Rest.tail hleft.1
     have hlen := hleft.2.1
     have HZ := Lib.hid hr2
     have hd2 := drop_next hr2
     clear hs2 hf2 hleft hr2 hx hca
     by_cases hzk : z.k = 6
     ·have hX3 : Hid (X = linesL f s2 (T.ts.drop (k2 + 1))) := Lib.hid (by rw [hd2]; rw [takeK, if_pos (by simpa using hzk)] at hX2; exact hX2)
      have hta2 := take1_yes w2 q.R T k2 u1 u2 u3 u4 (.map (some q.Md)) z r3 _ rfl 6 HS4.out.cu HZ.out hzk
      have HR3 : Hid (Rest (T.ts.drop (k2 + 1))) := Lib.hid (by rw [hd2]; exact hrest)
      have HL3 : Hid ((T.ts.drop (k2 + 1)).length < r.length) := Lib.hid (by rw [hd2]; simp at hlen; omega)
      clear hX2 hrest hlen hd2 hzk hz
      go_wp2_with fail
      refine hta2.mono ?_
      rintro e w3 ⟨rfl, hc3, hm3⟩
      have HS5 := Lib.hid (HS4.out.go hc3 hm3 (Nat.le_succ k2))
      have HF5 := Lib.hid (HF4.out.next (Fr.of_moved hm3) (fun j _ e => by rw [show j = q.R from e]; exact HQ.out.b0))
      clear hc3 hm3 hta2
      have HLg := HL3.out
      have HRg := HLR.out
      go_wp2
      go_roundg (T.ts.drop (k2 + 1)).length
      case measure => omega
      case rel => exact ⟨s2, k2 + 1, f, u1, u2, u3, u4, HS5, hX3, HR3, Nat.le_refl _, by omega, HF5⟩
     ·have hX3 : X = .error (30, z.at_) := by rw [takeK, if_neg (by simpa using hzk)] at hX2; exact hX2
      have hta2 := take1_no w2 q.R T k2 u1 u2 u3 u4 (.map (some q.Md)) z r3 _ rfl 6 HS4.out.cu HZ.out hzk
      have HX3 := Lib.hid hX3
      clear hX2 hX3 hrest hlen hd2 hzk hz
      go_wp2_with fail
      refine hta2.mono ?_
      rintro e w3 ⟨rfl, hm3⟩
      have eX := HX3.out
      subst eX
      exact ⟨rfl, rfl, HF4.out.next (Fr.of_moved hm3) (fun j _ e => by rw [show j = q.R from e]; exact HQ.out.b0)⟩
   by_cases hk2 : x.t = wLower
   ·have hy : lineX s x r = lowerL s r := by
     unfold lineX
     rw [if_neg hk0]; rw [if_neg hk1]; rw [if_pos hk2]
    have HLN : Hid (∀ W, RdS T q s (k + 1) v1 v2 v3 v4 W → Calls Tryz.prog 126 #[.pointer (some ⟨q.r3, 0, none⟩), .pointer (some ⟨q.a3, 0, none⟩), .pointer (some ⟨q.t3, 0, none⟩)] W (LnTold T q W (lineX s x r))) := Lib.hid (fun W hR2 => by
     have hE2 := HE1.out
     have hq := HQ.out
     have hN := HN.out
     have hXT := HXT.out
     have := line3_any hR2 hq hN hE2
     rw [hy, ← HD1.out]
     exact this)
    clear hy
    go_wp2
    go_region_held3 (fun w' => w'.cell? ⟨q.R, 0, none⟩ = some (.slice T.A T.n T.c) ∧ w'.cell? ⟨q.R, 1, none⟩ = some (.int .i64 k)) (go_keep) (fail)
    go_wp2_with fail
    refine HTA.out.mono ?_
    rintro e w1 ⟨rfl, hc1, hm1⟩
    have HS1 := Lib.hid (HSd.out.go hc1 hm1 (Nat.le_succ k))
    have HF1 := Lib.hid (HFd.out.next (Fr.of_moved hm1) (fun j _ e => by rw [show j = q.R from e]; exact HQ.out.b0))
    obtain ⟨W1, hW1⟩ : ∃ W1, W1 = w1.alloc (.cells #[.int .u8 x.k, .string (str x.t), .int .i64 x.n, .int .i64 x.at_] 92) := ⟨_, rfl⟩
    have HT1 : Hid (LTk W1 w1.heap.size x) := Lib.hid (by rw [hW1]; exact LTk.new w1 x)
    have HS2 : Hid (RdS T q s (k + 1) v1 v2 v3 v4 W1) := Lib.hid (by rw [hW1]; exact HS1.out.below ((Below.refl _ _).alloc (Nat.le_refl _) _))
    have HF3 : Hid (Fr w W1 (fun j => q.B ≤ j)) := Lib.hid (by rw [hW1]; exact HF1.out.alloc _)
    clear hc1 hm1
    obtain ⟨ls, hls1, hls2⟩ := HS2.out.ml
    unfold tkV
    have hlk : (Instr.lookup 89 (.map (some q.ML)) (.string (str x.t)) true).run Tryz.prog W1 = .ok (.tuple #[q.f3, .bool true]) W1 := by
     rw [hk2]
     exact hls1.look_yes Tryz.underlying89 Tryz.underlying9 (by first | trivial | rfl) ((hls2 _ _).2 (.inr (.inr (.inl ⟨rfl, rfl⟩)))) true
    unfold Pl.f3 at hlk
    obtain ⟨t0, t1, t2, t3⟩ := HT1.out.cells
    rw [hW1] at hlk t0 t1 t2 t3
    have hca := HLN.out W1 HS2.out
    clear hls1 hls2 hk2
    go_wp2_with fail
    rw [← hW1]
    clear hlk hW1 t0 t1 t2 t3
    refine hca.mono ?_
    intro e w2 h2
    have HML := Lib.hid HM1.out
    cases hx : lineX s x r with
    | error er =>
     rw [hx] at h2
     obtain ⟨rfl, hf2⟩ := h2
     have hX2 : X = .error er := by have := HM1.out; rw [hx] at this; exact this
     subst hX2
     exact ⟨rfl, rfl, HF3.out.next hf2 (fun _ _ e => e)⟩
    | ok y =>
     obtain ⟨s2, r2⟩ := y
     rw [hx] at h2
     obtain ⟨k2, u1, u2, u3, u4, rfl, hs2, hr2, hf2⟩ := h2
     have hleft := lineX_left (by rw [← HD1.out]; exact HE1.out) HS1.out.n4 hx
     have HS4 := Lib.hid hs2
     have HF4 := Lib.hid (HF3.out.next hf2 (fun _ _ e => e))
     have hX2 : X = match takeK [6] r2 with
      | .error e => .error e
      | .ok (_, r'') => linesL f s2 r'' := by
      have := HM1.out
      rw [hx] at this
      simp only at this
      rw [this]
     obtain ⟨z, r3, hz⟩ := hleft.1.some_
     rw [hz] at hr2 hX2 hleft
     have hrest := Rest.tail hleft.1
     have hlen := hleft.2.1
     have HZ := Lib.hid hr2
     have hd2 := drop_next hr2
     clear hs2 hf2 hleft hr2 hx hca
     by_cases hzk : z.k = 6
     ·have hX3 : Hid (X = linesL f s2 (T.ts.drop (k2 + 1))) := Lib.hid (by rw [hd2]; rw [takeK, if_pos (by simpa using hzk)] at hX2; exact hX2)
      have hta2 := take1_yes w2 q.R T k2 u1 u2 u3 u4 (.map (some q.Md)) z r3 _ rfl 6 HS4.out.cu HZ.out hzk
      have HR3 : Hid (Rest (T.ts.drop (k2 + 1))) := Lib.hid (by rw [hd2]; exact hrest)
      have HL3 : Hid ((T.ts.drop (k2 + 1)).length < r.length) := Lib.hid (by rw [hd2]; simp at hlen; omega)
      clear hX2 hrest hlen hd2 hzk hz
      go_wp2_with fail
      refine hta2.mono ?_
      rintro e w3 ⟨rfl, hc3, hm3⟩
      have HS5 := Lib.hid (HS4.out.go hc3 hm3 (Nat.le_succ k2))
      have HF5 := Lib.hid (HF4.out.next (Fr.of_moved hm3) (fun j _ e => by rw [show j = q.R from e]; exact HQ.out.b0))
      clear hc3 hm3 hta2
      have HLg := HL3.out
      have HRg := HLR.out
      go_wp2
      go_roundg (T.ts.drop (k2 + 1)).length
      case measure => omega
      case rel => exact ⟨s2, k2 + 1, f, u1, u2, u3, u4, HS5, hX3, HR3, Nat.le_refl _, by omega, HF5⟩
     ·have hX3 : X = .error (30, z.at_) := by rw [takeK, if_neg (by simpa using hzk)] at hX2; exact hX2
      have hta2 := take1_no w2 q.R T k2 u1 u2 u3 u4 (.map (some q.Md)) z r3 _ rfl 6 HS4.out.cu HZ.out hzk
      have HX3 := Lib.hid hX3
      clear hX2 hX3 hrest hlen hd2 hzk hz
      go_wp2_with fail
      refine hta2.mono ?_
      rintro e w3 ⟨rfl, hm3⟩
      have eX := HX3.out
      subst eX
      exact ⟨rfl, rfl, HF4.out.next (Fr.of_moved hm3) (fun j _ e => by rw [show j = q.R from e]; exact HQ.out.b0)⟩
   by_cases hk3 : x.t = wElem
   ·have hy : lineX s x r = elementL s r := by
     unfold lineX
     rw [if_neg hk0]; rw [if_neg hk1]; rw [if_neg hk2]; rw [if_pos hk3]
    have HLN : Hid (∀ W, RdS T q s (k + 1) v1 v2 v3 v4 W → Calls Tryz.prog 78 #[.pointer (some ⟨q.R, 0, none⟩)] W (LnTold T q W (lineX s x r))) := Lib.hid (fun W hR2 => by
     have hE2 := HE1.out
     have hq := HQ.out
     have hN := HN.out
     have hXT := HXT.out
     have := line4_any hR2 hq hXT hE2
     rw [hy, ← HD1.out]
     exact this)
    clear hy
    go_wp2
    go_region_held3 (fun w' => w'.cell? ⟨q.R, 0, none⟩ = some (.slice T.A T.n T.c) ∧ w'.cell? ⟨q.R, 1, none⟩ = some (.int .i64 k)) (go_keep) (fail)
    go_wp2_with fail
    refine HTA.out.mono ?_
    rintro e w1 ⟨rfl, hc1, hm1⟩
    have HS1 := Lib.hid (HSd.out.go hc1 hm1 (Nat.le_succ k))
    have HF1 := Lib.hid (HFd.out.next (Fr.of_moved hm1) (fun j _ e => by rw [show j = q.R from e]; exact HQ.out.b0))
    obtain ⟨W1, hW1⟩ : ∃ W1, W1 = w1.alloc (.cells #[.int .u8 x.k, .string (str x.t), .int .i64 x.n, .int .i64 x.at_] 92) := ⟨_, rfl⟩
    have HT1 : Hid (LTk W1 w1.heap.size x) := Lib.hid (by rw [hW1]; exact LTk.new w1 x)
    have HS2 : Hid (RdS T q s (k + 1) v1 v2 v3 v4 W1) := Lib.hid (by rw [hW1]; exact HS1.out.below ((Below.refl _ _).alloc (Nat.le_refl _) _))
    have HF3 : Hid (Fr w W1 (fun j => q.B ≤ j)) := Lib.hid (by rw [hW1]; exact HF1.out.alloc _)
    clear hc1 hm1
    obtain ⟨ls, hls1, hls2⟩ := HS2.out.ml
    unfold tkV
    have hlk : (Instr.lookup 89 (.map (some q.ML)) (.string (str x.t)) true).run Tryz.prog W1 = .ok (.tuple #[q.f4, .bool true]) W1 := by
     rw [hk3]
     exact hls1.look_yes Tryz.underlying89 Tryz.underlying9 (by first | trivial | rfl) ((hls2 _ _).2 (.inr (.inr (.inr (.inl ⟨rfl, rfl⟩))))) true
    unfold Pl.f4 at hlk
    obtain ⟨t0, t1, t2, t3⟩ := HT1.out.cells
    rw [hW1] at hlk t0 t1 t2 t3
    have hca := HLN.out W1 HS2.out
    clear hls1 hls2 hk3
    go_wp2_with fail
    rw [← hW1]
    clear hlk hW1 t0 t1 t2 t3
    refine hca.mono ?_
    intro e w2 h2
    have HML := Lib.hid HM1.out
    cases hx : lineX s x r with
    | error er =>
     rw [hx] at h2
     obtain ⟨rfl, hf2⟩ := h2
     have hX2 : X = .error er := by have := HM1.out; rw [hx] at this; exact this
     subst hX2
     exact ⟨rfl, rfl, HF3.out.next hf2 (fun _ _ e => e)⟩
    | ok y =>
     obtain ⟨s2, r2⟩ := y
     rw [hx] at h2
     obtain ⟨k2, u1, u2, u3, u4, rfl, hs2, hr2, hf2⟩ := h2
     have hleft := lineX_left (by rw [← HD1.out]; exact HE1.out) HS1.out.n4 hx
     have HS4 := Lib.hid hs2
     have HF4 := Lib.hid (HF3.out.next hf2 (fun _ _ e => e))
     have hX2 : X = match takeK [6] r2 with
      | .error e => .error e
      | .ok (_, r'') => linesL f s2 r'' := by
      have := HM1.out
      rw [hx] at this
      simp only at this
      rw [this]
     obtain ⟨z, r3, hz⟩ := hleft.1.some_
     rw [hz] at hr2 hX2 hleft
     have hrest := Rest.tail hleft.1
     have hlen := hleft.2.1
     have HZ := Lib.hid hr2
     have hd2 := drop_next hr2
     clear hs2 hf2 hleft hr2 hx hca
     by_cases hzk : z.k = 6
     ·have hX3 : Hid (X = linesL f s2 (T.ts.drop (k2 + 1))) := Lib.hid (by rw [hd2]; rw [takeK, if_pos (by simpa using hzk)] at hX2; exact hX2)
      have hta2 := take1_yes w2 q.R T k2 u1 u2 u3 u4 (.map (some q.Md)) z r3 _ rfl 6 HS4.out.cu HZ.out hzk
      have HR3 : Hid (Rest (T.ts.drop (k2 + 1))) := Lib.hid (by rw [hd2]; exact hrest)
      have HL3 : Hid ((T.ts.drop (k2 + 1)).length < r.length) := Lib.hid (by rw [hd2]; simp at hlen; omega)
      clear hX2 hrest hlen hd2 hzk hz
      go_wp2_with fail
      refine hta2.mono ?_
      rintro e w3 ⟨rfl, hc3, hm3⟩
      have HS5 := Lib.hid (HS4.out.go hc3 hm3 (Nat.le_succ k2))
      have HF5 := Lib.hid (HF4.out.next (Fr.of_moved hm3) (fun j _ e => by rw [show j = q.R from e]; exact HQ.out.b0))
      clear hc3 hm3 hta2
      have HLg := HL3.out
      have HRg := HLR.out
      go_wp2
      go_roundg (T.ts.drop (k2 + 1)).length
      case measure => omega
      case rel => exact ⟨s2, k2 + 1, f, u1, u2, u3, u4, HS5, hX3, HR3, Nat.le_refl _, by omega, HF5⟩
     ·have hX3 : X = .error (30, z.at_) := by rw [takeK, if_neg (by simpa using hzk)] at hX2; exact hX2
      have hta2 := take1_no w2 q.R T k2 u1 u2 u3 u4 (.map (some q.Md)) z r3 _ rfl 6 HS4.out.cu HZ.out hzk
      have HX3 := Lib.hid hX3
      clear hX2 hX3 hrest hlen hd2 hzk hz
      go_wp2_with fail
      refine hta2.mono ?_
      rintro e w3 ⟨rfl, hm3⟩
      have eX := HX3.out
      subst eX
      exact ⟨rfl, rfl, HF4.out.next (Fr.of_moved hm3) (fun j _ e => by rw [show j = q.R from e]; exact HQ.out.b0)⟩
   by_cases hk4 : x.t = wOrder
   ·have hy : lineX s x r = orderL s r := by
     unfold lineX
     rw [if_neg hk0]; rw [if_neg hk1]; rw [if_neg hk2]; rw [if_neg hk3]; rw [if_pos hk4]
    have HLN : Hid (∀ W, RdS T q s (k + 1) v1 v2 v3 v4 W → Calls Tryz.prog 79 #[.pointer (some ⟨q.R, 0, none⟩)] W (LnTold T q W (lineX s x r))) := Lib.hid (fun W hR2 => by
     have hE2 := HE1.out
     have hq := HQ.out
     have hN := HN.out
     have hXT := HXT.out
     have := line5_any hR2 hq hN hE2
     rw [hy, ← HD1.out]
     exact this)
    clear hy
    go_wp2
    go_region_held3 (fun w' => w'.cell? ⟨q.R, 0, none⟩ = some (.slice T.A T.n T.c) ∧ w'.cell? ⟨q.R, 1, none⟩ = some (.int .i64 k)) (go_keep) (fail)
    go_wp2_with fail
    refine HTA.out.mono ?_
    rintro e w1 ⟨rfl, hc1, hm1⟩
    have HS1 := Lib.hid (HSd.out.go hc1 hm1 (Nat.le_succ k))
    have HF1 := Lib.hid (HFd.out.next (Fr.of_moved hm1) (fun j _ e => by rw [show j = q.R from e]; exact HQ.out.b0))
    obtain ⟨W1, hW1⟩ : ∃ W1, W1 = w1.alloc (.cells #[.int .u8 x.k, .string (str x.t), .int .i64 x.n, .int .i64 x.at_] 92) := ⟨_, rfl⟩
    have HT1 : Hid (LTk W1 w1.heap.size x) := Lib.hid (by rw [hW1]; exact LTk.new w1 x)
    have HS2 : Hid (RdS T q s (k + 1) v1 v2 v3 v4 W1) := Lib.hid (by rw [hW1]; exact HS1.out.below ((Below.refl _ _).alloc (Nat.le_refl _) _))
    have HF3 : Hid (Fr w W1 (fun j => q.B ≤ j)) := Lib.hid (by rw [hW1]; exact HF1.out.alloc _)
    clear hc1 hm1
    obtain ⟨ls, hls1, hls2⟩ := HS2.out.ml
    unfold tkV
    have hlk : (Instr.lookup 89 (.map (some q.ML)) (.string (str x.t)) true).run Tryz.prog W1 = .ok (.tuple #[q.f5, .bool true]) W1 := by
     rw [hk4]
     exact hls1.look_yes Tryz.underlying89 Tryz.underlying9 (by first | trivial | rfl) ((hls2 _ _).2 (.inr (.inr (.inr (.inr (⟨rfl, rfl⟩)))))) true
    unfold Pl.f5 at hlk
    obtain ⟨t0, t1, t2, t3⟩ := HT1.out.cells
    rw [hW1] at hlk t0 t1 t2 t3
    have hca := HLN.out W1 HS2.out
    clear hls1 hls2 hk4
    go_wp2_with fail
    rw [← hW1]
    clear hlk hW1 t0 t1 t2 t3
    refine hca.mono ?_
    intro e w2 h2
    have HML := Lib.hid HM1.out
    cases hx : lineX s x r with
    | error er =>
     rw [hx] at h2
     obtain ⟨rfl, hf2⟩ := h2
     have hX2 : X = .error er := by have := HM1.out; rw [hx] at this; exact this
     subst hX2
     exact ⟨rfl, rfl, HF3.out.next hf2 (fun _ _ e => e)⟩
    | ok y =>
     obtain ⟨s2, r2⟩ := y
     rw [hx] at h2
     obtain ⟨k2, u1, u2, u3, u4, rfl, hs2, hr2, hf2⟩ := h2
     have hleft := lineX_left (by rw [← HD1.out]; exact HE1.out) HS1.out.n4 hx
     have HS4 := Lib.hid hs2
     have HF4 := Lib.hid (HF3.out.next hf2 (fun _ _ e => e))
     have hX2 : X = match takeK [6] r2 with
      | .error e => .error e
      | .ok (_, r'') => linesL f s2 r'' := by
      have := HM1.out
      rw [hx] at this
      simp only at this
      rw [this]
     obtain ⟨z, r3, hz⟩ := hleft.1.some_
     rw [hz] at hr2 hX2 hleft
     have hrest := Rest.tail hleft.1
     have hlen := hleft.2.1
     have HZ := Lib.hid hr2
     have hd2 := drop_next hr2
     clear hs2 hf2 hleft hr2 hx hca
     by_cases hzk : z.k = 6
     ·have hX3 : Hid (X = linesL f s2 (T.ts.drop (k2 + 1))) := Lib.hid (by rw [hd2]; rw [takeK, if_pos (by simpa using hzk)] at hX2; exact hX2)
      have hta2 := take1_yes w2 q.R T k2 u1 u2 u3 u4 (.map (some q.Md)) z r3 _ rfl 6 HS4.out.cu HZ.out hzk
      have HR3 : Hid (Rest (T.ts.drop (k2 + 1))) := Lib.hid (by rw [hd2]; exact hrest)
      have HL3 : Hid ((T.ts.drop (k2 + 1)).length < r.length) := Lib.hid (by rw [hd2]; simp at hlen; omega)
      clear hX2 hrest hlen hd2 hzk hz
      go_wp2_with fail
      refine hta2.mono ?_
      rintro e w3 ⟨rfl, hc3, hm3⟩
      have HS5 := Lib.hid (HS4.out.go hc3 hm3 (Nat.le_succ k2))
      have HF5 := Lib.hid (HF4.out.next (Fr.of_moved hm3) (fun j _ e => by rw [show j = q.R from e]; exact HQ.out.b0))
      clear hc3 hm3 hta2
      have HLg := HL3.out
      have HRg := HLR.out
      go_wp2
      go_roundg (T.ts.drop (k2 + 1)).length
      case measure => omega
      case rel => exact ⟨s2, k2 + 1, f, u1, u2, u3, u4, HS5, hX3, HR3, Nat.le_refl _, by omega, HF5⟩
     ·have hX3 : X = .error (30, z.at_) := by rw [takeK, if_neg (by simpa using hzk)] at hX2; exact hX2
      have hta2 := take1_no w2 q.R T k2 u1 u2 u3 u4 (.map (some q.Md)) z r3 _ rfl 6 HS4.out.cu HZ.out hzk
      have HX3 := Lib.hid hX3
      clear hX2 hX3 hrest hlen hd2 hzk hz
      go_wp2_with fail
      refine hta2.mono ?_
      rintro e w3 ⟨rfl, hm3⟩
      have eX := HX3.out
      subst eX
      exact ⟨rfl, rfl, HF4.out.next (Fr.of_moved hm3) (fun j _ e => by rw [show j = q.R from e]; exact HQ.out.b0)⟩
   have hy : lineX s x r = .error (30, x.at_) := by
    unfold lineX
    rw [if_neg hk0, if_neg hk1, if_neg hk2, if_neg hk3, if_neg hk4]
   have hX2 : X = .error (30, x.at_) := by have := HM1.out; rw [hy] at this; exact this
   have HX2 := Lib.hid hX2
   clear hy hX2
   go_wp2
   go_region_held3 (fun w' => w'.cell? ⟨q.R, 0, none⟩ = some (.slice T.A T.n T.c) ∧ w'.cell? ⟨q.R, 1, none⟩ = some (.int .i64 k)) (go_keep) (fail)
   go_wp2_with fail
   refine HTA.out.mono ?_
   rintro e w1 ⟨rfl, hc1, hm1⟩
   have HS1 := Lib.hid (HSd.out.go hc1 hm1 (Nat.le_succ k))
   have HF1 := Lib.hid (HFd.out.next (Fr.of_moved hm1) (fun j _ e => by rw [show j = q.R from e]; exact HQ.out.b0))
   obtain ⟨W1, hW1⟩ : ∃ W1, W1 = w1.alloc (.cells #[.int .u8 x.k, .string (str x.t), .int .i64 x.n, .int .i64 x.at_] 92) := ⟨_, rfl⟩
   have HT1 : Hid (LTk W1 w1.heap.size x) := Lib.hid (by rw [hW1]; exact LTk.new w1 x)
   have HS2 : Hid (RdS T q s (k + 1) v1 v2 v3 v4 W1) := Lib.hid (by rw [hW1]; exact HS1.out.below ((Below.refl _ _).alloc (Nat.le_refl _) _))
   have HF3 : Hid (Fr w W1 (fun j => q.B ≤ j)) := Lib.hid (by rw [hW1]; exact HF1.out.alloc _)
   clear hc1 hm1
   obtain ⟨ls, hls1, hls2⟩ := HS2.out.ml
   unfold tkV
   have hnk : (Value.string (str x.t)) ∉ ls.map Prod.fst := by
    intro hin
    obtain ⟨⟨k', v⟩, hkv, hke⟩ := List.mem_map.1 hin
    simp only at hke
    subst hke
    rcases (hls2 _ _).1 hkv with ⟨e, _⟩ | ⟨e, _⟩ | ⟨e, _⟩ | ⟨e, _⟩ | ⟨e, _⟩
    ·exact hk0 (str_inj (Value.string.inj e))
    ·exact hk1 (str_inj (Value.string.inj e))
    ·exact hk2 (str_inj (Value.string.inj e))
    ·exact hk3 (str_inj (Value.string.inj e))
    ·exact hk4 (str_inj (Value.string.inj e))
   have hlk := hls1.look_no Tryz.underlying89 Tryz.underlying9 (key := .string (str x.t)) (by first | trivial | rfl) hnk (zeroFunc W1) true
   obtain ⟨t0, t1, t2, t3⟩ := HT1.out.cells
   rw [hW1] at hlk t0 t1 t2 t3
   have hrf := fun W => refuse_any 30 x W
   unfold tkV at hrf
   clear hls1 hls2 hnk hk0 hk1 hk2 hk3 hk4
   go_wp2_with fail
   rw [← hW1]
   refine (hrf _).mono ?_
   rintro e w3 ⟨rfl, hb3⟩
   have eX := HX2.out
   subst eX
   exact ⟨rfl, rfl, HF3.out.trans (.of_below hb3)⟩
end Go.Proofs.YthaibekbefndlaaGreatDoor.C
