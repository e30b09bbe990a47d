/-
  Joined: LdO, LkA. Each with what its own head says.
-/
import Derived.Test.YthaibekbefndlaaGreatDoorZ18

namespace Go.Proofs.YthaibekbefndlaaGreatDoor.C
open Go.RowKit

def lineX (s : Sta) (w : Tok) (r : List Tok) : Re Sta := if w.t = wClass then classL s r else if w.t = wUpper then upperL s r else if w.t = wLower then lowerL s r else if w.t = wElem then elementL s r else if w.t = wOrder then orderL s r else .error (30, w.at_)
theorem lineL_x (s : Sta) {w : Tok} {r : List Tok} (h : w.k = 1) : lineL s (w :: r) = match lineX s w r with
  | .error e => .error e
  | .ok (s', r') => match takeK [6] r' with
   | .error e => .error e
   | .ok (_, r'') => .ok (s', r'') := by
 rw [lineL, takeK, if_pos (by simpa using h)]
 rfl
theorem lineX_left {s s' : Sta} {w : Tok} {ts r : List Tok} (hE : Ended ts) (ho : s.l.ord.length ≤ 500) (h : lineX s w ts = .ok (s', r)) : Left ts r := by
 unfold lineX at h
 split at h
 ·rw [classL_cls] at h
  cases hx : clsL s.l.cls ts with
  | error e => rw [hx] at h; cases h
  | ok y =>
   obtain ⟨a, b⟩ := y
   rw [hx] at h
   simp at h
   obtain ⟨_, rfl⟩ := h
   exact (clsL_left hE hx).1
 ·split at h
  ·unfold upperL at h
   cases hx : itemsL pairL (ts.length + 1) s.l.up ts with
   | error e => rw [hx] at h; cases h
   | ok y =>
    obtain ⟨a, b⟩ := y
    rw [hx] at h
    simp at h
    obtain ⟨_, rfl⟩ := h
    exact itemsL_left pairL (fun s s' ts r hE h => pairL_left hE h) _ _ _ _ _ hE hx
  ·split at h
   ·unfold lowerL at h
    cases hx : itemsL pairL (ts.length + 1) s.l.lo ts with
    | error e => rw [hx] at h; cases h
    | ok y =>
     obtain ⟨a, b⟩ := y
     rw [hx] at h
     simp at h
     obtain ⟨_, rfl⟩ := h
     exact itemsL_left pairL (fun s s' ts r hE h => pairL_left hE h) _ _ _ _ _ hE hx
   ·split at h
    ·rw [elementL_elm] at h
     cases hx : elmL s.d ts with
     | error e => rw [hx] at h; cases h
     | ok y =>
      obtain ⟨a, b⟩ := y
      rw [hx] at h
      simp at h
      obtain ⟨_, rfl⟩ := h
      exact elmL_left hE hx
    ·split at h
     ·rw [orderL_ord] at h
      cases hx : ordL s.d s.l.ord ts with
      | error e => rw [hx] at h; cases h
      | ok y =>
       obtain ⟨a, b⟩ := y
       rw [hx] at h
       simp at h
       obtain ⟨_, rfl⟩ := h
       exact (ordL_left hE ho hx).1
     ·cases h
def Rest (ts : List Tok) : Prop := ts = [] ∨ Ended ts
theorem Rest.tail {x : Tok} {r : List Tok} (h : Ended (x :: r)) : Rest r := by
 obtain ⟨p, y, he, hy⟩ := h
 cases p with
 | nil =>
  simp at he
  exact .inl he.2
 | cons a p =>
  simp at he
  exact .inr ⟨p, y, he.2, hy⟩
theorem zeroFunc (w : World) : (zeroValue 1).run Tryz.prog w = .ok .nilFunc w := by kernel_rfl
def LocAt (w : World) (lo : Nat) (v1 v2 v3 v4 : Value) (l : Loc) : Prop := ClsAt w lo v1 l.cls ∧ w.ownsRow lo 49 2 v2 l.up.length (prsC l.up) ∧ w.ownsRow lo 49 2 v3 l.lo.length (prsC l.lo) ∧ OrdAt w lo v4 l.ord
theorem LocAt.nil (w : World) (lo : Nat) : LocAt w lo (.slice none 0 0) (.slice none 0 0) (.slice none 0 0) (.slice none 0 0) noL := ⟨ClsAt.nil w lo, World.ownsRow_nil _ _ _ _, World.ownsRow_nil _ _ _ _, OrdAt.nil w lo⟩
def ReaTold (T : TV) (B R Md : Nat) (w : World) : Except Er Loc → Ending → World → Prop
 | .ok l, e, w' => ∃ k v1 v2 v3 v4, e = .returned (.tuple #[]) ∧ CU w' R T k v1 v2 v3 v4 (.map (some Md)) ∧ LocAt w' w.heap.size v1 v2 v3 v4 l ∧ Fr w w' (fun j => B ≤ j)
 | .error er, e, w' => e = .panicked (faultV er.1 er.2) ∧ Fr w w' (fun j => B ≤ j)
def LnsAsk (T : TV) : Prop := ∃ Inv : Sta → Prop, Inv ⟨noL, []⟩ ∧ (∀ s x r y, x ∈ T.ts → Inv s → lineX s x r = .ok y → Inv y.1) ∧
 ∀ (q : Pl) (s : Sta) (k : Nat) (v1 v2 v3 v4 : Value) (W : World) (x : Tok), PlOk q → NumOk T → TxtOk T → x ∈ T.ts → T.ts[k]? = some x → Inv s → RdS T q s (k + 1) v1 v2 v3 v4 W → Ended (T.ts.drop (k + 1)) →
  (x.t = wUpper → Calls Tryz.prog 126 #[.pointer (some ⟨q.r2, 0, none⟩), .pointer (some ⟨q.a2, 0, none⟩), .pointer (some ⟨q.t2, 0, none⟩)] W (LnTold T q W (upperL s (T.ts.drop (k + 1))))) ∧
  (x.t = wLower → Calls Tryz.prog 126 #[.pointer (some ⟨q.r3, 0, none⟩), .pointer (some ⟨q.a3, 0, none⟩), .pointer (some ⟨q.t3, 0, none⟩)] W (LnTold T q W (lowerL s (T.ts.drop (k + 1))))) ∧
  (x.t = wElem → Calls Tryz.prog 78 #[.pointer (some ⟨q.R, 0, none⟩)] W (LnTold T q W (elementL s (T.ts.drop (k + 1))))) ∧
  (x.t = wOrder → Calls Tryz.prog 79 #[.pointer (some ⟨q.R, 0, none⟩)] W (LnTold T q W (orderL s (T.ts.drop (k + 1)))))
set_option maxRecDepth 100000 in
set_option maxHeartbeats 4000000 in
theorem read_lines (w : World) (T : TV) (B R Md : Nat) (hN : NumOk T) (hXT : TxtOk T) (hT : Rest T.ts) (hLO : LnsAsk T) (hcl : Calls Tryz.prog 36 #[.pointer (some ⟨R, 0, none⟩)] w fun e w' => ∃ q : Pl, q.R = R ∧ q.B = B ∧ q.Md = Md ∧ q.lo = w.heap.size ∧ PlOk q ∧ e = .returned (.map (some q.ML)) ∧ RdS T q ⟨noL, []⟩ 0 (.slice none 0 0) (.slice none 0 0) (.slice none 0 0) (.slice none 0 0) w' ∧ Fr w w' (fun j => q.B ≤ j)) :
  Calls Tryz.prog 21 #[.pointer (some ⟨R, 0, none⟩)] w (ReaTold T B R Md w (readL T.ts)) := by
 have HN := Lib.hid hN
 have HXT := Lib.hid hXT
 have HT := Lib.hid hT
 obtain ⟨Inv, hI0, hI1, hI2⟩ := hLO
 have HI0 := Lib.hid hI0
 have HI1 := Lib.hid hI1
 have HI2 := Lib.hid hI2
 obtain ⟨X, hX⟩ : ∃ X, X = readL T.ts := ⟨_, rfl⟩
 rw [← hX]
 unfold readL at hX
 have HX := Lib.hid hX
 clear hN hXT hT hX hI0 hI1 hI2
 go_enter Tryz.func21, Tryz.ntmps21
 go_wp2_with fail
 refine hcl.mono ?_
 rintro e w1 ⟨q, rfl, rfl, rfl, hlo, hq, rfl, hs1, hf1⟩
 have HQ := Lib.hid hq
 have HLO := Lib.hid hlo
 have HS := Lib.hid hs1
 have HF := Lib.hid hf1
 clear hs1 hf1 hcl hq hlo
 go_wp2
 go_loopg [] T.ts.length (fun g wr => ∃ (s : Sta) (k f : Nat) (v1 v2 v3 v4 : Value), Hid (RdS T q s k v1 v2 v3 v4 wr) ∧ Hid (X = linesL f s (T.ts.drop k)) ∧ Hid (Rest (T.ts.drop k)) ∧ (T.ts.drop k).length ≤ g ∧ (T.ts.drop k).length < f ∧ Hid (Fr w wr (fun j => q.B ≤ j)) ∧ Hid (Inv s))
 case atStart => exact ⟨⟨noL, []⟩, 0, T.ts.length + 1, _, _, _, _, HS, HX, HT, Nat.le_refl _, by simp, HF, HI0⟩
 case round =>
  obtain ⟨s, k, f, v1, v2, v3, v4, HSr, HMr, HEr, hg, hf, HFr, HIV⟩ := hrel
  obtain ⟨c0, c1, -⟩ := HSr.out.cu.cells
  obtain ⟨f, rfl⟩ : ∃ f', f = f' + 1 := ⟨f - 1, by omega⟩
  have hkn := HSr.out.cu.2.2.2
  have hleft := HSr.out.cu.left
  cases hd : T.ts.drop k with
  | nil =>
   have hX2 : X = .ok s.l := by have := HMr.out; rw [hd] at this; exact this
   have hk2 : k = T.n := by
    have := congrArg List.length hd
    rw [List.length_drop] at this
    simp at this
    omega
   have hlt : ¬ (k : Int) < (T.n : Int) := by omega
   have HX2 := Lib.hid hX2
   clear hX2 hd hk2
   go_wp2
   go_region_held3 (fun w' => w'.cell? ⟨q.R, 0, none⟩ = some (.slice T.A T.n T.c) ∧ w'.cell? ⟨q.R, 1, none⟩ = some (.int .i64 k)) (go_keep) (fail)
   go_wp2
   rw [HX2.out]
   go_end0
   have hS := HSr.out.below (below_drew (Below.refl _ _))
   exact ⟨k, v1, v2, v3, v4, rfl, hS.cu, by rw [← HLO.out]; exact ⟨hS.cls, hS.up, hS.lw, hS.ord⟩, HFr.out.drew⟩
  | cons x r =>
   have hlt : (k : Int) < (T.n : Int) := by
    have := congrArg List.length hd
    rw [List.length_drop] at this
    simp at this
    omega
   have hE : Ended (x :: r) := by
    rcases HEr.out with h | h
    ·rw [hd] at h; cases h
    ·rwa [hd] at h
   have HSd : Hid (RdS T q s k v1 v2 v3 v4 wr.drew) := Lib.hid (HSr.out.below (below_drew (Below.refl _ _)))
   have HFd : Hid (Fr w wr.drew (fun j => q.B ≤ j)) := Lib.hid HFr.out.drew
   by_cases hk : x.k = 1
   rotate_left
   ·have hta := take1_no wr.drew q.R T k v1 v2 v3 v4 (.map (some q.Md)) x r _ rfl 1 HSd.out.cu hd hk
    have hX2 : X = .error (30, x.at_) := by
     have := HMr.out
     rw [hd, linesL, if_neg (by simp), lineL, takeK, if_neg (by simpa using hk)] at this
     exact this
    have HX2 := Lib.hid hX2
    have HTA := Lib.hid hta
    clear hX2 hd hE hk hta
    go_wp2
    go_region_held3 (fun w' => w'.cell? ⟨q.R, 0, none⟩ = some (.slice T.A T.n T.c) ∧ w'.cell? ⟨q.R, 1, none⟩ = some (.int .i64 k)) (go_keep) (fail)
    go_wp2_with fail
    refine HTA.out.mono ?_
    rintro e w1 ⟨rfl, hm1⟩
    have eX := HX2.out
    subst eX
    exact ⟨rfl, rfl, HFd.out.next (Fr.of_moved hm1) (fun j _ e => by rw [show j = q.R from e]; exact HQ.out.b0)⟩
   have hta := take1_yes wr.drew q.R T k v1 v2 v3 v4 (.map (some q.Md)) x r _ rfl 1 HSd.out.cu hd hk
   have HTA := Lib.hid hta
   have HM1 : Hid (X = match lineX s x r with
    | .error e => .error e
    | .ok (s', r') => match takeK [6] r' with
     | .error e => .error e
     | .ok (_, r'') => linesL f s' r'') := Lib.hid (by
    have := HMr.out
    rw [hd, linesL, if_neg (by simp), lineL_x s hk] at this
    rw [this]
    cases lineX s x r with
    | error e => rfl
    | ok y =>
     obtain ⟨s', r'⟩ := y
     simp only
     cases takeK [6] r' <;> rfl)
   have HD1 : Hid (T.ts.drop (k + 1) = r) := Lib.hid (drop_next hd)
   have HXK : Hid (T.ts[k]? = some x) := Lib.hid (by rw [← Nat.add_zero k, ← List.getElem?_drop, hd]; rfl)
   have HE1 : Hid (Ended (T.ts.drop (k + 1))) := Lib.hid (by rw [drop_next hd]; exact hE.cons (by omega))
   have HLR : Hid (r.length < gk ∧ r.length < f) := Lib.hid (by rw [hd] at hg hf; simp at hg hf; omega)
   clear hta hd hE hk hg hf
   by_cases hk0 : x.t = wClass
   ·have hy : lineX s x r = classL s r := by
     unfold lineX
     rw [if_pos hk0]
    have HLN : Hid (∀ W, RdS T q s (k + 1) v1 v2 v3 v4 W → Calls Tryz.prog 121 #[.pointer (some ⟨q.r1, 0, none⟩), .pointer (some ⟨q.a1, 0, none⟩)] W (LnTold T q W (lineX s x r))) := Lib.hid (fun W hR2 => by
     have hE2 := HE1.out
     have hq := HQ.out
     have hN := HN.out
     have hXT := HXT.out
     have := line1_any hR2 hq hN hE2
     rw [hy, ← HD1.out]
     exact this)
    clear hy
    go_wp2
    go_region_held3 (fun w' => w'.cell? ⟨q.R, 0, none⟩ = some (.slice T.A T.n T.c) ∧ w'.cell? ⟨q.R, 1, none⟩ = some (.int .i64 k)) (go_keep) (fail)
    go_wp2_with fail
    refine HTA.out.mono ?_
    rintro e w1 ⟨rfl, hc1, hm1⟩
    have HS1 := Lib.hid (HSd.out.go hc1 hm1 (Nat.le_succ k))
    have HF1 := Lib.hid (HFd.out.next (Fr.of_moved hm1) (fun j _ e => by rw [show j = q.R from e]; exact HQ.out.b0))
    obtain ⟨W1, hW1⟩ : ∃ W1, W1 = w1.alloc (.cells #[.int .u8 x.k, .string (str x.t), .int .i64 x.n, .int .i64 x.at_] 92) := ⟨_, rfl⟩
    have HT1 : Hid (LTk W1 w1.heap.size x) := Lib.hid (by rw [hW1]; exact LTk.new w1 x)
    have HS2 : Hid (RdS T q s (k + 1) v1 v2 v3 v4 W1) := Lib.hid (by rw [hW1]; exact HS1.out.below ((Below.refl _ _).alloc (Nat.le_refl _) _))
    have HF3 : Hid (Fr w W1 (fun j => q.B ≤ j)) := Lib.hid (by rw [hW1]; exact HF1.out.alloc _)
    clear hc1 hm1
    obtain ⟨ls, hls1, hls2⟩ := HS2.out.ml
    unfold tkV
    have hlk : (Instr.lookup 89 (.map (some q.ML)) (.string (str x.t)) true).run Tryz.prog W1 = .ok (.tuple #[q.f1, .bool true]) W1 := by
     rw [hk0]
     exact hls1.look_yes Tryz.underlying89 Tryz.underlying9 (by first | trivial | rfl) ((hls2 _ _).2 (.inl ⟨rfl, rfl⟩)) true
    unfold Pl.f1 at hlk
    obtain ⟨t0, t1, t2, t3⟩ := HT1.out.cells
    rw [hW1] at hlk t0 t1 t2 t3
    have hca := HLN.out W1 HS2.out
    clear hls1 hls2 hk0
    go_wp2_with fail
    rw [← hW1]
    clear hlk hW1 t0 t1 t2 t3
    refine hca.mono ?_
    intro e w2 h2
    have HML := Lib.hid HM1.out
    cases hx : lineX s x r with
    | error er =>
     rw [hx] at h2
     obtain ⟨rfl, hf2⟩ := h2
     have hX2 : X = .error er := by have := HM1.out; rw [hx] at this; exact this
     subst hX2
     exact ⟨rfl, rfl, HF3.out.next hf2 (fun _ _ e => e)⟩
    | ok y =>
     obtain ⟨s2, r2⟩ := y
     have HIV2 : Hid (Inv s2) := Lib.hid (HI1.out s x r (s2, r2) (List.mem_of_getElem? HXK.out) HIV.out hx)
     rw [hx] at h2
     obtain ⟨k2, u1, u2, u3, u4, rfl, hs2, hr2, hf2⟩ := h2
     have hleft := lineX_left (by rw [← HD1.out]; exact HE1.out) HS1.out.n4 hx
     have HS4 := Lib.hid hs2
     have HF4 := Lib.hid (HF3.out.next hf2 (fun _ _ e => e))
     have hX2 : X = match takeK [6] r2 with
      | .error e => .error e
      | .ok (_, r'') => linesL f s2 r'' := by
      have := HM1.out
      rw [hx] at this
      simp only at this
      rw [this]
     obtain ⟨z, r3, hz⟩ := hleft.1.some_
     rw [hz] at hr2 hX2 hleft
     have hrest := Rest.tail hleft.1
     have hlen := hleft.2.1
     have HZ := Lib.hid hr2
     have hd2 := drop_next hr2
     clear hs2 hf2 hleft hr2 hx hca
     by_cases hzk : z.k = 6
     ·have hX3 : Hid (X = linesL f s2 (T.ts.drop (k2 + 1))) := Lib.hid (by rw [hd2]; rw [takeK, if_pos (by simpa using hzk)] at hX2; exact hX2)
      have hta2 := take1_yes w2 q.R T k2 u1 u2 u3 u4 (.map (some q.Md)) z r3 _ rfl 6 HS4.out.cu HZ.out hzk
      have HR3 : Hid (Rest (T.ts.drop (k2 + 1))) := Lib.hid (by rw [hd2]; exact hrest)
      have HL3 : Hid ((T.ts.drop (k2 + 1)).length < r.length) := Lib.hid (by rw [hd2]; simp at hlen; omega)
      clear hX2 hrest hlen hd2 hzk hz
      go_wp2_with fail
      refine hta2.mono ?_
      rintro e w3 ⟨rfl, hc3, hm3⟩
      have HS5 := Lib.hid (HS4.out.go hc3 hm3 (Nat.le_succ k2))
      have HF5 := Lib.hid (HF4.out.next (Fr.of_moved hm3) (fun j _ e => by rw [show j = q.R from e]; exact HQ.out.b0))
      clear hc3 hm3 hta2
      have HLg := HL3.out
      have HRg := HLR.out
      go_wp2
      go_roundg (T.ts.drop (k2 + 1)).length
      case measure => omega
      case rel => exact ⟨s2, k2 + 1, f, u1, u2, u3, u4, HS5, hX3, HR3, Nat.le_refl _, by omega, HF5, HIV2⟩
     ·have hX3 : X = .error (30, z.at_) := by rw [takeK, if_neg (by simpa using hzk)] at hX2; exact hX2
      have hta2 := take1_no w2 q.R T k2 u1 u2 u3 u4 (.map (some q.Md)) z r3 _ rfl 6 HS4.out.cu HZ.out hzk
      have HX3 := Lib.hid hX3
      clear hX2 hX3 hrest hlen hd2 hzk hz
      go_wp2_with fail
      refine hta2.mono ?_
      rintro e w3 ⟨rfl, hm3⟩
      have eX := HX3.out
      subst eX
      exact ⟨rfl, rfl, HF4.out.next (Fr.of_moved hm3) (fun j _ e => by rw [show j = q.R from e]; exact HQ.out.b0)⟩
   by_cases hk1 : x.t = wUpper
   ·have hy : lineX s x r = upperL s r := by
     unfold lineX
     rw [if_neg hk0]; rw [if_pos hk1]
    have HLN : Hid (∀ W, RdS T q s (k + 1) v1 v2 v3 v4 W → Calls Tryz.prog 126 #[.pointer (some ⟨q.r2, 0, none⟩), .pointer (some ⟨q.a2, 0, none⟩), .pointer (some ⟨q.t2, 0, none⟩)] W (LnTold T q W (lineX s x r))) := Lib.hid (fun W hR2 => by
     have hE2 := HE1.out
     have hq := HQ.out
     have hN := HN.out
     have hXT := HXT.out
     have := (HI2.out q s k v1 v2 v3 v4 W x hq hN hXT (List.mem_of_getElem? HXK.out) HXK.out HIV.out hR2 hE2).1 hk1
     rw [hy, ← HD1.out]
     exact this)
    clear hy
    go_wp2
    go_region_held3 (fun w' => w'.cell? ⟨q.R, 0, none⟩ = some (.slice T.A T.n T.c) ∧ w'.cell? ⟨q.R, 1, none⟩ = some (.int .i64 k)) (go_keep) (fail)
    go_wp2_with fail
    refine HTA.out.mono ?_
    rintro e w1 ⟨rfl, hc1, hm1⟩
    have HS1 := Lib.hid (HSd.out.go hc1 hm1 (Nat.le_succ k))
    have HF1 := Lib.hid (HFd.out.next (Fr.of_moved hm1) (fun j _ e => by rw [show j = q.R from e]; exact HQ.out.b0))
    obtain ⟨W1, hW1⟩ : ∃ W1, W1 = w1.alloc (.cells #[.int .u8 x.k, .string (str x.t), .int .i64 x.n, .int .i64 x.at_] 92) := ⟨_, rfl⟩
    have HT1 : Hid (LTk W1 w1.heap.size x) := Lib.hid (by rw [hW1]; exact LTk.new w1 x)
    have HS2 : Hid (RdS T q s (k + 1) v1 v2 v3 v4 W1) := Lib.hid (by rw [hW1]; exact HS1.out.below ((Below.refl _ _).alloc (Nat.le_refl _) _))
    have HF3 : Hid (Fr w W1 (fun j => q.B ≤ j)) := Lib.hid (by rw [hW1]; exact HF1.out.alloc _)
    clear hc1 hm1
    obtain ⟨ls, hls1, hls2⟩ := HS2.out.ml
    unfold tkV
    have hlk : (Instr.lookup 89 (.map (some q.ML)) (.string (str x.t)) true).run Tryz.prog W1 = .ok (.tuple #[q.f2, .bool true]) W1 := by
     rw [hk1]
     exact hls1.look_yes Tryz.underlying89 Tryz.underlying9 (by first | trivial | rfl) ((hls2 _ _).2 (.inr (.inl ⟨rfl, rfl⟩))) true
    unfold Pl.f2 at hlk
    obtain ⟨t0, t1, t2, t3⟩ := HT1.out.cells
    rw [hW1] at hlk t0 t1 t2 t3
    have hca := HLN.out W1 HS2.out
    clear hls1 hls2 hk1
    go_wp2_with fail
    rw [← hW1]
    clear hlk hW1 t0 t1 t2 t3
    refine hca.mono ?_
    intro e w2 h2
    have HML := Lib.hid HM1.out
    cases hx : lineX s x r with
    | error er =>
     rw [hx] at h2
     obtain ⟨rfl, hf2⟩ := h2
     have hX2 : X = .error er := by have := HM1.out; rw [hx] at this; exact this
     subst hX2
     exact ⟨rfl, rfl, HF3.out.next hf2 (fun _ _ e => e)⟩
    | ok y =>
     obtain ⟨s2, r2⟩ := y
     have HIV2 : Hid (Inv s2) := Lib.hid (HI1.out s x r (s2, r2) (List.mem_of_getElem? HXK.out) HIV.out hx)
     rw [hx] at h2
     obtain ⟨k2, u1, u2, u3, u4, rfl, hs2, hr2, hf2⟩ := h2
     have hleft := lineX_left (by rw [← HD1.out]; exact HE1.out) HS1.out.n4 hx
     have HS4 := Lib.hid hs2
     have HF4 := Lib.hid (HF3.out.next hf2 (fun _ _ e => e))
     have hX2 : X = match takeK [6] r2 with
      | .error e => .error e
      | .ok (_, r'') => linesL f s2 r'' := by
      have := HM1.out
      rw [hx] at this
      simp only at this
      rw [this]
     obtain ⟨z, r3, hz⟩ := hleft.1.some_
     rw [hz] at hr2 hX2 hleft
     have hrest := Rest.tail hleft.1
     have hlen := hleft.2.1
     have HZ := Lib.hid hr2
     have hd2 := drop_next hr2
     clear hs2 hf2 hleft hr2 hx hca
     by_cases hzk : z.k = 6
     ·have hX3 : Hid (X = linesL f s2 (T.ts.drop (k2 + 1))) := Lib.hid (by rw [hd2]; rw [takeK, if_pos (by simpa using hzk)] at hX2; exact hX2)
      have hta2 := take1_yes w2 q.R T k2 u1 u2 u3 u4 (.map (some q.Md)) z r3 _ rfl 6 HS4.out.cu HZ.out hzk
      have HR3 : Hid (Rest (T.ts.drop (k2 + 1))) := Lib.hid (by rw [hd2]; exact hrest)
      have HL3 : Hid ((T.ts.drop (k2 + 1)).length < r.length) := Lib.hid (by rw [hd2]; simp at hlen; omega)
      clear hX2 hrest hlen hd2 hzk hz
      go_wp2_with fail
      refine hta2.mono ?_
      rintro e w3 ⟨rfl, hc3, hm3⟩
      have HS5 := Lib.hid (HS4.out.go hc3 hm3 (Nat.le_succ k2))
      have HF5 := Lib.hid (HF4.out.next (Fr.of_moved hm3) (fun j _ e => by rw [show j = q.R from e]; exact HQ.out.b0))
      clear hc3 hm3 hta2
      have HLg := HL3.out
      have HRg := HLR.out
      go_wp2
      go_roundg (T.ts.drop (k2 + 1)).length
      case measure => omega
      case rel => exact ⟨s2, k2 + 1, f, u1, u2, u3, u4, HS5, hX3, HR3, Nat.le_refl _, by omega, HF5, HIV2⟩
     ·have hX3 : X = .error (30, z.at_) := by rw [takeK, if_neg (by simpa using hzk)] at hX2; exact hX2
      have hta2 := take1_no w2 q.R T k2 u1 u2 u3 u4 (.map (some q.Md)) z r3 _ rfl 6 HS4.out.cu HZ.out hzk
      have HX3 := Lib.hid hX3
      clear hX2 hX3 hrest hlen hd2 hzk hz
      go_wp2_with fail
      refine hta2.mono ?_
      rintro e w3 ⟨rfl, hm3⟩
      have eX := HX3.out
      subst eX
      exact ⟨rfl, rfl, HF4.out.next (Fr.of_moved hm3) (fun j _ e => by rw [show j = q.R from e]; exact HQ.out.b0)⟩
   by_cases hk2 : x.t = wLower
   ·have hy : lineX s x r = lowerL s r := by
     unfold lineX
     rw [if_neg hk0]; rw [if_neg hk1]; rw [if_pos hk2]
    have HLN : Hid (∀ W, RdS T q s (k + 1) v1 v2 v3 v4 W → Calls Tryz.prog 126 #[.pointer (some ⟨q.r3, 0, none⟩), .pointer (some ⟨q.a3, 0, none⟩), .pointer (some ⟨q.t3, 0, none⟩)] W (LnTold T q W (lineX s x r))) := Lib.hid (fun W hR2 => by
     have hE2 := HE1.out
     have hq := HQ.out
     have hN := HN.out
     have hXT := HXT.out
     have := (HI2.out q s k v1 v2 v3 v4 W x hq hN hXT (List.mem_of_getElem? HXK.out) HXK.out HIV.out hR2 hE2).2.1 hk2
     rw [hy, ← HD1.out]
     exact this)
    clear hy
    go_wp2
    go_region_held3 (fun w' => w'.cell? ⟨q.R, 0, none⟩ = some (.slice T.A T.n T.c) ∧ w'.cell? ⟨q.R, 1, none⟩ = some (.int .i64 k)) (go_keep) (fail)
    go_wp2_with fail
    refine HTA.out.mono ?_
    rintro e w1 ⟨rfl, hc1, hm1⟩
    have HS1 := Lib.hid (HSd.out.go hc1 hm1 (Nat.le_succ k))
    have HF1 := Lib.hid (HFd.out.next (Fr.of_moved hm1) (fun j _ e => by rw [show j = q.R from e]; exact HQ.out.b0))
    obtain ⟨W1, hW1⟩ : ∃ W1, W1 = w1.alloc (.cells #[.int .u8 x.k, .string (str x.t), .int .i64 x.n, .int .i64 x.at_] 92) := ⟨_, rfl⟩
    have HT1 : Hid (LTk W1 w1.heap.size x) := Lib.hid (by rw [hW1]; exact LTk.new w1 x)
    have HS2 : Hid (RdS T q s (k + 1) v1 v2 v3 v4 W1) := Lib.hid (by rw [hW1]; exact HS1.out.below ((Below.refl _ _).alloc (Nat.le_refl _) _))
    have HF3 : Hid (Fr w W1 (fun j => q.B ≤ j)) := Lib.hid (by rw [hW1]; exact HF1.out.alloc _)
    clear hc1 hm1
    obtain ⟨ls, hls1, hls2⟩ := HS2.out.ml
    unfold tkV
    have hlk : (Instr.lookup 89 (.map (some q.ML)) (.string (str x.t)) true).run Tryz.prog W1 = .ok (.tuple #[q.f3, .bool true]) W1 := by
     rw [hk2]
     exact hls1.look_yes Tryz.underlying89 Tryz.underlying9 (by first | trivial | rfl) ((hls2 _ _).2 (.inr (.inr (.inl ⟨rfl, rfl⟩)))) true
    unfold Pl.f3 at hlk
    obtain ⟨t0, t1, t2, t3⟩ := HT1.out.cells
    rw [hW1] at hlk t0 t1 t2 t3
    have hca := HLN.out W1 HS2.out
    clear hls1 hls2 hk2
    go_wp2_with fail
    rw [← hW1]
    clear hlk hW1 t0 t1 t2 t3
    refine hca.mono ?_
    intro e w2 h2
    have HML := Lib.hid HM1.out
    cases hx : lineX s x r with
    | error er =>
     rw [hx] at h2
     obtain ⟨rfl, hf2⟩ := h2
     have hX2 : X = .error er := by have := HM1.out; rw [hx] at this; exact this
     subst hX2
     exact ⟨rfl, rfl, HF3.out.next hf2 (fun _ _ e => e)⟩
    | ok y =>
     obtain ⟨s2, r2⟩ := y
     have HIV2 : Hid (Inv s2) := Lib.hid (HI1.out s x r (s2, r2) (List.mem_of_getElem? HXK.out) HIV.out hx)
     rw [hx] at h2
     obtain ⟨k2, u1, u2, u3, u4, rfl, hs2, hr2, hf2⟩ := h2
     have hleft := lineX_left (by rw [← HD1.out]; exact HE1.out) HS1.out.n4 hx
     have HS4 := Lib.hid hs2
     have HF4 := Lib.hid (HF3.out.next hf2 (fun _ _ e => e))
     have hX2 : X = match takeK [6] r2 with
      | .error e => .error e
      | .ok (_, r'') => linesL f s2 r'' := by
      have := HM1.out
      rw [hx] at this
      simp only at this
      rw [this]
     obtain ⟨z, r3, hz⟩ := hleft.1.some_
     rw [hz] at hr2 hX2 hleft
     have hrest := Rest.tail hleft.1
     have hlen := hleft.2.1
     have HZ := Lib.hid hr2
     have hd2 := drop_next hr2
     clear hs2 hf2 hleft hr2 hx hca
     by_cases hzk : z.k = 6
     ·have hX3 : Hid (X = linesL f s2 (T.ts.drop (k2 + 1))) := Lib.hid (by rw [hd2]; rw [takeK, if_pos (by simpa using hzk)] at hX2; exact hX2)
      have hta2 := take1_yes w2 q.R T k2 u1 u2 u3 u4 (.map (some q.Md)) z r3 _ rfl 6 HS4.out.cu HZ.out hzk
      have HR3 : Hid (Rest (T.ts.drop (k2 + 1))) := Lib.hid (by rw [hd2]; exact hrest)
      have HL3 : Hid ((T.ts.drop (k2 + 1)).length < r.length) := Lib.hid (by rw [hd2]; simp at hlen; omega)
      clear hX2 hrest hlen hd2 hzk hz
      go_wp2_with fail
      refine hta2.mono ?_
      rintro e w3 ⟨rfl, hc3, hm3⟩
      have HS5 := Lib.hid (HS4.out.go hc3 hm3 (Nat.le_succ k2))
      have HF5 := Lib.hid (HF4.out.next (Fr.of_moved hm3) (fun j _ e => by rw [show j = q.R from e]; exact HQ.out.b0))
      clear hc3 hm3 hta2
      have HLg := HL3.out
      have HRg := HLR.out
      go_wp2
      go_roundg (T.ts.drop (k2 + 1)).length
      case measure => omega
      case rel => exact ⟨s2, k2 + 1, f, u1, u2, u3, u4, HS5, hX3, HR3, Nat.le_refl _, by omega, HF5, HIV2⟩
     ·have hX3 : X = .error (30, z.at_) := by rw [takeK, if_neg (by simpa using hzk)] at hX2; exact hX2
      have hta2 := take1_no w2 q.R T k2 u1 u2 u3 u4 (.map (some q.Md)) z r3 _ rfl 6 HS4.out.cu HZ.out hzk
      have HX3 := Lib.hid hX3
      clear hX2 hX3 hrest hlen hd2 hzk hz
      go_wp2_with fail
      refine hta2.mono ?_
      rintro e w3 ⟨rfl, hm3⟩
      have eX := HX3.out
      subst eX
      exact ⟨rfl, rfl, HF4.out.next (Fr.of_moved hm3) (fun j _ e => by rw [show j = q.R from e]; exact HQ.out.b0)⟩
   by_cases hk3 : x.t = wElem
   ·have hy : lineX s x r = elementL s r := by
     unfold lineX
     rw [if_neg hk0]; rw [if_neg hk1]; rw [if_neg hk2]; rw [if_pos hk3]
    have HLN : Hid (∀ W, RdS T q s (k + 1) v1 v2 v3 v4 W → Calls Tryz.prog 78 #[.pointer (some ⟨q.R, 0, none⟩)] W (LnTold T q W (lineX s x r))) := Lib.hid (fun W hR2 => by
     have hE2 := HE1.out
     have hq := HQ.out
     have hN := HN.out
     have hXT := HXT.out
     have := (HI2.out q s k v1 v2 v3 v4 W x hq hN hXT (List.mem_of_getElem? HXK.out) HXK.out HIV.out hR2 hE2).2.2.1 hk3
     rw [hy, ← HD1.out]
     exact this)
    clear hy
    go_wp2
    go_region_held3 (fun w' => w'.cell? ⟨q.R, 0, none⟩ = some (.slice T.A T.n T.c) ∧ w'.cell? ⟨q.R, 1, none⟩ = some (.int .i64 k)) (go_keep) (fail)
    go_wp2_with fail
    refine HTA.out.mono ?_
    rintro e w1 ⟨rfl, hc1, hm1⟩
    have HS1 := Lib.hid (HSd.out.go hc1 hm1 (Nat.le_succ k))
    have HF1 := Lib.hid (HFd.out.next (Fr.of_moved hm1) (fun j _ e => by rw [show j = q.R from e]; exact HQ.out.b0))
    obtain ⟨W1, hW1⟩ : ∃ W1, W1 = w1.alloc (.cells #[.int .u8 x.k, .string (str x.t), .int .i64 x.n, .int .i64 x.at_] 92) := ⟨_, rfl⟩
    have HT1 : Hid (LTk W1 w1.heap.size x) := Lib.hid (by rw [hW1]; exact LTk.new w1 x)
    have HS2 : Hid (RdS T q s (k + 1) v1 v2 v3 v4 W1) := Lib.hid (by rw [hW1]; exact HS1.out.below ((Below.refl _ _).alloc (Nat.le_refl _) _))
    have HF3 : Hid (Fr w W1 (fun j => q.B ≤ j)) := Lib.hid (by rw [hW1]; exact HF1.out.alloc _)
    clear hc1 hm1
    obtain ⟨ls, hls1, hls2⟩ := HS2.out.ml
    unfold tkV
    have hlk : (Instr.lookup 89 (.map (some q.ML)) (.string (str x.t)) true).run Tryz.prog W1 = .ok (.tuple #[q.f4, .bool true]) W1 := by
     rw [hk3]
     exact hls1.look_yes Tryz.underlying89 Tryz.underlying9 (by first | trivial | rfl) ((hls2 _ _).2 (.inr (.inr (.inr (.inl ⟨rfl, rfl⟩))))) true
    unfold Pl.f4 at hlk
    obtain ⟨t0, t1, t2, t3⟩ := HT1.out.cells
    rw [hW1] at hlk t0 t1 t2 t3
    have hca := HLN.out W1 HS2.out
    clear hls1 hls2 hk3
    go_wp2_with fail
    rw [← hW1]
    clear hlk hW1 t0 t1 t2 t3
    refine hca.mono ?_
    intro e w2 h2
    have HML := Lib.hid HM1.out
    cases hx : lineX s x r with
    | error er =>
     rw [hx] at h2
     obtain ⟨rfl, hf2⟩ := h2
     have hX2 : X = .error er := by have := HM1.out; rw [hx] at this; exact this
     subst hX2
     exact ⟨rfl, rfl, HF3.out.next hf2 (fun _ _ e => e)⟩
    | ok y =>
     obtain ⟨s2, r2⟩ := y
     have HIV2 : Hid (Inv s2) := Lib.hid (HI1.out s x r (s2, r2) (List.mem_of_getElem? HXK.out) HIV.out hx)
     rw [hx] at h2
     obtain ⟨k2, u1, u2, u3, u4, rfl, hs2, hr2, hf2⟩ := h2
     have hleft := lineX_left (by rw [← HD1.out]; exact HE1.out) HS1.out.n4 hx
     have HS4 := Lib.hid hs2
     have HF4 := Lib.hid (HF3.out.next hf2 (fun _ _ e => e))
     have hX2 : X = match takeK [6] r2 with
      | .error e => .error e
      | .ok (_, r'') => linesL f s2 r'' := by
      have := HM1.out
      rw [hx] at this
      simp only at this
      rw [this]
     obtain ⟨z, r3, hz⟩ := hleft.1.some_
     rw [hz] at hr2 hX2 hleft
     have hrest := Rest.tail hleft.1
     have hlen := hleft.2.1
     have HZ := Lib.hid hr2
     have hd2 := drop_next hr2
     clear hs2 hf2 hleft hr2 hx hca
     by_cases hzk : z.k = 6
     ·have hX3 : Hid (X = linesL f s2 (T.ts.drop (k2 + 1))) := Lib.hid (by rw [hd2]; rw [takeK, if_pos (by simpa using hzk)] at hX2; exact hX2)
      have hta2 := take1_yes w2 q.R T k2 u1 u2 u3 u4 (.map (some q.Md)) z r3 _ rfl 6 HS4.out.cu HZ.out hzk
      have HR3 : Hid (Rest (T.ts.drop (k2 + 1))) := Lib.hid (by rw [hd2]; exact hrest)
      have HL3 : Hid ((T.ts.drop (k2 + 1)).length < r.length) := Lib.hid (by rw [hd2]; simp at hlen; omega)
      clear hX2 hrest hlen hd2 hzk hz
      go_wp2_with fail
      refine hta2.mono ?_
      rintro e w3 ⟨rfl, hc3, hm3⟩
      have HS5 := Lib.hid (HS4.out.go hc3 hm3 (Nat.le_succ k2))
      have HF5 := Lib.hid (HF4.out.next (Fr.of_moved hm3) (fun j _ e => by rw [show j = q.R from e]; exact HQ.out.b0))
      clear hc3 hm3 hta2
      have HLg := HL3.out
      have HRg := HLR.out
      go_wp2
      go_roundg (T.ts.drop (k2 + 1)).length
      case measure => omega
      case rel => exact ⟨s2, k2 + 1, f, u1, u2, u3, u4, HS5, hX3, HR3, Nat.le_refl _, by omega, HF5, HIV2⟩
     ·have hX3 : X = .error (30, z.at_) := by rw [takeK, if_neg (by simpa using hzk)] at hX2; exact hX2
      have hta2 := take1_no w2 q.R T k2 u1 u2 u3 u4 (.map (some q.Md)) z r3 _ rfl 6 HS4.out.cu HZ.out hzk
      have HX3 := Lib.hid hX3
      clear hX2 hX3 hrest hlen hd2 hzk hz
      go_wp2_with fail
      refine hta2.mono ?_
      rintro e w3 ⟨rfl, hm3⟩
      have eX := HX3.out
      subst eX
      exact ⟨rfl, rfl, HF4.out.next (Fr.of_moved hm3) (fun j _ e => by rw [show j = q.R from e]; exact HQ.out.b0)⟩
   by_cases hk4 : x.t = wOrder
   ·have hy : lineX s x r = orderL s r := by
     unfold lineX
     rw [if_neg hk0]; rw [if_neg hk1]; rw [if_neg hk2]; rw [if_neg hk3]; rw [if_pos hk4]
    have HLN : Hid (∀ W, RdS T q s (k + 1) v1 v2 v3 v4 W → Calls Tryz.prog 79 #[.pointer (some ⟨q.R, 0, none⟩)] W (LnTold T q W (lineX s x r))) := Lib.hid (fun W hR2 => by
     have hE2 := HE1.out
     have hq := HQ.out
     have hN := HN.out
     have hXT := HXT.out
     have := (HI2.out q s k v1 v2 v3 v4 W x hq hN hXT (List.mem_of_getElem? HXK.out) HXK.out HIV.out hR2 hE2).2.2.2 hk4
     rw [hy, ← HD1.out]
     exact this)
    clear hy
    go_wp2
    go_region_held3 (fun w' => w'.cell? ⟨q.R, 0, none⟩ = some (.slice T.A T.n T.c) ∧ w'.cell? ⟨q.R, 1, none⟩ = some (.int .i64 k)) (go_keep) (fail)
    go_wp2_with fail
    refine HTA.out.mono ?_
    rintro e w1 ⟨rfl, hc1, hm1⟩
    have HS1 := Lib.hid (HSd.out.go hc1 hm1 (Nat.le_succ k))
    have HF1 := Lib.hid (HFd.out.next (Fr.of_moved hm1) (fun j _ e => by rw [show j = q.R from e]; exact HQ.out.b0))
    obtain ⟨W1, hW1⟩ : ∃ W1, W1 = w1.alloc (.cells #[.int .u8 x.k, .string (str x.t), .int .i64 x.n, .int .i64 x.at_] 92) := ⟨_, rfl⟩
    have HT1 : Hid (LTk W1 w1.heap.size x) := Lib.hid (by rw [hW1]; exact LTk.new w1 x)
    have HS2 : Hid (RdS T q s (k + 1) v1 v2 v3 v4 W1) := Lib.hid (by rw [hW1]; exact HS1.out.below ((Below.refl _ _).alloc (Nat.le_refl _) _))
    have HF3 : Hid (Fr w W1 (fun j => q.B ≤ j)) := Lib.hid (by rw [hW1]; exact HF1.out.alloc _)
    clear hc1 hm1
    obtain ⟨ls, hls1, hls2⟩ := HS2.out.ml
    unfold tkV
    have hlk : (Instr.lookup 89 (.map (some q.ML)) (.string (str x.t)) true).run Tryz.prog W1 = .ok (.tuple #[q.f5, .bool true]) W1 := by
     rw [hk4]
     exact hls1.look_yes Tryz.underlying89 Tryz.underlying9 (by first | trivial | rfl) ((hls2 _ _).2 (.inr (.inr (.inr (.inr (⟨rfl, rfl⟩)))))) true
    unfold Pl.f5 at hlk
    obtain ⟨t0, t1, t2, t3⟩ := HT1.out.cells
    rw [hW1] at hlk t0 t1 t2 t3
    have hca := HLN.out W1 HS2.out
    clear hls1 hls2 hk4
    go_wp2_with fail
    rw [← hW1]
    clear hlk hW1 t0 t1 t2 t3
    refine hca.mono ?_
    intro e w2 h2
    have HML := Lib.hid HM1.out
    cases hx : lineX s x r with
    | error er =>
     rw [hx] at h2
     obtain ⟨rfl, hf2⟩ := h2
     have hX2 : X = .error er := by have := HM1.out; rw [hx] at this; exact this
     subst hX2
     exact ⟨rfl, rfl, HF3.out.next hf2 (fun _ _ e => e)⟩
    | ok y =>
     obtain ⟨s2, r2⟩ := y
     have HIV2 : Hid (Inv s2) := Lib.hid (HI1.out s x r (s2, r2) (List.mem_of_getElem? HXK.out) HIV.out hx)
     rw [hx] at h2
     obtain ⟨k2, u1, u2, u3, u4, rfl, hs2, hr2, hf2⟩ := h2
     have hleft := lineX_left (by rw [← HD1.out]; exact HE1.out) HS1.out.n4 hx
     have HS4 := Lib.hid hs2
     have HF4 := Lib.hid (HF3.out.next hf2 (fun _ _ e => e))
     have hX2 : X = match takeK [6] r2 with
      | .error e => .error e
      | .ok (_, r'') => linesL f s2 r'' := by
      have := HM1.out
      rw [hx] at this
      simp only at this
      rw [this]
     obtain ⟨z, r3, hz⟩ := hleft.1.some_
     rw [hz] at hr2 hX2 hleft
     have hrest := Rest.tail hleft.1
     have hlen := hleft.2.1
     have HZ := Lib.hid hr2
     have hd2 := drop_next hr2
     clear hs2 hf2 hleft hr2 hx hca
     by_cases hzk : z.k = 6
     ·have hX3 : Hid (X = linesL f s2 (T.ts.drop (k2 + 1))) := Lib.hid (by rw [hd2]; rw [takeK, if_pos (by simpa using hzk)] at hX2; exact hX2)
      have hta2 := take1_yes w2 q.R T k2 u1 u2 u3 u4 (.map (some q.Md)) z r3 _ rfl 6 HS4.out.cu HZ.out hzk
      have HR3 : Hid (Rest (T.ts.drop (k2 + 1))) := Lib.hid (by rw [hd2]; exact hrest)
      have HL3 : Hid ((T.ts.drop (k2 + 1)).length < r.length) := Lib.hid (by rw [hd2]; simp at hlen; omega)
      clear hX2 hrest hlen hd2 hzk hz
      go_wp2_with fail
      refine hta2.mono ?_
      rintro e w3 ⟨rfl, hc3, hm3⟩
      have HS5 := Lib.hid (HS4.out.go hc3 hm3 (Nat.le_succ k2))
      have HF5 := Lib.hid (HF4.out.next (Fr.of_moved hm3) (fun j _ e => by rw [show j = q.R from e]; exact HQ.out.b0))
      clear hc3 hm3 hta2
      have HLg := HL3.out
      have HRg := HLR.out
      go_wp2
      go_roundg (T.ts.drop (k2 + 1)).length
      case measure => omega
      case rel => exact ⟨s2, k2 + 1, f, u1, u2, u3, u4, HS5, hX3, HR3, Nat.le_refl _, by omega, HF5, HIV2⟩
     ·have hX3 : X = .error (30, z.at_) := by rw [takeK, if_neg (by simpa using hzk)] at hX2; exact hX2
      have hta2 := take1_no w2 q.R T k2 u1 u2 u3 u4 (.map (some q.Md)) z r3 _ rfl 6 HS4.out.cu HZ.out hzk
      have HX3 := Lib.hid hX3
      clear hX2 hX3 hrest hlen hd2 hzk hz
      go_wp2_with fail
      refine hta2.mono ?_
      rintro e w3 ⟨rfl, hm3⟩
      have eX := HX3.out
      subst eX
      exact ⟨rfl, rfl, HF4.out.next (Fr.of_moved hm3) (fun j _ e => by rw [show j = q.R from e]; exact HQ.out.b0)⟩
   have hy : lineX s x r = .error (30, x.at_) := by
    unfold lineX
    rw [if_neg hk0, if_neg hk1, if_neg hk2, if_neg hk3, if_neg hk4]
   have hX2 : X = .error (30, x.at_) := by have := HM1.out; rw [hy] at this; exact this
   have HX2 := Lib.hid hX2
   clear hy hX2
   go_wp2
   go_region_held3 (fun w' => w'.cell? ⟨q.R, 0, none⟩ = some (.slice T.A T.n T.c) ∧ w'.cell? ⟨q.R, 1, none⟩ = some (.int .i64 k)) (go_keep) (fail)
   go_wp2_with fail
   refine HTA.out.mono ?_
   rintro e w1 ⟨rfl, hc1, hm1⟩
   have HS1 := Lib.hid (HSd.out.go hc1 hm1 (Nat.le_succ k))
   have HF1 := Lib.hid (HFd.out.next (Fr.of_moved hm1) (fun j _ e => by rw [show j = q.R from e]; exact HQ.out.b0))
   obtain ⟨W1, hW1⟩ : ∃ W1, W1 = w1.alloc (.cells #[.int .u8 x.k, .string (str x.t), .int .i64 x.n, .int .i64 x.at_] 92) := ⟨_, rfl⟩
   have HT1 : Hid (LTk W1 w1.heap.size x) := Lib.hid (by rw [hW1]; exact LTk.new w1 x)
   have HS2 : Hid (RdS T q s (k + 1) v1 v2 v3 v4 W1) := Lib.hid (by rw [hW1]; exact HS1.out.below ((Below.refl _ _).alloc (Nat.le_refl _) _))
   have HF3 : Hid (Fr w W1 (fun j => q.B ≤ j)) := Lib.hid (by rw [hW1]; exact HF1.out.alloc _)
   clear hc1 hm1
   obtain ⟨ls, hls1, hls2⟩ := HS2.out.ml
   unfold tkV
   have hnk : (Value.string (str x.t)) ∉ ls.map Prod.fst := by
    intro hin
    obtain ⟨⟨k', v⟩, hkv, hke⟩ := List.mem_map.1 hin
    simp only at hke
    subst hke
    rcases (hls2 _ _).1 hkv with ⟨e, _⟩ | ⟨e, _⟩ | ⟨e, _⟩ | ⟨e, _⟩ | ⟨e, _⟩
    ·exact hk0 (str_inj (Value.string.inj e))
    ·exact hk1 (str_inj (Value.string.inj e))
    ·exact hk2 (str_inj (Value.string.inj e))
    ·exact hk3 (str_inj (Value.string.inj e))
    ·exact hk4 (str_inj (Value.string.inj e))
   have hlk := hls1.look_no Tryz.underlying89 Tryz.underlying9 (key := .string (str x.t)) (by first | trivial | rfl) hnk (zeroFunc W1) true
   obtain ⟨t0, t1, t2, t3⟩ := HT1.out.cells
   rw [hW1] at hlk t0 t1 t2 t3
   have hrf := fun W => refuse_any 30 x W
   unfold tkV at hrf
   clear hls1 hls2 hnk hk0 hk1 hk2 hk3 hk4
   go_wp2_with fail
   rw [← hW1]
   refine (hrf _).mono ?_
   rintro e w3 ⟨rfl, hb3⟩
   have eX := HX2.out
   subst eX
   exact ⟨rfl, rfl, HF3.out.trans (.of_below hb3)⟩
end Go.Proofs.YthaibekbefndlaaGreatDoor.C

namespace Go.Proofs.YthaibekbefndlaaGreatDoor.C
open Go.RowKit

set_option maxRecDepth 100000 in
set_option maxHeartbeats 1000000 in
theorem order_fail (w : World) (lo R : Nat) (T : TV) (k : Nat) (v1 v2 v3 v4 : Value) (M : Nat) (x0 y : Tok) (r1 : List Tok) (h : CU w R T k v1 v2 v3 v4 (.map (some M))) (hd : DeAt w lo M []) (hN : NumOk T) (hx0 : T.ts.drop k = x0 :: y :: r1) (h5 : x0.k = 5) (_hlo : R < lo) (hlw : lo ≤ w.heap.size) :
  Calls Tryz.prog 79 #[.pointer (some ⟨R, 0, none⟩)] w fun e w' => e = .panicked (faultV 31 x0.at_) ∧ Fr w w' (fun j => j = R ∨ v4.ownBlock = some j) := by
 have hR := h.lt
 have hta := take2_yes w R T k v1 v2 v3 v4 (.map (some M)) x0 (y :: r1) _ rfl 3 5 h hx0 (.inr h5)
 have hnx := hN.at_ hx0
 have hi : itemL [] x0 = .error (31, x0.at_) := by
  unfold itemL
  rw [if_neg (by omega)]
  rfl
 have i3 : ¬ (x0.k : Int) = 3 := by omega
 have HCU := Lib.hid h
 have HDE := Lib.hid hd
 clear h hN hd hx0 h5
 go_enter Tryz.func79, Tryz.ntmps79
 go_wp2_with fail
 refine hta.mono ?_
 rintro e w1 ⟨rfl, hc1, hm1⟩
 obtain ⟨W1, hW1⟩ : ∃ W1, W1 = w1.alloc (.cells #[.int .u8 x0.k, .string (str x0.t), .int .i64 x0.n, .int .i64 x0.at_] 92) := ⟨_, rfl⟩
 have HT1 : Hid (LTk W1 w1.heap.size x0) := Lib.hid (by rw [hW1]; exact LTk.new w1 x0)
 have HC1 : Hid (CU W1 R T (k + 1) v1 v2 v3 v4 (.map (some M))) := Lib.hid (by rw [hW1]; exact hc1.alloc _)
 have HF1 : Hid (Fr w W1 (· = R)) := Lib.hid (by rw [hW1]; exact (Fr.of_moved hm1).alloc _)
 have HD1 := Lib.hid (HDE.out.frR HCU.out HF1.out)
 have hs1 := HF1.out.size
 have hsz1 : w.heap.size ≤ w1.heap.size := hm1.size
 have hbR : w1.heap.size ≠ R := by omega
 clear hc1 hm1 hta
 obtain ⟨t0, t1, t2, t3⟩ := HT1.out.cells
 rw [hW1] at t0 t1 t2 t3
 unfold tkV
 have hloa : lo ≤ W1.heap.size := by omega
 have hco := cellsOf_any W1 lo R T (k + 1) v1 v2 v3 v4 M [] x0 HC1.out HD1.out hnx hloa
 unfold tkV at hco
 go_wp2_with fail
 rw [← hW1]
 clear hW1 t0 t1 t2 t3
 rw [hi] at hco
 refine hco.mono ?_
 rintro e w2 ⟨rfl, hb2⟩
 exact ⟨rfl, rfl, (HF1.out.mono fun _ _ e => .inl e).trans (.of_below hb2)⟩
theorem line5_fail {T : TV} {q : Pl} {s : Sta} {k : Nat} {v1 v2 v3 v4 : Value} {W : World} {x0 y : Tok} {r1 : List Tok} (h : RdS T q s k v1 v2 v3 v4 W) (hq : PlOk q) (hN : NumOk T) (hd : s.d = []) (hx0 : T.ts.drop k = x0 :: y :: r1) (h5 : x0.k = 5) :
  Calls Tryz.prog 79 #[.pointer (some ⟨q.R, 0, none⟩)] W (LnTold T q W (orderL s (T.ts.drop k))) := by
 have hi : itemL [] x0 = .error (31, x0.at_) := by
  unfold itemL
  rw [if_neg (by omega)]
  rfl
 have ho : orderL s (T.ts.drop k) = .error (31, x0.at_) := by
  rw [orderL_ord, hd, hx0]
  unfold ordL
  rw [takeK, if_pos (by simp [h5])]
  simp only
  rw [if_neg (by simp [h5]), hi]
 rw [ho]
 have hde := h.de
 rw [hd] at hde
 refine (order_fail W q.lo q.R T k v1 v2 v3 v4 q.Md x0 y r1 h.cu hde hN hx0 h5 hq.lo h.low).mono ?_
 rintro e w' ⟨he, hf⟩
 obtain ⟨vs, hvs, hrow, hrr⟩ := h.ord
 refine ⟨he, hf.mono fun j _ hj => ?_⟩
 have b0 := hq.b0
 rcases hj with rfl | hj
 ·exact b0
 ·have := (hrow.lt j hj).1
  have := hq.lo
  omega
theorem lines_known1 (T : TV) (a : Nat) (h : lexL [99, 108, 97, 115, 115, 32, 120, 32, 60, 85, 48, 48, 52, 49, 62, 46, 46, 46, 60, 85, 48, 48, 52, 51, 62, 59, 60, 85, 48, 48, 54, 49, 62] = (T.ts, 0, a)) : LnsAsk T := by
 rw [lex07_kn1] at h
 injection h with h _
 have hn : ∀ x ∈ T.ts, x.t ≠ wUpper ∧ x.t ≠ wLower ∧ x.t ≠ wElem ∧ x.t ≠ wOrder := by
  rw [← h]
  intro x hx
  simp only [List.mem_cons, List.not_mem_nil, or_false] at hx
  rcases hx with rfl | rfl | rfl | rfl | rfl | rfl | rfl | rfl <;> decide
 exact ⟨fun _ => True, trivial, fun _ _ _ _ _ _ _ => trivial, fun q s k v1 v2 v3 v4 W x _ _ _ hx _ _ _ _ => ⟨fun e => absurd e (hn x hx).1, fun e => absurd e (hn x hx).2.1, fun e => absurd e (hn x hx).2.2.1, fun e => absurd e (hn x hx).2.2.2⟩⟩
theorem lines_known2 (T : TV) (a : Nat) (h : lexL [111, 114, 100, 101, 114, 32, 60, 99, 104, 62] = (T.ts, 0, a)) : LnsAsk T := by
 rw [lex07_kn2] at h
 injection h with h _
 have hn : ∀ x ∈ T.ts, x.t ≠ wUpper ∧ x.t ≠ wLower ∧ x.t ≠ wElem ∧ x.t ≠ wClass := by
  rw [← h]
  intro x hx
  simp only [List.mem_cons, List.not_mem_nil, or_false] at hx
  rcases hx with rfl | rfl | rfl <;> decide
 refine ⟨fun s => s.d = [], rfl, fun s x r y hx hs he => ?_, fun q s k v1 v2 v3 v4 W x hq hN _ hx hk hs hR _ => ⟨fun e => absurd e (hn x hx).1, fun e => absurd e (hn x hx).2.1, fun e => absurd e (hn x hx).2.2.1, fun e => ?_⟩⟩
 ·unfold lineX at he
  rw [if_neg (hn x hx).2.2.2, if_neg (hn x hx).1, if_neg (hn x hx).2.1, if_neg (hn x hx).2.2.1] at he
  split at he
  ·rw [orderL_ord] at he
   cases ho : ordL s.d s.l.ord r with
   | error er => rw [ho] at he; cases he
   | ok z =>
    rw [ho] at he
    injection he with he
    rw [← he]
    exact hs
  ·cases he
 ·have hk0 : k = 0 := by
   rw [← h] at hk
   match k, hk with
   | 0, _ => rfl
   | 1, hk =>
    injection hk with hk
    rw [← hk] at e
    exact absurd e (by decide)
   | 2, hk =>
    injection hk with hk
    rw [← hk] at e
    exact absurd e (by decide)
   | n + 3, hk => simp at hk
  subst hk0
  exact line5_fail hR hq hN hs (show T.ts.drop (0 + 1) = ⟨5, [99, 104], 0, 6⟩ :: ⟨6, [], 0, 10⟩ :: [] by rw [← h]; rfl) rfl
end Go.Proofs.YthaibekbefndlaaGreatDoor.C
