/-
  A bracket's reader: it reads a set. Condition: what is asked of sizes (BOk); no more cells than 100000.
-/
import Derived.Test.YthgiikhkcpbpfaaGreatDoorQBaJ
namespace Go.Proofs.YthgiikhkcpbpfaaGreatDoor.C
open Go.RowKit

theorem SzB.put {s : BSet} {rows : List (List Int)} {k k' : Nat} (h : SzB s k) (hk : k + 1 ≤ k') (hr : rows.length ≤ 1000) : SzB (putL s rows) k' := by
 have := putL_len rows s
 unfold SzB at h ⊢
 omega
theorem SzB.rng {s : BSet} {rs : List (Int × Int)} {k k' : Nat} (h : SzB s k) (hk : k + 1 ≤ k') (hr : rs.length ≤ 1000) : SzB ⟨s.no, s.rs ++ rs, s.ts⟩ k' := by
 unfold SzB at h ⊢
 simp only [List.length_append]
 omega
theorem betwB_sz {L : Loc} {s s' : BSet} {a b : List Int} {p k k' : Nat} (h : betwB L s a b p = .ok s') (hs : SzB s k) (hk : k + 1 ≤ k') (hR : rightL L = true) : SzB s' k' := by
 unfold betwB at h
 split at h
 ·split at h
  ·cases h
  ·injection h with h
   subst h
   exact hs.rng hk (by simp)
 ·split at h
  ·cases h
  ·next hn hno =>
   injection h with h
   subst h
   refine hs.put hk ?_
   rw [List.length_map, runN_len]
   have h500 := ord500 hR
   have hb : placeV L.ord b < L.ord.length := by
    obtain ⟨j, hj⟩ : ∃ j : Nat, placeV L.ord b = (j : Int) := ⟨(placeV L.ord b).toNat, by omega⟩
    have := placeV_lt hj
    omega
   omega
theorem elemsB_sz {L : Loc} {l : List Int} {s s' : BSet} {k k' : Nat} (h : elemsB L l s k = .ok (s', k')) (hs : SzB s k) (hR : rightL L = true) : SzB s' k' := by
 have hk := (elemsB_ok h).1
 unfold elemsB at h
 cases hu : elemB10 L l k with
 | error e => rw [hu] at h; cases h
 | ok p =>
  obtain ⟨a, k1⟩ := p
  rw [hu] at h
  simp only at h
  split at h
  ·cases hv : elemB10 L l (k1 + 1) with
   | error e => rw [hv] at h; cases h
   | ok x =>
    obtain ⟨b, k2⟩ := x
    rw [hv] at h
    simp only at h
    cases hw : betwB L s a b k1 with
    | error e => rw [hw] at h; cases h
    | ok s2 =>
     rw [hw] at h
     simp only at h
     injection h with h
     injection h with h1 h2
     subst h1
     exact betwB_sz hw hs hk hR
  ·injection h with h
   injection h with h1 h2
   subst h1
   exact hs.put (rows := [a]) hk (by simp)
theorem itemB_sz {L : Loc} {l : List Int} {s s' : BSet} {k k' : Nat} (h : itemB L l s k = .ok (s', k')) (hs : SzB s k) (hR : rightL L = true) (hc : ∀ c ∈ L.cls, c.rs.length ≤ 1000) : SzB s' k' := by
 have hk := (itemB_ok h).1
 cases h1 : atS l k [91, 58] with
 | true =>
  rw [item_class h1] at h
  cases hu : classB L l k (k + 2) with
  | error e => rw [hu] at h; cases h
  | ok p =>
   obtain ⟨rs, k1⟩ := p
   have := classB_len hu hc
   rw [hu] at h
   simp only at h
   injection h with h
   injection h with h1 h2
   subst h1
   exact hs.rng hk this
 | false =>
  cases h2 : atS l k [91, 61] with
  | true =>
   rw [item_alike h1 h2] at h
   cases hu : namedB L l k (k + 2) 61 with
   | error e => rw [hu] at h; cases h
   | ok p =>
    obtain ⟨cs, k1⟩ := p
    rw [hu] at h
    simp only at h
    injection h with h
    injection h with h3 h4
    subst h3
    exact hs.put hk (by have := alikeL_len (cs := cs) (ord500 hR); omega)
  | false =>
   rw [item_elems h1 h2] at h
   exact elemsB_sz h hs hR
theorem put1_no (s : BSet) (r : List Int) : (put1 s r).no = s.no := by
 by_cases h : r.length = 1
 ·match r, h with
  | [c], _ => rfl
 ·rw [put1_text s h]
theorem putL_no : ∀ (rows : List (List Int)) (s : BSet), (putL s rows).no = s.no
 | [], _ => rfl
 | r :: rows, s => (putL_no rows (put1 s r)).trans (put1_no s r)
theorem itemB_no {L : Loc} {l : List Int} {s s' : BSet} {k k' : Nat} (h : itemB L l s k = .ok (s', k')) : s'.no = s.no := by
 cases h1 : atS l k [91, 58] with
 | true =>
  rw [item_class h1] at h
  cases hu : classB L l k (k + 2) with
  | error e => rw [hu] at h; cases h
  | ok p =>
   rw [hu] at h
   simp only at h
   injection h with h
   injection h with h _
   subst h
   rfl
 | false =>
  cases h2 : atS l k [91, 61] with
  | true =>
   rw [item_alike h1 h2] at h
   cases hu : namedB L l k (k + 2) 61 with
   | error e => rw [hu] at h; cases h
   | ok p =>
    rw [hu] at h
    simp only at h
    injection h with h
    injection h with h _
    subst h
    exact putL_no _ _
  | false =>
   rw [item_elems h1 h2] at h
   unfold elemsB at h
   cases hu : elemB10 L l k with
   | error e => rw [hu] at h; cases h
   | ok p =>
    rw [hu] at h
    simp only at h
    split at h
    ·cases hv : elemB10 L l (p.2 + 1) with
     | error e => rw [hv] at h; cases h
     | ok x =>
      rw [hv] at h
      simp only at h
      cases hw : betwB L s p.1 x.1 p.2 with
      | error e => rw [hw] at h; cases h
      | ok s2 =>
       rw [hw] at h
       simp only at h
       injection h with h
       injection h with h _
       subst h
       unfold betwB at hw
       split at hw
       ·split at hw
        ·cases hw
        ·injection hw with hw
         subst hw
         rfl
       ·split at hw
        ·cases hw
        ·injection hw with hw
         subst hw
         exact putL_no _ _
    ·injection h with h
     injection h with h _
     subst h
     exact put1_no _ _
theorem items_fuel {L : Loc} {l : List Int} : ∀ (f f' : Nat) (s : BSet) (k : Nat), k ≤ l.length → l.length + 1 - k ≤ f → l.length + 1 - k ≤ f' → itemsB L l f s k = itemsB L l f' s k
 | 0, _, _, k, h, h1, _ => by omega
 | _ + 1, 0, _, k, h, _, h2 => by omega
 | f + 1, f' + 1, s, k, h, h1, h2 => by
  unfold itemsB
  split
  ·rfl
  ·cases hu : itemB L l s k with
   | error e => rfl
   | ok p =>
    obtain ⟨h3, h4⟩ := itemB_ok (s' := p.1) (k' := p.2) hu
    exact items_fuel f f' p.1 p.2 h4 (by omega) (by omega)
theorem items_step {L : Loc} {l : List Int} {s : BSet} {k : Nat} (h : k ≤ l.length) : itemsB L l (l.length + 1 - k) s k = if atS l k [93] then .ok (s, k + 1) else match itemB L l s k with | .error e => .error e | .ok (s', k') => itemsB L l (l.length - k) s' k' := by
 rw [show l.length + 1 - k = (l.length - k) + 1 by omega]
 rfl
theorem RdB.setNo {w : World} {q : BSit} {m k : Nat} {hi : Value → Value → Prop} {s : BSet} (h : RdB w q m hi k s) (b : Bool) : RdB (w.setCell ⟨q.R, 2, none⟩ (.bool b)) q m hi k ⟨b, s.rs, s.ts⟩ := by
 have hf : Fr w (w.setCell ⟨q.R, 2, none⟩ (.bool b)) (· = q.R) := (Fr.refl w _).set _ _ fun _ => rfl
 obtain ⟨vR, vT, hx, hh⟩ := h.open_
 obtain ⟨k1, k2, k3⟩ := hx.kept hf (fun g e => .inl e)
 exact ⟨⟨vR, vT, (hx.row.set 2 (.bool b)), ownsRow_fr hx.r hf (fun g hg e => by have := own_ge hx.r hg; omega), hx.t.frX hf (fun g hg e => by omega), hh⟩, h.le, h.lc, k1, h.ac, h.tr, k2, k3, h.gt⟩
theorem RdB.noTexts {w : World} {q : BSit} {m k : Nat} {hi : Value → Value → Prop} {s : BSet} (h : RdB w q m hi k s) : RdB (w.setCell ⟨q.R, 4, none⟩ (.slice none 0 0)) q m (fun _ _ => True) k ⟨s.no, s.rs, []⟩ := by
 have hf : Fr w (w.setCell ⟨q.R, 4, none⟩ (.slice none 0 0)) (· = q.R) := (Fr.refl w _).set _ _ fun _ => rfl
 obtain ⟨vR, vT, hx, hh⟩ := h.open_
 obtain ⟨k1, k2, k3⟩ := hx.kept hf (fun g e => .inl e)
 exact ⟨⟨vR, .slice none 0 0, (hx.row.set 4 (.slice none 0 0)), ownsRow_fr hx.r hf (fun g hg e => by have := own_ge hx.r hg; omega), RowsAt.nil _ _, trivial⟩, h.le, h.lc, k1, h.ac, h.tr, k2, k3, h.gt⟩
theorem RdB.cell4 {w : World} {q : BSit} {m k : Nat} {hi : Value → Value → Prop} {s : BSet} (h : RdB w q m hi k s) : ∃ v, w.cell? ⟨q.R, 4, none⟩ = some v := by
 obtain ⟨vR, vT, hx, _⟩ := h.open_
 exact ⟨vT, hx.cell4⟩
def placeR (w : World) (R : Nat) : Nat := match w.cell? ⟨R, 1, none⟩ with | some (.int _ z) => z.toNat | _ => 0
theorem RdB.place {w : World} {q : BSit} {m k : Nat} {hi : Value → Value → Prop} {s : BSet} (h : RdB w q m hi k s) : placeR w q.R = k := by
 unfold placeR
 rw [h.cell1]
 simp
set_option maxRecDepth 100000 in
set_option maxHeartbeats 2000000 in
theorem readB_any (w : World) (q : BSit) (m : Nat) (hi : Value → Value → Prop) (k0 : Nat) (h : RdB w q m hi k0 ⟨false, [], []⟩) (hq : BOk q (m + 8 * (q.l.length + 1))) (hl : q.l.length ≤ 100000) :
  Calls Tryz.prog 20 #[.pointer (some ⟨q.R, 0, none⟩)] w (BOut w q (m + 8 * (q.l.length + 1)) (readB q.L q.l k0) fun p e w' => e = .returned (.tuple #[]) ∧ RdB w' q (m + 8 * (q.l.length + 1)) (fun _ _ => True) p.2 p.1 ∧ Fr w w' (BY q)) := by
 have htk := takes1_any w q m hi k0 _ 94 w.heap.size rfl h hq.l
 have hk0 := h.le
 have HQ := Lib.hid hq
 have HL := Lib.hid hl
 have htr := h.tr
 clear h hq
 obtain ⟨no, hno⟩ : ∃ no, no = atS q.l k0 [94] := ⟨_, rfl⟩
 obtain ⟨k1, hk1⟩ : ∃ k1, k1 = adv no k0 1 := ⟨_, rfl⟩
 rw [← hno] at htk
 rw [← hk1] at htk
 have HV : Hid (readB q.L q.l k0 = match itemB q.L q.l ⟨no, [], []⟩ k1 with | .error e => .error e | .ok (s, k) => match itemsB q.L q.l (q.l.length + 1 - k) s k with | .error e => .error e | .ok (s, k) => .ok (if no then ⟨s.no, s.rs, []⟩ else s, k)) := Lib.hid (by unfold readB; simp only; rw [← hno, hk1]; rfl)
 clear hno hk1
 go_enter Tryz.func20, Tryz.ntmps20
 go_wp2_with fail
 refine htk.mono ?_
 rintro e w1 ⟨rfl, h1, hf1⟩
 have h2 := h1.setNo no
 obtain ⟨w2, hw2⟩ : ∃ w2, w2 = w1.setCell ⟨q.R, 2, none⟩ (.bool no) := ⟨_, rfl⟩
 have hf2 : Fr w w2 (BY q) := by rw [hw2]; exact (BX.all q hf1).trans ((Fr.refl _ _).set _ _ fun _ => .inr (Nat.le_refl _))
 rw [← hw2] at h2
 have hit := itemB_any w2 q m hi k1 _ h2 ⟨HQ.out.l, HQ.out.r, HQ.out.c, by have := HQ.out.m; omega⟩ ⟨by simp, by simp⟩
 have p2 := h1.cell2
 have f2 := h1.frozen 2
 have HF2 := Lib.hid hf2
 simp only at p2
 have hsz0 : SzB (⟨no, [], []⟩ : BSet) k1 := ⟨by simp, by simp⟩
 clear htk h1 hf1 h2 hf2
 cases hu : itemB q.L q.l ⟨no, [], []⟩ k1 with
 | error er =>
  rw [hu] at hit HV
  clear hu
  unfold BOut at hit
  simp only at hit
  go_wp2_with fail
  rw [← hw2]
  clear hw2 p2 f2
  refine hit.mono ?_
  rintro e w3 ⟨rfl, hb⟩
  have HB := Lib.hid (hb.behind HF2.out)
  clear hit hb
  go_wp2
  exact ⟨rfl, BOut.bad HV.out ⟨rfl, HB.out.up (by omega)⟩⟩
 | ok p =>
  obtain ⟨s1, kk1⟩ := p
  have hok := itemB_ok hu
  have hsz1 := itemB_sz hu hsz0 HQ.out.r HQ.out.c
  have hno0 := itemB_no hu
  rw [hu] at hit HV
  clear hu
  unfold BOut at hit
  simp only at hit HV
  go_wp2_with fail
  rw [← hw2]
  clear hw2 p2 f2
  refine hit.mono ?_
  rintro e w3 ⟨rfl, h3, hf3⟩
  obtain ⟨res, hres⟩ : ∃ res, res = itemsB q.L q.l (q.l.length + 1 - kk1) s1 kk1 := ⟨_, rfl⟩
  have hno1 : s1.no = no := hno0
  have HI1 : Hid (RdB w3 q (m + 8 * kk1) (fun _ _ => True) kk1 s1 ∧ SzB s1 kk1 ∧ s1.no = no ∧ Fr w w3 (BY q) ∧ itemsB q.L q.l (q.l.length + 1 - kk1) s1 kk1 = res) := Lib.hid ⟨h3.up (by omega), hsz1, hno1, HF2.out.trans hf3, hres.symm⟩
  rw [← hres] at HV
  clear hit h3 hf3 hsz1 hsz0 hres hno0 hno1 HF2
  go_wp2
  go_loopw [13] (fun _ wr => ∃ (kk : Nat) (ss : BSet), Hid (RdB wr q (m + 8 * kk) (fun _ _ => True) kk ss ∧ SzB ss kk ∧ ss.no = no ∧ Fr w wr (BY q) ∧ itemsB q.L q.l (q.l.length + 1 - kk) ss kk = res)) (fun _ wr => q.l.length + 1 - placeR wr q.R)
  case atStart => exact ⟨kk1, s1, HI1⟩
  case round =>
   clear HI1
   obtain ⟨kk, ss, HI⟩ := hrel
   have hrd := HI.out.1
   have hpl := hrd.place
   have hkk := hrd.le
   have htk := takes1_any wr q (m + 8 * kk) _ kk ss 93 wr.heap.size rfl hrd HQ.out.l
   have hst := items_step (L := q.L) (s := ss) hkk
   rw [HI.out.2.2.2.2] at hst
   have HPL := Lib.hid hpl
   obtain ⟨b, hb⟩ : ∃ b, b = atS q.l kk [93] := ⟨_, rfl⟩
   rw [← hb] at htk hst
   have HST := Lib.hid hst
   have HAT := Lib.hid hb
   clear hrd hpl hst hb
   go_wp2_with fail
   refine htk.mono ?_
   rintro e w4 ⟨rfl, h4, hf4⟩
   have HF4 := Lib.hid (HI.out.2.2.2.1.trans (BX.all q hf4))
   cases b with
   | true =>
    change RdB w4 q (m + 8 * kk) _ (kk + 1) ss at h4
    have HR : Hid (res = .ok (ss, kk + 1)) := Lib.hid (by rw [HST.out]; rfl)
    have hkl := atS_len HAT.out.symm (by simp)
    simp only [List.length_singleton] at hkl
    have p2 := h4.cell2
    rw [HI.out.2.2.1] at p2
    obtain ⟨v4, p4⟩ := h4.cell4
    have f4 := h4.frozen 4
    have hT := h4.noTexts
    have HE : Hid (RdB w4 q (m + 8 * (q.l.length + 1)) (fun _ _ => True) (kk + 1) ss ∧ RdB (w4.setCell ⟨q.R, 4, none⟩ (.slice none 0 0)) q (m + 8 * (q.l.length + 1)) (fun _ _ => True) (kk + 1) ⟨ss.no, ss.rs, []⟩) := Lib.hid ⟨h4.up (by omega), hT.up (by omega)⟩
    have HFT : Hid (Fr w (w4.setCell ⟨q.R, 4, none⟩ (.slice none 0 0)) (BY q)) := Lib.hid (HF4.out.trans ((Fr.refl _ _).set _ _ fun _ => .inr (Nat.le_refl _)))
    have HVR : Hid (readB q.L q.l k0 = .ok (if no then ⟨ss.no, ss.rs, []⟩ else ss, kk + 1)) := Lib.hid (by rw [HV.out, HR.out])
    clear htk h4 hf4 hT
    cases no with
    | true =>
     go_wp2
     go_end0
     exact BOut.ok HVR.out ⟨rfl, HE.out.2, HFT.out⟩
    | false =>
     go_wp2
     go_end0
     exact BOut.ok HVR.out ⟨rfl, HE.out.1, HF4.out⟩
   | false =>
    change RdB w4 q (m + 8 * kk) _ kk ss at h4
    have HR : Hid (res = match itemB q.L q.l ss kk with | .error e => .error e | .ok (s', k') => itemsB q.L q.l (q.l.length - kk) s' k') := Lib.hid (by rw [HST.out]; rfl)
    have hit := itemB_any w4 q (m + 8 * kk) _ kk ss h4 ⟨HQ.out.l, HQ.out.r, HQ.out.c, by have := HQ.out.m; omega⟩ (HI.out.2.1.up (by have := HL.out; omega))
    clear htk h4 hf4
    cases hu : itemB q.L q.l ss kk with
    | error er =>
     rw [hu] at hit HR
     clear hu
     unfold BOut at hit
     simp only at hit
     have HVR : Hid (readB q.L q.l k0 = .error er) := Lib.hid (by rw [HV.out, HR.out])
     go_wp2_with fail
     refine hit.mono ?_
     rintro e w5 ⟨rfl, hb⟩
     have HB := Lib.hid (hb.behind HF4.out)
     clear hit hb
     go_wp2
     exact ⟨rfl, BOut.bad HVR.out ⟨rfl, HB.out.up (by omega)⟩⟩
    | ok p =>
     obtain ⟨s', k'⟩ := p
     have hok2 := itemB_ok hu
     have hsz2 := itemB_sz hu HI.out.2.1 HQ.out.r HQ.out.c
     have hno2 := (itemB_no hu).trans HI.out.2.2.1
     rw [hu] at hit HR
     clear hu
     unfold BOut at hit
     simp only at hit HR
     go_wp2_with fail
     refine hit.mono ?_
     rintro e w5 ⟨rfl, h5, hf5⟩
     have hpl5 := h5.place
     have HI5 : Hid (RdB w5 q (m + 8 * k') (fun _ _ => True) k' s' ∧ SzB s' k' ∧ s'.no = no ∧ Fr w w5 (BY q) ∧ itemsB q.L q.l (q.l.length + 1 - k') s' k' = res) := Lib.hid ⟨h5.up (by omega), hsz2, hno2, HF4.out.trans hf5, by rw [HR.out]; exact items_fuel _ _ _ _ hok2.2 (Nat.le_refl _) (by omega)⟩
     have HM : Hid (q.l.length + 1 - placeR w5 q.R < q.l.length + 1 - placeR wr q.R) := Lib.hid (by rw [hpl5, HPL.out]; omega)
     clear hit h5 hf5 hpl5
     go_wp2
     go_roundw
     case rel => exact ⟨k', s', HI5⟩
     case measure => exact HM.out
end Go.Proofs.YthgiikhkcpbpfaaGreatDoor.C
