/-
  A bracket's reader: a class' ranges, the cells of an element by its name or cells, an element, whether what is between is told by numbers. Condition: what is asked of the cells, the locale, and how often the table was asked (BOk).
-/
import Derived.Test.YthgiikhkcpbpfaaGreatDoorQBaD
namespace Go.Proofs.YthgiikhkcpbpfaaGreatDoor.C
open Go.RowKit

structure BOk (q : BSit) (m : Nat) : Prop where
 l : q.l.length ≤ 1000000
 r : rightL q.L = true
 c : ∀ k ∈ q.L.cls, k.rs.length ≤ 1000
 m : m ≤ 1000000000
theorem BOk.txt {cs l : List Int} {x : Int} {k k' : Nat} (h : upToL l k x = .ok (cs, k')) : cs.length ≤ l.length := by
 obtain ⟨h1, h2, _, h4⟩ := upToL_ok h
 omega
set_option maxRecDepth 100000 in
set_option maxHeartbeats 4000000 in
theorem namedB_any (w : World) (q : BSit) (m : Nat) (hi : Value → Value → Prop) (k : Nat) (s : BSet) (b : Nat) (x : Int) (h : RdB w q m hi k s) (hq : BOk q (m + 2)) :
  Calls Tryz.prog 68 #[.pointer (some ⟨q.R, 0, none⟩), .int .i64 (b : Int), .int .i32 x] w (BOut w q (m + 2) (namedB q.L q.l b k x) fun p e w' => (∃ v, e = .returned v ∧ w'.ownsRow w.heap.size 30 1 v p.1.length (celC p.1)) ∧ RdB w' q (m + 2) hi p.2 s ∧ Fr w w' (BX q)) := by
 have hup := upToB_any w q m hi k s x h hq.l
 have HQ := Lib.hid hq
 clear h hq
 cases hu : upToL q.l k x with
 | error er =>
  rw [hu] at hup
  have HV : Hid (namedB q.L q.l b k x = .error er) := Lib.hid (by unfold namedB; rw [hu])
  clear hu
  unfold BOut at hup
  go_enter Tryz.func68, Tryz.ntmps68
  go_wp2_with fail
  refine hup.mono ?_
  rintro e w1 ⟨rfl, hb⟩
  have HB := Lib.hid hb
  clear hup hb
  go_wp2
  exact ⟨rfl, BOut.bad HV.out ⟨rfl, HB.out.up (by omega)⟩⟩
 | ok p =>
  obtain ⟨cs, k'⟩ := p
  rw [hu] at hup
  unfold BOut at hup
  simp only at hup
  have HU := Lib.hid hu
  have HL : Hid (cs.length ≤ 1000000) := Lib.hid (Nat.le_trans (BOk.txt hu) HQ.out.l)
  have HV : Hid (namedB q.L q.l b k x = if cs = [] then .error (30, q.l.length) else if namedT q.L.ord (textL cs) ≠ [] then .ok (namedT q.L.ord (textL cs), k') else if placeV q.L.ord cs < 0 then .error (31, b) else .ok (cs, k')) := Lib.hid (by unfold namedB; rw [hu])
  clear hu
  go_enter Tryz.func68, Tryz.ntmps68
  go_wp2_with fail
  refine hup.mono ?_
  rintro e w1 ⟨⟨A1, c1, rfl, hc1, hci⟩, h1, hf1⟩
  have hsz1 := hf1.size
  have HC1 := Lib.hid hci
  have H1 := Lib.hid h1
  have HF1 := Lib.hid hf1
  clear hup hci h1 hf1
  by_cases hcs : cs = []
  ·have hn0 : ((cs.length : Int) == 0) = true := by simp [hcs]
   have HV1 : Hid (namedB q.L q.l b k x = .error (30, q.l.length)) := Lib.hid (by rw [HV.out, if_pos hcs])
   clear hcs
   go_wp2
   exact ⟨rfl, BOut.bad HV1.out ⟨rfl, (H1.out.bad (BX.all q HF1.out)).up (by omega)⟩⟩
  have hn0 : ((cs.length : Int) == 0) = false := by simp [hcs]
  have hpos : 0 < cs.length := List.length_pos_iff.2 hcs
  have htx := text_any w1.drew q.R A1 cs.length c1 cs HC1.out.1 (Nat.le_of_lt H1.out.rlt) (by have := HL.out; omega) H1.out.gl
  have HP1 : Hid (w1.cell? ⟨q.R, 5, none⟩ = some (.pointer (some ⟨q.T, 0, none⟩))) := Lib.hid H1.out.cell5
  have HV1 : Hid (namedB q.L q.l b k x = if namedT q.L.ord (textL cs) ≠ [] then .ok (namedT q.L.ord (textL cs), k') else if placeV q.L.ord cs < 0 then .error (31, b) else .ok (cs, k')) := Lib.hid (by rw [HV.out, if_neg hcs])
  clear hcs HV
  go_wp2
  refine wp_region_held (S := fun W : World => W.cell? ⟨q.R, 5, none⟩ = some (.pointer (some ⟨q.T, 0, none⟩))) (by kernel_rfl) ?_
  change wpAnyH _ _ _ _ _ _ _ _ w1.drew
  have hS1 : (fun W : World => W.cell? ⟨q.R, 5, none⟩ = some (.pointer (some ⟨q.T, 0, none⟩))) w1.drew := HP1.out
  iterate 5 (refine wpH rfl rfl ?_; try simp only [Act.put, g1, g2, g3, g4, g5, g6])
  clear hS1
  refine wpAnyH_one (i := 5) (by kernel_rfl) rfl (fun K hK => ?_)
  simp only [g4, g5, g6]
  go_simp
  go_at_call 93
  refine htx.mono ?_
  rintro e w2 ⟨rfl, hb2⟩
  have hbb : Below w1.heap.size w1 w2 := (below_drew (Below.refl _ _)).trans hb2
  have H2 := Lib.hid (H1.out.below hbb)
  have HC2 := Lib.hid (HC1.out.fr (.of_below hbb) H1.out.rlt)
  have HF2 : Hid (Fr w w2 (BX q)) := Lib.hid (HF1.out.trans (.of_below hbb))
  obtain ⟨n, n0, n1, ht⟩ := H2.out.tab
  have hnm := named_any w2 q.T q.L n (textL cs) ht n0 (by have := HQ.out.m; omega) HQ.out.r (by have := textL_le cs; have := HL.out; omega)
  have hS2 : (fun W : World => W.cell? ⟨q.R, 5, none⟩ = some (.pointer (some ⟨q.T, 0, none⟩))) w2 := H2.out.cell5
  have HN0 := Lib.hid (And.intro n0 n1)
  clear htx hb2 hbb ht n0 n1
  refine hK.out _ _ hS2 (fun hS3 => ?_)
  clear hK
  try simp only [Act.put, g1, g2, g3, g4, g5, g6]
  refine wpAnyH_one (i := 6) (by kernel_rfl) rfl (fun K hK => ?_)
  simp only [g4, g5, g6]
  go_simp
  go_at_call 102
  refine hnm.mono ?_
  rintro e w3 ⟨v, rfl, hown, ht, hf⟩
  have H3 := Lib.hid ((H2.out.asked hf ⟨n + 1, by have := HN0.out; omega, by have := HN0.out; push_cast; omega, ht⟩ : RdB w3 q (m + 1) hi k' s))
  have HF3 : Hid (Fr w w3 (BX q)) := Lib.hid (HF2.out.trans (hf.mono fun j _ e => .inl e))
  have HC3 := Lib.hid (HC2.out.fr (hf.mono fun j _ e => .inl e) H2.out.rlt)
  have HO3 := Lib.hid (own_low hown HF2.out.size)
  obtain ⟨A3, c3, rfl⟩ := row_form hown
  have hS4 : (fun W : World => W.cell? ⟨q.R, 5, none⟩ = some (.pointer (some ⟨q.T, 0, none⟩))) w3 := H3.out.cell5
  clear hnm hown ht hf hS2 hS3
  refine hK.out _ _ hS4 (fun hS5 => ?_)
  clear hK
  try simp only [Act.put, g1, g2, g3, g4, g5, g6]
  iterate 1 (refine wpH rfl rfl ?_; try simp only [Act.put, g1, g2, g3, g4, g5, g6])
  refine wpAnyH_done (by kernel_rfl) ?_ _
  clear hS4 hS5
  obtain ⟨ns, hns⟩ : ∃ ns, ns = namedT q.L.ord (textL cs) := ⟨_, rfl⟩
  rw [← hns] at HO3 HV1 ⊢
  clear hns
  by_cases hne : ns = []
  ·have hg0 : ¬ (0 : Int) < (ns.length : Int) := by simp [hne]
   have HV2 : Hid (namedB q.L q.l b k x = if placeV q.L.ord cs < 0 then .error (31, b) else .ok (cs, k')) := Lib.hid (by rw [HV1.out, if_neg (by simp [hne])])
   have HP3 := Lib.hid H3.out.cell5
   obtain ⟨n2, a0, a1, ht⟩ := H3.out.tab
   have hrk := rank_any w3 q.T q.L n2 q.R A1 cs.length c1 cs ht a0 (by have := HQ.out.m; omega) HQ.out.r HC3.out.1 (Nat.le_of_lt H3.out.rlt) HC3.out.2 H3.out.gl H3.out.gt
   have HN2 := Lib.hid (And.intro a0 a1)
   obtain ⟨pl, hpl⟩ : ∃ pl, pl = placeV q.L.ord cs := ⟨_, rfl⟩
   rw [← hpl] at hrk HV2
   have p5 := HP3.out
   clear hne ht a0 a1 hpl
   go_wp2_with fail
   refine hrk.mono ?_
   rintro e w4 ⟨rfl, ht, hf⟩
   have H4 := Lib.hid ((H3.out.asked hf ⟨n2 + 1, by have := HN2.out; omega, by have := HN2.out; push_cast at this ⊢; omega, ht⟩ : RdB w4 q (m + 2) hi k' s))
   have HF4 : Hid (Fr w w4 (BX q)) := Lib.hid (HF3.out.trans (hf.mono fun j _ e => .inl e))
   have HC4 := Lib.hid (HC3.out.fr (hf.mono fun j _ e => .inl e) H3.out.rlt)
   clear hrk ht hf p5
   by_cases hp : pl < 0
   ·have HV3 : Hid (namedB q.L q.l b k x = .error (31, b)) := Lib.hid (by rw [HV2.out, if_pos hp])
    go_wp2
    exact ⟨rfl, BOut.bad HV3.out ⟨by rw [pan31], H4.out.bad (BX.all q HF4.out)⟩⟩
   ·have HV3 : Hid (namedB q.L q.l b k x = .ok (cs, k')) := Lib.hid (by rw [HV2.out, if_neg hp])
    have hcl := cloneC_any w4 q.R A1 cs.length c1 cs HC4.out.1 (by have := HL.out; omega)
    go_wp2_with fail
    refine hcl.mono ?_
    rintro e w5 ⟨v5, rfl, hown, hb5⟩
    have HE : Hid (w5.ownsRow w.heap.size 30 1 v5 cs.length (celC cs) ∧ RdB w5 q (m + 2) hi k' s ∧ Fr w w5 (BX q)) := Lib.hid ⟨own_low hown HF4.out.size, H4.out.below hb5, HF4.out.trans (.of_below hb5)⟩
    clear hcl hown hb5
    go_wp2
    go_ret
    exact BOut.ok HV3.out ⟨⟨_, rfl, HE.out.1⟩, HE.out.2⟩
  ·have hg0 : (0 : Int) < (ns.length : Int) := by have := List.length_pos_iff.2 hne; omega
   have HV2 : Hid (namedB q.L q.l b k x = .ok (ns, k')) := Lib.hid (by rw [HV1.out, if_pos hne])
   clear hne
   go_wp2
   go_ret
   exact BOut.ok HV2.out ⟨⟨_, rfl, HO3.out⟩, H3.out.up (by omega), HF3.out⟩
def classB (L : Loc) (l : List Int) (b k : Nat) : Except BEr (List (Int × Int) × Nat) :=
 match upToL l k 58 with
 | .error e => .error e
 | .ok (cs, k') => match rangesL L.cls (textL cs) with
  | none => .error (31, b)
  | some rs => .ok (rs, k')
set_option maxRecDepth 100000 in
set_option maxHeartbeats 4000000 in
theorem classB_any (w : World) (q : BSit) (m : Nat) (hi : Value → Value → Prop) (k : Nat) (s : BSet) (b : Nat) (h : RdB w q m hi k s) (hq : BOk q (m + 1)) :
  Calls Tryz.prog 65 #[.pointer (some ⟨q.R, 0, none⟩), .int .i64 (b : Int)] w (BOut w q (m + 1) (classB q.L q.l b k) fun p e w' => (∃ v, e = .returned v ∧ w'.ownsRow w.heap.size 46 2 v p.1.length (prsC p.1)) ∧ RdB w' q (m + 1) hi p.2 s ∧ Fr w w' (BX q)) := by
 have hup := upToB_any w.drew q m hi k s 58 h.drew hq.l
 have HQ := Lib.hid hq
 have H := Lib.hid h
 clear h hq
 go_enter Tryz.func65, Tryz.ntmps65
 go_wp2
 refine wp_region_held (S := fun W : World => W.cell? ⟨q.R, 5, none⟩ = some (.pointer (some ⟨q.T, 0, none⟩))) (by kernel_rfl) ?_
 change wpAnyH _ _ _ _ _ _ _ _ w.drew
 have hS1 : (fun W : World => W.cell? ⟨q.R, 5, none⟩ = some (.pointer (some ⟨q.T, 0, none⟩))) w.drew := H.out.cell5
 iterate 7 (refine wpH rfl rfl ?_; try simp only [Act.put, g1, g2, g3, g4, g5, g6])
 clear hS1
 refine wpAnyH_one (i := 7) (by kernel_rfl) rfl (fun K hK => ?_)
 simp only [g4, g5, g6]
 go_simp
 go_at_call 97
 cases hu : upToL q.l k 58 with
 | error er =>
  rw [hu] at hup
  have HV : Hid (classB q.L q.l b k = .error er) := Lib.hid (by unfold classB; rw [hu])
  clear hu
  unfold BOut at hup
  refine hup.mono ?_
  rintro e w1 ⟨rfl, hb⟩
  exact ⟨rfl, BOut.bad HV.out ⟨rfl, (hb.behind (Fr.refl _ _).drew).up (by omega)⟩⟩
 | ok p =>
  obtain ⟨cs, k'⟩ := p
  rw [hu] at hup
  unfold BOut at hup
  simp only at hup
  have HL : Hid (cs.length ≤ 1000000) := Lib.hid (Nat.le_trans (BOk.txt hu) HQ.out.l)
  have HV : Hid (classB q.L q.l b k = match rangesL q.L.cls (textL cs) with | none => .error (31, b) | some rs => .ok (rs, k')) := Lib.hid (by unfold classB; rw [hu])
  clear hu
  refine hup.mono ?_
  rintro e w1 ⟨⟨A1, c1, rfl, hc1, hci⟩, h1, hf1⟩
  have HC1 := Lib.hid hci
  have H1 := Lib.hid h1
  have HF1 : Hid (Fr w w1 (BX q)) := Lib.hid ((Fr.refl w _).drew.trans hf1)
  have htx := text_any w1 q.R A1 cs.length c1 cs hci.1 (Nat.le_of_lt h1.rlt) (by have := HL.out; omega) h1.gl
  have hS2 : (fun W : World => W.cell? ⟨q.R, 5, none⟩ = some (.pointer (some ⟨q.T, 0, none⟩))) w1 := h1.cell5
  clear hup hci h1 hf1
  refine hK.out _ _ hS2 (fun hS3 => ?_)
  clear hK
  try simp only [Act.put, g1, g2, g3, g4, g5, g6]
  refine wpAnyH_one (i := 8) (by kernel_rfl) rfl (fun K hK => ?_)
  simp only [g4, g5, g6]
  go_simp
  go_at_call 93
  refine htx.mono ?_
  rintro e w2 ⟨rfl, hb2⟩
  have H2 := Lib.hid (H1.out.below hb2)
  have HF2 : Hid (Fr w w2 (BX q)) := Lib.hid (HF1.out.trans (.of_below hb2))
  obtain ⟨n, n0, n1, ht⟩ := H2.out.tab
  have hcl := classT_any w2 q.T q.L n (textL cs) ht n0 (by have := HQ.out.m; omega) HQ.out.r (fun k hk => by have := HQ.out.c k hk; omega)
  have hS4 : (fun W : World => W.cell? ⟨q.R, 5, none⟩ = some (.pointer (some ⟨q.T, 0, none⟩))) w2 := H2.out.cell5
  have HN0 := Lib.hid (And.intro n0 n1)
  clear htx hb2 ht n0 n1 hS2 hS3
  refine hK.out _ _ hS4 (fun hS5 => ?_)
  clear hK
  try simp only [Act.put, g1, g2, g3, g4, g5, g6]
  refine wpAnyH_one (i := 9) (by kernel_rfl) rfl (fun K hK => ?_)
  simp only [g4, g5, g6]
  go_simp
  go_at_call 96
  refine hcl.mono ?_
  rintro e w3 ⟨v, rfl, hown, ht, hf⟩
  have H3 := Lib.hid ((H2.out.asked hf ⟨n + 1, by have := HN0.out; omega, by have := HN0.out; push_cast; omega, ht⟩ : RdB w3 q (m + 1) hi k' s))
  have HF3 : Hid (Fr w w3 (BX q)) := Lib.hid (HF2.out.trans (hf.mono fun j _ e => .inl e))
  have HO3 := Lib.hid (own_low hown HF2.out.size)
  have hS6 : (fun W : World => W.cell? ⟨q.R, 5, none⟩ = some (.pointer (some ⟨q.T, 0, none⟩))) w3 := H3.out.cell5
  clear hcl hown ht hf hS4 hS5
  refine hK.out _ _ hS6 (fun hS7 => ?_)
  clear hK
  try simp only [Act.put, g1, g2, g3, g4, g5, g6]
  iterate 5 (refine wpH rfl rfl ?_; try simp only [Act.put, g1, g2, g3, g4, g5, g6])
  refine wpAnyH_done (by kernel_rfl) ?_ _
  clear hS6 hS7
  cases hr : rangesL q.L.cls (textL cs) with
  | none =>
   rw [hr] at HV HO3
   clear hr
   simp only [Option.isSome_none]
   go_wp2
   exact ⟨rfl, BOut.bad HV.out ⟨by rw [pan31], H3.out.bad (BX.all q HF3.out)⟩⟩
  | some rs =>
   rw [hr] at HV HO3
   clear hr
   simp only [Option.isSome_some, Option.getD_some] at HO3 ⊢
   go_wp2
   go_ret
   exact BOut.ok HV.out ⟨⟨_, rfl, HO3.out⟩, H3.out, HF3.out⟩
theorem own_new1 (w : World) (lo : Nat) (hl : lo ≤ w.heap.size) (c : Int) : (w.alloc (.cells #[.int .i32 c] 30)).ownsRow lo 30 1 (.slice (some ⟨w.heap.size, 0, none⟩) 1 1) 1 (celC [c]) := own_newK (l := celC [c]) hl rfl (by decide)
set_option maxRecDepth 100000 in
set_option maxHeartbeats 4000000 in
theorem elementB_any (w : World) (q : BSit) (m : Nat) (hi : Value → Value → Prop) (k : Nat) (s : BSet) (h : RdB w q m hi k s) (hq : BOk q (m + 2)) :
  Calls Tryz.prog 104 #[.pointer (some ⟨q.R, 0, none⟩)] w (BOut w q (m + 2) (elemB10 q.L q.l k) fun p e w' => (∃ v, e = .returned v ∧ w'.ownsRow w.heap.size 30 1 v p.1.length (celC p.1)) ∧ RdB w' q (m + 2) hi p.2 s ∧ Fr w w' (BX q)) := by
 have htk := takes2_any w q m hi k s 91 46 w.heap.size rfl h hq.l
 have p1 := h.cell1
 have HQ := Lib.hid hq
 obtain ⟨b, hb⟩ : ∃ b, b = atS q.l k [91, 46] := ⟨_, rfl⟩
 rw [← hb] at htk
 have HB := Lib.hid hb
 clear h hq hb
 go_enter Tryz.func104, Tryz.ntmps104
 go_wp2_with fail
 refine htk.mono ?_
 rintro e w1 ⟨rfl, h1, hf1⟩
 have hs1 := hf1.size
 have HF1 := Lib.hid hf1
 cases b with
 | true =>
  change RdB w1 q m hi (k + 2) s at h1
  have hnm := namedB_any w1 q m hi (k + 2) s k 46 h1 HQ.out
  have HV : Hid (elemB10 q.L q.l k = namedB q.L q.l k (k + 2) 46) := Lib.hid (by unfold elemB10; rw [← HB.out, if_pos rfl])
  obtain ⟨r, hr⟩ : ∃ r, r = namedB q.L q.l k (k + 2) 46 := ⟨_, rfl⟩
  rw [← hr] at hnm HV
  clear htk h1 hf1 p1 hr
  cases r with
  | error er =>
   unfold BOut at hnm
   go_wp2_with fail
   refine hnm.mono ?_
   rintro e w2 ⟨rfl, hb⟩
   have HE := Lib.hid (hb.behind (BX.all q HF1.out))
   clear hnm hb
   go_wp2
   exact ⟨rfl, BOut.bad HV.out ⟨rfl, HE.out⟩⟩
  | ok p =>
   unfold BOut at hnm
   simp only at hnm
   go_wp2_with fail
   refine hnm.mono ?_
   rintro e w2 ⟨⟨v, rfl, ho⟩, h2, hf2⟩
   have HE := Lib.hid (And.intro (own_low ho HF1.out.size) (And.intro h2 (HF1.out.trans hf2)))
   clear hnm ho h2 hf2
   go_wp2
   go_ret
   exact BOut.ok HV.out ⟨⟨_, rfl, HE.out.1⟩, HE.out.2⟩
 | false =>
  change RdB w1 q m hi k s at h1
  have hta := takeB_any w1 q m hi k s h1 HQ.out.l
  have HV : Hid (elemB10 q.L q.l k = match q.l[k]? with | none => .error (30, q.l.length) | some c => .ok ([c], k + 1)) := Lib.hid (by unfold elemB10; rw [← HB.out, if_neg (by decide)]; rfl)
  unfold takeL at hta
  clear htk h1 hf1 p1
  cases hc : q.l[k]? with
  | none =>
   rw [hc] at hta HV
   unfold BOut at hta
   simp only at hta
   clear hc
   go_wp2_with fail
   refine hta.mono ?_
   rintro e w2 ⟨rfl, hb⟩
   have HE := Lib.hid (hb.behind (BX.all q HF1.out))
   clear hta hb
   go_wp2
   exact ⟨rfl, BOut.bad HV.out ⟨rfl, HE.out.up (by omega)⟩⟩
  | some c =>
   rw [hc] at hta HV
   unfold BOut at hta
   simp only at hta
   clear hc
   go_wp2_with fail
   refine hta.mono ?_
   rintro e w2 ⟨rfl, h2, hf2⟩
   have HE := Lib.hid (And.intro (own_new1 w2 w.heap.size (HF1.out.trans hf2).size c) (And.intro ((h2.below (below_new w2 (.cells #[.int .i32 c] 30))).up (Nat.le_add_right m 2)) ((HF1.out.trans hf2).trans (.of_below (below_new w2 (.cells #[.int .i32 c] 30))))))
   clear hta h2 hf2
   go_wp2
   go_ret
   exact BOut.ok HV.out ⟨⟨_, rfl, HE.out.1⟩, HE.out.2⟩
theorem own_cells {w : World} {q : BSit} {A : Option Addr} {n c : Nat} {cs : List Int} (h : w.ownsRow (q.R + 1) 30 1 (.slice A n c) n (celC cs)) (ht : q.T < q.R) : RI .i32 w w.heap.size A n cs ∧ (0 < n → ∀ ad, A = some ad → ad.block ≠ q.T) := by
 refine ⟨RI.of_own h, fun h0 ad ha => ?_⟩
 obtain ⟨g, cap, hv, hg, hlt⟩ := h.form h0
 subst ha
 injection hv with hv
 injection hv with hv
 subst hv
 simp only
 omega
def numB (L : Loc) (a b : List Int) : Bool := decide (a.length = 1 ∧ b.length = 1 ∧ (placeV L.ord a < 0 ∨ placeV L.ord b < 0))
set_option maxRecDepth 100000 in
set_option maxHeartbeats 4000000 in
theorem isByB_any (w : World) (q : BSit) (m : Nat) (hi : Value → Value → Prop) (k : Nat) (s : BSet) (Aa Ab : Option Addr) (ca cb : Nat) (a b : List Int) (h : RdB w q m hi k s) (hq : BOk q (m + 2)) (ha : w.ownsRow (q.R + 1) 30 1 (.slice Aa a.length ca) a.length (celC a)) (hb : w.ownsRow (q.R + 1) 30 1 (.slice Ab b.length cb) b.length (celC b)) :
  Calls Tryz.prog 150 #[.pointer (some ⟨q.R, 0, none⟩), .slice Aa a.length ca, .slice Ab b.length cb] w fun e w' => e = .returned (.bool (numB q.L a b)) ∧ RdB w' q (m + 2) hi k s ∧ Fr w w' (· = q.T) := by
 have H := Lib.hid h
 have HQ := Lib.hid hq
 have HA := Lib.hid ha
 have HB := Lib.hid hb
 have p5 := h.cell5
 have htr := h.tr
 by_cases h1 : a.length = 1
 rotate_left
 ·have i1 : ((a.length : Int) != 1) = true := by simp; omega
  have HV : Hid (numB q.L a b = false) := Lib.hid (by simp [numB, h1])
  clear h hq ha hb p5
  go_enter Tryz.func150, Tryz.ntmps150
  go_wp2
  go_ret
  exact ⟨by rw [HV.out]; rfl, H.out.up (by omega), Fr.refl _ _⟩
 by_cases h2 : b.length = 1
 rotate_left
 ·have i1 : ((a.length : Int) != 1) = false := by simp; omega
  have i2 : ((b.length : Int) != 1) = true := by simp; omega
  have HV : Hid (numB q.L a b = false) := Lib.hid (by simp [numB, h2])
  clear h hq ha hb p5
  go_enter Tryz.func150, Tryz.ntmps150
  go_wp2
  go_ret
  exact ⟨by rw [HV.out]; rfl, H.out.up (by omega), Fr.refl _ _⟩
 have i1 : ((a.length : Int) != 1) = false := by simp; omega
 have i2 : ((b.length : Int) != 1) = false := by simp; omega
 have HV : Hid (numB q.L a b = (decide (placeV q.L.ord a < 0) || decide (placeV q.L.ord b < 0))) := Lib.hid (by simp [numB, h1, h2])
 obtain ⟨n, n0, n1, ht⟩ := h.tab
 obtain ⟨ra, rb⟩ := own_cells ha htr
 have hra := rank_any w q.T q.L n w.heap.size Aa a.length ca a ht n0 (by have := hq.m; omega) hq.r ra (Nat.le_refl _) rb h.gl h.gt
 have HN := Lib.hid (And.intro n0 n1)
 obtain ⟨pa, hpa⟩ : ∃ pa, pa = placeV q.L.ord a := ⟨_, rfl⟩
 obtain ⟨pb, hpb⟩ : ∃ pb, pb = placeV q.L.ord b := ⟨_, rfl⟩
 rw [← hpa] at hra
 rw [← hpa, ← hpb] at HV
 have HPB := Lib.hid hpb
 clear h hq ha hb h1 h2 ht n0 n1 ra rb hpa hpb
 go_enter Tryz.func150, Tryz.ntmps150
 go_wp2_with fail
 refine hra.mono ?_
 rintro e w1 ⟨rfl, ht, hf⟩
 have H1 := Lib.hid ((H.out.asked hf ⟨n + 1, by have := HN.out; omega, by have := HN.out; push_cast; omega, ht⟩ : RdB w1 q (m + 1) hi k s))
 have HF1 := Lib.hid hf
 clear hra ht hf p5
 by_cases hp : pa < 0
 ·have HV1 : Hid (numB q.L a b = true) := Lib.hid (by rw [HV.out]; simp [hp])
  go_wp2
  go_ret
  exact ⟨by rw [HV1.out]; rfl, H1.out.up (by omega), HF1.out⟩
 ·have HV1 : Hid (numB q.L a b = decide (pb < 0)) := Lib.hid (by rw [HV.out]; simp [hp])
  have p5 := H1.out.cell5
  obtain ⟨n2, n0, n1, ht⟩ := H1.out.tab
  have hb1 := ownsRow_fr HB.out HF1.out (fun g hg e => by have := (HB.out.lt g hg).1; omega)
  obtain ⟨ra, rb⟩ := own_cells hb1 htr
  have hrb := rank_any w1 q.T q.L n2 w1.heap.size Ab b.length cb b ht n0 (by have := HQ.out.m; omega) HQ.out.r ra (Nat.le_refl _) rb H1.out.gl H1.out.gt
  rw [← HPB.out] at hrb
  have HN2 := Lib.hid (And.intro n0 n1)
  clear ht n0 n1 ra rb hb1
  go_wp2_with fail
  refine hrb.mono ?_
  rintro e w2 ⟨rfl, ht, hf⟩
  have H2 := Lib.hid ((H1.out.asked hf ⟨n2 + 1, by have := HN2.out; omega, by have := HN2.out; push_cast at this ⊢; omega, ht⟩ : RdB w2 q (m + 2) hi k s))
  have HF2 := Lib.hid (HF1.out.trans hf)
  clear hrb ht hf p5
  go_wp2
  go_ret
  exact ⟨by first | (rw [HV1.out]; rfl) | (rw [HV.out]; rfl), H2.out, HF2.out⟩
end Go.Proofs.YthgiikhkcpbpfaaGreatDoor.C
