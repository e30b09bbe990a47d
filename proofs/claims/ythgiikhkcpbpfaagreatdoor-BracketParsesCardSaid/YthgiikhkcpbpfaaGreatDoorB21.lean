/-
  Joined: KoT, KoU. Each with what its own head says.
-/
import Derived.Test.YthgiikhkcpbpfaaGreatDoorB19


namespace Go.Proofs.YthgiikhkcpbpfaaGreatDoor.C
open Go.RowKit Go.Shelf
attribute [local go_sem] Oper.semAt_some
theorem infoRowC : (Tryz.prog.info? 39).map (fun i => (i.zero, i.size, i.bytes)) = some (some (.slice none 0 0), 1, 24) := by kernel_rfl
def RowsAt (w : World) (lo : Nat) (v : Value) (rs : List (List Int)) : Prop := ∃ vs : List Value, vs.length = rs.length ∧ w.ownsRow lo 39 1 v rs.length vs ∧ ∀ (i : Nat) (r : List Int) (u : Value), rs[i]? = some r → vs[i]? = some u → w.ownsRow lo 30 1 u r.length (celC r)
theorem RowsAt.nil (w : World) (lo : Nat) : RowsAt w lo (.slice none 0 0) [] := ⟨[], rfl, World.ownsRow_nil _ _ _ _, by simp⟩
theorem own_turnK {X Y : World} {base : Nat} {e : TypeId} {size n : Nat} {u : Value} {xs : List Value} (h : X.ownsRow base e size u n xs) {row : Option Nat} (hg : X.grownBy Y row) (hr : ∀ r, row = some r → ∃ o : Obj, X.heap[r]? = some o ∧ o.isCells = false) : Y.ownsRow base e size u n xs := by
 refine h.kept hg ?_
 rcases h.2 with ⟨rfl, _⟩ | ⟨g, cap, cur, rfl, _, hgb, _⟩
 ·exact .inl rfl
 ·refine .inr fun e' => ?_
  obtain ⟨o, ho, hc⟩ := hr g (by simpa [Value.ownBlock] using e'.symm)
  rw [hgb] at ho; cases ho; cases hc
theorem RowsAt.turn {X Y : World} {lo : Nat} {v : Value} {rs : List (List Int)} (h : RowsAt X lo v rs) {row : Option Nat} (hg : X.grownBy Y row) (hr : ∀ r, row = some r → ∃ o : Obj, X.heap[r]? = some o ∧ o.isCells = false) : RowsAt Y lo v rs := by
 obtain ⟨vs, h1, h2, h3⟩ := h
 exact ⟨vs, h1, own_turnK h2 hg hr, fun i r u a b => own_turnK (h3 i r u a b) hg hr⟩
theorem RowsAt.next {X Y : World} {lo : Nat} {v : Value} {rs : List (List Int)} (h : RowsAt X lo v rs) (hb : Below X.heap.size X Y) : RowsAt Y lo v rs := by
 obtain ⟨vs, h1, h2, h3⟩ := h
 exact ⟨vs, h1, own_next h2 hb, fun i r u a b => own_next (h3 i r u a b) hb⟩
theorem RowsAt.low {X : World} {lo lo' : Nat} {v : Value} {rs : List (List Int)} (h : RowsAt X lo v rs) (hl : lo' ≤ lo) : RowsAt X lo' v rs := by
 obtain ⟨vs, h1, h2, h3⟩ := h
 exact ⟨vs, h1, own_low h2 hl, fun i r u a b => own_low (h3 i r u a b) hl⟩
def SpC (base S : Nat) (rs : List (List Int)) (W : World) : Prop := ∃ v, Boxed W S 32 v ∧ RowsAt W base v rs
theorem SpC.own {α : Type} (base S : Nat) (f : α → List (List Int)) : Own (fun s W => SpC base S (f s) W) := by
 rintro s X Y row ⟨v, hv, hr⟩ hg hrow
 exact ⟨v, boxed_own S 32 (fun _ : Unit => v) () X Y row hv hg hrow, hr.turn hg hrow⟩
theorem RowsAt.snoc {w w' : World} {lo n : Nat} {v v' u : Value} {rs : List (List Int)} {vs : List Value} (r : List Int) (h1 : vs.length = rs.length) (h2 : w.ownsRow lo 39 1 v n vs) (h3 : ∀ (i : Nat) (r : List Int) (u : Value), rs[i]? = some r → vs[i]? = some u → w.ownsRow lo 30 1 u r.length (celC r))
  (hx : w.ownsRow lo 30 1 u r.length (celC r)) (hg : w.grownBy w' v.ownBlock) (hn : n = rs.length) (ho : w'.ownsRow lo 39 1 v' (n + 1) (vs ++ [u])) : RowsAt w' lo v' (rs ++ [r]) := by
 subst hn
 have key : ∀ {n : Nat} {u : Value} {xs : List Value}, w.ownsRow lo 30 1 u n xs → w'.ownsRow lo 30 1 u n xs := fun hu => hu.kept hg (by
  rcases hb : (Value.ownBlock _) with _ | g1
  ·exact .inl rfl
  ·refine .inr fun e => ?_
   obtain ⟨c1, hc1⟩ := ownsRow_ty hu hb
   obtain ⟨c2, hc2⟩ := ownsRow_ty h2 e.symm
   rw [hc1] at hc2
   injection hc2 with hc2
   injection hc2 with _ hc2
   cases hc2)
 refine ⟨vs ++ [u], by simp [h1], by rw [List.length_append]; exact ho, ?_⟩
 intro i d y hd hy
 rcases Nat.lt_or_ge i rs.length with hi | hi
 ·rw [List.getElem?_append_left hi] at hd
  rw [List.getElem?_append_left (by omega)] at hy
  exact key (h3 i d y hd hy)
 ·rw [List.getElem?_append_right hi] at hd
  rw [List.getElem?_append_right (by omega), h1] at hy
  have e0 : i - rs.length = 0 := by
   rcases hq : i - rs.length with _ | q
   ·rfl
   ·rw [hq] at hd
    simp at hd
  rw [e0] at hd hy
  simp at hd hy
  subst hd hy
  exact key hx
theorem stepI_append {F : Fence} {fn : Nat} {P : Program} {w : World} {ops : Array Oper} {o : Oper} {a : Act} {K : Act → World → Prop} {Q : Exit → Act → World → Prop} {E : Prop} (hgd : o.guard = none) (s x : Operand) (t : TypeId)
  (ho : o.op = .call { callee := .builtin .append, args := #[s, x], argTypes := #[t, t] })
  (base : Nat) (e : TypeId) (i : TypeInfo) (z : Value) (size bytes : Nat) (ht : P.underlying t = some (.slice e)) (hi : P.info? e = some i) (hz : i.zero = some z)
  (hsize : i.size = size) (hby : i.bytes = bytes) (hzs : z.cells.size = size) (hsz : 0 < size)
  (v : Value) (n : Nat) (xs : List Value) (hs : a.eval s = v) (hown : w.ownsRow base e size v n xs)
  (ad : Addr) (m c : Nat) (news : List Value) (hx : a.eval x = .slice (some ad) m c) (hl : news.length = m * size) (hnews : ∀ j u, news[j]? = some u → w.cell? (ad.add j) = some u) (h1 : ∀ u ∈ news, u.oneCell' = true)
  (hm : 0 < m) (h63 : n + m ≤ maxLen) (hbytes : (n + m) * bytes ≤ 140737488355328) (hbase : base ≤ w.heap.size) (hab : o.about P w a.eval = none)
  (h : ∀ g cap w', w'.ownsRow base e size (.slice (some ⟨g, 0, none⟩) (n + m) cap) (n + m) (xs ++ news) → w.grownBy w' v.ownBlock → K (a.put o.dst (.slice (some ⟨g, 0, none⟩) (n + m) cap)) w') :
  if Region.wanted o (yielded ops a.tmps) = true then o.wpIn F fn P a w K Q else E := by
 obtain ⟨g, cap, w', hr, h2, h3, h4, h5⟩ := run_append_lies (P := P) w t o.type base e i z size bytes ht hi hz hsize hby hzs hsz v n xs hown ad m c news hl hnews h1 hm h63 hbytes hbase _ rfl
 rw [if_pos (by simp [Region.wanted, hgd])]
 unfold Oper.wpIn
 refine ⟨fun f hf => absurd (hab.symm.trans hf) (by simp), ?_⟩
 rw [Oper.semAt_eq _ _ _ (by intro c hc; rw [ho] at hc; cases hc)]
 unfold execOp
 simp only [ho, resolve, invoke, builtin, Sem.run_bind, Sem.run_pure, Result.andThen_ok, List.map_toArray, List.map_cons, List.map_nil, hs, hx, hr]
 exact h g cap w' h2 h3
theorem one_newK (w : World) (x : Value) (t : TypeId) : ∀ (j : Nat) (u : Value), [x][j]? = some u → (w.alloc (.cells #[x] t)).cell? ((⟨w.heap.size, 0, none⟩ : Addr).add j) = some u := by
 intro j u hu
 cases j with
 | zero => simp at hu; subst hu; simp [Addr.add]
 | succ j => simp at hu
def cellsJ (o : List Elm) (j : Nat) : List Int := ((o[j]?).map Elm.cells).getD []
set_option maxRecDepth 100000 in
set_option maxHeartbeats 8000000 in
theorem cellsAt_any (w : World) (T B : Nat) (v4 : Value) (o : List Elm) (gf : Nat) (lb : Array Value) (js : List Nat) (hT : w.cell? ⟨T, 1, none⟩ = some v4) (ho : OrdR w B v4 o) (hB : B ≤ w.heap.size) (hlen : js.length ≤ 1000) (hc4 : ∀ e ∈ o, e.cells.length ≤ 4)
  (eg : ∀ args w, (callFunc gf args).run Tryz.prog w = .ok (.enter gf args) w)
  (hseq : ∀ W, Below w.heap.size w W → SeqStopsK Fence.wide 4 Tryz.prog gf lb (encN (N := o.length)) (Below (w.heap.size + 1)) (fun ys => ys.map Subtype.val = js) (fun _ => True) js.length W) :
  Calls Tryz.prog 99 #[.pointer (some ⟨T, 1, none⟩), .func (.func gf) #[] lb] w fun e w' => ∃ v, e = .returned v ∧ RowsAt w' w.heap.size v (js.map (cellsJ o)) ∧ Below w.heap.size w w' := by
 obtain ⟨i0, hi, hz0, hz1, hz2⟩ := info_parts infoRowC
 obtain ⟨S, hS⟩ : ∃ S, S = w.heap.size := ⟨_, rfl⟩
 obtain ⟨W0, hW0⟩ : ∃ W0, W0 = (w.alloc (.cells #[.pointer (some ⟨T, 1, none⟩)] 223)).alloc (.cells #[.slice none 0 0] 32) := ⟨_, rfl⟩
 have hb0 : Below w.heap.size w W0 := by rw [hW0]; exact ((Below.refl _ _).alloc (Nat.le_refl _) _).alloc (by simp) _
 have hsz : W0.heap.size = S + 2 := by rw [hW0, hS]; simp
 have bO : One W0 S 223 (.pointer (some ⟨T, 1, none⟩)) := by
  unfold One
  rw [hW0, heap_lt _ _ (by simp; omega), hS]
  exact heap_new _ _
 have bS : Boxed W0 (S + 1) 32 (.slice none 0 0) := by
  have e : (w.alloc (.cells #[.pointer (some ⟨T, 1, none⟩)] 223)).heap.size = S + 1 := by rw [hS]; simp
  rw [hW0, ← e]
  exact Boxed.new _ _ _
 have hsq := hseq W0 hb0
 rw [← hS] at hsq
 have HT : Hid (W0.cell? ⟨T, 1, none⟩ = some v4) := Lib.hid (below_cell hb0 hT)
 have HO : Hid (OrdR W0 B v4 o) := Lib.hid (ho.on hb0 hB)
 have HBS : Hid (B ≤ S) := Lib.hid (by omega)
 have HTS : Hid (T < S) := Lib.hid (by rw [hS]; exact World.block_lt_of_cell? w _ hT)
 have HB0 := Lib.hid hb0
 have HC4 := Lib.hid hc4
 have HSS := Lib.hid hS
 clear hT ho hseq hb0 hc4 hB
 refine (callsIn_wide (n := 5)).1 ?_
 refine callsIn_of_wp_marks Tryz.func99 rfl trivial ?_ rfl
 simp only [Tryz.ntmps99, List.size_toArray, List.length_cons, List.length_nil, Nat.reduceAdd, Nat.reduceSub, Array.replicate_succ, Array.replicate_zero, List.push_toArray, List.append_toArray, List.nil_append, List.cons_append]
 gi_wp2
 rw [← hS, ← hW0]
 clear hS hW0
 have HSZ := Lib.hid hsz
 have HBO := Lib.hid bO
 refine wpIn_rangeFunc_ownG rfl (by omega) (gf := gf) (lb := lb) rfl trivial eg hsq belowK_t (belowK_b (by omega)) (Below.refl _ _) (fun _ => rfl)
  (fun pre W => SpC (S + 2) (S + 1) (pre.map fun x => cellsJ o x.1) W ∧ Below (S + 1) W0 W)
  (fun _ _ _ => False)
  (OwnFrom.and (Own.from (SpC.own _ _ (fun pre : List (PlN o.length) => pre.map fun x => cellsJ o x.1)) _) (ownFrom_below (by omega) (by omega)))
  (fun _ _ _ _ _ hs _ _ => hs)
  ⟨⟨_, bS, RowsAt.nil _ _⟩, Below.refl _ _⟩
  (fun x => { tmps := #[.pointer (some ⟨T, 1, none⟩), .func (.func gf) #[] lb, .pointer (some ⟨S, 0, none⟩), undef, .slice none 0 0, .pointer (some ⟨S + 1, 0, none⟩), .int .i64 (x.1 : Int), .func (.func gf) #[] lb, .int .i64 (x.1 : Int), undef, undef, undef, undef, undef, undef, undef, undef, undef, undef, undef, undef, undef], defers := [] }) ?assign ?body ?done ?stop
 case assign =>
  intro l x W K hK
  gi_wp2
  simpa [encN] using hK
 case body =>
  rintro l pre x W ⟨⟨v, hv, vs, r1, r2, r3⟩, hB1⟩ hlt
  obtain ⟨e, he⟩ : ∃ e, o[x.1]? = some e := ⟨_, List.getElem?_eq_getElem x.2⟩
  have hOW : OrdR W B v4 o := HO.out.on hB1 (by have := HBS.out; omega)
  obtain ⟨ad, c, Ac, cc, hv4, had, _, e1, _, hri⟩ := elmR_at hOW he
  subst hv4
  rw [List.length_map] at r1 r2
  obtain ⟨vA, vc, rfl⟩ := row_form r2
  have q0 := hv.cell
  have q1 : W.cell? ⟨S, 0, none⟩ = some (.pointer (some ⟨T, 1, none⟩)) := (hB1.cell (p := ⟨S, 0, none⟩) (Nat.lt_succ_self S)).trans HBO.out.cell
  have q2 : W.cell? ⟨T, 1, none⟩ = some (.slice (some ad) o.length c) := (hB1.cell (p := ⟨T, 1, none⟩) (by have := HTS.out; show T < S + 1; omega)).trans HT.out
  have hS1 : (fun W' : World => W'.cell? ⟨S + 1, 0, none⟩ = some (.slice vA pre.length vc) ∧ W'.cell? ⟨S, 0, none⟩ = some (.pointer (some ⟨T, 1, none⟩)) ∧ W'.cell? ⟨T, 1, none⟩ = some (.slice (some ad) o.length c) ∧ W'.cell? ⟨(ad.add (x.1 * 3)).block, (ad.add (x.1 * 3)).off + 1, none⟩ = some (.slice Ac e.cells.length cc)) W.drew := ⟨q0, q1, q2, e1⟩
  have hsW := hB1.size
  have h4 := HC4.out e (List.mem_of_getElem? he)
  have hcl := cloneC_any W.drew B Ac e.cells.length cc e.cells hri (by omega)
  have i0' : (0 : Int) ≤ (x.1 : Int) := by omega
  have i1 : (x.1 : Int) < (o.length : Int) := by have := x.2; omega
  have hce : cellsJ o x.1 = e.cells := by unfold cellsJ; rw [he]; rfl
  have HX := Lib.hid hS1
  have HV := Lib.hid hv
  have HR1 := Lib.hid r1
  have HR2 := Lib.hid r2
  have HR3 := Lib.hid r3
  have HB1 := Lib.hid hB1
  have HCE := Lib.hid hce
  have HAD : Hid (ad.block < S) := Lib.hid (by have := HBS.out; omega)
  clear hv r1 r2 r3 q0 q1 q2 e1 hB1 hOW hri he hce had
  gi_wp2
  refine wpIn_region_I (L := 12) (S := fun W' : World => W'.cell? ⟨S + 1, 0, none⟩ = some (.slice vA pre.length vc) ∧ W'.cell? ⟨S, 0, none⟩ = some (.pointer (some ⟨T, 1, none⟩)) ∧ W'.cell? ⟨T, 1, none⟩ = some (.slice (some ad) o.length c) ∧ W'.cell? ⟨(ad.add (x.1 * 3)).block, (ad.add (x.1 * 3)).off + 1, none⟩ = some (.slice Ac e.cells.length cc)) (by kernel_rfl) ?_
  refine wpIn' 0 rfl ?_; try simp only [Act.put, g1, g2, g3, g4, g6]
  refine wpIn' 1 rfl ?_; try simp only [Act.put, g1, g2, g3, g4, g5, g6]
  refine wpIn' 2 rfl ?_; try simp only [Act.put, g1, g2, g3, g4, g5, g6]
  refine wpIn' 3 rfl ?_; try simp only [Act.put, g1, g2, g3, g4, g5, g6]
  refine wpIn' 4 rfl ?_; try simp only [Act.put, g1, g2, g3, g4, g5, g6]
  refine wpIn' 5 rfl ?_; try simp only [Act.put, g1, g2, g3, g4, g5, g6]
  refine wpIn' 6 rfl ?_; try simp only [Act.put, g1, g2, g3, g4, g5, g6]
  refine wpIn' 7 rfl ?_; try simp only [Act.put, g1, g2, g3, g4, g5, g6]
  refine wpIn' 8 rfl ?_; try simp only [Act.put, g1, g2, g3, g4, g5, g6]
  refine wpAnyI_one (i := 9) (by kernel_rfl) rfl (fun K hK => ?_)
  simp only [g4, g5, g6]
  go_simp
  refine ⟨trivial, (CallsIn.inRound l (callsIn_wide.2 hcl)).mono ?_⟩
  rintro r w3 ⟨u, rfl, hown, hb3⟩
  obtain ⟨uA, uc, rfl⟩ := row_form hown
  have hS3 : (fun W' : World => W'.cell? ⟨S + 1, 0, none⟩ = some (.slice vA pre.length vc) ∧ W'.cell? ⟨S, 0, none⟩ = some (.pointer (some ⟨T, 1, none⟩)) ∧ W'.cell? ⟨T, 1, none⟩ = some (.slice (some ad) o.length c) ∧ W'.cell? ⟨(ad.add (x.1 * 3)).block, (ad.add (x.1 * 3)).off + 1, none⟩ = some (.slice Ac e.cells.length cc)) w3 := ⟨below_cell hb3 HX.out.1, below_cell hb3 HX.out.2.1, below_cell hb3 HX.out.2.2.1, below_cell hb3 HX.out.2.2.2⟩
  have hs3 : W.heap.size ≤ w3.heap.size := hb3.size
  have HO3 := Lib.hid (own_low (b' := S + 2) hown (by show S + 2 ≤ W.heap.size; omega))
  have HV3 : Hid (Boxed w3 (S + 1) 32 (.slice vA pre.length vc)) := Lib.hid ((hb3.block (S + 1) (by show S + 1 < W.heap.size; omega)).trans HV.out)
  have HQ2 := Lib.hid (own_next (w := W.drew) HR2.out hb3)
  have HQ3 : Hid (∀ (i : Nat) (r : List Int) (u : Value), (pre.map fun x => cellsJ o x.1)[i]? = some r → vs[i]? = some u → w3.ownsRow (S + 2) 30 1 u r.length (celC r)) := Lib.hid fun i r u a b => own_next (w := W.drew) (HR3.out i r u a b) hb3
  have HB3 : Hid (Below (S + 1) W w3) := Lib.hid (((Below.refl (S + 1) W).drew).trans (hb3.mono (by show S + 1 ≤ W.heap.size; omega)))
  have HK3 : Hid (KeepsOthers W w3) := Lib.hid ((KeepsOthers.drew W).trans (KeepsOthers.of_grownBy (row := none) ⟨hb3.os, hb3.tape, hb3.output, hb3.size, fun k hk _ => hb3.block k hk⟩ (fun j o ej _ => by cases ej)))
  clear hcl hown hb3 HV HR2 HR3
  refine hK.out _ _ (fun _ => hS3) (fun _ => ?_)
  try simp only [Act.put, g1, g2, g3, g4, g5, g6]
  refine wpAnyI_one (i := 10) (by kernel_rfl) rfl (fun K hK => ?_)
  simp only [g4, g5, g6]
  go_simp
  have hal : Below w3.heap.size w3 (w3.alloc (.cells #[.slice uA e.cells.length uc] 39)) := (Below.refl _ _).alloc (Nat.le_refl _) _
  have hS4 : (fun W' : World => W'.cell? ⟨S + 1, 0, none⟩ = some (.slice vA pre.length vc) ∧ W'.cell? ⟨S, 0, none⟩ = some (.pointer (some ⟨T, 1, none⟩)) ∧ W'.cell? ⟨T, 1, none⟩ = some (.slice (some ad) o.length c) ∧ W'.cell? ⟨(ad.add (x.1 * 3)).block, (ad.add (x.1 * 3)).off + 1, none⟩ = some (.slice Ac e.cells.length cc)) (w3.alloc (.cells #[.slice uA e.cells.length uc] 39)) := ⟨below_cell hal hS3.1, below_cell hal hS3.2.1, below_cell hal hS3.2.2.1, below_cell hal hS3.2.2.2⟩
  refine hK.out _ _ (fun _ => hS4) (fun _ => ?_)
  try simp only [Act.put, g1, g2, g3, g4, g5, g6]
  refine wpAnyI_one (i := 11) (by kernel_rfl) rfl (fun K hK => ?_)
  refine stepI_append (by rfl) _ _ _ (by rfl) (S + 2) 39 i0 (.slice none 0 0) 1 24 Tryz.underlying32 hi hz0 hz1 hz2 rfl (by decide) (.slice vA pre.length vc) pre.length vs (by rfl) (HQ2.out.alloc _) ⟨w3.heap.size, 0, none⟩ 1 1 [.slice uA e.cells.length uc] (by rfl) (by rfl) (one_newK _ _ _) (by intro u hu; simp at hu; subst hu; rfl) (by omega) (by unfold maxLen; omega) (by omega) (by simp; omega) (by rfl) ?_
  intro g cap w5 hown5 hg5
  have hrl : ∀ g, (Value.slice vA pre.length vc).ownBlock = some g → S + 2 ≤ g := fun g hg => (HQ2.out.lt g hg).1
  have hbl : Below (S + 2) (w3.alloc (.cells #[.slice uA e.cells.length uc] 39)) w5 := (Fr.of_grown hg5).below (fun j _ hj => hrl j hj) (by simp; omega)
  have hbx : Boxed w5 (S + 1) 32 (.slice vA pre.length vc) := (hbl.block (S + 1) (by omega)).trans (HV3.out.alloc _)
  have hS5 : (fun W' : World => W'.cell? ⟨S + 1, 0, none⟩ = some (.slice vA pre.length vc) ∧ W'.cell? ⟨S, 0, none⟩ = some (.pointer (some ⟨T, 1, none⟩)) ∧ W'.cell? ⟨T, 1, none⟩ = some (.slice (some ad) o.length c) ∧ W'.cell? ⟨(ad.add (x.1 * 3)).block, (ad.add (x.1 * 3)).off + 1, none⟩ = some (.slice Ac e.cells.length cc)) w5 := ⟨hbx.cell, (hbl.cell (p := ⟨S, 0, none⟩) (by show S < S + 2; omega)).trans hS4.2.1, (hbl.cell (p := ⟨T, 1, none⟩) (by have := HTS.out; show T < S + 2; omega)).trans hS4.2.2.1, (hbl.cell (p := ⟨(ad.add (x.1 * 3)).block, (ad.add (x.1 * 3)).off + 1, none⟩) (by have := HAD.out; show (ad.add (x.1 * 3)).block < S + 2; rw [block_of_add]; omega)).trans hS4.2.2.2⟩
  have zf := hbx.frozen
  have zc := hbx.cell
  have hrows : RowsAt w5 (S + 2) (.slice (some ⟨g, 0, none⟩) (pre.length + 1) cap) ((pre ++ [x]).map fun x => cellsJ o x.1) := by
   rw [List.map_append, List.map_cons, List.map_nil, HCE.out]
   exact RowsAt.snoc (n := pre.length) e.cells (by rw [List.length_map]; exact HR1.out) (HQ2.out.alloc _) (fun i r u a b => (HQ3.out i r u a b).alloc _) (HO3.out.alloc _) hg5 (by rw [List.length_map]) hown5
  have hgs : w5.grownBy (w5.setCell ⟨S + 1, 0, none⟩ (.slice (some ⟨g, 0, none⟩) (pre.length + 1) cap)) (some (S + 1)) := grownBy_setCell' w5 (S + 1) _
  have HEND : Hid ((KeepsFrom W0.heap.size W (w5.setCell ⟨S + 1, 0, none⟩ (.slice (some ⟨g, 0, none⟩) (pre.length + 1) cap))) ∧ Below (S + 1) W (w5.setCell ⟨S + 1, 0, none⟩ (.slice (some ⟨g, 0, none⟩) (pre.length + 1) cap)) ∧ SpC (S + 2) (S + 1) ((pre ++ [x]).map fun x => cellsJ o x.1) (w5.setCell ⟨S + 1, 0, none⟩ (.slice (some ⟨g, 0, none⟩) (pre.length + 1) cap)) ∧ Below (S + 1) W0 (w5.setCell ⟨S + 1, 0, none⟩ (.slice (some ⟨g, 0, none⟩) (pre.length + 1) cap))) := Lib.hid (by
   have k1 : Below (S + 1) W (w5.setCell ⟨S + 1, 0, none⟩ (.slice (some ⟨g, 0, none⟩) (pre.length + 1) cap)) := ((HB3.out.trans (hal.mono (by omega))).trans (hbl.mono (by omega))).setCell (p := ⟨S + 1, 0, none⟩) (Nat.le_refl _) _
   refine ⟨?_, k1, ⟨_, hbx.set _, ?_⟩, HB1.out.trans k1⟩
   ·have ko : KeepsOthers (w3.alloc (.cells #[.slice uA e.cells.length uc] 39)) w5 := KeepsOthers.of_grownBy hg5 (fun j ob ej hj => by
     obtain ⟨cc', hcc'⟩ := ownsRow_ty (HQ2.out.alloc _) ej
     rw [hcc'] at hj
     injection hj with hj
     subst hj
     rfl)
    exact (((HK3.out.trans (KeepsOthers.alloc _ _)).trans ko).trans (KeepsOthers.setCell _ _ _)).from _
   ·obtain ⟨ws, a1, a2, a3⟩ := hrows
    exact ⟨ws, a1, a2.kept hgs (.inr fun ee => by have := (a2.lt (S + 1) ee).1; omega), fun i r u a b => (a3 i r u a b).kept hgs (by
     rcases hbb : u.ownBlock with _ | gg
     ·exact .inl rfl
     ·exact .inr fun ee => by injection ee with ee; have := ((a3 i r u a b).lt gg hbb).1; omega)⟩)
  clear hrows hgs hbl hrl hown5 hg5 hal hbx
  refine hK.out _ _ (fun _ => hS5) (fun _ => ?_)
  try simp only [Act.put, g1, g2, g3, g4, g5, g6]
  refine wpAnyI_one (i := 12) (by kernel_rfl) rfl (fun K hK => ?_)
  simp only [g4, g5, g6]
  go_simp
  refine hK.out _ _ (fun h => absurd rfl h) (fun _ => ?_)
  refine wpAnyI_done (by kernel_rfl) ?_ _
  exact ⟨HEND.out.1, HEND.out.2.1, HEND.out.2.2.1, HEND.out.2.2.2⟩
 case done =>
  rintro D ys W hD hS2 ⟨⟨v, hv, hr⟩, hB1⟩ hK
  have hc := hv.cell
  have hS3 : ys.map (fun x => cellsJ o x.1) = js.map (cellsJ o) := by rw [← hS2, List.map_map]; rfl
  rw [hS3] at hr
  gi_wp2
  refine ⟨by simp, .inl ⟨_, _, rfl, run_takeDeferred hK, ?_⟩⟩
  have hg := grownBy_putObj' W D (.deferred none)
  have hnc : ∀ r, some D = some r → ∃ o : Obj, W.heap[r]? = some o ∧ o.isCells = false := fun r e => by cases e; exact ⟨_, hK, rfl⟩
  exact ⟨_, results_tmp rfl _ _ _, v, rfl, (hr.turn hg hnc).low (by have := HSS.out; omega), (HB0.out.trans ((hB1.trans (belowK_b (w := W0) (by omega) W D _ _ hD hK rfl rfl)).mono (by have := HSS.out; omega)))⟩
 case stop =>
  rintro D c pre W _ _ h _
  exact h.elim
end Go.Proofs.YthgiikhkcpbpfaaGreatDoor.C


namespace Go.Proofs.YthgiikhkcpbpfaaGreatDoor.C
open Go.RowKit
variable {F : Nat}
set_option maxRecDepth 100000 in
theorem fromTo_any (a b : Int) (w : World) : Calls Tryz.prog 187 #[.int .i64 a, .int .i64 b] w fun e w' => e = .returned (.func (.func 211) #[] #[.pointer (some ⟨w.heap.size + 1, 0, none⟩), .pointer (some ⟨w.heap.size, 0, none⟩)]) ∧ w' = (w.alloc (.cells #[.int .i64 a] 3)).alloc (.cells #[.int .i64 b] 3) := by
 have hmf : ∀ (fn : Fn) (first cap : Array Value) (w : World), (Instr.makeFunc fn first cap).run Tryz.prog w = .ok (.func fn first cap) w := fun _ _ _ _ => rfl
 go_enter Tryz.func187, Tryz.ntmps187
 go_wp2
 go_ret
 exact ⟨rfl, rfl⟩
theorem placeV_lt {o : List Elm} {cs : List Int} {k : Nat} (h : placeV o cs = (k : Int)) : k < o.length := by
 rcases place_is (o := o) (cs := cs) with ⟨i, e, he, _, hp⟩ | ⟨_, hp⟩
 ·have := (List.getElem?_eq_some_iff.1 he).1
  omega
 ·omega
set_option maxRecDepth 100000 in
set_option maxHeartbeats 8000000 in
theorem between_any (w : World) (T : Nat) (L : Loc) (n : Int) (Ba Bb : Nat) (Aa Ab : Option Addr) (ma ca mb cb : Nat) (xs ys : List Int) (h : TabG F w T L n) (h0 : 0 ≤ n) (h1 : n < 4611686018427387904) (hR : rightL L = true)
  (hx : RI .i32 w Ba Aa ma xs) (hBx : Ba ≤ w.heap.size) (hxT : 0 < ma → ∀ ad, Aa = some ad → ad.block ≠ T) (hy : RI .i32 w Bb Ab mb ys) (hBy : Bb ≤ w.heap.size) (hyT : 0 < mb → ∀ ad, Ab = some ad → ad.block ≠ T) (hG : Gl w) (hgT : (5 : Nat) < T) :
  Calls Tryz.prog 151 #[.pointer (some ⟨T, 0, none⟩), .slice Aa ma ca, .slice Ab mb cb] w fun e w' => TabG F w' T L (n + 1) ∧ Fr w w' (· = T) ∧
   ((placeV L.ord xs < 0 ∨ placeV L.ord ys < placeV L.ord xs) → e = .returned (.tuple #[.slice none 0 0, .int .u16 40])) ∧
   (∀ i k : Nat, placeV L.ord xs = (i : Int) → placeV L.ord ys = (k : Int) → i ≤ k → ∃ v, e = .returned (.tuple #[v, .int .u16 0]) ∧ RowsAt w' w.heap.size v ((runN i (k - i + 1)).map (cellsJ L.ord))) := by
 have hc := count_any w T L n h h0 h1
 have HT0 : Hid (T ≤ w.heap.size) := Lib.hid (Nat.le_of_lt h.lt)
 have HX := Lib.hid hx
 have HY := Lib.hid hy
 have HXT := Lib.hid hxT
 have HYT := Lib.hid hyT
 have HG := Lib.hid hG
 obtain ⟨p, hp⟩ : ∃ p, p = placeV L.ord xs := ⟨_, rfl⟩
 obtain ⟨q, hq⟩ : ∃ q, q = placeV L.ord ys := ⟨_, rfl⟩
 rw [← hp, ← hq]
 have HP := Lib.hid hp
 have HQ := Lib.hid hq
 clear h hx hy hxT hyT hG hp hq
 go_enter Tryz.func151, Tryz.ntmps151
 go_wp2_with fail
 refine hc.mono ?_
 rintro e w1 ⟨rfl, ht, hf⟩
 have hs1 := hf.size
 have hg1 : Gl w1.drew := ((hf.belowT HT0.out).cell (p := ⟨5, 15, none⟩) hgT).trans HG.out
 have hra := rankO_any w1.drew T L (n + 1) Ba Aa ma ca xs ht.drew hR ((HX.out.fr hf hBx HXT.out).drew) (Nat.le_trans hBx hs1) HXT.out hg1 hgT
 rw [← HP.out] at hra
 have HF1 : Hid (Fr w w1.drew (· = T)) := Lib.hid hf.drew
 clear hc ht hf hg1
 go_wp2
 refine wp_region_held (S := fun _ : World => True) (by kernel_rfl) ?_
 change wpAnyH _ _ _ _ _ _ _ _ w1.drew
 have hS1 : (fun _ : World => True) w1.drew := trivial
 iterate 4 (refine wpH rfl rfl ?_; try simp only [Act.put, g1, g2, g3, g4, g5, g6])
 refine wpHn 5 rfl ?_; try simp only [Act.put, g1, g2, g3, g4, g5, g6]
 refine wpHn 6 rfl ?_; try simp only [Act.put, g1, g2, g3, g4, g5, g6]
 refine wpHn 7 rfl ?_; try simp only [Act.put, g1, g2, g3, g4, g5, g6]
 refine wpHn 8 rfl ?_; try simp only [Act.put, g1, g2, g3, g4, g5, g6]
 refine wpAnyH_one (i := 4) (by kernel_rfl) rfl (fun K hK => ?_)
 simp only [g4, g5, g6]
 go_simp
 go_at_call 98
 refine hra.mono ?_
 rintro e w2 ⟨rfl, ht, hf⟩
 have HF2 : Hid (Fr w w2 (· = T)) := Lib.hid (HF1.out.trans hf)
 have hs2 := HF2.out.size
 have hg2 : Gl w2 := ((HF2.out.belowT HT0.out).cell (p := ⟨5, 15, none⟩) hgT).trans HG.out
 have hrb := rankO_any w2 T L (n + 1) Bb Ab mb cb ys ht hR (HY.out.fr HF2.out hBy HYT.out) (Nat.le_trans hBy hs2) HYT.out hg2 hgT
 rw [← HQ.out] at hrb
 clear hra ht hf HF1 hg2
 refine hK.out _ _ trivial (fun hS2 => ?_)
 try simp only [Act.put, g1, g2, g3, g4, g5, g6]
 refine wpAnyH_one (i := 9) (by kernel_rfl) rfl (fun K hK => ?_)
 simp only [g4, g5, g6]
 go_simp
 go_at_call 98
 refine hrb.mono ?_
 rintro e w3 ⟨rfl, ht, hf⟩
 have HF3 : Hid (Fr w w3 (· = T)) := Lib.hid (HF2.out.trans hf)
 have HT3 := Lib.hid ht
 clear hrb ht hf HF2
 refine hK.out _ _ trivial (fun hS3 => ?_)
 try simp only [Act.put, g1, g2, g3, g4, g5, g6]
 iterate 2 (refine wpH rfl rfl ?_; try simp only [Act.put, g1, g2, g3, g4, g5, g6])
 refine wpAnyH_done (by kernel_rfl) ?_ _
 by_cases hno : p < 0 ∨ q < p
 ·have HE : Hid (TabG F w3 T L (n + 1) ∧ Fr w w3 (· = T) ∧ (∀ i k : Nat, p = (i : Int) → q = (k : Int) → i ≤ k → False)) := Lib.hid ⟨HT3.out, HF3.out, fun i k a b c => by omega⟩
  by_cases hp0 : p < 0
  ·go_wp2
   go_ret2
   refine ⟨HE.out.1, HE.out.2.1, ?_, fun i k a b c => (HE.out.2.2 i k a b c).elim⟩
   first | rfl | exact fun _ => rfl
  ·have hqp : q < p := by omega
   go_wp2
   go_ret2
   refine ⟨HE.out.1, HE.out.2.1, ?_, fun i k a b c => (HE.out.2.2 i k a b c).elim⟩
   first | rfl | exact fun _ => rfl
 ·obtain ⟨i, hi⟩ : ∃ i : Nat, p = (i : Int) := ⟨p.toNat, by omega⟩
  obtain ⟨k, hk⟩ : ∃ k : Nat, q = (k : Int) := ⟨q.toNat, by omega⟩
  have hik : i ≤ k := by omega
  have hkl : k < L.ord.length := placeV_lt (HQ.out.symm.trans hk)
  subst hi hk
  have hp0 : ¬ (i : Int) < 0 := by omega
  have hqp : ¬ (k : Int) < (i : Int) := by omega
  have hft := fromTo_any (i : Int) (k : Int) w3.drew
  have hord := right_ord hR
  have h500 : L.ord.length ≤ 500 := by unfold ordB at hord; simp only [Bool.and_eq_true, decide_eq_true_eq] at hord; exact hord.1
  have HORD := Lib.hid hord
  clear hno hord
  go_wp2
  refine wp_region_held (S := fun _ : World => True) (by kernel_rfl) ?_
  change wpAnyH _ _ _ _ _ _ _ _ w3.drew
  have hS4 : (fun _ : World => True) w3.drew := trivial
  iterate 5 (refine wpH rfl rfl ?_; try simp only [Act.put, g1, g2, g3, g4, g5, g6])
  refine wpAnyH_one (i := 5) (by kernel_rfl) rfl (fun K hK => ?_)
  simp only [g4, g5, g6]
  go_simp
  go_at_call 187
  refine hft.mono ?_
  rintro e w4 ⟨rfl, hw4⟩
  have hb4 : Below w3.heap.size w3 w4 := by rw [hw4]; exact (((Below.refl _ _).drew).alloc (Nat.le_refl _) _).alloc (by simp) _
  have hs4 : w4.heap.size = w3.heap.size + 2 := by rw [hw4]; simp
  have hcf : w4.cell? ⟨w3.heap.size, 0, none⟩ = some (.int .i64 (i : Int)) := by rw [hw4]; exact Lib.cell?_alloc_some _ (by rw [show w3.heap.size = w3.drew.heap.size from rfl, World.cell?_alloc_new]; rfl)
  have hct : w4.cell? ⟨w3.heap.size + 1, 0, none⟩ = some (.int .i64 (k : Int)) := by
   have e : (w3.drew.alloc (.cells #[.int .i64 (i : Int)] 3)).heap.size = w3.heap.size + 1 := by simp
   rw [hw4, ← e, World.cell?_alloc_new]
   rfl
  have ht4 := HT3.out.keep hb4
  obtain ⟨l, v1, v2, v3, v4, hr, _, _, hl1, _, _, _, hloc, _⟩ := id ht4
  have hca := cellsAt_any w4 T T v4 L.ord 211 #[.pointer (some ⟨w3.heap.size + 1, 0, none⟩), .pointer (some ⟨w3.heap.size, 0, none⟩)] (runN i (k - i + 1)) (hr.cell hl1) hloc.2.2.2.1 (Nat.le_of_lt hr.lt) (by rw [runN_len]; omega) (fun e he => len4 HORD.out he)
   (fun args w => run_enter Tryz.func211 (by kernel_rfl) rfl args w)
   (fun W hW => by
    rw [runN_len]
    exact ft_stops 4 L.ord.length (by omega) (w3.heap.size + 1) w3.heap.size (w4.heap.size + 1) i (k - i + 1) W (by omega) (by omega) (by omega) (by rw [show i + (k - i + 1) - 1 = k by omega]; exact belowS_cell hW hct) (belowS_cell hW hcf) (by omega))
  have HT4 := Lib.hid ht4
  have HB4 := Lib.hid hb4
  clear hft hw4 hcf hct ht4 hr hl1 hloc hb4
  refine hK.out _ _ trivial (fun hS5 => ?_)
  try simp only [Act.put, g1, g2, g3, g4, g5, g6]
  refine wpAnyH_one (i := 6) (by kernel_rfl) rfl (fun K hK => ?_)
  simp only [g4, g5, g6]
  go_simp
  go_at_call 99
  refine hca.mono ?_
  rintro e w5 ⟨v, rfl, hrow, hb5⟩
  have HEND : Hid (TabG F w5 T L (n + 1) ∧ Fr w w5 (· = T) ∧ RowsAt w5 w.heap.size v ((runN i (k - i + 1)).map (cellsJ L.ord))) := Lib.hid ⟨HT4.out.keep hb5, (HF3.out.trans (.of_below HB4.out)).trans (.of_below hb5), hrow.low (by have := HF3.out.size; have := HB4.out.size; omega)⟩
  clear hca hrow hb5
  refine hK.out _ _ trivial (fun hS6 => ?_)
  try simp only [Act.put, g1, g2, g3, g4, g5, g6]
  iterate 2 (refine wpH rfl rfl ?_; try simp only [Act.put, g1, g2, g3, g4, g5, g6])
  refine wpAnyH_done (by kernel_rfl) ?_ _
  go_wp2
  go_ret2
  exact ⟨HEND.out.1, HEND.out.2.1, fun hh => by omega, fun i' k' a b c => by
   obtain rfl : i = i' := by omega
   obtain rfl : k = k' := by omega
   exact ⟨_, rfl, HEND.out.2.2⟩⟩
end Go.Proofs.YthgiikhkcpbpfaaGreatDoor.C
