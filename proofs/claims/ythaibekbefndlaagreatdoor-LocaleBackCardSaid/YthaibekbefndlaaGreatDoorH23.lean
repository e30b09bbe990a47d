/-
  Joined: LdK, LdL. Each with what its own head says.
-/
import Derived.Test.YthaibekbefndlaaGreatDoorH20
import Derived.Test.YthaibekbefndlaaGreatDoorH21

namespace Go.Proofs.YthaibekbefndlaaGreatDoor.C
open Go.RowKit

def Xr (W : World) (R : Nat) (M : Option Nat) (t : TypeId) (j : Nat) : Prop := j = R ∨ M = some j ∨ ∃ c z, W.heap[j]? = some (.cells c t z)
def Xk (W : World) (R : Nat) (M : Option Nat) : Prop := (∃ c z, W.heap[R]? = some (.cells c 64 z)) ∧ ∀ m, M = some m → ∃ es q, W.heap[m]? = some (.map es q)
section
variable {W W' : World} {R : Nat} {M : Option Nat} {t : TypeId}
theorem xr_ty (hk : Xk W R M) {j : Nat} {c : Array Value} {t' : TypeId} {z : Nat × Nat} (hx : Xr W R M t j) (hj : W.heap[j]? = some (.cells c t' z)) : t' = 64 ∨ t' = t := by
 rcases hx with rfl | hm | ⟨c', z', h'⟩
 ·obtain ⟨c', z', h'⟩ := hk.1
  rw [hj] at h'
  simp at h'
  exact .inl h'.2.1
 ·obtain ⟨es, q, h'⟩ := hk.2 j hm
  rw [hj] at h'
  cases h'
 ·rw [hj] at h'
  simp at h'
  exact .inr h'.2.1
theorem xr_cells (hk : Xk W R M) {j : Nat} {c : Array Value} {t' : TypeId} {z : Nat × Nat} (hj : W.heap[j]? = some (.cells c t' z)) (h1 : t' ≠ 64) (h2 : t' ≠ t) : ¬ Xr W R M t j := fun hx => (xr_ty hk hx hj).elim h1 h2
theorem xr_map (hk : Xk W R M) {j : Nat} {es : Array MapEntry} {q : Nat} (hj : W.heap[j]? = some (.map es q)) (hM : M ≠ some j) : ¬ Xr W R M t j := by
 rintro (rfl | hm | ⟨c', z', h'⟩)
 ·obtain ⟨c', z', h'⟩ := hk.1
  rw [hj] at h'
  cases h'
 ·exact hM hm
 ·rw [hj] at h'
  cases h'
theorem One.xr {j : Nat} {t' : TypeId} {v : Value} (h : One W j t' v) (hf : Fr W W' (Xr W R M t)) (hk : Xk W R M) (h1 : t' ≠ 64) (h2 : t' ≠ t) : One W' j t' v := h.fr hf (xr_cells hk h h1 h2)
theorem MapIs.xr {j : Nat} {kd : TypeDesc} {l : List (Value × Value)} (h : MapIs W j kd l) (hf : Fr W W' (Xr W R M t)) (hk : Xk W R M) (hM : M ≠ some j) : MapIs W' j kd l := h.fr hf (by
 obtain ⟨es, q, h1, _⟩ := h
 exact xr_map hk h1 hM)
theorem FT.xr {A m : Nat} {t' : TypeId} {kd : TypeDesc} {ks : List Value} (h : FT W t' kd A m ks) (hf : Fr W W' (Xr W R M t)) (hk : Xk W R M) (h1 : t' ≠ 64) (h2 : t' ≠ t) (hM : M ≠ some m) : FT W' t' kd A m ks := h.fr hf (xr_cells hk h.1 h1 h2) (by
 obtain ⟨es, q, h1, _⟩ := h.2
 exact xr_map hk h1 hM)
theorem row_xr {base size n : Nat} {e : TypeId} {v : Value} {xs : List Value} (h : W.ownsRow base e size v n xs) (hf : Fr W W' (Xr W R M t)) (hk : Xk W R M) (h1 : e ≠ 64) (h2 : e ≠ t) : W'.ownsRow base e size v n xs := ownsRow_fr h hf (fun g hg => by
 obtain ⟨c, hc⟩ := ownsRow_ty h hg
 exact xr_cells hk hc h1 h2)
theorem ClsAt.xr {lo : Nat} {v : Value} {cs : List Cls} (h : ClsAt W lo v cs) (hf : Fr W W' (Xr W R M t)) (hk : Xk W R M) (h1 : t ≠ 47) (h2 : t ≠ 51) : ClsAt W' lo v cs := h.fr hf (fun g c z t' hx hg => by
 rcases xr_ty hk hx hg with e | e
 ·subst e; decide
 ·subst e; exact ⟨h1, h2⟩)
theorem OrdAt.xr {lo : Nat} {v : Value} {o : List Elm} (h : OrdAt W lo v o) (hf : Fr W W' (Xr W R M t)) (hk : Xk W R M) (h1 : t ≠ 35) (h2 : t ≠ 34) : OrdAt W' lo v o := h.fr hf (fun g c z t' hx hg => by
 rcases xr_ty hk hx hg with e | e
 ·subst e; decide
 ·subst e; exact ⟨h1, h2⟩)
theorem DeAt.xr {lo m : Nat} {d : List (List UInt8 × List Int)} (h : DeAt W lo m d) (hf : Fr W W' (Xr W R M t)) (hk : Xk W R M) (h1 : t ≠ 35) (hM : M ≠ some m) : DeAt W' lo m d := h.fr hf (by
 obtain ⟨l, es, q, h1, _⟩ := h.map
 exact xr_map hk h1 hM) (fun g c z t' hx hg => by
 rcases xr_ty hk hx hg with e | e
 ·subst e; decide
 ·subst e; exact h1)
end

structure Pl where
 B : Nat
 lo : Nat
 R : Nat
 Md : Nat
 ML : Nat
 A1 : Nat
 M1 : Nat
 r1 : Nat
 a1 : Nat
 A2 : Nat
 M2 : Nat
 r2 : Nat
 a2 : Nat
 t2 : Nat
 A3 : Nat
 M3 : Nat
 r3 : Nat
 a3 : Nat
 t3 : Nat
def Pl.f1 (q : Pl) : Value := .func (.func 121) #[] #[.pointer (some ⟨q.r1, 0, none⟩), .pointer (some ⟨q.a1, 0, none⟩)]
def Pl.f2 (q : Pl) : Value := .func (.func 126) #[] #[.pointer (some ⟨q.r2, 0, none⟩), .pointer (some ⟨q.a2, 0, none⟩), .pointer (some ⟨q.t2, 0, none⟩)]
def Pl.f3 (q : Pl) : Value := .func (.func 126) #[] #[.pointer (some ⟨q.r3, 0, none⟩), .pointer (some ⟨q.a3, 0, none⟩), .pointer (some ⟨q.t3, 0, none⟩)]
def Pl.f4 (q : Pl) : Value := .func (.func 78) #[.pointer (some ⟨q.R, 0, none⟩)] #[]
def Pl.f5 (q : Pl) : Value := .func (.func 79) #[.pointer (some ⟨q.R, 0, none⟩)] #[]
def LsIs (q : Pl) (l : List (Value × Value)) : Prop := ∀ k v, (k, v) ∈ l ↔ (k = .string (str wClass) ∧ v = q.f1) ∨ (k = .string (str wUpper) ∧ v = q.f2) ∨ (k = .string (str wLower) ∧ v = q.f3) ∨ (k = .string (str wElem) ∧ v = q.f4) ∨ (k = .string (str wOrder) ∧ v = q.f5)
structure PlOk (q : Pl) : Prop where
 lo : q.R < q.lo
 m1 : q.R < q.M1
 m2 : q.R < q.M2
 m3 : q.R < q.M3
 d1 : q.Md ≠ q.M1
 d2 : q.Md ≠ q.M2
 d3 : q.Md ≠ q.M3
 l0 : q.ML ≠ q.Md
 l1 : q.ML ≠ q.M1
 l2 : q.ML ≠ q.M2
 l3 : q.ML ≠ q.M3
 e1 : q.M1 ≠ q.M2
 e2 : q.M1 ≠ q.M3
 e3 : q.M2 ≠ q.M3
 b0 : q.B ≤ q.R
 b1 : q.B ≤ q.Md
structure RdS (T : TV) (q : Pl) (s : Sta) (k : Nat) (v1 v2 v3 v4 : Value) (W : World) : Prop where
 cu : CU W q.R T k v1 v2 v3 v4 (.map (some q.Md))
 cls : ClsAt W q.lo v1 s.l.cls
 up : W.ownsRow q.lo 49 2 v2 s.l.up.length (prsC s.l.up)
 lw : W.ownsRow q.lo 49 2 v3 s.l.lo.length (prsC s.l.lo)
 ord : OrdAt W q.lo v4 s.l.ord
 de : DeAt W q.lo q.Md s.d
 ft1 : FT W 151 .string q.A1 q.M1 (namesV s.l.cls)
 ft2 : FT W 200 (.int .i64) q.A2 q.M2 (numsV s.l.up)
 ft3 : FT W 200 (.int .i64) q.A3 q.M3 (numsV s.l.lo)
 rb1 : One W q.r1 88 (.pointer (some ⟨q.R, 0, none⟩))
 ab1 : One W q.a1 110 (FnS q.A1)
 rb2 : One W q.r2 88 (.pointer (some ⟨q.R, 0, none⟩))
 ab2 : One W q.a2 166 (FnI q.A2)
 tb2 : One W q.t2 132 (.pointer (some ⟨q.R, 3, none⟩))
 rb3 : One W q.r3 88 (.pointer (some ⟨q.R, 0, none⟩))
 ab3 : One W q.a3 166 (FnI q.A3)
 tb3 : One W q.t3 132 (.pointer (some ⟨q.R, 4, none⟩))
 ml : ∃ l, MapIs W q.ML .string l ∧ LsIs q l
 sep : ∀ g, v2.ownBlock = some g → ¬ v3.ownBlock = some g
 n1 : s.l.cls.length ≤ k
 n2 : s.l.up.length ≤ k
 n3 : s.l.lo.length ≤ k
 n4 : s.l.ord.length ≤ 500
 low : q.lo ≤ W.heap.size
section
variable {T : TV} {q : Pl} {s : Sta} {k : Nat} {v1 v2 v3 v4 : Value} {W W' : World}
theorem RdS.xk (h : RdS T q s k v1 v2 v3 v4 W) : Xk W q.R none := ⟨⟨_, _, h.cu.1⟩, by rintro m ⟨⟩⟩
theorem RdS.xkm (h : RdS T q s k v1 v2 v3 v4 W) {m : Nat} {kd : TypeDesc} {l : List (Value × Value)} (hm : MapIs W m kd l) : Xk W q.R (some m) := ⟨⟨_, _, h.cu.1⟩, by
 rintro m' e
 injection e with e
 subst e
 obtain ⟨es, q, h1, _⟩ := hm
 exact ⟨es, q, h1⟩⟩
theorem RdS.go (h : RdS T q s k v1 v2 v3 v4 W) {k' : Nat} (hc : CU W' q.R T k' v1 v2 v3 v4 (.map (some q.Md))) (hm : Moved W W' q.R) (hkk : k ≤ k') : RdS T q s k' v1 v2 v3 v4 W' := by
 have hf : Fr W W' (Xr W q.R none 64) := (Fr.of_moved hm).mono fun _ _ e => .inl e
 have hk := h.xk
 obtain ⟨l, hl1, hl2⟩ := h.ml
 have hs := hm.size
 have hlow := h.low
 exact ⟨hc, h.cls.xr hf hk (by decide) (by decide), row_xr h.up hf hk (by decide) (by decide), row_xr h.lw hf hk (by decide) (by decide), h.ord.xr hf hk (by decide) (by decide), h.de.xr hf hk (by decide) (by simp),
  h.ft1.xr hf hk (by decide) (by decide) (by simp), h.ft2.xr hf hk (by decide) (by decide) (by simp), h.ft3.xr hf hk (by decide) (by decide) (by simp),
  h.rb1.xr hf hk (by decide) (by decide), h.ab1.xr hf hk (by decide) (by decide), h.rb2.xr hf hk (by decide) (by decide), h.ab2.xr hf hk (by decide) (by decide), h.tb2.xr hf hk (by decide) (by decide), h.rb3.xr hf hk (by decide) (by decide), h.ab3.xr hf hk (by decide) (by decide), h.tb3.xr hf hk (by decide) (by decide),
  ⟨l, hl1.xr hf hk (by simp), hl2⟩, h.sep, by have := h.n1; omega, by have := h.n2; omega, by have := h.n3; omega, h.n4, by omega⟩
theorem RdS.below (h : RdS T q s k v1 v2 v3 v4 W) (hb : Below W.heap.size W W') : RdS T q s k v1 v2 v3 v4 W' := h.go (h.cu.next hb) (.of_below hb) (Nat.le_refl _)
end
def LnTold (T : TV) (q : Pl) (w : World) : Re Sta → Ending → World → Prop
 | .ok (s, r), e, w' => ∃ k v1 v2 v3 v4, e = .returned (.tuple #[]) ∧ RdS T q s k v1 v2 v3 v4 w' ∧ T.ts.drop k = r ∧ Fr w w' (fun j => q.B ≤ j)
 | .error er, e, w' => e = .panicked (faultV er.1 er.2) ∧ Fr w w' (fun j => q.B ≤ j)
section
variable {T : TV} {q : Pl} {s : Sta} {k : Nat} {v1 v2 v3 v4 : Value} {W : World}
theorem line1_any (h : RdS T q s k v1 v2 v3 v4 W) (hq : PlOk q) (hN : NumOk T) (hE : Ended (T.ts.drop k)) :
  Calls Tryz.prog 121 #[.pointer (some ⟨q.r1, 0, none⟩), .pointer (some ⟨q.a1, 0, none⟩)] W (LnTold T q W (classL s (T.ts.drop k))) := by
 have hk1 : k ≤ 1001 := by have := h.cu.2.2; omega
 refine (classes1_any W q.lo q.R T k v1 v2 v3 v4 (.map (some q.Md)) q.r1 q.a1 q.A1 q.M1 s.l.cls h.cu hN hE h.cls h.ft1 h.rb1 h.ab1 (by have := h.n1; omega) hq.lo h.low hq.m1).mono ?_
 intro e w' he
 obtain ⟨vs, hvs, hrow, hrr⟩ := h.cls
 have hb : ∀ {w' : World}, Fr W w' (fun j => j = q.R ∨ j = q.M1 ∨ v1.ownBlock = some j) → Fr W w' (fun j => q.B ≤ j) := fun hf => hf.mono fun j _ hj => by
  have b0 := hq.b0
  have m1 := hq.m1
  rcases hj with rfl | rfl | hj
  ·exact b0
  ·omega
  ·have := (hrow.lt j hj).1
   have := hq.lo
   omega
 rw [classL_cls]
 cases hx : clsL s.l.cls (T.ts.drop k) with
 | error er =>
  rw [hx] at he
  exact ⟨he.1, hb he.2⟩
 | ok y =>
  obtain ⟨cs, r⟩ := y
  rw [hx] at he
  obtain ⟨k', u1, rfl, hc, hr, hcl, hft, hfr⟩ := he
  have hleft := clsL_left hE hx
  have hkk : k < k' := drop_more (T := T) (by rw [hr]; exact hleft.1.2.1)
  have hf : Fr W w' (Xr W q.R (some q.M1) 47) := hfr.mono fun j _ hj => by
   rcases hj with rfl | rfl | hj
   ·exact .inl rfl
   ·exact .inr (.inl rfl)
   ·obtain ⟨c, hc⟩ := ownsRow_ty hrow hj
    exact .inr (.inr ⟨c, _, hc⟩)
  have hk := h.xkm h.ft1.2
  obtain ⟨l, hl1, hl2⟩ := h.ml
  have hs := hfr.size
  have hlow := h.low
  have hn4 := h.n4
  refine ⟨k', u1, v2, v3, v4, rfl, ⟨hc, hcl, row_xr h.up hf hk (by decide) (by decide), row_xr h.lw hf hk (by decide) (by decide), h.ord.xr hf hk (by decide) (by decide), h.de.xr hf hk (by decide) (by simpa using hq.d1.symm),
   hft, h.ft2.xr hf hk (by decide) (by decide) (by simpa using hq.e1), h.ft3.xr hf hk (by decide) (by decide) (by simpa using hq.e2),
   h.rb1.xr hf hk (by decide) (by decide), h.ab1.xr hf hk (by decide) (by decide), h.rb2.xr hf hk (by decide) (by decide), h.ab2.xr hf hk (by decide) (by decide), h.tb2.xr hf hk (by decide) (by decide), h.rb3.xr hf hk (by decide) (by decide), h.ab3.xr hf hk (by decide) (by decide), h.tb3.xr hf hk (by decide) (by decide),
   ⟨l, hl1.xr hf hk (by simpa using hq.l1.symm), hl2⟩, h.sep, ?_, ?_, ?_, hn4, by omega⟩, hr, hb hfr⟩
  ·have := hleft.2
   have := h.n1
   show cs.length ≤ k'
   omega
  ·have := h.n2
   show s.l.up.length ≤ k'
   omega
  ·have := h.n3
   show s.l.lo.length ≤ k'
   omega
theorem line2_any (h : RdS T q s k v1 v2 v3 v4 W) (hq : PlOk q) (hN : NumOk T) (hE : Ended (T.ts.drop k)) :
  Calls Tryz.prog 126 #[.pointer (some ⟨q.r2, 0, none⟩), .pointer (some ⟨q.a2, 0, none⟩), .pointer (some ⟨q.t2, 0, none⟩)] W (LnTold T q W (upperL s (T.ts.drop k))) := by
 refine (pairs1U_any q.lo q.R T v1 v3 v4 (.map (some q.Md)) q.A2 q.M2 q.r2 q.a2 q.t2 W s.l.up k v2 ⟨h.cu, h.up, fun g e => .inl e, h.ft2, h.rb2, h.ab2, h.tb2, .of_below (Below.refl _ _)⟩ h.n2 hN hE hq.lo h.low hq.m2).mono ?_
 intro e w' he
 have hb : ∀ {w' : World}, Fr W w' (fun j => j = q.R ∨ j = q.M2 ∨ v2.ownBlock = some j) → Fr W w' (fun j => q.B ≤ j) := fun hf => hf.mono fun j _ hj => by
  have b0 := hq.b0
  have m1 := hq.m2
  rcases hj with rfl | rfl | hj
  ·exact b0
  ·omega
  ·have := (h.up.lt j hj).1
   have := hq.lo
   omega
 unfold upperL
 cases hx : itemsL pairL ((T.ts.drop k).length + 1) s.l.up (T.ts.drop k) with
 | error er =>
  rw [hx] at he
  exact ⟨he.1, hb he.2⟩
 | ok y =>
  obtain ⟨l', r⟩ := y
  rw [hx] at he
  obtain ⟨k', rfl, ⟨⟨u', hp⟩, hl'⟩, hr⟩ := he
  have hfr := hp.fr
  have hleft := itemsL_left pairL (fun s s' ts r hE h => pairL_left hE h) _ _ _ _ _ hE hx
  have hkk : k < k' := drop_more (T := T) (by rw [hr]; exact hleft.2.1)
  have hf : Fr W w' (Xr W q.R (some q.M2) 49) := hfr.mono fun j _ hj => by
   rcases hj with rfl | rfl | hj
   ·exact .inl rfl
   ·exact .inr (.inl rfl)
   ·obtain ⟨c, hc⟩ := ownsRow_ty h.up hj
    exact .inr (.inr ⟨c, _, hc⟩)
  have hk := h.xkm h.ft2.2
  obtain ⟨l, hl1, hl2⟩ := h.ml
  have hs := hfr.size
  have hlow := h.low
  have hn4 := h.n4
  have hlw : w'.ownsRow q.lo 49 2 v3 s.l.lo.length (prsC s.l.lo) := ownsRow_fr h.lw hfr (by
   rintro g hg (rfl | rfl | e)
   ·exact row_ne h.lw h.cu.1 (by decide) hg
   ·exact row_nomap h.lw h.ft2.2 hg
   ·exact h.sep g e hg)
  refine ⟨k', v1, u', v3, v4, rfl, ⟨hp.cu, h.cls.xr hf hk (by decide) (by decide), hp.row, hlw, h.ord.xr hf hk (by decide) (by decide), h.de.xr hf hk (by decide) (by simpa using hq.d2.symm),
   h.ft1.xr hf hk (by decide) (by decide) (by simpa using hq.e1.symm), hp.ft, h.ft3.xr hf hk (by decide) (by decide) (by simpa using hq.e3),
   h.rb1.xr hf hk (by decide) (by decide), h.ab1.xr hf hk (by decide) (by decide), h.rb2.xr hf hk (by decide) (by decide), h.ab2.xr hf hk (by decide) (by decide), h.tb2.xr hf hk (by decide) (by decide), h.rb3.xr hf hk (by decide) (by decide), h.ab3.xr hf hk (by decide) (by decide), h.tb3.xr hf hk (by decide) (by decide),
   ⟨l, hl1.xr hf hk (by simpa using hq.l2.symm), hl2⟩, ?_, ?_, hl', ?_, hn4, by omega⟩, hr, hb hfr⟩
  ·intro g e1 e2
   rcases hp.own g e1 with e | e
   ·exact h.sep g e e2
   ·have := (h.lw.lt g e2).2
    omega
  ·have := h.n1
   show s.l.cls.length ≤ k'
   omega
  ·have := h.n3
   show s.l.lo.length ≤ k'
   omega
theorem line3_any (h : RdS T q s k v1 v2 v3 v4 W) (hq : PlOk q) (hN : NumOk T) (hE : Ended (T.ts.drop k)) :
  Calls Tryz.prog 126 #[.pointer (some ⟨q.r3, 0, none⟩), .pointer (some ⟨q.a3, 0, none⟩), .pointer (some ⟨q.t3, 0, none⟩)] W (LnTold T q W (lowerL s (T.ts.drop k))) := by
 refine (pairs1L_any q.lo q.R T v1 v2 v4 (.map (some q.Md)) q.A3 q.M3 q.r3 q.a3 q.t3 W s.l.lo k v3 ⟨h.cu, h.lw, fun g e => .inl e, h.ft3, h.rb3, h.ab3, h.tb3, .of_below (Below.refl _ _)⟩ h.n3 hN hE hq.lo h.low hq.m3).mono ?_
 intro e w' he
 have hb : ∀ {w' : World}, Fr W w' (fun j => j = q.R ∨ j = q.M3 ∨ v3.ownBlock = some j) → Fr W w' (fun j => q.B ≤ j) := fun hf => hf.mono fun j _ hj => by
  have b0 := hq.b0
  have m1 := hq.m3
  rcases hj with rfl | rfl | hj
  ·exact b0
  ·omega
  ·have := (h.lw.lt j hj).1
   have := hq.lo
   omega
 unfold lowerL
 cases hx : itemsL pairL ((T.ts.drop k).length + 1) s.l.lo (T.ts.drop k) with
 | error er =>
  rw [hx] at he
  exact ⟨he.1, hb he.2⟩
 | ok y =>
  obtain ⟨l', r⟩ := y
  rw [hx] at he
  obtain ⟨k', rfl, ⟨⟨u', hp⟩, hl'⟩, hr⟩ := he
  have hfr := hp.fr
  have hleft := itemsL_left pairL (fun s s' ts r hE h => pairL_left hE h) _ _ _ _ _ hE hx
  have hkk : k < k' := drop_more (T := T) (by rw [hr]; exact hleft.2.1)
  have hf : Fr W w' (Xr W q.R (some q.M3) 49) := hfr.mono fun j _ hj => by
   rcases hj with rfl | rfl | hj
   ·exact .inl rfl
   ·exact .inr (.inl rfl)
   ·obtain ⟨c, hc⟩ := ownsRow_ty h.lw hj
    exact .inr (.inr ⟨c, _, hc⟩)
  have hk := h.xkm h.ft3.2
  obtain ⟨l, hl1, hl2⟩ := h.ml
  have hs := hfr.size
  have hlow := h.low
  have hn4 := h.n4
  have hup : w'.ownsRow q.lo 49 2 v2 s.l.up.length (prsC s.l.up) := ownsRow_fr h.up hfr (by
   rintro g hg (rfl | rfl | e)
   ·exact row_ne h.up h.cu.1 (by decide) hg
   ·exact row_nomap h.up h.ft3.2 hg
   ·exact h.sep g hg e)
  refine ⟨k', v1, v2, u', v4, rfl, ⟨hp.cu, h.cls.xr hf hk (by decide) (by decide), hup, hp.row, h.ord.xr hf hk (by decide) (by decide), h.de.xr hf hk (by decide) (by simpa using hq.d3.symm),
   h.ft1.xr hf hk (by decide) (by decide) (by simpa using hq.e2.symm), h.ft2.xr hf hk (by decide) (by decide) (by simpa using hq.e3.symm), hp.ft,
   h.rb1.xr hf hk (by decide) (by decide), h.ab1.xr hf hk (by decide) (by decide), h.rb2.xr hf hk (by decide) (by decide), h.ab2.xr hf hk (by decide) (by decide), h.tb2.xr hf hk (by decide) (by decide), h.rb3.xr hf hk (by decide) (by decide), h.ab3.xr hf hk (by decide) (by decide), h.tb3.xr hf hk (by decide) (by decide),
   ⟨l, hl1.xr hf hk (by simpa using hq.l3.symm), hl2⟩, ?_, ?_, ?_, hl', hn4, by omega⟩, hr, hb hfr⟩
  ·intro g e1 e2
   rcases hp.own g e2 with e | e
   ·exact h.sep g e1 e
   ·have := (h.up.lt g e1).2
    omega
  ·have := h.n1
   show s.l.cls.length ≤ k'
   omega
  ·have := h.n2
   show s.l.up.length ≤ k'
   omega
theorem line4_any (h : RdS T q s k v1 v2 v3 v4 W) (hq : PlOk q) (hX : TxtOk T) (hE : Ended (T.ts.drop k)) :
  Calls Tryz.prog 78 #[.pointer (some ⟨q.R, 0, none⟩)] W (LnTold T q W (elementL s (T.ts.drop k))) := by
 refine (element_any W q.lo q.R T k v1 v2 v3 v4 q.Md s.d h.cu hX hE h.de h.low).mono ?_
 intro e w' he
 have hb : ∀ {w' : World}, Fr W w' (fun j => j = q.R ∨ j = q.Md) → Fr W w' (fun j => q.B ≤ j) := fun hf => hf.mono fun j _ hj => by
  rcases hj with rfl | rfl
  ·exact hq.b0
  ·exact hq.b1
 rw [elementL_elm]
 cases hx : elmL s.d (T.ts.drop k) with
 | error er =>
  rw [hx] at he
  exact ⟨he.1, hb he.2⟩
 | ok y =>
  obtain ⟨d', r⟩ := y
  rw [hx] at he
  obtain ⟨k', rfl, hc, hr, hde, hfr⟩ := he
  have hleft := elmL_left hE hx
  have hkk : k < k' := drop_more (T := T) (by rw [hr]; exact hleft.2.1)
  have hf : Fr W w' (Xr W q.R (some q.Md) 64) := hfr.mono fun j _ hj => by
   rcases hj with rfl | rfl
   ·exact .inl rfl
   ·exact .inr (.inl rfl)
  obtain ⟨ld, hld⟩ := h.de.map
  have hk := h.xkm hld
  obtain ⟨l, hl1, hl2⟩ := h.ml
  have hs := hfr.size
  have hlow := h.low
  have hn4 := h.n4
  refine ⟨k', v1, v2, v3, v4, rfl, ⟨hc, h.cls.xr hf hk (by decide) (by decide), row_xr h.up hf hk (by decide) (by decide), row_xr h.lw hf hk (by decide) (by decide), h.ord.xr hf hk (by decide) (by decide), hde,
   h.ft1.xr hf hk (by decide) (by decide) (by simpa using hq.d1), h.ft2.xr hf hk (by decide) (by decide) (by simpa using hq.d2), h.ft3.xr hf hk (by decide) (by decide) (by simpa using hq.d3),
   h.rb1.xr hf hk (by decide) (by decide), h.ab1.xr hf hk (by decide) (by decide), h.rb2.xr hf hk (by decide) (by decide), h.ab2.xr hf hk (by decide) (by decide), h.tb2.xr hf hk (by decide) (by decide), h.rb3.xr hf hk (by decide) (by decide), h.ab3.xr hf hk (by decide) (by decide), h.tb3.xr hf hk (by decide) (by decide),
   ⟨l, hl1.xr hf hk (by simpa using hq.l0.symm), hl2⟩, h.sep, ?_, ?_, ?_, hn4, by omega⟩, hr, hb hfr⟩
  ·have := h.n1
   show s.l.cls.length ≤ k'
   omega
  ·have := h.n2
   show s.l.up.length ≤ k'
   omega
  ·have := h.n3
   show s.l.lo.length ≤ k'
   omega
theorem line5_any (h : RdS T q s k v1 v2 v3 v4 W) (hq : PlOk q) (hN : NumOk T) (hE : Ended (T.ts.drop k)) :
  Calls Tryz.prog 79 #[.pointer (some ⟨q.R, 0, none⟩)] W (LnTold T q W (orderL s (T.ts.drop k))) := by
 refine (order_any W q.lo q.R T k v1 v2 v3 v4 q.Md s.d s.l.ord h.cu h.de h.ord hN hE h.n4 hq.lo h.low).mono ?_
 intro e w' he
 obtain ⟨vs, hvs, hrow, hrr⟩ := h.ord
 have hb : ∀ {w' : World}, Fr W w' (fun j => j = q.R ∨ v4.ownBlock = some j) → Fr W w' (fun j => q.B ≤ j) := fun hf => hf.mono fun j _ hj => by
  have b0 := hq.b0
  rcases hj with rfl | hj
  ·exact b0
  ·have := (hrow.lt j hj).1
   have := hq.lo
   omega
 rw [orderL_ord]
 cases hx : ordL s.d s.l.ord (T.ts.drop k) with
 | error er =>
  rw [hx] at he
  exact ⟨he.1, hb he.2⟩
 | ok y =>
  obtain ⟨o', r⟩ := y
  rw [hx] at he
  obtain ⟨k', u4, rfl, hc, hr, hod, hown, hfr⟩ := he
  have hleft := ordL_left hE h.n4 hx
  have hkk : k < k' := drop_more (T := T) (by rw [hr]; exact hleft.1.2.1)
  have hf : Fr W w' (Xr W q.R none 34) := hfr.mono fun j _ hj => by
   rcases hj with rfl | hj
   ·exact .inl rfl
   ·obtain ⟨c, hc⟩ := ownsRow_ty hrow hj
    exact .inr (.inr ⟨c, _, hc⟩)
  have hk := h.xk
  obtain ⟨l, hl1, hl2⟩ := h.ml
  have hs := hfr.size
  have hlow := h.low
  refine ⟨k', v1, v2, v3, u4, rfl, ⟨hc, h.cls.xr hf hk (by decide) (by decide), row_xr h.up hf hk (by decide) (by decide), row_xr h.lw hf hk (by decide) (by decide), hod, h.de.xr hf hk (by decide) (by simp),
   h.ft1.xr hf hk (by decide) (by decide) (by simp), h.ft2.xr hf hk (by decide) (by decide) (by simp), h.ft3.xr hf hk (by decide) (by decide) (by simp),
   h.rb1.xr hf hk (by decide) (by decide), h.ab1.xr hf hk (by decide) (by decide), h.rb2.xr hf hk (by decide) (by decide), h.ab2.xr hf hk (by decide) (by decide), h.tb2.xr hf hk (by decide) (by decide), h.rb3.xr hf hk (by decide) (by decide), h.ab3.xr hf hk (by decide) (by decide), h.tb3.xr hf hk (by decide) (by decide),
   ⟨l, hl1.xr hf hk (by simp), hl2⟩, h.sep, ?_, ?_, ?_, hleft.2, by omega⟩, hr, hb hfr⟩
  ·have := h.n1
   show s.l.cls.length ≤ k'
   omega
  ·have := h.n2
   show s.l.up.length ≤ k'
   omega
  ·have := h.n3
   show s.l.lo.length ≤ k'
   omega
end
end Go.Proofs.YthaibekbefndlaaGreatDoor.C

namespace Go.Proofs.YthaibekbefndlaaGreatDoor.C
open Go.RowKit

def Cl1 (R r1 a1 A1 M1 : Nat) (W : World) : Prop := One W r1 88 (.pointer (some ⟨R, 0, none⟩)) ∧ One W a1 110 (FnS A1) ∧ FT W 151 .string A1 M1 []
def Cl2 (R i r a t A M : Nat) (W : World) : Prop := One W r 88 (.pointer (some ⟨R, 0, none⟩)) ∧ One W a 166 (FnI A) ∧ One W t 132 (.pointer (some ⟨R, i, none⟩)) ∧ FT W 200 (.int .i64) A M []
set_option maxRecDepth 100000 in
set_option maxHeartbeats 1000000 in
theorem classes_any (w : World) (R : Nat) : Calls Tryz.prog 76 #[.pointer (some ⟨R, 0, none⟩)] w fun e w' => ∃ r1 a1 A1 M1, e = .returned (.func (.func 121) #[] #[.pointer (some ⟨r1, 0, none⟩), .pointer (some ⟨a1, 0, none⟩)]) ∧ Cl1 R r1 a1 A1 M1 w' ∧ w.heap.size ≤ M1 ∧ Below w.heap.size w w' := by
 have hmf : ∀ (fn : Fn) (first cap : Array Value) (w : World), (Instr.makeFunc fn first cap).run Tryz.prog w = .ok (.func fn first cap) w := fun _ _ _ _ => rfl
 have hst := @run_store_func Tryz.prog
 have hf := firstS_any (w.alloc (.cells #[.pointer (some ⟨R, 0, none⟩)] 88))
 go_enter Tryz.func76, Tryz.ntmps76
 go_wp2_with fail
 refine hf.mono ?_
 rintro e w1 ⟨rfl, hft, hb, hs⟩
 rw [World.size_alloc] at hft hb hs
 have hr : One w1 w.heap.size 88 (.pointer (some ⟨R, 0, none⟩)) := (hb.block _ (Nat.lt_succ_self _)).trans (heap_alloc_new w _)
 have HE : Hid (Cl1 R w.heap.size w1.heap.size (w.heap.size + 1 + 1) (w.heap.size + 1) (w1.alloc (.cells #[FnS (w.heap.size + 1 + 1)] 110)) ∧ Below w.heap.size w (w1.alloc (.cells #[FnS (w.heap.size + 1 + 1)] 110))) := Lib.hid ⟨⟨hr.alloc _, heap_alloc_new w1 _, hft.next (heap_lt _ _ (by omega)) (heap_lt _ _ (by omega))⟩, (((Below.refl _ w).alloc (Nat.le_refl _) _).trans (hb.mono (by omega))).alloc (by omega) _⟩
 unfold FnS at HE
 clear hft hb hr hf hs
 go_wp2
 go_ret
 exact ⟨_, _, _, _, rfl, HE.out.1, by omega, HE.out.2⟩
set_option maxRecDepth 100000 in
set_option maxHeartbeats 1000000 in
theorem pairs_any (w : World) (R i : Nat) : Calls Tryz.prog 77 #[.pointer (some ⟨R, 0, none⟩), .pointer (some ⟨R, i, none⟩)] w fun e w' => ∃ r a t A M, e = .returned (.func (.func 126) #[] #[.pointer (some ⟨r, 0, none⟩), .pointer (some ⟨a, 0, none⟩), .pointer (some ⟨t, 0, none⟩)]) ∧ Cl2 R i r a t A M w' ∧ w.heap.size ≤ M ∧ Below w.heap.size w w' := by
 have hmf : ∀ (fn : Fn) (first cap : Array Value) (w : World), (Instr.makeFunc fn first cap).run Tryz.prog w = .ok (.func fn first cap) w := fun _ _ _ _ => rfl
 have hst := @run_store_func Tryz.prog
 have hf := firstI_any ((w.alloc (.cells #[.pointer (some ⟨R, 0, none⟩)] 88)).alloc (.cells #[.pointer (some ⟨R, i, none⟩)] 132))
 go_enter Tryz.func77, Tryz.ntmps77
 go_wp2_with fail
 refine hf.mono ?_
 rintro e w1 ⟨rfl, hft, hb, hs⟩
 rw [World.size_alloc, World.size_alloc] at hft hb hs
 have hr : One w1 w.heap.size 88 (.pointer (some ⟨R, 0, none⟩)) := (hb.block _ (by omega)).trans ((heap_lt _ _ (by simp)).trans (heap_alloc_new w _))
 have ht : One w1 (w.heap.size + 1) 132 (.pointer (some ⟨R, i, none⟩)) := (hb.block _ (by omega)).trans (by
  have := heap_alloc_new (w.alloc (.cells #[.pointer (some ⟨R, 0, none⟩)] 88)) (.cells #[.pointer (some ⟨R, i, none⟩)] 132)
  rw [World.size_alloc] at this
  exact this)
 have HE : Hid (Cl2 R i w.heap.size w1.heap.size (w.heap.size + 1) (w.heap.size + 1 + 1 + 1) (w.heap.size + 1 + 1) (w1.alloc (.cells #[FnI (w.heap.size + 1 + 1 + 1)] 166)) ∧ Below w.heap.size w (w1.alloc (.cells #[FnI (w.heap.size + 1 + 1 + 1)] 166))) := Lib.hid ⟨⟨hr.alloc _, heap_alloc_new w1 _, ht.alloc _, hft.next (heap_lt _ _ (by omega)) (heap_lt _ _ (by omega))⟩, ((((Below.refl _ w).alloc (Nat.le_refl _) _).alloc (by simp) _).trans (hb.mono (by omega))).alloc (by omega) _⟩
 unfold FnI at HE
 clear hft hb hr ht hf hs
 go_wp2
 go_ret
 exact ⟨_, _, _, _, _, rfl, HE.out.1, by omega, HE.out.2⟩

section
variable {P : Program} {ops : Array Oper} {Q : Exit → Act → World → Prop} {md : Region.Mode} {S : World → Prop}
theorem wpOp_of {K : Act → World → Prop} {i : Nat} {o : Oper} {a : Act} {w : World} (ho : ops[i]? = some o) (h : if Region.wanted o (yielded ops a.tmps) = true then Oper.wp P o a w K Q else K (a.put o.dst undef) w) : wpOp P ops Q i K a w := by
 unfold wpOp
 simp only [ho]
 split
 ·rename_i hw
  rw [if_pos hw] at h
  exact .inl h
 ·rename_i hw
  rw [if_neg hw] at h
  exact h
theorem wpAnyH_inv (I : Nat → Array Bool → Act → World → Prop)
  (step : ∀ n listed a w, I (n + 1) listed a w → Region.ready md ops listed ≠ [] ∧ ∀ i ∈ Region.ready md ops listed, wpOp P ops Q i (fun a' w' => I n (listed.setIfInBounds i true) a' w') a w)
  (fin : ∀ fuel listed a w, I 0 listed a w → wpAnyH P md ops Q (fun _ => True) (fuel + 2) listed a w) :
  ∀ n fuel listed a w, I n listed a w → wpAnyH P md ops Q (fun _ => True) (n + fuel + 2) listed a w
 | 0, fuel, listed, a, w, h => by
  rw [Nat.zero_add]
  exact fin fuel listed a w h
 | n + 1, fuel, listed, a, w, h => by
  obtain ⟨h1, h2⟩ := step n listed a w h
  rw [show n + 1 + fuel + 2 = (n + fuel + 2) + 1 by omega]
  exact ⟨fun h0 => absurd h0 h1, fun i hi => wpOp_mono (fun a' w' h' => ⟨trivial, wpAnyH_inv I step fin n fuel _ a' w' h'⟩) (h2 i hi)⟩
end
structure Fl where
 m : Bool
 c1 : Bool
 c2 : Bool
 c3 : Bool
 i1 : Bool
 i2 : Bool
 i3 : Bool
 i4 : Bool
 i5 : Bool
def Fl.left (f : Fl) : Nat := (!f.m).toNat + (!f.c1).toNat + (!f.c2).toNat + (!f.c3).toNat + (!f.i1).toNat + (!f.i2).toNat + (!f.i3).toNat + (!f.i4).toNat + (!f.i5).toNat
def Fl.arr (f : Fl) : Array Bool := #[f.m, true, f.c1, f.i1, true, true, true, true, true, f.c2, f.i2, true, true, true, true, true, f.c3, f.i3, true, true, f.i4, true, true, f.i5, false, false]
def Fl.ok (f : Fl) : Nat → Bool
 | 0 => !f.m
 | 2 => !f.c1
 | 3 => f.m && f.c1 && !f.i1
 | 9 => f.c1 && !f.c2
 | 10 => f.m && f.c2 && !f.i2
 | 16 => f.c2 && !f.c3
 | 17 => f.m && f.c3 && !f.i3
 | 20 => f.m && !f.i4
 | 23 => f.m && !f.i5
 | 24 => f.left == 0
 | 25 => f.left == 0
 | _ => false
theorem ls_ready0 : ∀ m c1 c2 c3 i1 i2 i3 i4 i5 : Bool, (Region.ready .any (match Tryz.f36.body with | some (.seq _ (.seq (.region _ ops _) _)) => ops | _ => #[]) (Fl.arr ⟨m, c1, c2, c3, i1, i2, i3, i4, i5⟩)).all (Fl.ok ⟨m, c1, c2, c3, i1, i2, i3, i4, i5⟩) = true ∧ ((Fl.left ⟨m, c1, c2, c3, i1, i2, i3, i4, i5⟩ == 0) || !(Region.ready .any (match Tryz.f36.body with | some (.seq _ (.seq (.region _ ops _) _)) => ops | _ => #[]) (Fl.arr ⟨m, c1, c2, c3, i1, i2, i3, i4, i5⟩)).isEmpty) = true := by decide +kernel
theorem ls_ready (f : Fl) : (Region.ready .any (match Tryz.f36.body with | some (.seq _ (.seq (.region _ ops _) _)) => ops | _ => #[]) f.arr).all f.ok = true ∧ ((f.left == 0) || !(Region.ready .any (match Tryz.f36.body with | some (.seq _ (.seq (.region _ ops _) _)) => ops | _ => #[]) f.arr).isEmpty) = true := ls_ready0 f.m f.c1 f.c2 f.c3 f.i1 f.i2 f.i3 f.i4 f.i5
def LsP (f : Fl) (q : Pl) (l : List (Value × Value)) : Prop := ∀ k v, (k, v) ∈ l ↔ (f.i1 = true ∧ k = .string (str wClass) ∧ v = q.f1) ∨ (f.i2 = true ∧ k = .string (str wUpper) ∧ v = q.f2) ∨ (f.i3 = true ∧ k = .string (str wLower) ∧ v = q.f3) ∨ (f.i4 = true ∧ k = .string (str wElem) ∧ v = q.f4) ∨ (f.i5 = true ∧ k = .string (str wOrder) ∧ v = q.f5)
structure LnI (w0 : World) (f : Fl) (q : Pl) (x3 x5 x11 x17 : Value) (W : World) : Prop where
 bel : Below w0.heap.size w0 W
 hm : f.m = true → x3 = .map (some q.ML) ∧ w0.heap.size ≤ q.ML ∧ ∃ l, MapIs W q.ML .string l ∧ LsP f q l
 h1 : f.c1 = true → x5 = q.f1 ∧ Cl1 q.R q.r1 q.a1 q.A1 q.M1 W ∧ w0.heap.size ≤ q.M1 ∧ (f.m = true → q.ML ≠ q.M1)
 h2 : f.c2 = true → x11 = q.f2 ∧ Cl2 q.R 3 q.r2 q.a2 q.t2 q.A2 q.M2 W ∧ w0.heap.size ≤ q.M2 ∧ (f.m = true → q.ML ≠ q.M2) ∧ q.M1 ≠ q.M2
 h3 : f.c3 = true → x17 = q.f3 ∧ Cl2 q.R 4 q.r3 q.a3 q.t3 q.A3 q.M3 W ∧ w0.heap.size ≤ q.M3 ∧ (f.m = true → q.ML ≠ q.M3) ∧ q.M1 ≠ q.M3 ∧ q.M2 ≠ q.M3
 o1 : f.i1 = true → f.c1 = true ∧ f.m = true
 o2 : f.i2 = true → f.c2 = true ∧ f.m = true
 o3 : f.i3 = true → f.c3 = true ∧ f.m = true
 o4 : f.i4 = true → f.m = true
 o5 : f.i5 = true → f.m = true
 p2 : f.c2 = true → f.c1 = true
 p3 : f.c3 = true → f.c2 = true
section
variable {w0 W W' : World} {f : Fl} {q : Pl} {x3 x5 x11 x17 : Value}
theorem Cl1.next {R r1 a1 A1 M1 : Nat} (h : Cl1 R r1 a1 A1 M1 W) (hb : Below W.heap.size W W') : Cl1 R r1 a1 A1 M1 W' := ⟨(hb.block _ h.1.lt).trans h.1, (hb.block _ h.2.1.lt).trans h.2.1, h.2.2.next (hb.block _ h.2.2.lt) (hb.block _ h.2.2.2.lt)⟩
theorem Cl2.next {R i r a t A M : Nat} (h : Cl2 R i r a t A M W) (hb : Below W.heap.size W W') : Cl2 R i r a t A M W' := ⟨(hb.block _ h.1.lt).trans h.1, (hb.block _ h.2.1.lt).trans h.2.1, (hb.block _ h.2.2.1.lt).trans h.2.2.1, h.2.2.2.next (hb.block _ h.2.2.2.lt) (hb.block _ h.2.2.2.2.lt)⟩
theorem Cl1.put {R r1 a1 A1 M1 ML : Nat} {o : Obj} {kd : TypeDesc} {l : List (Value × Value)} (h : Cl1 R r1 a1 A1 M1 W) (hl : MapIs W ML kd l) (hne : ML ≠ M1) : Cl1 R r1 a1 A1 M1 (putObj W ML o) :=
 ⟨(putObj_else W o (h.1.nomap hl)).trans h.1, (putObj_else W o (h.2.1.nomap hl)).trans h.2.1, h.2.2.next (putObj_else W o (One.nomap h.2.2.1 hl)) (putObj_else W o hne.symm)⟩
theorem Cl2.put {R i r a t A M ML : Nat} {o : Obj} {kd : TypeDesc} {l : List (Value × Value)} (h : Cl2 R i r a t A M W) (hl : MapIs W ML kd l) (hne : ML ≠ M) : Cl2 R i r a t A M (putObj W ML o) :=
 ⟨(putObj_else W o (h.1.nomap hl)).trans h.1, (putObj_else W o (h.2.1.nomap hl)).trans h.2.1, (putObj_else W o (h.2.2.1.nomap hl)).trans h.2.2.1, h.2.2.2.next (putObj_else W o (One.nomap h.2.2.2.1 hl)) (putObj_else W o hne.symm)⟩
theorem LnI.next (h : LnI w0 f q x3 x5 x11 x17 W) (hb : Below W.heap.size W W') : LnI w0 f q x3 x5 x11 x17 W' :=
 ⟨h.bel.trans (hb.mono h.bel.size), fun e => by
  obtain ⟨e1, e2, l, hl, hp⟩ := h.hm e
  exact ⟨e1, e2, l, hl.at_ (hb.block _ hl.lt), hp⟩, fun e => by
  obtain ⟨e1, e2, e3⟩ := h.h1 e
  exact ⟨e1, e2.next hb, e3⟩, fun e => by
  obtain ⟨e1, e2, e3⟩ := h.h2 e
  exact ⟨e1, e2.next hb, e3⟩, fun e => by
  obtain ⟨e1, e2, e3⟩ := h.h3 e
  exact ⟨e1, e2.next hb, e3⟩, h.o1, h.o2, h.o3, h.o4, h.o5, h.p2, h.p3⟩
theorem LnI.put {o : Obj} {f' : Fl} (h : LnI w0 f q x3 x5 x11 x17 W) (hm : f.m = true) {l l' : List (Value × Value)} (hl : MapIs W q.ML .string l) (hl' : MapIs (putObj W q.ML o) q.ML .string l') (hp : LsP f' q l')
  (em : f'.m = f.m) (e1 : f'.c1 = f.c1) (e2 : f'.c2 = f.c2) (e3 : f'.c3 = f.c3) (o1 : f'.i1 = true → f.c1 = true) (o2 : f'.i2 = true → f.c2 = true) (o3 : f'.i3 = true → f.c3 = true) : LnI w0 f' q x3 x5 x11 x17 (putObj W q.ML o) := by
 obtain ⟨k1, k2, _⟩ := h.hm hm
 refine ⟨putObj_below h.bel k2 o, fun _ => ⟨k1, k2, l', hl', hp⟩, fun e => ?_, fun e => ?_, fun e => ?_, fun e => ⟨by rw [e1]; exact o1 e, by rw [em]; exact hm⟩, fun e => ⟨by rw [e2]; exact o2 e, by rw [em]; exact hm⟩, fun e => ⟨by rw [e3]; exact o3 e, by rw [em]; exact hm⟩, fun _ => by rw [em]; exact hm, fun _ => by rw [em]; exact hm, fun e => by rw [e1]; exact h.p2 (by rw [← e2]; exact e), fun e => by rw [e2]; exact h.p3 (by rw [← e3]; exact e)⟩
 ·obtain ⟨a1, a2, a3, a4⟩ := h.h1 (by rw [← e1]; exact e)
  exact ⟨a1, a2.put hl (a4 hm), a3, fun _ => a4 hm⟩
 ·obtain ⟨a1, a2, a3, a4, a5⟩ := h.h2 (by rw [← e2]; exact e)
  exact ⟨a1, a2.put hl (a4 hm), a3, fun _ => a4 hm, a5⟩
 ·obtain ⟨a1, a2, a3, a4, a5⟩ := h.h3 (by rw [← e3]; exact e)
  exact ⟨a1, a2.put hl (a4 hm), a3, fun _ => a4 hm, a5⟩
end
def lsAct (R : Nat) (x3 x5 x11 x17 : Value) : Act := { tmps := #[.pointer (some ⟨R, 0, none⟩), undef, .map none, x3, .pointer (some ⟨R, 0, none⟩), x5, .pointer (some ⟨R, 0, none⟩), .pointer (some ⟨R, 0, none⟩), .pointer (some ⟨R, 0, none⟩), .pointer (some ⟨R, 2, none⟩), .pointer (some ⟨R, 3, none⟩), x11, .pointer (some ⟨R, 0, none⟩), .pointer (some ⟨R, 0, none⟩), .pointer (some ⟨R, 0, none⟩), .pointer (some ⟨R, 2, none⟩), .pointer (some ⟨R, 4, none⟩), x17, .pointer (some ⟨R, 0, none⟩), .func (.func 78) #[.pointer (some ⟨R, 0, none⟩)] #[], .pointer (some ⟨R, 0, none⟩), .func (.func 79) #[.pointer (some ⟨R, 0, none⟩)] #[], undef], defers := [] }
def LsI (w0 : World) (R : Nat) (n : Nat) (listed : Array Bool) (a : Act) (W : World) : Prop := ∃ (f : Fl) (q : Pl) (x3 x5 x11 x17 : Value), q.R = R ∧ n = f.left ∧ listed = f.arr ∧ a = lsAct R x3 x5 x11 x17 ∧ LnI w0 f q x3 x5 x11 x17 W
end Go.Proofs.YthaibekbefndlaaGreatDoor.C
