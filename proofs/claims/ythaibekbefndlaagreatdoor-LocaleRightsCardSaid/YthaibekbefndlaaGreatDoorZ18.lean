/-
  Joined: LdK, LdL, MLyW. Each with what its own head says.
-/
import Derived.Test.YthaibekbefndlaaGreatDoorZ16
import Derived.Test.YthaibekbefndlaaGreatDoorZ17

namespace Go.Proofs.YthaibekbefndlaaGreatDoor.C
open Go.RowKit

def Xr (W : World) (R : Nat) (M : Option Nat) (t : TypeId) (j : Nat) : Prop := j = R ∨ M = some j ∨ ∃ c z, W.heap[j]? = some (.cells c t z)
def Xk (W : World) (R : Nat) (M : Option Nat) : Prop := (∃ c z, W.heap[R]? = some (.cells c 64 z)) ∧ ∀ m, M = some m → ∃ es q, W.heap[m]? = some (.map es q)
section
variable {W W' : World} {R : Nat} {M : Option Nat} {t : TypeId}
theorem xr_ty (hk : Xk W R M) {j : Nat} {c : Array Value} {t' : TypeId} {z : Nat × Nat} (hx : Xr W R M t j) (hj : W.heap[j]? = some (.cells c t' z)) : t' = 64 ∨ t' = t := by
 rcases hx with rfl | hm | ⟨c', z', h'⟩
 ·obtain ⟨c', z', h'⟩ := hk.1
  rw [hj] at h'
  simp at h'
  exact .inl h'.2.1
 ·obtain ⟨es, q, h'⟩ := hk.2 j hm
  rw [hj] at h'
  cases h'
 ·rw [hj] at h'
  simp at h'
  exact .inr h'.2.1
theorem xr_cells (hk : Xk W R M) {j : Nat} {c : Array Value} {t' : TypeId} {z : Nat × Nat} (hj : W.heap[j]? = some (.cells c t' z)) (h1 : t' ≠ 64) (h2 : t' ≠ t) : ¬ Xr W R M t j := fun hx => (xr_ty hk hx hj).elim h1 h2
theorem xr_map (hk : Xk W R M) {j : Nat} {es : Array MapEntry} {q : Nat} (hj : W.heap[j]? = some (.map es q)) (hM : M ≠ some j) : ¬ Xr W R M t j := by
 rintro (rfl | hm | ⟨c', z', h'⟩)
 ·obtain ⟨c', z', h'⟩ := hk.1
  rw [hj] at h'
  cases h'
 ·exact hM hm
 ·rw [hj] at h'
  cases h'
theorem One.xr {j : Nat} {t' : TypeId} {v : Value} (h : One W j t' v) (hf : Fr W W' (Xr W R M t)) (hk : Xk W R M) (h1 : t' ≠ 64) (h2 : t' ≠ t) : One W' j t' v := h.fr hf (xr_cells hk h h1 h2)
theorem MapIs.xr {j : Nat} {kd : TypeDesc} {l : List (Value × Value)} (h : MapIs W j kd l) (hf : Fr W W' (Xr W R M t)) (hk : Xk W R M) (hM : M ≠ some j) : MapIs W' j kd l := h.fr hf (by
 obtain ⟨es, q, h1, _⟩ := h
 exact xr_map hk h1 hM)
theorem FT.xr {A m : Nat} {t' : TypeId} {kd : TypeDesc} {ks : List Value} (h : FT W t' kd A m ks) (hf : Fr W W' (Xr W R M t)) (hk : Xk W R M) (h1 : t' ≠ 64) (h2 : t' ≠ t) (hM : M ≠ some m) : FT W' t' kd A m ks := h.fr hf (xr_cells hk h.1 h1 h2) (by
 obtain ⟨es, q, h1, _⟩ := h.2
 exact xr_map hk h1 hM)
theorem row_xr {base size n : Nat} {e : TypeId} {v : Value} {xs : List Value} (h : W.ownsRow base e size v n xs) (hf : Fr W W' (Xr W R M t)) (hk : Xk W R M) (h1 : e ≠ 64) (h2 : e ≠ t) : W'.ownsRow base e size v n xs := ownsRow_fr h hf (fun g hg => by
 obtain ⟨c, hc⟩ := ownsRow_ty h hg
 exact xr_cells hk hc h1 h2)
theorem ClsAt.xr {lo : Nat} {v : Value} {cs : List Cls} (h : ClsAt W lo v cs) (hf : Fr W W' (Xr W R M t)) (hk : Xk W R M) (h1 : t ≠ 47) (h2 : t ≠ 51) : ClsAt W' lo v cs := h.fr hf (fun g c z t' hx hg => by
 rcases xr_ty hk hx hg with e | e
 ·subst e; decide
 ·subst e; exact ⟨h1, h2⟩)
theorem OrdAt.xr {lo : Nat} {v : Value} {o : List Elm} (h : OrdAt W lo v o) (hf : Fr W W' (Xr W R M t)) (hk : Xk W R M) (h1 : t ≠ 35) (h2 : t ≠ 34) : OrdAt W' lo v o := h.fr hf (fun g c z t' hx hg => by
 rcases xr_ty hk hx hg with e | e
 ·subst e; decide
 ·subst e; exact ⟨h1, h2⟩)
theorem DeAt.xr {lo m : Nat} {d : List (List UInt8 × List Int)} (h : DeAt W lo m d) (hf : Fr W W' (Xr W R M t)) (hk : Xk W R M) (h1 : t ≠ 35) (hM : M ≠ some m) : DeAt W' lo m d := h.fr hf (by
 obtain ⟨l, es, q, h1, _⟩ := h.map
 exact xr_map hk h1 hM) (fun g c z t' hx hg => by
 rcases xr_ty hk hx hg with e | e
 ·subst e; decide
 ·subst e; exact h1)
end

structure Pl where
 B : Nat
 lo : Nat
 R : Nat
 Md : Nat
 ML : Nat
 A1 : Nat
 M1 : Nat
 r1 : Nat
 a1 : Nat
 A2 : Nat
 M2 : Nat
 r2 : Nat
 a2 : Nat
 t2 : Nat
 A3 : Nat
 M3 : Nat
 r3 : Nat
 a3 : Nat
 t3 : Nat
def Pl.f1 (q : Pl) : Value := .func (.func 121) #[] #[.pointer (some ⟨q.r1, 0, none⟩), .pointer (some ⟨q.a1, 0, none⟩)]
def Pl.f2 (q : Pl) : Value := .func (.func 126) #[] #[.pointer (some ⟨q.r2, 0, none⟩), .pointer (some ⟨q.a2, 0, none⟩), .pointer (some ⟨q.t2, 0, none⟩)]
def Pl.f3 (q : Pl) : Value := .func (.func 126) #[] #[.pointer (some ⟨q.r3, 0, none⟩), .pointer (some ⟨q.a3, 0, none⟩), .pointer (some ⟨q.t3, 0, none⟩)]
def Pl.f4 (q : Pl) : Value := .func (.func 78) #[.pointer (some ⟨q.R, 0, none⟩)] #[]
def Pl.f5 (q : Pl) : Value := .func (.func 79) #[.pointer (some ⟨q.R, 0, none⟩)] #[]
def LsIs (q : Pl) (l : List (Value × Value)) : Prop := ∀ k v, (k, v) ∈ l ↔ (k = .string (str wClass) ∧ v = q.f1) ∨ (k = .string (str wUpper) ∧ v = q.f2) ∨ (k = .string (str wLower) ∧ v = q.f3) ∨ (k = .string (str wElem) ∧ v = q.f4) ∨ (k = .string (str wOrder) ∧ v = q.f5)
structure PlOk (q : Pl) : Prop where
 lo : q.R < q.lo
 m1 : q.R < q.M1
 m2 : q.R < q.M2
 m3 : q.R < q.M3
 d1 : q.Md ≠ q.M1
 d2 : q.Md ≠ q.M2
 d3 : q.Md ≠ q.M3
 l0 : q.ML ≠ q.Md
 l1 : q.ML ≠ q.M1
 l2 : q.ML ≠ q.M2
 l3 : q.ML ≠ q.M3
 e1 : q.M1 ≠ q.M2
 e2 : q.M1 ≠ q.M3
 e3 : q.M2 ≠ q.M3
 b0 : q.B ≤ q.R
 b1 : q.B ≤ q.Md
structure RdS (T : TV) (q : Pl) (s : Sta) (k : Nat) (v1 v2 v3 v4 : Value) (W : World) : Prop where
 cu : CU W q.R T k v1 v2 v3 v4 (.map (some q.Md))
 cls : ClsAt W q.lo v1 s.l.cls
 up : W.ownsRow q.lo 49 2 v2 s.l.up.length (prsC s.l.up)
 lw : W.ownsRow q.lo 49 2 v3 s.l.lo.length (prsC s.l.lo)
 ord : OrdAt W q.lo v4 s.l.ord
 de : DeAt W q.lo q.Md s.d
 ft1 : FT W 151 .string q.A1 q.M1 (namesV s.l.cls)
 ft2 : FT W 200 (.int .i64) q.A2 q.M2 (numsV s.l.up)
 ft3 : FT W 200 (.int .i64) q.A3 q.M3 (numsV s.l.lo)
 rb1 : One W q.r1 88 (.pointer (some ⟨q.R, 0, none⟩))
 ab1 : One W q.a1 110 (FnS q.A1)
 rb2 : One W q.r2 88 (.pointer (some ⟨q.R, 0, none⟩))
 ab2 : One W q.a2 166 (FnI q.A2)
 tb2 : One W q.t2 132 (.pointer (some ⟨q.R, 3, none⟩))
 rb3 : One W q.r3 88 (.pointer (some ⟨q.R, 0, none⟩))
 ab3 : One W q.a3 166 (FnI q.A3)
 tb3 : One W q.t3 132 (.pointer (some ⟨q.R, 4, none⟩))
 ml : ∃ l, MapIs W q.ML .string l ∧ LsIs q l
 sep : ∀ g, v2.ownBlock = some g → ¬ v3.ownBlock = some g
 n1 : s.l.cls.length ≤ k
 n2 : s.l.up.length ≤ k
 n3 : s.l.lo.length ≤ k
 n4 : s.l.ord.length ≤ 500
 low : q.lo ≤ W.heap.size
section
variable {T : TV} {q : Pl} {s : Sta} {k : Nat} {v1 v2 v3 v4 : Value} {W W' : World}
theorem RdS.xk (h : RdS T q s k v1 v2 v3 v4 W) : Xk W q.R none := ⟨⟨_, _, h.cu.1⟩, by rintro m ⟨⟩⟩
theorem RdS.xkm (h : RdS T q s k v1 v2 v3 v4 W) {m : Nat} {kd : TypeDesc} {l : List (Value × Value)} (hm : MapIs W m kd l) : Xk W q.R (some m) := ⟨⟨_, _, h.cu.1⟩, by
 rintro m' e
 injection e with e
 subst e
 obtain ⟨es, q, h1, _⟩ := hm
 exact ⟨es, q, h1⟩⟩
theorem RdS.go (h : RdS T q s k v1 v2 v3 v4 W) {k' : Nat} (hc : CU W' q.R T k' v1 v2 v3 v4 (.map (some q.Md))) (hm : Moved W W' q.R) (hkk : k ≤ k') : RdS T q s k' v1 v2 v3 v4 W' := by
 have hf : Fr W W' (Xr W q.R none 64) := (Fr.of_moved hm).mono fun _ _ e => .inl e
 have hk := h.xk
 obtain ⟨l, hl1, hl2⟩ := h.ml
 have hs := hm.size
 have hlow := h.low
 exact ⟨hc, h.cls.xr hf hk (by decide) (by decide), row_xr h.up hf hk (by decide) (by decide), row_xr h.lw hf hk (by decide) (by decide), h.ord.xr hf hk (by decide) (by decide), h.de.xr hf hk (by decide) (by simp),
  h.ft1.xr hf hk (by decide) (by decide) (by simp), h.ft2.xr hf hk (by decide) (by decide) (by simp), h.ft3.xr hf hk (by decide) (by decide) (by simp),
  h.rb1.xr hf hk (by decide) (by decide), h.ab1.xr hf hk (by decide) (by decide), h.rb2.xr hf hk (by decide) (by decide), h.ab2.xr hf hk (by decide) (by decide), h.tb2.xr hf hk (by decide) (by decide), h.rb3.xr hf hk (by decide) (by decide), h.ab3.xr hf hk (by decide) (by decide), h.tb3.xr hf hk (by decide) (by decide),
  ⟨l, hl1.xr hf hk (by simp), hl2⟩, h.sep, by have := h.n1; omega, by have := h.n2; omega, by have := h.n3; omega, h.n4, by omega⟩
theorem RdS.below (h : RdS T q s k v1 v2 v3 v4 W) (hb : Below W.heap.size W W') : RdS T q s k v1 v2 v3 v4 W' := h.go (h.cu.next hb) (.of_below hb) (Nat.le_refl _)
end
def LnTold (T : TV) (q : Pl) (w : World) : Re Sta → Ending → World → Prop
 | .ok (s, r), e, w' => ∃ k v1 v2 v3 v4, e = .returned (.tuple #[]) ∧ RdS T q s k v1 v2 v3 v4 w' ∧ T.ts.drop k = r ∧ Fr w w' (fun j => q.B ≤ j)
 | .error er, e, w' => e = .panicked (faultV er.1 er.2) ∧ Fr w w' (fun j => q.B ≤ j)
section
variable {T : TV} {q : Pl} {s : Sta} {k : Nat} {v1 v2 v3 v4 : Value} {W : World}
theorem line1_any (h : RdS T q s k v1 v2 v3 v4 W) (hq : PlOk q) (hN : NumOk T) (hE : Ended (T.ts.drop k)) :
  Calls Tryz.prog 121 #[.pointer (some ⟨q.r1, 0, none⟩), .pointer (some ⟨q.a1, 0, none⟩)] W (LnTold T q W (classL s (T.ts.drop k))) := by
 have hk1 : k ≤ 1001 := by have := h.cu.2.2; omega
 refine (classes1_any W q.lo q.R T k v1 v2 v3 v4 (.map (some q.Md)) q.r1 q.a1 q.A1 q.M1 s.l.cls h.cu hN hE h.cls h.ft1 h.rb1 h.ab1 (by have := h.n1; omega) hq.lo h.low hq.m1).mono ?_
 intro e w' he
 obtain ⟨vs, hvs, hrow, hrr⟩ := h.cls
 have hb : ∀ {w' : World}, Fr W w' (fun j => j = q.R ∨ j = q.M1 ∨ v1.ownBlock = some j) → Fr W w' (fun j => q.B ≤ j) := fun hf => hf.mono fun j _ hj => by
  have b0 := hq.b0
  have m1 := hq.m1
  rcases hj with rfl | rfl | hj
  ·exact b0
  ·omega
  ·have := (hrow.lt j hj).1
   have := hq.lo
   omega
 rw [classL_cls]
 cases hx : clsL s.l.cls (T.ts.drop k) with
 | error er =>
  rw [hx] at he
  exact ⟨he.1, hb he.2⟩
 | ok y =>
  obtain ⟨cs, r⟩ := y
  rw [hx] at he
  obtain ⟨k', u1, rfl, hc, hr, hcl, hft, hfr⟩ := he
  have hleft := clsL_left hE hx
  have hkk : k < k' := drop_more (T := T) (by rw [hr]; exact hleft.1.2.1)
  have hf : Fr W w' (Xr W q.R (some q.M1) 47) := hfr.mono fun j _ hj => by
   rcases hj with rfl | rfl | hj
   ·exact .inl rfl
   ·exact .inr (.inl rfl)
   ·obtain ⟨c, hc⟩ := ownsRow_ty hrow hj
    exact .inr (.inr ⟨c, _, hc⟩)
  have hk := h.xkm h.ft1.2
  obtain ⟨l, hl1, hl2⟩ := h.ml
  have hs := hfr.size
  have hlow := h.low
  have hn4 := h.n4
  refine ⟨k', u1, v2, v3, v4, rfl, ⟨hc, hcl, row_xr h.up hf hk (by decide) (by decide), row_xr h.lw hf hk (by decide) (by decide), h.ord.xr hf hk (by decide) (by decide), h.de.xr hf hk (by decide) (by simpa using hq.d1.symm),
   hft, h.ft2.xr hf hk (by decide) (by decide) (by simpa using hq.e1), h.ft3.xr hf hk (by decide) (by decide) (by simpa using hq.e2),
   h.rb1.xr hf hk (by decide) (by decide), h.ab1.xr hf hk (by decide) (by decide), h.rb2.xr hf hk (by decide) (by decide), h.ab2.xr hf hk (by decide) (by decide), h.tb2.xr hf hk (by decide) (by decide), h.rb3.xr hf hk (by decide) (by decide), h.ab3.xr hf hk (by decide) (by decide), h.tb3.xr hf hk (by decide) (by decide),
   ⟨l, hl1.xr hf hk (by simpa using hq.l1.symm), hl2⟩, h.sep, ?_, ?_, ?_, hn4, by omega⟩, hr, hb hfr⟩
  ·have := hleft.2
   have := h.n1
   show cs.length ≤ k'
   omega
  ·have := h.n2
   show s.l.up.length ≤ k'
   omega
  ·have := h.n3
   show s.l.lo.length ≤ k'
   omega
end
end Go.Proofs.YthaibekbefndlaaGreatDoor.C

namespace Go.Proofs.YthaibekbefndlaaGreatDoor.C
open Go.RowKit

def Cl1 (R r1 a1 A1 M1 : Nat) (W : World) : Prop := One W r1 88 (.pointer (some ⟨R, 0, none⟩)) ∧ One W a1 110 (FnS A1) ∧ FT W 151 .string A1 M1 []
def Cl2 (R i r a t A M : Nat) (W : World) : Prop := One W r 88 (.pointer (some ⟨R, 0, none⟩)) ∧ One W a 166 (FnI A) ∧ One W t 132 (.pointer (some ⟨R, i, none⟩)) ∧ FT W 200 (.int .i64) A M []
set_option maxRecDepth 100000 in
set_option maxHeartbeats 1000000 in
theorem classes_any (w : World) (R : Nat) : Calls Tryz.prog 76 #[.pointer (some ⟨R, 0, none⟩)] w fun e w' => ∃ r1 a1 A1 M1, e = .returned (.func (.func 121) #[] #[.pointer (some ⟨r1, 0, none⟩), .pointer (some ⟨a1, 0, none⟩)]) ∧ Cl1 R r1 a1 A1 M1 w' ∧ w.heap.size ≤ M1 ∧ Below w.heap.size w w' := by
 have hmf : ∀ (fn : Fn) (first cap : Array Value) (w : World), (Instr.makeFunc fn first cap).run Tryz.prog w = .ok (.func fn first cap) w := fun _ _ _ _ => rfl
 have hst := @run_store_func Tryz.prog
 have hf := firstS_any (w.alloc (.cells #[.pointer (some ⟨R, 0, none⟩)] 88))
 go_enter Tryz.func76, Tryz.ntmps76
 go_wp2_with fail
 refine hf.mono ?_
 rintro e w1 ⟨rfl, hft, hb, hs⟩
 rw [World.size_alloc] at hft hb hs
 have hr : One w1 w.heap.size 88 (.pointer (some ⟨R, 0, none⟩)) := (hb.block _ (Nat.lt_succ_self _)).trans (heap_alloc_new w _)
 have HE : Hid (Cl1 R w.heap.size w1.heap.size (w.heap.size + 1 + 1) (w.heap.size + 1) (w1.alloc (.cells #[FnS (w.heap.size + 1 + 1)] 110)) ∧ Below w.heap.size w (w1.alloc (.cells #[FnS (w.heap.size + 1 + 1)] 110))) := Lib.hid ⟨⟨hr.alloc _, heap_alloc_new w1 _, hft.next (heap_lt _ _ (by omega)) (heap_lt _ _ (by omega))⟩, (((Below.refl _ w).alloc (Nat.le_refl _) _).trans (hb.mono (by omega))).alloc (by omega) _⟩
 unfold FnS at HE
 clear hft hb hr hf hs
 go_wp2
 go_ret
 exact ⟨_, _, _, _, rfl, HE.out.1, by omega, HE.out.2⟩
set_option maxRecDepth 100000 in
set_option maxHeartbeats 1000000 in
theorem pairs_any (w : World) (R i : Nat) : Calls Tryz.prog 77 #[.pointer (some ⟨R, 0, none⟩), .pointer (some ⟨R, i, none⟩)] w fun e w' => ∃ r a t A M, e = .returned (.func (.func 126) #[] #[.pointer (some ⟨r, 0, none⟩), .pointer (some ⟨a, 0, none⟩), .pointer (some ⟨t, 0, none⟩)]) ∧ Cl2 R i r a t A M w' ∧ w.heap.size ≤ M ∧ Below w.heap.size w w' := by
 have hmf : ∀ (fn : Fn) (first cap : Array Value) (w : World), (Instr.makeFunc fn first cap).run Tryz.prog w = .ok (.func fn first cap) w := fun _ _ _ _ => rfl
 have hst := @run_store_func Tryz.prog
 have hf := firstI_any ((w.alloc (.cells #[.pointer (some ⟨R, 0, none⟩)] 88)).alloc (.cells #[.pointer (some ⟨R, i, none⟩)] 132))
 go_enter Tryz.func77, Tryz.ntmps77
 go_wp2_with fail
 refine hf.mono ?_
 rintro e w1 ⟨rfl, hft, hb, hs⟩
 rw [World.size_alloc, World.size_alloc] at hft hb hs
 have hr : One w1 w.heap.size 88 (.pointer (some ⟨R, 0, none⟩)) := (hb.block _ (by omega)).trans ((heap_lt _ _ (by simp)).trans (heap_alloc_new w _))
 have ht : One w1 (w.heap.size + 1) 132 (.pointer (some ⟨R, i, none⟩)) := (hb.block _ (by omega)).trans (by
  have := heap_alloc_new (w.alloc (.cells #[.pointer (some ⟨R, 0, none⟩)] 88)) (.cells #[.pointer (some ⟨R, i, none⟩)] 132)
  rw [World.size_alloc] at this
  exact this)
 have HE : Hid (Cl2 R i w.heap.size w1.heap.size (w.heap.size + 1) (w.heap.size + 1 + 1 + 1) (w.heap.size + 1 + 1) (w1.alloc (.cells #[FnI (w.heap.size + 1 + 1 + 1)] 166)) ∧ Below w.heap.size w (w1.alloc (.cells #[FnI (w.heap.size + 1 + 1 + 1)] 166))) := Lib.hid ⟨⟨hr.alloc _, heap_alloc_new w1 _, ht.alloc _, hft.next (heap_lt _ _ (by omega)) (heap_lt _ _ (by omega))⟩, ((((Below.refl _ w).alloc (Nat.le_refl _) _).alloc (by simp) _).trans (hb.mono (by omega))).alloc (by omega) _⟩
 unfold FnI at HE
 clear hft hb hr ht hf hs
 go_wp2
 go_ret
 exact ⟨_, _, _, _, _, rfl, HE.out.1, by omega, HE.out.2⟩

section
variable {P : Program} {ops : Array Oper} {Q : Exit → Act → World → Prop} {md : Region.Mode} {S : World → Prop}
theorem wpOp_of {K : Act → World → Prop} {i : Nat} {o : Oper} {a : Act} {w : World} (ho : ops[i]? = some o) (h : if Region.wanted o (yielded ops a.tmps) = true then Oper.wp P o a w K Q else K (a.put o.dst undef) w) : wpOp P ops Q i K a w := by
 unfold wpOp
 simp only [ho]
 split
 ·rename_i hw
  rw [if_pos hw] at h
  exact .inl h
 ·rename_i hw
  rw [if_neg hw] at h
  exact h
theorem wpAnyH_inv (I : Nat → Array Bool → Act → World → Prop)
  (step : ∀ n listed a w, I (n + 1) listed a w → Region.ready md ops listed ≠ [] ∧ ∀ i ∈ Region.ready md ops listed, wpOp P ops Q i (fun a' w' => I n (listed.setIfInBounds i true) a' w') a w)
  (fin : ∀ fuel listed a w, I 0 listed a w → wpAnyH P md ops Q (fun _ => True) (fuel + 2) listed a w) :
  ∀ n fuel listed a w, I n listed a w → wpAnyH P md ops Q (fun _ => True) (n + fuel + 2) listed a w
 | 0, fuel, listed, a, w, h => by
  rw [Nat.zero_add]
  exact fin fuel listed a w h
 | n + 1, fuel, listed, a, w, h => by
  obtain ⟨h1, h2⟩ := step n listed a w h
  rw [show n + 1 + fuel + 2 = (n + fuel + 2) + 1 by omega]
  exact ⟨fun h0 => absurd h0 h1, fun i hi => wpOp_mono (fun a' w' h' => ⟨trivial, wpAnyH_inv I step fin n fuel _ a' w' h'⟩) (h2 i hi)⟩
end
structure Fl where
 m : Bool
 c1 : Bool
 c2 : Bool
 c3 : Bool
 i1 : Bool
 i2 : Bool
 i3 : Bool
 i4 : Bool
 i5 : Bool
def Fl.left (f : Fl) : Nat := (!f.m).toNat + (!f.c1).toNat + (!f.c2).toNat + (!f.c3).toNat + (!f.i1).toNat + (!f.i2).toNat + (!f.i3).toNat + (!f.i4).toNat + (!f.i5).toNat
def Fl.arr (f : Fl) : Array Bool := #[f.m, true, f.c1, f.i1, true, true, true, true, true, f.c2, f.i2, true, true, true, true, true, f.c3, f.i3, true, true, f.i4, true, true, f.i5, false, false]
def Fl.ok (f : Fl) : Nat → Bool
 | 0 => !f.m
 | 2 => !f.c1
 | 3 => f.m && f.c1 && !f.i1
 | 9 => f.c1 && !f.c2
 | 10 => f.m && f.c2 && !f.i2
 | 16 => f.c2 && !f.c3
 | 17 => f.m && f.c3 && !f.i3
 | 20 => f.m && !f.i4
 | 23 => f.m && !f.i5
 | 24 => f.left == 0
 | 25 => f.left == 0
 | _ => false
theorem ls_ready0 : ∀ m c1 c2 c3 i1 i2 i3 i4 i5 : Bool, (Region.ready .any (match Tryz.f36.body with | some (.seq _ (.seq (.region _ ops _) _)) => ops | _ => #[]) (Fl.arr ⟨m, c1, c2, c3, i1, i2, i3, i4, i5⟩)).all (Fl.ok ⟨m, c1, c2, c3, i1, i2, i3, i4, i5⟩) = true ∧ ((Fl.left ⟨m, c1, c2, c3, i1, i2, i3, i4, i5⟩ == 0) || !(Region.ready .any (match Tryz.f36.body with | some (.seq _ (.seq (.region _ ops _) _)) => ops | _ => #[]) (Fl.arr ⟨m, c1, c2, c3, i1, i2, i3, i4, i5⟩)).isEmpty) = true := by decide +kernel
theorem ls_ready (f : Fl) : (Region.ready .any (match Tryz.f36.body with | some (.seq _ (.seq (.region _ ops _) _)) => ops | _ => #[]) f.arr).all f.ok = true ∧ ((f.left == 0) || !(Region.ready .any (match Tryz.f36.body with | some (.seq _ (.seq (.region _ ops _) _)) => ops | _ => #[]) f.arr).isEmpty) = true := ls_ready0 f.m f.c1 f.c2 f.c3 f.i1 f.i2 f.i3 f.i4 f.i5
def LsP (f : Fl) (q : Pl) (l : List (Value × Value)) : Prop := ∀ k v, (k, v) ∈ l ↔ (f.i1 = true ∧ k = .string (str wClass) ∧ v = q.f1) ∨ (f.i2 = true ∧ k = .string (str wUpper) ∧ v = q.f2) ∨ (f.i3 = true ∧ k = .string (str wLower) ∧ v = q.f3) ∨ (f.i4 = true ∧ k = .string (str wElem) ∧ v = q.f4) ∨ (f.i5 = true ∧ k = .string (str wOrder) ∧ v = q.f5)
structure LnI (w0 : World) (f : Fl) (q : Pl) (x3 x5 x11 x17 : Value) (W : World) : Prop where
 bel : Below w0.heap.size w0 W
 hm : f.m = true → x3 = .map (some q.ML) ∧ w0.heap.size ≤ q.ML ∧ ∃ l, MapIs W q.ML .string l ∧ LsP f q l
 h1 : f.c1 = true → x5 = q.f1 ∧ Cl1 q.R q.r1 q.a1 q.A1 q.M1 W ∧ w0.heap.size ≤ q.M1 ∧ (f.m = true → q.ML ≠ q.M1)
 h2 : f.c2 = true → x11 = q.f2 ∧ Cl2 q.R 3 q.r2 q.a2 q.t2 q.A2 q.M2 W ∧ w0.heap.size ≤ q.M2 ∧ (f.m = true → q.ML ≠ q.M2) ∧ q.M1 ≠ q.M2
 h3 : f.c3 = true → x17 = q.f3 ∧ Cl2 q.R 4 q.r3 q.a3 q.t3 q.A3 q.M3 W ∧ w0.heap.size ≤ q.M3 ∧ (f.m = true → q.ML ≠ q.M3) ∧ q.M1 ≠ q.M3 ∧ q.M2 ≠ q.M3
 o1 : f.i1 = true → f.c1 = true ∧ f.m = true
 o2 : f.i2 = true → f.c2 = true ∧ f.m = true
 o3 : f.i3 = true → f.c3 = true ∧ f.m = true
 o4 : f.i4 = true → f.m = true
 o5 : f.i5 = true → f.m = true
 p2 : f.c2 = true → f.c1 = true
 p3 : f.c3 = true → f.c2 = true
section
variable {w0 W W' : World} {f : Fl} {q : Pl} {x3 x5 x11 x17 : Value}
theorem Cl1.next {R r1 a1 A1 M1 : Nat} (h : Cl1 R r1 a1 A1 M1 W) (hb : Below W.heap.size W W') : Cl1 R r1 a1 A1 M1 W' := ⟨(hb.block _ h.1.lt).trans h.1, (hb.block _ h.2.1.lt).trans h.2.1, h.2.2.next (hb.block _ h.2.2.lt) (hb.block _ h.2.2.2.lt)⟩
theorem Cl2.next {R i r a t A M : Nat} (h : Cl2 R i r a t A M W) (hb : Below W.heap.size W W') : Cl2 R i r a t A M W' := ⟨(hb.block _ h.1.lt).trans h.1, (hb.block _ h.2.1.lt).trans h.2.1, (hb.block _ h.2.2.1.lt).trans h.2.2.1, h.2.2.2.next (hb.block _ h.2.2.2.lt) (hb.block _ h.2.2.2.2.lt)⟩
theorem Cl1.put {R r1 a1 A1 M1 ML : Nat} {o : Obj} {kd : TypeDesc} {l : List (Value × Value)} (h : Cl1 R r1 a1 A1 M1 W) (hl : MapIs W ML kd l) (hne : ML ≠ M1) : Cl1 R r1 a1 A1 M1 (putObj W ML o) :=
 ⟨(putObj_else W o (h.1.nomap hl)).trans h.1, (putObj_else W o (h.2.1.nomap hl)).trans h.2.1, h.2.2.next (putObj_else W o (One.nomap h.2.2.1 hl)) (putObj_else W o hne.symm)⟩
theorem Cl2.put {R i r a t A M ML : Nat} {o : Obj} {kd : TypeDesc} {l : List (Value × Value)} (h : Cl2 R i r a t A M W) (hl : MapIs W ML kd l) (hne : ML ≠ M) : Cl2 R i r a t A M (putObj W ML o) :=
 ⟨(putObj_else W o (h.1.nomap hl)).trans h.1, (putObj_else W o (h.2.1.nomap hl)).trans h.2.1, (putObj_else W o (h.2.2.1.nomap hl)).trans h.2.2.1, h.2.2.2.next (putObj_else W o (One.nomap h.2.2.2.1 hl)) (putObj_else W o hne.symm)⟩
theorem LnI.next (h : LnI w0 f q x3 x5 x11 x17 W) (hb : Below W.heap.size W W') : LnI w0 f q x3 x5 x11 x17 W' :=
 ⟨h.bel.trans (hb.mono h.bel.size), fun e => by
  obtain ⟨e1, e2, l, hl, hp⟩ := h.hm e
  exact ⟨e1, e2, l, hl.at_ (hb.block _ hl.lt), hp⟩, fun e => by
  obtain ⟨e1, e2, e3⟩ := h.h1 e
  exact ⟨e1, e2.next hb, e3⟩, fun e => by
  obtain ⟨e1, e2, e3⟩ := h.h2 e
  exact ⟨e1, e2.next hb, e3⟩, fun e => by
  obtain ⟨e1, e2, e3⟩ := h.h3 e
  exact ⟨e1, e2.next hb, e3⟩, h.o1, h.o2, h.o3, h.o4, h.o5, h.p2, h.p3⟩
theorem LnI.put {o : Obj} {f' : Fl} (h : LnI w0 f q x3 x5 x11 x17 W) (hm : f.m = true) {l l' : List (Value × Value)} (hl : MapIs W q.ML .string l) (hl' : MapIs (putObj W q.ML o) q.ML .string l') (hp : LsP f' q l')
  (em : f'.m = f.m) (e1 : f'.c1 = f.c1) (e2 : f'.c2 = f.c2) (e3 : f'.c3 = f.c3) (o1 : f'.i1 = true → f.c1 = true) (o2 : f'.i2 = true → f.c2 = true) (o3 : f'.i3 = true → f.c3 = true) : LnI w0 f' q x3 x5 x11 x17 (putObj W q.ML o) := by
 obtain ⟨k1, k2, _⟩ := h.hm hm
 refine ⟨putObj_below h.bel k2 o, fun _ => ⟨k1, k2, l', hl', hp⟩, fun e => ?_, fun e => ?_, fun e => ?_, fun e => ⟨by rw [e1]; exact o1 e, by rw [em]; exact hm⟩, fun e => ⟨by rw [e2]; exact o2 e, by rw [em]; exact hm⟩, fun e => ⟨by rw [e3]; exact o3 e, by rw [em]; exact hm⟩, fun _ => by rw [em]; exact hm, fun _ => by rw [em]; exact hm, fun e => by rw [e1]; exact h.p2 (by rw [← e2]; exact e), fun e => by rw [e2]; exact h.p3 (by rw [← e3]; exact e)⟩
 ·obtain ⟨a1, a2, a3, a4⟩ := h.h1 (by rw [← e1]; exact e)
  exact ⟨a1, a2.put hl (a4 hm), a3, fun _ => a4 hm⟩
 ·obtain ⟨a1, a2, a3, a4, a5⟩ := h.h2 (by rw [← e2]; exact e)
  exact ⟨a1, a2.put hl (a4 hm), a3, fun _ => a4 hm, a5⟩
 ·obtain ⟨a1, a2, a3, a4, a5⟩ := h.h3 (by rw [← e3]; exact e)
  exact ⟨a1, a2.put hl (a4 hm), a3, fun _ => a4 hm, a5⟩
end
def lsAct (R : Nat) (x3 x5 x11 x17 : Value) : Act := { tmps := #[.pointer (some ⟨R, 0, none⟩), undef, .map none, x3, .pointer (some ⟨R, 0, none⟩), x5, .pointer (some ⟨R, 0, none⟩), .pointer (some ⟨R, 0, none⟩), .pointer (some ⟨R, 0, none⟩), .pointer (some ⟨R, 2, none⟩), .pointer (some ⟨R, 3, none⟩), x11, .pointer (some ⟨R, 0, none⟩), .pointer (some ⟨R, 0, none⟩), .pointer (some ⟨R, 0, none⟩), .pointer (some ⟨R, 2, none⟩), .pointer (some ⟨R, 4, none⟩), x17, .pointer (some ⟨R, 0, none⟩), .func (.func 78) #[.pointer (some ⟨R, 0, none⟩)] #[], .pointer (some ⟨R, 0, none⟩), .func (.func 79) #[.pointer (some ⟨R, 0, none⟩)] #[], undef], defers := [] }
def LsI (w0 : World) (R : Nat) (n : Nat) (listed : Array Bool) (a : Act) (W : World) : Prop := ∃ (f : Fl) (q : Pl) (x3 x5 x11 x17 : Value), q.R = R ∧ n = f.left ∧ listed = f.arr ∧ a = lsAct R x3 x5 x11 x17 ∧ LnI w0 f q x3 x5 x11 x17 W
end Go.Proofs.YthaibekbefndlaaGreatDoor.C

namespace Go.Proofs.YthaibekbefndlaaGreatDoor.C
open Go.RowKit

theorem ti_of {w : World} {base n c : Nat} {A : Option Addr} {ts : List Tok} (h : w.ownsRow base 92 4 (.slice A n c) n (tksC ts)) (hl : ts.length = n) : TI w w.heap.size A n ts := by
 obtain ⟨A', c', hv, _, _, hti⟩ := TI.of_own h hl
 injection hv with h1 h2 h3
 subst h1
 exact hti
theorem lex_in {l : List UInt8} {ts : List Tok} (h4 : l.length ≤ 4000) (h : runL l 0 [] = .inl ts) : lexL l = if 1000 < ts.length then ([], 3, 0) else (ts, 0, 0) := by
 unfold lexL
 rw [if_neg (by omega), h]
theorem lex_out {l : List UInt8} {a : Nat} (h4 : l.length ≤ 4000) (h : runL l 0 [] = .inr a) : lexL l = ([], 20, a) := by
 unfold lexL
 rw [if_neg (by omega), h]

set_option maxRecDepth 100000 in
set_option maxHeartbeats 16000000 in
theorem tokens_ref0 (s : ByteArray) (w : World) (hs : s.size ≤ 4000) : Calls Tryz.prog 48 #[.string s] w (RefTold w (lexL s.data.toList)) := by
 obtain ⟨i0, hi, hz0, hz1, hz2⟩ := info_parts infoTok
 have HLI := Lib.hid (fun ts => lex_in (l := s.data.toList) (ts := ts) (by rw [size_list]; omega))
 have HLO := Lib.hid (fun a => lex_out (l := s.data.toList) (a := a) (by rw [size_list]; omega))
 have h4 : ¬ (4000 : Int) < (s.size : Int) := by omega
 go_enter Tryz.func48, Tryz.ntmps48
 go_wp2
 go_loopw [5, 6] (fun vv kv wr => ∃ (k n : Nat) (ts : List Tok) (A : Option Addr) (c : Nat), k ≤ s.size ∧ n ≤ k ∧ vv = .slice A n c ∧ kv = .int .i64 k ∧ Hid (ts.length = n) ∧ Hid (wr.ownsRow w.heap.size 92 4 (.slice A n c) n (tksC ts)) ∧ Hid (runL s.data.toList 0 [] = runL (s.data.toList.drop k) k ts) ∧ Below w.heap.size w wr) (fun _ kv _ => s.size - (intOf kv).toNat)
 case atStart => exact ⟨0, 0, [], none, 0, Nat.zero_le _, Nat.le_refl _, rfl, rfl, Lib.hid rfl, Lib.hid (World.ownsRow_nil _ _ _ _), Lib.hid rfl, Below.refl _ _⟩
 case round =>
  obtain ⟨k, n, ts, A, c, hk, hnk, rfl, rfl, HN, HO, HR, hbr⟩ := hrel
  have hsz := hbr.size
  by_cases hlt : k < s.size
  ·have he : (s.extract k s.size).data.toList = s.data.toList.drop k := by rw [extract_list, ← size_list, List.take_length]
   have hes : (s.extract k s.size).size = s.size - k := by rw [← size_list, he, List.length_drop, size_list]
   have hbl := fun W => blank_ref (s.extract k s.size) W (by omega) (by omega)
   have hon := fun W h => one_ref_none (s.extract k s.size) W (by omega) (by omega) h
   have hos := fun W kd n m t h => one_ref_some (s.extract k s.size) W (by omega) (by omega) (k := kd) (n := n) (m := m) (t := t) h
   rw [he] at hbl hon hos
   have hne : s.data.toList.drop k ≠ [] := by
    intro e
    have := congrArg List.length e
    rw [List.length_drop, size_list] at this
    simp at this
    omega
   have hhd : (s.data.toList.drop k).head? = some (s[k]'hlt) := by rw [drop_ba hlt]; rfl
   have hdl : (s.data.toList.drop k).length = s.size - k := by rw [List.length_drop, size_list]
   have hdd : ∀ m, (s.data.toList.drop k).drop m = s.data.toList.drop (k + m) := fun m => by rw [List.drop_drop]
   have hkk : ∀ W, (Instr.index 9 (.string s) (.int .i64 (k : Nat))).run Tryz.prog W = .ok (.int .u8 (s[k]'hlt).toNat) W := fun W => index_run s k k _ rfl (by rw [Array.getElem?_toList]; exact Array.getElem?_eq_getElem hlt) W
   have hr := HR.out
   generalize s.data.toList.drop k = l at *
   generalize s[k]'hlt = b at *
   have hdv : ∀ (m : Nat) (ts' : List Tok), stepL l k ts = some (ts', m) → Hid (runL s.data.toList 0 [] = runL (s.data.toList.drop (k + m)) (k + m) ts') ∧ 1 ≤ m ∧ k + m ≤ s.size := fun m ts' h => by
    have h1 := stepL_len hne h
    refine ⟨Lib.hid ?_, h1.1, by omega⟩
    rw [hr, runL_some hne h h1.1, hdd]
   have HDV := Lib.hid hdv
   have HNO : Hid (stepL l k ts = none → lexL s.data.toList = ([], 20, k)) := Lib.hid (fun h => HLO.out k (by rw [hr, runL_none hne h]))
   have k0 : (0 : Int) ≤ (k : Int) := by omega
   have k1 : (k : Int) < (s.size : Int) := by omega
   have k2 : (k : Int) ≤ (s.size : Int) := by omega
   clear hdv hr he hes hdd hdl hne HR
   by_cases hb0 : blankL l = 0
   ·have hbl0 : ∀ W, Calls Tryz.prog 96 #[.string (s.extract k s.size)] W fun e w' => e = .returned (.int .i64 0) ∧ w' = W := fun W => (hbl W).mono fun e w' ⟨h1, h2⟩ => ⟨by rw [h1, hb0]; rfl, h2⟩
    clear hbl
    by_cases hb10 : b.toNat = 10
    ·have hl10 : l.head? = some 10 := by rw [hhd, ba_eq hb10]; rfl
     obtain ⟨HD, _, _⟩ := HDV.out _ _ (step_line hb0 hl10)
     have e1 : ((b.toNat : Int) == 10) = true := by simp; omega
     clear hon hos hhd hl10 hb0 hb10 HDV HNO
     rcases snoc_or ts with rfl | ⟨r, x, rfl⟩
     ·obtain rfl : n = 0 := HN.out.symm
      go_wp2_with (go_at_call 96; refine (hbl0 _).mono ?_; rintro e w' ⟨rfl, rfl⟩)
      go_roundw
      case rel => exact ⟨k + 1, 0, [], A, c, by omega, by omega, rfl, by go_num, Lib.hid rfl, HO, HD, hbr⟩
      case measure => simp [intOf]; omega
     ·obtain ⟨j, hj⟩ : ∃ j, r.length = j := ⟨_, rfl⟩
      obtain rfl : n = j + 1 := by rw [← HN.out, List.length_append, hj]; rfl
      obtain ⟨g, rfl, hc1, hc2⟩ := own_last HO.out hj
      have j0 : (0 : Int) ≤ (j : Int) := by omega
      have j1 : (j : Int) < (j : Int) + 1 := by omega
      have j2 : (0 : Int) < (j : Int) + 1 := by omega
      have j3 : ((j : Int) + 1 == 0) = false := by simp; omega
      clear hj
      by_cases h6 : x.k = 6
      ·have hl : endL (r ++ [x]) k = r ++ [x] := by unfold endL; rw [lastK_snoc, if_pos h6]
       rw [hl] at HD
       have q : ((x.k : Int) == 6) = true := by simp; omega
       clear hl h6
       go_wp2_with (go_at_call 96; refine (hbl0 _).mono ?_; rintro e w' ⟨rfl, rfl⟩)
       go_roundw
       case rel => exact ⟨k + 1, j + 1, r ++ [x], _, c, by omega, by omega, by go_num, by go_num, HN, HO, HD, hbr⟩
       case measure => simp [intOf]; omega
      ·have hl : endL (r ++ [x]) k = r ++ [x] ++ [⟨6, [], 0, k⟩] := by unfold endL; rw [lastK_snoc, if_neg h6]
       rw [hl] at HD
       have q : ((x.k : Int) == 6) = false := by simp; omega
       clear hl h6
       go_wp2_with (first | (go_at_call 96; refine (hbl0 _).mono ?_; rintro e w' ⟨rfl, rfl⟩) | (at_builtin; (refine wpList_append_own _ rfl _ _ 57 rfl w.heap.size 92 i0 (.agg #[.int .u8 0, .string ⟨#[]⟩, .int .i64 0, .int .i64 0]) 4 40 Tryz.underlying57 hi hz0 hz1 hz2 rfl (by decide) (.slice _ (j + 1) c) ((j + 1)) (tksC (r ++ [x])) rfl (HO.out.alloc _) ⟨_, 0, none⟩ 1 1 (tkC ⟨6, [], 0, k⟩) rfl rfl (tok_new _ ⟨6, [], 0, k⟩ _ _ rfl) (tok_one _) (by unfold maxLen; omega) (by omega) (by simp; omega) ?_); intro v' w3 hown' hgrow _; have hB3 : Below w.heap.size w w3 := ((hbr.alloc hsz _).grown hgrow (by simp; omega) (fun j e => (HO.out.lt j e).1)); obtain ⟨A', c', rfl, _, _⟩ := own_slice4 hown'; have hO3 : w3.ownsRow w.heap.size 92 4 (.slice A' ((j + 1) + 1) c') ((j + 1) + 1) (tksC ((r ++ [x]) ++ [⟨6, [], 0, k⟩])) := (by rw [tksC_snoc]; exact hown'); have HO3 := Lib.hid hO3; have HB3 := Lib.hid hB3; clear hown' hgrow hO3 hB3))
       go_roundw
       case rel => exact ⟨k + 1, j + 1 + 1, r ++ [x] ++ [⟨6, [], 0, k⟩], A', c', by omega, by omega, by go_num, by go_num, Lib.hid (by rw [List.length_append, HN.out]; rfl), HO3, HD, HB3.out⟩
       case measure => simp [intOf]; omega
    ·have hl10 : l.head? ≠ some 10 := by
      rw [hhd]
      intro e
      injection e with e
      exact hb10 (by rw [e]; rfl)
     have e1 : ((b.toNat : Int) == 10) = false := by simp; omega
     cases htok : tokL l with
     | none =>
      have HF := Lib.hid (HNO.out (step_none hb0 hl10 htok))
      have hon0 := fun W => hon W htok
      clear hon hos hhd hl10 hb0 hb10 HDV HNO htok
      rcases snoc_or ts with rfl | ⟨r, x, rfl⟩
      ·obtain rfl : n = 0 := HN.out.symm
       go_wp2_with (first | (go_at_call 96; refine (hbl0 _).mono ?_; rintro e w' ⟨rfl, rfl⟩) | (go_at_call 97; refine (hon0 _).mono ?_; rintro e w2 ⟨kd, tx, nn, rfl, hb2⟩))
       go_ret3
       rw [HF.out]
       exact ⟨none, 0, 0, rfl, by omega, TI.nil _ _ _, (hbr.trans (hb2.mono hsz)).alloc (hbr.trans (hb2.mono hsz)).size _⟩
      ·obtain ⟨j, hj⟩ : ∃ j, r.length = j := ⟨_, rfl⟩
       obtain rfl : n = j + 1 := by rw [← HN.out, List.length_append, hj]; rfl
       obtain ⟨g, rfl, hc1, hc2⟩ := own_last HO.out hj
       have j0 : (0 : Int) ≤ (j : Int) := by omega
       have j1 : (j : Int) < (j : Int) + 1 := by omega
       have j2 : (0 : Int) < (j : Int) + 1 := by omega
       have j3 : ((j : Int) + 1 == 0) = false := by simp; omega
       clear hj
       go_wp2_with (first | (go_at_call 96; refine (hbl0 _).mono ?_; rintro e w' ⟨rfl, rfl⟩) | (go_at_call 97; refine (hon0 _).mono ?_; rintro e w2 ⟨kd, tx, nn, rfl, hb2⟩))
       go_ret3
       rw [HF.out]
       exact ⟨none, 0, 0, rfl, by omega, TI.nil _ _ _, (hbr.trans (hb2.mono hsz)).alloc (hbr.trans (hb2.mono hsz)).size _⟩
     | some y =>
      obtain ⟨kd, t, nn, m⟩ := y
      obtain ⟨HD, hm1, hm2⟩ := HDV.out _ _ (step_some hb0 hl10 htok)
      have hos0 := fun W => hos W _ _ _ _ htok
      have m0 : ((m : Int) == 0) = false := by simp; omega
      clear hon hos hhd hl10 hb0 hb10 HDV HNO htok
      rcases snoc_or ts with rfl | ⟨r, x, rfl⟩
      ·obtain rfl : n = 0 := HN.out.symm
       go_wp2_with (first | (go_at_call 96; refine (hbl0 _).mono ?_; rintro e w' ⟨rfl, rfl⟩) | (go_at_call 97; refine (hos0 _).mono ?_; rintro e w2 ⟨rfl, hb2⟩) | (at_builtin; (refine wpList_append_own _ rfl _ _ 57 rfl w.heap.size 92 i0 (.agg #[.int .u8 0, .string ⟨#[]⟩, .int .i64 0, .int .i64 0]) 4 40 Tryz.underlying57 hi hz0 hz1 hz2 rfl (by decide) (.slice A 0 c) (0) (tksC []) rfl (((own_keep HO.out hb2).alloc _).alloc _) ⟨_, 0, none⟩ 1 1 (tkC ⟨kd, t, nn, k⟩) rfl rfl (tok_new _ ⟨kd, t, nn, k⟩ _ _ (by simp)) (tok_one _) (by unfold maxLen; omega) (by omega) (by simp; have := (hbr.trans (hb2.mono hsz)).size; omega) ?_); intro v' w3 hown' hgrow _; have hB3 : Below w.heap.size w w3 := ((((hbr.trans (hb2.mono hsz)).alloc (hbr.trans (hb2.mono hsz)).size _).alloc (by simp; have := (hbr.trans (hb2.mono hsz)).size; omega) _).grown hgrow (by simp; have := (hbr.trans (hb2.mono hsz)).size; omega) (fun j e => (HO.out.lt j e).1)); obtain ⟨A', c', rfl, _, _⟩ := own_slice4 hown'; have hO3 : w3.ownsRow w.heap.size 92 4 (.slice A' (0 + 1) c') (0 + 1) (tksC ([] ++ [⟨kd, t, nn, k⟩])) := (by rw [tksC_snoc]; exact hown'); have HO3 := Lib.hid hO3; have HB3 := Lib.hid hB3; clear hown' hgrow hO3 hB3))
       go_roundw
       case rel => exact ⟨k + m, 0 + 1, [] ++ [⟨kd, t, nn, k⟩], A', c', by omega, by omega, by go_num, by go_num, Lib.hid (by rw [List.length_append, HN.out]; rfl), HO3, HD, HB3.out⟩
       case measure => simp [intOf]; omega
      ·obtain ⟨j, hj⟩ : ∃ j, r.length = j := ⟨_, rfl⟩
       obtain rfl : n = j + 1 := by rw [← HN.out, List.length_append, hj]; rfl
       obtain ⟨g, rfl, hc1, hc2⟩ := own_last HO.out hj
       have j0 : (0 : Int) ≤ (j : Int) := by omega
       have j1 : (j : Int) < (j : Int) + 1 := by omega
       have j2 : (0 : Int) < (j : Int) + 1 := by omega
       have j3 : ((j : Int) + 1 == 0) = false := by simp; omega
       clear hj
       go_wp2_with (first | (go_at_call 96; refine (hbl0 _).mono ?_; rintro e w' ⟨rfl, rfl⟩) | (go_at_call 97; refine (hos0 _).mono ?_; rintro e w2 ⟨rfl, hb2⟩) | (at_builtin; (refine wpList_append_own _ rfl _ _ 57 rfl w.heap.size 92 i0 (.agg #[.int .u8 0, .string ⟨#[]⟩, .int .i64 0, .int .i64 0]) 4 40 Tryz.underlying57 hi hz0 hz1 hz2 rfl (by decide) (.slice _ (j + 1) c) ((j + 1)) (tksC (r ++ [x])) rfl (((own_keep HO.out hb2).alloc _).alloc _) ⟨_, 0, none⟩ 1 1 (tkC ⟨kd, t, nn, k⟩) rfl rfl (tok_new _ ⟨kd, t, nn, k⟩ _ _ (by simp)) (tok_one _) (by unfold maxLen; omega) (by omega) (by simp; have := (hbr.trans (hb2.mono hsz)).size; omega) ?_); intro v' w3 hown' hgrow _; have hB3 : Below w.heap.size w w3 := ((((hbr.trans (hb2.mono hsz)).alloc (hbr.trans (hb2.mono hsz)).size _).alloc (by simp; have := (hbr.trans (hb2.mono hsz)).size; omega) _).grown hgrow (by simp; have := (hbr.trans (hb2.mono hsz)).size; omega) (fun j e => (HO.out.lt j e).1)); obtain ⟨A', c', rfl, _, _⟩ := own_slice4 hown'; have hO3 : w3.ownsRow w.heap.size 92 4 (.slice A' ((j + 1) + 1) c') ((j + 1) + 1) (tksC ((r ++ [x]) ++ [⟨kd, t, nn, k⟩])) := (by rw [tksC_snoc]; exact hown'); have HO3 := Lib.hid hO3; have HB3 := Lib.hid hB3; clear hown' hgrow hO3 hB3))
       go_roundw
       case rel => exact ⟨k + m, (j + 1) + 1, (r ++ [x]) ++ [⟨kd, t, nn, k⟩], A', c', by omega, by omega, by go_num, by go_num, Lib.hid (by rw [List.length_append, HN.out]; rfl), HO3, HD, HB3.out⟩
       case measure => simp [intOf]; omega
   ·obtain ⟨m, hm⟩ : ∃ m, blankL l = m := ⟨_, rfl⟩
    have hd := HDV.out _ _ (step_blank hb0)
    rw [hm] at hd hbl
    obtain ⟨HD, hm1, hm2⟩ := hd
    have m0 : (0 : Int) < (m : Int) := by omega
    clear hon hos hhd hb0 hm HDV HNO hkk
    go_wp2_with (go_at_call 96; refine (hbl _).mono ?_; rintro e w' ⟨rfl, rfl⟩)
    go_roundw
    case rel => exact ⟨k + m, n, ts, A, c, by omega, by omega, rfl, by go_num, HN, HO, HD, hbr⟩
    case measure => simp [intOf]; omega
  ·obtain rfl : k = s.size := by omega
   have hr := HR.out
   rw [← size_list, List.drop_length, runL_nil, size_list] at hr
   have hf := HLI.out _ hr
   have HF := Lib.hid hf
   clear hr hf HR hlt
   rcases snoc_or ts with rfl | ⟨r, x, rfl⟩
   ·obtain rfl : n = 0 := HN.out.symm
    go_wp2
    go_ret3
    rw [HF.out]
    exact ⟨A, 0, c, rfl, by omega, ti_of HO.out rfl, hbr⟩
   ·obtain ⟨j, hj⟩ : ∃ j, r.length = j := ⟨_, rfl⟩
    obtain rfl : n = j + 1 := by rw [← HN.out, List.length_append, hj]; rfl
    obtain ⟨g, rfl, hc1, hc2⟩ := own_last HO.out hj
    have j0 : (0 : Int) ≤ (j : Int) := by omega
    have j1 : (j : Int) < (j : Int) + 1 := by omega
    have j2 : (0 : Int) < (j : Int) + 1 := by omega
    have j3 : ((j : Int) + 1 == 0) = false := by simp; omega
    clear hj
    by_cases h6 : x.k = 6
    ·have hl : endL (r ++ [x]) s.size = r ++ [x] := by unfold endL; rw [lastK_snoc, if_pos h6]
     have hf := HF.out
     rw [hl, HN.out] at hf
     have q : ((x.k : Int) != 6) = false := by simp; omega
     by_cases hbig : 1000 < j + 1
     ·rw [if_pos hbig] at hf
      have HF2 := Lib.hid hf
      have b1 : (1000 : Int) < (j : Int) + 1 := by omega
      clear hf hl h6 HF
      go_wp2
      go_ret3
      rw [HF2.out]
      exact ⟨none, 0, 0, rfl, by omega, TI.nil _ _ _, hbr⟩
     ·rw [if_neg hbig] at hf
      have HF2 := Lib.hid hf
      have b1 : ¬ (1000 : Int) < (j : Int) + 1 := by omega
      clear hf hl h6 HF
      go_wp2
      go_ret3
      rw [HF2.out]
      exact ⟨_, j + 1, c, rfl, by omega, ti_of HO.out HN.out, hbr⟩
    ·have hl : endL (r ++ [x]) s.size = r ++ [x] ++ [⟨6, [], 0, s.size⟩] := by unfold endL; rw [lastK_snoc, if_neg h6]
     have hf := HF.out
     have hlen : (r ++ [x] ++ [(⟨6, [], 0, s.size⟩ : Tok)]).length = j + 1 + 1 := by rw [List.length_append, HN.out]; rfl
     rw [hl, hlen] at hf
     have q : ((x.k : Int) != 6) = true := nat_ne h6
     have HLEN := Lib.hid hlen
     by_cases hbig : 1000 < j + 1 + 1
     ·rw [if_pos hbig] at hf
      have HF2 := Lib.hid hf
      have b1 : (1000 : Int) < (j : Int) + 1 + 1 := by omega
      clear hf hl h6 HF hlen
      go_wp2_with (at_builtin; (refine wpList_append_own _ rfl _ _ 57 rfl w.heap.size 92 i0 (.agg #[.int .u8 0, .string ⟨#[]⟩, .int .i64 0, .int .i64 0]) 4 40 Tryz.underlying57 hi hz0 hz1 hz2 rfl (by decide) (.slice _ (j + 1) c) ((j + 1)) (tksC (r ++ [x])) rfl (HO.out.alloc _) ⟨_, 0, none⟩ 1 1 (tkC ⟨6, [], 0, s.size⟩) rfl rfl (tok_new _ ⟨6, [], 0, s.size⟩ _ _ rfl) (tok_one _) (by unfold maxLen; omega) (by omega) (by simp; omega) ?_); intro v' w3 hown' hgrow _; have hB3 : Below w.heap.size w w3 := ((hbr.alloc hsz _).grown hgrow (by simp; omega) (fun j e => (HO.out.lt j e).1)); obtain ⟨A', c', rfl, _, _⟩ := own_slice4 hown'; have hO3 : w3.ownsRow w.heap.size 92 4 (.slice A' ((j + 1) + 1) c') ((j + 1) + 1) (tksC ((r ++ [x]) ++ [⟨6, [], 0, s.size⟩])) := (by rw [tksC_snoc]; exact hown'); have HO3 := Lib.hid hO3; have HB3 := Lib.hid hB3; clear hown' hgrow hO3 hB3)
      go_ret3
      rw [HF2.out]
      exact ⟨none, 0, 0, rfl, by omega, TI.nil _ _ _, HB3.out⟩
     ·rw [if_neg hbig] at hf
      have HF2 := Lib.hid hf
      have b1 : ¬ (1000 : Int) < (j : Int) + 1 + 1 := by omega
      clear hf hl h6 HF hlen
      go_wp2_with (at_builtin; (refine wpList_append_own _ rfl _ _ 57 rfl w.heap.size 92 i0 (.agg #[.int .u8 0, .string ⟨#[]⟩, .int .i64 0, .int .i64 0]) 4 40 Tryz.underlying57 hi hz0 hz1 hz2 rfl (by decide) (.slice _ (j + 1) c) ((j + 1)) (tksC (r ++ [x])) rfl (HO.out.alloc _) ⟨_, 0, none⟩ 1 1 (tkC ⟨6, [], 0, s.size⟩) rfl rfl (tok_new _ ⟨6, [], 0, s.size⟩ _ _ rfl) (tok_one _) (by unfold maxLen; omega) (by omega) (by simp; omega) ?_); intro v' w3 hown' hgrow _; have hB3 : Below w.heap.size w w3 := ((hbr.alloc hsz _).grown hgrow (by simp; omega) (fun j e => (HO.out.lt j e).1)); obtain ⟨A', c', rfl, _, _⟩ := own_slice4 hown'; have hO3 : w3.ownsRow w.heap.size 92 4 (.slice A' ((j + 1) + 1) c') ((j + 1) + 1) (tksC ((r ++ [x]) ++ [⟨6, [], 0, s.size⟩])) := (by rw [tksC_snoc]; exact hown'); have HO3 := Lib.hid hO3; have HB3 := Lib.hid hB3; clear hown' hgrow hO3 hB3)
      go_ret3
      rw [HF2.out]
      exact ⟨A', j + 1 + 1, c', rfl, by omega, ti_of HO3.out HLEN.out, HB3.out⟩
theorem tokens_ref (s : ByteArray) (w : World) : Calls Tryz.prog 48 #[.string s] w (RefTold w (lexL s.data.toList)) := by
 rcases Nat.lt_or_ge 4000 s.size with h | h
 ·exact tokens_ref_long s w h
 ·exact tokens_ref0 s w h
end Go.Proofs.YthaibekbefndlaaGreatDoor.C
