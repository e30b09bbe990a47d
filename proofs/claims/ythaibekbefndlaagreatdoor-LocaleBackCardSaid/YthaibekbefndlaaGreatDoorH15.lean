/-
  Joined: LcN, LdA, LdC, LdD. Each with what its own head says.
-/
import Derived.Test.YthaibekbefndlaaGreatDoorH14

namespace Go.Proofs.YthaibekbefndlaaGreatDoor.C
open Go.RowKit

def pairD (l : List (Int × Int)) (a b : Tok) (r : List Tok) : Re (List (Int × Int)) := match takeT 2 sShut r with
 | .error e => .error e
 | .ok (_, r5) => .ok (l ++ [((a.n : Int), (b.n : Int))], r5)
def pairC (l : List (Int × Int)) (a : Tok) (r : List Tok) : Re (List (Int × Int)) := match takeK [3] r with
 | .error e => .error e
 | .ok (b, r4) => pairD l a b r4
def pairB (l : List (Int × Int)) (a : Tok) (r : List Tok) : Re (List (Int × Int)) := match takeT 2 sComma r with
 | .error e => .error e
 | .ok (_, r3) => pairC l a r3
def pairA (l : List (Int × Int)) (r : List Tok) : Re (List (Int × Int)) := match takeK [3] r with
 | .error e => .error e
 | .ok (a, r2) => if (a.n : Int) ∈ l.map Prod.fst then .error (32, a.at_) else pairB l a r2
theorem pairL_A (l : List (Int × Int)) (ts : List Tok) : pairL l ts = match takeT 2 sOpen ts with
 | .error e => .error e
 | .ok (_, r) => pairA l r := by
 unfold pairL
 cases takeT 2 sOpen ts with
 | error e => rfl
 | ok y => rfl
section
variable {l : List (Int × Int)} {a b x : Tok} {r : List Tok}
theorem pairL_no (h : ¬ (x.k = 2 ∧ x.t = sOpen)) : pairL l (x :: r) = .error (30, x.at_) := by rw [pairL_A, takeT, if_neg h]
theorem pairL_yes (h : x.k = 2 ∧ x.t = sOpen) : pairL l (x :: r) = pairA l r := by rw [pairL_A, takeT, if_pos h]
theorem pairA_no (h : ¬ x.k = 3) : pairA l (x :: r) = .error (30, x.at_) := by rw [pairA, takeK, if_neg (by simpa using h)]
theorem pairA_twice (h : x.k = 3) (hi : (x.n : Int) ∈ l.map Prod.fst) : pairA l (x :: r) = .error (32, x.at_) := by
 rw [pairA, takeK, if_pos (by simpa using h)]
 exact if_pos hi
theorem pairA_yes (h : x.k = 3) (hi : (x.n : Int) ∉ l.map Prod.fst) : pairA l (x :: r) = pairB l x r := by
 rw [pairA, takeK, if_pos (by simpa using h)]
 exact if_neg hi
theorem pairB_no (h : ¬ (x.k = 2 ∧ x.t = sComma)) : pairB l a (x :: r) = .error (30, x.at_) := by rw [pairB, takeT, if_neg h]
theorem pairB_yes (h : x.k = 2 ∧ x.t = sComma) : pairB l a (x :: r) = pairC l a r := by rw [pairB, takeT, if_pos h]
theorem pairC_no (h : ¬ x.k = 3) : pairC l a (x :: r) = .error (30, x.at_) := by rw [pairC, takeK, if_neg (by simpa using h)]
theorem pairC_yes (h : x.k = 3) : pairC l a (x :: r) = pairD l a x r := by rw [pairC, takeK, if_pos (by simpa using h)]
theorem pairD_no (h : ¬ (x.k = 2 ∧ x.t = sShut)) : pairD l a b (x :: r) = .error (30, x.at_) := by rw [pairD, takeT, if_neg h]
theorem pairD_yes (h : x.k = 2 ∧ x.t = sShut) : pairD l a b (x :: r) = .ok (l ++ [((a.n : Int), (b.n : Int))], r) := by rw [pairD, takeT, if_pos h]
end
theorem wrap32 {n : Int} (h0 : 0 ≤ n) (h1 : n ≤ 1114111) : IntKind.i32.wrap n = n := by
 rw [IntKind.wrap_i32]
 omega
def FnI (A : Nat) : Value := .func (.func 170) #[] #[.pointer (some ⟨A, 0, none⟩)]
def numsV (l : List (Int × Int)) : List Value := l.map fun x => .int .i64 x.1
theorem nums_in {l : List (Int × Int)} {n : Int} : Value.int .i64 n ∈ numsV l ↔ n ∈ l.map Prod.fst := by
 unfold numsV
 rw [List.mem_map, List.mem_map]
 constructor
 ·rintro ⟨c, hc, he⟩
  injection he with _ he
  exact ⟨c, hc, he⟩
 ·rintro ⟨c, hc, he⟩
  exact ⟨c, hc, by rw [he]⟩
theorem One.nomap {w : World} {j M : Nat} {t : TypeId} {v : Value} {kd : TypeDesc} {l : List (Value × Value)} (h : One w j t v) (hm : MapIs w M kd l) : j ≠ M := by
 rintro rfl
 obtain ⟨es, c, h1, _⟩ := hm
 have e := h.symm.trans h1
 simp at e
theorem row_nomap {w : World} {base size n M : Nat} {e : TypeId} {v : Value} {xs : List Value} {kd : TypeDesc} {l : List (Value × Value)} (h : w.ownsRow base e size v n xs) (hm : MapIs w M kd l) : ¬ v.ownBlock = some M := by
 intro he
 obtain ⟨c, hc⟩ := ownsRow_ty h he
 obtain ⟨es, q, h1, _⟩ := hm
 rw [h1] at hc
 cases hc
theorem One.noR {w : World} {j R k : Nat} {T : TV} {v1 v2 v3 v4 v5 v : Value} {t : TypeId} (h : One w j t v) (hc : CU w R T k v1 v2 v3 v4 v5) : j ≠ R := by
 rintro rfl
 have e := h.symm.trans hc.1
 simp at e
theorem infoPair : (Tryz.prog.info? 49).map (fun i => (i.zero, i.size, i.bytes)) = some (some (.agg #[.int .i32 0, .int .i32 0]), 2, 8) := by kernel_rfl

structure PrU (w0 : World) (u0 : Value) (lo R : Nat) (T : TV) (v1 v3 v4 v5 : Value) (A M Rb Ab Tb : Nat) (u : Value) (ks : List Value) (l : List (Int × Int)) (k : Nat) (W : World) : Prop where
 cu : CU W R T k v1 u v3 v4 v5
 row : W.ownsRow lo 49 2 u l.length (prsC l)
 own : ∀ g, u.ownBlock = some g → u0.ownBlock = some g ∨ w0.heap.size ≤ g
 ft : FT W 200 (.int .i64) A M ks
 rb : One W Rb 88 (.pointer (some ⟨R, 0, none⟩))
 ab : One W Ab 166 (FnI A)
 tb : One W Tb 132 (.pointer (some ⟨R, 3, none⟩))
 fr : Fr w0 W (fun j => j = R ∨ j = M ∨ u0.ownBlock = some j)
section
variable {w0 : World} {u0 : Value} {lo R : Nat} {T : TV} {v1 v3 v4 v5 : Value} {A M Rb Ab Tb : Nat} {u : Value} {ks : List Value} {l : List (Int × Int)} {k : Nat} {W W' : World}
theorem PrU.go {k' : Nat} (h : PrU w0 u0 lo R T v1 v3 v4 v5 A M Rb Ab Tb u ks l k W) (hc : CU W' R T k' v1 u v3 v4 v5) (hm : Moved W W' R) : PrU w0 u0 lo R T v1 v3 v4 v5 A M Rb Ab Tb u ks l k' W' := by
 have hf := Fr.of_moved hm
 have hA : ¬ A = R := by
  rintro rfl
  have e := h.ft.1.symm.trans h.cu.1
  simp at e
 have hM : ¬ M = R := by
  rintro rfl
  obtain ⟨es, q, h1, _⟩ := h.ft.2
  have e := h1.symm.trans h.cu.1
  simp at e
 exact ⟨hc, h.row.kept hm (.inr (row_ne h.row h.cu.1 (by decide))), h.own, h.ft.fr hf hA hM, h.rb.fr hf (h.rb.noR h.cu), h.ab.fr hf (h.ab.noR h.cu), h.tb.fr hf (h.tb.noR h.cu), h.fr.next hf (fun j _ e => .inl e)⟩
theorem PrU.below (h : PrU w0 u0 lo R T v1 v3 v4 v5 A M Rb Ab Tb u ks l k W) (hb : Below W.heap.size W W') : PrU w0 u0 lo R T v1 v3 v4 v5 A M Rb Ab Tb u ks l k W' := h.go (h.cu.next hb) (.of_below hb)
theorem PrU.alloc (h : PrU w0 u0 lo R T v1 v3 v4 v5 A M Rb Ab Tb u ks l k W) (o : Obj) : PrU w0 u0 lo R T v1 v3 v4 v5 A M Rb Ab Tb u ks l k (W.alloc o) := h.below ((Below.refl _ _).alloc (Nat.le_refl _) o)
theorem PrU.drew (h : PrU w0 u0 lo R T v1 v3 v4 v5 A M Rb Ab Tb u ks l k W) : PrU w0 u0 lo R T v1 v3 v4 v5 A M Rb Ab Tb u ks l k W.drew := ⟨h.cu.drew, h.row.drew, h.own, h.ft, h.rb, h.ab, h.tb, h.fr.drew⟩
theorem PrU.asked {ks' : List Value} (h : PrU w0 u0 lo R T v1 v3 v4 v5 A M Rb Ab Tb u ks l k W) (hf : FT W' 200 (.int .i64) A M ks') (hg : W.grownBy W' (some M)) (hM : R < M) : PrU w0 u0 lo R T v1 v3 v4 v5 A M Rb Ab Tb u ks' l k W' := by
 have hf2 : Fr W W' (· = M) := (Fr.of_grown hg).mono (fun j _ e => by injection e with e; exact e.symm)
 exact ⟨h.cu.fr hf2 (fun j e => by rw [show j = M from e]; exact hM), h.row.kept hg (.inr (row_nomap h.row h.ft.2)), h.own, hf, h.rb.fr hf2 (h.rb.nomap h.ft.2), h.ab.fr hf2 (h.ab.nomap h.ft.2), h.tb.fr hf2 (h.tb.nomap h.ft.2), h.fr.next hf2 (fun j _ e => .inr (.inl e))⟩
theorem PrU.more {g cap : Nat} (x : Int × Int) (h : PrU w0 u0 lo R T v1 v3 v4 v5 A M Rb Ab Tb u ks l k W) (hg : W.grownBy W' u.ownBlock) (ho : W'.ownsRow lo 49 2 (.slice (some ⟨g, 0, none⟩) (l.length + 1) cap) (l.length + 1) (prsC l ++ [.int .i32 x.1, .int .i32 x.2]))
  (hat : u.ownBlock = some g ∨ w0.heap.size ≤ g) (hlo : R < lo) :
  CU W' R T k v1 u v3 v4 v5 ∧ One W' Tb 132 (.pointer (some ⟨R, 3, none⟩)) ∧ PrU w0 u0 lo R T v1 v3 v4 v5 A M Rb Ab Tb (.slice (some ⟨g, 0, none⟩) (l.length + 1) cap) ks (l ++ [x]) k (W'.setCell ⟨R, 3, none⟩ (.slice (some ⟨g, 0, none⟩) (l.length + 1) cap)) := by
 have hrow : ∀ j, u.ownBlock = some j → R < j := fun j e => by have := (h.row.lt j e).1; omega
 have hf := Fr.of_grown hg
 have hc' := h.cu.fr hf hrow
 have hset : Fr W' (W'.setCell ⟨R, 3, none⟩ (.slice (some ⟨g, 0, none⟩) (l.length + 1) cap)) (· = R) := (Fr.of_below (Below.refl _ W')).set _ _ (fun _ => rfl)
 have hA : ¬ A = R := by
  rintro rfl
  have e := h.ft.1.symm.trans h.cu.1
  simp at e
 have hM : ¬ M = R := by
  rintro rfl
  obtain ⟨es, q, h1, _⟩ := h.ft.2
  have e := h1.symm.trans h.cu.1
  simp at e
 have a1 := h.rb.fr hf (row_ne h.row h.rb (by decide))
 have a2 := h.ab.fr hf (row_ne h.row h.ab (by decide))
 have a3 := h.tb.fr hf (row_ne h.row h.tb (by decide))
 have a4 := h.ft.fr hf (row_ne h.row h.ft.1 (by decide)) (row_nomap h.row h.ft.2)
 refine ⟨hc', a3, hc'.set2 _, ?_, ?_, a4.fr hset hA hM, a1.fr hset (a1.noR hc'), a2.fr hset (a2.noR hc'), a3.fr hset (a3.noR hc'), ?_⟩
 ·rw [List.length_append, prsC_snoc]
  exact ownsRow_fr ho hset (fun j e e2 => row_ne ho hc'.1 (by decide) (by rw [e]; exact congrArg some e2))
 ·intro j e
  injection e with e
  subst e
  rcases hat with hat | hat
  ·exact h.own _ hat
  ·exact .inr hat
 ·refine (h.fr.next hf fun j hj e => ?_).next hset (fun j _ e => .inl e)
  rcases h.own j e with e | e
  ·exact .inr (.inr e)
  ·omega
end

structure PrL (w0 : World) (u0 : Value) (lo R : Nat) (T : TV) (v1 v2 v4 v5 : Value) (A M Rb Ab Tb : Nat) (u : Value) (ks : List Value) (l : List (Int × Int)) (k : Nat) (W : World) : Prop where
 cu : CU W R T k v1 v2 u v4 v5
 row : W.ownsRow lo 49 2 u l.length (prsC l)
 own : ∀ g, u.ownBlock = some g → u0.ownBlock = some g ∨ w0.heap.size ≤ g
 ft : FT W 200 (.int .i64) A M ks
 rb : One W Rb 88 (.pointer (some ⟨R, 0, none⟩))
 ab : One W Ab 166 (FnI A)
 tb : One W Tb 132 (.pointer (some ⟨R, 4, none⟩))
 fr : Fr w0 W (fun j => j = R ∨ j = M ∨ u0.ownBlock = some j)
section
variable {w0 : World} {u0 : Value} {lo R : Nat} {T : TV} {v1 v2 v4 v5 : Value} {A M Rb Ab Tb : Nat} {u : Value} {ks : List Value} {l : List (Int × Int)} {k : Nat} {W W' : World}
theorem PrL.go {k' : Nat} (h : PrL w0 u0 lo R T v1 v2 v4 v5 A M Rb Ab Tb u ks l k W) (hc : CU W' R T k' v1 v2 u v4 v5) (hm : Moved W W' R) : PrL w0 u0 lo R T v1 v2 v4 v5 A M Rb Ab Tb u ks l k' W' := by
 have hf := Fr.of_moved hm
 have hA : ¬ A = R := by
  rintro rfl
  have e := h.ft.1.symm.trans h.cu.1
  simp at e
 have hM : ¬ M = R := by
  rintro rfl
  obtain ⟨es, q, h1, _⟩ := h.ft.2
  have e := h1.symm.trans h.cu.1
  simp at e
 exact ⟨hc, h.row.kept hm (.inr (row_ne h.row h.cu.1 (by decide))), h.own, h.ft.fr hf hA hM, h.rb.fr hf (h.rb.noR h.cu), h.ab.fr hf (h.ab.noR h.cu), h.tb.fr hf (h.tb.noR h.cu), h.fr.next hf (fun j _ e => .inl e)⟩
theorem PrL.below (h : PrL w0 u0 lo R T v1 v2 v4 v5 A M Rb Ab Tb u ks l k W) (hb : Below W.heap.size W W') : PrL w0 u0 lo R T v1 v2 v4 v5 A M Rb Ab Tb u ks l k W' := h.go (h.cu.next hb) (.of_below hb)
theorem PrL.alloc (h : PrL w0 u0 lo R T v1 v2 v4 v5 A M Rb Ab Tb u ks l k W) (o : Obj) : PrL w0 u0 lo R T v1 v2 v4 v5 A M Rb Ab Tb u ks l k (W.alloc o) := h.below ((Below.refl _ _).alloc (Nat.le_refl _) o)
theorem PrL.drew (h : PrL w0 u0 lo R T v1 v2 v4 v5 A M Rb Ab Tb u ks l k W) : PrL w0 u0 lo R T v1 v2 v4 v5 A M Rb Ab Tb u ks l k W.drew := ⟨h.cu.drew, h.row.drew, h.own, h.ft, h.rb, h.ab, h.tb, h.fr.drew⟩
theorem PrL.asked {ks' : List Value} (h : PrL w0 u0 lo R T v1 v2 v4 v5 A M Rb Ab Tb u ks l k W) (hf : FT W' 200 (.int .i64) A M ks') (hg : W.grownBy W' (some M)) (hM : R < M) : PrL w0 u0 lo R T v1 v2 v4 v5 A M Rb Ab Tb u ks' l k W' := by
 have hf2 : Fr W W' (· = M) := (Fr.of_grown hg).mono (fun j _ e => by injection e with e; exact e.symm)
 exact ⟨h.cu.fr hf2 (fun j e => by rw [show j = M from e]; exact hM), h.row.kept hg (.inr (row_nomap h.row h.ft.2)), h.own, hf, h.rb.fr hf2 (h.rb.nomap h.ft.2), h.ab.fr hf2 (h.ab.nomap h.ft.2), h.tb.fr hf2 (h.tb.nomap h.ft.2), h.fr.next hf2 (fun j _ e => .inr (.inl e))⟩
theorem PrL.more {g cap : Nat} (x : Int × Int) (h : PrL w0 u0 lo R T v1 v2 v4 v5 A M Rb Ab Tb u ks l k W) (hg : W.grownBy W' u.ownBlock) (ho : W'.ownsRow lo 49 2 (.slice (some ⟨g, 0, none⟩) (l.length + 1) cap) (l.length + 1) (prsC l ++ [.int .i32 x.1, .int .i32 x.2]))
  (hat : u.ownBlock = some g ∨ w0.heap.size ≤ g) (hlo : R < lo) :
  CU W' R T k v1 v2 u v4 v5 ∧ One W' Tb 132 (.pointer (some ⟨R, 4, none⟩)) ∧ PrL w0 u0 lo R T v1 v2 v4 v5 A M Rb Ab Tb (.slice (some ⟨g, 0, none⟩) (l.length + 1) cap) ks (l ++ [x]) k (W'.setCell ⟨R, 4, none⟩ (.slice (some ⟨g, 0, none⟩) (l.length + 1) cap)) := by
 have hrow : ∀ j, u.ownBlock = some j → R < j := fun j e => by have := (h.row.lt j e).1; omega
 have hf := Fr.of_grown hg
 have hc' := h.cu.fr hf hrow
 have hset : Fr W' (W'.setCell ⟨R, 4, none⟩ (.slice (some ⟨g, 0, none⟩) (l.length + 1) cap)) (· = R) := (Fr.of_below (Below.refl _ W')).set _ _ (fun _ => rfl)
 have hA : ¬ A = R := by
  rintro rfl
  have e := h.ft.1.symm.trans h.cu.1
  simp at e
 have hM : ¬ M = R := by
  rintro rfl
  obtain ⟨es, q, h1, _⟩ := h.ft.2
  have e := h1.symm.trans h.cu.1
  simp at e
 have a1 := h.rb.fr hf (row_ne h.row h.rb (by decide))
 have a2 := h.ab.fr hf (row_ne h.row h.ab (by decide))
 have a3 := h.tb.fr hf (row_ne h.row h.tb (by decide))
 have a4 := h.ft.fr hf (row_ne h.row h.ft.1 (by decide)) (row_nomap h.row h.ft.2)
 refine ⟨hc', a3, hc'.set3 _, ?_, ?_, a4.fr hset hA hM, a1.fr hset (a1.noR hc'), a2.fr hset (a2.noR hc'), a3.fr hset (a3.noR hc'), ?_⟩
 ·rw [List.length_append, prsC_snoc]
  exact ownsRow_fr ho hset (fun j e e2 => row_ne ho hc'.1 (by decide) (by rw [e]; exact congrArg some e2))
 ·intro j e
  injection e with e
  subst e
  rcases hat with hat | hat
  ·exact h.own _ hat
  ·exact .inr hat
 ·refine (h.fr.next hf fun j hj e => ?_).next hset (fun j _ e => .inl e)
  rcases h.own j e with e | e
  ·exact .inr (.inr e)
  ·omega
end
end Go.Proofs.YthaibekbefndlaaGreatDoor.C

namespace Go.Proofs.YthaibekbefndlaaGreatDoor.C
open Go.RowKit

theorem CU.map {w w' : World} {R k M : Nat} {T : TV} {v1 v2 v3 v4 v5 : Value} {kd : TypeDesc} {l l' : List (Value × Value)} (h : CU w R T k v1 v2 v3 v4 v5) (hm : MapIs w M kd l) (hm' : MapIs w' M kd l') (hg : w.grownBy w' (some M)) : CU w' R T k v1 v2 v3 v4 v5 := by
 have hlt := h.lt
 obtain ⟨h1, h2, h3⟩ := h
 have hR : some R ≠ some M := by
  intro e
  injection e with e
  subst e
  obtain ⟨es, q, h4, _⟩ := hm
  rw [h1] at h4
  cases h4
 refine ⟨(hg.block R hlt hR).trans h1, h2.keep fun p hp => ?_, h3⟩
 by_cases hp' : p.block = M
 ·obtain ⟨es, q, h4, _⟩ := hm
  obtain ⟨es', q', h4', _⟩ := hm'
  rw [← hp'] at h4 h4'
  simp [World.cell?, h4, h4']
 ·exact World.cell?_of_block (hg.block p.block (by omega) (fun e => hp' (by injection e)))
theorem LTk.map {w w' : World} {b M : Nat} {x : Tok} {kd : TypeDesc} {l : List (Value × Value)} (h : LTk w b x) (hm : MapIs w M kd l) (hg : w.grownBy w' (some M)) : LTk w' b x := (hg.block b h.lt (by
 intro e
 injection e with e
 subst e
 obtain ⟨es, q, h4, _⟩ := hm
 rw [h] at h4
 cases h4)).trans h

def celC (c : List Int) : List Value := c.map (Value.int .i32)
def DeAt (w : World) (lo M : Nat) (d : List (List UInt8 × List Int)) : Prop :=
 ∃ vs : List Value, vs.length = d.length ∧ MapIs w M .string ((d.zip vs).map fun x => (.string (str x.1.1), x.2)) ∧ ∀ (i : Nat) (e : List UInt8 × List Int) (x : Value), d[i]? = some e → vs[i]? = some x → w.ownsRow lo 35 1 x e.2.length (celC e.2)
theorem DeAt.map {w : World} {lo M : Nat} {d : List (List UInt8 × List Int)} (h : DeAt w lo M d) : ∃ l, MapIs w M .string l := by
 obtain ⟨vs, _, h2, _⟩ := h
 exact ⟨_, h2⟩
theorem DeAt.fr {w w' : World} {X : Nat → Prop} {lo M : Nat} {d : List (List UInt8 × List Int)} (h : DeAt w lo M d) (hf : Fr w w' X) (hM : ¬ X M) (hx : ∀ g c z t, X g → w.heap[g]? = some (.cells c t z) → t ≠ 35) : DeAt w' lo M d := by
 obtain ⟨vs, h1, h2, h3⟩ := h
 refine ⟨vs, h1, h2.fr hf hM, fun i e x he hv => ownsRow_fr (h3 i e x he hv) hf ?_⟩
 intro g hg hX
 obtain ⟨c, hc⟩ := ownsRow_ty (h3 i e x he hv) hg
 exact hx g _ _ _ hX hc rfl
theorem DeAt.next {w w' : World} {lo M : Nat} {d : List (List UInt8 × List Int)} (h : DeAt w lo M d) (hb : Below w.heap.size w w') : DeAt w' lo M d := h.fr (X := fun _ => False) (.of_below hb) id (by rintro _ _ _ _ ⟨⟩)
theorem DeAt.drew {w : World} {lo M : Nat} {d : List (List UInt8 × List Int)} (h : DeAt w lo M d) : DeAt w.drew lo M d := h
theorem DeAt.frR {w w' : World} {R k : Nat} {T : TV} {v1 v2 v3 v4 v5 : Value} {lo M : Nat} {d : List (List UInt8 × List Int)} (h : DeAt w lo M d) (hc : CU w R T k v1 v2 v3 v4 v5) (hf : Fr w w' (· = R)) : DeAt w' lo M d := by
 refine h.fr hf ?_ ?_
 ·rintro rfl
  obtain ⟨l, es, q, h1, _⟩ := h.map
  have e := h1.symm.trans hc.1
  simp at e
 ·rintro g c z t rfl hg
  rw [hc.1] at hg
  simp at hg
  obtain ⟨-, rfl, -⟩ := hg
  decide
theorem zip_mem {d : List (List UInt8 × List Int)} {vs : List Value} (h : vs.length = d.length) {i : Nat} {e : List UInt8 × List Int} (he : d[i]? = some e) : ∃ x, vs[i]? = some x ∧ (e, x) ∈ d.zip vs := by
 have hi : i < d.length := (List.getElem?_eq_some_iff.1 he).1
 refine ⟨vs[i]'(by omega), by simp, ?_⟩
 have : (d.zip vs)[i]? = some (e, vs[i]'(by omega)) := by
  rw [List.getElem?_zip_eq_some]
  exact ⟨he, by simp⟩
 exact List.mem_of_getElem? this
theorem lookD_some {d : List (List UInt8 × List Int)} {n : List UInt8} {c : List Int} (h : lookD d n = some c) : ∃ i : Nat, d[i]? = some (n, c) := by
 unfold lookD at h
 cases hf : d.find? (fun x => decide (x.1 = n)) with
 | none => rw [hf] at h; cases h
 | some e =>
  rw [hf] at h
  injection h with h
  have h1 := List.find?_some hf
  have h2 := List.mem_of_find?_eq_some hf
  simp at h1
  obtain ⟨i, hi⟩ := List.getElem?_of_mem h2
  exact ⟨i, by rw [hi, ← h1, ← h]⟩
theorem lookD_none {d : List (List UInt8 × List Int)} {n : List UInt8} (h : lookD d n = none) : ∀ e ∈ d, e.1 ≠ n := by
 unfold lookD at h
 rw [Option.map_eq_none_iff, List.find?_eq_none] at h
 intro e he hn
 exact h e he (by simpa using hn)
theorem zeroCells (w : World) : (zeroValue 32).run Tryz.prog w = .ok (.slice none 0 0) w := by kernel_rfl
theorem DeAt.yes {w : World} {lo M : Nat} {d : List (List UInt8 × List Int)} {n : List UInt8} {c : List Int} (h : DeAt w lo M d) (hl : lookD d n = some c) :
  ∃ v, w.ownsRow lo 35 1 v c.length (celC c) ∧ (Instr.lookup 62 (.map (some M)) (.string (str n)) true).run Tryz.prog w = .ok (.tuple #[v, .bool true]) w := by
 obtain ⟨vs, h1, h2, h3⟩ := h
 obtain ⟨i, hi⟩ := lookD_some hl
 obtain ⟨x, hx, hm⟩ := zip_mem h1 hi
 refine ⟨x, h3 i _ x hi hx, ?_⟩
 exact h2.look_yes Tryz.underlying62 Tryz.underlying9 (by first | trivial | rfl) (v := x) (List.mem_map.2 ⟨_, hm, rfl⟩) true
theorem DeAt.keys {d : List (List UInt8 × List Int)} {vs : List Value} {n : List UInt8} (hl : lookD d n = none) : (.string (str n)) ∉ ((d.zip vs).map fun x => (Value.string (str x.1.1), x.2)).map Prod.fst := by
 rw [List.map_map, List.mem_map]
 rintro ⟨⟨e, x⟩, hx, he⟩
 simp at he
 exact lookD_none hl e (List.of_mem_zip hx).1 (str_inj he)
theorem DeAt.no {w : World} {lo M : Nat} {d : List (List UInt8 × List Int)} {n : List UInt8} (h : DeAt w lo M d) (hl : lookD d n = none) :
  (Instr.lookup 62 (.map (some M)) (.string (str n)) true).run Tryz.prog w = .ok (.tuple #[.slice none 0 0, .bool false]) w := by
 obtain ⟨vs, h1, h2, h3⟩ := h
 exact h2.look_no Tryz.underlying62 Tryz.underlying9 (by first | trivial | rfl) (DeAt.keys hl) (zeroCells w) true
theorem DeAt.put {w : World} {lo M : Nat} {d : List (List UInt8 × List Int)} {n : List UInt8} {c : List Int} {v : Value} (h : DeAt w lo M d) (hl : lookD d n = none) (hv : w.ownsRow lo 35 1 v c.length (celC c)) :
  ∃ o, (Instr.mapUpdate 62 (.map (some M)) (.string (str n)) v).run Tryz.prog w = .ok () (putObj w M o) ∧ DeAt (putObj w M o) lo M (d ++ [(n, c)]) := by
 obtain ⟨vs, h1, h2, h3⟩ := h
 obtain ⟨o, q2, hM⟩ := h2.put_new Tryz.underlying62 Tryz.underlying9 (key := (.string (str n))) (by first | trivial | rfl) (DeAt.keys hl) v
 have hg := putObj_only (w := w) (M := M) o
 refine ⟨o, q2, vs ++ [v], by simp [h1], ?_, ?_⟩
 ·rw [List.zip_append h1.symm, List.map_append]
  exact hM
 ·have key : ∀ {n : Nat} {u : Value} {xs : List Value}, w.ownsRow lo 35 1 u n xs → (putObj w M o).ownsRow lo 35 1 u n xs := fun hu => hu.kept hg (.inr (row_nomap hu h2))
  intro i e y hd hy
  rcases Nat.lt_or_ge i d.length with hi | hi
  ·rw [List.getElem?_append_left hi] at hd
   rw [List.getElem?_append_left (by omega)] at hy
   exact key (h3 i e y hd hy)
  ·rw [List.getElem?_append_right hi] at hd
   rw [List.getElem?_append_right (by omega), h1] at hy
   have e0 : i - d.length = 0 := by
    rcases hq : i - d.length with _ | q
    ·rfl
    ·rw [hq] at hd
     simp at hd
   rw [e0] at hd hy
   simp at hd hy
   subst hd hy
   exact key hv

def elmC (d : List (List UInt8 × List Int)) (n : Tok) (r : List Tok) : Re (List (List UInt8 × List Int)) := match takeK [4] r with
 | .error e => .error e
 | .ok (q, r3) => if (cellsOf q.t).length < 2 ∨ 4 < (cellsOf q.t).length then .error (3, q.at_) else .ok (d ++ [(n.t, cellsOf q.t)], r3)
def elmB (d : List (List UInt8 × List Int)) (n : Tok) (r : List Tok) : Re (List (List UInt8 × List Int)) := match takeT 1 wFrom r with
 | .error e => .error e
 | .ok (_, r2) => elmC d n r2
def elmL (d : List (List UInt8 × List Int)) (ts : List Tok) : Re (List (List UInt8 × List Int)) := match takeK [5] ts with
 | .error e => .error e
 | .ok (n, r1) => if (lookD d n.t).isSome then .error (32, n.at_) else elmB d n r1
theorem elementL_elm (s : Sta) (ts : List Tok) : elementL s ts = match elmL s.d ts with
 | .error e => .error e
 | .ok (d, r) => .ok ({ s with d := d }, r) := by
 unfold elementL elmL
 cases takeK [5] ts with
 | error e => rfl
 | ok y =>
  obtain ⟨n, r⟩ := y
  simp only
  by_cases hn : (lookD s.d n.t).isSome
  ·rw [if_pos hn, if_pos hn]
  ·rw [if_neg hn, if_neg hn]
   unfold elmB
   cases takeT 1 wFrom r with
   | error e => rfl
   | ok y =>
    obtain ⟨u, r2⟩ := y
    simp only
    unfold elmC
    cases takeK [4] r2 with
    | error e => rfl
    | ok y =>
     obtain ⟨q, r3⟩ := y
     simp only
     by_cases hq : (cellsOf q.t).length < 2 ∨ 4 < (cellsOf q.t).length
     ·rw [if_pos hq, if_pos hq]
     ·rw [if_neg hq, if_neg hq]
section
variable {d : List (List UInt8 × List Int)} {n x : Tok} {r : List Tok}
theorem elmL_no (h : ¬ x.k = 5) : elmL d (x :: r) = .error (30, x.at_) := by rw [elmL, takeK, if_neg (by simpa using h)]
theorem elmL_twice {c : List Int} (h : x.k = 5) (hl : lookD d x.t = some c) : elmL d (x :: r) = .error (32, x.at_) := by
 rw [elmL, takeK, if_pos (by simpa using h)]
 exact if_pos (by rw [hl]; rfl)
theorem elmL_yes (h : x.k = 5) (hl : lookD d x.t = none) : elmL d (x :: r) = elmB d x r := by
 rw [elmL, takeK, if_pos (by simpa using h)]
 exact if_neg (by rw [hl]; simp)
theorem elmB_no (h : ¬ (x.k = 1 ∧ x.t = wFrom)) : elmB d n (x :: r) = .error (30, x.at_) := by rw [elmB, takeT, if_neg h]
theorem elmB_yes (h : x.k = 1 ∧ x.t = wFrom) : elmB d n (x :: r) = elmC d n r := by rw [elmB, takeT, if_pos h]
theorem elmC_no (h : ¬ x.k = 4) : elmC d n (x :: r) = .error (30, x.at_) := by rw [elmC, takeK, if_neg (by simpa using h)]
theorem elmC_long (h : x.k = 4) (hl : (cellsOf x.t).length < 2 ∨ 4 < (cellsOf x.t).length) : elmC d n (x :: r) = .error (3, x.at_) := by
 rw [elmC, takeK, if_pos (by simpa using h)]
 exact if_pos hl
theorem elmC_yes (h : x.k = 4) (hl : ¬ ((cellsOf x.t).length < 2 ∨ 4 < (cellsOf x.t).length)) : elmC d n (x :: r) = .ok (d ++ [(n.t, cellsOf x.t)], r) := by
 rw [elmC, takeK, if_pos (by simpa using h)]
 exact if_neg hl
end
def TxtOk (T : TV) : Prop := ∀ t ∈ T.ts, t.t.length ≤ 4000
theorem TxtOk.at_ {T : TV} (h : TxtOk T) {k : Nat} {x : Tok} {r : List Tok} (hr : T.ts.drop k = x :: r) : x.t.length ≤ 4000 := h x (List.mem_of_mem_drop (i := k) (by rw [hr]; simp))
def EdTold (w : World) (lo R : Nat) (T : TV) (v1 v2 v3 v4 : Value) (M : Nat) : Re (List (List UInt8 × List Int)) → Ending → World → Prop
 | .ok (d, r), e, w' => ∃ k, e = .returned (.tuple #[]) ∧ CU w' R T k v1 v2 v3 v4 (.map (some M)) ∧ T.ts.drop k = r ∧ DeAt w' lo M d ∧ Fr w w' (fun j => j = R ∨ j = M)
 | .error er, e, w' => e = .panicked (faultV er.1 er.2) ∧ Fr w w' (fun j => j = R ∨ j = M)
end Go.Proofs.YthaibekbefndlaaGreatDoor.C

namespace Go.Proofs.YthaibekbefndlaaGreatDoor.C
open Go.RowKit

theorem flat_at {sz : Nat} : ∀ {xs : List (List Value)} {j i : Nat} {x : List Value} {u : Value}, (∀ x ∈ xs, x.length = sz) → xs[j]? = some x → x[i]? = some u → xs.flatten[j * sz + i]? = some u
 | [], j, i, x, u, _, hx, _ => by simp at hx
 | y :: r, 0, i, x, u, h, hx, hu => by
  simp at hx
  subst hx
  have hi : i < y.length := (List.getElem?_eq_some_iff.1 hu).1
  rw [List.flatten_cons, List.getElem?_append_left (by omega)]
  simpa using hu
 | y :: r, j + 1, i, x, u, h, hx, hu => by
  have hy := h y (by simp)
  rw [List.flatten_cons, List.getElem?_append_right (by rw [hy, Nat.succ_mul]; omega), hy]
  have := flat_at (xs := r) (j := j) (fun z hz => h z (List.mem_cons_of_mem _ hz)) (by simpa using hx) hu
  rw [show (j + 1) * sz + i - sz = j * sz + i by rw [Nat.succ_mul]; omega]
  exact this
theorem SI.of_own {w : World} {base sz n c : Nat} {e : TypeId} {A : Option Addr} {xs : List (List Value)} (h : w.ownsRow base e sz (.slice A n c) n xs.flatten) (hl : xs.length = n) (hx : ∀ x ∈ xs, x.length = sz) : SI sz w w.heap.size A n xs := by
 refine ⟨hl, hx, fun hn => ?_⟩
 rcases h.2 with ⟨_, h0⟩ | ⟨g, cap, cur, he, _⟩
 ·omega
 ·injection he with he _ _
  subst he
  refine ⟨_, rfl, (h.lt g rfl).2, fun j x hj i u hu => ?_⟩
  exact h.cells rfl _ _ (flat_at hx hj hu)
def ordR (o : List Elm) (vs : List Value) : List (List Value) := (o.zip vs).map fun x => [.string (str x.1.name), x.2, .int .i64 x.1.same]
theorem ordR_len {o : List Elm} {vs : List Value} (h : vs.length = o.length) : (ordR o vs).length = o.length := by simp [ordR, h]
theorem ordR_each {o : List Elm} {vs : List Value} : ∀ x ∈ ordR o vs, x.length = 3 := by
 intro x hx
 unfold ordR at hx
 rw [List.mem_map] at hx
 obtain ⟨y, _, rfl⟩ := hx
 rfl
theorem ordR_at {o : List Elm} {vs : List Value} {k : Nat} {x : List Value} (hk : (ordR o vs)[k]? = some x) : ∃ e v, o[k]? = some e ∧ vs[k]? = some v ∧ x = [.string (str e.name), v, .int .i64 e.same] := by
 unfold ordR at hk
 rw [List.getElem?_map] at hk
 cases hz : (o.zip vs)[k]? with
 | none => rw [hz] at hk; cases hk
 | some y =>
  rw [hz] at hk
  injection hk with hk
  obtain ⟨e, v⟩ := y
  rw [List.getElem?_zip_eq_some] at hz
  exact ⟨e, v, hz.1, hz.2, hk.symm⟩
theorem ordR_snoc {o : List Elm} {vs : List Value} (h : vs.length = o.length) (e : Elm) (v : Value) : ordR (o ++ [e]) (vs ++ [v]) = ordR o vs ++ [[.string (str e.name), v, .int .i64 e.same]] := by
 unfold ordR
 rw [List.zip_append h.symm]
 simp
def OrdAt (w : World) (lo : Nat) (v : Value) (o : List Elm) : Prop :=
 ∃ vs : List Value, vs.length = o.length ∧ w.ownsRow lo 34 3 v o.length (ordR o vs).flatten ∧ ∀ (i : Nat) (e : Elm) (x : Value), o[i]? = some e → vs[i]? = some x → w.ownsRow lo 35 1 x e.cells.length (celC e.cells)
theorem OrdAt.nil (w : World) (lo : Nat) : OrdAt w lo (.slice none 0 0) [] := ⟨[], rfl, ⟨rfl, .inl ⟨rfl, rfl⟩⟩, by simp⟩
theorem OrdAt.fr {w w' : World} {X : Nat → Prop} {lo : Nat} {v : Value} {o : List Elm} (h : OrdAt w lo v o) (hf : Fr w w' X) (hx : ∀ g c z t, X g → w.heap[g]? = some (.cells c t z) → t ≠ 35 ∧ t ≠ 34) : OrdAt w' lo v o := by
 obtain ⟨vs, h1, h2, h3⟩ := h
 refine ⟨vs, h1, ownsRow_fr h2 hf ?_, fun i e x he hv => ownsRow_fr (h3 i e x he hv) hf ?_⟩
 ·intro g hg hX
  obtain ⟨c, hc⟩ := ownsRow_ty h2 hg
  exact (hx g _ _ _ hX hc).2 rfl
 ·intro g hg hX
  obtain ⟨c, hc⟩ := ownsRow_ty (h3 i e x he hv) hg
  exact (hx g _ _ _ hX hc).1 rfl
theorem OrdAt.next {w w' : World} {lo : Nat} {v : Value} {o : List Elm} (h : OrdAt w lo v o) (hb : Below w.heap.size w w') : OrdAt w' lo v o := h.fr (X := fun _ => False) (.of_below hb) (by rintro _ _ _ _ ⟨⟩)
theorem OrdAt.drew {w : World} {lo : Nat} {v : Value} {o : List Elm} (h : OrdAt w lo v o) : OrdAt w.drew lo v o := h
theorem OrdAt.frR {w w' : World} {R k : Nat} {T : TV} {v1 v2 v3 v4 v5 : Value} {lo : Nat} {v : Value} {o : List Elm} (h : OrdAt w lo v o) (hc : CU w R T k v1 v2 v3 v4 v5) (hf : Fr w w' (· = R)) : OrdAt w' lo v o := by
 refine h.fr hf ?_
 rintro g c z t rfl hg
 rw [hc.1] at hg
 simp at hg
 obtain ⟨-, rfl, -⟩ := hg
 decide
theorem OrdAt.form {w : World} {lo : Nat} {v : Value} {o : List Elm} (h : OrdAt w lo v o) : ∃ A c, v = .slice A o.length c := by
 obtain ⟨vs, h1, h2, _⟩ := h
 rcases Joins.ownsRow_forms h2 with ⟨rfl, h0⟩ | ⟨g, c, rfl⟩
 ·exact ⟨none, 0, by rw [h0]⟩
 ·exact ⟨_, _, rfl⟩
theorem cells_form {w : World} {lo n : Nat} {v : Value} {xs : List Value} {e : TypeId} (h : w.ownsRow lo e 1 v n xs) : ∃ A c, v = .slice A n c := by
 rcases Joins.ownsRow_forms h with ⟨rfl, h0⟩ | ⟨g, c, rfl⟩
 ·exact ⟨none, 0, by rw [h0]⟩
 ·exact ⟨_, _, rfl⟩

set_option maxRecDepth 100000 in
set_option maxHeartbeats 2000000 in
theorem placeOf1_any (W : World) (s : ByteArray) (z : Int) (Ax Ay : Option Addr) (n cx m cy V0 : Nat) (xs ys : List Int) (hx : RI .i32 W W.heap.size Ax n xs) (hy : RI .i32 W W.heap.size Ay m ys) (hV : One W V0 32 (.slice Ay m cy)) (hn : n ≤ 9223372036854775807) :
  Calls Tryz.prog 176 #[.agg #[.string s, .slice Ax n cx, .int .i64 z], .pointer (some ⟨V0, 0, none⟩)] W fun e w' => e = .returned (.bool (sameB xs ys)) ∧ Below W.heap.size W w' := by
 have hb : Below W.heap.size W (W.alloc (.cells #[.string s, .slice Ax n cx, .int .i64 z] 34)) := (Below.refl _ _).alloc (Nat.le_refl _) _
 have heq := equal_any (W.alloc (.cells #[.string s, .slice Ax n cx, .int .i64 z] 34)) _ _ Ax Ay n cx m cy xs ys (hx.keep fun p hp => hb.cell hp) (hy.keep fun p hp => hb.cell hp) hn
 have q0 := hV.cell
 have q1 := (hV.alloc (.cells #[.string s, .slice Ax n cx, .int .i64 z] 34)).cell
 have hl := hV.lt
 have HB := Lib.hid hb
 clear hx hy hV hb
 go_enter Tryz.func176, Tryz.ntmps176
 go_wp2_with (go_at_call 177; refine heq.mono ?_; rintro e w2 ⟨rfl, q, rfl⟩)
 go_ret
 exact ⟨rfl, HB.out.trans ⟨rfl, rfl, rfl, Nat.le_refl _, fun _ _ => rfl⟩⟩

def placeV (o : List Elm) (c : List Int) : Int := match placeL o c with | some i => (i : Int) | none => -1
theorem placeL_found {o : List Elm} {c : List Int} {k : Nat} (hk : k < o.length) (hq : (fun j => match o[j]? with | some e => sameB e.cells c | none => false) k = true) (hm : ∀ j, j < k → (fun j => match o[j]? with | some e => sameB e.cells c | none => false) j = false) : placeL o c = some k := by
 unfold placeL
 rw [List.findIdx?_eq_some_iff_getElem]
 refine ⟨hk, ?_, fun j hj => ?_⟩
 ·simp only [List.getElem?_eq_getElem hk] at hq
  simpa [sameB] using hq
 ·have := hm j hj
  simp only [List.getElem?_eq_getElem (Nat.lt_trans hj hk)] at this
  simpa [sameB] using this
theorem placeL_none {o : List Elm} {c : List Int} (hm : ∀ j, j < o.length → (fun j => match o[j]? with | some e => sameB e.cells c | none => false) j = false) : placeL o c = none := by
 unfold placeL
 rw [List.findIdx?_eq_none_iff]
 intro e he
 obtain ⟨i, hi⟩ := List.getElem?_of_mem he
 have hl : i < o.length := (List.getElem?_eq_some_iff.1 hi).1
 have := hm i hl
 simp only [hi] at this
 simpa [sameB] using this

set_option maxRecDepth 100000 in
set_option maxHeartbeats 2000000 in
theorem placeOf_any (w : World) (lo R : Nat) (T : TV) (k : Nat) (v1 v2 v3 v4 v5 v : Value) (o : List Elm) (c : List Int) (h : CU w R T k v1 v2 v3 v4 v5) (ho : OrdAt w lo v4 o) (hv : w.ownsRow lo 35 1 v c.length (celC c)) (hn : o.length ≤ 2000) :
  Calls Tryz.prog 134 #[.pointer (some ⟨R, 0, none⟩), v] w fun e w' => e = .returned (.int .i64 (placeV o c)) ∧ Below w.heap.size w w' := by
 obtain ⟨A, cap, rfl⟩ := ho.form
 obtain ⟨Av, cv, rfl⟩ := cells_form hv
 obtain ⟨W, hW⟩ : ∃ W, W = w.alloc (.cells #[.slice Av c.length cv] 32) := ⟨_, rfl⟩
 have hb : Below w.heap.size w W := by rw [hW]; exact (Below.refl _ _).alloc (Nat.le_refl _) _
 have hone : One W w.heap.size 32 (.slice Av c.length cv) := by rw [hW]; exact heap_alloc_new w _
 have hoW := ho.next hb
 obtain ⟨vs, h1, h2, h3⟩ := hoW
 have hys : RI .i32 W W.heap.size Av c.length c := by rw [hW]; exact RI.of_own (hv.alloc _)
 have hfind := findPlace_any W W.heap.size A o.length cap (ordR o vs) w.heap.size (fun j => match o[j]? with | some e => sameB e.cells c | none => false) (fun _ w' => Below W.heap.size W w') (fun _ w' => Below W.heap.size W w') (by unfold maxLen; omega) (Below.refl _ _)
  (fun k w' hw => (SI.of_own h2 (ordR_len h1) ordR_each).on hw (Nat.le_refl _))
  (fun k a b z w' hx hw => by
   obtain ⟨e, x, he, hvx, hxe⟩ := ordR_at hx
   simp at hxe
   obtain ⟨rfl, rfl, rfl⟩ := hxe
   have hc := h3 k e b he hvx
   obtain ⟨Ax, cx, rfl⟩ := cells_form hc
   have hxs : RI .i32 W W.heap.size Ax e.cells.length e.cells := RI.of_own hc
   have hl := hw.size
   have hcap : e.cells.length ≤ 9223372036854775807 := by
    rcases hc.2 with ⟨_, h0⟩ | ⟨_, _, _, _, _, _, h5, h6, _⟩
    ·omega
    ·unfold maxLen at h6; omega
   refine (placeOf1_any w' (str e.name) e.same Ax Av e.cells.length cx c.length cv w.heap.size e.cells c ((hxs.keep fun p hp => hw.cell hp).more hl) ((hys.keep fun p hp => hw.cell hp).more hl) ((hw.block _ hone.lt).trans hone) hcap).mono ?_
   rintro e2 w2 ⟨rfl, hb2⟩
   have hw2 : Below W.heap.size W w2 := hw.trans ⟨hb2.os, hb2.tape, hb2.output, hb2.size, fun i hi => hb2.block i (by omega)⟩
   simp only [he]
   exact ⟨rfl, fun _ => hw2, fun _ => hw2⟩)
 have q0 := h.more.2.2.2.1
 have q1 : W.cell? ⟨R, 5, none⟩ = some (.slice A o.length cap) := (h.next hb).more.2.2.2.1
 have hR := h.lt
 have hmf : ∀ (fn : Fn) (first cap : Array Value) (w : World), (Instr.makeFunc fn first cap).run Tryz.prog w = .ok (.func fn first cap) w := fun _ _ _ _ => rfl
 have HB := Lib.hid hb
 rw [hW] at q1
 clear h ho hv hb hone h1 h2 h3 hys
 go_enter Tryz.func134, Tryz.ntmps134
 go_wp2_with fail
 rw [← hW]
 clear hW q1
 refine hfind.mono ?_
 have hbb : ∀ w2, Below W.heap.size W w2 → Below w.heap.size w w2 := fun w2 h2 => HB.out.trans ⟨h2.os, h2.tape, h2.output, h2.size, fun i hi => h2.block i (by have := HB.out.size; omega)⟩
 rintro e w2 (⟨j, hj, hq, hm, rfl, hb2⟩ | ⟨hm, rfl, hb2⟩)
 ·have hp : placeV o c = j := by unfold placeV; rw [placeL_found hj hq hm]
  go_wp2
  go_ret
  rw [hp]
  exact ⟨rfl, hbb _ hb2⟩
 ·have hp : placeV o c = -1 := by unfold placeV; rw [placeL_none hm]
  go_wp2
  go_ret
  rw [hp]
  exact ⟨rfl, hbb _ hb2⟩
end Go.Proofs.YthaibekbefndlaaGreatDoor.C

namespace Go.Proofs.YthaibekbefndlaaGreatDoor.C
open Go.RowKit

theorem own_one (W : World) (lo : Nat) (c : Int) (g : Nat) (hg : W.heap.size = g) (hlo : lo ≤ W.heap.size) : (W.alloc (.cells #[.int .i32 c] 35)).ownsRow lo 35 1 (.slice (some ⟨g, 0, none⟩) 1 1) 1 (celC [c]) := by
 subst hg
 exact ⟨rfl, .inr ⟨_, 1, #[.int .i32 c], rfl, hlo, heap_alloc_new W _, Nat.le_refl _, by unfold maxLen; omega, rfl, rfl⟩⟩
def CoTold (w : World) (lo : Nat) : Except Er (List Int) → Ending → World → Prop
 | .ok c, e, w' => (∃ v, e = .returned v ∧ w'.ownsRow lo 35 1 v c.length (celC c)) ∧ Below w.heap.size w w'
 | .error er, e, w' => e = .panicked (faultV er.1 er.2) ∧ Below w.heap.size w w'
set_option maxRecDepth 100000 in
set_option maxHeartbeats 4000000 in
theorem cellsOf_any (w : World) (lo R : Nat) (T : TV) (k : Nat) (v1 v2 v3 v4 : Value) (M : Nat) (d : List (List UInt8 × List Int)) (x : Tok) (h : CU w R T k v1 v2 v3 v4 (.map (some M))) (hd : DeAt w lo M d) (hx : x.n ≤ 1114111) (hlw : lo ≤ w.heap.size) :
  Calls Tryz.prog 133 #[.pointer (some ⟨R, 0, none⟩), tkV x] w (CoTold w lo (itemL d x)) := by
 obtain ⟨xk, xt, xn, xa⟩ := x
 simp only at hx
 have hR := h.lt
 obtain ⟨X, hX⟩ : ∃ X, X = itemL d ⟨xk, xt, xn, xa⟩ := ⟨_, rfl⟩
 rw [← hX]
 unfold itemL at hX
 simp only at hX
 obtain ⟨W1, hW1⟩ : ∃ W1, W1 = w.alloc (.cells #[.int .u8 xk, .string (str xt), .int .i64 xn, .int .i64 xa] 92) := ⟨_, rfl⟩
 have hb1 : Below w.heap.size w W1 := by rw [hW1]; exact (Below.refl _ _).alloc (Nat.le_refl _) _
 have hs1 : W1.heap.size = w.heap.size + 1 := by rw [hW1]; simp
 by_cases hk : xk = 3
 ·subst hk
  rw [if_pos rfl] at hX
  subst hX
  have n0 : (0 : Int) ≤ (xn : Int) := by omega
  have n1 : (xn : Int) ≤ 1114111 := by omega
  have e1 : IntKind.i32.wrap (xn : Int) = (xn : Int) := wrap32 n0 n1
  have hown := own_one W1 lo xn (w.heap.size + 1) hs1 (by omega)
  have hb2 : Below w.heap.size w (W1.alloc (.cells #[.int .i32 xn] 35)) := hb1.trans ((Below.refl _ _).alloc (by omega) _)
  have HO := Lib.hid hown
  have HB := Lib.hid hb2
  rw [hW1] at HO HB
  clear h hd hb1 hs1 hW1 hown hb2
  unfold tkV
  go_enter Tryz.func133, Tryz.ntmps133
  go_wp2
  go_ret
  exact ⟨⟨_, rfl, HO.out⟩, HB.out⟩
 ·rw [if_neg hk] at hX
  have hk' : ¬ (xk : Int) = 3 := by omega
  have hc1 := (h.next hb1)
  have ht1 : LTk W1 w.heap.size ⟨xk, xt, xn, xa⟩ := by rw [hW1]; exact LTk.new w ⟨xk, xt, xn, xa⟩
  have HC1 := Lib.hid hc1
  have HT1 := Lib.hid ht1
  have hde := (hd.next hb1).drew
  have HB := Lib.hid hb1
  cases hl : lookD d xt with
  | some c =>
   rw [hl] at hX
   simp only at hX
   subst hX
   obtain ⟨v, hv, hlk⟩ := hde.yes hl
   have HV := Lib.hid hv
   clear h hd hb1 hc1 ht1 hde hl hk hv
   unfold tkV
   go_enter Tryz.func133, Tryz.ntmps133
   go_wp2
   rw [← hW1]
   have q1 := HC1.out.drew.more.2.2.2.2
   obtain ⟨t0, t1, t2, t3⟩ := HT1.out.drew.cells
   clear hW1
   go_region_held3 (fun w' => w'.cell? ⟨R, 6, none⟩ = some (.map (some M)) ∧ w'.cell? ⟨w.heap.size, 1, none⟩ = some (.string (str xt))) (go_keep) (fail)
   go_wp2
   go_ret
   exact ⟨⟨v, rfl, HV.out⟩, HB.out.trans ⟨rfl, rfl, rfl, Nat.le_refl _, fun _ _ => rfl⟩⟩
  | none =>
   rw [hl] at hX
   simp only at hX
   subst hX
   have hlk := hde.no hl
   have hrf := fun W => refuse_any 31 ⟨xk, xt, xn, xa⟩ W
   unfold tkV at hrf
   clear h hd hb1 hc1 ht1 hde hl hk
   unfold tkV
   go_enter Tryz.func133, Tryz.ntmps133
   go_wp2
   rw [← hW1]
   have q1 := HC1.out.drew.more.2.2.2.2
   obtain ⟨t0, t1, t2, t3⟩ := HT1.out.drew.cells
   clear hW1
   go_region_held3 (fun w' => w'.cell? ⟨R, 6, none⟩ = some (.map (some M)) ∧ w'.cell? ⟨w.heap.size, 1, none⟩ = some (.string (str xt))) (go_keep) (fail)
   go_wp2_with fail
   refine (hrf _).mono ?_
   rintro e w2 ⟨rfl, hb2⟩
   exact ⟨rfl, rfl, HB.out.trans ⟨hb2.os, hb2.tape, hb2.output, hb2.size, fun i hi => hb2.block i (by show i < W1.heap.size; omega)⟩⟩
end Go.Proofs.YthaibekbefndlaaGreatDoor.C
