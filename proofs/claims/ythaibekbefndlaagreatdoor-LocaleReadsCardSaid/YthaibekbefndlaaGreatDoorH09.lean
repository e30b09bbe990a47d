/-
  Joined: LcN, LcW, LcX, LcY, MLxM. Each with what its own head says.
-/
import Derived.Laws.BitsLemmas
import Derived.Test.YthaibekbefndlaaGreatDoorH08

namespace Go.Proofs.YthaibekbefndlaaGreatDoor.C
open Go.RowKit

def pairD (l : List (Int × Int)) (a b : Tok) (r : List Tok) : Re (List (Int × Int)) := match takeT 2 sShut r with
 | .error e => .error e
 | .ok (_, r5) => .ok (l ++ [((a.n : Int), (b.n : Int))], r5)
def pairC (l : List (Int × Int)) (a : Tok) (r : List Tok) : Re (List (Int × Int)) := match takeK [3] r with
 | .error e => .error e
 | .ok (b, r4) => pairD l a b r4
def pairB (l : List (Int × Int)) (a : Tok) (r : List Tok) : Re (List (Int × Int)) := match takeT 2 sComma r with
 | .error e => .error e
 | .ok (_, r3) => pairC l a r3
def pairA (l : List (Int × Int)) (r : List Tok) : Re (List (Int × Int)) := match takeK [3] r with
 | .error e => .error e
 | .ok (a, r2) => if (a.n : Int) ∈ l.map Prod.fst then .error (32, a.at_) else pairB l a r2
theorem pairL_A (l : List (Int × Int)) (ts : List Tok) : pairL l ts = match takeT 2 sOpen ts with
 | .error e => .error e
 | .ok (_, r) => pairA l r := by
 unfold pairL
 cases takeT 2 sOpen ts with
 | error e => rfl
 | ok y => rfl
section
variable {l : List (Int × Int)} {a b x : Tok} {r : List Tok}
theorem pairL_no (h : ¬ (x.k = 2 ∧ x.t = sOpen)) : pairL l (x :: r) = .error (30, x.at_) := by rw [pairL_A, takeT, if_neg h]
theorem pairL_yes (h : x.k = 2 ∧ x.t = sOpen) : pairL l (x :: r) = pairA l r := by rw [pairL_A, takeT, if_pos h]
theorem pairA_no (h : ¬ x.k = 3) : pairA l (x :: r) = .error (30, x.at_) := by rw [pairA, takeK, if_neg (by simpa using h)]
theorem pairA_twice (h : x.k = 3) (hi : (x.n : Int) ∈ l.map Prod.fst) : pairA l (x :: r) = .error (32, x.at_) := by
 rw [pairA, takeK, if_pos (by simpa using h)]
 exact if_pos hi
theorem pairA_yes (h : x.k = 3) (hi : (x.n : Int) ∉ l.map Prod.fst) : pairA l (x :: r) = pairB l x r := by
 rw [pairA, takeK, if_pos (by simpa using h)]
 exact if_neg hi
theorem pairB_no (h : ¬ (x.k = 2 ∧ x.t = sComma)) : pairB l a (x :: r) = .error (30, x.at_) := by rw [pairB, takeT, if_neg h]
theorem pairB_yes (h : x.k = 2 ∧ x.t = sComma) : pairB l a (x :: r) = pairC l a r := by rw [pairB, takeT, if_pos h]
theorem pairC_no (h : ¬ x.k = 3) : pairC l a (x :: r) = .error (30, x.at_) := by rw [pairC, takeK, if_neg (by simpa using h)]
theorem pairC_yes (h : x.k = 3) : pairC l a (x :: r) = pairD l a x r := by rw [pairC, takeK, if_pos (by simpa using h)]
theorem pairD_no (h : ¬ (x.k = 2 ∧ x.t = sShut)) : pairD l a b (x :: r) = .error (30, x.at_) := by rw [pairD, takeT, if_neg h]
theorem pairD_yes (h : x.k = 2 ∧ x.t = sShut) : pairD l a b (x :: r) = .ok (l ++ [((a.n : Int), (b.n : Int))], r) := by rw [pairD, takeT, if_pos h]
end
theorem wrap32 {n : Int} (h0 : 0 ≤ n) (h1 : n ≤ 1114111) : IntKind.i32.wrap n = n := by
 rw [IntKind.wrap_i32]
 omega
def FnI (A : Nat) : Value := .func (.func 170) #[] #[.pointer (some ⟨A, 0, none⟩)]
def numsV (l : List (Int × Int)) : List Value := l.map fun x => .int .i64 x.1
theorem nums_in {l : List (Int × Int)} {n : Int} : Value.int .i64 n ∈ numsV l ↔ n ∈ l.map Prod.fst := by
 unfold numsV
 rw [List.mem_map, List.mem_map]
 constructor
 ·rintro ⟨c, hc, he⟩
  injection he with _ he
  exact ⟨c, hc, he⟩
 ·rintro ⟨c, hc, he⟩
  exact ⟨c, hc, by rw [he]⟩
theorem One.nomap {w : World} {j M : Nat} {t : TypeId} {v : Value} {kd : TypeDesc} {l : List (Value × Value)} (h : One w j t v) (hm : MapIs w M kd l) : j ≠ M := by
 rintro rfl
 obtain ⟨es, c, h1, _⟩ := hm
 have e := h.symm.trans h1
 simp at e
theorem row_nomap {w : World} {base size n M : Nat} {e : TypeId} {v : Value} {xs : List Value} {kd : TypeDesc} {l : List (Value × Value)} (h : w.ownsRow base e size v n xs) (hm : MapIs w M kd l) : ¬ v.ownBlock = some M := by
 intro he
 obtain ⟨c, hc⟩ := ownsRow_ty h he
 obtain ⟨es, q, h1, _⟩ := hm
 rw [h1] at hc
 cases hc
theorem One.noR {w : World} {j R k : Nat} {T : TV} {v1 v2 v3 v4 v5 v : Value} {t : TypeId} (h : One w j t v) (hc : CU w R T k v1 v2 v3 v4 v5) : j ≠ R := by
 rintro rfl
 have e := h.symm.trans hc.1
 simp at e
theorem infoPair : (Tryz.prog.info? 49).map (fun i => (i.zero, i.size, i.bytes)) = some (some (.agg #[.int .i32 0, .int .i32 0]), 2, 8) := by kernel_rfl

structure PrU (w0 : World) (u0 : Value) (lo R : Nat) (T : TV) (v1 v3 v4 v5 : Value) (A M Rb Ab Tb : Nat) (u : Value) (ks : List Value) (l : List (Int × Int)) (k : Nat) (W : World) : Prop where
 cu : CU W R T k v1 u v3 v4 v5
 row : W.ownsRow lo 49 2 u l.length (prsC l)
 own : ∀ g, u.ownBlock = some g → u0.ownBlock = some g ∨ w0.heap.size ≤ g
 ft : FT W 200 (.int .i64) A M ks
 rb : One W Rb 88 (.pointer (some ⟨R, 0, none⟩))
 ab : One W Ab 166 (FnI A)
 tb : One W Tb 132 (.pointer (some ⟨R, 3, none⟩))
 fr : Fr w0 W (fun j => j = R ∨ j = M ∨ u0.ownBlock = some j)
section
variable {w0 : World} {u0 : Value} {lo R : Nat} {T : TV} {v1 v3 v4 v5 : Value} {A M Rb Ab Tb : Nat} {u : Value} {ks : List Value} {l : List (Int × Int)} {k : Nat} {W W' : World}
theorem PrU.go {k' : Nat} (h : PrU w0 u0 lo R T v1 v3 v4 v5 A M Rb Ab Tb u ks l k W) (hc : CU W' R T k' v1 u v3 v4 v5) (hm : Moved W W' R) : PrU w0 u0 lo R T v1 v3 v4 v5 A M Rb Ab Tb u ks l k' W' := by
 have hf := Fr.of_moved hm
 have hA : ¬ A = R := by
  rintro rfl
  have e := h.ft.1.symm.trans h.cu.1
  simp at e
 have hM : ¬ M = R := by
  rintro rfl
  obtain ⟨es, q, h1, _⟩ := h.ft.2
  have e := h1.symm.trans h.cu.1
  simp at e
 exact ⟨hc, h.row.kept hm (.inr (row_ne h.row h.cu.1 (by decide))), h.own, h.ft.fr hf hA hM, h.rb.fr hf (h.rb.noR h.cu), h.ab.fr hf (h.ab.noR h.cu), h.tb.fr hf (h.tb.noR h.cu), h.fr.next hf (fun j _ e => .inl e)⟩
theorem PrU.below (h : PrU w0 u0 lo R T v1 v3 v4 v5 A M Rb Ab Tb u ks l k W) (hb : Below W.heap.size W W') : PrU w0 u0 lo R T v1 v3 v4 v5 A M Rb Ab Tb u ks l k W' := h.go (h.cu.next hb) (.of_below hb)
theorem PrU.alloc (h : PrU w0 u0 lo R T v1 v3 v4 v5 A M Rb Ab Tb u ks l k W) (o : Obj) : PrU w0 u0 lo R T v1 v3 v4 v5 A M Rb Ab Tb u ks l k (W.alloc o) := h.below ((Below.refl _ _).alloc (Nat.le_refl _) o)
theorem PrU.drew (h : PrU w0 u0 lo R T v1 v3 v4 v5 A M Rb Ab Tb u ks l k W) : PrU w0 u0 lo R T v1 v3 v4 v5 A M Rb Ab Tb u ks l k W.drew := ⟨h.cu.drew, h.row.drew, h.own, h.ft, h.rb, h.ab, h.tb, h.fr.drew⟩
theorem PrU.asked {ks' : List Value} (h : PrU w0 u0 lo R T v1 v3 v4 v5 A M Rb Ab Tb u ks l k W) (hf : FT W' 200 (.int .i64) A M ks') (hg : W.grownBy W' (some M)) (hM : R < M) : PrU w0 u0 lo R T v1 v3 v4 v5 A M Rb Ab Tb u ks' l k W' := by
 have hf2 : Fr W W' (· = M) := (Fr.of_grown hg).mono (fun j _ e => by injection e with e; exact e.symm)
 exact ⟨h.cu.fr hf2 (fun j e => by rw [show j = M from e]; exact hM), h.row.kept hg (.inr (row_nomap h.row h.ft.2)), h.own, hf, h.rb.fr hf2 (h.rb.nomap h.ft.2), h.ab.fr hf2 (h.ab.nomap h.ft.2), h.tb.fr hf2 (h.tb.nomap h.ft.2), h.fr.next hf2 (fun j _ e => .inr (.inl e))⟩
theorem PrU.more {g cap : Nat} (x : Int × Int) (h : PrU w0 u0 lo R T v1 v3 v4 v5 A M Rb Ab Tb u ks l k W) (hg : W.grownBy W' u.ownBlock) (ho : W'.ownsRow lo 49 2 (.slice (some ⟨g, 0, none⟩) (l.length + 1) cap) (l.length + 1) (prsC l ++ [.int .i32 x.1, .int .i32 x.2]))
  (hat : u.ownBlock = some g ∨ w0.heap.size ≤ g) (hlo : R < lo) :
  CU W' R T k v1 u v3 v4 v5 ∧ One W' Tb 132 (.pointer (some ⟨R, 3, none⟩)) ∧ PrU w0 u0 lo R T v1 v3 v4 v5 A M Rb Ab Tb (.slice (some ⟨g, 0, none⟩) (l.length + 1) cap) ks (l ++ [x]) k (W'.setCell ⟨R, 3, none⟩ (.slice (some ⟨g, 0, none⟩) (l.length + 1) cap)) := by
 have hrow : ∀ j, u.ownBlock = some j → R < j := fun j e => by have := (h.row.lt j e).1; omega
 have hf := Fr.of_grown hg
 have hc' := h.cu.fr hf hrow
 have hset : Fr W' (W'.setCell ⟨R, 3, none⟩ (.slice (some ⟨g, 0, none⟩) (l.length + 1) cap)) (· = R) := (Fr.of_below (Below.refl _ W')).set _ _ (fun _ => rfl)
 have hA : ¬ A = R := by
  rintro rfl
  have e := h.ft.1.symm.trans h.cu.1
  simp at e
 have hM : ¬ M = R := by
  rintro rfl
  obtain ⟨es, q, h1, _⟩ := h.ft.2
  have e := h1.symm.trans h.cu.1
  simp at e
 have a1 := h.rb.fr hf (row_ne h.row h.rb (by decide))
 have a2 := h.ab.fr hf (row_ne h.row h.ab (by decide))
 have a3 := h.tb.fr hf (row_ne h.row h.tb (by decide))
 have a4 := h.ft.fr hf (row_ne h.row h.ft.1 (by decide)) (row_nomap h.row h.ft.2)
 refine ⟨hc', a3, hc'.set2 _, ?_, ?_, a4.fr hset hA hM, a1.fr hset (a1.noR hc'), a2.fr hset (a2.noR hc'), a3.fr hset (a3.noR hc'), ?_⟩
 ·rw [List.length_append, prsC_snoc]
  exact ownsRow_fr ho hset (fun j e e2 => row_ne ho hc'.1 (by decide) (by rw [e]; exact congrArg some e2))
 ·intro j e
  injection e with e
  subst e
  rcases hat with hat | hat
  ·exact h.own _ hat
  ·exact .inr hat
 ·refine (h.fr.next hf fun j hj e => ?_).next hset (fun j _ e => .inl e)
  rcases h.own j e with e | e
  ·exact .inr (.inr e)
  ·omega
end

structure PrL (w0 : World) (u0 : Value) (lo R : Nat) (T : TV) (v1 v2 v4 v5 : Value) (A M Rb Ab Tb : Nat) (u : Value) (ks : List Value) (l : List (Int × Int)) (k : Nat) (W : World) : Prop where
 cu : CU W R T k v1 v2 u v4 v5
 row : W.ownsRow lo 49 2 u l.length (prsC l)
 own : ∀ g, u.ownBlock = some g → u0.ownBlock = some g ∨ w0.heap.size ≤ g
 ft : FT W 200 (.int .i64) A M ks
 rb : One W Rb 88 (.pointer (some ⟨R, 0, none⟩))
 ab : One W Ab 166 (FnI A)
 tb : One W Tb 132 (.pointer (some ⟨R, 4, none⟩))
 fr : Fr w0 W (fun j => j = R ∨ j = M ∨ u0.ownBlock = some j)
section
variable {w0 : World} {u0 : Value} {lo R : Nat} {T : TV} {v1 v2 v4 v5 : Value} {A M Rb Ab Tb : Nat} {u : Value} {ks : List Value} {l : List (Int × Int)} {k : Nat} {W W' : World}
theorem PrL.go {k' : Nat} (h : PrL w0 u0 lo R T v1 v2 v4 v5 A M Rb Ab Tb u ks l k W) (hc : CU W' R T k' v1 v2 u v4 v5) (hm : Moved W W' R) : PrL w0 u0 lo R T v1 v2 v4 v5 A M Rb Ab Tb u ks l k' W' := by
 have hf := Fr.of_moved hm
 have hA : ¬ A = R := by
  rintro rfl
  have e := h.ft.1.symm.trans h.cu.1
  simp at e
 have hM : ¬ M = R := by
  rintro rfl
  obtain ⟨es, q, h1, _⟩ := h.ft.2
  have e := h1.symm.trans h.cu.1
  simp at e
 exact ⟨hc, h.row.kept hm (.inr (row_ne h.row h.cu.1 (by decide))), h.own, h.ft.fr hf hA hM, h.rb.fr hf (h.rb.noR h.cu), h.ab.fr hf (h.ab.noR h.cu), h.tb.fr hf (h.tb.noR h.cu), h.fr.next hf (fun j _ e => .inl e)⟩
theorem PrL.below (h : PrL w0 u0 lo R T v1 v2 v4 v5 A M Rb Ab Tb u ks l k W) (hb : Below W.heap.size W W') : PrL w0 u0 lo R T v1 v2 v4 v5 A M Rb Ab Tb u ks l k W' := h.go (h.cu.next hb) (.of_below hb)
theorem PrL.alloc (h : PrL w0 u0 lo R T v1 v2 v4 v5 A M Rb Ab Tb u ks l k W) (o : Obj) : PrL w0 u0 lo R T v1 v2 v4 v5 A M Rb Ab Tb u ks l k (W.alloc o) := h.below ((Below.refl _ _).alloc (Nat.le_refl _) o)
theorem PrL.drew (h : PrL w0 u0 lo R T v1 v2 v4 v5 A M Rb Ab Tb u ks l k W) : PrL w0 u0 lo R T v1 v2 v4 v5 A M Rb Ab Tb u ks l k W.drew := ⟨h.cu.drew, h.row.drew, h.own, h.ft, h.rb, h.ab, h.tb, h.fr.drew⟩
theorem PrL.asked {ks' : List Value} (h : PrL w0 u0 lo R T v1 v2 v4 v5 A M Rb Ab Tb u ks l k W) (hf : FT W' 200 (.int .i64) A M ks') (hg : W.grownBy W' (some M)) (hM : R < M) : PrL w0 u0 lo R T v1 v2 v4 v5 A M Rb Ab Tb u ks' l k W' := by
 have hf2 : Fr W W' (· = M) := (Fr.of_grown hg).mono (fun j _ e => by injection e with e; exact e.symm)
 exact ⟨h.cu.fr hf2 (fun j e => by rw [show j = M from e]; exact hM), h.row.kept hg (.inr (row_nomap h.row h.ft.2)), h.own, hf, h.rb.fr hf2 (h.rb.nomap h.ft.2), h.ab.fr hf2 (h.ab.nomap h.ft.2), h.tb.fr hf2 (h.tb.nomap h.ft.2), h.fr.next hf2 (fun j _ e => .inr (.inl e))⟩
theorem PrL.more {g cap : Nat} (x : Int × Int) (h : PrL w0 u0 lo R T v1 v2 v4 v5 A M Rb Ab Tb u ks l k W) (hg : W.grownBy W' u.ownBlock) (ho : W'.ownsRow lo 49 2 (.slice (some ⟨g, 0, none⟩) (l.length + 1) cap) (l.length + 1) (prsC l ++ [.int .i32 x.1, .int .i32 x.2]))
  (hat : u.ownBlock = some g ∨ w0.heap.size ≤ g) (hlo : R < lo) :
  CU W' R T k v1 v2 u v4 v5 ∧ One W' Tb 132 (.pointer (some ⟨R, 4, none⟩)) ∧ PrL w0 u0 lo R T v1 v2 v4 v5 A M Rb Ab Tb (.slice (some ⟨g, 0, none⟩) (l.length + 1) cap) ks (l ++ [x]) k (W'.setCell ⟨R, 4, none⟩ (.slice (some ⟨g, 0, none⟩) (l.length + 1) cap)) := by
 have hrow : ∀ j, u.ownBlock = some j → R < j := fun j e => by have := (h.row.lt j e).1; omega
 have hf := Fr.of_grown hg
 have hc' := h.cu.fr hf hrow
 have hset : Fr W' (W'.setCell ⟨R, 4, none⟩ (.slice (some ⟨g, 0, none⟩) (l.length + 1) cap)) (· = R) := (Fr.of_below (Below.refl _ W')).set _ _ (fun _ => rfl)
 have hA : ¬ A = R := by
  rintro rfl
  have e := h.ft.1.symm.trans h.cu.1
  simp at e
 have hM : ¬ M = R := by
  rintro rfl
  obtain ⟨es, q, h1, _⟩ := h.ft.2
  have e := h1.symm.trans h.cu.1
  simp at e
 have a1 := h.rb.fr hf (row_ne h.row h.rb (by decide))
 have a2 := h.ab.fr hf (row_ne h.row h.ab (by decide))
 have a3 := h.tb.fr hf (row_ne h.row h.tb (by decide))
 have a4 := h.ft.fr hf (row_ne h.row h.ft.1 (by decide)) (row_nomap h.row h.ft.2)
 refine ⟨hc', a3, hc'.set3 _, ?_, ?_, a4.fr hset hA hM, a1.fr hset (a1.noR hc'), a2.fr hset (a2.noR hc'), a3.fr hset (a3.noR hc'), ?_⟩
 ·rw [List.length_append, prsC_snoc]
  exact ownsRow_fr ho hset (fun j e e2 => row_ne ho hc'.1 (by decide) (by rw [e]; exact congrArg some e2))
 ·intro j e
  injection e with e
  subst e
  rcases hat with hat | hat
  ·exact h.own _ hat
  ·exact .inr hat
 ·refine (h.fr.next hf fun j hj e => ?_).next hset (fun j _ e => .inl e)
  rcases h.own j e with e | e
  ·exact .inr (.inr e)
  ·omega
end
end Go.Proofs.YthaibekbefndlaaGreatDoor.C

namespace Go.Proofs.YthaibekbefndlaaGreatDoor.C
open Go.RowKit

section
variable (w0 : World) (u0 : Value) (lo R : Nat) (T : TV) (v1 v3 v4 v5 : Value) (A M Rb Ab Tb : Nat)
set_option maxRecDepth 100000 in
set_option maxHeartbeats 8000000 in
theorem pairItemU_any (l : List (Int × Int)) (k : Nat) (u : Value) (w : World) (hP : PrU w0 u0 lo R T v1 v3 v4 v5 A M Rb Ab Tb u (numsV l) l k w) (hl : l.length ≤ k) (hN : NumOk T) (hE : Ended (T.ts.drop k)) (hlo : R < lo) (hlw : lo ≤ w0.heap.size) (hM : R < M) :
  Calls Tryz.prog 127 #[.pointer (some ⟨Rb, 0, none⟩), .pointer (some ⟨Ab, 0, none⟩), .pointer (some ⟨Tb, 0, none⟩)] w
   (ItTold T (fun l' k' W => (∃ u', PrU w0 u0 lo R T v1 v3 v4 v5 A M Rb Ab Tb u' (numsV l') l' k' W) ∧ l'.length ≤ k') (fun W => Fr w0 W (fun j => j = R ∨ j = M ∨ u0.ownBlock = some j)) (pairL l (T.ts.drop k))) := by
 have HP := Lib.hid hP
 have hsz := hP.fr.size
 have hkT := hP.cu.2.2
 have q0 := hP.rb.cell
 obtain ⟨i0, hi, hz0, hz1, hz2⟩ := info_parts infoPair
 obtain ⟨x0, r0, hx0⟩ := hE.some_
 obtain ⟨X, hX⟩ : ∃ X, X = pairL l (T.ts.drop k) := ⟨_, rfl⟩
 rw [← hX]
 rw [hx0] at hX
 by_cases c0 : x0.k = 2 ∧ x0.t = sOpen
 rotate_left
 ·have hta := takeText_no w R T k v1 u v3 v4 v5 x0 r0 2 sOpen hP.cu hx0 c0
  rw [hX, pairL_no c0]
  clear hP hN hE hX c0 hx0
  go_enter Tryz.func127, Tryz.ntmps127
  go_wp2_with fail
  refine hta.mono ?_
  rintro e w1 ⟨rfl, hm1⟩
  exact ⟨rfl, rfl, HP.out.fr.next (Fr.of_moved hm1) (fun j _ e => .inl e)⟩
 have hta := takeText_yes w R T k v1 u v3 v4 v5 x0 r0 2 sOpen hP.cu hx0 c0.1 c0.2
 have HX := Lib.hid (hX.trans (pairL_yes c0))
 rw [hx0] at hE
 have hE1 := hE.cons (by omega)
 obtain ⟨x1, r1, hx1⟩ := hE1.some_
 have hd1 : T.ts.drop (k + 1) = x1 :: r1 := (drop_next hx0).trans hx1
 have HD1 := Lib.hid hd1
 have HE1 := Lib.hid (hx1 ▸ hE1)
 rw [hx1] at HX
 have hn1 := hN.at_ hd1
 have HN := Lib.hid hN
 clear hP hN hE hX c0 hx0 hE1 hx1 hd1
 go_enter Tryz.func127, Tryz.ntmps127
 go_wp2_with fail
 refine hta.mono ?_
 rintro e w1 ⟨rfl, hc1, hm1⟩
 have HP1 := Lib.hid (HP.out.go hc1 hm1)
 have q1 := HP1.out.rb.cell
 clear hc1 hm1 hta q0
 by_cases c1 : x1.k = 3
 rotate_left
 ·have hta := take1_no w1 R T (k + 1) v1 u v3 v4 v5 x1 r1 _ rfl 3 HP1.out.cu HD1.out c1
  have HX2 := Lib.hid (HX.out.trans (pairA_no c1))
  clear c1
  go_wp2_with fail
  refine hta.mono ?_
  rintro e w2 ⟨rfl, hm2⟩
  have eX := HX2.out
  subst eX
  exact ⟨rfl, rfl, HP1.out.fr.next (Fr.of_moved hm2) (fun j _ e => .inl e)⟩
 have hta := take1_yes w1 R T (k + 1) v1 u v3 v4 v5 x1 r1 _ rfl 3 HP1.out.cu HD1.out c1
 have n10 : (0 : Int) ≤ (x1.n : Int) := by omega
 have n11 : (x1.n : Int) ≤ 1114111 := by omega
 have C1 := Lib.hid c1
 clear c1
 go_wp2_with fail
 refine hta.mono ?_
 rintro e w2 ⟨rfl, hc2, hm2⟩
 have HP2 := Lib.hid (HP1.out.go hc2 hm2)
 obtain ⟨W2, hW2⟩ : ∃ W2, W2 = w2.alloc (.cells #[.int .u8 x1.k, .string (str x1.t), .int .i64 x1.n, .int .i64 x1.at_] 92) := ⟨_, rfl⟩
 have HPW : Hid (PrU w0 u0 lo R T v1 v3 v4 v5 A M Rb Ab Tb u (numsV l) l (k + 1 + 1) W2) := Lib.hid (by rw [hW2]; exact HP2.out.alloc _)
 have HT1 : Hid (LTk W2 w2.heap.size x1) := Lib.hid (by rw [hW2]; exact LTk.new w2 x1)
 obtain ⟨-, -, p1, -⟩ := HT1.out.cells
 have p2 := HPW.out.ab.cell
 have p3 := HP2.out.ab.cell
 have p4 := HP2.out.ab.lt
 have hbR : w2.heap.size ≠ R := by have := HP2.out.cu.lt; omega
 have hb1M : w2.heap.size ≠ M := by have := HP2.out.ft.2.lt; omega
 unfold FnI at p2 p3
 rw [hW2] at p1 p2
 clear hc2 hm2 hta q1
 unfold tkV
 have hyn : Calls Tryz.prog 170 #[.int .i64 x1.n, .pointer (some ⟨A, 0, none⟩)] W2 fun e w' => (((x1.n : Int) ∈ l.map Prod.fst ∧ e = .returned (.bool false)) ∨ ((x1.n : Int) ∉ l.map Prod.fst ∧ e = .returned (.bool true) ∧ FT w' 200 (.int .i64) A M (numsV l ++ [.int .i64 x1.n]))) ∧ W2.grownBy w' (some M) := by
  by_cases c2 : (x1.n : Int) ∈ l.map Prod.fst
  ·exact (isNewI_no W2 A M (numsV l) x1.n HPW.out.ft (nums_in.2 c2)).mono fun e w' h => ⟨.inl ⟨c2, h.1⟩, h.2⟩
  ·exact (isNewI_yes W2 A M (numsV l) x1.n HPW.out.ft (fun h => c2 (nums_in.1 h))).mono fun e w' h => ⟨.inr ⟨c2, h.1, h.2.1⟩, h.2.2⟩
 go_wp2_with fail
 rw [← hW2]
 clear hW2 p1 p2 p3 p4
 refine hyn.mono ?_
 rintro e w3 ⟨hcase, hg3⟩
 have HT3 : Hid (LTk w3 w2.heap.size x1) := Lib.hid ((hg3.block _ HT1.out.lt (by intro e; injection e; omega)).trans HT1.out)
 obtain ⟨a0, a1, a2, a3⟩ := HT3.out.cells
 rcases hcase with ⟨c2, rfl⟩ | ⟨c2, rfl, hft3⟩
 ·have HX2 := Lib.hid (HX.out.trans (pairA_twice C1.out c2))
  have hrf := fun W => refuse_any 32 x1 W
  unfold tkV at hrf
  have HF3 := Lib.hid ((HPW.out.fr.next (Fr.of_grown hg3) (fun j _ e => .inr (.inl (by injection e with e; exact e.symm)))))
  clear hg3 hyn c2
  go_wp2_with fail
  refine (hrf _).mono ?_
  rintro e w4 ⟨rfl, hb4⟩
  have eX := HX2.out
  subst eX
  exact ⟨rfl, rfl, HF3.out.trans (.of_below hb4)⟩
 have HP3 := Lib.hid (HPW.out.asked hft3 hg3 hM)
 have q3 := HP3.out.rb.cell
 have HX2 := Lib.hid (HX.out.trans (pairA_yes C1.out c2))
 have hE2 := HE1.out.cons (by rw [C1.out]; omega)
 obtain ⟨x2, r2, hx2⟩ := hE2.some_
 have hd2 : T.ts.drop (k + 1 + 1) = x2 :: r2 := (drop_next HD1.out).trans hx2
 have HD2 := Lib.hid hd2
 have HE2 := Lib.hid (hx2 ▸ hE2)
 rw [hx2] at HX2
 clear hg3 hyn hft3 c2 hE2 hx2 hd2 hn1
 by_cases c2 : x2.k = 2 ∧ x2.t = sComma
 rotate_left
 ·have hta := takeText_no w3 R T (k + 1 + 1) v1 u v3 v4 v5 x2 r2 2 sComma HP3.out.cu HD2.out c2
  have HX3 := Lib.hid (HX2.out.trans (pairB_no c2))
  clear c2
  go_wp2_with fail
  refine hta.mono ?_
  rintro e w4 ⟨rfl, hm4⟩
  have eX := HX3.out
  subst eX
  exact ⟨rfl, rfl, HP3.out.fr.next (Fr.of_moved hm4) (fun j _ e => .inl e)⟩
 have hta := takeText_yes w3 R T (k + 1 + 1) v1 u v3 v4 v5 x2 r2 2 sComma HP3.out.cu HD2.out c2.1 c2.2
 have HX3 := Lib.hid (HX2.out.trans (pairB_yes c2))
 have hE3 := HE2.out.cons (by omega)
 clear c2
 go_wp2_with fail
 refine hta.mono ?_
 rintro e w4 ⟨rfl, hc4, hm4⟩
 have HP4 := Lib.hid (HP3.out.go hc4 hm4)
 have HT4 := Lib.hid (HT3.out.moved hm4 hbR)
 have q4 := HP4.out.rb.cell
 obtain ⟨x4, r4, hx4⟩ := hE3.some_
 have hd4 : T.ts.drop (k + 1 + 1 + 1) = x4 :: r4 := (drop_next HD2.out).trans hx4
 have HD4 := Lib.hid hd4
 have HE4 := Lib.hid (hx4 ▸ hE3)
 rw [hx4] at HX3
 have hn4 := HN.out.at_ hd4
 clear hc4 hm4 hta q3 a0 a1 a2 a3 hE3 hx4 hd4
 by_cases c4 : x4.k = 3
 rotate_left
 ·have hta := take1_no w4 R T (k + 1 + 1 + 1) v1 u v3 v4 v5 x4 r4 _ rfl 3 HP4.out.cu HD4.out c4
  have HX4 := Lib.hid (HX3.out.trans (pairC_no c4))
  clear c4
  go_wp2_with fail
  refine hta.mono ?_
  rintro e w5 ⟨rfl, hm5⟩
  have eX := HX4.out
  subst eX
  exact ⟨rfl, rfl, HP4.out.fr.next (Fr.of_moved hm5) (fun j _ e => .inl e)⟩
 have hta := take1_yes w4 R T (k + 1 + 1 + 1) v1 u v3 v4 v5 x4 r4 _ rfl 3 HP4.out.cu HD4.out c4
 have HX4 := Lib.hid (HX3.out.trans (pairC_yes c4))
 have hE5 := HE4.out.cons (by omega)
 have n40 : (0 : Int) ≤ (x4.n : Int) := by omega
 have n41 : (x4.n : Int) ≤ 1114111 := by omega
 clear c4
 go_wp2_with fail
 refine hta.mono ?_
 rintro e w5 ⟨rfl, hc5, hm5⟩
 obtain ⟨W5, hW5⟩ : ∃ W5, W5 = w5.alloc (.cells #[.int .u8 x4.k, .string (str x4.t), .int .i64 x4.n, .int .i64 x4.at_] 92) := ⟨_, rfl⟩
 have HPW5 : Hid (PrU w0 u0 lo R T v1 v3 v4 v5 A M Rb Ab Tb u (numsV l ++ [.int .i64 x1.n]) l (k + 1 + 1 + 1 + 1) W5) := Lib.hid (by rw [hW5]; exact (HP4.out.go hc5 hm5).alloc _)
 have HT51 : Hid (LTk W5 w2.heap.size x1) := Lib.hid (by rw [hW5]; exact (HT4.out.moved hm5 hbR).alloc _)
 have HT54 : Hid (LTk W5 w5.heap.size x4) := Lib.hid (by rw [hW5]; exact LTk.new w5 x4)
 have p2 := HPW5.out.rb.cell
 have p3 := (HP4.out.go hc5 hm5).rb.cell
 have p4 := (HP4.out.go hc5 hm5).rb.lt
 have hb5R : w5.heap.size ≠ R := by have := hc5.lt; omega
 rw [hW5] at p2
 obtain ⟨x5, r5, hx5⟩ := hE5.some_
 have hd5 : T.ts.drop (k + 1 + 1 + 1 + 1) = x5 :: r5 := (drop_next HD4.out).trans hx5
 have HD5 := Lib.hid hd5
 rw [hx5] at HX4
 clear hc5 hm5 hta q4 hE5 hx5 hd5 hn4
 unfold tkV
 by_cases c5 : x5.k = 2 ∧ x5.t = sShut
 rotate_left
 ·have hta := takeText_no W5 R T (k + 1 + 1 + 1 + 1) v1 u v3 v4 v5 x5 r5 2 sShut HPW5.out.cu HD5.out c5
  have HX5 := Lib.hid (HX4.out.trans (pairD_no c5))
  clear c5
  go_wp2_with fail
  rw [← hW5]
  refine hta.mono ?_
  rintro e w6 ⟨rfl, hm6⟩
  have eX := HX5.out
  subst eX
  exact ⟨rfl, rfl, HPW5.out.fr.next (Fr.of_moved hm6) (fun j _ e => .inl e)⟩
 have hta := takeText_yes W5 R T (k + 1 + 1 + 1 + 1) v1 u v3 v4 v5 x5 r5 2 sShut HPW5.out.cu HD5.out c5.1 c5.2
 have HX5 := Lib.hid (HX4.out.trans (pairD_yes c5))
 have HD6 := Lib.hid (drop_next HD5.out)
 clear c5
 go_wp2_with fail
 rw [← hW5]
 clear hW5 p2 p3 p4
 refine hta.mono ?_
 rintro e w6 ⟨rfl, hc6, hm6⟩
 have HP6 := Lib.hid (HPW5.out.go hc6 hm6)
 have HT61 := Lib.hid (HT51.out.moved hm6 hbR)
 have HT64 := Lib.hid (HT54.out.moved hm6 hb5R)
 have hs6 := HP6.out.fr.size
 have hR6 := hc6.lt
 clear hc6 hm6 hta
 go_wp2_with fail
 have e1 : IntKind.i32.wrap (x1.n : Int) = (x1.n : Int) := wrap32 n10 n11
 have e4 : IntKind.i32.wrap (x4.n : Int) = (x4.n : Int) := wrap32 n40 n41
 refine wp_region_E (S := fun W => W.cell? ⟨Tb, 0, none⟩ = some (.pointer (some ⟨R, 3, none⟩)) ∧ W.cell? ⟨R, 3, none⟩ = some u ∧ W.cell? ⟨w2.heap.size, 2, none⟩ = some (.int .i64 x1.n) ∧ W.cell? ⟨w5.heap.size, 2, none⟩ = some (.int .i64 x4.n)) (L := 14) (by kernel_rfl) ?_
 have hS6 : (fun W : World => W.cell? ⟨Tb, 0, none⟩ = some (.pointer (some ⟨R, 3, none⟩)) ∧ W.cell? ⟨R, 3, none⟩ = some u ∧ W.cell? ⟨w2.heap.size, 2, none⟩ = some (.int .i64 x1.n) ∧ W.cell? ⟨w5.heap.size, 2, none⟩ = some (.int .i64 x4.n)) w6.drew := ⟨HP6.out.tb.cell, HP6.out.cu.more.2.1, HT61.out.cells.2.2.1, HT64.out.cells.2.2.1⟩
 refine wpAnyE_take (i := 0) (oi := ?oi0) (v := ?v0) ?hi0 (by kernel_rfl) (by kernel_rfl) (by kernel_rfl) (by kernel_rfl) ?hq0 (Or.inl ⟨?hw0, ?hy0⟩) (by assumption) ?rest0
 case hi0 => exact rfl
 case hq0 => exact fun _ _ _ h => h
 case hw0 => rfl
 case hy0 => (intro x hx; (try dsimp only at hx); simp only [List.getElem_toArray, List.getElem_cons_zero]; go_split_ands; go_simp; try with_reducible rfl)
 try simp only [Act.put, List.setIfInBounds_toArray, List.set_cons_zero, List.set_cons_succ, List.getElem_toArray, List.getElem_cons_zero]
 refine wpAnyE_take (i := 1) (oi := ?oi1) (v := ?v1) ?hi1 (by kernel_rfl) (by kernel_rfl) (by kernel_rfl) (by kernel_rfl) ?hq1 (Or.inl ⟨?hw1, ?hy1⟩) (by assumption) ?rest1
 case hi1 => exact rfl
 case hq1 => exact fun _ _ _ h => h
 case hw1 => rfl
 case hy1 => (intro x hx; (try dsimp only at hx); simp only [List.getElem_toArray, List.getElem_cons_succ, List.getElem_cons_zero]; go_split_ands; go_simp; try with_reducible rfl)
 try simp only [Act.put, List.setIfInBounds_toArray, List.set_cons_zero, List.set_cons_succ, List.getElem_toArray, List.getElem_cons_succ, List.getElem_cons_zero]
 refine wpAnyE_take (i := 2) (oi := ?oi2) (v := ?v2) ?hi2 (by kernel_rfl) (by kernel_rfl) (by kernel_rfl) (by kernel_rfl) ?hq2 (Or.inl ⟨?hw2, ?hy2⟩) (by assumption) ?rest2
 case hi2 => exact rfl
 case hq2 => exact fun _ _ _ h => h
 case hw2 => rfl
 case hy2 => (intro x hx; (try dsimp only at hx); simp only [List.getElem_toArray, List.getElem_cons_succ, List.getElem_cons_zero]; go_split_ands; go_simp; try with_reducible rfl)
 try simp only [Act.put, List.setIfInBounds_toArray, List.set_cons_zero, List.set_cons_succ, List.getElem_toArray, List.getElem_cons_succ, List.getElem_cons_zero]
 refine wpAnyE_take (i := 3) (oi := ?oi3) (v := ?v3) ?hi3 (by kernel_rfl) (by kernel_rfl) (by kernel_rfl) (by kernel_rfl) ?hq3 (Or.inl ⟨?hw3, ?hy3⟩) (by assumption) ?rest3
 case hi3 => exact rfl
 case hq3 => exact fun _ _ _ h => h
 case hw3 => rfl
 case hy3 => (intro x hx; (try dsimp only at hx); simp only [List.getElem_toArray, List.getElem_cons_succ, List.getElem_cons_zero]; go_split_ands; go_simp; try with_reducible rfl)
 try simp only [Act.put, List.setIfInBounds_toArray, List.set_cons_zero, List.set_cons_succ, List.getElem_toArray, List.getElem_cons_succ, List.getElem_cons_zero]
 refine wpAnyE_take (i := 4) (oi := ?oi4) (v := ?v4) ?hi4 (by kernel_rfl) (by kernel_rfl) (by kernel_rfl) (by kernel_rfl) ?hq4 (Or.inl ⟨?hw4, ?hy4⟩) (by assumption) ?rest4
 case hi4 => exact rfl
 case hq4 => exact fun _ _ _ h => h
 case hw4 => rfl
 case hy4 => (intro x hx; (try dsimp only at hx); simp only [List.getElem_toArray, List.getElem_cons_succ, List.getElem_cons_zero]; go_split_ands; go_simp; try with_reducible rfl)
 try simp only [Act.put, List.setIfInBounds_toArray, List.set_cons_zero, List.set_cons_succ, List.getElem_toArray, List.getElem_cons_succ, List.getElem_cons_zero]
 refine wpAnyE_take (i := 5) (oi := ?oi5) (v := ?v5) ?hi5 (by kernel_rfl) (by kernel_rfl) (by kernel_rfl) (by kernel_rfl) ?hq5 (Or.inl ⟨?hw5, ?hy5⟩) (by assumption) ?rest5
 case hi5 => exact rfl
 case hq5 => exact fun _ _ _ h => h
 case hw5 => rfl
 case hy5 => (intro x hx; (try dsimp only at hx); simp only [List.getElem_toArray, List.getElem_cons_succ, List.getElem_cons_zero]; go_split_ands; go_simp; try with_reducible rfl)
 try simp only [Act.put, List.setIfInBounds_toArray, List.set_cons_zero, List.set_cons_succ, List.getElem_toArray, List.getElem_cons_succ, List.getElem_cons_zero]
 refine wpAnyE_take (i := 6) (oi := ?oi6) (v := ?v6) ?hi6 (by kernel_rfl) (by kernel_rfl) (by kernel_rfl) (by kernel_rfl) ?hq6 (Or.inl ⟨?hw6, ?hy6⟩) (by assumption) ?rest6
 case hi6 => exact rfl
 case hq6 => exact fun _ _ _ h => h
 case hw6 => rfl
 case hy6 => (intro x hx; (try dsimp only at hx); simp only [List.getElem_toArray, List.getElem_cons_succ, List.getElem_cons_zero]; go_split_ands; go_simp; try with_reducible rfl)
 try simp only [Act.put, List.setIfInBounds_toArray, List.set_cons_zero, List.set_cons_succ, List.getElem_toArray, List.getElem_cons_succ, List.getElem_cons_zero]
 refine wpAnyE_take (i := 7) (oi := ?oi7) (v := ?v7) ?hi7 (by kernel_rfl) (by kernel_rfl) (by kernel_rfl) (by kernel_rfl) ?hq7 (Or.inl ⟨?hw7, ?hy7⟩) (by assumption) ?rest7
 case hi7 => exact rfl
 case hq7 => exact fun _ _ _ h => h
 case hw7 => rfl
 case hy7 => (intro x hx; (try dsimp only at hx); simp only [List.getElem_toArray, List.getElem_cons_succ, List.getElem_cons_zero]; go_split_ands; go_simp; try with_reducible rfl)
 try simp only [Act.put, List.setIfInBounds_toArray, List.set_cons_zero, List.set_cons_succ, List.getElem_toArray, List.getElem_cons_succ, List.getElem_cons_zero]
 refine wpAnyE_take (i := 8) (oi := ?oi8) (v := ?v8) ?hi8 (by kernel_rfl) (by kernel_rfl) (by kernel_rfl) (by kernel_rfl) ?hq8 (Or.inl ⟨?hw8, ?hy8⟩) (by assumption) ?rest8
 case hi8 => exact rfl
 case hq8 => exact fun _ _ _ h => h
 case hw8 => rfl
 case hy8 => (intro x hx; (try dsimp only at hx); simp only [List.getElem_toArray, List.getElem_cons_succ, List.getElem_cons_zero]; go_split_ands; go_simp; try with_reducible rfl)
 try simp only [Act.put, List.setIfInBounds_toArray, List.set_cons_zero, List.set_cons_succ, List.getElem_toArray, List.getElem_cons_succ, List.getElem_cons_zero]
 refine wpAnyE_take (i := 9) (oi := ?oi9) (v := ?v9) ?hi9 (by kernel_rfl) (by kernel_rfl) (by kernel_rfl) (by kernel_rfl) ?hq9 (Or.inl ⟨?hw9, ?hy9⟩) (by assumption) ?rest9
 case hi9 => exact rfl
 case hq9 => exact fun _ _ _ h => h
 case hw9 => rfl
 case hy9 => (intro x hx; (try dsimp only at hx); simp only [List.getElem_toArray, List.getElem_cons_succ, List.getElem_cons_zero]; go_split_ands; go_simp; try with_reducible rfl)
 try simp only [Act.put, List.setIfInBounds_toArray, List.set_cons_zero, List.set_cons_succ, List.getElem_toArray, List.getElem_cons_succ, List.getElem_cons_zero]
 refine wpAnyE_take (i := 10) (oi := ?oi10) (v := ?v10) ?hi10 (by kernel_rfl) (by kernel_rfl) (by kernel_rfl) (by kernel_rfl) ?hq10 (Or.inl ⟨?hw10, ?hy10⟩) (by assumption) ?rest10
 case hi10 => exact rfl
 case hq10 => exact fun _ _ _ h => h
 case hw10 => rfl
 case hy10 => (intro x hx; (try dsimp only at hx); simp only [List.getElem_toArray, List.getElem_cons_succ, List.getElem_cons_zero]; go_split_ands; go_simp; try with_reducible rfl)
 try simp only [Act.put, List.setIfInBounds_toArray, List.set_cons_zero, List.set_cons_succ, List.getElem_toArray, List.getElem_cons_succ, List.getElem_cons_zero]
 refine wpAnyE_one (i := 11) (by kernel_rfl) rfl (fun K hK => ?_)
 simp only [List.getElem_toArray, List.getElem_cons_succ, List.getElem_cons_zero]
 go_simp
 refine hK.out _ _ (fun _ => ⟨(HP6.out.drew.alloc (.cells #[.int .i32 x1.n, .int .i32 x4.n] 49)).tb.cell, (HP6.out.drew.alloc (.cells #[.int .i32 x1.n, .int .i32 x4.n] 49)).cu.more.2.1, (HT61.out.drew.alloc (.cells #[.int .i32 x1.n, .int .i32 x4.n] 49)).cells.2.2.1, (HT64.out.drew.alloc (.cells #[.int .i32 x1.n, .int .i32 x4.n] 49)).cells.2.2.1⟩) (fun hS => ?_)
 replace hS := hS (by decide)
 refine wpAnyE_one (i := 12) (by kernel_rfl) rfl (fun K hK => ?_)
 refine step_append_lies _ (by rfl) _ _ _ (by rfl) lo 49 i0 (.agg #[.int .i32 0, .int .i32 0]) 2 8 Tryz.underlying23 hi hz0 hz1 hz2 rfl (by decide) u l.length (prsC l) (by rfl) (HP6.out.drew.alloc _).row ⟨w6.heap.size, 0, none⟩ 1 1 [.int .i32 x1.n, .int .i32 x4.n] (by rfl) (by rfl) (pair_new _ _ _ _ _ (by simp)) (by intro u hu; simp at hu; rcases hu with rfl | rfl <;> rfl) (by omega) (by unfold maxLen; omega) (by omega) (by simp; omega) (w6.heap.size + 1) (by simp) ?_
 intro g cap w7 hown7 hgr7 hat7 hlt7
 have HE7 := Lib.hid ((HP6.out.drew.alloc (.cells #[.int .i32 x1.n, .int .i32 x4.n] 49)).more ((x1.n : Int), (x4.n : Int)) hgr7 hown7 (hat7.imp_right (by rintro rfl; omega)) hlo)
 have p7 := HE7.out.1.one 3
 have hS7 : w7.cell? ⟨Tb, 0, none⟩ = some (.pointer (some ⟨R, 3, none⟩)) ∧ w7.cell? ⟨R, 3, none⟩ = some u ∧ w7.cell? ⟨w2.heap.size, 2, none⟩ = some (.int .i64 x1.n) ∧ w7.cell? ⟨w5.heap.size, 2, none⟩ = some (.int .i64 x4.n) := by
  refine ⟨HE7.out.2.1.cell, HE7.out.1.more.2.1, ?_, ?_⟩
  ·exact (LTk.cells ((hgr7.block w2.heap.size (by simp; have := HT61.out.lt; omega) (row_ne (HP6.out.drew.alloc (.cells #[.int .i32 x1.n, .int .i32 x4.n] 49)).row (HT61.out.drew.alloc (.cells #[.int .i32 x1.n, .int .i32 x4.n] 49)) (by decide)).symm).trans (HT61.out.drew.alloc (.cells #[.int .i32 x1.n, .int .i32 x4.n] 49)))).2.2.1
  ·exact (LTk.cells ((hgr7.block w5.heap.size (by simp; have := HT64.out.lt; omega) (row_ne (HP6.out.drew.alloc (.cells #[.int .i32 x1.n, .int .i32 x4.n] 49)).row (HT64.out.drew.alloc (.cells #[.int .i32 x1.n, .int .i32 x4.n] 49)) (by decide)).symm).trans (HT64.out.drew.alloc (.cells #[.int .i32 x1.n, .int .i32 x4.n] 49)))).2.2.1
 clear hown7 hgr7 hat7
 refine hK.out _ _ (fun _ => hS7) (fun hS => ?_)
 replace hS := hS (by decide)
 refine wpAnyE_take (i := 13) (oi := ?oi13) (v := ?v13) ?hi13 (by kernel_rfl) (by kernel_rfl) (by kernel_rfl) (by kernel_rfl) ?hq13 (Or.inl ⟨?hw13, ?hy13⟩) (by assumption) ?rest13
 case hi13 => exact rfl
 case hq13 => exact fun _ _ _ h => h
 case hw13 => rfl
 case hy13 => (intro x hx; (try dsimp only at hx); simp only [List.getElem_toArray, List.getElem_cons_succ, List.getElem_cons_zero]; go_split_ands; go_simp; try with_reducible rfl)
 try simp only [Act.put, List.setIfInBounds_toArray, List.set_cons_zero, List.set_cons_succ, List.getElem_toArray, List.getElem_cons_succ, List.getElem_cons_zero]
 refine wpAnyE_one (i := 14) (by kernel_rfl) rfl (fun K hK => ?_)
 simp only [List.getElem_toArray, List.getElem_cons_succ, List.getElem_cons_zero]
 go_simp
 refine hK.out _ _ (fun h => absurd rfl h) (fun _ => ?_)
 refine wpAnyE_done (by kernel_rfl) ?_ _
 have eX := HX5.out
 subst eX
 have hk : numsV (l ++ [((x1.n : Int), (x4.n : Int))]) = numsV l ++ [.int .i64 x1.n] := by simp [numsV]
 go_end0
 have h2 := HE7.out.2.2
 rw [← hk] at h2
 exact ⟨k + 1 + 1 + 1 + 1 + 1, rfl, ⟨⟨.slice (some ⟨g, 0, none⟩) (l.length + 1) cap, h2⟩, by rw [List.length_append]; show l.length + 1 ≤ _; omega⟩, HD6.out⟩
end
end Go.Proofs.YthaibekbefndlaaGreatDoor.C

namespace Go.Proofs.YthaibekbefndlaaGreatDoor.C
open Go.RowKit

section
variable (w0 : World) (u0 : Value) (lo R : Nat) (T : TV) (v1 v2 v4 v5 : Value) (A M Rb Ab Tb : Nat)
set_option maxRecDepth 100000 in
set_option maxHeartbeats 8000000 in
theorem pairItemL_any (l : List (Int × Int)) (k : Nat) (u : Value) (w : World) (hP : PrL w0 u0 lo R T v1 v2 v4 v5 A M Rb Ab Tb u (numsV l) l k w) (hl : l.length ≤ k) (hN : NumOk T) (hE : Ended (T.ts.drop k)) (hlo : R < lo) (hlw : lo ≤ w0.heap.size) (hM : R < M) :
  Calls Tryz.prog 127 #[.pointer (some ⟨Rb, 0, none⟩), .pointer (some ⟨Ab, 0, none⟩), .pointer (some ⟨Tb, 0, none⟩)] w
   (ItTold T (fun l' k' W => (∃ u', PrL w0 u0 lo R T v1 v2 v4 v5 A M Rb Ab Tb u' (numsV l') l' k' W) ∧ l'.length ≤ k') (fun W => Fr w0 W (fun j => j = R ∨ j = M ∨ u0.ownBlock = some j)) (pairL l (T.ts.drop k))) := by
 have HP := Lib.hid hP
 have hsz := hP.fr.size
 have hkT := hP.cu.2.2
 have q0 := hP.rb.cell
 obtain ⟨i0, hi, hz0, hz1, hz2⟩ := info_parts infoPair
 obtain ⟨x0, r0, hx0⟩ := hE.some_
 obtain ⟨X, hX⟩ : ∃ X, X = pairL l (T.ts.drop k) := ⟨_, rfl⟩
 rw [← hX]
 rw [hx0] at hX
 by_cases c0 : x0.k = 2 ∧ x0.t = sOpen
 rotate_left
 ·have hta := takeText_no w R T k v1 v2 u v4 v5 x0 r0 2 sOpen hP.cu hx0 c0
  rw [hX, pairL_no c0]
  clear hP hN hE hX c0 hx0
  go_enter Tryz.func127, Tryz.ntmps127
  go_wp2_with fail
  refine hta.mono ?_
  rintro e w1 ⟨rfl, hm1⟩
  exact ⟨rfl, rfl, HP.out.fr.next (Fr.of_moved hm1) (fun j _ e => .inl e)⟩
 have hta := takeText_yes w R T k v1 v2 u v4 v5 x0 r0 2 sOpen hP.cu hx0 c0.1 c0.2
 have HX := Lib.hid (hX.trans (pairL_yes c0))
 rw [hx0] at hE
 have hE1 := hE.cons (by omega)
 obtain ⟨x1, r1, hx1⟩ := hE1.some_
 have hd1 : T.ts.drop (k + 1) = x1 :: r1 := (drop_next hx0).trans hx1
 have HD1 := Lib.hid hd1
 have HE1 := Lib.hid (hx1 ▸ hE1)
 rw [hx1] at HX
 have hn1 := hN.at_ hd1
 have HN := Lib.hid hN
 clear hP hN hE hX c0 hx0 hE1 hx1 hd1
 go_enter Tryz.func127, Tryz.ntmps127
 go_wp2_with fail
 refine hta.mono ?_
 rintro e w1 ⟨rfl, hc1, hm1⟩
 have HP1 := Lib.hid (HP.out.go hc1 hm1)
 have q1 := HP1.out.rb.cell
 clear hc1 hm1 hta q0
 by_cases c1 : x1.k = 3
 rotate_left
 ·have hta := take1_no w1 R T (k + 1) v1 v2 u v4 v5 x1 r1 _ rfl 3 HP1.out.cu HD1.out c1
  have HX2 := Lib.hid (HX.out.trans (pairA_no c1))
  clear c1
  go_wp2_with fail
  refine hta.mono ?_
  rintro e w2 ⟨rfl, hm2⟩
  have eX := HX2.out
  subst eX
  exact ⟨rfl, rfl, HP1.out.fr.next (Fr.of_moved hm2) (fun j _ e => .inl e)⟩
 have hta := take1_yes w1 R T (k + 1) v1 v2 u v4 v5 x1 r1 _ rfl 3 HP1.out.cu HD1.out c1
 have n10 : (0 : Int) ≤ (x1.n : Int) := by omega
 have n11 : (x1.n : Int) ≤ 1114111 := by omega
 have C1 := Lib.hid c1
 clear c1
 go_wp2_with fail
 refine hta.mono ?_
 rintro e w2 ⟨rfl, hc2, hm2⟩
 have HP2 := Lib.hid (HP1.out.go hc2 hm2)
 obtain ⟨W2, hW2⟩ : ∃ W2, W2 = w2.alloc (.cells #[.int .u8 x1.k, .string (str x1.t), .int .i64 x1.n, .int .i64 x1.at_] 92) := ⟨_, rfl⟩
 have HPW : Hid (PrL w0 u0 lo R T v1 v2 v4 v5 A M Rb Ab Tb u (numsV l) l (k + 1 + 1) W2) := Lib.hid (by rw [hW2]; exact HP2.out.alloc _)
 have HT1 : Hid (LTk W2 w2.heap.size x1) := Lib.hid (by rw [hW2]; exact LTk.new w2 x1)
 obtain ⟨-, -, p1, -⟩ := HT1.out.cells
 have p2 := HPW.out.ab.cell
 have p3 := HP2.out.ab.cell
 have p4 := HP2.out.ab.lt
 have hbR : w2.heap.size ≠ R := by have := HP2.out.cu.lt; omega
 have hb1M : w2.heap.size ≠ M := by have := HP2.out.ft.2.lt; omega
 unfold FnI at p2 p3
 rw [hW2] at p1 p2
 clear hc2 hm2 hta q1
 unfold tkV
 have hyn : Calls Tryz.prog 170 #[.int .i64 x1.n, .pointer (some ⟨A, 0, none⟩)] W2 fun e w' => (((x1.n : Int) ∈ l.map Prod.fst ∧ e = .returned (.bool false)) ∨ ((x1.n : Int) ∉ l.map Prod.fst ∧ e = .returned (.bool true) ∧ FT w' 200 (.int .i64) A M (numsV l ++ [.int .i64 x1.n]))) ∧ W2.grownBy w' (some M) := by
  by_cases c2 : (x1.n : Int) ∈ l.map Prod.fst
  ·exact (isNewI_no W2 A M (numsV l) x1.n HPW.out.ft (nums_in.2 c2)).mono fun e w' h => ⟨.inl ⟨c2, h.1⟩, h.2⟩
  ·exact (isNewI_yes W2 A M (numsV l) x1.n HPW.out.ft (fun h => c2 (nums_in.1 h))).mono fun e w' h => ⟨.inr ⟨c2, h.1, h.2.1⟩, h.2.2⟩
 go_wp2_with fail
 rw [← hW2]
 clear hW2 p1 p2 p3 p4
 refine hyn.mono ?_
 rintro e w3 ⟨hcase, hg3⟩
 have HT3 : Hid (LTk w3 w2.heap.size x1) := Lib.hid ((hg3.block _ HT1.out.lt (by intro e; injection e; omega)).trans HT1.out)
 obtain ⟨a0, a1, a2, a3⟩ := HT3.out.cells
 rcases hcase with ⟨c2, rfl⟩ | ⟨c2, rfl, hft3⟩
 ·have HX2 := Lib.hid (HX.out.trans (pairA_twice C1.out c2))
  have hrf := fun W => refuse_any 32 x1 W
  unfold tkV at hrf
  have HF3 := Lib.hid ((HPW.out.fr.next (Fr.of_grown hg3) (fun j _ e => .inr (.inl (by injection e with e; exact e.symm)))))
  clear hg3 hyn c2
  go_wp2_with fail
  refine (hrf _).mono ?_
  rintro e w4 ⟨rfl, hb4⟩
  have eX := HX2.out
  subst eX
  exact ⟨rfl, rfl, HF3.out.trans (.of_below hb4)⟩
 have HP3 := Lib.hid (HPW.out.asked hft3 hg3 hM)
 have q3 := HP3.out.rb.cell
 have HX2 := Lib.hid (HX.out.trans (pairA_yes C1.out c2))
 have hE2 := HE1.out.cons (by rw [C1.out]; omega)
 obtain ⟨x2, r2, hx2⟩ := hE2.some_
 have hd2 : T.ts.drop (k + 1 + 1) = x2 :: r2 := (drop_next HD1.out).trans hx2
 have HD2 := Lib.hid hd2
 have HE2 := Lib.hid (hx2 ▸ hE2)
 rw [hx2] at HX2
 clear hg3 hyn hft3 c2 hE2 hx2 hd2 hn1
 by_cases c2 : x2.k = 2 ∧ x2.t = sComma
 rotate_left
 ·have hta := takeText_no w3 R T (k + 1 + 1) v1 v2 u v4 v5 x2 r2 2 sComma HP3.out.cu HD2.out c2
  have HX3 := Lib.hid (HX2.out.trans (pairB_no c2))
  clear c2
  go_wp2_with fail
  refine hta.mono ?_
  rintro e w4 ⟨rfl, hm4⟩
  have eX := HX3.out
  subst eX
  exact ⟨rfl, rfl, HP3.out.fr.next (Fr.of_moved hm4) (fun j _ e => .inl e)⟩
 have hta := takeText_yes w3 R T (k + 1 + 1) v1 v2 u v4 v5 x2 r2 2 sComma HP3.out.cu HD2.out c2.1 c2.2
 have HX3 := Lib.hid (HX2.out.trans (pairB_yes c2))
 have hE3 := HE2.out.cons (by omega)
 clear c2
 go_wp2_with fail
 refine hta.mono ?_
 rintro e w4 ⟨rfl, hc4, hm4⟩
 have HP4 := Lib.hid (HP3.out.go hc4 hm4)
 have HT4 := Lib.hid (HT3.out.moved hm4 hbR)
 have q4 := HP4.out.rb.cell
 obtain ⟨x4, r4, hx4⟩ := hE3.some_
 have hd4 : T.ts.drop (k + 1 + 1 + 1) = x4 :: r4 := (drop_next HD2.out).trans hx4
 have HD4 := Lib.hid hd4
 have HE4 := Lib.hid (hx4 ▸ hE3)
 rw [hx4] at HX3
 have hn4 := HN.out.at_ hd4
 clear hc4 hm4 hta q3 a0 a1 a2 a3 hE3 hx4 hd4
 by_cases c4 : x4.k = 3
 rotate_left
 ·have hta := take1_no w4 R T (k + 1 + 1 + 1) v1 v2 u v4 v5 x4 r4 _ rfl 3 HP4.out.cu HD4.out c4
  have HX4 := Lib.hid (HX3.out.trans (pairC_no c4))
  clear c4
  go_wp2_with fail
  refine hta.mono ?_
  rintro e w5 ⟨rfl, hm5⟩
  have eX := HX4.out
  subst eX
  exact ⟨rfl, rfl, HP4.out.fr.next (Fr.of_moved hm5) (fun j _ e => .inl e)⟩
 have hta := take1_yes w4 R T (k + 1 + 1 + 1) v1 v2 u v4 v5 x4 r4 _ rfl 3 HP4.out.cu HD4.out c4
 have HX4 := Lib.hid (HX3.out.trans (pairC_yes c4))
 have hE5 := HE4.out.cons (by omega)
 have n40 : (0 : Int) ≤ (x4.n : Int) := by omega
 have n41 : (x4.n : Int) ≤ 1114111 := by omega
 clear c4
 go_wp2_with fail
 refine hta.mono ?_
 rintro e w5 ⟨rfl, hc5, hm5⟩
 obtain ⟨W5, hW5⟩ : ∃ W5, W5 = w5.alloc (.cells #[.int .u8 x4.k, .string (str x4.t), .int .i64 x4.n, .int .i64 x4.at_] 92) := ⟨_, rfl⟩
 have HPW5 : Hid (PrL w0 u0 lo R T v1 v2 v4 v5 A M Rb Ab Tb u (numsV l ++ [.int .i64 x1.n]) l (k + 1 + 1 + 1 + 1) W5) := Lib.hid (by rw [hW5]; exact (HP4.out.go hc5 hm5).alloc _)
 have HT51 : Hid (LTk W5 w2.heap.size x1) := Lib.hid (by rw [hW5]; exact (HT4.out.moved hm5 hbR).alloc _)
 have HT54 : Hid (LTk W5 w5.heap.size x4) := Lib.hid (by rw [hW5]; exact LTk.new w5 x4)
 have p2 := HPW5.out.rb.cell
 have p3 := (HP4.out.go hc5 hm5).rb.cell
 have p4 := (HP4.out.go hc5 hm5).rb.lt
 have hb5R : w5.heap.size ≠ R := by have := hc5.lt; omega
 rw [hW5] at p2
 obtain ⟨x5, r5, hx5⟩ := hE5.some_
 have hd5 : T.ts.drop (k + 1 + 1 + 1 + 1) = x5 :: r5 := (drop_next HD4.out).trans hx5
 have HD5 := Lib.hid hd5
 rw [hx5] at HX4
 clear hc5 hm5 hta q4 hE5 hx5 hd5 hn4
 unfold tkV
 by_cases c5 : x5.k = 2 ∧ x5.t = sShut
 rotate_left
 ·have hta := takeText_no W5 R T (k + 1 + 1 + 1 + 1) v1 v2 u v4 v5 x5 r5 2 sShut HPW5.out.cu HD5.out c5
  have HX5 := Lib.hid (HX4.out.trans (pairD_no c5))
  clear c5
  go_wp2_with fail
  rw [← hW5]
  refine hta.mono ?_
  rintro e w6 ⟨rfl, hm6⟩
  have eX := HX5.out
  subst eX
  exact ⟨rfl, rfl, HPW5.out.fr.next (Fr.of_moved hm6) (fun j _ e => .inl e)⟩
 have hta := takeText_yes W5 R T (k + 1 + 1 + 1 + 1) v1 v2 u v4 v5 x5 r5 2 sShut HPW5.out.cu HD5.out c5.1 c5.2
 have HX5 := Lib.hid (HX4.out.trans (pairD_yes c5))
 have HD6 := Lib.hid (drop_next HD5.out)
 clear c5
 go_wp2_with fail
 rw [← hW5]
 clear hW5 p2 p3 p4
 refine hta.mono ?_
 rintro e w6 ⟨rfl, hc6, hm6⟩
 have HP6 := Lib.hid (HPW5.out.go hc6 hm6)
 have HT61 := Lib.hid (HT51.out.moved hm6 hbR)
 have HT64 := Lib.hid (HT54.out.moved hm6 hb5R)
 have hs6 := HP6.out.fr.size
 have hR6 := hc6.lt
 clear hc6 hm6 hta
 go_wp2_with fail
 have e1 : IntKind.i32.wrap (x1.n : Int) = (x1.n : Int) := wrap32 n10 n11
 have e4 : IntKind.i32.wrap (x4.n : Int) = (x4.n : Int) := wrap32 n40 n41
 refine wp_region_E (S := fun W => W.cell? ⟨Tb, 0, none⟩ = some (.pointer (some ⟨R, 4, none⟩)) ∧ W.cell? ⟨R, 4, none⟩ = some u ∧ W.cell? ⟨w2.heap.size, 2, none⟩ = some (.int .i64 x1.n) ∧ W.cell? ⟨w5.heap.size, 2, none⟩ = some (.int .i64 x4.n)) (L := 14) (by kernel_rfl) ?_
 have hS6 : (fun W : World => W.cell? ⟨Tb, 0, none⟩ = some (.pointer (some ⟨R, 4, none⟩)) ∧ W.cell? ⟨R, 4, none⟩ = some u ∧ W.cell? ⟨w2.heap.size, 2, none⟩ = some (.int .i64 x1.n) ∧ W.cell? ⟨w5.heap.size, 2, none⟩ = some (.int .i64 x4.n)) w6.drew := ⟨HP6.out.tb.cell, HP6.out.cu.more.2.2.1, HT61.out.cells.2.2.1, HT64.out.cells.2.2.1⟩
 refine wpAnyE_take (i := 0) (oi := ?oi0) (v := ?v0) ?hi0 (by kernel_rfl) (by kernel_rfl) (by kernel_rfl) (by kernel_rfl) ?hq0 (Or.inl ⟨?hw0, ?hy0⟩) (by assumption) ?rest0
 case hi0 => exact rfl
 case hq0 => exact fun _ _ _ h => h
 case hw0 => rfl
 case hy0 => (intro x hx; (try dsimp only at hx); simp only [List.getElem_toArray, List.getElem_cons_zero]; go_split_ands; go_simp; try with_reducible rfl)
 try simp only [Act.put, List.setIfInBounds_toArray, List.set_cons_zero, List.set_cons_succ, List.getElem_toArray, List.getElem_cons_zero]
 refine wpAnyE_take (i := 1) (oi := ?oi1) (v := ?v1) ?hi1 (by kernel_rfl) (by kernel_rfl) (by kernel_rfl) (by kernel_rfl) ?hq1 (Or.inl ⟨?hw1, ?hy1⟩) (by assumption) ?rest1
 case hi1 => exact rfl
 case hq1 => exact fun _ _ _ h => h
 case hw1 => rfl
 case hy1 => (intro x hx; (try dsimp only at hx); simp only [List.getElem_toArray, List.getElem_cons_succ, List.getElem_cons_zero]; go_split_ands; go_simp; try with_reducible rfl)
 try simp only [Act.put, List.setIfInBounds_toArray, List.set_cons_zero, List.set_cons_succ, List.getElem_toArray, List.getElem_cons_succ, List.getElem_cons_zero]
 refine wpAnyE_take (i := 2) (oi := ?oi2) (v := ?v2) ?hi2 (by kernel_rfl) (by kernel_rfl) (by kernel_rfl) (by kernel_rfl) ?hq2 (Or.inl ⟨?hw2, ?hy2⟩) (by assumption) ?rest2
 case hi2 => exact rfl
 case hq2 => exact fun _ _ _ h => h
 case hw2 => rfl
 case hy2 => (intro x hx; (try dsimp only at hx); simp only [List.getElem_toArray, List.getElem_cons_succ, List.getElem_cons_zero]; go_split_ands; go_simp; try with_reducible rfl)
 try simp only [Act.put, List.setIfInBounds_toArray, List.set_cons_zero, List.set_cons_succ, List.getElem_toArray, List.getElem_cons_succ, List.getElem_cons_zero]
 refine wpAnyE_take (i := 3) (oi := ?oi3) (v := ?v3) ?hi3 (by kernel_rfl) (by kernel_rfl) (by kernel_rfl) (by kernel_rfl) ?hq3 (Or.inl ⟨?hw3, ?hy3⟩) (by assumption) ?rest3
 case hi3 => exact rfl
 case hq3 => exact fun _ _ _ h => h
 case hw3 => rfl
 case hy3 => (intro x hx; (try dsimp only at hx); simp only [List.getElem_toArray, List.getElem_cons_succ, List.getElem_cons_zero]; go_split_ands; go_simp; try with_reducible rfl)
 try simp only [Act.put, List.setIfInBounds_toArray, List.set_cons_zero, List.set_cons_succ, List.getElem_toArray, List.getElem_cons_succ, List.getElem_cons_zero]
 refine wpAnyE_take (i := 4) (oi := ?oi4) (v := ?v4) ?hi4 (by kernel_rfl) (by kernel_rfl) (by kernel_rfl) (by kernel_rfl) ?hq4 (Or.inl ⟨?hw4, ?hy4⟩) (by assumption) ?rest4
 case hi4 => exact rfl
 case hq4 => exact fun _ _ _ h => h
 case hw4 => rfl
 case hy4 => (intro x hx; (try dsimp only at hx); simp only [List.getElem_toArray, List.getElem_cons_succ, List.getElem_cons_zero]; go_split_ands; go_simp; try with_reducible rfl)
 try simp only [Act.put, List.setIfInBounds_toArray, List.set_cons_zero, List.set_cons_succ, List.getElem_toArray, List.getElem_cons_succ, List.getElem_cons_zero]
 refine wpAnyE_take (i := 5) (oi := ?oi5) (v := ?v5) ?hi5 (by kernel_rfl) (by kernel_rfl) (by kernel_rfl) (by kernel_rfl) ?hq5 (Or.inl ⟨?hw5, ?hy5⟩) (by assumption) ?rest5
 case hi5 => exact rfl
 case hq5 => exact fun _ _ _ h => h
 case hw5 => rfl
 case hy5 => (intro x hx; (try dsimp only at hx); simp only [List.getElem_toArray, List.getElem_cons_succ, List.getElem_cons_zero]; go_split_ands; go_simp; try with_reducible rfl)
 try simp only [Act.put, List.setIfInBounds_toArray, List.set_cons_zero, List.set_cons_succ, List.getElem_toArray, List.getElem_cons_succ, List.getElem_cons_zero]
 refine wpAnyE_take (i := 6) (oi := ?oi6) (v := ?v6) ?hi6 (by kernel_rfl) (by kernel_rfl) (by kernel_rfl) (by kernel_rfl) ?hq6 (Or.inl ⟨?hw6, ?hy6⟩) (by assumption) ?rest6
 case hi6 => exact rfl
 case hq6 => exact fun _ _ _ h => h
 case hw6 => rfl
 case hy6 => (intro x hx; (try dsimp only at hx); simp only [List.getElem_toArray, List.getElem_cons_succ, List.getElem_cons_zero]; go_split_ands; go_simp; try with_reducible rfl)
 try simp only [Act.put, List.setIfInBounds_toArray, List.set_cons_zero, List.set_cons_succ, List.getElem_toArray, List.getElem_cons_succ, List.getElem_cons_zero]
 refine wpAnyE_take (i := 7) (oi := ?oi7) (v := ?v7) ?hi7 (by kernel_rfl) (by kernel_rfl) (by kernel_rfl) (by kernel_rfl) ?hq7 (Or.inl ⟨?hw7, ?hy7⟩) (by assumption) ?rest7
 case hi7 => exact rfl
 case hq7 => exact fun _ _ _ h => h
 case hw7 => rfl
 case hy7 => (intro x hx; (try dsimp only at hx); simp only [List.getElem_toArray, List.getElem_cons_succ, List.getElem_cons_zero]; go_split_ands; go_simp; try with_reducible rfl)
 try simp only [Act.put, List.setIfInBounds_toArray, List.set_cons_zero, List.set_cons_succ, List.getElem_toArray, List.getElem_cons_succ, List.getElem_cons_zero]
 refine wpAnyE_take (i := 8) (oi := ?oi8) (v := ?v8) ?hi8 (by kernel_rfl) (by kernel_rfl) (by kernel_rfl) (by kernel_rfl) ?hq8 (Or.inl ⟨?hw8, ?hy8⟩) (by assumption) ?rest8
 case hi8 => exact rfl
 case hq8 => exact fun _ _ _ h => h
 case hw8 => rfl
 case hy8 => (intro x hx; (try dsimp only at hx); simp only [List.getElem_toArray, List.getElem_cons_succ, List.getElem_cons_zero]; go_split_ands; go_simp; try with_reducible rfl)
 try simp only [Act.put, List.setIfInBounds_toArray, List.set_cons_zero, List.set_cons_succ, List.getElem_toArray, List.getElem_cons_succ, List.getElem_cons_zero]
 refine wpAnyE_take (i := 9) (oi := ?oi9) (v := ?v9) ?hi9 (by kernel_rfl) (by kernel_rfl) (by kernel_rfl) (by kernel_rfl) ?hq9 (Or.inl ⟨?hw9, ?hy9⟩) (by assumption) ?rest9
 case hi9 => exact rfl
 case hq9 => exact fun _ _ _ h => h
 case hw9 => rfl
 case hy9 => (intro x hx; (try dsimp only at hx); simp only [List.getElem_toArray, List.getElem_cons_succ, List.getElem_cons_zero]; go_split_ands; go_simp; try with_reducible rfl)
 try simp only [Act.put, List.setIfInBounds_toArray, List.set_cons_zero, List.set_cons_succ, List.getElem_toArray, List.getElem_cons_succ, List.getElem_cons_zero]
 refine wpAnyE_take (i := 10) (oi := ?oi10) (v := ?v10) ?hi10 (by kernel_rfl) (by kernel_rfl) (by kernel_rfl) (by kernel_rfl) ?hq10 (Or.inl ⟨?hw10, ?hy10⟩) (by assumption) ?rest10
 case hi10 => exact rfl
 case hq10 => exact fun _ _ _ h => h
 case hw10 => rfl
 case hy10 => (intro x hx; (try dsimp only at hx); simp only [List.getElem_toArray, List.getElem_cons_succ, List.getElem_cons_zero]; go_split_ands; go_simp; try with_reducible rfl)
 try simp only [Act.put, List.setIfInBounds_toArray, List.set_cons_zero, List.set_cons_succ, List.getElem_toArray, List.getElem_cons_succ, List.getElem_cons_zero]
 refine wpAnyE_one (i := 11) (by kernel_rfl) rfl (fun K hK => ?_)
 simp only [List.getElem_toArray, List.getElem_cons_succ, List.getElem_cons_zero]
 go_simp
 refine hK.out _ _ (fun _ => ⟨(HP6.out.drew.alloc (.cells #[.int .i32 x1.n, .int .i32 x4.n] 49)).tb.cell, (HP6.out.drew.alloc (.cells #[.int .i32 x1.n, .int .i32 x4.n] 49)).cu.more.2.2.1, (HT61.out.drew.alloc (.cells #[.int .i32 x1.n, .int .i32 x4.n] 49)).cells.2.2.1, (HT64.out.drew.alloc (.cells #[.int .i32 x1.n, .int .i32 x4.n] 49)).cells.2.2.1⟩) (fun hS => ?_)
 replace hS := hS (by decide)
 refine wpAnyE_one (i := 12) (by kernel_rfl) rfl (fun K hK => ?_)
 refine step_append_lies _ (by rfl) _ _ _ (by rfl) lo 49 i0 (.agg #[.int .i32 0, .int .i32 0]) 2 8 Tryz.underlying23 hi hz0 hz1 hz2 rfl (by decide) u l.length (prsC l) (by rfl) (HP6.out.drew.alloc _).row ⟨w6.heap.size, 0, none⟩ 1 1 [.int .i32 x1.n, .int .i32 x4.n] (by rfl) (by rfl) (pair_new _ _ _ _ _ (by simp)) (by intro u hu; simp at hu; rcases hu with rfl | rfl <;> rfl) (by omega) (by unfold maxLen; omega) (by omega) (by simp; omega) (w6.heap.size + 1) (by simp) ?_
 intro g cap w7 hown7 hgr7 hat7 hlt7
 have HE7 := Lib.hid ((HP6.out.drew.alloc (.cells #[.int .i32 x1.n, .int .i32 x4.n] 49)).more ((x1.n : Int), (x4.n : Int)) hgr7 hown7 (hat7.imp_right (by rintro rfl; omega)) hlo)
 have p7 := HE7.out.1.one 4
 have hS7 : w7.cell? ⟨Tb, 0, none⟩ = some (.pointer (some ⟨R, 4, none⟩)) ∧ w7.cell? ⟨R, 4, none⟩ = some u ∧ w7.cell? ⟨w2.heap.size, 2, none⟩ = some (.int .i64 x1.n) ∧ w7.cell? ⟨w5.heap.size, 2, none⟩ = some (.int .i64 x4.n) := by
  refine ⟨HE7.out.2.1.cell, HE7.out.1.more.2.2.1, ?_, ?_⟩
  ·exact (LTk.cells ((hgr7.block w2.heap.size (by simp; have := HT61.out.lt; omega) (row_ne (HP6.out.drew.alloc (.cells #[.int .i32 x1.n, .int .i32 x4.n] 49)).row (HT61.out.drew.alloc (.cells #[.int .i32 x1.n, .int .i32 x4.n] 49)) (by decide)).symm).trans (HT61.out.drew.alloc (.cells #[.int .i32 x1.n, .int .i32 x4.n] 49)))).2.2.1
  ·exact (LTk.cells ((hgr7.block w5.heap.size (by simp; have := HT64.out.lt; omega) (row_ne (HP6.out.drew.alloc (.cells #[.int .i32 x1.n, .int .i32 x4.n] 49)).row (HT64.out.drew.alloc (.cells #[.int .i32 x1.n, .int .i32 x4.n] 49)) (by decide)).symm).trans (HT64.out.drew.alloc (.cells #[.int .i32 x1.n, .int .i32 x4.n] 49)))).2.2.1
 clear hown7 hgr7 hat7
 refine hK.out _ _ (fun _ => hS7) (fun hS => ?_)
 replace hS := hS (by decide)
 refine wpAnyE_take (i := 13) (oi := ?oi13) (v := ?v13) ?hi13 (by kernel_rfl) (by kernel_rfl) (by kernel_rfl) (by kernel_rfl) ?hq13 (Or.inl ⟨?hw13, ?hy13⟩) (by assumption) ?rest13
 case hi13 => exact rfl
 case hq13 => exact fun _ _ _ h => h
 case hw13 => rfl
 case hy13 => (intro x hx; (try dsimp only at hx); simp only [List.getElem_toArray, List.getElem_cons_succ, List.getElem_cons_zero]; go_split_ands; go_simp; try with_reducible rfl)
 try simp only [Act.put, List.setIfInBounds_toArray, List.set_cons_zero, List.set_cons_succ, List.getElem_toArray, List.getElem_cons_succ, List.getElem_cons_zero]
 refine wpAnyE_one (i := 14) (by kernel_rfl) rfl (fun K hK => ?_)
 simp only [List.getElem_toArray, List.getElem_cons_succ, List.getElem_cons_zero]
 go_simp
 refine hK.out _ _ (fun h => absurd rfl h) (fun _ => ?_)
 refine wpAnyE_done (by kernel_rfl) ?_ _
 have eX := HX5.out
 subst eX
 have hk : numsV (l ++ [((x1.n : Int), (x4.n : Int))]) = numsV l ++ [.int .i64 x1.n] := by simp [numsV]
 go_end0
 have h2 := HE7.out.2.2
 rw [← hk] at h2
 exact ⟨k + 1 + 1 + 1 + 1 + 1, rfl, ⟨⟨.slice (some ⟨g, 0, none⟩) (l.length + 1) cap, h2⟩, by rw [List.length_append]; show l.length + 1 ≤ _; omega⟩, HD6.out⟩
end
end Go.Proofs.YthaibekbefndlaaGreatDoor.C

namespace Go.Proofs.YthaibekbefndlaaGreatDoor.C
open Go.RowKit

section
variable (lo R : Nat) (T : TV) (v1 v3 v4 v5 : Value) (A M Rb Ab Tb : Nat)
set_option maxRecDepth 100000 in
set_option maxHeartbeats 2000000 in
theorem pairs1U_any (w : World) (l : List (Int × Int)) (k : Nat) (u : Value) (hP : PrU w u lo R T v1 v3 v4 v5 A M Rb Ab Tb u (numsV l) l k w) (hl : l.length ≤ k) (hN : NumOk T) (hE : Ended (T.ts.drop k)) (hlo : R < lo) (hlw : lo ≤ w.heap.size) (hM : R < M) :
  Calls Tryz.prog 126 #[.pointer (some ⟨Rb, 0, none⟩), .pointer (some ⟨Ab, 0, none⟩), .pointer (some ⟨Tb, 0, none⟩)] w
   (ItTold T (fun l' k' W => (∃ u', PrU w u lo R T v1 v3 v4 v5 A M Rb Ab Tb u' (numsV l') l' k' W) ∧ l'.length ≤ k') (fun W => Fr w W (fun j => j = R ∨ j = M ∨ u.ownBlock = some j)) (itemsL pairL ((T.ts.drop k).length + 1) l (T.ts.drop k))) := by
 have q0 := hP.rb.cell
 have hmf : ∀ (fn : Fn) (first cap : Array Value) (w : World), (Instr.makeFunc fn first cap).run Tryz.prog w = .ok (.func fn first cap) w := fun _ _ _ _ => rfl
 have hit : Calls Tryz.prog 122 #[.pointer (some ⟨R, 0, none⟩), .func (.func 127) #[] #[.pointer (some ⟨Rb, 0, none⟩), .pointer (some ⟨Ab, 0, none⟩), .pointer (some ⟨Tb, 0, none⟩)]] w
   (ItTold T (fun l' k' W => (∃ u', PrU w u lo R T v1 v3 v4 v5 A M Rb Ab Tb u' (numsV l') l' k' W) ∧ l'.length ≤ k') (fun W => Fr w W (fun j => j = R ∨ j = M ∨ u.ownBlock = some j)) (itemsL pairL ((T.ts.drop k).length + 1) l (T.ts.drop k))) := by
  refine itemsPair_any pairL _ R T k Rb Ab Tb l (T.ts.drop k).length _ _ (fun s s' ts r hE h => pairL_left hE h) ?_ ?_ ?_ ?_ ?_ hE (Nat.le_refl _)
  ·rintro s k W ⟨⟨u', h⟩, _⟩
   exact ⟨_, _, _, _, _, h.cu⟩
  ·rintro s k W W' ⟨⟨u', h⟩, h2⟩ hn hm
   exact ⟨⟨u', h.go (hn _ _ _ _ _ h.cu) hm⟩, by omega⟩
  ·rintro s k W W' ⟨⟨u', h⟩, h2⟩ hb
   exact ⟨⟨u', h.below hb⟩, h2⟩
  ·rintro s k W ⟨⟨u', h⟩, h2⟩ hE'
   exact pairItemU_any w u lo R T v1 v3 v4 v5 A M Rb Ab Tb s k u' W h h2 hN hE' hlo hlw hM
  ·exact ⟨⟨u, hP⟩, hl⟩
 clear hP hN hE
 obtain ⟨X, hX⟩ : ∃ X, X = itemsL pairL ((T.ts.drop k).length + 1) l (T.ts.drop k) := ⟨_, rfl⟩
 rw [← hX] at hit ⊢
 clear hX
 cases X with
 | error er =>
  go_enter Tryz.func126, Tryz.ntmps126
  go_wp2_with fail
  refine hit.mono ?_
  rintro e w1 ⟨rfl, h2⟩
  exact ⟨rfl, rfl, h2⟩
 | ok y =>
  obtain ⟨l', r'⟩ := y
  go_enter Tryz.func126, Tryz.ntmps126
  go_wp2_with (go_at_call 122; refine hit.mono ?_; rintro e w1 ⟨k', rfl, h2, h3⟩)
  go_end0
  exact ⟨k', rfl, h2, h3⟩
end
section
variable (lo R : Nat) (T : TV) (v1 v2 v4 v5 : Value) (A M Rb Ab Tb : Nat)
set_option maxRecDepth 100000 in
set_option maxHeartbeats 2000000 in
theorem pairs1L_any (w : World) (l : List (Int × Int)) (k : Nat) (u : Value) (hP : PrL w u lo R T v1 v2 v4 v5 A M Rb Ab Tb u (numsV l) l k w) (hl : l.length ≤ k) (hN : NumOk T) (hE : Ended (T.ts.drop k)) (hlo : R < lo) (hlw : lo ≤ w.heap.size) (hM : R < M) :
  Calls Tryz.prog 126 #[.pointer (some ⟨Rb, 0, none⟩), .pointer (some ⟨Ab, 0, none⟩), .pointer (some ⟨Tb, 0, none⟩)] w
   (ItTold T (fun l' k' W => (∃ u', PrL w u lo R T v1 v2 v4 v5 A M Rb Ab Tb u' (numsV l') l' k' W) ∧ l'.length ≤ k') (fun W => Fr w W (fun j => j = R ∨ j = M ∨ u.ownBlock = some j)) (itemsL pairL ((T.ts.drop k).length + 1) l (T.ts.drop k))) := by
 have q0 := hP.rb.cell
 have hmf : ∀ (fn : Fn) (first cap : Array Value) (w : World), (Instr.makeFunc fn first cap).run Tryz.prog w = .ok (.func fn first cap) w := fun _ _ _ _ => rfl
 have hit : Calls Tryz.prog 122 #[.pointer (some ⟨R, 0, none⟩), .func (.func 127) #[] #[.pointer (some ⟨Rb, 0, none⟩), .pointer (some ⟨Ab, 0, none⟩), .pointer (some ⟨Tb, 0, none⟩)]] w
   (ItTold T (fun l' k' W => (∃ u', PrL w u lo R T v1 v2 v4 v5 A M Rb Ab Tb u' (numsV l') l' k' W) ∧ l'.length ≤ k') (fun W => Fr w W (fun j => j = R ∨ j = M ∨ u.ownBlock = some j)) (itemsL pairL ((T.ts.drop k).length + 1) l (T.ts.drop k))) := by
  refine itemsPair_any pairL _ R T k Rb Ab Tb l (T.ts.drop k).length _ _ (fun s s' ts r hE h => pairL_left hE h) ?_ ?_ ?_ ?_ ?_ hE (Nat.le_refl _)
  ·rintro s k W ⟨⟨u', h⟩, _⟩
   exact ⟨_, _, _, _, _, h.cu⟩
  ·rintro s k W W' ⟨⟨u', h⟩, h2⟩ hn hm
   exact ⟨⟨u', h.go (hn _ _ _ _ _ h.cu) hm⟩, by omega⟩
  ·rintro s k W W' ⟨⟨u', h⟩, h2⟩ hb
   exact ⟨⟨u', h.below hb⟩, h2⟩
  ·rintro s k W ⟨⟨u', h⟩, h2⟩ hE'
   exact pairItemL_any w u lo R T v1 v2 v4 v5 A M Rb Ab Tb s k u' W h h2 hN hE' hlo hlw hM
  ·exact ⟨⟨u, hP⟩, hl⟩
 clear hP hN hE
 obtain ⟨X, hX⟩ : ∃ X, X = itemsL pairL ((T.ts.drop k).length + 1) l (T.ts.drop k) := ⟨_, rfl⟩
 rw [← hX] at hit ⊢
 clear hX
 cases X with
 | error er =>
  go_enter Tryz.func126, Tryz.ntmps126
  go_wp2_with fail
  refine hit.mono ?_
  rintro e w1 ⟨rfl, h2⟩
  exact ⟨rfl, rfl, h2⟩
 | ok y =>
  obtain ⟨l', r'⟩ := y
  go_enter Tryz.func126, Tryz.ntmps126
  go_wp2_with (go_at_call 122; refine hit.mono ?_; rintro e w1 ⟨k', rfl, h2, h3⟩)
  go_end0
  exact ⟨k', rfl, h2, h3⟩
end
end Go.Proofs.YthaibekbefndlaaGreatDoor.C

namespace Go.Proofs.YthaibekbefndlaaGreatDoor.C
open Go.RowKit

theorem run_step {l l' : List UInt8} {at_ m : Nat} {acc acc' : List Tok} {r : List Tok ⊕ Nat} (h0 : l ≠ []) (h : stepL l at_ acc = some (acc', m)) (hm : 1 ≤ m) (hl : l.drop m = l') (hr : runL l' (at_ + m) acc' = r) : runL l at_ acc = r := by
 rw [runL_some h0 h hm, hl, hr]
theorem TI.cell {w : World} {B n : Nat} {A : Option Addr} {ts : List Tok} (h : TI w B A n ts) {ad : Addr} (hA : A = some ad) {k : Nat} {x : Tok} (hx : ts[k]? = some x) (i : Nat) (u : Value) (hu : (tkC x)[i]? = some u) : w.cell? (ad.add (k * 4 + i)) = some u := by
 have hk : k < n := by rw [← h.len]; exact (List.getElem?_eq_some_iff.1 hx).1
 obtain ⟨ad', x', h1, h2, h3, h4⟩ := h.at_ hk
 rw [hA] at h1
 injection h1 with h1
 subst h1
 rw [hx] at h3
 injection h3 with h3
 subst h3
 exact h4 i u hu
theorem TI.some_ {w : World} {B n : Nat} {A : Option Addr} {ts : List Tok} (h : TI w B A n ts) (hn : 0 < n) : ∃ ad, A = some ad ∧ ad.block < B := by
 obtain ⟨ad, e, hb, _⟩ := h.2 hn
 exact ⟨ad, e, hb⟩
theorem add_pos (a : Addr) (j : Nat) (h : 0 < j) : a.add j = ⟨a.block, a.off + j, none⟩ := by
 unfold Addr.add
 rw [if_neg (by omega)]

end Go.Proofs.YthaibekbefndlaaGreatDoor.C
