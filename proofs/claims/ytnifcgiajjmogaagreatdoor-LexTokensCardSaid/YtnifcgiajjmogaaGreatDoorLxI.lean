/-
  Slices of integers that came in, read as lists. No condition.
-/
import Derived.Test.YtnifcgiajjmogaaGreatDoorLxE
import Derived.Test.YtnifcgiajjmogaaGreatDoorLawKit
namespace Go.Proofs.YtnifcgiajjmogaaGreatDoor.C
open Go.RowKit

/-- a slice's value (its address A, its length n) reads as the numbers zs of a kind, below block B; nil let in -/
def RI (ki : IntKind) (w : World) (B : Nat) (A : Option Addr) (n : Nat) (zs : List Int) : Prop :=
  zs.length = n ∧ (0 < n → ∃ ad, A = some ad ∧ ad.block < B ∧ ∀ j u, zs[j]? = some u → w.cell? (ad.add j) = some (.int ki u))

section
variable {ki : IntKind} {w w' : World} {B B' n : Nat} {A : Option Addr} {zs : List Int}
theorem RI.none_ : RI ki w B A 0 [] := ⟨by simp, fun h => absurd h (by omega)⟩
theorem RI.at_ {k : Nat} (h : RI ki w B A n zs) (hk : k < n) : ∃ ad u, A = some ad ∧ ad.block < B ∧ zs[k]? = some u ∧ w.cell? (ad.add k) = some (.int ki u) := by
  obtain ⟨ad, e, hb, hc⟩ := h.2 (by omega)
  have hl : k < zs.length := by have := h.1; omega
  exact ⟨ad, zs[k], e, hb, List.getElem?_eq_getElem hl, hc k _ (List.getElem?_eq_getElem hl)⟩
theorem RI.keep (h : RI ki w B A n zs) (hk : ∀ p : Addr, p.block < B → w'.cell? p = w.cell? p) : RI ki w' B A n zs :=
  ⟨h.1, fun hn => by
    obtain ⟨ad, e, hb, hc⟩ := h.2 hn
    exact ⟨ad, e, hb, fun j u hu => (hk _ (by rw [block_of_add]; exact hb)).trans (hc j u hu)⟩⟩
theorem RI.more (h : RI ki w B A n zs) (hB : B ≤ B') : RI ki w B' A n zs :=
  ⟨h.1, fun hn => by
    obtain ⟨ad, e, hb, hc⟩ := h.2 hn
    exact ⟨ad, e, by omega, hc⟩⟩
theorem RI.below (h : RI ki w B A n zs) (hb : Below B w w') : RI ki w' B A n zs := h.keep fun _ hp => hb.cell hp
theorem RI.drew (h : RI ki w B A n zs) : RI ki w.drew B A n zs := h
theorem RI.drewN (h : RI ki w B A n zs) (k : Nat) : RI ki (w.drewN k) B A n zs := h
theorem RI.alloc (h : RI ki w B A n zs) (hB : B ≤ w.heap.size) (o : Obj) : RI ki (w.alloc o) B A n zs := h.keep fun p hp => World.cell?_alloc_lt w o p (by omega)
theorem RI.setCell (h : RI ki w B A n zs) {p : Addr} (hB : B ≤ p.block) (u : Value) : RI ki (w.setCell p u) B A n zs :=
  h.keep fun q hq => World.cell?_setCell_other w p q u (fun e => by subst e; omega)
theorem RI.grown (h : RI ki w B A n zs) {row : Option Nat} (hg : w.grownBy w' row) (hB : B ≤ w.heap.size) (hr : ∀ g, row = some g → B ≤ g) : RI ki w' B A n zs :=
  h.keep fun p hp => World.cell?_of_block (hg.block p.block (by omega) (fun e => by have := hr _ e.symm; omega))
theorem RI.len (h : RI ki w B A n zs) : zs.length = n := h.1
end



/-- a slice that came in reads as a list -/
theorem RI.of_row {ki : IntKind} {w : World} {a : Option Addr} {len cap : Nat} {zs : List Int} (h : L.IsRow ki w a len cap zs) : RI ki w w.heap.size a len (zs.take len) := by
  rcases h with ⟨rfl, rfl, rfl, rfl⟩ | ⟨x, rfl, hl, hm, hz, hc, _⟩
  · exact ⟨by simp, fun h => absurd h (by omega)⟩
  · refine ⟨by simp; omega, fun hn => ⟨x, rfl, ?_, fun j u hu => ?_⟩⟩
    · have := World.block_lt_of_cell? w _ (hc 0 (by omega))
      rwa [block_of_add] at this
    · rw [List.getElem?_take] at hu
      split at hu
      · have hj : j < zs.length := (List.getElem?_eq_some_iff.1 hu).1
        rw [hc j hj]
        simp [hu]
      · cases hu
theorem row_len {ki : IntKind} {w : World} {a : Option Addr} {len cap : Nat} {zs : List Int} (h : L.IsRow ki w a len cap zs) : len ≤ cap ∧ cap ≤ maxLen := by
  rcases h with ⟨rfl, rfl, rfl, rfl⟩ | ⟨x, rfl, hl, hm, hz, hc, _⟩
  · exact ⟨Nat.le_refl _, Nat.zero_le _⟩
  · exact ⟨hl, hm⟩
theorem row_u8 {w : World} {a : Option Addr} {len cap : Nat} {zs : List Int} (h : L.IsRow .u8 w a len cap zs) : ∀ z ∈ zs.take len, 0 ≤ z ∧ z ≤ 255 := by
  rcases h with ⟨rfl, rfl, rfl, rfl⟩ | ⟨x, rfl, hl, hm, hz, hc, hw⟩
  · intro z hz; simp at hz
  · intro z hz
    exact bounds_u8 (hw z (List.mem_of_mem_take hz))
end Go.Proofs.YtnifcgiajjmogaaGreatDoor.C
