/-
  Words on slices: the front, what is behind, new rows. No condition.
-/
import Derived.Test.YtcpjcepeiplfgaaDoorLnM
import Derived.StillTailTactics
import Derived.Deep.RegionHeld3
import Derived.Deep.RegionLaw
namespace Go.Proofs.YtcpjcepeiplfgaaDoor.C
open Go.RowKit


theorem add_plain (b off j : Nat) : (⟨b, off, none⟩ : Addr).add j = ⟨b, off + j, none⟩ := by unfold Addr.add; split <;> simp_all

theorem below_drewN {B : Nat} {a w : World} (h : Below B a w) (n : Nat) : Below B a (w.drewN n) := ⟨h.os, h.tape, h.output, h.size, h.block⟩
theorem own_slice2 {w : World} {base : Nat} {e : TypeId} {ki : IntKind} {v : Value} {n : Nat} {zs : List Int} (h : w.ownsRow base e 1 v n (zs.map (Value.int ki))) : ∃ A c, v = .slice A n c ∧ n ≤ c ∧ c ≤ maxLen ∧ RI ki w w.heap.size A n zs := by
  rcases h.2 with ⟨rfl, rfl⟩ | ⟨g, c, cur, rfl, _, _, hc, hm, _⟩
  · have hz : zs = [] := List.eq_nil_of_length_eq_zero (by have := h.1; simpa using this)
    subst hz
    exact ⟨none, 0, rfl, Nat.le_refl _, Nat.zero_le _, RI.none_⟩
  · exact ⟨_, c, rfl, hc, hm, RI.of_own h⟩
theorem RI.new (w : World) (ki : IntKind) (zs : List Int) (t : TypeId) : RI ki (w.alloc (.cells (zs.map (Value.int ki)).toArray t)) (w.heap.size + 1) (some ⟨w.heap.size, 0, none⟩) zs.length zs :=
  ⟨rfl, fun _ => ⟨_, rfl, Nat.lt_succ_self _, fun j u hu => by
    rw [add_plain, Nat.zero_add, World.cell?_alloc_new]
    simp [hu]⟩⟩

/-- how long a slice is -/
def lenV : Value → Nat
  | .slice _ n _ => n
  | _ => 0
theorem RI.front {ki : IntKind} {w : World} {B n m : Nat} {A : Option Addr} {zs : List Int} (h : RI ki w B A n zs) (hm : m ≤ n) : RI ki w B A m (zs.take m) :=
  ⟨by have := h.1; simp; omega, fun h0 => by
    obtain ⟨ad, e, hb, hc⟩ := h.2 (by omega)
    refine ⟨ad, e, hb, fun j u hu => hc j u ?_⟩
    rw [List.getElem?_take] at hu
    split at hu
    · exact hu
    · cases hu⟩
theorem RI.behind {ki : IntKind} {w : World} {B n : Nat} {A : Option Addr} {zs : List Int} (h : RI ki w B A n zs) {k cap : Nat} (hk : k ≤ n) (hc : n ≤ cap) :
    RI ki w B (if cap = k then A else A.map (·.add k)) (n - k) (zs.drop k) := by
  have := h.cut (k := k) (m := n - k) (cap := cap) (by omega) hc
  rwa [List.take_of_length_le (by rw [List.length_drop, h.len]; exact Nat.le_refl _)] at this
theorem RI.on {ki : IntKind} {w w' : World} {B B' n : Nat} {A : Option Addr} {zs : List Int} (h : RI ki w B A n zs) (hb : Below B' w w') (hB : B ≤ B') : RI ki w' B A n zs := h.keep fun p hp => hb.cell (p := p) (by omega)


theorem own_less {w : World} {base base' : Nat} {e : TypeId} {size : Nat} {v : Value} {n : Nat} {xs : List Value} (h : w.ownsRow base e size v n xs) (hb : base' ≤ base) : w.ownsRow base' e size v n xs := by
  refine ⟨h.1, ?_⟩
  rcases h.2 with h1 | ⟨g, cap, cur, h1, h2, h3⟩
  · exact .inl h1
  · exact .inr ⟨g, cap, cur, h1, Nat.le_trans hb h2, h3⟩
end Go.Proofs.YtcpjcepeiplfgaaDoor.C
