/-
  Nodes and trees in memory: what reads as they are, over blocks of a property. No condition.
-/
import Derived.Test.YtcpjcepeiplfgaaDoorTaW
import Derived.Test.YtcpjcepeiplfgaaDoorTaP
namespace Go.Proofs.YtcpjcepeiplfgaaDoor.C
open Go.RowKit

/-- a slice of numbers reads as these; its block is one of P -/
def RIp (ki : IntKind) (w : World) (P : Nat → Prop) (A : Option Addr) (n : Nat) (zs : List Int) : Prop :=
  zs.length = n ∧ (0 < n → ∃ ad, A = some ad ∧ P ad.block ∧ ∀ j u, zs[j]? = some u → w.cell? (ad.add j) = some (.int ki u))
/-- a slice of structs of sz cells -/
def SIp (sz : Nat) (w : World) (P : Nat → Prop) (A : Option Addr) (n : Nat) (xs : List (List Value)) : Prop :=
  xs.length = n ∧ (∀ x ∈ xs, x.length = sz) ∧ (0 < n → ∃ ad, A = some ad ∧ P ad.block ∧ ∀ j x, xs[j]? = some x → ∀ i u, x[i]? = some u → w.cell? (ad.add (j * sz + i)) = some u)
def PrsP (w : World) (P : Nat → Prop) (v : Value) (l : List (Int × Int)) : Prop := ∃ A c, v = .slice A l.length c ∧ SIp 2 w P A l.length (l.map prRow) ∧ l.length ≤ maxLen
def TxsP (w : World) (P : Nat → Prop) (v : Value) (ts : List (List Int)) : Prop := ∃ A c us, v = .slice A ts.length c ∧ SIp 1 w P A ts.length us ∧ ts.length ≤ maxLen ∧
  ∀ (i : Nat) (t : List Int), ts[i]? = some t → ∃ a d, us[i]? = some [.slice a t.length d] ∧ RIp .i32 w P a t.length t ∧ t.length ≤ maxLen
def KsP (w : World) (P : Nat → Prop) (v : Value) (ks : List Int) : Prop := ∃ A c, v = .slice A ks.length c ∧ RIp .i64 w P A ks.length ks ∧ ks.length ≤ maxLen
def ndRow (x : Nd) (vR vT vK : Value) : List Value := [.int .u8 x.k, .int .i32 x.c, .bool x.nt, vR, vT, .int .i64 x.n, .int .i64 x.mn, .int .i64 x.mx, vK]
def ndVal (x : Nd) (vR vT vK : Value) : Value := .agg #[.int .u8 x.k, .int .i32 x.c, .bool x.nt, vR, vT, .int .i64 x.n, .int .i64 x.mn, .int .i64 x.mx, vK]
/-- three slices of a node -/
def NdP (w : World) (P : Nat → Prop) (x : Nd) (vR vT vK : Value) : Prop := PrsP w P vR x.rs ∧ TxsP w P vT x.ts ∧ KsP w P vK x.ks
def NdsP (w : World) (P : Nat → Prop) (A : Option Addr) (ns : List Nd) (xs : List (List Value)) : Prop :=
  SIp 9 w P A ns.length xs ∧ ∀ (i : Nat) (x : Nd), ns[i]? = some x → ∃ vR vT vK, xs[i]? = some (ndRow x vR vT vK) ∧ NdP w P x vR vT vK
section
variable {w w' : World} {P Q : Nat → Prop} {v vR vT vK : Value} {x : Nd}
theorem RIp.keep {ki : IntKind} {A : Option Addr} {n : Nat} {zs : List Int} (h : RIp ki w P A n zs) (hk : ∀ p : Addr, P p.block → w'.cell? p = w.cell? p) : RIp ki w' P A n zs :=
  ⟨h.1, fun hn => by
    obtain ⟨ad, e, hb, hc⟩ := h.2 hn
    exact ⟨ad, e, hb, fun j u hu => (hk _ (by rw [block_of_add]; exact hb)).trans (hc j u hu)⟩⟩
theorem RIp.mono {ki : IntKind} {A : Option Addr} {n : Nat} {zs : List Int} (h : RIp ki w P A n zs) (hk : ∀ b, b < w.heap.size → P b → Q b) : RIp ki w Q A n zs :=
  ⟨h.1, fun hn => by
    obtain ⟨ad, e, hb, hc⟩ := h.2 hn
    obtain ⟨u, hu⟩ : ∃ u, zs[0]? = some u := ⟨_, List.getElem?_eq_getElem (by have := h.1; omega)⟩
    have := World.block_lt_of_cell? w _ (hc 0 u hu)
    rw [block_of_add] at this
    exact ⟨ad, e, hk _ this hb, hc⟩⟩
theorem SIp.keep {sz : Nat} {A : Option Addr} {n : Nat} {xs : List (List Value)} (h : SIp sz w P A n xs) (hk : ∀ p : Addr, P p.block → w'.cell? p = w.cell? p) : SIp sz w' P A n xs :=
  ⟨h.1, h.2.1, fun hn => by
    obtain ⟨ad, e, hb, hc⟩ := h.2.2 hn
    exact ⟨ad, e, hb, fun j x hx i u hu => (hk _ (by rw [block_of_add]; exact hb)).trans (hc j x hx i u hu)⟩⟩
theorem SIp.mono {sz : Nat} {A : Option Addr} {n : Nat} {xs : List (List Value)} (h : SIp sz w P A n xs) (h0 : 0 < sz) (hk : ∀ b, b < w.heap.size → P b → Q b) : SIp sz w Q A n xs :=
  ⟨h.1, h.2.1, fun hn => by
    obtain ⟨ad, e, hb, hc⟩ := h.2.2 hn
    obtain ⟨x, hx⟩ : ∃ x, xs[0]? = some x := ⟨_, List.getElem?_eq_getElem (by have := h.1; omega)⟩
    obtain ⟨u, hu⟩ : ∃ u, x[0]? = some u := ⟨_, List.getElem?_eq_getElem (by have := h.2.1 x (List.mem_of_getElem? hx); omega)⟩
    have := World.block_lt_of_cell? w _ (hc 0 x hx 0 u hu)
    rw [block_of_add] at this
    exact ⟨ad, e, hk _ this hb, hc⟩⟩
theorem PrsP.keep {l : List (Int × Int)} (h : PrsP w P v l) (hk : ∀ p : Addr, P p.block → w'.cell? p = w.cell? p) : PrsP w' P v l := by
  obtain ⟨A, c, a, b, d⟩ := h
  exact ⟨A, c, a, b.keep hk, d⟩
theorem PrsP.mono {l : List (Int × Int)} (h : PrsP w P v l) (hk : ∀ b, b < w.heap.size → P b → Q b) : PrsP w Q v l := by
  obtain ⟨A, c, a, b, d⟩ := h
  exact ⟨A, c, a, b.mono (by decide) hk, d⟩
theorem TxsP.keep {l : List (List Int)} (h : TxsP w P v l) (hk : ∀ p : Addr, P p.block → w'.cell? p = w.cell? p) : TxsP w' P v l := by
  obtain ⟨A, c, us, a, b, d, e⟩ := h
  refine ⟨A, c, us, a, b.keep hk, d, fun i t ht => ?_⟩
  obtain ⟨a', d', h1, h2, h3⟩ := e i t ht
  exact ⟨a', d', h1, h2.keep hk, h3⟩
theorem TxsP.mono {l : List (List Int)} (h : TxsP w P v l) (hk : ∀ b, b < w.heap.size → P b → Q b) : TxsP w Q v l := by
  obtain ⟨A, c, us, a, b, d, e⟩ := h
  refine ⟨A, c, us, a, b.mono (by decide) hk, d, fun i t ht => ?_⟩
  obtain ⟨a', d', h1, h2, h3⟩ := e i t ht
  exact ⟨a', d', h1, h2.mono hk, h3⟩
theorem KsP.keep {l : List Int} (h : KsP w P v l) (hk : ∀ p : Addr, P p.block → w'.cell? p = w.cell? p) : KsP w' P v l := by
  obtain ⟨A, c, a, b, d⟩ := h
  exact ⟨A, c, a, b.keep hk, d⟩
theorem KsP.mono {l : List Int} (h : KsP w P v l) (hk : ∀ b, b < w.heap.size → P b → Q b) : KsP w Q v l := by
  obtain ⟨A, c, a, b, d⟩ := h
  exact ⟨A, c, a, b.mono hk, d⟩
theorem NdP.keep (h : NdP w P x vR vT vK) (hk : ∀ p : Addr, P p.block → w'.cell? p = w.cell? p) : NdP w' P x vR vT vK := ⟨h.1.keep hk, h.2.1.keep hk, h.2.2.keep hk⟩
theorem NdP.mono (h : NdP w P x vR vT vK) (hk : ∀ b, b < w.heap.size → P b → Q b) : NdP w Q x vR vT vK := ⟨h.1.mono hk, h.2.1.mono hk, h.2.2.mono hk⟩
theorem NdsP.keep {A : Option Addr} {ns : List Nd} {xs : List (List Value)} (h : NdsP w P A ns xs) (hk : ∀ p : Addr, P p.block → w'.cell? p = w.cell? p) : NdsP w' P A ns xs :=
  ⟨h.1.keep hk, fun i x hx => by
    obtain ⟨a, b, c, h1, h2⟩ := h.2 i x hx
    exact ⟨a, b, c, h1, h2.keep hk⟩⟩
theorem NdsP.mono {A : Option Addr} {ns : List Nd} {xs : List (List Value)} (h : NdsP w P A ns xs) (hk : ∀ b, b < w.heap.size → P b → Q b) : NdsP w Q A ns xs :=
  ⟨h.1.mono (by decide) hk, fun i x hx => by
    obtain ⟨a, b, c, h1, h2⟩ := h.2 i x hx
    exact ⟨a, b, c, h1, h2.mono hk⟩⟩
/-- what keeps blocks keeps cells -/
theorem fr_cells {X : Nat → Prop} (hf : Fr w w' X) (hP : ∀ b, P b → b < w.heap.size ∧ ¬ X b) : ∀ p : Addr, P p.block → w'.cell? p = w.cell? p := fun p hp => World.cell?_of_block (hf.block p.block (hP _ hp).1 (hP _ hp).2)
theorem below_cells {B : Nat} (hb : Below B w w') (hP : ∀ b, P b → b < B) : ∀ p : Addr, P p.block → w'.cell? p = w.cell? p := fun _ hp => hb.cell (hP _ hp)
end
theorem flat_in {sz : Nat} {xs : List (List Value)} (h : ∀ x ∈ xs, x.length = sz) {j : Nat} {u : Value} (hu : xs.flatten[j]? = some u) : ∃ k i x, xs[k]? = some x ∧ x[i]? = some u ∧ j = k * sz + i := by
  have hl : xs.flatten.length = xs.length * sz := by
    rw [List.length_flatten]
    rw [List.map_congr_left (g := fun _ => sz) h]
    rw [List.map_const', List.sum_replicate_nat]
  have hj := (List.getElem?_eq_some_iff.1 hu).1
  rw [hl] at hj
  have h0 : 0 < sz := by
    rcases Nat.eq_zero_or_pos sz with h0 | h0
    · rw [h0] at hj; omega
    · exact h0
  have hk : j / sz < xs.length := Nat.div_lt_of_lt_mul (by rw [Nat.mul_comm]; exact hj)
  obtain ⟨x, hx⟩ : ∃ x, xs[j / sz]? = some x := ⟨_, List.getElem?_eq_getElem hk⟩
  have hxl := h x (List.mem_of_getElem? hx)
  obtain ⟨y, hy⟩ : ∃ y, x[j % sz]? = some y := ⟨_, List.getElem?_eq_getElem (by rw [hxl]; exact Nat.mod_lt _ h0)⟩
  have := flat_at (sz := sz) h hx hy
  rw [show j / sz * sz + j % sz = j from by rw [Nat.mul_comm]; exact Nat.div_add_mod j sz, hu] at this
  injection this with this
  exact ⟨_, _, x, hx, by rw [hy, this], by rw [Nat.mul_comm]; exact (Nat.div_add_mod j sz).symm⟩
theorem ndRow_one (x : Nd) {w : World} {P : Nat → Prop} {vR vT vK : Value} (h : NdP w P x vR vT vK) : ∀ u ∈ ndRow x vR vT vK, u.oneCell' = true := by
  obtain ⟨⟨A, c, rfl, -⟩, ⟨B, d, us, rfl, -⟩, ⟨D, e, rfl, -⟩⟩ := h
  intro u hu
  simp only [ndRow, List.mem_cons, List.not_mem_nil, or_false] at hu
  rcases hu with rfl | rfl | rfl | rfl | rfl | rfl | rfl | rfl | rfl <;> rfl
theorem nds_one {w : World} {P : Nat → Prop} {A : Option Addr} {ns : List Nd} {xs : List (List Value)} (h : NdsP w P A ns xs) : ∀ u ∈ xs.flatten, u.oneCell' = true := by
  intro u hu
  obtain ⟨r, hr, hur⟩ := List.mem_flatten.1 hu
  obtain ⟨i, hi⟩ := List.mem_iff_getElem?.1 hr
  have hil := (List.getElem?_eq_some_iff.1 hi).1
  obtain ⟨x, hx⟩ : ∃ x, ns[i]? = some x := ⟨_, List.getElem?_eq_getElem (by have := h.1.1; omega)⟩
  obtain ⟨a, b, c, h1, h2⟩ := h.2 i x hx
  rw [hi] at h1
  injection h1 with h1
  subst h1
  exact ndRow_one x h2 u hur
theorem infoNode : (Tryd.prog.info? 31).map (fun i => (i.zero, i.size, i.bytes)) = some (some (.agg #[.int .u8 0, .int .i32 0, .bool false, .slice none 0 0, .slice none 0 0, .int .i64 0, .int .i64 0, .int .i64 0, .slice none 0 0]), 9, 112) := by kernel_rfl
end Go.Proofs.YtcpjcepeiplfgaaDoor.C
