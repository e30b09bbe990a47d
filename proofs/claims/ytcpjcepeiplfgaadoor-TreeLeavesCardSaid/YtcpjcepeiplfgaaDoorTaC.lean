/-
  The document's own Several: a row, or either of some; one alone is itself. No condition but what it names.
-/
import Derived.Test.YtcpjcepeiplfgaaDoorTaB
import Derived.Test.YtcpjcepeiplfgaaDoorTaQ
namespace Go.Proofs.YtcpjcepeiplfgaaDoor.C
open Go.RowKit

theorem infoInt9 : (Tryd.prog.info? 3).map (fun i => (i.zero, i.size, i.bytes)) = some (some (.int .i64 0), 1, 8) := by kernel_rfl
/-- what the blocks of X, and those that are new, hold -/
def XN (X : Nat → Prop) (w w' : World) : Nat → Prop := fun b => X b ∨ (w.heap.size ≤ b ∧ b < w'.heap.size)
theorem RIp.ri {ki : IntKind} {w : World} {X : Nat → Prop} {A : Option Addr} {n : Nat} {zs : List Int} (h : RIp ki w X A n zs) (hX : ∀ b, X b → b < w.heap.size) : RI ki w w.heap.size A n zs :=
  ⟨h.1, fun hn => by
    obtain ⟨ad, e, hb, hc⟩ := h.2 hn
    exact ⟨ad, e, hX _ hb, hc⟩⟩
theorem RIp.of_own {ki : IntKind} {w : World} {base n c : Nat} {e : TypeId} {A : Option Addr} {zs : List Int} {X : Nat → Prop} (h : w.ownsRow base e 1 (.slice A n c) n (zs.map (Value.int ki))) (hX : ∀ g, (Value.slice A n c).ownBlock = some g → X g) : RIp ki w X A n zs := by
  refine ⟨by have := h.1; simpa using this, fun hn => ?_⟩
  obtain ⟨g, cap, hv, hg, hlt⟩ := h.form hn
  have hA : A = some ⟨g, 0, none⟩ := by injection hv
  subst hA
  exact ⟨_, rfl, hX g rfl, fun j u hu => h.cells (g := g) rfl j _ (by simp [hu])⟩
theorem NdsO.reads {w : World} {base n c : Nat} {X Y : Nat → Prop} {A : Option Addr} {ns : List Nd} (h : NdsO w base X (.slice A n c) ns) (hn : n = ns.length) (hY : ∀ b, X b ∨ (base ≤ b ∧ b < w.heap.size) → Y b) : ∃ xs, NdsP w Y A ns xs := by
  subst hn
  obtain ⟨xs, h1, h2, h3⟩ := h
  have hnine : ∀ x ∈ xs, x.length = 9 := by
    intro x hx
    obtain ⟨i, hi⟩ := List.mem_iff_getElem?.1 hx
    obtain ⟨y, hy⟩ : ∃ y, ns[i]? = some y := ⟨_, List.getElem?_eq_getElem (by have := (List.getElem?_eq_some_iff.1 hi).1; omega)⟩
    obtain ⟨a, b, d, e, _⟩ := h3 i y hy
    rw [hi] at e
    injection e with e
    subst e
    rfl
  refine ⟨xs, ⟨h1, hnine, fun h0 => ?_⟩, fun i x hx => ?_⟩
  · obtain ⟨g, cap, hv, hg, hlt⟩ := h2.form h0
    have hA : A = some ⟨g, 0, none⟩ := by injection hv
    subst hA
    exact ⟨_, rfl, hY g (.inr ⟨hg, hlt⟩), fun j x hx i u hu => h2.cells (g := g) rfl _ _ (flat_at hnine hx hu)⟩
  · obtain ⟨a, b, d, e1, e2⟩ := h3 i x hx
    exact ⟨a, b, d, e1, e2.mono fun b _ hb => hY b (.inl hb)⟩
/-- no slice of a node lies in the block of the nodes themselves -/
def Apt (A : Option Addr) (xs : List (List Value)) : Prop := ∀ r ∈ xs, ∀ (i : Nat) (b : Addr) (n c : Nat), r[i]? = some (.slice (some b) n c) → 0 < n → ∀ ad, A = some ad → b.block ≠ ad.block
/-- .. and this block may be stored into -/
def AptW (w : World) (A : Option Addr) (c : Nat) (xs : List (List Value)) : Prop := (Apt A xs ∧ xs.length ≤ c) ∧ (0 < xs.length → ∀ ad, A = some ad → ∀ i, w.frozen? ⟨ad.block, i, none⟩ = false)
theorem apt_nil (w : World) (A : Option Addr) (c : Nat) : AptW w A c [] := ⟨⟨fun r hr => absurd hr (by simp), Nat.zero_le _⟩, fun h => absurd h (by simp)⟩
theorem AptW.keep {w w' : World} {P : Nat → Prop} {A : Option Addr} {c : Nat} {ns : List Nd} {xs : List (List Value)} (h : AptW w A c xs) (hN : NdsP w P A ns xs) (hk : ∀ b, P b → w'.heap[b]? = w.heap[b]?) : AptW w' A c xs := by
  refine ⟨h.1, fun h0 ad e i => ?_⟩
  obtain ⟨ad', e', hP, _⟩ := hN.1.2.2 (by have := hN.1.1; omega)
  rw [e] at e'
  injection e' with e'
  subst e'
  have h1 := h.2 h0 ad e i
  unfold World.frozen? at h1 ⊢
  rw [show w'.heap[(⟨ad.block, i, none⟩ : Addr).block]? = w.heap[(⟨ad.block, i, none⟩ : Addr).block]? from hk _ hP]
  exact h1
theorem NdsO.readsA {w : World} {base n c : Nat} {X Y : Nat → Prop} {A : Option Addr} {ns : List Nd} (h : NdsO w base X (.slice A n c) ns) (hn : n = ns.length) (hY : ∀ b, X b ∨ (base ≤ b ∧ b < w.heap.size) → Y b) (hX : ∀ b, X b → b < base) : ∃ xs, NdsP w Y A ns xs ∧ AptW w A c xs := by
  subst hn
  obtain ⟨xs, h1, h2, h3⟩ := h
  have hnine : ∀ x ∈ xs, x.length = 9 := by
    intro x hx
    obtain ⟨i, hi⟩ := List.mem_iff_getElem?.1 hx
    obtain ⟨y, hy⟩ : ∃ y, ns[i]? = some y := ⟨_, List.getElem?_eq_getElem (by have := (List.getElem?_eq_some_iff.1 hi).1; omega)⟩
    obtain ⟨a, b, d, e, _⟩ := h3 i y hy
    rw [hi] at e
    injection e with e
    subst e
    rfl
  refine ⟨xs, ⟨⟨h1, hnine, fun h0 => ?_⟩, fun i x hx => ?_⟩, ⟨fun r hr i b n c hi h0 ad hA => ?_, ?_⟩, fun h0 ad hA i => ?_⟩
  · obtain ⟨g, cap, hv, hg, hlt⟩ := h2.form h0
    have hA : A = some ⟨g, 0, none⟩ := by injection hv
    subst hA
    exact ⟨_, rfl, hY g (.inr ⟨hg, hlt⟩), fun j x hx i u hu => h2.cells (g := g) rfl _ _ (flat_at hnine hx hu)⟩
  · obtain ⟨a, b, d, e1, e2⟩ := h3 i x hx
    exact ⟨a, b, d, e1, e2.mono fun b _ hb => hY b (.inl hb)⟩
  · obtain ⟨j, hj⟩ := List.mem_iff_getElem?.1 hr
    have hjl := (List.getElem?_eq_some_iff.1 hj).1
    obtain ⟨y, hy⟩ : ∃ y, ns[j]? = some y := ⟨_, List.getElem?_eq_getElem (by omega)⟩
    obtain ⟨vR, vT, vK, e, hR, hT, hK⟩ := h3 j y hy
    rw [hj] at e
    injection e with e
    subst e
    obtain ⟨g, cap, hv, hg, hlt⟩ := h2.form (by omega)
    have hA2 : A = some ⟨g, 0, none⟩ := by injection hv
    rw [hA2] at hA
    injection hA with hA
    subst hA
    have key : b.block < base → b.block ≠ g := fun h => by omega
    obtain ⟨AR, cR, rfl, hsR, -⟩ := hR
    obtain ⟨AT, cT, us, rfl, hsT, -, -⟩ := hT
    obtain ⟨AK, cK, rfl, hrK, -⟩ := hK
    rcases i with _ | _ | _ | _ | _ | _ | _ | _ | _ | i
    · simp [ndRow] at hi
    · simp [ndRow] at hi
    · simp [ndRow] at hi
    · simp only [ndRow, List.getElem?_cons_succ, List.getElem?_cons_zero, Option.some.injEq, Value.slice.injEq] at hi
      obtain ⟨hi1, hi2, -⟩ := hi
      obtain ⟨ad, e1, e2, -⟩ := hsR.2.2 (by omega)
      rw [hi1] at e1
      injection e1 with e1
      subst e1
      exact key (hX _ e2)
    · simp only [ndRow, List.getElem?_cons_succ, List.getElem?_cons_zero, Option.some.injEq, Value.slice.injEq] at hi
      obtain ⟨hi1, hi2, -⟩ := hi
      obtain ⟨ad, e1, e2, -⟩ := hsT.2.2 (by omega)
      rw [hi1] at e1
      injection e1 with e1
      subst e1
      exact key (hX _ e2)
    · simp [ndRow] at hi
    · simp [ndRow] at hi
    · simp [ndRow] at hi
    · simp only [ndRow, List.getElem?_cons_succ, List.getElem?_cons_zero, Option.some.injEq, Value.slice.injEq] at hi
      obtain ⟨hi1, hi2, -⟩ := hi
      obtain ⟨ad, e1, e2, -⟩ := hrK.2 (by omega)
      rw [hi1] at e1
      injection e1 with e1
      subst e1
      exact key (hX _ e2)
    · simp [ndRow] at hi
  · rcases h2.2 with ⟨-, h0⟩ | ⟨g, cap, cur, hv, -, -, hle, -⟩
    · omega
    · injection hv with _ _ hc
      omega
  · obtain ⟨g, cap, hv, hg, hlt⟩ := h2.form (by omega)
    have hA2 : A = some ⟨g, 0, none⟩ := by injection hv
    subst hA2
    injection hA with hA
    subst hA
    exact h2.frozenAt i
def sevT (t : Tr) (k : Int) (ls : List Int) : Tr := match ls with
  | [] => layT t (nd 11)
  | [_] => t
  | o => layT t { nd k with ks := o }
theorem sevT_more {t : Tr} {k : Int} {ls : List Int} (h : 2 ≤ ls.length) : sevT t k ls = layT t { nd k with ks := ls } := by
  rcases ls with _ | ⟨a, _ | ⟨b, r⟩⟩
  · simp at h
  · simp at h
  · rfl
theorem doneG_sev (s : TS) : doneG s = sevT s.t 8 s.o := by
  unfold doneG sevT
  rcases s.o with _ | ⟨a, _ | ⟨b, r⟩⟩ <;> rfl
theorem nd_plain {w : World} {X : Nat → Prop} (k : Int) : NdP w X (nd k) (.slice none 0 0) (.slice none 0 0) (.slice none 0 0) :=
  ⟨⟨none, 0, rfl, ⟨rfl, by simp [nd], fun h => by simp [nd] at h⟩, Nat.zero_le _⟩, ⟨none, 0, [], rfl, ⟨rfl, by simp, fun h => by simp [nd] at h⟩, Nat.zero_le _, by simp [nd]⟩, ⟨none, 0, rfl, ⟨rfl, fun h => by simp [nd] at h⟩, Nat.zero_le _⟩⟩
theorem nd_kids {w : World} {X : Nat → Prop} (k : Int) {A : Option Addr} {c : Nat} {ks : List Int} (h : RIp .i64 w X A ks.length ks) (hm : ks.length ≤ maxLen) (n mn mx : Int) : NdP w X { nd k with ks := ks, n := n, mn := mn, mx := mx } (.slice none 0 0) (.slice none 0 0) (.slice A ks.length c) :=
  ⟨⟨none, 0, rfl, ⟨rfl, by simp [nd], fun h => by simp [nd] at h⟩, Nat.zero_le _⟩, ⟨none, 0, [], rfl, ⟨rfl, by simp, fun h => by simp [nd] at h⟩, Nat.zero_le _, by simp [nd]⟩, ⟨A, c, rfl, h, hm⟩⟩
theorem sev_end {w w3 : World} {X Z : Nat → Prop} {S c : Nat} {A : Option Addr} {ns : List Nd} {xs : List (List Value)} {v u a b : Value} (hr : Rw w3 (S + 1) 34 #[a, b]) (hb : Below S w w3) (hS : w.heap.size = S) (hN : NdsP w3 Z A ns xs) (hap : AptW w3 A c xs) (hZ : ∀ b, b < w3.heap.size → Z b → b ≠ S + 1 ∧ (X b ∨ S ≤ b)) :
    Rw ((w3.setCell ⟨S + 1, 0, none⟩ v).setCell ⟨S + 1, 1, none⟩ u) (S + 1) 34 #[v, u] ∧ Below S w ((w3.setCell ⟨S + 1, 0, none⟩ v).setCell ⟨S + 1, 1, none⟩ u) ∧ NdsP ((w3.setCell ⟨S + 1, 0, none⟩ v).setCell ⟨S + 1, 1, none⟩ u) (XN X w ((w3.setCell ⟨S + 1, 0, none⟩ v).setCell ⟨S + 1, 1, none⟩ u)) A ns xs ∧ AptW ((w3.setCell ⟨S + 1, 0, none⟩ v).setCell ⟨S + 1, 1, none⟩ u) A c xs := by
  have hf : Fr w3 ((w3.setCell ⟨S + 1, 0, none⟩ v).setCell ⟨S + 1, 1, none⟩ u) (· = S + 1) := ((Fr.of_below (X := (· = S + 1)) (Below.refl _ w3)).set ⟨S + 1, 0, none⟩ v (fun _ => rfl)).set ⟨S + 1, 1, none⟩ u (fun _ => rfl)
  have hB : Below S w ((w3.setCell ⟨S + 1, 0, none⟩ v).setCell ⟨S + 1, 1, none⟩ u) := (hb.setCell (p := ⟨S + 1, 0, none⟩) (by show S ≤ S + 1; omega) v).setCell (p := ⟨S + 1, 1, none⟩) (by show S ≤ S + 1; omega) u
  refine ⟨set_row (i := 1) (l := [_, _]) (set_row (i := 0) (l := [a, b]) hr v) u, hB, ?_, ?_⟩
  case refine_2 =>
    exact hap.keep (hN.mono (Q := fun b => b < w3.heap.size ∧ b ≠ S + 1 ∧ (X b ∨ S ≤ b)) (fun b h1 h2 => ⟨h1, hZ b h1 h2⟩)) (fun b hb => hf.block b hb.1 hb.2.1)
  have h1 := (hN.mono (Q := fun b => b < w3.heap.size ∧ b ≠ S + 1 ∧ (X b ∨ S ≤ b)) (fun b h1 h2 => ⟨h1, hZ b h1 h2⟩)).keep (fr_cells (P := fun b => b < w3.heap.size ∧ b ≠ S + 1 ∧ (X b ∨ S ≤ b)) hf (fun b hb => ⟨hb.1, hb.2.1⟩))
  refine h1.mono fun b hb h => ?_
  rcases h.2.2 with h | h
  · exact .inl h
  · exact .inr ⟨by rw [hS]; exact h, hb⟩
set_option maxRecDepth 100000 in
set_option maxHeartbeats 4000000 in
theorem several_any (w : World) (X : Nat → Prop) (A : Option Addr) (c : Nat) (t : Tr) (xs : List (List Value)) (k : Int) (Al : Option Addr) (cl : Nat) (ls : List Int) (hN : NdsP w X A t.ns xs) (hap : AptW w A c xs) (hls : RIp .i64 w (· < w.heap.size) Al ls.length ls) (hX : ∀ b, X b → b < w.heap.size) (hl : t.ns.length ≤ 1000) (hll : ls.length ≤ 1000) (hg : 0 ≤ t.g ∧ t.g ≤ 900) :
    Calls Tryd.prog 26 #[.agg #[.slice A t.ns.length c, .int .i64 t.g], .int .u8 k, .slice Al ls.length cl] w fun e w' => Below w.heap.size w w' ∧ ∃ A' c' i xs', e = .returned (.tuple #[.agg #[.slice A' (sevT t k ls).ns.length c', .int .i64 (sevT t k ls).g], .int .i64 i]) ∧ NdsP w' (XN X w w') A' (sevT t k ls).ns xs' ∧ AptW w' A' c' xs' := by
  obtain ⟨W1, hW1⟩ : ∃ W1, W1 = w.alloc (.cells #[.slice A t.ns.length c, .int .i64 t.g] 34) := ⟨_, rfl⟩
  obtain ⟨W2, hW2⟩ : ∃ W2, W2 = W1.alloc (.cells #[.slice none 0 0, .int .i64 0] 34) := ⟨_, rfl⟩
  have s1 : W1.heap.size = w.heap.size + 1 := by rw [hW1]; simp
  have s2 : W2.heap.size = w.heap.size + 2 := by rw [hW2]; simp [s1]
  have hB1 : Below W1.heap.size W1 W2 := by rw [hW2]; exact (Below.refl _ _).alloc (Nat.le_refl _) _
  have hT2 : Rw W2 w.heap.size 34 #[.slice A t.ns.length c, .int .i64 t.g] := by
    have h : Rw W1 w.heap.size 34 #[.slice A t.ns.length c, .int .i64 t.g] := by rw [hW1]; exact heap_alloc_new w _
    exact h.on hB1 h.lt
  have hR2 : Rw W2 (w.heap.size + 1) 34 #[.slice none 0 0, .int .i64 0] := by rw [hW2, ← s1]; exact heap_alloc_new W1 _
  have hbW : Below w.heap.size w W2 := by rw [hW2, hW1]; exact ((Below.refl _ _).alloc (Nat.le_refl _) _).alloc (by simp) _
  obtain ⟨S, hS⟩ : ∃ S, w.heap.size = S := ⟨_, rfl⟩
  have HT2 := Lib.hid hT2
  have HR2 := Lib.hid hR2
  have HBW := Lib.hid hbW
  have HSS := Lib.hid hS
  have HS2 : Hid (W2.heap.size = S + 2) := Lib.hid (by rw [← hS]; exact s2)
  have HN := Lib.hid hN
  have HLS := Lib.hid hls
  have HAP := Lib.hid hap
  rw [hS] at HT2 HR2 HBW
  have HW : Hid (W2 = (w.alloc (.cells #[.slice A t.ns.length c, .int .i64 t.g] 34)).alloc (.cells #[.slice none 0 0, .int .i64 0] 34)) := Lib.hid (by rw [hW2, hW1])
  clear hW1 hW2 hB1 hT2 hR2 hbW hN hap hls s1 s2
  by_cases h0 : ls = []
  · subst h0
    have hlay := lay_any W2 X A c t xs (nd 11) _ _ _ (HN.out.keep (below_cells HBW.out (fun b hb => by rw [← hS]; exact hX b hb))) (nd_plain 11) (fun b hb => by have := hX b hb; have := HS2.out; omega) hl ⟨hg.1, by omega⟩
    unfold ndVal at hlay
    go_enter Tryd.func26, Tryd.ntmps26
    go_wp2_with fail
    rw [← HW.out]
    refine hlay.mono ?_
    rintro e w3 ⟨hb3, A', c', rfl, hO⟩
    obtain ⟨xs', hxs, hap2⟩ := hO.readsA (Y := fun b => X b ∨ S + 2 ≤ b) (by simp [layT]) (fun b hb => by have := HS2.out; rcases hb with h | h; exact .inl h; exact .inr (by omega)) (fun b hb => by have := hX b hb; have := HS2.out; omega)
    have hr3 := HR2.out.on hb3 (by rw [HS2.out]; omega)
    have y0 := hr3.cell (i := 0) rfl
    have y1 := hr3.cell (i := 1) rfl
    have f0 := rw_frozen hr3 0
    have f1 := rw_frozen hr3 1
    have hB3 := HBW.out.trans (hb3.mono (by rw [HS2.out]; omega))
    have HE := Lib.hid (sev_end (X := X) (v := .slice A' (t.ns.length + 1) c') (u := .int .i64 (layT t (nd 11)).g) hr3 hB3 hS hxs hap2 (fun b _ hb => by rcases hb with h | h; exact ⟨by have := hX b h; omega, .inl h⟩; exact ⟨by omega, .inr (by omega)⟩))
    clear hlay hb3 hO hxs hap2 hr3 hB3
    go_wp2
    have q0 := HE.out.1.cell (i := 0) rfl
    have q1 := HE.out.1.cell (i := 1) rfl
    refine bodyPost_ret (v := .tuple #[.agg #[.slice A' (t.ns.length + 1) c', .int .i64 (layT t (nd 11)).g], .int .i64 t.ns.length]) (by simp [results, Tryd.results26, go_sem, q0, q1]) rfl ⟨by rw [hS]; exact HE.out.2.1, A', c', (t.ns.length : Int), xs', ?_, HE.out.2.2⟩
    simp [sevT, layT]
  · by_cases h1 : ls.length = 1
    · obtain ⟨i, rfl⟩ := List.length_eq_one_iff.1 h1
      obtain ⟨ad, rfl, hadb, hadc⟩ := HLS.out.2 (by simp)
      have hi0 : W2.cell? ad = some (.int .i64 i) := by
        have := (HBW.out.cell (p := ad.add 0) (by rw [block_of_add, ← hS]; exact hadb)).trans (hadc 0 i rfl)
        rwa [Addr.add_zero'] at this
      have HE := Lib.hid (sev_end (X := X) (Z := X) (v := .slice A t.ns.length c) (u := .int .i64 t.g) HR2.out HBW.out hS (HN.out.keep (below_cells HBW.out (fun b hb => by rw [← hS]; exact hX b hb))) (HAP.out.keep HN.out (fun b hb => HBW.out.block b (by rw [← hS]; exact hX b hb))) (fun b _ hb => ⟨by have := hX b hb; omega, .inl hb⟩))
      have d0 := HT2.out.cell (i := 0) rfl
      have d1 := HT2.out.cell (i := 1) rfl
      have y0 := HR2.out.cell (i := 0) rfl
      have y1 := HR2.out.cell (i := 1) rfl
      have f0 := rw_frozen HR2.out 0
      have f1 := rw_frozen HR2.out 1
      clear h0 h1 hadc
      go_enter Tryd.func26, Tryd.ntmps26
      go_wp2_with fail
      have hS1 : (fun W' : World => W'.cell? ⟨S, 0, none⟩ = some (.slice A t.ns.length c) ∧ W'.cell? ⟨S, 1, none⟩ = some (.int .i64 t.g) ∧ W'.cell? ad = some (.int .i64 i)) W2.drew := ⟨d0, d1, hi0⟩
      have hS7 : (fun W' : World => W'.cell? ⟨S, 0, none⟩ = some (.slice A t.ns.length c) ∧ W'.cell? ⟨S, 1, none⟩ = some (.int .i64 t.g) ∧ W'.cell? ad = some (.int .i64 i)) ((W2.drew.setCell ⟨S + 1, 0, none⟩ (.slice A t.ns.length c)).setCell ⟨S + 1, 1, none⟩ (.int .i64 t.g)) := by
        have hk : ∀ p : Addr, p.block ≠ S + 1 → ((W2.drew.setCell ⟨S + 1, 0, none⟩ (.slice A t.ns.length c)).setCell ⟨S + 1, 1, none⟩ (.int .i64 t.g)).cell? p = W2.cell? p := fun p hp => World.cell?_of_block ((Below.heap_setCell _ ⟨S + 1, 1, none⟩ _ p.block hp).trans (Below.heap_setCell _ ⟨S + 1, 0, none⟩ _ p.block hp))
        exact ⟨(hk ⟨S, 0, none⟩ (by simp)).trans d0, (hk ⟨S, 1, none⟩ (by simp)).trans d1, (hk ad (by rw [hS] at hadb; omega)).trans hi0⟩
      refine wp_region_held (S := fun W' : World => W'.cell? ⟨S, 0, none⟩ = some (.slice A t.ns.length c) ∧ W'.cell? ⟨S, 1, none⟩ = some (.int .i64 t.g) ∧ W'.cell? ad = some (.int .i64 i)) (by kernel_rfl) ?_
      rw [← HW.out]
      change wpAnyH _ _ _ _ _ _ _ _ W2.drew
      iterate 3 (refine wpH rfl rfl ?_; try simp only [Act.put, g1, g2, g3, g4, g5, g6])
      refine wpAnyH_two (i := 3) (j := 4) (by kernel_rfl) rfl rfl (fun K hK => ?_) (fun K hK => ?_)
      · simp only [g4, g5, g6]
        go_simp
        refine hK.out _ _ hS1 (fun _ => ?_)
        try simp only [Act.put, g1, g2, g3, g4, g5, g6]
        refine wpAnyH_one (i := 4) (by kernel_rfl) rfl (fun K hK => ?_)
        simp only [g4, g5, g6]
        go_simp
        refine hK.out _ ((W2.drew.setCell ⟨S + 1, 0, none⟩ (.slice A t.ns.length c)).setCell ⟨S + 1, 1, none⟩ (.int .i64 t.g)) hS7 (fun _ => ?_)
        try simp only [Act.put, g1, g2, g3, g4, g5, g6]
        refine wpAnyH_one (i := 5) (by kernel_rfl) rfl (fun K hK => ?_)
        simp only [g4, g5, g6]
        go_simp
        refine hK.out _ ((W2.drew.setCell ⟨S + 1, 0, none⟩ (.slice A t.ns.length c)).setCell ⟨S + 1, 1, none⟩ (.int .i64 t.g)) hS7 (fun _ => ?_)
        try simp only [Act.put, g1, g2, g3, g4, g5, g6]
        refine wpAnyH_done (by kernel_rfl) ?_ _
        clear hS1 hS7 d0 d1 hi0 y0 y1 f0 f1
        go_wp2
        have z0 := set_row (i := 0) (l := [_, _]) HR2.out (.slice A t.ns.length c)
        have q0 : (W2.setCell ⟨S + 1, 0, none⟩ (.slice A t.ns.length c)).cell? ⟨S + 1, 0, none⟩ = some (.slice A t.ns.length c) := by simp [World.cell?, z0]
        have q1 := HE.out.1.cell (i := 1) rfl
        refine bodyPost_ret (v := .tuple #[.agg #[.slice A t.ns.length c, .int .i64 t.g], .int .i64 i]) (by simp [results, Tryd.results26, go_sem, q0, q1]) rfl ⟨by rw [hS]; exact below_drew HE.out.2.1, A, c, i, xs, rfl, HE.out.2.2⟩
      · simp only [g4, g5, g6]
        go_simp
        refine hK.out _ ((W2.drew.setCell ⟨S + 1, 0, none⟩ (.slice A t.ns.length c)).setCell ⟨S + 1, 1, none⟩ (.int .i64 t.g)) hS7 (fun _ => ?_)
        try simp only [Act.put, g1, g2, g3, g4, g5, g6]
        refine wpH rfl rfl ?_; try simp only [Act.put, g1, g2, g3, g4, g5, g6]
        refine wpAnyH_one (i := 5) (by kernel_rfl) rfl (fun K hK => ?_)
        simp only [g4, g5, g6]
        go_simp
        refine hK.out _ ((W2.drew.setCell ⟨S + 1, 0, none⟩ (.slice A t.ns.length c)).setCell ⟨S + 1, 1, none⟩ (.int .i64 t.g)) hS7 (fun _ => ?_)
        try simp only [Act.put, g1, g2, g3, g4, g5, g6]
        refine wpAnyH_done (by kernel_rfl) ?_ _
        clear hS1 hS7 d0 d1 hi0 y0 y1 f0 f1
        go_wp2
        have z0 := set_row (i := 0) (l := [_, _]) HR2.out (.slice A t.ns.length c)
        have q0 : (W2.setCell ⟨S + 1, 0, none⟩ (.slice A t.ns.length c)).cell? ⟨S + 1, 0, none⟩ = some (.slice A t.ns.length c) := by simp [World.cell?, z0]
        have q1 := HE.out.1.cell (i := 1) rfl
        refine bodyPost_ret (v := .tuple #[.agg #[.slice A t.ns.length c, .int .i64 t.g], .int .i64 i]) (by simp [results, Tryd.results26, go_sem, q0, q1]) rfl ⟨by rw [hS]; exact below_drew HE.out.2.1, A, c, i, xs, rfl, HE.out.2.2⟩
    · have h2 : 2 ≤ ls.length := by
        have : ls.length ≠ 0 := fun h => h0 (List.length_eq_zero_iff.1 h)
        omega
      obtain ⟨i0, hi, hz0, hz1, hz2⟩ := info_parts infoInt9
      obtain ⟨m, hm⟩ : ∃ m, m = ls.length := ⟨_, rfl⟩
      have hri : RI .i64 ((w.alloc (.cells #[.slice A t.ns.length c, .int .i64 t.g] 34)).alloc (.cells #[.slice none 0 0, .int .i64 0] 34)) w.heap.size Al m ls := by
        rw [← HW.out, hm]
        exact (HLS.out.ri (fun _ h => h)).keep fun p hp => HBW.out.cell (p := p) (by rw [← hS]; exact hp)
      have m1 : ¬ (m : Int) = 1 := by omega
      have m0 : ¬ (m : Int) = 0 := by omega
      have HM := Lib.hid hm
      rw [← hm] at hll ⊢
      clear h0 h1
      clear hm
      go_enter Tryd.func26, Tryd.ntmps26
      go_wp2_with (at_builtin; (refine wpList_append_ri _ rfl _ _ 29 rfl (S + 2) 3 i0 (.int .i64 0) 8 Tryd.underlying29 hi hz0 hz1 hz2 rfl (.slice none 0 0) 0 [] rfl (World.ownsRow_nil _ _ _ _) .i64 w.heap.size Al m cl ls rfl hri (by unfold maxLen; omega) (by omega) (by simp; omega) ?_); intro v4 w4 hown4 hgr4; rw [← HW.out] at hgr4; rw [Nat.zero_add, List.nil_append] at hown4; (obtain ⟨A4, c4, rfl⟩ := row_form hown4); (have hb4 : Below (S + 2) W2 w4 := (Below.refl _ _).grown hgr4 (by rw [HS2.out]; exact Nat.le_refl _) (by intro b hb; cases hb)); (have HT4 := Lib.hid (HT2.out.on hb4 (by omega))); (have HR4 := Lib.hid (HR2.out.on hb4 (by omega))); (have HO4 := Lib.hid hown4); (have HB4 := Lib.hid (HBW.out.trans (hb4.mono (by omega)))); (have p0 := HT4.out.cell (i := 0) rfl); (have p1 := HT4.out.cell (i := 1) rfl); clear hown4 hgr4 hb4)
      have hsz4 : S + 2 ≤ w4.heap.size := by have := HR4.out.lt; have := HS2.out; have := HB4.out.size; rcases Nat.lt_or_ge w4.heap.size (S + 2) with h | h; exact (by have := HO4.out.form (by have := HM.out; omega); obtain ⟨g, cap, hv, hg, hlt⟩ := this; omega); exact h
      have hN4 : NdsP w4 (fun b => X b ∨ (S + 2 ≤ b ∧ b < w4.heap.size)) A t.ns xs := (HN.out.keep (below_cells HB4.out (fun b hb => by rw [← hS]; exact hX b hb))).mono (fun b _ h => .inl h)
      have hK4 : NdP w4 (fun b => X b ∨ (S + 2 ≤ b ∧ b < w4.heap.size)) { nd k with ks := ls } (.slice none 0 0) (.slice none 0 0) (.slice A4 ls.length c4) := nd_kids k (RIp.of_own (by rw [← HM.out]; exact HO4.out) (fun g hg => .inr (HO4.out.lt g (by rw [HM.out]; exact hg)))) (by rw [← HM.out]; unfold maxLen; omega) 0 0 0
      have hlay := lay_any w4 _ A c t xs { nd k with ks := ls } _ _ _ hN4 hK4 (fun b hb => by rcases hb with h | h; exact (by have := hX b h; omega); exact h.2) hl ⟨hg.1, by omega⟩
      unfold ndVal at hlay
      rw [← HM.out] at hlay
      clear hN4 hK4 p0 p1
      refine hlay.mono ?_
      rintro e w5 ⟨hb5, A', c', rfl, hO⟩
      obtain ⟨xs', hxs, hap2⟩ := hO.readsA (Y := fun b => X b ∨ S + 2 ≤ b) (by simp [layT]) (fun b hb => by rcases hb with (h | h) | h; exact .inl h; exact .inr h.1; exact .inr (by omega)) (fun b hb => by rcases hb with h | h; exact (by have := hX b h; omega); exact (by omega))
      have hr5 := HR4.out.on hb5 HR4.out.lt
      have y0 := hr5.cell (i := 0) rfl
      have y1 := hr5.cell (i := 1) rfl
      have f0 := rw_frozen hr5 0
      have f1 := rw_frozen hr5 1
      have hB5 := HB4.out.trans (hb5.mono (by omega))
      have HE := Lib.hid (sev_end (X := X) (v := .slice A' (t.ns.length + 1) c') (u := .int .i64 (layT t { nd k with ks := ls }).g) hr5 hB5 hS hxs hap2 (fun b _ hb => by rcases hb with h | h; exact ⟨by have := hX b h; omega, .inl h⟩; exact ⟨by omega, .inr (by omega)⟩))
      have HSV : Hid (sevT t k ls = layT t { nd k with ks := ls }) := Lib.hid (sevT_more h2)
      clear hlay hb5 hO hxs hap2 hr5 hB5 h2
      go_wp2
      have q0 := HE.out.1.cell (i := 0) rfl
      have q1 := HE.out.1.cell (i := 1) rfl
      refine bodyPost_ret (v := .tuple #[.agg #[.slice A' (t.ns.length + 1) c', .int .i64 (layT t { nd k with ks := ls }).g], .int .i64 t.ns.length]) (by simp [results, Tryd.results26, go_sem, q0, q1]) rfl ⟨by rw [hS]; exact HE.out.2.1, A', c', (t.ns.length : Int), xs', ?_, by rw [HSV.out]; exact HE.out.2.2⟩
      rw [HSV.out]
      simp [layT]
end Go.Proofs.YtcpjcepeiplfgaaDoor.C
