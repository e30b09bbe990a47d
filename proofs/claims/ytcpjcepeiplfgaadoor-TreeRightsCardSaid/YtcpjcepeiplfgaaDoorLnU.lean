/-
  Slices that read as lists of integers, and the document's own Compare and Same over them: what the plain order of lists says; no cell changes.
-/
import Derived.Test.YtcpjcepeiplfgaaDoorChecked
import Derived.Test.YtcpjcepeiplfgaaDoorCellP
import Derived.WalkKit
import Derived.ProofKit
import Derived.Lib.Hide
import Derived.Deep.QuietTactic
import Derived.BigQuiet
import Derived.RegionTactic
import Derived.Below
import Derived.Laws.OwnMore
import Derived.Deep.AppendLies
import Derived.Deep.Draws
import Derived.Deep.LoopGhost
import Derived.Maps.AppendAt
import Derived.WalkSmall
import Derived.WalkSpells
import Derived.Lib.Walk
import Derived.Lib.OthersKept
namespace Go.Proofs.YtcpjcepeiplfgaaDoor.C
open Go.RowKit



theorem block_of_add (a : Addr) (n : Nat) : (a.add n).block = a.block := by unfold Addr.add; split <;> rfl
theorem add_of_add (a : Addr) (i j : Nat) : (a.add i).add j = a.add (i + j) := by
  unfold Addr.add
  by_cases hi : i = 0 <;> by_cases hj : j = 0 <;> simp [hi, hj, Nat.add_assoc]

/-- a slice's value (its address A, its length n) reads as the numbers zs of a kind, below block B; nil let in -/
def RI (ki : IntKind) (w : World) (B : Nat) (A : Option Addr) (n : Nat) (zs : List Int) : Prop :=
  zs.length = n ∧ (0 < n → ∃ ad, A = some ad ∧ ad.block < B ∧ ∀ j u, zs[j]? = some u → w.cell? (ad.add j) = some (.int ki u))

section
variable {ki : IntKind} {w w' : World} {B B' n : Nat} {A : Option Addr} {zs : List Int}
theorem RI.none_ : RI ki w B A 0 [] := ⟨by simp, fun h => absurd h (by omega)⟩
theorem RI.at_ {k : Nat} (h : RI ki w B A n zs) (hk : k < n) : ∃ ad u, A = some ad ∧ ad.block < B ∧ zs[k]? = some u ∧ w.cell? (ad.add k) = some (.int ki u) := by
  obtain ⟨ad, e, hb, hc⟩ := h.2 (by omega)
  have hl : k < zs.length := by have := h.1; omega
  exact ⟨ad, zs[k], e, hb, List.getElem?_eq_getElem hl, hc k _ (List.getElem?_eq_getElem hl)⟩
theorem RI.keep (h : RI ki w B A n zs) (hk : ∀ p : Addr, p.block < B → w'.cell? p = w.cell? p) : RI ki w' B A n zs :=
  ⟨h.1, fun hn => by
    obtain ⟨ad, e, hb, hc⟩ := h.2 hn
    exact ⟨ad, e, hb, fun j u hu => (hk _ (by rw [block_of_add]; exact hb)).trans (hc j u hu)⟩⟩
theorem RI.more (h : RI ki w B A n zs) (hB : B ≤ B') : RI ki w B' A n zs :=
  ⟨h.1, fun hn => by
    obtain ⟨ad, e, hb, hc⟩ := h.2 hn
    exact ⟨ad, e, by omega, hc⟩⟩
theorem RI.below (h : RI ki w B A n zs) (hb : Below B w w') : RI ki w' B A n zs := h.keep fun _ hp => hb.cell hp
theorem RI.drew (h : RI ki w B A n zs) : RI ki w.drew B A n zs := h
theorem RI.drewN (h : RI ki w B A n zs) (k : Nat) : RI ki (w.drewN k) B A n zs := h
theorem RI.alloc (h : RI ki w B A n zs) (hB : B ≤ w.heap.size) (o : Obj) : RI ki (w.alloc o) B A n zs := h.keep fun p hp => World.cell?_alloc_lt w o p (by omega)
theorem RI.setCell (h : RI ki w B A n zs) {p : Addr} (hB : B ≤ p.block) (u : Value) : RI ki (w.setCell p u) B A n zs :=
  h.keep fun q hq => World.cell?_setCell_other w p q u (fun e => by subst e; omega)
theorem RI.grown (h : RI ki w B A n zs) {row : Option Nat} (hg : w.grownBy w' row) (hB : B ≤ w.heap.size) (hr : ∀ g, row = some g → B ≤ g) : RI ki w' B A n zs :=
  h.keep fun p hp => World.cell?_of_block (hg.block p.block (by omega) (fun e => by have := hr _ e.symm; omega))
theorem RI.len (h : RI ki w B A n zs) : zs.length = n := h.1
end
theorem ret_int {k : IntKind} {a b : Int} (h : a = b) : Ending.returned (.int k a) = .returned (.int k b) := by rw [h]

theorem drew3 (w : World) (a b c : Nat) : ∃ q, ((w.drewN a).drewN b).drewN c = w.drewN q := ⟨_, by rw [World.drewN_drewN, World.drewN_drewN]⟩
theorem drewN_zero (w : World) : w = w.drewN 0 := rfl

set_option maxHeartbeats 1000000 in
theorem refCompare_any (w : World) (Bx By : Nat) (Ax Ay : Option Addr) (n cx m cy : Nat) (xs ys : List Int) (hx : RI .i32 w Bx Ax n xs) (hy : RI .i32 w By Ay m ys) (hn : n ≤ maxLen) (_hm : m ≤ maxLen) :
    Calls Tryd.prog 67 #[.slice Ax n cx, .slice Ay m cy] w fun e w' => e = .returned (.int .i64 (cmpL xs ys)) ∧ ∃ q, w' = w.drewN q := by
  unfold maxLen at hn
  have HX := Lib.hid hx
  have HY := Lib.hid hy
  clear hx hy
  go_enter Tryd.func67, Tryd.ntmps67
  go_wp2
  go_loopw [5] (fun i wr => ∃ k q : Nat, k ≤ n ∧ k ≤ m ∧ i = .int .i64 k ∧ CmpSt xs ys k ∧ wr = w.drewN q) (fun i _ => n - (intOf i).toNat)
  case atStart => exact ⟨0, 0, Nat.zero_le _, Nat.zero_le _, rfl, cmpSt_zero _ _, drewN_zero w⟩
  case round =>
    obtain ⟨k, q, hk, hkm, rfl, hst, rfl⟩ := hrel
    have HS := Lib.hid hst
    clear hst
    by_cases hlt : k < n
    · obtain ⟨ad, a, rfl, _, ha, hca⟩ := HX.out.at_ hlt
      have HA := Lib.hid ha
      clear ha
      by_cases hlm : k < m
      · obtain ⟨ad2, b, rfl, _, hb, hcb⟩ := HY.out.at_ hlm
        have HB := Lib.hid hb
        clear hb
        have k0 : (0 : Int) ≤ (k : Int) := by omega
        have k1 : (k : Int) < (n : Int) := by omega
        have k2 : (k : Int) < (m : Int) := by omega
        by_cases h1 : a < b
        · go_wp2
          go_quiet (fail)
          go_wp2
          go_ret
          exact ⟨ret_int (cmpSt_less HS.out HA.out HB.out h1).symm, _, World.drewN_drewN _ _ _⟩
        · by_cases h2 : b < a
          · have h1' : decide (a < b) = false := by simpa using h1
            go_wp2
            go_quiet (fail)
            go_wp2
            go_quiet (fail)
            go_wp2
            go_ret
            exact ⟨ret_int (cmpSt_more HS.out HA.out HB.out h2).symm, drew3 _ _ _ _⟩
          · have h1' : decide (a < b) = false := by simpa using h1
            have h2' : decide (b < a) = false := by simpa using h2
            go_wp2
            go_quiet (fail)
            go_wp2
            go_quiet (fail)
            go_wp2
            go_roundw
            case rel => exact ⟨k + 1, _, by omega, by omega, by go_num, cmpSt_step HS.out HA.out HB.out (by omega) (by omega), rfl⟩
            case measure => simp [intOf]; omega
      · go_wp2
        go_ret
        exact ⟨ret_int (cmpSt_long HS.out (by rw [HX.out.len]; omega) (by rw [HY.out.len]; omega)).symm, _, rfl⟩
    · by_cases hlm : k < m
      · go_wp2
        go_ret
        exact ⟨ret_int (cmpSt_short HS.out (by rw [HX.out.len]; omega) (by rw [HY.out.len]; omega)).symm, _, rfl⟩
      · go_wp2
        go_ret
        exact ⟨ret_int (cmpSt_alike HS.out (by rw [HX.out.len]; omega) (by rw [HY.out.len]; omega)).symm, _, rfl⟩

def sameL (xs ys : List Int) : Bool := cmpL xs ys == 0
set_option maxHeartbeats 400000 in
theorem same_any (w : World) (Bx By : Nat) (Ax Ay : Option Addr) (n cx m cy : Nat) (xs ys : List Int) (hx : RI .i32 w Bx Ax n xs) (hy : RI .i32 w By Ay m ys) (hn : n ≤ maxLen) (hm : m ≤ maxLen) :
    Calls Tryd.prog 50 #[.slice Ax n cx, .slice Ay m cy] w fun e w' => e = .returned (.bool (sameL xs ys)) ∧ ∃ q, w' = w.drewN q := by
  have HX := Lib.hid hx
  have HY := Lib.hid hy
  clear hx hy
  go_enter Tryd.func50, Tryd.ntmps50
  go_wp2_with fail
  refine (refCompare_any w Bx By Ax Ay n cx m cy xs ys HX.out HY.out hn hm).mono ?_
  rintro e w' ⟨rfl, q, rfl⟩
  go_wp2
  go_ret
  exact ⟨rfl, q, rfl⟩

theorem info33 : (Tryd.prog.info? 22).map (fun i => (i.zero, i.size, i.bytes)) = some (some (.int .i32 0), 1, 4) := by kernel_rfl
theorem size33 : (Tryd.prog.info? 22).map (·.size) = some 1 := by kernel_rfl

theorem RI.cut {ki : IntKind} {w : World} {B n : Nat} {A : Option Addr} {zs : List Int} (h : RI ki w B A n zs) {k m cap : Nat} (hk : k + m ≤ n) (hc : n ≤ cap) :
    RI ki w B (if cap = k then A else A.map (·.add k)) m ((zs.drop k).take m) := by
  refine ⟨by have := h.1; simp; omega, fun hn => ?_⟩
  obtain ⟨ad, rfl, hb, hcell⟩ := h.2 (by omega)
  rw [if_neg (by omega)]
  refine ⟨ad.add k, rfl, by rw [block_of_add]; exact hb, fun j u hu => ?_⟩
  rw [add_of_add]
  refine hcell _ u ?_
  rw [List.getElem?_take] at hu
  split at hu
  · rw [← hu, List.getElem?_drop]
  · cases hu

theorem sameL_true {xs ys : List Int} (h : xs = ys) : sameL xs ys = true := by simp [sameL, (cmpL_eq xs ys).2 h]
theorem sameL_false {xs ys : List Int} (h : xs ≠ ys) : sameL xs ys = false := by
  have : cmpL xs ys ≠ 0 := fun e => h ((cmpL_eq xs ys).1 e)
  simp [sameL, this]

theorem same_yes (w : World) (Bx By : Nat) (Ax Ay : Option Addr) (n cx m cy : Nat) (xs ys : List Int) (h : xs = ys) (hx : RI .i32 w Bx Ax n xs) (hy : RI .i32 w By Ay m ys) (hn : n ≤ maxLen) (hm : m ≤ maxLen) :
    Calls Tryd.prog 50 #[.slice Ax n cx, .slice Ay m cy] w fun e w' => e = .returned (.bool true) ∧ ∃ q, w' = w.drewN q := by
  have := same_any w Bx By Ax Ay n cx m cy xs ys hx hy hn hm
  rw [sameL_true h] at this
  exact this
theorem same_no (w : World) (Bx By : Nat) (Ax Ay : Option Addr) (n cx m cy : Nat) (xs ys : List Int) (h : xs ≠ ys) (hx : RI .i32 w Bx Ax n xs) (hy : RI .i32 w By Ay m ys) (hn : n ≤ maxLen) (hm : m ≤ maxLen) :
    Calls Tryd.prog 50 #[.slice Ax n cx, .slice Ay m cy] w fun e w' => e = .returned (.bool false) ∧ ∃ q, w' = w.drewN q := by
  have := same_any w Bx By Ax Ay n cx m cy xs ys hx hy hn hm
  rw [sameL_false h] at this
  exact this


theorem RI.of_own {w : World} {base : Nat} {e : TypeId} {ki : IntKind} {A : Option Addr} {n c : Nat} {zs : List Int} (h : w.ownsRow base e 1 (.slice A n c) n (zs.map (Value.int ki))) : RI ki w w.heap.size A n zs := by
  refine ⟨by have := h.1; simpa using this, fun hn => ?_⟩
  obtain ⟨g, cap, hv, _, hlt⟩ := h.form hn
  have hA : A = some ⟨g, 0, none⟩ := by injection hv
  subst hA
  refine ⟨_, rfl, hlt, fun j u hu => h.cells (g := g) rfl j _ ?_⟩
  simp [hu]
theorem own_cap {w : World} {base : Nat} {e : TypeId} {g n m c : Nat} {xs : List Value} (h : w.ownsRow base e 1 (.slice (some ⟨g, 0, none⟩) n c) m xs) : m ≤ c ∧ c ≤ maxLen := by
  rcases h.2 with ⟨h1, _⟩ | ⟨g', cap, cur, h1, _, _, h4, h5, _⟩
  · cases h1
  · injection h1 with _ _ h7
    subst h7
    exact ⟨h4, h5⟩

theorem own_keep {w w' : World} {base : Nat} {e : TypeId} {size : Nat} {v : Value} {n : Nat} {xs : List Value} (h : w.ownsRow base e size v n xs) (hb : Below w.heap.size w w') : w'.ownsRow base e size v n xs := by
  refine ⟨h.1, ?_⟩
  rcases h.2 with h1 | ⟨g, cap, cur, h1, h2, h3, h4⟩
  · exact .inl h1
  · exact .inr ⟨g, cap, cur, h1, h2, (hb.block g (Array.getElem?_eq_some_iff.1 h3).1).trans h3, h4⟩

/-- a text out of bytes -/
def str (l : List UInt8) : ByteArray := ⟨l.toArray⟩

theorem take_snoc {α : Type} {l : List α} {k : Nat} {a : α} (h : l[k]? = some a) : l.take (k + 1) = l.take k ++ [a] := by
  rw [List.take_add_one, h]; rfl
end Go.Proofs.YtcpjcepeiplfgaaDoor.C
