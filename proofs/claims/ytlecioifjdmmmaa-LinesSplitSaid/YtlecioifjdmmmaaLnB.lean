/-
  Contracts of slices.Index at the cell that ends a line, and of lines.first: the line at the beginning, and what is behind it; nothing that was there changes.
-/
import Derived.Test.YtlecioifjdmmmaaLnA
import Derived.Test.YtlecioifjdmmmaaLnW
namespace Go.Proofs.Ytlecioifjdmmmaa.C
open Go.RowKit

theorem below_drew {B : Nat} {a w : World} (h : Below B a w) : Below B a w.drew := ⟨h.os, h.tape, h.output, h.size, h.block⟩
/-- where the first end stands, or -1 -/
def idx10 (zs : List Int) : Int := if at10 zs < zs.length then (at10 zs : Int) else -1

set_option maxHeartbeats 1000000 in
theorem index_any (w : World) (B : Nat) (A : Option Addr) (n c : Nat) (zs : List Int) (hx : RI .i32 w B A n zs) (hn : n ≤ maxLen) :
    Calls Try.prog 24 #[.slice A n c, .int .i32 10] w fun e w' => e = .returned (.int .i64 (idx10 zs)) ∧ w' = w := by
  unfold maxLen at hn
  have HX := Lib.hid hx
  clear hx
  go_enter Try.func24, Try.ntmps24
  go_wp2
  go_loopw [8] (fun i wr => ∃ k : Nat, k ≤ n ∧ i = .int .i64 k ∧ Hid (∀ z ∈ zs.take k, z ≠ 10) ∧ wr = w) (fun i _ => n - (intOf i).toNat)
  case atStart => exact ⟨0, Nat.zero_le _, rfl, by simp [Hid], rfl⟩
  case round =>
    obtain ⟨k, hk, rfl, HP, rfl⟩ := hrel
    by_cases hlt : k < n
    · obtain ⟨ad, u, rfl, _, hu, hcell⟩ := HX.out.at_ hlt
      have k0 : (0 : Int) ≤ (k : Int) := by omega
      have k1 : (k : Int) < (n : Int) := by omega
      have HU := Lib.hid hu
      clear hu
      by_cases h10 : u = 10
      · subst h10
        have he : idx10 zs = (k : Int) := by
          have h1 := at10_eq HP.out HU.out
          unfold idx10
          rw [h1, if_pos (by rw [HX.out.len]; exact hlt)]
        have HE := Lib.hid he
        clear he
        go_wp2
        go_ret
        first | exact ⟨ret_int HE.out.symm, rfl⟩ | exact ⟨ret_int HE.out.symm, trivial⟩
      · have hne : ((10 : Int) == u) = false := by simp; omega
        go_wp2
        go_roundw
        case rel =>
          refine ⟨k + 1, by omega, by go_num, ?_, by first | rfl | trivial⟩
          intro z hz
          rw [take_snoc HU.out] at hz
          rcases List.mem_append.1 hz with h | h
          · exact HP.out z h
          · simp at h; subst h; exact h10
        case measure => simp [intOf]; omega
    · have he : idx10 zs = -1 := by
        have h1 : zs.take k = zs := List.take_of_length_le (by rw [HX.out.len]; omega)
        have h2 := HP.out
        rw [h1] at h2
        unfold idx10
        rw [at10_none h2, if_neg (by omega)]
      have HE := Lib.hid he
      clear he
      go_wp2
      go_ret
      first | exact ⟨ret_int HE.out.symm, rfl⟩ | exact ⟨ret_int HE.out.symm, trivial⟩

/-- the address behind k cells -/
def adrB (A : Option Addr) (c k : Nat) : Option Addr := if c = k then A else A.map (·.add k)
/-- what first tells -/
def FirstTold (A : Option Addr) (n c : Nat) (zs : List Int) (w : World) (e : Ending) (w' : World) : Prop :=
  Below w.heap.size w w' ∧
  ((at10 zs < n ∧ e = .returned (.tuple #[.agg #[.slice A (at10 zs) c, .bool true], .slice (adrB A c (at10 zs + 1)) (n - (at10 zs + 1)) (c - (at10 zs + 1))])) ∨
   (¬ at10 zs < n ∧ e = .returned (.tuple #[.agg #[.slice A n c, .bool false], .slice none 0 0])))

theorem adrB_eq {ad : Addr} {c k : Nat} (h : c = k) : adrB (some ad) c k = some ad := if_pos h
theorem adrB_ne {ad : Addr} {c k : Nat} (h : ¬ c = k) : adrB (some ad) c k = some (ad.add k) := if_neg h
theorem first_yes {A A2 : Option Addr} {n c k p : Nat} {zs : List Int} {w w' : World} (hb : Below w.heap.size w w') (hk : at10 zs = k) (hkn : k < n) (hp : p = k + 1) (h2 : adrB A c p = A2) :
    FirstTold A n c zs w (.returned (.tuple #[.agg #[.slice A k c, .bool true], .slice A2 (n - p) (c - p)])) w' := by
  subst hk hp h2
  exact ⟨hb, .inl ⟨hkn, rfl⟩⟩

set_option maxRecDepth 100000 in
set_option maxHeartbeats 2000000 in
theorem first_any (w : World) (B : Nat) (A : Option Addr) (n c : Nat) (zs : List Int) (hx : RI .i32 w B A n zs) (hB : B ≤ w.heap.size) (h0 : 0 < n) (hnc : n ≤ c) (hc : c ≤ maxLen) :
    Calls Try.prog 23 #[.slice A n c] w (FirstTold A n c zs w) := by
  have hlen := hx.len
  have hxa := fun o => (hx.alloc hB o)
  have HX := Lib.hid hxa
  obtain ⟨ad, _, rfl, _, _, _⟩ := hx.at_ h0
  clear hx hxa
  unfold maxLen at hc
  by_cases hat : at10 zs < n
  · have hi : idx10 zs = (at10 zs : Int) := by unfold idx10; rw [if_pos (by omega)]
    obtain ⟨k, hk⟩ : ∃ k, at10 zs = k := ⟨_, rfl⟩
    rw [hk] at hi hat
    have HK := Lib.hid hk
    clear hk hlen
    obtain ⟨p, hp⟩ : ∃ p : Nat, p = k + 1 := ⟨_, rfl⟩
    have hw : IntKind.i64.wrap ((k : Int) + 1) = (p : Int) := by rw [IntKind.wrap_i64]; omega
    have q0 : (0 : Int) ≤ (k : Int) := by omega
    have q1 : (k : Int) ≤ (c : Int) := by omega
    have q2 : (0 : Int) ≤ (p : Int) := by omega
    have q3 : (p : Int) ≤ (n : Int) := by omega
    have q4 : (n : Int) ≤ (c : Int) := by omega
    have HP := Lib.hid hp
    clear hp
    by_cases hcp : c = p
    · subst hcp
      go_enter Try.func23, Try.ntmps23
      go_wp2_with fail
      with_reducible refine (index_any _ B (some ad) n c zs (HX.out _) (by unfold maxLen; omega)).mono ?_
      rintro e w' ⟨rfl, rfl⟩
      rw [hi]
      go_wp2
      go_region_held3 (fun _ => True) (trivial) (fail)
      go_wp2
      refine bodyPost_ret (v := .tuple #[.agg #[.slice (some ad) k c, .bool true], .slice (some ad) (n - c) 0]) ?_ rfl ?_
      · simp [results, Try.results23, go_sem, *]
      · have := first_yes (below_drew ((Below.refl _ w).alloc (Nat.le_refl _) (.cells #[.slice (some ad) k c, .bool true] 32))) HK.out hat HP.out (adrB_eq (ad := ad) (rfl : c = c))
        rwa [Nat.sub_self] at this
    · go_enter Try.func23, Try.ntmps23
      go_wp2_with fail
      with_reducible refine (index_any _ B (some ad) n c zs (HX.out _) (by unfold maxLen; omega)).mono ?_
      rintro e w' ⟨rfl, rfl⟩
      rw [hi]
      go_wp2
      go_region_held3 (fun _ => True) (trivial) (fail)
      go_wp2
      refine bodyPost_ret (v := .tuple #[.agg #[.slice (some ad) k c, .bool true], .slice (some (ad.add p)) (n - p) (c - p)]) ?_ rfl ?_
      · simp [results, Try.results23, go_sem, *]
      · exact first_yes (below_drew ((Below.refl _ w).alloc (Nat.le_refl _) _)) HK.out hat HP.out (adrB_ne hcp)
  · have hi : idx10 zs = -1 := by unfold idx10; rw [if_neg (by omega)]
    go_enter Try.func23, Try.ntmps23
    go_wp2_with fail
    with_reducible refine (index_any _ B (some ad) n c zs (HX.out _) (by unfold maxLen; omega)).mono ?_
    rintro e w' ⟨rfl, rfl⟩
    rw [hi]
    go_wp2
    refine bodyPost_ret (v := .tuple #[.agg #[.slice (some ad) n c, .bool false], .slice none 0 0]) ?_ rfl ?_
    · simp [results, Try.results23, go_sem, *]
    · exact ⟨(Below.refl _ w).alloc (Nat.le_refl _) _, .inr ⟨hat, rfl⟩⟩
end Go.Proofs.Ytlecioifjdmmmaa.C
