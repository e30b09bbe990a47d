/-
  Contracts of the document's own Same and Exact over tokens, where they are alike. No condition.
-/
import Derived.Test.YtnifcgiajjmogaaGreatDoorLxF
namespace Go.Proofs.YtnifcgiajjmogaaGreatDoor.C
open Go.RowKit

/-- alike, but for where they are -/
def Alike (ts us : List Tok) : Prop := ts.map (fun x => (x.k, x.t, x.n)) = us.map (fun x => (x.k, x.t, x.n))
theorem Alike.refl (ts : List Tok) : Alike ts ts := rfl
theorem Alike.len {ts us : List Tok} (h : Alike ts us) : ts.length = us.length := by
  have := congrArg List.length h
  simpa using this
theorem Alike.at_ {ts us : List Tok} (h : Alike ts us) {j : Nat} {x y : Tok} (hx : ts[j]? = some x) (hy : us[j]? = some y) : y.k = x.k ∧ y.t = x.t ∧ y.n = x.n := by
  have h1 := congrArg (·[j]?) h
  simp only [List.getElem?_map, hx, hy, Option.map_some, Option.some.injEq, Prod.mk.injEq] at h1
  exact ⟨h1.1.symm, h1.2.1.symm, h1.2.2.symm⟩

set_option maxRecDepth 100000 in
set_option maxHeartbeats 4000000 in
theorem sameT_yes (w : World) (B1 B2 : Nat) (A1 A2 : Option Addr) (n c1 c2 : Nat) (ts us : List Tok) (h1 : TI w B1 A1 n ts) (h2 : TI w B2 A2 n us) (ha : Alike ts us) (hn : n ≤ 5000) :
    Calls Tryz.prog 9 #[.slice A1 n c1, .slice A2 n c2] w fun e w' => e = .returned (.bool true) ∧ ∃ q, w' = w.drewN q := by
  have H1 := Lib.hid h1
  have H2 := Lib.hid h2
  have HA := Lib.hid ha
  clear h1 h2 ha
  go_enter Tryz.func9, Tryz.ntmps9
  go_wp2
  go_loopw [5] (fun iv wr => ∃ i q : Nat, i ≤ n ∧ iv = .int .i64 i ∧ wr = w.drewN q) (fun iv _ => n - (intOf iv).toNat)
  case atStart => exact ⟨0, 0, Nat.zero_le _, rfl, rfl⟩
  case round =>
    obtain ⟨i, q, hi, rfl, rfl⟩ := hrel
    by_cases hlt : i < n
    · obtain ⟨ad, x, hA1, _, hx, q0, q1, q2, q3⟩ := H1.out.at4 hlt
      obtain ⟨bd, y, hA2, _, hy, p0, p1, p2, p3⟩ := H2.out.at4 hlt
      subst hA1
      subst hA2
      obtain ⟨e1, e2, e3⟩ := HA.out.at_ hx hy
      rw [e1] at p0
      rw [e2] at p1
      rw [e3] at p2
      have i0 : (0 : Int) ≤ (i : Int) := by omega
      have i1 : (i : Int) < (n : Int) := by omega
      clear hx hy e1 e2 e3 q3 p3
      go_wp2
      go_quiet (fail)
      go_wp2
      go_roundw
      case rel => exact ⟨i + 1, _, by omega, by go_num, rfl⟩
      case measure => simp [intOf]; omega
    · obtain rfl : i = n := by omega
      go_wp2
      go_ret
      exact ⟨rfl, _, rfl⟩

set_option maxRecDepth 100000 in
set_option maxHeartbeats 4000000 in
theorem exact_yes (w : World) (B1 B2 : Nat) (A1 A2 : Option Addr) (n c1 c2 : Nat) (ts : List Tok) (h1 : TI w B1 A1 n ts) (h2 : TI w B2 A2 n ts) (hn : n ≤ 5000) :
    Calls Tryz.prog 12 #[.slice A1 n c1, .slice A2 n c2] w fun e w' => e = .returned (.bool true) ∧ ∃ q, w' = w.drewN q := by
  have hs := fun q => sameT_yes (w.drewN q) B1 B2 A1 A2 n c1 c2 ts ts (h1.drewN q) (h2.drewN q) (Alike.refl ts) hn
  have H1 := Lib.hid h1
  have H2 := Lib.hid h2
  clear h1 h2
  go_enter Tryz.func12, Tryz.ntmps12
  go_wp2
  go_loopw [5] (fun iv wr => ∃ i q : Nat, i ≤ n ∧ iv = .int .i64 i ∧ wr = w.drewN q) (fun iv _ => n - (intOf iv).toNat)
  case atStart => exact ⟨0, 0, Nat.zero_le _, rfl, rfl⟩
  case round =>
    obtain ⟨i, q, hi, rfl, rfl⟩ := hrel
    by_cases hlt : i < n
    · obtain ⟨ad, x, hA1, _, hx, _, _, _, q3⟩ := H1.out.at4 hlt
      obtain ⟨bd, y, hA2, _, hy, _, _, _, p3⟩ := H2.out.at4 hlt
      subst hA1
      subst hA2
      obtain rfl : y = x := by rw [hx] at hy; injection hy with hy; exact hy.symm
      have i0 : (0 : Int) ≤ (i : Int) := by omega
      have i1 : (i : Int) < (n : Int) := by omega
      clear hx hy
      go_wp2
      go_quiet (fail)
      go_wp2
      go_roundw
      case rel => exact ⟨i + 1, _, by omega, by go_num, rfl⟩
      case measure => simp [intOf]; omega
    · obtain rfl : i = n := by omega
      go_wp2_with (go_at_call 9; refine (hs _).mono ?_; rintro e w2 ⟨rfl, q2, rfl⟩)
      go_ret
      exact ⟨rfl, _, rfl⟩
end Go.Proofs.YtnifcgiajjmogaaGreatDoor.C
