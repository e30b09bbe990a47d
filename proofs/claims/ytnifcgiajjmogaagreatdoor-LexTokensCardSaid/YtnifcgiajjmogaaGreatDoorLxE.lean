/-
  Plain facts: the tokens of a printed scalar; the document's own Right. No condition.
-/
import Derived.Test.YtnifcgiajjmogaaGreatDoorLxM
namespace Go.Proofs.YtnifcgiajjmogaaGreatDoor.C
open Go.RowKit

theorem hexN_app : ∀ (a b : List UInt8) (n : Nat), hexN (a ++ b) n = (hexN a n).bind (hexN b)
  | [], b, n => rfl
  | x :: a, b, n => by
    show hexN (x :: (a ++ b)) n = _
    rw [hexN_cons, hexN_cons]
    cases digV x with
    | none => rfl
    | some d => exact hexN_app a b _
theorem digV_upper (d : Nat) (h : d < 16) : digV (Lib.upperB (dig d)) = some d := by
  have : ∀ d : Nat, d < 16 → digV (Lib.upperB (dig d)) = some d := by decide +kernel
  exact this d h
theorem isW_upper (d : Nat) (h : d < 16) : isW (Lib.upperB (dig d)) = true := by
  have : ∀ d : Nat, d < 16 → isW (Lib.upperB (dig d)) = true := by decide +kernel
  exact this d h
theorem hexN_hexL : ∀ (m c n : Nat), c < m → hexN ((hexL c).map Lib.upperB) n = some (n * 16 ^ (hexL c).length + c)
  | 0, c, n, h => by omega
  | m + 1, c, n, h => by
    by_cases h1 : c < 16
    · rw [hexL_small h1]
      show hexN [Lib.upperB (dig c)] n = _
      rw [hexN_cons, digV_upper c h1]
      show some (16 * n + c) = some (n * 16 ^ 1 + c)
      congr 1
      omega
    · rw [hexL_big h1, List.map_append, hexN_app, hexN_hexL m (c / 16) n (by omega)]
      show hexN [Lib.upperB (dig (c % 16))] (n * 16 ^ (hexL (c / 16)).length + c / 16) = _
      rw [hexN_cons, digV_upper _ (Nat.mod_lt _ (by omega))]
      show some (16 * (n * 16 ^ (hexL (c / 16)).length + c / 16) + c % 16) = _
      congr 1
      rw [List.length_append, List.length_cons, List.length_nil, Nat.pow_succ, Nat.mul_add, ← Nat.mul_assoc, ← Nat.mul_assoc, Nat.mul_comm 16 n, Nat.mul_assoc n 16, Nat.mul_comm 16, ← Nat.mul_assoc]
      omega
theorem hexN_zeros : ∀ k, hexN (List.replicate k 48) 0 = some 0
  | 0 => rfl
  | k + 1 => by
    rw [List.replicate_succ, hexN_cons, show digV 48 = some 0 from by decide +kernel]
    exact hexN_zeros k
theorem hexN_great (c : Nat) : hexN (greatL c) 0 = some c := by
  unfold greatL
  rw [hexN_app, hexN_zeros]
  show hexN ((hexL c).map Lib.upperB) 0 = some c
  rw [hexN_hexL (c + 1) c 0 (by omega)]
  simp
theorem hexL_word : ∀ (m c : Nat), c < m → ∀ b ∈ (hexL c).map Lib.upperB, isW b = true
  | 0, c, h => by omega
  | m + 1, c, h => by
    intro b hb
    by_cases h1 : c < 16
    · rw [hexL_small h1] at hb
      simp at hb
      subst hb
      exact isW_upper c h1
    · rw [hexL_big h1, List.map_append, List.mem_append] at hb
      rcases hb with hb | hb
      · exact hexL_word m (c / 16) (by omega) b hb
      · simp at hb
        subst hb
        exact isW_upper _ (Nat.mod_lt _ (by omega))
theorem great_word (c : Nat) : ∀ b ∈ greatL c, isW b = true := by
  intro b hb
  unfold greatL at hb
  rw [List.mem_append] at hb
  rcases hb with hb | hb
  · rw [(List.mem_replicate.1 hb).2]; decide +kernel
  · exact hexL_word (c + 1) c (by omega) b hb
theorem great_len {c : Nat} (h : c < 16777216) : 4 ≤ (greatL c).length ∧ (greatL c).length ≤ 6 := by
  have := hexL_len 5 c (by omega)
  unfold greatL
  simp
  omega
theorem wordL_all {a : List UInt8} (h : ∀ b ∈ a, isW b = true) {c : UInt8} (hc : isW c = false) (r : List UInt8) : wordL (a ++ c :: r) = a := by
  unfold wordL
  rw [List.takeWhile_append_of_pos h, List.takeWhile_cons, if_neg (by rw [hc]; decide), List.append_nil]
/-- the name that begins a text -/
theorem nameL_all {a : List UInt8} (h : ∀ b ∈ a, isW b = true) (r : List UInt8) : nameL (60 :: (a ++ 62 :: r)) = a := by
  have hw : wordL (a ++ 62 :: r) = a := wordL_all h (by decide +kernel) r
  rw [nameL_cons, hw, if_pos ⟨rfl, by rw [List.drop_left]; rfl⟩]
theorem step_tok {l a r : List UInt8} {at_ : Nat} {acc : List Tok} (hl : l = 60 :: (a ++ 62 :: r)) : stepL l at_ acc = match tokL l with
    | some (k, t, n, m) => some (acc ++ [⟨k, t, n, at_⟩], m)
    | none => none := by
  have hb : blankL l = 0 := by rw [hl, blankL_cons, if_neg (by decide), if_neg (by decide)]
  unfold stepL
  rw [hb, if_neg (by simp), if_neg (by rw [hl]; simp)]
  rfl
theorem step_scalar {l a r : List UInt8} {at_ n : Nat} {acc : List Tok} (hl : l = 60 :: (a ++ 62 :: r)) (h : ∀ b ∈ a, isW b = true) (hnum : numL a = some n) :
    stepL l at_ acc = if rightN n then some (acc ++ [⟨3, [], n, at_⟩], 2 + a.length) else none := by
  have hn : nameL l = a := by rw [hl]; exact nameL_all h r
  have hs : signL l = none := by rw [hl, signL_cons, if_neg (by decide), if_neg (by simp)]
  have ht : tokL l = if rightN n then some (3, [], n, 2 + a.length) else none := by
    unfold tokL
    rw [hs, hn]
    simp only [hnum]
  rw [step_tok hl, ht]
  by_cases hr : rightN n = true
  · rw [if_pos hr, if_pos hr]
  · rw [if_neg hr, if_neg hr]
theorem step_named {l a r : List UInt8} {at_ : Nat} {acc : List Tok} (hl : l = 60 :: (a ++ 62 :: r)) (h : ∀ b ∈ a, isW b = true) (hnum : numL a = none) (ha : a ≠ []) :
    stepL l at_ acc = some (acc ++ [⟨5, a, 0, at_⟩], 2 + a.length) := by
  have hn : nameL l = a := by rw [hl]; exact nameL_all h r
  have hs : signL l = none := by rw [hl, signL_cons, if_neg (by decide), if_neg (by simp)]
  have ht : tokL l = some (5, a, 0, 2 + a.length) := by
    unfold tokL
    rw [hs, hn]
    simp only [hnum]
    rw [if_pos ha]
  rw [step_tok hl, ht]
theorem run_blank {r : List UInt8} {at_ : Nat} {acc : List Tok} : runL (32 :: r) at_ acc = runL r (at_ + 1) acc := by
  have h : stepL (32 :: r) at_ acc = some (acc, 1) := by
    unfold stepL
    rw [show blankL (32 :: r) = 1 from by rw [blankL_cons, if_pos (by decide)], if_pos (by decide)]
  rw [runL_some (by simp) h (by omega)]
  rfl
theorem prt_scalar (c : Nat) : prtL [⟨3, [], c, 0⟩] = 60 :: ((85 :: greatL c) ++ 62 :: [32]) := by
  unfold prtL
  simp only [List.flatMap_cons, List.flatMap_nil]
  unfold prt
  simp
theorem lex_scalar (c : Nat) (hc : c < 16777216) : lexL (prtL [⟨3, [], c, 0⟩]) = if rightN c then ([⟨3, [], c, 0⟩, ⟨6, [], 0, 4 + (greatL c).length⟩], 0, 0) else ([], 20, 0) := by
  have hl := great_len hc
  have hw : ∀ b ∈ 85 :: greatL c, isW b = true := by
    intro b hb
    rcases List.mem_cons.1 hb with rfl | hb
    · decide +kernel
    · exact great_word c b hb
  have hn : numL (85 :: greatL c) = some c := by rw [numL_cons, if_pos ⟨rfl, hl.1, hl.2⟩, hexN_great]
  have hst := step_scalar (at_ := 0) (acc := []) (prt_scalar c) hw hn
  have hne : prtL [⟨3, [], c, 0⟩] ≠ [] := by rw [prt_scalar]; simp
  have hlen : (prtL [⟨3, [], c, 0⟩]).length = 4 + (greatL c).length := by rw [prt_scalar]; simp; omega
  unfold lexL
  rw [if_neg (by omega)]
  by_cases hr : rightN c = true
  · rw [if_pos hr] at hst
    have hd : (prtL [⟨3, [], c, 0⟩]).drop (2 + (85 :: greatL c).length) = [32] := by
      rw [prt_scalar]
      have : 2 + (85 :: greatL c).length = (60 :: ((85 :: greatL c) ++ [62])).length := by simp; omega
      rw [this, show (60 :: ((85 :: greatL c) ++ 62 :: [32])) = (60 :: ((85 :: greatL c) ++ [62])) ++ [32] by simp, List.drop_left]
    have hrun : runL (prtL [⟨3, [], c, 0⟩]) 0 [] = .inl [⟨3, [], c, 0⟩, ⟨6, [], 0, 4 + (greatL c).length⟩] := by
      rw [runL_some hne hst (by omega), hd, run_blank, runL_nil]
      rw [show 0 + (2 + (85 :: greatL c).length) + 1 = 4 + (greatL c).length by simp; omega]
      rfl
    rw [hrun, if_pos hr]
    simp
  · rw [if_neg hr] at hst ⊢
    rw [runL_none hne hst]
end Go.Proofs.YtnifcgiajjmogaaGreatDoor.C
