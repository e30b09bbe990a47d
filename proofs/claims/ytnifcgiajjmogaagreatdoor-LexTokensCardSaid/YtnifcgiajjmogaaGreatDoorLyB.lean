/-
  The bytes that LexBlank puts together, step by step. No condition.
-/
import Derived.Test.YtnifcgiajjmogaaGreatDoorLyP
namespace Go.Proofs.YtnifcgiajjmogaaGreatDoor.C
open Go.RowKit

theorem ins_len : ∀ (l : List UInt8) (p : Bool), (ins l p).length ≤ 8 * l.length
  | [], _ => by simp [ins]
  | c :: r, p => by
    have h := ins_len r (decide (c = 32))
    have e : ins (c :: r) p = (if c = 10 ∧ p = true then remL else []) ++ c :: ins r (decide (c = 32)) := rfl
    rw [e, List.length_append, List.length_cons, List.length_cons]
    split
    · rw [show remL.length = 7 from rfl]
      omega
    · rw [List.length_nil]
      omega
theorem take_ba {S : ByteArray} {i : Nat} (h : i < S.size) : S.data.toList.take (i + 1) = S.data.toList.take i ++ [S[i]'h] := by
  have hb : S.data.toList[i]? = some (S[i]'h) := by
    rw [Array.getElem?_toList]
    exact Array.getElem?_eq_getElem h
  exact take_snoc hb
theorem extract_one {S : ByteArray} {i : Nat} (h : i < S.size) : S.extract i (i + 1) = str [S[i]'h] := by
  have hl : (S.data.toList.take i).length = i := by rw [List.length_take, size_list]; omega
  rw [extract_str, take_ba h, List.drop_append_of_le_length (by omega), List.drop_eq_nil_of_le (by omega)]
  rfl
theorem ins_miss {S S' : ByteArray} {i : Nat} (hi : i < S.size) (h : S' = str (ins (S.data.toList.take i) true)) (hb : ¬ ((S[i]'hi) = 10 ∧ lastP (S.data.toList.take i) true = true)) :
    S' ++ S.extract i (i + 1) = str (ins (S.data.toList.take (i + 1)) true) := by
  rw [take_ba hi, ins_snoc, if_neg hb, List.nil_append, extract_one hi, h, str_append]
theorem ins_hit {S S' : ByteArray} {i : Nat} (hi : i < S.size) (h : S' = str (ins (S.data.toList.take i) true)) (hb : (S[i]'hi) = 10 ∧ lastP (S.data.toList.take i) true = true) :
    S' ++ ⟨#[32, 9, 37, 32, 34, 60, 33]⟩ ++ S.extract i (i + 1) = str (ins (S.data.toList.take (i + 1)) true) := by
  rw [take_ba hi, ins_snoc, if_pos hb, extract_one hi, h]
  show str _ ++ str remL ++ str _ = _
  rw [str_append, str_append, List.append_assoc]
theorem last_zero (l : List UInt8) : lastP (l.take 0) true = true := rfl
theorem last_one {S : ByteArray} {j : Nat} (hj : j < S.size) : lastP (S.data.toList.take (j + 1)) true = decide ((S[j]'hj) = 32) := by rw [take_ba hj, lastP_snoc]
theorem ba_eq {b : UInt8} {n : Nat} (h : b.toNat = n) : b = UInt8.ofNat n := by
  rw [← h]
  simp
theorem slice_ij (S : ByteArray) (i j : Int) (h0 : 0 ≤ i) (h1 : i ≤ j) (h2 : j ≤ S.size) (a b : Nat) (ha : i.toNat = a) (hb : j.toNat = b) (W : World) :
    (Instr.slice 9 (.string S) (some (.int .i64 i)) (some (.int .i64 j)) none).run Tryz.prog W = .ok (.string (S.extract a b)) W := by
  rw [← ha, ← hb]
  exact run_slice_string W 9 S .i64 .i64 i j (by kernel_rfl) h0 h1 h2
end Go.Proofs.YtnifcgiajjmogaaGreatDoor.C
