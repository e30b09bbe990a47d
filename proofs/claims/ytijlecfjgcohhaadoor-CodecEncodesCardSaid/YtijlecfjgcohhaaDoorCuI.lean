/-
  Words for laws: bytes of layer 3 decoded and encoded again, as slices; what choices choose. No condition.
-/
import Derived.Test.YtijlecfjgcohhaaDoorCuH
namespace Go.Proofs.YtijlecfjgcohhaaDoor.C.U
open Go.RowKit


/-- bytes, decoded and encoded -/
theorem there (g : Bool) (w : World) (B : Nat) (A : Option Addr) (n c : Nat) (zs : List Int) (hx : RI .u8 w B A n zs) (hB : B ≤ w.heap.size) (hz : Bd zs) (hnc : n ≤ c) (hn : n ≤ 1024) (hc : c ≤ maxLen) :
    Calls Tryd.prog 48 #[.slice A n c, .bool g] w fun e w' => ∃ A' m c', e = .returned (.slice A' m c') ∧ m ≤ n ∧ m ≤ c' ∧ c' ≤ maxLen ∧ RI .i32 w' w'.heap.size A' m (dec g zs) ∧ Below w.heap.size w w' := by
  refine (decode_any g w B A n c zs hx hB hz hnc (by omega) hc).mono ?_
  rintro e w' ⟨v, rfl, hown, hb⟩
  obtain ⟨A', c', rfl, h1, h2, hr⟩ := own_slice2 hown
  have := dec_len g zs
  rw [hx.len] at this
  exact ⟨A', _, c', rfl, this, h1, h2, hr, hb⟩
theorem back (g : Bool) (w : World) (B : Nat) (A : Option Addr) (n c : Nat) (zs : List Int) (hz : Bd zs) (hx : RI .i32 w B A n (dec g zs)) (hB : B ≤ w.heap.size) (hn : n ≤ 1024) :
    Calls Tryd.prog 49 #[.slice A n c, .bool g] w fun e w' => ∃ A' c', e = .returned (.tuple #[.slice A' zs.length c', .int .u16 0]) ∧ zs.length ≤ c' ∧ c' ≤ maxLen ∧ RI .u8 w' w'.heap.size A' zs.length zs ∧ Below w.heap.size w w' := by
  refine (encode_yes g w B A n c _ hx hB (by omega) (dec_all g hz)).mono ?_
  rintro e w' ⟨v, rfl, hown, hb⟩
  rw [enc_dec g hz] at hown
  obtain ⟨A', c', rfl, h1, h2, hr⟩ := own_slice2 hown
  exact ⟨A', c', rfl, h1, h2, hr, hb⟩
/-- what choices choose, as a slice -/
theorem bytes_row (w w0 : World) (a : Option Addr) (len cap : Nat) (zs : List Int) (h : L.IsRow .u8 w0 a len cap zs) (hb : Below w0.heap.size w0 w) :
    Calls Tryd.prog 25 #[.slice a len cap] w fun e w' => ∃ A n c, e = .returned (.slice A n c) ∧ n ≤ c ∧ c ≤ maxLen ∧ n ≤ 60 ∧ RI .u8 w' w'.heap.size A n (bytesL (zs.take len)) ∧ Below w.heap.size w w' := by
  refine (bytes_any w w0.heap.size a len cap (zs.take len) ((RI.of_row h).below hb) hb.size (Nat.le_trans (row_len h).1 (row_len h).2) (row_u8 h)).mono ?_
  rintro e w' ⟨v, rfl, hown, hb'⟩
  obtain ⟨A', c', rfl, h1, h2, hr⟩ := own_slice2 hown
  exact ⟨A', _, c', rfl, h1, h2, bytesL_len _, hr, hb'⟩
/-- bytes, decoded by the document -/
theorem refThere (g : Bool) (w : World) (B : Nat) (A : Option Addr) (n c : Nat) (zs : List Int) (hx : RI .u8 w B A n zs) (hB : B ≤ w.heap.size) (hz : Bd zs) (hn : n ≤ 1024) :
    Calls Tryd.prog 36 #[.slice A n c, .bool g] w fun e w' => ∃ A' m c', e = .returned (.slice A' m c') ∧ m ≤ n ∧ m ≤ c' ∧ c' ≤ maxLen ∧ RI .i32 w' w'.heap.size A' m (dec g zs) ∧ Below w.heap.size w w' := by
  refine (refDecode_any g w B A n c zs hx hB hz (by omega)).mono ?_
  rintro e w' ⟨v, rfl, hown, hb⟩
  obtain ⟨A', c', rfl, h1, h2, hr⟩ := own_slice2 hown
  have := dec_len g zs
  rw [hx.len] at this
  exact ⟨A', _, c', rfl, this, h1, h2, hr, hb⟩
end Go.Proofs.YtijlecfjgcohhaaDoor.C.U
