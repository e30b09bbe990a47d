/-
  Words for laws: bytes of layer 2 decoded and encoded again, as slices; what choices choose. Condition, of what decodes: the decoder's two tables stand as they were laid.
-/
import Derived.Test.YtijlecfjgcohhaaDoorCdH
namespace Go.Proofs.YtijlecfjgcohhaaDoor.C
open Go.RowKit


theorem RI.front {ki : IntKind} {w : World} {B n m : Nat} {A : Option Addr} {zs : List Int} (h : RI ki w B A n zs) (hm : m ≤ n) : RI ki w B A m (zs.take m) :=
  ⟨by have := h.1; simp; omega, fun h0 => by
    obtain ⟨ad, e, hb, hc⟩ := h.2 (by omega)
    refine ⟨ad, e, hb, fun j u hu => hc j u ?_⟩
    rw [List.getElem?_take] at hu
    split at hu
    · exact hu
    · cases hu⟩
theorem RI.behind {ki : IntKind} {w : World} {B n : Nat} {A : Option Addr} {zs : List Int} (h : RI ki w B A n zs) {k cap : Nat} (hk : k ≤ n) (hc : n ≤ cap) :
    RI ki w B (if cap = k then A else A.map (·.add k)) (n - k) (zs.drop k) := by
  have := h.cut (k := k) (m := n - k) (cap := cap) (by omega) hc
  rwa [List.take_of_length_le (by rw [List.length_drop, h.len]; exact Nat.le_refl _)] at this
theorem ofL_all (s : ByteArray) : (ofL s).all rightB = true := List.all_eq_true.2 (ofL_right s)
/-- bytes, decoded and encoded -/
theorem there (w : World) (B : Nat) (A : Option Addr) (n c : Nat) (zs : List Int) (hx : RI .u8 w B A n zs) (hB : B ≤ w.heap.size) (hz : Bd zs) (hnc : n ≤ c) (hn : n ≤ 1024) (hc : c ≤ maxLen) (hT : Lib.Utf8Tabs 0 1 w) :
    Calls Tryd.prog 29 #[.slice A n c] w fun e w' => ∃ A' m c', e = .returned (.slice A' m c') ∧ m ≤ n ∧ m ≤ c' ∧ c' ≤ maxLen ∧ RI .i32 w' w'.heap.size A' m (ofL (sb zs)) ∧ Below w.heap.size w w' := by
  refine (decode_any w B A n c zs hx hB hz hnc (by omega) hc hT).mono ?_
  rintro e w' ⟨v, rfl, hown, hb⟩
  obtain ⟨A', c', rfl, h1, h2, hr⟩ := own_slice2 hown
  have := ofL_le (sb zs)
  rw [sb_size, hx.len] at this
  exact ⟨A', _, c', rfl, this, h1, h2, hr, hb⟩
theorem back (w : World) (B : Nat) (A : Option Addr) (n c : Nat) (zs : List Int) (hz : Bd zs) (hx : RI .i32 w B A n (ofL (sb zs))) (hB : B ≤ w.heap.size) (hn : n ≤ 1024) :
    Calls Tryd.prog 30 #[.slice A n c] w fun e w' => ∃ A' c', e = .returned (.tuple #[.slice A' zs.length c', .int .u16 0]) ∧ zs.length ≤ c' ∧ c' ≤ maxLen ∧ RI .u8 w' w'.heap.size A' zs.length zs ∧ Below w.heap.size w w' := by
  refine (encode_yes w B A n c _ hx hB (by omega) (ofL_all _)).mono ?_
  rintro e w' ⟨v, rfl, hown, hb⟩
  rw [enc_of hz] at hown
  obtain ⟨A', c', rfl, h1, h2, hr⟩ := own_slice2 hown
  exact ⟨A', c', rfl, h1, h2, hr, hb⟩
/-- what choices choose, as a slice -/
theorem bytes_row (w w0 : World) (a : Option Addr) (len cap : Nat) (zs : List Int) (h : L.IsRow .u8 w0 a len cap zs) (hb : Below w0.heap.size w0 w) :
    Calls Tryd.prog 24 #[.slice a len cap] w fun e w' => ∃ A n c, e = .returned (.slice A n c) ∧ n ≤ c ∧ c ≤ maxLen ∧ n ≤ 60 ∧ RI .u8 w' w'.heap.size A n (bytesL (zs.take len)) ∧ Below w.heap.size w w' := by
  refine (bytes_any w w0.heap.size a len cap (zs.take len) ((RI.of_row h).below hb) hb.size (Nat.le_trans (row_len h).1 (row_len h).2) (row_u8 h)).mono ?_
  rintro e w' ⟨v, rfl, hown, hb'⟩
  obtain ⟨A', c', rfl, h1, h2, hr⟩ := own_slice2 hown
  exact ⟨A', _, c', rfl, h1, h2, bytesL_len _, hr, hb'⟩
theorem RI.on {ki : IntKind} {w w' : World} {B B' n : Nat} {A : Option Addr} {zs : List Int} (h : RI ki w B A n zs) (hb : Below B' w w') (hB : B ≤ B') : RI ki w' B A n zs := h.keep fun p hp => hb.cell (p := p) (by omega)
/-- bytes, decoded by the document -/
theorem refThere (w : World) (B : Nat) (A : Option Addr) (n c : Nat) (zs : List Int) (hx : RI .u8 w B A n zs) (hn : n ≤ 1024) :
    Calls Tryd.prog 35 #[.slice A n c] w fun e w' => ∃ A' m c', e = .returned (.slice A' m c') ∧ m ≤ n ∧ m ≤ c' ∧ c' ≤ maxLen ∧ RI .i32 w' w'.heap.size A' m (ofL (sb zs)) ∧ Below w.heap.size w w' := by
  refine (refDecode_any w B A n c zs hx (by omega)).mono ?_
  rintro e w' ⟨v, rfl, hown, hb⟩
  obtain ⟨A', c', rfl, h1, h2, hr⟩ := own_slice2 hown
  have := ofL_le (sb zs)
  rw [sb_size, hx.len] at this
  exact ⟨A', _, c', rfl, this, h1, h2, hr, hb⟩
theorem canon_of {zs : List Int} (h : Bd zs) : canonB (ofL (sb zs)) = true := by
  unfold canonB
  rw [ofL_all, enc_of h]
  simp [sameB]
theorem canon_enc {l : List Int} (h : ∀ c ∈ l, rightB c = true ∧ 0 ≤ c) : canonB l = true := by
  unfold canonB
  rw [of_enc h, List.all_eq_true.2 fun c hc => (h c hc).1]
  simp [sameB]
end Go.Proofs.YtijlecfjgcohhaaDoor.C
