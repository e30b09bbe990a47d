/-
  Words for the laws of layer 4: bytes decoded and encoded again are as they were. Condition, of what decodes: the decoder's two tables stand as they were laid.
-/
import Derived.Test.YtijlecfjgcohhaaDoorCdcJ
import Derived.Deep.RegionHeld3
namespace Go.Proofs.YtijlecfjgcohhaaDoor.C
open Go.RowKit

/-- the worlds that a drawn region is walked in may become fewer on the way -/
theorem wpAnyH_weaken {P : Program} {md : Region.Mode} {ops : Array Oper} {Q : Exit → Act → World → Prop} {S S' : World → Prop} (h : ∀ x, S' x → S x) : ∀ (fuel : Nat) (listed : Array Bool) (a : Act) (w : World), wpAnyH P md ops Q S' fuel listed a w → wpAnyH P md ops Q S fuel listed a w
  | 0, _, _, _, hh => hh
  | fuel + 1, _, _, _, hh => ⟨hh.1, fun i hi => wpOp_mono (fun a w hw => ⟨h w hw.1, wpAnyH_weaken h fuel _ a w hw.2⟩) (hh.2 i hi)⟩
theorem below_undrew {B : Nat} {a w : World} (h : Below B a.drew w) : Below B a w := ⟨h.os, h.tape, h.output, h.size, h.block⟩
theorem right_byte {z : Int} (h : 0 ≤ z ∧ z ≤ 255) : rightB z = true := by
  unfold rightB
  simp
  omega
theorem right_bytes {zs : List Int} (h : Bd zs) : zs.all rightB = true := List.all_eq_true.2 fun z hz => right_byte (h z hz)
theorem low_bytes {zs : List Int} (h : Bd zs) : lowB zs = true := List.all_eq_true.2 fun z hz => by have := h z hz; simp; omega
theorem pre_cons {p0 p1 : Int} {zs : List Int} (h : preB p0 p1 zs = true) : [p0, p1] ++ zs.drop 2 = zs := by
  have := of_decide_eq_true h
  rw [← this, List.take_append_drop]
theorem all_two {zs : List Int} (h : Bd zs) : (cellsD 2 zs).all rightB = true := by
  cases hp : preB 255 254 zs with
  | true => rw [cellsD_le hp]; exact U.dec_all false (bd_drop h 2)
  | false =>
    cases hq : preB 254 255 zs with
    | true => rw [cellsD_be hp hq]; exact U.dec_all true (bd_drop h 2)
    | false => rw [cellsD_no hp hq]; exact U.dec_all true h
theorem back_err {k : Int} (hk : k = 1 ∨ k = 2 ∨ k = 3) {zs : List Int} (h : Bd zs) : errE k (bigB k zs) (bomB k zs) (cellsD k zs) = 0 := by
  rcases hk with rfl | rfl | rfl
  · rw [cellsD_one, bigB_one, bomB_one]
    exact err_ok (.inl rfl) (.inr rfl) (ofL_all _)
  · exact err_ok (.inr rfl) (.inl rfl) (all_two h)
  · rw [cellsD_three, bigB_three, bomB_three]
    exact err_low rfl (right_bytes h) (low_bytes h)
theorem back_bytes {k : Int} (hk : k = 1 ∨ k = 2 ∨ k = 3) {zs : List Int} (h : Bd zs) : bytesE k (bigB k zs) (bomB k zs) (cellsD k zs) = zs := by
  have he := back_err hk h
  rcases hk with rfl | rfl | rfl
  · rw [bytes_one he, cellsD_one, enc_of h]
  · rw [bytes_two he]
    cases hp : preB 255 254 zs with
    | true =>
      rw [cellsD_le hp, bigB_le hp, bomB_le hp, U.enc_dec false (bd_drop h 2)]
      exact pre_cons hp
    | false =>
      cases hq : preB 254 255 zs with
      | true =>
        rw [cellsD_be hp hq, bigB_be hp, bomB_be hp, hq, U.enc_dec true (bd_drop h 2)]
        exact pre_cons hq
      | false =>
        rw [cellsD_no hp hq, bigB_be hp, bomB_be hp, hq, U.enc_dec true h]
        rfl
  · rw [bytes_three he, cellsD_three]
    exact latL_bytes h
/-- a document of bytes, encoded -/
theorem backC (k : Int) (hk : k = 1 ∨ k = 2 ∨ k = 3) (w : World) (B : Nat) (A : Option Addr) (n c : Nat) (zs : List Int) (hz : Bd zs) (hx : RI .i32 w B A n (cellsD k zs)) (hB : B ≤ w.heap.size) (hn : n ≤ 1073741824) :
    Calls Tryd.prog 11 #[.agg #[.int .u8 k, .bool (bigB k zs), .bool (bomB k zs), .slice A n c]] w fun e w' => ∃ A' c', e = .returned (.tuple #[.slice A' zs.length c', .int .u16 0]) ∧ zs.length ≤ c' ∧ c' ≤ maxLen ∧ RI .u8 w' w'.heap.size A' zs.length zs ∧ Below w.heap.size w w' := by
  refine (encodeC_any w k B A n c _ _ _ hx hB hn).mono ?_
  rintro e w' ⟨A', m, c', rfl, h1, h2, h3, hb⟩
  rw [back_bytes hk hz] at h3
  obtain rfl : m = zs.length := h3.len.symm
  exact ⟨A', c', by rw [back_err hk hz], h1, h2, h3, hb⟩
/-- bytes that came in, in a world that keeps them -/
theorem row_on {w w0 : World} {a : Option Addr} {len cap : Nat} {zs : List Int} (h : L.IsRow .u8 w0 a len cap zs) (hb : Below w0.heap.size w0 w) : RI .u8 w w0.heap.size a len (zs.take len) := (RI.of_row h).below hb
theorem mix_row (w w0 : World) (a : Option Addr) (len cap : Nat) (k : Int) (zs : List Int) (h : L.IsRow .u8 w0 a len cap zs) (hb : Below w0.heap.size w0 w) (k0 : 0 ≤ k) (k1 : k ≤ 255) :
    Calls Tryd.prog 15 #[.slice a len cap, .int .u8 k] w (MixTold k (zs.take len) w) :=
  mix_any w w0.heap.size a len cap k (zs.take len) (row_on h hb) hb.size (Nat.le_trans (row_len h).1 (by have := (row_len h).2; unfold maxLen at this; exact this)) (row_u8 h) k0 k1
end Go.Proofs.YtijlecfjgcohhaaDoor.C
