/-
  Contracts of slices.Equal at cells, utf16.comesBack and utf16.Canonical: what the plain functions say; nothing that was there changes. With them words on slices and texts.
-/
import Derived.Test.YtbocibecjndooaaUcsD
import Derived.Shelf.Bytes.SlSmallAll
namespace Go.Proofs.Ytbocibecjndooaa.C
open Go.RowKit

theorem conv_ri {w : World} {B n : Nat} {A : Option Addr} {zs : List Int} (h : RI .u8 w B A n zs) (c : Nat) : (convert 22 9 (.slice A n c)).run Try.prog w = .ok (.string (sb zs)) w := by
  rcases Nat.eq_zero_or_pos n with h0 | h0
  · subst h0
    obtain rfl : zs = [] := List.eq_nil_of_length_eq_zero h.1
    exact run_convert_bytes_zero w 22 5 Try.underlying22 Try.underlying5 A c 9 Try.underlying9
  · obtain ⟨b, off, rfl, _, hc⟩ := h.flat h0
    refine run_convert_bytes_arg w 22 5 Try.underlying22 Try.underlying5 b off n c zs h.1 (fun i hi => ?_) 9 Try.underlying9
    have hi' : i < zs.length := by rw [h.1]; exact hi
    rw [hc i zs[i] (List.getElem?_eq_getElem hi')]
    simp [List.getD_eq_getElem?_getD, List.getElem?_eq_getElem hi']
theorem own_slice2 {w : World} {base : Nat} {e : TypeId} {ki : IntKind} {v : Value} {n : Nat} {zs : List Int} (h : w.ownsRow base e 1 v n (zs.map (Value.int ki))) : ∃ A c, v = .slice A n c ∧ n ≤ c ∧ c ≤ maxLen ∧ RI ki w w.heap.size A n zs := by
  rcases h.2 with ⟨rfl, rfl⟩ | ⟨g, c, cur, rfl, _, _, hc, hm, _⟩
  · have hz : zs = [] := List.eq_nil_of_length_eq_zero (by have := h.1; simpa using this)
    subst hz
    exact ⟨none, 0, rfl, Nat.le_refl _, Nat.zero_le _, RI.none_⟩
  · exact ⟨_, c, rfl, hc, hm, RI.of_own h⟩
theorem RI.new (w : World) (ki : IntKind) (zs : List Int) (t : TypeId) : RI ki (w.alloc (.cells (zs.map (Value.int ki)).toArray t)) (w.heap.size + 1) (some ⟨w.heap.size, 0, none⟩) zs.length zs :=
  ⟨rfl, fun _ => ⟨_, rfl, Nat.lt_succ_self _, fun j u hu => by
    rw [add_plain, Nat.zero_add, World.cell?_alloc_new]
    simp [hu]⟩⟩

theorem own_less {w : World} {base base' : Nat} {e : TypeId} {size : Nat} {v : Value} {n : Nat} {xs : List Value} (h : w.ownsRow base e size v n xs) (hb : base' ≤ base) : w.ownsRow base' e size v n xs := by
  refine ⟨h.1, ?_⟩
  rcases h.2 with h1 | ⟨g, cap, cur, h1, h2, h3⟩
  · exact .inl h1
  · exact .inr ⟨g, cap, cur, h1, Nat.le_trans hb h2, h3⟩
theorem prefix_step {xs ys : List Int} {k : Nat} {a : Int} (h : xs.take k = ys.take k) (hx : xs[k]? = some a) (hy : ys[k]? = some a) : xs.take (k + 1) = ys.take (k + 1) := by
  rw [take_snoc hx, take_snoc hy, h]
def EqTold (xs ys : List Int) (w : World) (e : Ending) (w' : World) : Prop := e = .returned (.bool (sameB xs ys)) ∧ ∃ q, w' = w.drewN q
theorem eq_no {xs ys : List Int} (h : xs ≠ ys) (w : World) (q : Nat) : EqTold xs ys w (.returned (.bool false)) (w.drewN q) := ⟨by simp [sameB, h], q, rfl⟩
theorem eq_yes {xs ys : List Int} (h : xs = ys) (w : World) (q : Nat) : EqTold xs ys w (.returned (.bool true)) (w.drewN q) := ⟨by simp [sameB, h], q, rfl⟩

set_option maxHeartbeats 1000000 in
theorem equal_any (w : World) (Bx By : Nat) (Ax Ay : Option Addr) (n cx m cy : Nat) (xs ys : List Int) (hx : RI .i32 w Bx Ax n xs) (hy : RI .i32 w By Ay m ys) (hn : n ≤ 9223372036854775807) :
    Calls Try.prog 36 #[.slice Ax n cx, .slice Ay m cy] w (EqTold xs ys w) := by
  have HX := Lib.hid hx
  have HY := Lib.hid hy
  clear hx hy
  by_cases hnm : n = m
  · subst hnm
    go_enter Try.func36, Try.ntmps36
    go_wp2
    go_loopw [13] (fun i wr => ∃ k q : Nat, k ≤ n ∧ i = .int .i64 k ∧ Hid (xs.take k = ys.take k) ∧ wr = w.drewN q) (fun i _ => n - (intOf i).toNat)
    case atStart => exact ⟨0, 0, Nat.zero_le _, rfl, rfl, drewN_zero w⟩
    case round =>
      obtain ⟨k, q, hk, rfl, HS, rfl⟩ := hrel
      by_cases hlt : k < n
      · obtain ⟨ad, a, rfl, _, ha, hca⟩ := HX.out.at_ hlt
        obtain ⟨ad2, b, rfl, _, hb, hcb⟩ := HY.out.at_ hlt
        have HA := Lib.hid ha
        have HB := Lib.hid hb
        clear ha hb
        have k0 : (0 : Int) ≤ (k : Int) := by omega
        have k1 : (k : Int) < (n : Int) := by omega
        by_cases hab : a = b
        · subst hab
          have t1 : (a != a) = false := by simp
          go_wp2
          go_quiet (fail)
          go_wp2
          go_roundw
          case rel => exact ⟨k + 1, _, by omega, by go_num, prefix_step HS.out HA.out HB.out, rfl⟩
          case measure => simp [intOf]; omega
        · have t1 : (a != b) = true := by simp [hab]
          have hne : xs ≠ ys := fun e => hab (by
            have h1 := HA.out
            have h2 := HB.out
            rw [e, h2] at h1
            injection h1 with h1
            exact h1.symm)
          have HN := Lib.hid hne
          clear hne hab
          go_wp2
          go_quiet (fail)
          go_wp2
          go_ret
          rw [World.drewN_drewN]
          exact eq_no HN.out w _
      · have he : xs = ys := by
          have := HS.out
          rwa [List.take_of_length_le (by rw [HX.out.len]; omega), List.take_of_length_le (by rw [HY.out.len]; omega)] at this
        have HE := Lib.hid he
        clear he
        go_wp2
        go_ret
        exact eq_yes HE.out w q
  · have hne : xs ≠ ys := fun e => hnm (by rw [← HX.out.len, ← HY.out.len, e])
    have HN := Lib.hid hne
    have t1 : ((n : Int) != (m : Int)) = true := by simp; omega
    clear hne
    go_enter Try.func36, Try.ntmps36
    go_wp2
    go_ret
    exact eq_no HN.out w 0

set_option maxHeartbeats 1000000 in
theorem comesBack_any (g : Bool) (w : World) (B : Nat) (A : Option Addr) (n c : Nat) (xs : List Int) (hx : RI .i32 w B A n xs) (hB : B ≤ w.heap.size) (hn : n ≤ 268435456) :
    Calls Try.prog 31 #[.slice A n c, .bool g] w fun e w' => e = .returned (.bool (backB g xs)) ∧ Below w.heap.size w w' := by
  have HX := Lib.hid hx
  clear hx
  cases ha : xs.all rightB with
  | false =>
    have hcb : backB g xs = false := by simp only [backB, ha, Bool.false_and]
    have HA := Lib.hid ha
    rw [hcb]
    clear ha hcb
    go_enter Try.func31, Try.ntmps31
    go_wp2_with fail
    with_reducible refine (encode_no g w B A n c xs HX.out hB (by omega) HA.out).mono ?_
    rintro e w1 ⟨rfl, hb1⟩
    go_wp2
    go_ret
    exact ⟨rfl, hb1⟩
  | true =>
    have hcb : backB g xs = sameB (dec g (encL g xs)) xs := by simp only [backB, ha, Bool.true_and]
    have HA := Lib.hid ha
    rw [hcb]
    clear ha hcb
    have hle := (encL_len g xs).2
    rw [HX.out.len] at hle
    go_enter Try.func31, Try.ntmps31
    go_wp2_with fail
    with_reducible refine (encode_yes g w B A n c xs HX.out hB (by omega) HA.out).mono ?_
    rintro e w1 ⟨v1, rfl, hown1, hb1⟩
    obtain ⟨A1, c1, rfl, hc1, hm1, hr1⟩ := own_slice2 hown1
    have HR1 := Lib.hid hr1
    have hs1 := hb1.size
    clear hown1 hr1
    generalize hln : (encL g xs).length = ln at *
    have HLN := Lib.hid hln
    clear hln
    go_wp2_with fail
    with_reducible refine (decode_any g w1 w1.heap.size A1 ln c1 (encL g xs) HR1.out (Nat.le_refl _) (all_bd g HA.out) hc1 (by omega) hm1).mono ?_
    rintro e w2 ⟨v2, rfl, hown2, hb2⟩
    obtain ⟨A2, c2, rfl, hc2, hm2, hr2⟩ := own_slice2 hown2
    have HR2 := Lib.hid hr2
    have hs2 := hb2.size
    clear hown2 hr2
    have hx2 : RI .i32 w2 B A n xs := (HX.out.on hb1 hB).on hb2 (by omega)
    have HX2 := Lib.hid hx2
    clear hx2
    generalize hl2 : (dec g (encL g xs)).length = l2 at *
    have HL2 := Lib.hid hl2
    clear hl2
    unfold maxLen at hm2
    go_wp2_with fail
    with_reducible refine (equal_any w2 w2.heap.size B A2 A l2 c2 n c (dec g (encL g xs)) xs HR2.out HX2.out (by omega)).mono ?_
    rintro e w3 ⟨rfl, q, rfl⟩
    go_wp2
    go_ret
    exact ⟨rfl, below_drewN (hb1.trans (hb2.mono hs1)) q⟩
theorem comesBack_is (g : Bool) (w : World) (B : Nat) (A : Option Addr) (n c : Nat) (xs : List Int) (hx : RI .i32 w B A n xs) (hB : B ≤ w.heap.size) (hn : n ≤ 268435456) (r : Bool) (hr : backB g xs = r) :
    Calls Try.prog 31 #[.slice A n c, .bool g] w fun e w' => e = .returned (.bool r) ∧ Below w.heap.size w w' := by
  subst hr
  exact comesBack_any g w B A n c xs hx hB hn

set_option maxHeartbeats 1000000 in
theorem canonical_is (w : World) (B : Nat) (A : Option Addr) (n c : Nat) (xs : List Int) (hx : RI .i32 w B A n xs) (hB : B ≤ w.heap.size) (hn : n ≤ 268435456) (r : Bool) (hr : canonB xs = r) :
    Calls Try.prog 20 #[.slice A n c] w fun e w' => e = .returned (.bool r) ∧ Below w.heap.size w w' := by
  subst hr
  have HX := Lib.hid hx
  clear hx
  cases h1 : backB true xs with
  | false =>
    have hcb : canonB xs = false := by simp only [canonB, h1, Bool.false_and]
    have H1 := Lib.hid h1
    rw [hcb]
    clear h1 hcb
    go_enter Try.func20, Try.ntmps20
    go_wp2_with fail
    with_reducible refine (comesBack_is true w B A n c xs HX.out hB hn false H1.out).mono ?_
    rintro e w1 ⟨rfl, hb1⟩
    go_wp2
    go_ret
    exact ⟨rfl, hb1⟩
  | true =>
    have hcb : canonB xs = backB false xs := by simp only [canonB, h1, Bool.true_and]
    have H1 := Lib.hid h1
    rw [hcb]
    clear h1 hcb
    go_enter Try.func20, Try.ntmps20
    go_wp2_with fail
    with_reducible refine (comesBack_is true w B A n c xs HX.out hB hn true H1.out).mono ?_
    rintro e w1 ⟨rfl, hb1⟩
    have hs1 := hb1.size
    go_wp2_with fail
    with_reducible refine (comesBack_any false w1 B A n c xs (HX.out.on hb1 hB) (by omega) hn).mono ?_
    rintro e w2 ⟨rfl, hb2⟩
    go_wp2
    go_ret
    exact ⟨rfl, hb1.trans (hb2.mono hs1)⟩
end Go.Proofs.Ytbocibecjndooaa.C
