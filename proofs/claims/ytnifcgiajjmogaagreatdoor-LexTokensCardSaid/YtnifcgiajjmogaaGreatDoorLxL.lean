/-
  The contract of lex.Print: what the plain function says, of tokens of at most 5000 bytes each. Condition: what is asked of the listed variables ('Gl').
-/
import Derived.Test.YtnifcgiajjmogaaGreatDoorLxK
namespace Go.Proofs.YtnifcgiajjmogaaGreatDoor.C
open Go.RowKit

theorem builder_keep {w w' : World} {B b : Nat} {bs : List Value} (h : Lib.IsBuilder 46 5 B b bs w) (hb : Below w.heap.size w w') : Lib.IsBuilder 46 5 B b bs w' := by
  rcases h with ⟨h0, v, h1, h2, h3⟩ | ⟨h0, v, h1, h2, h3⟩
  · exact .inl ⟨h0, v, (hb.block b (Array.getElem?_eq_some_iff.1 h1).1).trans h1, own_keep h2 hb, h3⟩
  · exact .inr ⟨h0, v, (hb.block b (Array.getElem?_eq_some_iff.1 h1).1).trans h1, own_keep h2 hb, h3⟩
theorem builder_new (w : World) : Lib.IsBuilder 46 5 w.heap.size w.heap.size [] (w.alloc (.cells #[.pointer none, .slice none 0 0] 46)) :=
  .inl ⟨Nat.le_refl _, .slice none 0 0, heap_new _ _, World.ownsRow_nil _ _ _ _, by simp [Value.ownBlock]⟩
theorem prt_len (x : Tok) (ht : x.t.length ≤ 5000) (hn : x.n < 1048576 * 1048576) : (prt x).length ≤ 5020 := by
  have := greatL_len hn
  unfold prt
  repeat' split
  all_goals simp
  all_goals omega
theorem prtL_len : ∀ (ts : List Tok), (∀ x ∈ ts, x.t.length ≤ 5000 ∧ x.n < 1048576 * 1048576) → (prtL ts).length ≤ 5020 * ts.length
  | [], _ => by simp [prtL]
  | x :: r, h => by
    have h1 := prt_len x (h x (by simp)).1 (h x (by simp)).2
    have h2 := prtL_len r (fun y hy => h y (by simp [hy]))
    have : prtL (x :: r) = prt x ++ prtL r := rfl
    rw [this, List.length_append, List.length_cons]
    omega
theorem prtL_snoc (ts : List Tok) (x : Tok) : prtL (ts ++ [x]) = prtL ts ++ prt x := by simp [prtL]
theorem take_snoc {α : Type} {l : List α} {k : Nat} {a : α} (h : l[k]? = some a) : l.take (k + 1) = l.take k ++ [a] := by
  rw [List.take_add_one, h]; rfl
theorem strCells_str (l : List UInt8) : Lib.strCells (str l) = Lib.byteCells l := rfl

theorem add_more (a : Addr) (j i : Nat) (hi : 0 < i) : (⟨(a.add j).block, (a.add j).off + i, none⟩ : Addr) = a.add (j + i) := by
  unfold Addr.add
  by_cases h : j = 0
  · subst h
    rw [if_pos rfl, Nat.zero_add, if_neg (by omega)]
  · rw [if_neg h, if_neg (by omega), Nat.add_assoc]
/-- a token's four cells, as a walk reads them -/
theorem TI.at4 {w : World} {B n : Nat} {A : Option Addr} {ts : List Tok} (h : TI w B A n ts) {k : Nat} (hk : k < n) : ∃ ad x, A = some ad ∧ ad.block < B ∧ ts[k]? = some x ∧ w.cell? (ad.add (k * 4)) = some (.int .u8 x.k) ∧ w.cell? ⟨(ad.add (k * 4)).block, (ad.add (k * 4)).off + 1, none⟩ = some (.string (str x.t)) ∧ w.cell? ⟨(ad.add (k * 4)).block, (ad.add (k * 4)).off + 2, none⟩ = some (.int .i64 x.n) ∧ w.cell? ⟨(ad.add (k * 4)).block, (ad.add (k * 4)).off + 3, none⟩ = some (.int .i64 x.at_) := by
  obtain ⟨ad, x, h1, h2, h3, h4⟩ := h.at_ hk
  exact ⟨ad, x, h1, h2, h3, h4 0 _ rfl, by rw [add_more _ _ _ (by omega)]; exact h4 1 _ rfl, by rw [add_more _ _ _ (by omega)]; exact h4 2 _ rfl, by rw [add_more _ _ _ (by omega)]; exact h4 3 _ rfl⟩

/-- behind a token: what the loop carries on -/
theorem print_step {W w1 w2 : World} {B k : Nat} {ts : List Tok} {x : Tok} {o : Obj} (hx : ts[k]? = some x) (_hI : Lib.IsBuilder 46 5 B B (Lib.byteCells (prtL (ts.take k))) W) (hB : B ≤ W.heap.size) (hb1 : Below (W.alloc o).heap.size (W.alloc o) w1)
    (hA : Lib.BuilderAt 46 5 B B (.pointer (some ⟨B, 0, none⟩)) (Lib.byteCells (prtL (ts.take k)) ++ Lib.strCells (str (prt x))) w2) (hb2 : Below B w1 w2) :
    Lib.IsBuilder 46 5 B B (Lib.byteCells (prtL (ts.take (k + 1)))) w2 ∧ Below B W w2 := by
  rw [take_snoc hx, prtL_snoc, Lib.byteCells_append]
  exact ⟨.inr hA, ((((Below.refl B W).alloc hB o).trans (hb1.mono (by simp; omega))).trans hb2)⟩

set_option maxRecDepth 100000 in
set_option maxHeartbeats 4000000 in
theorem print_any (w : World) (B : Nat) (A : Option Addr) (n c : Nat) (ts : List Tok) (h : TI w B A n ts) (hB : B ≤ w.heap.size) (hG : Gl w) (hn : n ≤ 5000) (hok : ∀ x ∈ ts, x.t.length ≤ 5000 ∧ x.n < 1048576 * 1048576) :
    Calls Tryz.prog 10 #[.slice A n c] w fun e w' => e = .returned (.string (str (prtL ts))) ∧ Below w.heap.size w w' := by
  have hl := h.len
  have H := Lib.hid h
  have HG := Lib.hid hG
  have HK := Lib.hid hok
  have HL := Lib.hid hl
  have hI0 := Lib.hid (builder_new w)
  have hB0 : Below w.heap.size w (w.alloc (.cells #[.pointer none, .slice none 0 0] 46)) := (Below.refl _ _).alloc (Nat.le_refl _) _
  have HB0 := Lib.hid hB0
  clear h hG hok hl hB0
  go_enter Tryz.func10, Tryz.ntmps10
  go_wp2
  obtain ⟨E, hE⟩ : ∃ E, w.heap.size = E := ⟨_, rfl⟩
  rw [hE] at hI0 HB0 hB ⊢
  have HE := Lib.hid hE
  clear hE
  go_loopw [8] (fun iv wr => ∃ k : Nat, k ≤ n ∧ iv = .int .i64 k ∧ Hid (Lib.IsBuilder 46 5 E E (Lib.byteCells (prtL (ts.take k))) wr) ∧ Hid (Below E w wr)) (fun iv _ => n - (intOf iv).toNat)
  case atStart => exact ⟨0, Nat.zero_le _, rfl, hI0, HB0⟩
  case round =>
    obtain ⟨k, hk, rfl, HI, HW⟩ := hrel
    by_cases hlt : k < n
    · obtain ⟨ad, x, rfl, hbl, hx, q0, q1, q2, q3⟩ := (H.out.on HW.out hB).at4 hlt
      have HX := Lib.hid hx
      obtain ⟨hxt, hxn⟩ := HK.out x (List.mem_of_getElem? hx)
      have k0 : (0 : Int) ≤ (k : Int) := by omega
      have k1 : (k : Int) < (n : Int) := by omega
      have hEw : E ≤ wr.heap.size := by have := HW.out.size; have := HE.out; omega
      have hGw := HG.out.on HW.out (by rw [← HE.out]; exact HG.out.top)
      have hpr := fun o (hb : Below wr.heap.size wr (wr.alloc o)) => printed_any x x.at_ (wr.alloc o) (hGw.next hb) hxn hxt
      have hlen1 := prtL_len (ts.take k) (fun y hy => HK.out y (List.mem_of_mem_take hy))
      have hlen2 := prt_len x hxt hxn
      have hlen3 : (ts.take k).length ≤ 5000 := by rw [List.length_take]; omega
      clear hx
      go_wp2_with fail
      refine (hpr _ ((Below.refl _ _).alloc (Nat.le_refl _) _)).mono ?_
      rintro e w1 ⟨rfl, hb1⟩
      have hI1 := builder_keep (builder_keep HI.out ((Below.refl _ _).alloc (Nat.le_refl _) _)) hb1
      have hs1 := hb1.size
      rw [World.size_alloc] at hs1
      have HB1 := Lib.hid hb1
      clear hb1
      go_wp2_with fail
      refine (builder_write E E _ (str (prt x)) w1 hI1 (by rw [Lib.byteCells_length, str_size]; omega) (by omega)).mono ?_
      rintro e w2 ⟨rfl, hA, hb2⟩
      obtain ⟨hI2, hW2⟩ := print_step HX.out HI.out hEw HB1.out hA hb2
      have HI2 := Lib.hid hI2
      have HW2 := Lib.hid (HW.out.trans hW2)
      clear hA hb2 hI2 hW2 hI1
      go_wp2
      go_roundw
      case rel => exact ⟨k + 1, by omega, by go_num, HI2, HW2⟩
      case measure => simp [intOf]; omega
    · obtain rfl : k = n := by omega
      have hEw : E ≤ wr.heap.size := by have := HW.out.size; have := HE.out; omega
      have hst := Tryz.Builder_String_any E E _ wr HI.out hEw
      go_wp2_with fail
      refine hst.mono ?_
      rintro e w2 ⟨rfl, hb2⟩
      have HB2 := Lib.hid (HW.out.trans hb2)
      clear hb2
      go_wp2
      go_ret
      have h1 : ts.take k = ts := List.take_of_length_le (by rw [HL.out]; exact Nat.le_refl _)
      exact ⟨by rw [h1]; rfl, by rw [HE.out]; exact HB2.out⟩
end Go.Proofs.YtnifcgiajjmogaaGreatDoor.C
