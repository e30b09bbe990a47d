/-
  textOf, textOfSet: the texts of a cell and of a set. Condition: what the listed variables hold; at most 1000 ranges and texts.
-/
import Derived.Test.YtcpjcepeiplfgaaDoorTcH
import Derived.Test.YtcpjcepeiplfgaaDoorTcE
import Derived.Test.YtcpjcepeiplfgaaDoorTcA
import Derived.Laws.Concat
namespace Go.Proofs.YtcpjcepeiplfgaaDoor.C
open Go.RowKit

theorem str_appT (a b : List UInt8) : str a ++ str b = str (a ++ b) := by
  unfold str
  apply ByteArray.ext
  simp
set_option maxRecDepth 100000 in
set_option maxHeartbeats 1000000 in
theorem textOf_any (c : Int) (w : World) (hG : Gt w) : Calls Tryd.prog 68 #[.int .i32 c] w fun e w' => e = .returned (.string (str (textL [c]))) ∧ Below w.heap.size w w' := by
  obtain ⟨W, hW⟩ : ∃ W, W = w.alloc (.cells #[.int .i32 c] 22) := ⟨_, rfl⟩
  have hb : Below w.heap.size w W := by rw [hW]; exact (Below.refl _ _).alloc (Nat.le_refl _) _
  have hri : RI .i32 W W.heap.size (some ⟨w.heap.size, 0, none⟩) 1 [c] := by
    rw [hW]
    refine ⟨rfl, fun _ => ⟨_, rfl, by simp, fun j u hj => ?_⟩⟩
    rcases j with _ | j
    · obtain rfl : c = u := by simpa using hj
      rw [add_plain, World.cell?_alloc_new]
      rfl
    · simp at hj
  have hc := text_any W W.heap.size (some ⟨w.heap.size, 0, none⟩) 1 1 [c] hri (Nat.le_refl _) (by decide) (hG.next hb hG.lt).1
  have HB := Lib.hid hb
  clear hb hri hG
  go_enter Tryd.func68, Tryd.ntmps68
  go_wp2_with fail
  rw [← hW]
  refine hc.mono ?_
  rintro e w2 ⟨rfl, hb2⟩
  have HE : Hid (Below w.heap.size w w2) := Lib.hid (HB.out.trans (hb2.mono HB.out.size))
  clear hb2 hc
  go_wp2
  go_ret
  exact ⟨rfl, HE.out⟩
/-- what stands in textOfSet: box S, builder S + 1 -/
structure StSt (w : World) (S : Nat) (nb : Bool) (vR vT : Value) (bs : List UInt8) (wr : World) : Prop where
  b : Below S w wr
  n : Rw wr S 28 #[.bool nb, vR, vT]
  u : IsBu 75 [] (S + 1) (S + 1) bs wr
theorem StSt.next {w wr w2 : World} {S : Nat} {nb : Bool} {vR vT : Value} {bs : List UInt8} (h : StSt w S nb vR vT bs wr) (hb : Below wr.heap.size wr w2) : StSt w S nb vR vT bs w2 := by
  have := h.n.lt
  exact ⟨h.b.trans (hb.mono (by omega)), h.n.on hb h.n.lt, h.u.next hb⟩
theorem StSt.put {w wr w2 : World} {S : Nat} {nb : Bool} {vR vT : Value} {bs bs' : List UInt8} (h : StSt w S nb vR vT bs wr) (hu : BuAt 75 [] (S + 1) (S + 1) (.pointer (some ⟨S + 1, 0, none⟩)) bs' w2) (hk : Kp (S + 1) wr w2) (hb : Below (S + 1) wr w2) : StSt w S nb vR vT bs' w2 :=
  ⟨h.b.trans (hb.mono (Nat.le_succ _)), hk.rw h.n (by omega) (by decide), .inr hu⟩
theorem StSt.lt {w wr : World} {S : Nat} {nb : Bool} {vR vT : Value} {bs : List UInt8} (h : StSt w S nb vR vT bs wr) : S + 1 ≤ wr.heap.size := by have := h.n.lt; omega
theorem buTy1 : BuTy 75 [] := .inl ⟨rfl, rfl⟩
theorem set_write (w wr : World) (S : Nat) (nb : Bool) (vR vT : Value) (bs l : List UInt8) (h : StSt w S nb vR vT bs wr) (hl : bs.length + l.length ≤ 140737488355328) : Calls Tryd.prog 52 #[.pointer (some ⟨S + 1, 0, none⟩), .string (str l)] wr fun e w' => e = .returned (.tuple #[.int .i64 l.length, .nilIface]) ∧ Hid (StSt w S nb vR vT (bs ++ l) w') ∧ Kp (S + 1) wr w' ∧ Below (S + 1) wr w' := by
  refine (writeString_any _ [] (S + 1) (S + 1) bs l wr buTy1 h.u hl h.lt).mono ?_
  rintro e w' ⟨rfl, h1, h2, h3⟩
  exact ⟨rfl, Lib.hid (h.put h1 h2 h3), h2, h3⟩
theorem flat_take {α : Type} {f : α → List UInt8} {l : List α} {i : Nat} {x : α} (h : l[i]? = some x) : (l.take (i + 1)).flatMap f = (l.take i).flatMap f ++ f x := by
  rw [List.take_add_one, h, List.flatMap_append]
  simp
theorem flat_take_len {α : Type} {f : α → List UInt8} (l : List α) (i : Nat) : ((l.take i).flatMap f).length ≤ (l.flatMap f).length := by
  have : (l.flatMap f).length = ((l.take i).flatMap f).length + ((l.drop i).flatMap f).length := by rw [← List.length_append, ← List.flatMap_append, List.take_append_drop]
  omega
def preT (nb : Bool) : List UInt8 := 91 :: (if nb then [94] else [])
theorem preT_len (nb : Bool) : (preT nb).length ≤ 2 := by cases nb <;> decide
theorem setT_parts (x : Nd) : setT x = preT x.nt ++ x.rs.flatMap rngT ++ x.ts.flatMap txtT ++ [93] := rfl
set_option maxRecDepth 100000 in
set_option maxHeartbeats 8000000 in
theorem textOfSet_any (w : World) (P : Nat → Prop) (x : Nd) (vR vT : Value) (h1 : PrsP w P vR x.rs) (h2 : TxsP w P vT x.ts) (hP : ∀ b, P b → b < w.heap.size) (hset : setB x = true) (hs : Sized x) (hG : Gt w) :
    Calls Tryd.prog 69 #[.agg #[.bool x.nt, vR, vT]] w fun e w' => e = .returned (.string (str (setT x))) ∧ Below w.heap.size w w' := by
  obtain ⟨S, hS⟩ : ∃ S, w.heap.size = S := ⟨_, rfl⟩
  rw [hS]
  obtain ⟨A, c, rfl, hrs, hrm⟩ := id h1
  obtain ⟨A2, c2, us, rfl, hts, htm, htt⟩ := id h2
  obtain ⟨nb, hnb⟩ : ∃ nb, x.nt = nb := ⟨_, rfl⟩
  rw [hnb]
  have HNB := Lib.hid hnb
  clear hnb
  obtain ⟨W2, hW2⟩ : ∃ W2, W2 = (w.alloc (.cells #[.bool nb, .slice A x.rs.length c, .slice A2 x.ts.length c2] 28)).alloc (.cells #[.pointer none, .slice none 0 0] 75) := ⟨_, rfl⟩
  have hst : StSt w S nb (.slice A x.rs.length c) (.slice A2 x.ts.length c2) [] W2 := by
    have hb1 : Below (S + 1) (w.alloc (.cells #[.bool nb, .slice A x.rs.length c, .slice A2 x.ts.length c2] 28)) W2 := by rw [hW2]; exact (Below.refl _ _).alloc (by simp; omega) _
    have hr1 : Rw (w.alloc (.cells #[.bool nb, .slice A x.rs.length c, .slice A2 x.ts.length c2] 28)) S 28 #[.bool nb, .slice A x.rs.length c, .slice A2 x.ts.length c2] := by rw [← hS]; exact heap_alloc_new w _
    have hr2 := heap_alloc_new (w.alloc (.cells #[.bool nb, .slice A x.rs.length c, .slice A2 x.ts.length c2] 28)) (.cells #[.pointer none, .slice none 0 0] 75)
    rw [World.size_alloc, hS] at hr2
    exact ⟨((Below.refl _ w).alloc (by omega) _).trans (hb1.mono (Nat.le_succ _)), hr1.on hb1 (Nat.lt_succ_self _), .inl ⟨Nat.le_refl _, .slice none 0 0, by rw [hW2]; exact hr2, World.ownsRow_nil _ _ _ _⟩⟩
  have HST := Lib.hid hst
  have H1 := Lib.hid h1
  have H2 := Lib.hid h2
  have HP : Hid (∀ b, P b → b < S) := Lib.hid (by rw [← hS]; exact hP)
  have HG : Hid (∀ w', Below S w w' → Gt w') := Lib.hid (fun w' hb => hG.next hb (by rw [← hS]; exact hG.lt))
  have HS := Lib.hid (And.intro hset hs)
  have HLEN := Lib.hid (setT_len hset hs.1 hs.2)
  have HSS := Lib.hid hS
  clear h1 h2 hP hset hs hG hrs hts htt hst
  go_enter Tryd.func69, Tryd.ntmps69
  go_upto_region 2 with fail
  rw [← hW2]
  clear hW2
  have hw := set_write w W2 S nb _ _ [] [91] HST.out (by simp)
  go_wp2_with fail
  refine hw.mono ?_
  rintro e w3 ⟨rfl, H3, -, -⟩
  clear hw HST
  have n0 : w3.cell? ⟨S, 0, none⟩ = some (.bool nb) := H3.out.n.cell (i := 0) rfl
  go_upto_if 10 with fail
  go_cut [] (fun wx => Hid (StSt w S nb (.slice A x.rs.length c) (.slice A2 x.ts.length c2) (preT nb) wx))
  case first =>
    cases nb with
    | false =>
      go_wp2
      go_meet
      exact H3
    | true =>
      have hw := set_write w w3 S true _ _ ([] ++ [91]) [94] H3.out (by simp)
      clear n0
      go_wp2_with fail
      refine hw.mono ?_
      rintro e w4 ⟨rfl, H4, -, -⟩
      clear hw H3
      go_wp2
      go_meet
      exact H4
  case rest =>
    generalize wc = wx at *
    have H4 := Lib.hid hcut.out
    clear hcut H3 n0
    have n1 : wx.cell? ⟨S, 1, none⟩ = some (.slice A x.rs.length c) := H4.out.n.cell (i := 1) rfl
    obtain ⟨n, hnn⟩ : ∃ n, n = x.rs.length := ⟨_, rfl⟩
    have HNN := Lib.hid hnn
    rw [← hnn] at n1
    have hn1000 : n ≤ 1000 := by rw [hnn]; exact HS.out.2.1
    clear hnn hrm
    go_upto_block 0 with fail
    go_cut [] (fun wy => Hid (StSt w S nb (.slice A x.rs.length c) (.slice A2 x.ts.length c2) (preT nb ++ x.rs.flatMap rngT) wy))
    case first =>
      clear n1
      go_wp2
      go_loopw [15] (fun iv wr => ∃ i : Nat, i ≤ n ∧ iv = .int .i64 i ∧ Hid (StSt w S nb (.slice A x.rs.length c) (.slice A2 x.ts.length c2) (preT nb ++ (x.rs.take i).flatMap rngT) wr)) (fun iv _ => n - (intOf iv).toNat)
      case atStart => exact ⟨0, Nat.zero_le _, rfl, Lib.hid (by simpa using H4.out)⟩
      case round =>
        clear H4
        obtain ⟨i, hin, rfl, HR⟩ := hrel
        by_cases hlt : i < n
        · obtain ⟨⟨lo, hi⟩, hr⟩ : ∃ r, x.rs[i]? = some r := ⟨_, List.getElem?_eq_getElem (by have := HNN.out; omega)⟩
          obtain ⟨A', c', hv, hsi, -⟩ := H1.out.keep (below_cells HR.out.b HP.out)
          injection hv with hA _ hc
          subst hA hc
          obtain ⟨ad, u, v, rfl, hPa, hx, d0, d1⟩ := hsi.at2 (k := i) (by have := HNN.out; omega)
          obtain ⟨r, hr', rfl, rfl⟩ := prRow_at hx
          rw [hr] at hr'
          injection hr' with hr'
          subst hr'
          have HRI := Lib.hid hr
          obtain ⟨w1, hw1⟩ : ∃ w1, w1 = wr.alloc (.cells #[.int .i32 lo, .int .i32 hi] 62) := ⟨_, rfl⟩
          have hb1 : Below wr.heap.size wr w1 := by rw [hw1]; exact (Below.refl _ _).alloc (Nat.le_refl _) _
          have hro : Rw w1 wr.heap.size 62 #[.int .i32 lo, .int .i32 hi] := by rw [hw1]; exact heap_alloc_new wr _
          have HS1 := Lib.hid (HR.out.next hb1)
          have HRO := Lib.hid hro
          have q0 : w1.cell? ⟨wr.heap.size, 0, none⟩ = some (.int .i32 lo) := hro.cell (i := 0) rfl
          have q1 : w1.cell? ⟨wr.heap.size, 1, none⟩ = some (.int .i32 hi) := hro.cell (i := 1) rfl
          have HWL : Hid (S + 2 ≤ wr.heap.size) := Lib.hid (by have := HR.out.u; rcases this with h | h <;> (have := h.lt; omega))
          clear hr hsi hx hPa hb1 hro
          go_upto_region 8 with fail
          rw [← hw1]
          clear hw1 d0 d1
          refine wp_region_held (S := fun W' : World => W'.cell? ⟨wr.heap.size, 0, none⟩ = some (.int .i32 lo) ∧ W'.cell? ⟨wr.heap.size, 1, none⟩ = some (.int .i32 hi)) (by kernel_rfl) ?_
          change wpAnyH _ _ _ _ _ _ _ _ w1.drew
          have hS1 : (fun W' : World => W'.cell? ⟨wr.heap.size, 0, none⟩ = some (.int .i32 lo) ∧ W'.cell? ⟨wr.heap.size, 1, none⟩ = some (.int .i32 hi)) w1.drew := ⟨q0, q1⟩
          refine wpHn 0 rfl ?_
          try simp only [Act.put, g1, g2, g3, g4, g6]
          refine wpHn 1 rfl ?_
          try simp only [Act.put, g1, g2, g3, g4, g5, g6]
          refine wpHn 4 rfl ?_
          try simp only [Act.put, g1, g2, g3, g4, g5, g6]
          refine wpHn 5 rfl ?_
          try simp only [Act.put, g1, g2, g3, g4, g5, g6]
          have hc1 := textOf_any lo w1.drew (HG.out _ (below_drew HS1.out.b))
          obtain ⟨sa, hsa⟩ : ∃ sa, str (textL [lo]) = sa := ⟨_, rfl⟩
          obtain ⟨sb, hsb⟩ : ∃ sb, str (textL [hi]) = sb := ⟨_, rfl⟩
          have hla : sa.size ≤ 10 := by rw [← hsa]; have := textL_le [lo]; rw [List.length_singleton] at this; show (textL [lo]).toArray.size ≤ 10; simpa using this
          have hlb : sb.size ≤ 10 := by rw [← hsb]; have := textL_le [hi]; rw [List.length_singleton] at this; show (textL [hi]).toArray.size ≤ 10; simpa using this
          have HSA := Lib.hid (And.intro hsa hsb)
          have z1 : ¬ 9223372036854775807 < sa.size + 1 := by omega
          have z2 : ¬ 9223372036854775807 < sa.size + 1 + sb.size := by omega
          have z3 : ¬ 9223372036854775807 < sa.size + 1 + sb.size + 1 := by omega
          rw [hsa] at hc1
          clear hsa hsb hla hlb
          refine wpAnyH_one (i := 2) (by kernel_rfl) rfl (fun K hK => ?_)
          simp only [g4, g5, g6]
          go_simp
          go_at_call 68
          with_reducible refine hc1.mono ?_
          rintro e w4 ⟨rfl, hb4⟩
          have hb4' : Below w1.heap.size w1 w4 := ⟨hb4.os, hb4.tape, hb4.output, hb4.size, hb4.block⟩
          have HS4 := Lib.hid (HS1.out.next hb4')
          have HRO4 : Hid (Rw w4 wr.heap.size 62 #[.int .i32 lo, .int .i32 hi]) := Lib.hid (HRO.out.on hb4' HRO.out.lt)
          have hS4 : (fun W' : World => W'.cell? ⟨wr.heap.size, 0, none⟩ = some (.int .i32 lo) ∧ W'.cell? ⟨wr.heap.size, 1, none⟩ = some (.int .i32 hi)) w4 := ⟨HRO4.out.cell (i := 0) rfl, HRO4.out.cell (i := 1) rfl⟩
          refine hK.out _ _ hS4 (fun _ => ?_)
          clear hK hc1 hb4 hb4' hS1 q0 q1
          try simp only [Act.put, g1, g2, g3, g4, g5, g6]
          refine wpHn 3 rfl ?_
          try simp only [Act.put, g1, g2, g3, g4, g5, g6]
          have hc2 := textOf_any hi w4 (HG.out _ HS4.out.b)
          rw [HSA.out.2] at hc2
          refine wpAnyH_one (i := 6) (by kernel_rfl) rfl (fun K hK => ?_)
          simp only [g4, g5, g6]
          go_simp
          go_at_call 68
          with_reducible refine hc2.mono ?_
          rintro e w5 ⟨rfl, hb5⟩
          have HS5 := Lib.hid (HS4.out.next hb5)
          have HRO5 : Hid (Rw w5 wr.heap.size 62 #[.int .i32 lo, .int .i32 hi]) := Lib.hid (HRO4.out.on hb5 HRO4.out.lt)
          have hS5 : (fun W' : World => W'.cell? ⟨wr.heap.size, 0, none⟩ = some (.int .i32 lo) ∧ W'.cell? ⟨wr.heap.size, 1, none⟩ = some (.int .i32 hi)) w5 := ⟨HRO5.out.cell (i := 0) rfl, HRO5.out.cell (i := 1) rfl⟩
          refine hK.out _ _ hS5 (fun _ => ?_)
          clear hK hc2 hb5 hS4
          try simp only [Act.put, g1, g2, g3, g4, g5, g6]
          refine wpHn 7 rfl ?_
          try simp only [Act.put, g1, g2, g3, g4, g5, g6]
          refine wpHn 8 rfl ?_
          try simp only [Act.put, g1, g2, g3, g4, g5, g6]
          have hc3 := set_write w w5 S nb _ _ _ (rngT (lo, hi)) HS5.out (by
            have h0 := preT_len nb
            have h1 := flat_take_len (f := rngT) x.rs i
            have h2 := HLEN.out
            have h3 := textL_le [lo]
            have h4 := textL_le [hi]
            rw [setT_parts] at h2
            unfold rngT at *
            simp only [List.length_append, List.length_cons, List.length_nil] at h2 h3 h4 ⊢
            omega)
          have hstr : str (rngT (lo, hi)) = sa ++ (⟨#[45]⟩ : ByteArray) ++ sb ++ (⟨#[32]⟩ : ByteArray) := by
            rw [← HSA.out.1, ← HSA.out.2]
            show _ = str (textL [lo]) ++ str [45] ++ str (textL [hi]) ++ str [32]
            rw [str_appT, str_appT, str_appT]
            congr 1
            simp [rngT]
          rw [hstr] at hc3
          refine wpAnyH_one (i := 9) (by kernel_rfl) rfl (fun K hK => ?_)
          simp only [g4, g5, g6]
          go_simp
          go_at_call 52
          with_reducible refine hc3.mono ?_
          rintro e w6 ⟨rfl, HS6, hk6, -⟩
          have hro6 : Rw w6 wr.heap.size 62 #[.int .i32 lo, .int .i32 hi] := hk6.rw HRO5.out (by have := HWL.out; omega) (by decide)
          refine hK.out _ _ ⟨hro6.cell (i := 0) rfl, hro6.cell (i := 1) rfl⟩ (fun _ => ?_)
          have HE : Hid (StSt w S nb (.slice (some ad) x.rs.length c) (.slice A2 x.ts.length c2) (preT nb ++ (x.rs.take (i + 1)).flatMap rngT) w6) := Lib.hid (by rw [flat_take HRI.out, ← List.append_assoc]; exact HS6.out)
          clear hK hc3 HS6 hk6 hro6 hstr z1 z2 z3 hS5
          try simp only [Act.put, g1, g2, g3, g4, g5, g6]
          refine wpAnyH_done (by kernel_rfl) ?_ _
          go_wp2
          go_roundw
          case rel => exact ⟨i + 1, by omega, by go_num, HE⟩
          case measure => simp [intOf]; omega
        · obtain rfl : i = n := by omega
          have HE : Hid (StSt w S nb (.slice A x.rs.length c) (.slice A2 x.ts.length c2) (preT nb ++ x.rs.flatMap rngT) wr) := Lib.hid (by have := HR.out; rwa [HNN.out, List.take_length] at this)
          clear HR
          go_wp2
          go_meet
          exact HE
    case rest =>
      generalize wc = wy at *
      have H5 := Lib.hid hcut.out
      clear hcut H4 n1
      have n2 : wy.cell? ⟨S, 2, none⟩ = some (.slice A2 x.ts.length c2) := H5.out.n.cell (i := 2) rfl
      obtain ⟨m, hmm⟩ : ∃ m, m = x.ts.length := ⟨_, rfl⟩
      have HMM := Lib.hid hmm
      rw [← hmm] at n2
      have hm1000 : m ≤ 1000 := by rw [hmm]; exact HS.out.2.2
      clear hmm htm
      go_upto_block 2 with fail
      go_cut [] (fun wz => Hid (StSt w S nb (.slice A x.rs.length c) (.slice A2 x.ts.length c2) (preT nb ++ x.rs.flatMap rngT ++ x.ts.flatMap txtT) wz))
      case first =>
        clear n2
        go_wp2
        go_loopw [33] (fun iv wr => ∃ i : Nat, i ≤ m ∧ iv = .int .i64 i ∧ Hid (StSt w S nb (.slice A x.rs.length c) (.slice A2 x.ts.length c2) (preT nb ++ x.rs.flatMap rngT ++ (x.ts.take i).flatMap txtT) wr)) (fun iv _ => m - (intOf iv).toNat)
        case atStart => exact ⟨0, Nat.zero_le _, rfl, Lib.hid (by simpa using H5.out)⟩
        case round =>
          clear H5
          obtain ⟨i, hin, rfl, HR⟩ := hrel
          by_cases hlt : i < m
          · obtain ⟨t, ht⟩ : ∃ t, x.ts[i]? = some t := ⟨_, List.getElem?_eq_getElem (by have := HMM.out; omega)⟩
            obtain ⟨A', c', us', hv, hsi, -, htt⟩ := H2.out.keep (below_cells HR.out.b HP.out)
            injection hv with hA _ hc
            subst hA hc
            obtain ⟨a, d, hu, hri, htm⟩ := htt i t ht
            obtain ⟨ad, u, rfl, hPa, hx, d0⟩ := hsi.at1 (k := i) (by have := HMM.out; omega)
            rw [hu] at hx
            injection hx with hx
            injection hx with hx
            subst hx
            have ht4 : t.length ≤ 4 := by
              have hset := HS.out.1
              unfold setB at hset
              rw [Bool.and_eq_true, List.all_eq_true, List.all_eq_true] at hset
              have := hset.2 t (List.mem_of_getElem? ht)
              unfold txtOk at this
              simp only [Bool.and_eq_true, decide_eq_true_eq] at this
              exact this.1.2
            have hc1 := text_any wr wr.heap.size a t.length d t (hri.ri (fun b hb => Nat.lt_of_lt_of_le (HP.out b hb) (by have := HR.out.lt; omega))) (Nat.le_refl _) (by omega) (HG.out _ HR.out.b).1
            obtain ⟨sa, hsa⟩ : ∃ sa, str (textL t) = sa := ⟨_, rfl⟩
            have hla : sa.size ≤ 40 := by rw [← hsa]; have := textL_le t; show (textL t).toArray.size ≤ 40; simp; omega
            have HSA := Lib.hid hsa
            have HTI := Lib.hid ht
            have HT4 := Lib.hid ht4
            have z1 : ¬ 9223372036854775807 < 1 + sa.size := by omega
            have z2 : ¬ 9223372036854775807 < 1 + sa.size + 1 := by omega
            rw [hsa] at hc1
            clear hsa hla ht hsi htt hri htm hPa hu ht4
            go_wp2_with fail
            refine hc1.mono ?_
            rintro e w4 ⟨rfl, hb4⟩
            have HS4 := Lib.hid (HR.out.next hb4)
            have hc3 := set_write w w4 S nb _ _ _ (txtT t) HS4.out (by
              have h0 := preT_len nb
              have h1 := flat_take_len (f := txtT) x.ts i
              have h2 := HLEN.out
              have h3 := textL_le t
              have h4 := HT4.out
              rw [setT_parts] at h2
              unfold txtT at *
              simp only [List.length_append, List.length_cons, List.length_nil] at h2 ⊢
              omega)
            have hstr : str (txtT t) = (⟨#[61]⟩ : ByteArray) ++ sa ++ (⟨#[32]⟩ : ByteArray) := by
              rw [← HSA.out]
              show _ = str [61] ++ str (textL t) ++ str [32]
              rw [str_appT, str_appT]
              congr 1
            rw [hstr] at hc3
            clear hc1 hb4 d0 hstr
            go_wp2_with fail
            refine hc3.mono ?_
            rintro e w6 ⟨rfl, HS6, -, -⟩
            have HE : Hid (StSt w S nb (.slice A x.rs.length c) (.slice (some ad) x.ts.length c2) (preT nb ++ x.rs.flatMap rngT ++ (x.ts.take (i + 1)).flatMap txtT) w6) := Lib.hid (by rw [flat_take HTI.out, ← List.append_assoc]; exact HS6.out)
            clear hc3 HS6 z1 z2
            go_wp2
            go_roundw
            case rel => exact ⟨i + 1, by omega, by go_num, HE⟩
            case measure => simp [intOf]; omega
          · obtain rfl : i = m := by omega
            have HE : Hid (StSt w S nb (.slice A x.rs.length c) (.slice A2 x.ts.length c2) (preT nb ++ x.rs.flatMap rngT ++ x.ts.flatMap txtT) wr) := Lib.hid (by have := HR.out; rwa [HMM.out, List.take_length] at this)
            clear HR
            go_wp2
            go_meet
            exact HE
      case rest =>
        generalize wc = wz at *
        have H6 := Lib.hid hcut.out
        clear hcut H5 n2
        have hw := set_write w wz S nb _ _ _ [93] H6.out (by
          have h2 := HLEN.out
          rw [setT_parts, HNB.out] at h2
          simp only [List.length_append, List.length_cons, List.length_nil] at h2 ⊢
          omega)
        go_wp2_with fail
        refine hw.mono ?_
        rintro e w7 ⟨rfl, H7, -, -⟩
        clear hw H6
        have hs7 := string_any 75 [] (S + 1) (S + 1) _ w7 H7.out.u H7.out.lt
        go_wp2_with fail
        refine hs7.mono ?_
        rintro e w8 ⟨rfl, hb8⟩
        have HB8 : Hid (Below S w w8) := Lib.hid (H7.out.b.trans (hb8.mono (Nat.le_succ _)))
        have HEQ : Hid (setT x = preT nb ++ x.rs.flatMap rngT ++ x.ts.flatMap txtT ++ [93]) := Lib.hid (by rw [setT_parts, HNB.out])
        clear hs7 hb8
        go_wp2
        go_ret
        rw [HEQ.out]
        exact ⟨by simp only [List.append_assoc]; rfl, HB8.out⟩
end Go.Proofs.YtcpjcepeiplfgaaDoor.C
