/-
  signsOf: what stands before, between and behind a node's kids. Condition: the node may be; what the listed variables hold.
-/
import Derived.Test.YtcpjcepeiplfgaaDoorTcI
import Derived.Test.YtcpjcepeiplfgaaDoorTbF
namespace Go.Proofs.YtcpjcepeiplfgaaDoor.C
open Go.RowKit

theorem sg1 {x : Nd} (h : x.k = 1) : befT x = 39 :: textL [x.c] ∧ betT x = [] ∧ behT x = [] := by
  unfold befT betT behT
  rw [h]
  simp
theorem sg2 {x : Nd} (h : x.k = 2) : befT x = [46] ∧ betT x = [] ∧ behT x = [] := by
  unfold befT betT behT
  rw [h]
  simp
theorem sg3 {x : Nd} (h : x.k = 3) : befT x = setT x ∧ betT x = [] ∧ behT x = [] := by
  unfold befT betT behT
  rw [h]
  simp
theorem sg4 {x : Nd} (h : x.k = 4) : befT x = [94] ∧ betT x = [] ∧ behT x = [] := by
  unfold befT betT behT
  rw [h]
  simp
theorem sg5 {x : Nd} (h : x.k = 5) : befT x = [36] ∧ betT x = [] ∧ behT x = [] := by
  unfold befT betT behT
  rw [h]
  simp
theorem sg6 {x : Nd} (h : x.k = 6) : befT x = 35 :: Lib.itoa x.n ∧ betT x = [] ∧ behT x = [] := by
  unfold befT betT behT
  rw [h]
  simp
theorem sg7 {x : Nd} (h : x.k = 7) : befT x = 40 :: Lib.itoa x.n ++ [58] ∧ betT x = [] ∧ behT x = [41] := by
  unfold befT betT behT
  rw [h]
  simp
theorem sg8 {x : Nd} (h : x.k = 8) : befT x = [] ∧ betT x = [] ∧ behT x = [] := by
  unfold befT betT behT
  rw [h]
  simp
theorem sg9 {x : Nd} (h : x.k = 9) : befT x = [123] ∧ betT x = [124] ∧ behT x = [125] := by
  unfold befT betT behT
  rw [h]
  simp
theorem sg10 {x : Nd} (h : x.k = 10) : befT x = [] ∧ betT x = [] ∧ behT x = 42 :: Lib.itoa x.mn ++ 44 :: Lib.itoa x.mx := by
  unfold befT betT behT
  rw [h]
  simp
theorem sg11 {x : Nd} (h : x.k = 11) : befT x = [40, 41] ∧ betT x = [] ∧ behT x = [] := by
  unfold befT betT behT
  rw [h]
  simp
theorem kind_in {x : Nd} {g : Int} (h : nodeB x g = true) : x.k = 1 ∨ x.k = 2 ∨ x.k = 3 ∨ x.k = 4 ∨ x.k = 5 ∨ x.k = 6 ∨ x.k = 7 ∨ x.k = 8 ∨ x.k = 9 ∨ x.k = 10 ∨ x.k = 11 := by
  unfold nodeB at h
  repeat' split at h
  all_goals first | omega | (simp at h)
theorem size_str (l : List UInt8) : (str l).size = l.length := by show l.toArray.size = _; simp
def SgTold (w : World) (x : Nd) (e : Ending) (w' : World) : Prop := e = .returned (.tuple #[.string (str (befT x)), .string (str (betT x)), .string (str (behT x))]) ∧ Below w.heap.size w w'
theorem SgTold.of {w w' : World} {x : Nd} {a b c : List UInt8} (h : befT x = a ∧ betT x = b ∧ behT x = c) {e : Ending} (he : e = .returned (.tuple #[.string (str a), .string (str b), .string (str c)])) (hb : Below w.heap.size w w') : SgTold w x e w' := by
  unfold SgTold
  rw [h.1, h.2.1, h.2.2]
  exact ⟨he, hb⟩
set_option maxRecDepth 100000 in
set_option maxHeartbeats 8000000 in
theorem signsOf_any (w : World) (P : Nat → Prop) (x : Nd) (g : Int) (vR vT vK : Value) (hx : NdP w P x vR vT vK) (hP : ∀ b, P b → b < w.heap.size) (hn : nodeB x g = true) (hg : g ≤ 9) (hs : Sized x) (hG : Gt w) :
    Calls Tryd.prog 51 #[ndVal x vR vT vK] w (SgTold w x) := by
  unfold ndVal
  obtain ⟨⟨AR, cR, rfl, hR, hRl⟩, ⟨AT, cT, us, rfl, hT, hTl, hTs⟩, ⟨AK, cK, rfl, hK, hKl⟩⟩ := id hx
  clear hR hRl hT hTl hTs hK hKl
  obtain ⟨S, hS⟩ : ∃ S, w.heap.size = S := ⟨_, rfl⟩
  obtain ⟨W1, hW1⟩ : ∃ W1, W1 = w.alloc (.cells #[.int .u8 x.k, .int .i32 x.c, .bool x.nt, .slice AR x.rs.length cR, .slice AT x.ts.length cT, .int .i64 x.n, .int .i64 x.mn, .int .i64 x.mx, .slice AK x.ks.length cK] 31) := ⟨_, rfl⟩
  have H1 := Lib.hid (node_start w W1 S x _ _ _ hS hW1)
  have HBW : Hid (∀ w', Below W1.heap.size W1 w' → Below w.heap.size w w') := Lib.hid (fun w' hb => by
    have := (node_start w W1 S x _ _ _ hS hW1)
    rw [hS]
    exact this.2.2.trans (hb.mono (by rw [this.2.1]; omega)))
  have HX := Lib.hid hx
  have HP := Lib.hid hP
  have HSZ := Lib.hid hs
  have HND := Lib.hid hn
  have HGG := Lib.hid hg
  have HG1 : Hid (Gt W1) := Lib.hid (hG.next H1.out.2.2 (by rw [← hS]; exact hG.lt))
  have p0 : W1.cell? ⟨S, 0, none⟩ = some (.int .u8 x.k) := H1.out.1.cell (i := 0) rfl
  have p1 : W1.cell? ⟨S, 1, none⟩ = some (.int .i32 x.c) := H1.out.1.cell (i := 1) rfl
  have p2 : W1.cell? ⟨S, 2, none⟩ = some (.bool x.nt) := H1.out.1.cell (i := 2) rfl
  have p3 : W1.cell? ⟨S, 3, none⟩ = some (.slice AR x.rs.length cR) := H1.out.1.cell (i := 3) rfl
  have p4 : W1.cell? ⟨S, 4, none⟩ = some (.slice AT x.ts.length cT) := H1.out.1.cell (i := 4) rfl
  have p5 : W1.cell? ⟨S, 5, none⟩ = some (.int .i64 x.n) := H1.out.1.cell (i := 5) rfl
  have p6 : W1.cell? ⟨S, 6, none⟩ = some (.int .i64 x.mn) := H1.out.1.cell (i := 6) rfl
  have p7 : W1.cell? ⟨S, 7, none⟩ = some (.int .i64 x.mx) := H1.out.1.cell (i := 7) rfl
  have SLT : Hid (∀ b, P b → b < S) := Lib.hid (by rw [← hS]; exact hP)
  have hkin := kind_in hn
  clear hx hP hs hn hG hg
  go_enter Tryd.func51, Tryd.ntmps51
  go_upto_region 1 with fail
  rw [← hW1]
  clear hW1 hS
  rcases hkin with hk | hk | hk | hk | hk | hk | hk | hk | hk | hk | hk
  · have HK := Lib.hid hk
    have e1 : (x.k == 1) = true := by rw [hk]; rfl
    clear hk
    have hc := textOf_any x.c W1 HG1.out
    obtain ⟨sa, hsa⟩ : ∃ sa, str (textL [x.c]) = sa := ⟨_, rfl⟩
    have z1 : ¬ 9223372036854775807 < 1 + sa.size := by rw [← hsa, size_str]; have := textL_le [x.c]; rw [List.length_singleton] at this; omega
    rw [hsa] at hc
    have HSA : Hid ((⟨#[39]⟩ : ByteArray) ++ sa = str (39 :: textL [x.c])) := Lib.hid (by rw [← hsa]; exact str_appT [39] _)
    clear hsa
    go_wp2_with fail
    refine hc.mono ?_
    rintro e w2 ⟨rfl, hb2⟩
    have HB2 := Lib.hid hb2
    clear hb2 hc
    go_wp2
    refine bodyPost_ret (v := .tuple #[.string (str (befT x)), .string (str (betT x)), .string (str (behT x))]) (by rw [(sg1 HK.out).1, (sg1 HK.out).2.1, (sg1 HK.out).2.2]; simp [results, Tryd.results51, go_sem, HSA.out] <;> first | rfl | exact ⟨rfl, rfl⟩ | exact ⟨rfl, rfl, rfl⟩) rfl ⟨rfl, HBW.out _ HB2.out⟩
  · have HK := Lib.hid hk
    have e1 : (x.k == 1) = false := by rw [hk]; rfl
    have e2 : (x.k == 2) = true := by rw [hk]; rfl
    clear hk
    go_wp2
    refine bodyPost_ret (v := .tuple #[.string (str (befT x)), .string (str (betT x)), .string (str (behT x))]) (by rw [(sg2 HK.out).1, (sg2 HK.out).2.1, (sg2 HK.out).2.2]; simp [results, Tryd.results51, go_sem] <;> first | rfl | exact ⟨rfl, rfl⟩ | exact ⟨rfl, rfl, rfl⟩) rfl ⟨rfl, HBW.out _ (Below.refl _ _)⟩
  · have HK := Lib.hid hk
    have e1 : (x.k == 1) = false := by rw [hk]; rfl
    have e2 : (x.k == 2) = false := by rw [hk]; rfl
    have e3 : (x.k == 3) = true := by rw [hk]; rfl
    clear hk
    have hcells := below_cells (P := P) H1.out.2.2 SLT.out
    have hc := textOfSet_any W1 P x _ _ (HX.out.1.keep hcells) (HX.out.2.1.keep hcells) (fun b hp => Nat.lt_of_lt_of_le (HP.out b hp) H1.out.2.2.size) (nodeB_3 HND.out HK.out) HSZ.out HG1.out
    clear hcells
    go_wp2_with fail
    refine hc.mono ?_
    rintro e w2 ⟨rfl, hb2⟩
    have HB2 := Lib.hid hb2
    clear hb2 hc
    go_wp2
    refine bodyPost_ret (v := .tuple #[.string (str (befT x)), .string (str (betT x)), .string (str (behT x))]) (by rw [(sg3 HK.out).1, (sg3 HK.out).2.1, (sg3 HK.out).2.2]; simp [results, Tryd.results51, go_sem] <;> first | rfl | exact ⟨rfl, rfl⟩ | exact ⟨rfl, rfl, rfl⟩) rfl ⟨rfl, HBW.out _ HB2.out⟩
  · have HK := Lib.hid hk
    have e1 : (x.k == 1) = false := by rw [hk]; rfl
    have e2 : (x.k == 2) = false := by rw [hk]; rfl
    have e3 : (x.k == 3) = false := by rw [hk]; rfl
    have e4 : (x.k == 4) = true := by rw [hk]; rfl
    clear hk
    go_wp2
    refine bodyPost_ret (v := .tuple #[.string (str (befT x)), .string (str (betT x)), .string (str (behT x))]) (by rw [(sg4 HK.out).1, (sg4 HK.out).2.1, (sg4 HK.out).2.2]; simp [results, Tryd.results51, go_sem] <;> first | rfl | exact ⟨rfl, rfl⟩ | exact ⟨rfl, rfl, rfl⟩) rfl ⟨rfl, HBW.out _ (Below.refl _ _)⟩
  · have HK := Lib.hid hk
    have e1 : (x.k == 1) = false := by rw [hk]; rfl
    have e2 : (x.k == 2) = false := by rw [hk]; rfl
    have e3 : (x.k == 3) = false := by rw [hk]; rfl
    have e4 : (x.k == 4) = false := by rw [hk]; rfl
    have e5 : (x.k == 5) = true := by rw [hk]; rfl
    clear hk
    go_wp2
    refine bodyPost_ret (v := .tuple #[.string (str (befT x)), .string (str (betT x)), .string (str (behT x))]) (by rw [(sg5 HK.out).1, (sg5 HK.out).2.1, (sg5 HK.out).2.2]; simp [results, Tryd.results51, go_sem] <;> first | rfl | exact ⟨rfl, rfl⟩ | exact ⟨rfl, rfl, rfl⟩) rfl ⟨rfl, HBW.out _ (Below.refl _ _)⟩
  · have HK := Lib.hid hk
    have e1 : (x.k == 1) = false := by rw [hk]; rfl
    have e2 : (x.k == 2) = false := by rw [hk]; rfl
    have e3 : (x.k == 3) = false := by rw [hk]; rfl
    have e4 : (x.k == 4) = false := by rw [hk]; rfl
    have e5 : (x.k == 5) = false := by rw [hk]; rfl
    have e6 : (x.k == 6) = true := by rw [hk]; rfl
    clear hk
    have hr := nodeB_6 HND.out HK.out
    have hgg := HGG.out
    have hc := itoa_any x.n (by omega) (by omega) W1 HG1.out
    have hlen := itoa_len x.n (by omega) (by omega)
    obtain ⟨sa, hsa⟩ : ∃ sa, str (Lib.itoa x.n) = sa := ⟨_, rfl⟩
    have z1 : ¬ 9223372036854775807 < 1 + sa.size := by rw [← hsa, size_str]; omega
    have z2 : ¬ 9223372036854775807 < 1 + sa.size + 1 := by rw [← hsa, size_str]; omega
    rw [hsa] at hc
    have HSA : Hid ((⟨#[35]⟩ : ByteArray) ++ sa = str (35 :: Lib.itoa x.n)) := Lib.hid (by rw [← hsa]; exact str_appT [35] _)
    clear hsa hr hgg hlen
    go_wp2_with fail
    refine hc.mono ?_
    rintro e w2 ⟨rfl, hb2⟩
    have HB2 := Lib.hid hb2
    clear hb2 hc
    go_wp2
    refine bodyPost_ret (v := .tuple #[.string (str (befT x)), .string (str (betT x)), .string (str (behT x))]) (by rw [(sg6 HK.out).1, (sg6 HK.out).2.1, (sg6 HK.out).2.2]; simp [results, Tryd.results51, go_sem, HSA.out] <;> first | rfl | exact ⟨rfl, rfl⟩ | exact ⟨rfl, rfl, rfl⟩) rfl ⟨rfl, HBW.out _ HB2.out⟩
  · have HK := Lib.hid hk
    have e1 : (x.k == 1) = false := by rw [hk]; rfl
    have e2 : (x.k == 2) = false := by rw [hk]; rfl
    have e3 : (x.k == 3) = false := by rw [hk]; rfl
    have e4 : (x.k == 4) = false := by rw [hk]; rfl
    have e5 : (x.k == 5) = false := by rw [hk]; rfl
    have e6 : (x.k == 6) = false := by rw [hk]; rfl
    have e7 : (x.k == 7) = true := by rw [hk]; rfl
    clear hk
    have hr := nodeB_7 HND.out HK.out
    have hgg := HGG.out
    have hc := itoa_any x.n (by omega) (by omega) W1 HG1.out
    have hlen := itoa_len x.n (by omega) (by omega)
    obtain ⟨sa, hsa⟩ : ∃ sa, str (Lib.itoa x.n) = sa := ⟨_, rfl⟩
    have z1 : ¬ 9223372036854775807 < 1 + sa.size := by rw [← hsa, size_str]; omega
    have z2 : ¬ 9223372036854775807 < 1 + sa.size + 1 := by rw [← hsa, size_str]; omega
    rw [hsa] at hc
    have HSA : Hid ((⟨#[40]⟩ : ByteArray) ++ sa ++ (⟨#[58]⟩ : ByteArray) = str (40 :: Lib.itoa x.n ++ [58])) := Lib.hid (by rw [← hsa]; show str [40] ++ _ ++ str [58] = _; rw [str_appT, str_appT]; rfl)
    clear hsa hr hgg hlen
    go_wp2_with fail
    refine hc.mono ?_
    rintro e w2 ⟨rfl, hb2⟩
    have HB2 := Lib.hid hb2
    clear hb2 hc
    go_wp2
    refine bodyPost_ret (v := .tuple #[.string (str (befT x)), .string (str (betT x)), .string (str (behT x))]) (by rw [(sg7 HK.out).1, (sg7 HK.out).2.1, (sg7 HK.out).2.2]; simp [results, Tryd.results51, go_sem, HSA.out] <;> first | rfl | exact ⟨rfl, rfl⟩ | exact ⟨rfl, rfl, rfl⟩) rfl ⟨rfl, HBW.out _ HB2.out⟩
  · have HK := Lib.hid hk
    have e1 : (x.k == 1) = false := by rw [hk]; rfl
    have e2 : (x.k == 2) = false := by rw [hk]; rfl
    have e3 : (x.k == 3) = false := by rw [hk]; rfl
    have e4 : (x.k == 4) = false := by rw [hk]; rfl
    have e5 : (x.k == 5) = false := by rw [hk]; rfl
    have e6 : (x.k == 6) = false := by rw [hk]; rfl
    have e7 : (x.k == 7) = false := by rw [hk]; rfl
    have e9 : (x.k == 9) = false := by rw [hk]; rfl
    have e10 : (x.k == 10) = false := by rw [hk]; rfl
    have e11 : (x.k == 11) = false := by rw [hk]; rfl
    clear hk
    go_wp2
    refine bodyPost_ret (v := .tuple #[.string (str (befT x)), .string (str (betT x)), .string (str (behT x))]) (by rw [(sg8 HK.out).1, (sg8 HK.out).2.1, (sg8 HK.out).2.2]; simp [results, Tryd.results51, go_sem] <;> first | rfl | exact ⟨rfl, rfl⟩ | exact ⟨rfl, rfl, rfl⟩) rfl ⟨rfl, HBW.out _ (Below.refl _ _)⟩
  · have HK := Lib.hid hk
    have e1 : (x.k == 1) = false := by rw [hk]; rfl
    have e2 : (x.k == 2) = false := by rw [hk]; rfl
    have e3 : (x.k == 3) = false := by rw [hk]; rfl
    have e4 : (x.k == 4) = false := by rw [hk]; rfl
    have e5 : (x.k == 5) = false := by rw [hk]; rfl
    have e6 : (x.k == 6) = false := by rw [hk]; rfl
    have e7 : (x.k == 7) = false := by rw [hk]; rfl
    have e9 : (x.k == 9) = true := by rw [hk]; rfl
    clear hk
    go_wp2
    refine bodyPost_ret (v := .tuple #[.string (str (befT x)), .string (str (betT x)), .string (str (behT x))]) (by rw [(sg9 HK.out).1, (sg9 HK.out).2.1, (sg9 HK.out).2.2]; simp [results, Tryd.results51, go_sem] <;> first | rfl | exact ⟨rfl, rfl⟩ | exact ⟨rfl, rfl, rfl⟩) rfl ⟨rfl, HBW.out _ (Below.refl _ _)⟩
  · have HK := Lib.hid hk
    have e1 : (x.k == 1) = false := by rw [hk]; rfl
    have e2 : (x.k == 2) = false := by rw [hk]; rfl
    have e3 : (x.k == 3) = false := by rw [hk]; rfl
    have e4 : (x.k == 4) = false := by rw [hk]; rfl
    have e5 : (x.k == 5) = false := by rw [hk]; rfl
    have e6 : (x.k == 6) = false := by rw [hk]; rfl
    have e7 : (x.k == 7) = false := by rw [hk]; rfl
    have e9 : (x.k == 9) = false := by rw [hk]; rfl
    have e10 : (x.k == 10) = true := by rw [hk]; rfl
    clear hk
    have hr := nodeB_10 HND.out HK.out
    have hlen := itoa_len x.mn (by omega) (by omega)
    have hlen2 := itoa_len x.mx (by omega) (by omega)
    have hc2 : ∀ w2, Gt w2 → _ := fun w2 hG2 => itoa_any x.mx (by omega) (by omega) w2 hG2
    obtain ⟨sa, hsa⟩ : ∃ sa, str (Lib.itoa x.mn) = sa := ⟨_, rfl⟩
    obtain ⟨sb, hsb⟩ : ∃ sb, str (Lib.itoa x.mx) = sb := ⟨_, rfl⟩
    have z1 : ¬ 9223372036854775807 < 1 + sa.size := by rw [← hsa, size_str]; omega
    have z2 : ¬ 9223372036854775807 < 1 + sa.size + 1 := by rw [← hsa, size_str]; omega
    have z3 : ¬ 9223372036854775807 < 1 + sa.size + 1 + sb.size := by rw [← hsa, ← hsb, size_str, size_str]; omega
    have HSA : Hid ((⟨#[42]⟩ : ByteArray) ++ sa ++ (⟨#[44]⟩ : ByteArray) ++ sb = str (42 :: Lib.itoa x.mn ++ 44 :: Lib.itoa x.mx)) := Lib.hid (by rw [← hsa, ← hsb]; show str [42] ++ _ ++ str [44] ++ _ = _; rw [str_appT, str_appT, str_appT]; simp)
    have HC2 : Hid (∀ w2, Gt w2 → Calls Tryd.prog 64 #[.int .i64 x.mx] w2 fun e w' => e = .returned (.string sb) ∧ Below w2.heap.size w2 w') := Lib.hid (by rw [← hsb]; exact hc2)
    have HC1 : Hid (∀ w2, Gt w2 → Calls Tryd.prog 64 #[.int .i64 x.mn] w2 fun e w' => e = .returned (.string sa) ∧ Below w2.heap.size w2 w') := Lib.hid (fun w2 hG2 => by rw [← hsa]; exact itoa_any x.mn (by omega) (by omega) w2 hG2)
    clear hsa hsb hr hlen hlen2 hc2
    go_upto_region 19 with fail
    refine wp_region_held (S := fun W' : World => W'.cell? ⟨S, 6, none⟩ = some (.int .i64 x.mn) ∧ W'.cell? ⟨S, 7, none⟩ = some (.int .i64 x.mx)) (by kernel_rfl) ?_
    change wpAnyH _ _ _ _ _ _ _ _ W1.drew
    have hS1 : (fun W' : World => W'.cell? ⟨S, 6, none⟩ = some (.int .i64 x.mn) ∧ W'.cell? ⟨S, 7, none⟩ = some (.int .i64 x.mx)) W1.drew := ⟨p6, p7⟩
    have hc1 := HC1.out W1.drew HG1.out
    refine wpHn 0 rfl ?_
    try simp only [Act.put, g1, g2, g3, g4, g6]
    refine wpHn 1 rfl ?_
    try simp only [Act.put, g1, g2, g3, g4, g5, g6]
    refine wpHn 5 rfl ?_
    try simp only [Act.put, g1, g2, g3, g4, g5, g6]
    refine wpHn 6 rfl ?_
    try simp only [Act.put, g1, g2, g3, g4, g5, g6]
    refine wpAnyH_one (i := 2) (by kernel_rfl) rfl (fun K hK => ?_)
    simp only [g4, g5, g6]
    go_simp
    go_at_call 64
    with_reducible refine hc1.mono ?_
    rintro e w4 ⟨rfl, hb4⟩
    have hb4' : Below W1.heap.size W1 w4 := ⟨hb4.os, hb4.tape, hb4.output, hb4.size, hb4.block⟩
    have HB4 := Lib.hid hb4'
    have hS4 : (fun W' : World => W'.cell? ⟨S, 6, none⟩ = some (.int .i64 x.mn) ∧ W'.cell? ⟨S, 7, none⟩ = some (.int .i64 x.mx)) w4 := ⟨below_cell hb4' p6, below_cell hb4' p7⟩
    refine hK.out _ _ hS4 (fun _ => ?_)
    clear hK hc1 hb4 hb4' hS1
    try simp only [Act.put, g1, g2, g3, g4, g5, g6]
    refine wpHn 3 rfl ?_
    try simp only [Act.put, g1, g2, g3, g4, g5, g6]
    refine wpHn 4 rfl ?_
    try simp only [Act.put, g1, g2, g3, g4, g5, g6]
    have hc2 := HC2.out w4 (HG1.out.next HB4.out HG1.out.lt)
    refine wpAnyH_one (i := 7) (by kernel_rfl) rfl (fun K hK => ?_)
    simp only [g4, g5, g6]
    go_simp
    go_at_call 64
    with_reducible refine hc2.mono ?_
    rintro e w5 ⟨rfl, hb5⟩
    have HB5 : Hid (Below W1.heap.size W1 w5) := Lib.hid (HB4.out.trans (hb5.mono HB4.out.size))
    have hS5 : (fun W' : World => W'.cell? ⟨S, 6, none⟩ = some (.int .i64 x.mn) ∧ W'.cell? ⟨S, 7, none⟩ = some (.int .i64 x.mx)) w5 := ⟨below_cell hb5 hS4.1, below_cell hb5 hS4.2⟩
    refine hK.out _ _ hS5 (fun _ => ?_)
    clear hK hc2 hb5 hS4
    try simp only [Act.put, g1, g2, g3, g4, g5, g6]
    refine wpHn 8 rfl ?_
    try simp only [Act.put, g1, g2, g3, g4, g5, g6]
    refine wpAnyH_one (i := 9) (by kernel_rfl) rfl (fun K hK => ?_)
    simp only [g4, g5, g6]
    go_simp
    refine hK.out _ _ hS5 (fun _ => ?_)
    try simp only [Act.put, g1, g2, g3, g4, g5, g6]
    refine wpAnyH_done (by kernel_rfl) ?_ _
    clear hK hS5
    go_wp2
    refine bodyPost_ret (v := .tuple #[.string (str (befT x)), .string (str (betT x)), .string (str (behT x))]) (by rw [(sg10 HK.out).1, (sg10 HK.out).2.1, (sg10 HK.out).2.2]; simp [results, Tryd.results51, go_sem, HSA.out] <;> first | rfl | exact ⟨rfl, rfl⟩ | exact ⟨rfl, rfl, rfl⟩) rfl ⟨rfl, HBW.out _ HB5.out⟩
  · have HK := Lib.hid hk
    have e1 : (x.k == 1) = false := by rw [hk]; rfl
    have e2 : (x.k == 2) = false := by rw [hk]; rfl
    have e3 : (x.k == 3) = false := by rw [hk]; rfl
    have e4 : (x.k == 4) = false := by rw [hk]; rfl
    have e5 : (x.k == 5) = false := by rw [hk]; rfl
    have e6 : (x.k == 6) = false := by rw [hk]; rfl
    have e7 : (x.k == 7) = false := by rw [hk]; rfl
    have e9 : (x.k == 9) = false := by rw [hk]; rfl
    have e10 : (x.k == 10) = false := by rw [hk]; rfl
    have e11 : (x.k == 11) = true := by rw [hk]; rfl
    clear hk
    go_wp2
    refine bodyPost_ret (v := .tuple #[.string (str (befT x)), .string (str (betT x)), .string (str (behT x))]) (by rw [(sg11 HK.out).1, (sg11 HK.out).2.1, (sg11 HK.out).2.2]; simp [results, Tryd.results51, go_sem] <;> first | rfl | exact ⟨rfl, rfl⟩ | exact ⟨rfl, rfl, rfl⟩) rfl ⟨rfl, HBW.out _ (Below.refl _ _)⟩
end Go.Proofs.YtcpjcepeiplfgaaDoor.C
