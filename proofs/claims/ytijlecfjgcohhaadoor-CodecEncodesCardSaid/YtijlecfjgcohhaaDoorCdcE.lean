/-
  Contracts of the closure that decodes, and of codec.Decode: a document of bytes, of each encoding, is what the plain function says, in new memory, or the error; nothing that was there changes. Condition: the decoder's two tables stand as they were laid.
-/
import Derived.Test.YtijlecfjgcohhaaDoorCdcD
namespace Go.Proofs.YtijlecfjgcohhaaDoor.C
open Go.RowKit

theorem bigB_one (zs : List Int) : bigB 1 zs = false := rfl
theorem bomB_one (zs : List Int) : bomB 1 zs = false := rfl
theorem bigB_three (zs : List Int) : bigB 3 zs = false := rfl
theorem bomB_three (zs : List Int) : bomB 3 zs = false := rfl
theorem cellsD_one (zs : List Int) : cellsD 1 zs = ofL (sb zs) := by simp [cellsD]
theorem cellsD_three (zs : List Int) : cellsD 3 zs = zs := by simp [cellsD]

set_option maxRecDepth 100000 in
set_option maxHeartbeats 1000000 in
theorem closD_one (w : World) (B : Nat) (A : Option Addr) (n c : Nat) (zs : List Int) (hx : RI .u8 w B A n zs) (hB : B ≤ w.heap.size) (hz : Bd zs) (hnc : n ≤ c) (hn : n ≤ 1073741824) (hc : c ≤ maxLen) (hT : Lib.Utf8Tabs 0 1 w)
    (p q : Nat) (hp : w.cell? ⟨p, 0, none⟩ = some (.int .u8 1)) (hq : w.cell? ⟨q, 0, none⟩ = some (.func (.func 29) #[] #[])) :
    Calls Tryd.prog 40 #[.slice A n c, .pointer (some ⟨p, 0, none⟩), .pointer (some ⟨q, 0, none⟩)] w (DocTold 1 zs w) := by
  have np := World.new_ne w _ hp
  have nq := World.new_ne w _ hq
  have lp := World.block_lt_of_cell? w _ hp
  have lq := World.block_lt_of_cell? w _ hq
  have hlen := hx.len
  obtain ⟨W, hW⟩ : ∃ W, W = (w.alloc (.cells #[.int .u8 0, .bool false, .bool false, .slice none 0 0] 26)).drew := ⟨_, rfl⟩
  have hbW : Below w.heap.size w W := by rw [hW]; exact ((Below.refl _ w).alloc (Nat.le_refl _) _).drew
  have hsW : W.heap.size = w.heap.size + 1 := by rw [hW]; simp
  have hdW : Doc4 W w.heap.size := by rw [hW]; exact (Doc4.new w _).keep rfl
  have hpW : W.cell? ⟨p, 0, none⟩ = some (.int .u8 1) := (hbW.cell (p := ⟨p, 0, none⟩) lp).trans hp
  have hqW : W.cell? ⟨q, 0, none⟩ = some (.func (.func 29) #[] #[]) := (hbW.cell (p := ⟨q, 0, none⟩) lq).trans hq
  have HX := Lib.hid (hx.on hbW hB)
  have HZ := Lib.hid hz
  have HT := Lib.hid (tabs_below hT hbW)
  clear hx hz hT
  go_enter Tryd.func40, Tryd.ntmps40
  go_wp2_with fail
  go_region_held3 (fun w' => w'.cell? ⟨p, 0, none⟩ = some (.int .u8 1) ∧ w'.cell? ⟨q, 0, none⟩ = some (.func (.func 29) #[] #[])) (go_keep)
    (first | (go_at_call 29; rw [← hW]; (with_reducible refine (decode_any W B A n c zs HX.out (by omega) HZ.out hnc (by omega) hc HT.out).mono ?_); rintro e w2 ⟨v2, rfl, hown2, hb2⟩; obtain ⟨A2, c2, rfl, h2c, h2m, _⟩ := own_slice2 hown2; obtain ⟨d0, d1, d2, d3, df⟩ := hdW.keep (w' := w2) (hb2.block _ (by omega)); have hp2 := (hb2.cell (p := ⟨p, 0, none⟩) (by show p < _; omega)).trans hpW; have hq2 := (hb2.cell (p := ⟨q, 0, none⟩) (by show q < _; omega)).trans hqW; have HO2 := Lib.hid hown2; have f0 := df 0; have f1 := df 1; have f2 := df 2; have f3 := df 3; clear hown2 df))
  go_wp2
  refine bodyPost_ret (v := .agg #[.int .u8 1, .bool false, .bool false, .slice A2 (ofL (sb zs)).length c2]) ?_ rfl ?_
  · simp [results, Tryd.results40, go_sem, *]
  · have hle := ofL_le (sb zs)
    rw [sb_size] at hle
    exact putDoc_told (base := W.heap.size) hle (by rw [cellsD_one]; exact HO2.out) (by omega) (Nat.le_refl _) (hbW.trans (hb2.mono (by omega))) false false (bigB_one zs) (bomB_one zs) _ _ _ _

set_option maxRecDepth 100000 in
set_option maxHeartbeats 1000000 in
theorem closD_three (w : World) (B : Nat) (A : Option Addr) (n c : Nat) (zs : List Int) (hx : RI .u8 w B A n zs) (hB : B ≤ w.heap.size) (hz : Bd zs) (_hnc : n ≤ c) (hn : n ≤ 1073741824) (_hc : c ≤ maxLen)
    (p q : Nat) (hp : w.cell? ⟨p, 0, none⟩ = some (.int .u8 3)) (hq : w.cell? ⟨q, 0, none⟩ = some (.func (.func 33) #[] #[])) :
    Calls Tryd.prog 40 #[.slice A n c, .pointer (some ⟨p, 0, none⟩), .pointer (some ⟨q, 0, none⟩)] w (DocTold 3 zs w) := by
  have np := World.new_ne w _ hp
  have nq := World.new_ne w _ hq
  have lp := World.block_lt_of_cell? w _ hp
  have lq := World.block_lt_of_cell? w _ hq
  have hlen := hx.len
  obtain ⟨W, hW⟩ : ∃ W, W = (w.alloc (.cells #[.int .u8 0, .bool false, .bool false, .slice none 0 0] 26)).drew := ⟨_, rfl⟩
  have hbW : Below w.heap.size w W := by rw [hW]; exact ((Below.refl _ w).alloc (Nat.le_refl _) _).drew
  have hsW : W.heap.size = w.heap.size + 1 := by rw [hW]; simp
  have hdW : Doc4 W w.heap.size := by rw [hW]; exact (Doc4.new w _).keep rfl
  have hpW : W.cell? ⟨p, 0, none⟩ = some (.int .u8 3) := (hbW.cell (p := ⟨p, 0, none⟩) lp).trans hp
  have hqW : W.cell? ⟨q, 0, none⟩ = some (.func (.func 33) #[] #[]) := (hbW.cell (p := ⟨q, 0, none⟩) lq).trans hq
  have HX := Lib.hid (hx.on hbW hB)
  have HZ := Lib.hid hz
  clear hx hz
  go_enter Tryd.func40, Tryd.ntmps40
  go_wp2_with fail
  go_region_held3 (fun w' => w'.cell? ⟨p, 0, none⟩ = some (.int .u8 3) ∧ w'.cell? ⟨q, 0, none⟩ = some (.func (.func 33) #[] #[])) (go_keep)
    (first | (go_at_call 33; rw [← hW]; (with_reducible refine (decodeLatin1_any W B A n c zs HX.out (by omega) HZ.out hn).mono ?_); rintro e w2 ⟨v2, rfl, hown2, hb2⟩; obtain ⟨A2, c2, rfl, h2c, h2m, _⟩ := own_slice2 hown2; obtain ⟨d0, d1, d2, d3, df⟩ := hdW.keep (w' := w2) (hb2.block _ (by omega)); have hp2 := (hb2.cell (p := ⟨p, 0, none⟩) (by show p < _; omega)).trans hpW; have hq2 := (hb2.cell (p := ⟨q, 0, none⟩) (by show q < _; omega)).trans hqW; have HO2 := Lib.hid hown2; have f0 := df 0; have f1 := df 1; have f2 := df 2; have f3 := df 3; clear hown2 df))
  go_wp2
  refine bodyPost_ret (v := .agg #[.int .u8 3, .bool false, .bool false, .slice A2 n c2]) ?_ rfl ?_
  · simp [results, Tryd.results40, go_sem, *]
  · exact putDoc_told (base := W.heap.size) (by omega) (by rw [cellsD_three]; exact HO2.out) (by omega) (Nat.le_refl _) (hbW.trans (hb2.mono (by omega))) false false (bigB_three zs) (bomB_three zs) _ _ _ _

theorem run_store_nilFunc {P : Program} (w : World) (a : Addr) (hc : (w.cell? a).isSome = true) (hf : w.frozen? a = false) : (store a .nilFunc).run P w = .ok () (w.setCell a .nilFunc) := by
  obtain ⟨u, hu⟩ := Option.isSome_iff_exists.1 hc
  rw [run_store P w a _ _ rfl, hu]
  simp [hf]
/-- what Decode answers -/
def DecTold (k : Int) (zs : List Int) (w : World) (e : Ending) (w' : World) : Prop :=
  ∃ A' m c', e = .returned (.tuple #[.agg #[.int .u8 k, .bool (bigB k zs), .bool (bomB k zs), .slice A' m c'], .int .u16 0]) ∧ m ≤ zs.length ∧ m ≤ c' ∧ c' ≤ maxLen ∧ RI .i32 w' w'.heap.size A' m (cellsD k zs) ∧ Below w.heap.size w w'
theorem putDoc_dec {k : Int} {zs : List Int} {w w2 : World} {base b : Nat} {A : Option Addr} {m c : Nat} (hm : m ≤ zs.length) (hown : w2.ownsRow base 35 1 (.slice A m c) m ((cellsD k zs).map (Value.int .i32))) (hb : b < base) (hB : w.heap.size ≤ b) (hbe : Below w.heap.size w w2) (v0 v1 v2 v3 : Value) :
    DecTold k zs w (.returned (.tuple #[.agg #[.int .u8 k, .bool (bigB k zs), .bool (bomB k zs), .slice A m c], .int .u16 0])) (putDoc w2 b v0 v1 v2 v3) := by
  obtain ⟨A', c', hv, h1, h2, h3⟩ := own_slice2 (putDoc_own hown hb v0 v1 v2 v3)
  injection hv with e1 _ e2
  subst e1 e2
  exact ⟨A, m, c, rfl, hm, h1, h2, h3, putDoc_below hbe hB _ _ _ _⟩
abbrev TMap : TypeId := 54
theorem lookYes (w : World) (b : Nat) (es : Array MapEntry) (clock : Nat) (k : Int) (v : Value) (i : Nat) (hb : w.heap[b]? = some (.map es clock)) (hf : Instr.findNow (.int .u8) (.int .u8 k) es.toList 0 = some (some (i, v))) :
    (Instr.lookup 54 (.map (some b)) (.int .u8 k) true).run Tryd.prog w = .ok (.tuple #[v, .bool true]) w :=
  run_look_yes (P := Tryd.prog) 54 5 52 (.int .u8) Tryd.underlying54 Tryd.underlying5 w b es clock (.int .u8 k) v i hb rfl hf true
theorem lookNo (w : World) (b : Nat) (es : Array MapEntry) (clock : Nat) (k : Int) (hb : w.heap[b]? = some (.map es clock)) (hf : Instr.findNow (.int .u8) (.int .u8 k) es.toList 0 = some none) :
    (Instr.lookup 54 (.map (some b)) (.int .u8 k) true).run Tryd.prog w = .ok (.tuple #[.agg #[.nilFunc, .nilFunc], .bool false]) w :=
  run_look_no (P := Tryd.prog) 54 5 52 (.int .u8) Tryd.underlying54 Tryd.underlying5 w b es clock (.int .u8 k) _ (zeroEnc w) hb rfl hf true

set_option maxRecDepth 100000 in
set_option maxHeartbeats 1000000 in
theorem decodeC_one (w : World) (B : Nat) (A : Option Addr) (n c : Nat) (zs : List Int) (hx : RI .u8 w B A n zs) (hB : B ≤ w.heap.size) (hz : Bd zs) (hnc : n ≤ c) (hn : n ≤ 1073741824) (hc : c ≤ maxLen) (hT : Lib.Utf8Tabs 0 1 w) :
    Calls Tryd.prog 10 #[.int .u8 1, .slice A n c] w (DecTold 1 zs w) := by
  have hst := @run_store_func Tryd.prog
  have HX := Lib.hid hx
  have HZ := Lib.hid hz
  have HT := Lib.hid hT
  clear hx hz hT
  obtain ⟨W, hW⟩ : ∃ W, W = w.alloc (.cells #[.int .u8 0, .bool false, .bool false, .slice none 0 0] 26) := ⟨_, rfl⟩
  have hbW : Below w.heap.size w W := by rw [hW]; exact (Below.refl _ w).alloc (Nat.le_refl _) _
  have hsW : W.heap.size = w.heap.size + 1 := by rw [hW]; simp
  have hdW : Doc4 W w.heap.size := by rw [hW]; exact Doc4.new w _
  go_enter Tryd.func10, Tryd.ntmps10
  go_wp2_with fail
  rw [← hW]
  clear hW
  with_reducible refine (encodings_any W).mono ?_
  rintro e w1 ⟨b, v1, v2, v3, v4, rfl, hm, hd1, he2, hd3, he4, hb1⟩
  have hs1 := hb1.size
  have hlk := lookYes w1 b _ 3 1 (.agg #[v1, v2]) 0 hm rfl
  obtain ⟨p, q, rfl, p0, p1, q0, q1, hp, hq⟩ := hd1
  obtain ⟨p2, rfl, _, _, _⟩ := he2
  have HD := Lib.hid (hdW.keep (w' := w1) (hb1.block _ (by omega)))
  clear hm hd3 he4 hdW
  go_wp2_with fail
  obtain ⟨V, hV⟩ : ∃ V, V = w1.alloc (.cells #[.func (.func 40) #[] #[.pointer (some ⟨p, 0, none⟩), .pointer (some ⟨q, 0, none⟩)], .func (.func 41) #[] #[.pointer (some ⟨p2, 0, none⟩)]] 52) := ⟨_, rfl⟩
  have hbV : Below w1.heap.size w1 V := by rw [hV]; exact (Below.refl _ w1).alloc (Nat.le_refl _) _
  have hsV : V.heap.size = w1.heap.size + 1 := by rw [hV]; simp
  have hbA : Below w.heap.size w V := (hbW.trans (hb1.mono (by omega))).trans (hbV.mono (by omega))
  rw [← hV]
  clear hV
  with_reducible refine (closD_one V B A n c zs (HX.out.on hbA hB) (by omega) HZ.out hnc hn hc (tabs_below HT.out hbA) p q ((hbV.cell (p := ⟨p, 0, none⟩) p1).trans hp) ((hbV.cell (p := ⟨q, 0, none⟩) q1).trans hq)).mono ?_
  rintro e w3 ⟨A3, m3, c3, rfl, hm3, hown3, hb3⟩
  obtain ⟨d0, d1, d2, d3, df⟩ := (HD.out.keep (w' := V) (hbV.block _ (by omega))).keep (w' := w3) (hb3.block _ (by omega))
  have HO3 := Lib.hid hown3
  have f0 := df 0
  have f1 := df 1
  have f2 := df 2
  have f3 := df 3
  clear hown3 df
  go_wp2
  refine bodyPost_ret (v := .tuple #[.agg #[.int .u8 1, .bool (bigB 1 zs), .bool (bomB 1 zs), .slice A3 m3 c3], .int .u16 0]) ?_ rfl ?_
  · simp [results, Tryd.results10, go_sem, *]
  · exact putDoc_dec hm3 HO3.out (by omega) (Nat.le_refl _) (hbA.trans (hb3.mono (by omega))) _ _ _ _

set_option maxRecDepth 100000 in
set_option maxHeartbeats 1000000 in
theorem decodeC_two (w : World) (B : Nat) (A : Option Addr) (n c : Nat) (zs : List Int) (hx : RI .u8 w B A n zs) (hB : B ≤ w.heap.size) (hz : Bd zs) (hnc : n ≤ c) (hn : n ≤ 1073741824) (hc : c ≤ maxLen) :
    Calls Tryd.prog 10 #[.int .u8 2, .slice A n c] w (DecTold 2 zs w) := by
  have hst := @run_store_func Tryd.prog
  have HX := Lib.hid hx
  have HZ := Lib.hid hz
  clear hx hz
  obtain ⟨W, hW⟩ : ∃ W, W = w.alloc (.cells #[.int .u8 0, .bool false, .bool false, .slice none 0 0] 26) := ⟨_, rfl⟩
  have hbW : Below w.heap.size w W := by rw [hW]; exact (Below.refl _ w).alloc (Nat.le_refl _) _
  have hsW : W.heap.size = w.heap.size + 1 := by rw [hW]; simp
  have hdW : Doc4 W w.heap.size := by rw [hW]; exact Doc4.new w _
  go_enter Tryd.func10, Tryd.ntmps10
  go_wp2_with fail
  rw [← hW]
  clear hW
  with_reducible refine (encodings_any W).mono ?_
  rintro e w1 ⟨b, v1, v2, v3, v4, rfl, hm, hd1, he2, hd3, he4, hb1⟩
  have hs1 := hb1.size
  have hlk := lookYes w1 b _ 3 2 (.agg #[.func (.func 31) #[] #[], .func (.func 32) #[] #[]]) 1 hm rfl
  have HD := Lib.hid (hdW.keep (w' := w1) (hb1.block _ (by omega)))
  clear hm hd1 he2 hd3 he4 hdW
  go_wp2_with fail
  obtain ⟨V, hV⟩ : ∃ V, V = w1.alloc (.cells #[.func (.func 31) #[] #[], .func (.func 32) #[] #[]] 52) := ⟨_, rfl⟩
  have hbV : Below w1.heap.size w1 V := by rw [hV]; exact (Below.refl _ w1).alloc (Nat.le_refl _) _
  have hsV : V.heap.size = w1.heap.size + 1 := by rw [hV]; simp
  have hbA : Below w.heap.size w V := (hbW.trans (hb1.mono (by omega))).trans (hbV.mono (by omega))
  rw [← hV]
  clear hV
  with_reducible refine (decodeMarked_any V B A n c zs (HX.out.on hbA hB) (by omega) HZ.out hnc hn hc).mono ?_
  rintro e w3 ⟨A3, m3, c3, rfl, hm3, hown3, hb3⟩
  obtain ⟨d0, d1, d2, d3, df⟩ := (HD.out.keep (w' := V) (hbV.block _ (by omega))).keep (w' := w3) (hb3.block _ (by omega))
  have HO3 := Lib.hid hown3
  have f0 := df 0
  have f1 := df 1
  have f2 := df 2
  have f3 := df 3
  clear hown3 df
  go_wp2
  refine bodyPost_ret (v := .tuple #[.agg #[.int .u8 2, .bool (bigB 2 zs), .bool (bomB 2 zs), .slice A3 m3 c3], .int .u16 0]) ?_ rfl ?_
  · simp [results, Tryd.results10, go_sem, *]
  · exact putDoc_dec hm3 HO3.out (by omega) (Nat.le_refl _) (hbA.trans (hb3.mono (by omega))) _ _ _ _

set_option maxRecDepth 100000 in
set_option maxHeartbeats 1000000 in
theorem decodeC_three (w : World) (B : Nat) (A : Option Addr) (n c : Nat) (zs : List Int) (hx : RI .u8 w B A n zs) (hB : B ≤ w.heap.size) (hz : Bd zs) (hnc : n ≤ c) (hn : n ≤ 1073741824) (hc : c ≤ maxLen) :
    Calls Tryd.prog 10 #[.int .u8 3, .slice A n c] w (DecTold 3 zs w) := by
  have hst := @run_store_func Tryd.prog
  have HX := Lib.hid hx
  have HZ := Lib.hid hz
  clear hx hz
  obtain ⟨W, hW⟩ : ∃ W, W = w.alloc (.cells #[.int .u8 0, .bool false, .bool false, .slice none 0 0] 26) := ⟨_, rfl⟩
  have hbW : Below w.heap.size w W := by rw [hW]; exact (Below.refl _ w).alloc (Nat.le_refl _) _
  have hsW : W.heap.size = w.heap.size + 1 := by rw [hW]; simp
  have hdW : Doc4 W w.heap.size := by rw [hW]; exact Doc4.new w _
  go_enter Tryd.func10, Tryd.ntmps10
  go_wp2_with fail
  rw [← hW]
  clear hW
  with_reducible refine (encodings_any W).mono ?_
  rintro e w1 ⟨b, v1, v2, v3, v4, rfl, hm, hd3, he4, hd1, he2, hb1⟩
  have hs1 := hb1.size
  have hlk := lookYes w1 b _ 3 3 (.agg #[v3, v4]) 2 hm rfl
  obtain ⟨p, q, rfl, p0, p1, q0, q1, hp, hq⟩ := hd1
  obtain ⟨p2, rfl, _, _, _⟩ := he2
  have HD := Lib.hid (hdW.keep (w' := w1) (hb1.block _ (by omega)))
  clear hm hd3 he4 hdW
  go_wp2_with fail
  obtain ⟨V, hV⟩ : ∃ V, V = w1.alloc (.cells #[.func (.func 40) #[] #[.pointer (some ⟨p, 0, none⟩), .pointer (some ⟨q, 0, none⟩)], .func (.func 41) #[] #[.pointer (some ⟨p2, 0, none⟩)]] 52) := ⟨_, rfl⟩
  have hbV : Below w1.heap.size w1 V := by rw [hV]; exact (Below.refl _ w1).alloc (Nat.le_refl _) _
  have hsV : V.heap.size = w1.heap.size + 1 := by rw [hV]; simp
  have hbA : Below w.heap.size w V := (hbW.trans (hb1.mono (by omega))).trans (hbV.mono (by omega))
  rw [← hV]
  clear hV
  with_reducible refine (closD_three V B A n c zs (HX.out.on hbA hB) (by omega) HZ.out hnc hn hc p q ((hbV.cell (p := ⟨p, 0, none⟩) p1).trans hp) ((hbV.cell (p := ⟨q, 0, none⟩) q1).trans hq)).mono ?_
  rintro e w3 ⟨A3, m3, c3, rfl, hm3, hown3, hb3⟩
  obtain ⟨d0, d1, d2, d3, df⟩ := (HD.out.keep (w' := V) (hbV.block _ (by omega))).keep (w' := w3) (hb3.block _ (by omega))
  have HO3 := Lib.hid hown3
  have f0 := df 0
  have f1 := df 1
  have f2 := df 2
  have f3 := df 3
  clear hown3 df
  go_wp2
  refine bodyPost_ret (v := .tuple #[.agg #[.int .u8 3, .bool (bigB 3 zs), .bool (bomB 3 zs), .slice A3 m3 c3], .int .u16 0]) ?_ rfl ?_
  · simp [results, Tryd.results10, go_sem, *]
  · exact putDoc_dec hm3 HO3.out (by omega) (Nat.le_refl _) (hbA.trans (hb3.mono (by omega))) _ _ _ _

theorem decodeC_any (k : Int) (hk : k = 1 ∨ k = 2 ∨ k = 3) (w : World) (B : Nat) (A : Option Addr) (n c : Nat) (zs : List Int) (hx : RI .u8 w B A n zs) (hB : B ≤ w.heap.size) (hz : Bd zs) (hnc : n ≤ c) (hn : n ≤ 1073741824) (hc : c ≤ maxLen) (hT : Lib.Utf8Tabs 0 1 w) :
    Calls Tryd.prog 10 #[.int .u8 k, .slice A n c] w (DecTold k zs w) := by
  rcases hk with rfl | rfl | rfl
  · exact decodeC_one w B A n c zs hx hB hz hnc hn hc hT
  · exact decodeC_two w B A n c zs hx hB hz hnc hn hc
  · exact decodeC_three w B A n c zs hx hB hz hnc hn hc
end Go.Proofs.YtijlecfjgcohhaaDoor.C
