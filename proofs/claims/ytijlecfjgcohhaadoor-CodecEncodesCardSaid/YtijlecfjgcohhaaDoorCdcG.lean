/-
  Contract of codec.Encode: the bytes of a document, of whatever encoding, are what the plain function says, in new memory, or the error; nothing that was there changes. No condition.
-/
import Derived.Test.YtijlecfjgcohhaaDoorCdcE
import Derived.Test.YtijlecfjgcohhaaDoorCdcF
namespace Go.Proofs.YtijlecfjgcohhaaDoor.C
open Go.RowKit

theorem closE1_any (w : World) (B : Nat) (A : Option Addr) (n c : Nat) (xs : List Int) (big bom : Bool) (hx : RI .i32 w B A n xs) (hB : B ≤ w.heap.size) (hn : n ≤ 1073741824)
    (p : Nat) (hp : w.cell? ⟨p, 0, none⟩ = some (.func (.func 30) #[] #[])) :
    Calls Tryd.prog 41 #[.agg #[.int .u8 1, .bool big, .bool bom, .slice A n c], .pointer (some ⟨p, 0, none⟩)] w (EncD 1 big bom xs w) := by
  cases big with
  | true => exact closE_set 1 (by decide) w true bom _ _ xs rfl
  | false =>
    cases bom with
    | true => exact closE_set 1 (by decide) w false true _ _ xs rfl
    | false => exact closE_one w B A n c xs hx hB hn p hp
theorem closE3_any (w : World) (B : Nat) (A : Option Addr) (n c : Nat) (xs : List Int) (big bom : Bool) (hx : RI .i32 w B A n xs) (hB : B ≤ w.heap.size) (hn : n ≤ 1073741824)
    (p : Nat) (hp : w.cell? ⟨p, 0, none⟩ = some (.func (.func 34) #[] #[])) :
    Calls Tryd.prog 41 #[.agg #[.int .u8 3, .bool big, .bool bom, .slice A n c], .pointer (some ⟨p, 0, none⟩)] w (EncD 3 big bom xs w) := by
  cases big with
  | true => exact closE_set 3 (by decide) w true bom _ _ xs rfl
  | false =>
    cases bom with
    | true => exact closE_set 3 (by decide) w false true _ _ xs rfl
    | false => exact closE_three w B A n c xs hx hB hn p hp

set_option maxRecDepth 100000 in
set_option maxHeartbeats 4000000 in
theorem encodeC_two (w : World) (B : Nat) (A : Option Addr) (n c : Nat) (xs : List Int) (big bom : Bool) (hx : RI .i32 w B A n xs) (hB : B ≤ w.heap.size) (hn : n ≤ 1073741824) :
    Calls Tryd.prog 11 #[.agg #[.int .u8 2, .bool big, .bool bom, .slice A n c]] w (EncD 2 big bom xs w) := by
  have hst := @run_store_func Tryd.prog
  obtain ⟨W, hW⟩ : ∃ W, W = w.alloc (.cells #[.int .u8 2, .bool big, .bool bom, .slice A n c] 26) := ⟨_, rfl⟩
  have hbW : Below w.heap.size w W := by rw [hW]; exact (Below.refl _ w).alloc (Nat.le_refl _) _
  have hsW : W.heap.size = w.heap.size + 1 := by rw [hW]; simp
  have hc0 : W.cell? ⟨w.heap.size, 0, none⟩ = some (.int .u8 2) := by rw [hW, World.cell?_alloc_new]; rfl
  have hc1 : W.cell? ⟨w.heap.size, 1, none⟩ = some (.bool big) := by rw [hW, World.cell?_alloc_new]; rfl
  have hc2 : W.cell? ⟨w.heap.size, 2, none⟩ = some (.bool bom) := by rw [hW, World.cell?_alloc_new]; rfl
  have hc3 : W.cell? ⟨w.heap.size, 3, none⟩ = some (.slice A n c) := by rw [hW, World.cell?_alloc_new]; rfl
  have HX := Lib.hid hx
  clear hx
  go_enter Tryd.func11, Tryd.ntmps11
  go_wp2_with fail
  rw [← hW]
  clear hW
  have hzb : w.heap.size + 1 ≤ W.drew.heap.size := by show _ ≤ W.heap.size; omega
  have hza : w.heap.size + 2 ≤ ((W.alloc (.cells #[.nilFunc, .nilFunc] 52)).drew).heap.size := by show _ ≤ (W.alloc _).heap.size; simp; omega
  have hbB : Below w.heap.size w W.drew := hbW.drew
  have hbA : Below w.heap.size w ((W.alloc (.cells #[.nilFunc, .nilFunc] 52)).drew) := (hbW.alloc (by omega) _).drew
  have hn0 : ((W.alloc (.cells #[.nilFunc, .nilFunc] 52)).drew).cell? ⟨w.heap.size + 1, 0, none⟩ = some .nilFunc := by rw [← hsW]; exact World.cell?_alloc_new W _ _ _
  have hn1 : ((W.alloc (.cells #[.nilFunc, .nilFunc] 52)).drew).cell? ⟨w.heap.size + 1, 1, none⟩ = some .nilFunc := by rw [← hsW]; exact World.cell?_alloc_new W _ _ _
  have hn2 : ((W.alloc (.cells #[.nilFunc, .nilFunc] 52)).drew).frozen? ⟨w.heap.size + 1, 0, none⟩ = false := by rw [← hsW]; exact World.frozen?_alloc_at (w := W) _ _ _ _ rfl
  have hn3 : ((W.alloc (.cells #[.nilFunc, .nilFunc] 52)).drew).frozen? ⟨w.heap.size + 1, 1, none⟩ = false := by rw [← hsW]; exact World.frozen?_alloc_at (w := W) _ _ _ _ rfl
  go_region_held3 (fun w' => w'.cell? ⟨w.heap.size, 0, none⟩ = some (.int .u8 2)) (go_keep)
    (first
     | (go_at_call 22; (with_reducible refine (encodings_any W.drew).mono ?_); rintro e w1 ⟨b, v1, v2, v3, v4, rfl, hm, hd1, he2, hd3, he4, hb1⟩; have hs1 := hb1.size; have hk0 := (hb1.cell (p := ⟨w.heap.size, 0, none⟩) (by show w.heap.size < _; omega)).trans hc0; have hk1 := (hb1.cell (p := ⟨w.heap.size, 1, none⟩) (by show w.heap.size < _; omega)).trans hc1; have hk2 := (hb1.cell (p := ⟨w.heap.size, 2, none⟩) (by show w.heap.size < _; omega)).trans hc2; have hk3 := (hb1.cell (p := ⟨w.heap.size, 3, none⟩) (by show w.heap.size < _; omega)).trans hc3; have hbl : b < w1.heap.size := (Array.getElem?_eq_some_iff.1 hm).1; have hlk := (fun (x : World) (h : x.heap[b]? = _) => lookYes x b _ 3 2 (.agg #[.func (.func 31) #[] #[], .func (.func 32) #[] #[]]) 1 h rfl) w1 hm; have hlk' := fun o => (fun (x : World) (h : x.heap[b]? = _) => lookYes x b _ 3 2 (.agg #[.func (.func 31) #[] #[], .func (.func 32) #[] #[]]) 1 h rfl) (w1.alloc o) ((Below.heap_alloc w1 o b hbl).trans hm); have hbF : Below w.heap.size w w1 := hbB.trans (hb1.mono (by omega)); have hz := Nat.le_trans hzb hb1.size; have hz' : w.heap.size < w1.heap.size := (by omega); clear hm hs1)
     | (go_at_call 22; (with_reducible refine (encodings_any (W.alloc (.cells #[.nilFunc, .nilFunc] 52)).drew).mono ?_); rintro e w1 ⟨b, v1, v2, v3, v4, rfl, hm, hd1, he2, hd3, he4, hb1⟩; have hs1 := hb1.size; have hk0 := (hb1.cell (p := ⟨w.heap.size, 0, none⟩) (by show w.heap.size < _; omega)).trans ((World.cell?_alloc_lt W _ _ (by show w.heap.size < W.heap.size; omega)).trans hc0); have hk1 := (hb1.cell (p := ⟨w.heap.size, 1, none⟩) (by show w.heap.size < _; omega)).trans ((World.cell?_alloc_lt W _ _ (by show w.heap.size < W.heap.size; omega)).trans hc1); have hk2 := (hb1.cell (p := ⟨w.heap.size, 2, none⟩) (by show w.heap.size < _; omega)).trans ((World.cell?_alloc_lt W _ _ (by show w.heap.size < W.heap.size; omega)).trans hc2); have hk3 := (hb1.cell (p := ⟨w.heap.size, 3, none⟩) (by show w.heap.size < _; omega)).trans ((World.cell?_alloc_lt W _ _ (by show w.heap.size < W.heap.size; omega)).trans hc3); have hbl : b < w1.heap.size := (Array.getElem?_eq_some_iff.1 hm).1; have hlk := (fun (x : World) (h : x.heap[b]? = _) => lookYes x b _ 3 2 (.agg #[.func (.func 31) #[] #[], .func (.func 32) #[] #[]]) 1 h rfl) w1 hm; have hlk' := fun o => (fun (x : World) (h : x.heap[b]? = _) => lookYes x b _ 3 2 (.agg #[.func (.func 31) #[] #[], .func (.func 32) #[] #[]]) 1 h rfl) (w1.alloc o) ((Below.heap_alloc w1 o b hbl).trans hm); have hbF : Below w.heap.size w w1 := hbA.trans (hb1.mono (by omega)); have hz := Nat.le_trans hza hb1.size; have hz' : w.heap.size < w1.heap.size := (by omega); have he0 := (hb1.cell (p := ⟨w.heap.size + 1, 0, none⟩) (by show w.heap.size + 1 < _; omega)).trans hn0; have he1 := (hb1.cell (p := ⟨w.heap.size + 1, 1, none⟩) (by show w.heap.size + 1 < _; omega)).trans hn1; have hf0 := (hb1.frozen (p := ⟨w.heap.size + 1, 0, none⟩) (by show w.heap.size + 1 < _; omega)).trans hn2; have hf1 := (hb1.frozen (p := ⟨w.heap.size + 1, 1, none⟩) (by show w.heap.size + 1 < _; omega)).trans hn3; clear hm hs1))
  all_goals
    clear hlk hlk'
    go_wp2_with fail
    with_reducible refine (encodeMarked_any _ B A n c xs big bom ?_ ?_ hn).mono ?_
    · exact HX.out.on (by first | exact hbF.alloc hbF.size _ | exact (hbF.setCell (by simp) _).setCell (by simp) _) hB
    · exact Nat.le_trans hB (Below.size (B := w.heap.size) (by first | exact hbF.alloc hbF.size _ | exact (hbF.setCell (by simp) _).setCell (by simp) _))
    rintro e w3 ⟨A3, m3, c3, rfl, h3c, h3m, hr3, hb3⟩
    have HR3 := Lib.hid hr3
    clear hr3
    have hbZ : Below w.heap.size w w3 := Below.trans (by first | exact hbF.alloc hbF.size _ | exact (hbF.setCell (by simp) _).setCell (by simp) _) (hb3.mono (Below.size (B := w.heap.size) (w := w) (by first | exact hbF.alloc hbF.size _ | exact (hbF.setCell (by simp) _).setCell (by simp) _)))
    go_wp2
    go_ret2
    exact ⟨A3, m3, c3, rfl, h3c, h3m, HR3.out, hbZ⟩

set_option maxRecDepth 100000 in
set_option maxHeartbeats 4000000 in
theorem encodeC_one (w : World) (B : Nat) (A : Option Addr) (n c : Nat) (xs : List Int) (big bom : Bool) (hx : RI .i32 w B A n xs) (hB : B ≤ w.heap.size) (hn : n ≤ 1073741824) :
    Calls Tryd.prog 11 #[.agg #[.int .u8 1, .bool big, .bool bom, .slice A n c]] w (EncD 1 big bom xs w) := by
  have hst := @run_store_func Tryd.prog
  obtain ⟨W, hW⟩ : ∃ W, W = w.alloc (.cells #[.int .u8 1, .bool big, .bool bom, .slice A n c] 26) := ⟨_, rfl⟩
  have hbW : Below w.heap.size w W := by rw [hW]; exact (Below.refl _ w).alloc (Nat.le_refl _) _
  have hsW : W.heap.size = w.heap.size + 1 := by rw [hW]; simp
  have hc0 : W.cell? ⟨w.heap.size, 0, none⟩ = some (.int .u8 1) := by rw [hW, World.cell?_alloc_new]; rfl
  have hc1 : W.cell? ⟨w.heap.size, 1, none⟩ = some (.bool big) := by rw [hW, World.cell?_alloc_new]; rfl
  have hc2 : W.cell? ⟨w.heap.size, 2, none⟩ = some (.bool bom) := by rw [hW, World.cell?_alloc_new]; rfl
  have hc3 : W.cell? ⟨w.heap.size, 3, none⟩ = some (.slice A n c) := by rw [hW, World.cell?_alloc_new]; rfl
  have HX := Lib.hid hx
  clear hx
  go_enter Tryd.func11, Tryd.ntmps11
  go_wp2_with fail
  rw [← hW]
  clear hW
  have hzb : w.heap.size + 1 ≤ W.drew.heap.size := by show _ ≤ W.heap.size; omega
  have hza : w.heap.size + 2 ≤ ((W.alloc (.cells #[.nilFunc, .nilFunc] 52)).drew).heap.size := by show _ ≤ (W.alloc _).heap.size; simp; omega
  have hbB : Below w.heap.size w W.drew := hbW.drew
  have hbA : Below w.heap.size w ((W.alloc (.cells #[.nilFunc, .nilFunc] 52)).drew) := (hbW.alloc (by omega) _).drew
  have hn0 : ((W.alloc (.cells #[.nilFunc, .nilFunc] 52)).drew).cell? ⟨w.heap.size + 1, 0, none⟩ = some .nilFunc := by rw [← hsW]; exact World.cell?_alloc_new W _ _ _
  have hn1 : ((W.alloc (.cells #[.nilFunc, .nilFunc] 52)).drew).cell? ⟨w.heap.size + 1, 1, none⟩ = some .nilFunc := by rw [← hsW]; exact World.cell?_alloc_new W _ _ _
  have hn2 : ((W.alloc (.cells #[.nilFunc, .nilFunc] 52)).drew).frozen? ⟨w.heap.size + 1, 0, none⟩ = false := by rw [← hsW]; exact World.frozen?_alloc_at (w := W) _ _ _ _ rfl
  have hn3 : ((W.alloc (.cells #[.nilFunc, .nilFunc] 52)).drew).frozen? ⟨w.heap.size + 1, 1, none⟩ = false := by rw [← hsW]; exact World.frozen?_alloc_at (w := W) _ _ _ _ rfl
  go_region_held3 (fun w' => w'.cell? ⟨w.heap.size, 0, none⟩ = some (.int .u8 1)) (go_keep)
    (first
     | (go_at_call 22; (with_reducible refine (encodings_any W.drew).mono ?_); rintro e w1 ⟨b, v1, v2, v3, v4, rfl, hm, hd, he, hd3, he4, hb1⟩; have hs1 := hb1.size; have hk0 := (hb1.cell (p := ⟨w.heap.size, 0, none⟩) (by show w.heap.size < _; omega)).trans hc0; have hk1 := (hb1.cell (p := ⟨w.heap.size, 1, none⟩) (by show w.heap.size < _; omega)).trans hc1; have hk2 := (hb1.cell (p := ⟨w.heap.size, 2, none⟩) (by show w.heap.size < _; omega)).trans hc2; have hk3 := (hb1.cell (p := ⟨w.heap.size, 3, none⟩) (by show w.heap.size < _; omega)).trans hc3; have hbl : b < w1.heap.size := (Array.getElem?_eq_some_iff.1 hm).1; have hlk := (fun (x : World) (h : x.heap[b]? = _) => lookYes x b _ 3 1 (.agg #[v1, v2]) 0 h rfl) w1 hm; have hlk' := fun o => (fun (x : World) (h : x.heap[b]? = _) => lookYes x b _ 3 1 (.agg #[v1, v2]) 0 h rfl) (w1.alloc o) ((Below.heap_alloc w1 o b hbl).trans hm); have hbF : Below w.heap.size w w1 := hbB.trans (hb1.mono (by omega)); have hz := Nat.le_trans hzb hb1.size; have hz' : w.heap.size < w1.heap.size := (by omega); obtain ⟨p, q, rfl, _, _, _, _, _, _⟩ := hd; obtain ⟨p2, rfl, hp0, hp1, hp2⟩ := he; have hp0' := Nat.le_trans hzb hp0; clear hp0; clear hm hs1)
     | (go_at_call 22; (with_reducible refine (encodings_any (W.alloc (.cells #[.nilFunc, .nilFunc] 52)).drew).mono ?_); rintro e w1 ⟨b, v1, v2, v3, v4, rfl, hm, hd, he, hd3, he4, hb1⟩; have hs1 := hb1.size; have hk0 := (hb1.cell (p := ⟨w.heap.size, 0, none⟩) (by show w.heap.size < _; omega)).trans ((World.cell?_alloc_lt W _ _ (by show w.heap.size < W.heap.size; omega)).trans hc0); have hk1 := (hb1.cell (p := ⟨w.heap.size, 1, none⟩) (by show w.heap.size < _; omega)).trans ((World.cell?_alloc_lt W _ _ (by show w.heap.size < W.heap.size; omega)).trans hc1); have hk2 := (hb1.cell (p := ⟨w.heap.size, 2, none⟩) (by show w.heap.size < _; omega)).trans ((World.cell?_alloc_lt W _ _ (by show w.heap.size < W.heap.size; omega)).trans hc2); have hk3 := (hb1.cell (p := ⟨w.heap.size, 3, none⟩) (by show w.heap.size < _; omega)).trans ((World.cell?_alloc_lt W _ _ (by show w.heap.size < W.heap.size; omega)).trans hc3); have hbl : b < w1.heap.size := (Array.getElem?_eq_some_iff.1 hm).1; have hlk := (fun (x : World) (h : x.heap[b]? = _) => lookYes x b _ 3 1 (.agg #[v1, v2]) 0 h rfl) w1 hm; have hlk' := fun o => (fun (x : World) (h : x.heap[b]? = _) => lookYes x b _ 3 1 (.agg #[v1, v2]) 0 h rfl) (w1.alloc o) ((Below.heap_alloc w1 o b hbl).trans hm); have hbF : Below w.heap.size w w1 := hbA.trans (hb1.mono (by omega)); have hz := Nat.le_trans hza hb1.size; have hz' : w.heap.size < w1.heap.size := (by omega); have he0 := (hb1.cell (p := ⟨w.heap.size + 1, 0, none⟩) (by show w.heap.size + 1 < _; omega)).trans hn0; have he1 := (hb1.cell (p := ⟨w.heap.size + 1, 1, none⟩) (by show w.heap.size + 1 < _; omega)).trans hn1; have hf0 := (hb1.frozen (p := ⟨w.heap.size + 1, 0, none⟩) (by show w.heap.size + 1 < _; omega)).trans hn2; have hf1 := (hb1.frozen (p := ⟨w.heap.size + 1, 1, none⟩) (by show w.heap.size + 1 < _; omega)).trans hn3; obtain ⟨p, q, rfl, _, _, _, _, _, _⟩ := hd; obtain ⟨p2, rfl, hp0, hp1, hp2⟩ := he; have hp0' := Nat.le_trans hza hp0; clear hp0; clear hm hs1))
  all_goals
    clear hlk hlk'
    go_wp2_with fail
    with_reducible refine (closE1_any _ B A n c xs big bom ?_ ?_ hn p2 ?_).mono ?_
    · exact HX.out.on (by first | exact hbF.alloc hbF.size _ | exact (hbF.setCell (by simp) _).setCell (by simp) _) hB
    · exact Nat.le_trans hB (Below.size (B := w.heap.size) (by first | exact hbF.alloc hbF.size _ | exact (hbF.setCell (by simp) _).setCell (by simp) _))
    · first | exact (World.cell?_alloc_lt w1 _ _ hp1).trans hp2 | exact ((World.cell?_setCell_far _ _ _ _ (by simp; omega)).trans (World.cell?_setCell_far _ _ _ _ (by simp; omega))).trans hp2
    rintro e w3 ⟨A3, m3, c3, rfl, h3c, h3m, hr3, hb3⟩
    have HR3 := Lib.hid hr3
    clear hr3
    have hbZ : Below w.heap.size w w3 := Below.trans (by first | exact hbF.alloc hbF.size _ | exact (hbF.setCell (by simp) _).setCell (by simp) _) (hb3.mono (Below.size (B := w.heap.size) (w := w) (by first | exact hbF.alloc hbF.size _ | exact (hbF.setCell (by simp) _).setCell (by simp) _)))
    go_wp2
    go_ret2
    exact ⟨A3, m3, c3, rfl, h3c, h3m, HR3.out, hbZ⟩

set_option maxRecDepth 100000 in
set_option maxHeartbeats 4000000 in
theorem encodeC_three (w : World) (B : Nat) (A : Option Addr) (n c : Nat) (xs : List Int) (big bom : Bool) (hx : RI .i32 w B A n xs) (hB : B ≤ w.heap.size) (hn : n ≤ 1073741824) :
    Calls Tryd.prog 11 #[.agg #[.int .u8 3, .bool big, .bool bom, .slice A n c]] w (EncD 3 big bom xs w) := by
  have hst := @run_store_func Tryd.prog
  obtain ⟨W, hW⟩ : ∃ W, W = w.alloc (.cells #[.int .u8 3, .bool big, .bool bom, .slice A n c] 26) := ⟨_, rfl⟩
  have hbW : Below w.heap.size w W := by rw [hW]; exact (Below.refl _ w).alloc (Nat.le_refl _) _
  have hsW : W.heap.size = w.heap.size + 1 := by rw [hW]; simp
  have hc0 : W.cell? ⟨w.heap.size, 0, none⟩ = some (.int .u8 3) := by rw [hW, World.cell?_alloc_new]; rfl
  have hc1 : W.cell? ⟨w.heap.size, 1, none⟩ = some (.bool big) := by rw [hW, World.cell?_alloc_new]; rfl
  have hc2 : W.cell? ⟨w.heap.size, 2, none⟩ = some (.bool bom) := by rw [hW, World.cell?_alloc_new]; rfl
  have hc3 : W.cell? ⟨w.heap.size, 3, none⟩ = some (.slice A n c) := by rw [hW, World.cell?_alloc_new]; rfl
  have HX := Lib.hid hx
  clear hx
  go_enter Tryd.func11, Tryd.ntmps11
  go_wp2_with fail
  rw [← hW]
  clear hW
  have hzb : w.heap.size + 1 ≤ W.drew.heap.size := by show _ ≤ W.heap.size; omega
  have hza : w.heap.size + 2 ≤ ((W.alloc (.cells #[.nilFunc, .nilFunc] 52)).drew).heap.size := by show _ ≤ (W.alloc _).heap.size; simp; omega
  have hbB : Below w.heap.size w W.drew := hbW.drew
  have hbA : Below w.heap.size w ((W.alloc (.cells #[.nilFunc, .nilFunc] 52)).drew) := (hbW.alloc (by omega) _).drew
  have hn0 : ((W.alloc (.cells #[.nilFunc, .nilFunc] 52)).drew).cell? ⟨w.heap.size + 1, 0, none⟩ = some .nilFunc := by rw [← hsW]; exact World.cell?_alloc_new W _ _ _
  have hn1 : ((W.alloc (.cells #[.nilFunc, .nilFunc] 52)).drew).cell? ⟨w.heap.size + 1, 1, none⟩ = some .nilFunc := by rw [← hsW]; exact World.cell?_alloc_new W _ _ _
  have hn2 : ((W.alloc (.cells #[.nilFunc, .nilFunc] 52)).drew).frozen? ⟨w.heap.size + 1, 0, none⟩ = false := by rw [← hsW]; exact World.frozen?_alloc_at (w := W) _ _ _ _ rfl
  have hn3 : ((W.alloc (.cells #[.nilFunc, .nilFunc] 52)).drew).frozen? ⟨w.heap.size + 1, 1, none⟩ = false := by rw [← hsW]; exact World.frozen?_alloc_at (w := W) _ _ _ _ rfl
  go_region_held3 (fun w' => w'.cell? ⟨w.heap.size, 0, none⟩ = some (.int .u8 3)) (go_keep)
    (first
     | (go_at_call 22; (with_reducible refine (encodings_any W.drew).mono ?_); rintro e w1 ⟨b, v1, v2, v3, v4, rfl, hm, hd1, he2, hd, he, hb1⟩; have hs1 := hb1.size; have hk0 := (hb1.cell (p := ⟨w.heap.size, 0, none⟩) (by show w.heap.size < _; omega)).trans hc0; have hk1 := (hb1.cell (p := ⟨w.heap.size, 1, none⟩) (by show w.heap.size < _; omega)).trans hc1; have hk2 := (hb1.cell (p := ⟨w.heap.size, 2, none⟩) (by show w.heap.size < _; omega)).trans hc2; have hk3 := (hb1.cell (p := ⟨w.heap.size, 3, none⟩) (by show w.heap.size < _; omega)).trans hc3; have hbl : b < w1.heap.size := (Array.getElem?_eq_some_iff.1 hm).1; have hlk := (fun (x : World) (h : x.heap[b]? = _) => lookYes x b _ 3 3 (.agg #[v3, v4]) 2 h rfl) w1 hm; have hlk' := fun o => (fun (x : World) (h : x.heap[b]? = _) => lookYes x b _ 3 3 (.agg #[v3, v4]) 2 h rfl) (w1.alloc o) ((Below.heap_alloc w1 o b hbl).trans hm); have hbF : Below w.heap.size w w1 := hbB.trans (hb1.mono (by omega)); have hz := Nat.le_trans hzb hb1.size; have hz' : w.heap.size < w1.heap.size := (by omega); obtain ⟨p, q, rfl, _, _, _, _, _, _⟩ := hd; obtain ⟨p2, rfl, hp0, hp1, hp2⟩ := he; have hp0' := Nat.le_trans hzb hp0; clear hp0; clear hm hs1)
     | (go_at_call 22; (with_reducible refine (encodings_any (W.alloc (.cells #[.nilFunc, .nilFunc] 52)).drew).mono ?_); rintro e w1 ⟨b, v1, v2, v3, v4, rfl, hm, hd1, he2, hd, he, hb1⟩; have hs1 := hb1.size; have hk0 := (hb1.cell (p := ⟨w.heap.size, 0, none⟩) (by show w.heap.size < _; omega)).trans ((World.cell?_alloc_lt W _ _ (by show w.heap.size < W.heap.size; omega)).trans hc0); have hk1 := (hb1.cell (p := ⟨w.heap.size, 1, none⟩) (by show w.heap.size < _; omega)).trans ((World.cell?_alloc_lt W _ _ (by show w.heap.size < W.heap.size; omega)).trans hc1); have hk2 := (hb1.cell (p := ⟨w.heap.size, 2, none⟩) (by show w.heap.size < _; omega)).trans ((World.cell?_alloc_lt W _ _ (by show w.heap.size < W.heap.size; omega)).trans hc2); have hk3 := (hb1.cell (p := ⟨w.heap.size, 3, none⟩) (by show w.heap.size < _; omega)).trans ((World.cell?_alloc_lt W _ _ (by show w.heap.size < W.heap.size; omega)).trans hc3); have hbl : b < w1.heap.size := (Array.getElem?_eq_some_iff.1 hm).1; have hlk := (fun (x : World) (h : x.heap[b]? = _) => lookYes x b _ 3 3 (.agg #[v3, v4]) 2 h rfl) w1 hm; have hlk' := fun o => (fun (x : World) (h : x.heap[b]? = _) => lookYes x b _ 3 3 (.agg #[v3, v4]) 2 h rfl) (w1.alloc o) ((Below.heap_alloc w1 o b hbl).trans hm); have hbF : Below w.heap.size w w1 := hbA.trans (hb1.mono (by omega)); have hz := Nat.le_trans hza hb1.size; have hz' : w.heap.size < w1.heap.size := (by omega); have he0 := (hb1.cell (p := ⟨w.heap.size + 1, 0, none⟩) (by show w.heap.size + 1 < _; omega)).trans hn0; have he1 := (hb1.cell (p := ⟨w.heap.size + 1, 1, none⟩) (by show w.heap.size + 1 < _; omega)).trans hn1; have hf0 := (hb1.frozen (p := ⟨w.heap.size + 1, 0, none⟩) (by show w.heap.size + 1 < _; omega)).trans hn2; have hf1 := (hb1.frozen (p := ⟨w.heap.size + 1, 1, none⟩) (by show w.heap.size + 1 < _; omega)).trans hn3; obtain ⟨p, q, rfl, _, _, _, _, _, _⟩ := hd; obtain ⟨p2, rfl, hp0, hp1, hp2⟩ := he; have hp0' := Nat.le_trans hza hp0; clear hp0; clear hm hs1))
  all_goals
    clear hlk hlk'
    go_wp2_with fail
    with_reducible refine (closE3_any _ B A n c xs big bom ?_ ?_ hn p2 ?_).mono ?_
    · exact HX.out.on (by first | exact hbF.alloc hbF.size _ | exact (hbF.setCell (by simp) _).setCell (by simp) _) hB
    · exact Nat.le_trans hB (Below.size (B := w.heap.size) (by first | exact hbF.alloc hbF.size _ | exact (hbF.setCell (by simp) _).setCell (by simp) _))
    · first | exact (World.cell?_alloc_lt w1 _ _ hp1).trans hp2 | exact ((World.cell?_setCell_far _ _ _ _ (by simp; omega)).trans (World.cell?_setCell_far _ _ _ _ (by simp; omega))).trans hp2
    rintro e w3 ⟨A3, m3, c3, rfl, h3c, h3m, hr3, hb3⟩
    have HR3 := Lib.hid hr3
    clear hr3
    have hbZ : Below w.heap.size w w3 := Below.trans (by first | exact hbF.alloc hbF.size _ | exact (hbF.setCell (by simp) _).setCell (by simp) _) (hb3.mono (Below.size (B := w.heap.size) (w := w) (by first | exact hbF.alloc hbF.size _ | exact (hbF.setCell (by simp) _).setCell (by simp) _)))
    go_wp2
    go_ret2
    exact ⟨A3, m3, c3, rfl, h3c, h3m, HR3.out, hbZ⟩

set_option maxRecDepth 100000 in
set_option maxHeartbeats 4000000 in
theorem encodeC_none (w : World) (k : Int) (h1 : k ≠ 1) (h2 : k ≠ 2) (h3 : k ≠ 3) (A : Option Addr) (n c : Nat) (xs : List Int) (big bom : Bool) :
    Calls Tryd.prog 11 #[.agg #[.int .u8 k, .bool big, .bool bom, .slice A n c]] w (EncD k big bom xs w) := by
  have hst := @run_store_nilFunc Tryd.prog
  have b1 : (k == 1) = false := by simp [h1]
  have b2 : (k == 2) = false := by simp [h2]
  have b3 : (k == 3) = false := by simp [h3]
  obtain ⟨W, hW⟩ : ∃ W, W = w.alloc (.cells #[.int .u8 k, .bool big, .bool bom, .slice A n c] 26) := ⟨_, rfl⟩
  have hbW : Below w.heap.size w W := by rw [hW]; exact (Below.refl _ w).alloc (Nat.le_refl _) _
  have hsW : W.heap.size = w.heap.size + 1 := by rw [hW]; simp
  have hc0 : W.cell? ⟨w.heap.size, 0, none⟩ = some (.int .u8 k) := by rw [hW, World.cell?_alloc_new]; rfl
  have hc1 : W.cell? ⟨w.heap.size, 1, none⟩ = some (.bool big) := by rw [hW, World.cell?_alloc_new]; rfl
  have hc2 : W.cell? ⟨w.heap.size, 2, none⟩ = some (.bool bom) := by rw [hW, World.cell?_alloc_new]; rfl
  have hc3 : W.cell? ⟨w.heap.size, 3, none⟩ = some (.slice A n c) := by rw [hW, World.cell?_alloc_new]; rfl
  go_enter Tryd.func11, Tryd.ntmps11
  go_wp2_with fail
  rw [← hW]
  clear hW
  have hzb : w.heap.size + 1 ≤ W.drew.heap.size := by show _ ≤ W.heap.size; omega
  have hza : w.heap.size + 2 ≤ ((W.alloc (.cells #[.nilFunc, .nilFunc] 52)).drew).heap.size := by show _ ≤ (W.alloc _).heap.size; simp; omega
  have hbB : Below w.heap.size w W.drew := hbW.drew
  have hbA : Below w.heap.size w ((W.alloc (.cells #[.nilFunc, .nilFunc] 52)).drew) := (hbW.alloc (by omega) _).drew
  have hn0 : ((W.alloc (.cells #[.nilFunc, .nilFunc] 52)).drew).cell? ⟨w.heap.size + 1, 0, none⟩ = some .nilFunc := by rw [← hsW]; exact World.cell?_alloc_new W _ _ _
  have hn1 : ((W.alloc (.cells #[.nilFunc, .nilFunc] 52)).drew).cell? ⟨w.heap.size + 1, 1, none⟩ = some .nilFunc := by rw [← hsW]; exact World.cell?_alloc_new W _ _ _
  have hn2 : ((W.alloc (.cells #[.nilFunc, .nilFunc] 52)).drew).frozen? ⟨w.heap.size + 1, 0, none⟩ = false := by rw [← hsW]; exact World.frozen?_alloc_at (w := W) _ _ _ _ rfl
  have hn3 : ((W.alloc (.cells #[.nilFunc, .nilFunc] 52)).drew).frozen? ⟨w.heap.size + 1, 1, none⟩ = false := by rw [← hsW]; exact World.frozen?_alloc_at (w := W) _ _ _ _ rfl
  go_region_held3 (fun w' => w'.cell? ⟨w.heap.size, 0, none⟩ = some (.int .u8 k)) (go_keep)
    (first
     | (go_at_call 22; (with_reducible refine (encodings_any W.drew).mono ?_); rintro e w1 ⟨b, v1, v2, v3, v4, rfl, hm, hd1, he2, hd3, he4, hb1⟩; have hs1 := hb1.size; have hk0 := (hb1.cell (p := ⟨w.heap.size, 0, none⟩) (by show w.heap.size < _; omega)).trans hc0; have hk1 := (hb1.cell (p := ⟨w.heap.size, 1, none⟩) (by show w.heap.size < _; omega)).trans hc1; have hk2 := (hb1.cell (p := ⟨w.heap.size, 2, none⟩) (by show w.heap.size < _; omega)).trans hc2; have hk3 := (hb1.cell (p := ⟨w.heap.size, 3, none⟩) (by show w.heap.size < _; omega)).trans hc3; have hbl : b < w1.heap.size := (Array.getElem?_eq_some_iff.1 hm).1; have hlk := (fun (x : World) (h : x.heap[b]? = _) => lookNo x b _ 3 k h (by simp [Instr.findNow, Instr.sameNow, b1, b2, b3])) w1 hm; have hlk' := fun o => (fun (x : World) (h : x.heap[b]? = _) => lookNo x b _ 3 k h (by simp [Instr.findNow, Instr.sameNow, b1, b2, b3])) (w1.alloc o) ((Below.heap_alloc w1 o b hbl).trans hm); have hbF : Below w.heap.size w w1 := hbB.trans (hb1.mono (by omega)); have hz := Nat.le_trans hzb hb1.size; have hz' : w.heap.size < w1.heap.size := (by omega); clear hm hs1)
     | (go_at_call 22; (with_reducible refine (encodings_any (W.alloc (.cells #[.nilFunc, .nilFunc] 52)).drew).mono ?_); rintro e w1 ⟨b, v1, v2, v3, v4, rfl, hm, hd1, he2, hd3, he4, hb1⟩; have hs1 := hb1.size; have hk0 := (hb1.cell (p := ⟨w.heap.size, 0, none⟩) (by show w.heap.size < _; omega)).trans ((World.cell?_alloc_lt W _ _ (by show w.heap.size < W.heap.size; omega)).trans hc0); have hk1 := (hb1.cell (p := ⟨w.heap.size, 1, none⟩) (by show w.heap.size < _; omega)).trans ((World.cell?_alloc_lt W _ _ (by show w.heap.size < W.heap.size; omega)).trans hc1); have hk2 := (hb1.cell (p := ⟨w.heap.size, 2, none⟩) (by show w.heap.size < _; omega)).trans ((World.cell?_alloc_lt W _ _ (by show w.heap.size < W.heap.size; omega)).trans hc2); have hk3 := (hb1.cell (p := ⟨w.heap.size, 3, none⟩) (by show w.heap.size < _; omega)).trans ((World.cell?_alloc_lt W _ _ (by show w.heap.size < W.heap.size; omega)).trans hc3); have hbl : b < w1.heap.size := (Array.getElem?_eq_some_iff.1 hm).1; have hlk := (fun (x : World) (h : x.heap[b]? = _) => lookNo x b _ 3 k h (by simp [Instr.findNow, Instr.sameNow, b1, b2, b3])) w1 hm; have hlk' := fun o => (fun (x : World) (h : x.heap[b]? = _) => lookNo x b _ 3 k h (by simp [Instr.findNow, Instr.sameNow, b1, b2, b3])) (w1.alloc o) ((Below.heap_alloc w1 o b hbl).trans hm); have hbF : Below w.heap.size w w1 := hbA.trans (hb1.mono (by omega)); have hz := Nat.le_trans hza hb1.size; have hz' : w.heap.size < w1.heap.size := (by omega); have he0 := (hb1.cell (p := ⟨w.heap.size + 1, 0, none⟩) (by show w.heap.size + 1 < _; omega)).trans hn0; have he1 := (hb1.cell (p := ⟨w.heap.size + 1, 1, none⟩) (by show w.heap.size + 1 < _; omega)).trans hn1; have hf0 := (hb1.frozen (p := ⟨w.heap.size + 1, 0, none⟩) (by show w.heap.size + 1 < _; omega)).trans hn2; have hf1 := (hb1.frozen (p := ⟨w.heap.size + 1, 1, none⟩) (by show w.heap.size + 1 < _; omega)).trans hn3; clear hm hs1))
  all_goals
    clear hlk hlk'
    go_wp2
    go_ret2
    exact encD_err (err_none big bom xs h1 h2 h3) (by decide) (by first | exact hbF.alloc hbF.size _ | exact (hbF.setCell (by simp) _).setCell (by simp) _)

theorem encodeC_any (w : World) (k : Int) (B : Nat) (A : Option Addr) (n c : Nat) (xs : List Int) (big bom : Bool) (hx : RI .i32 w B A n xs) (hB : B ≤ w.heap.size) (hn : n ≤ 1073741824) :
    Calls Tryd.prog 11 #[.agg #[.int .u8 k, .bool big, .bool bom, .slice A n c]] w (EncD k big bom xs w) := by
  by_cases h1 : k = 1
  · subst h1; exact encodeC_one w B A n c xs big bom hx hB hn
  by_cases h2 : k = 2
  · subst h2; exact encodeC_two w B A n c xs big bom hx hB hn
  by_cases h3 : k = 3
  · subst h3; exact encodeC_three w B A n c xs big bom hx hB hn
  exact encodeC_none w k h1 h2 h3 A n c xs big bom
end Go.Proofs.YtijlecfjgcohhaaDoor.C
