/-
  Contracts of what codec.Decode calls and of it: a document of bytes, of each encoding, is what the plain function says, in new memory, or the error; nothing that was there changes. Condition: the decoder's two tables stand as they were laid.
-/
import Derived.Test.YtijlecfjgcohhaaDoorCdcB
import Derived.Test.YtijlecfjgcohhaaDoorCdcL
import Derived.Test.YtijlecfjgcohhaaDoorCdcM
import Derived.Test.YtijlecfjgcohhaaDoorCuI
import Derived.Deep.RegionHeld3
import Derived.Laws.NewDeep
namespace Go.Proofs.YtijlecfjgcohhaaDoor.C
open Go.RowKit

/-- is the order Big, was there a mark, the cells: of an encoding's bytes -/
def bigB (k : Int) (zs : List Int) : Bool := if k = 2 then !preB 255 254 zs else false
def bomB (k : Int) (zs : List Int) : Bool := if k = 2 then preB 255 254 zs || preB 254 255 zs else false
def cellsD (k : Int) (zs : List Int) : List Int :=
  if k = 1 then ofL (sb zs) else if k = 3 then zs else if preB 255 254 zs then U.dec false (zs.drop 2) else if preB 254 255 zs then U.dec true (zs.drop 2) else U.dec true zs
/-- what Decode's parts answer -/
def DocTold (k : Int) (zs : List Int) (w : World) (e : Ending) (w' : World) : Prop :=
  ∃ A' m c', e = .returned (.agg #[.int .u8 k, .bool (bigB k zs), .bool (bomB k zs), .slice A' m c']) ∧ m ≤ zs.length ∧ w'.ownsRow w.heap.size 35 1 (.slice A' m c') m ((cellsD k zs).map (Value.int .i32)) ∧ Below w.heap.size w w'
/-- a variable of four cells that may be written, new still -/
structure Doc4 (w : World) (b : Nat) : Prop where
  c0 : w.cell? ⟨b, 0, none⟩ = some (.int .u8 0)
  c1 : w.cell? ⟨b, 1, none⟩ = some (.bool false)
  c2 : w.cell? ⟨b, 2, none⟩ = some (.bool false)
  c3 : w.cell? ⟨b, 3, none⟩ = some (.slice none 0 0)
  fr : ∀ j, w.frozen? ⟨b, j, none⟩ = false
theorem Doc4.new (w : World) (t : TypeId) : Doc4 (w.alloc (.cells #[.int .u8 0, .bool false, .bool false, .slice none 0 0] t)) w.heap.size := by
  refine ⟨?_, ?_, ?_, ?_, fun j => ?_⟩
  · rw [World.cell?_alloc_new]; rfl
  · rw [World.cell?_alloc_new]; rfl
  · rw [World.cell?_alloc_new]; rfl
  · rw [World.cell?_alloc_new]; rfl
  · exact World.frozen?_alloc_at _ _ _ _ rfl
theorem Doc4.keep {w w' : World} {b : Nat} (h : Doc4 w b) (hk : w'.heap[b]? = w.heap[b]?) : Doc4 w' b :=
  ⟨by rw [World.cell?_of_block (w := w) hk]; exact h.c0, by rw [World.cell?_of_block (w := w) hk]; exact h.c1, by rw [World.cell?_of_block (w := w) hk]; exact h.c2, by rw [World.cell?_of_block (w := w) hk]; exact h.c3, fun j => by rw [World.frozen?_of_block (w := w) hk]; exact h.fr j⟩
/-- the world behind the store of a document -/
def putDoc (w : World) (b : Nat) (v0 v1 v2 v3 : Value) : World := (((w.setCell ⟨b, 0, none⟩ v0).setCell ⟨b, 1, none⟩ v1).setCell ⟨b, 2, none⟩ v2).setCell ⟨b, 3, none⟩ v3
theorem putDoc_below {B : Nat} {a w : World} (h : Below B a w) {b : Nat} (hb : B ≤ b) (v0 v1 v2 v3 : Value) : Below B a (putDoc w b v0 v1 v2 v3) :=
  (((h.setCell hb _).setCell hb _).setCell hb _).setCell hb _
theorem putDoc_own {w : World} {base b n : Nat} {e : TypeId} {v : Value} {xs : List Value} (h : w.ownsRow base e 1 v n xs) (hb : b < base) (v0 v1 v2 v3 : Value) : (putDoc w b v0 v1 v2 v3).ownsRow base e 1 v n xs :=
  ownsRow_setCell_below (ownsRow_setCell_below (ownsRow_setCell_below (ownsRow_setCell_below h hb _) hb _) hb _) hb _
theorem putDoc_told {k : Int} {zs : List Int} {w w2 : World} {base b : Nat} {A : Option Addr} {m c : Nat} (hm : m ≤ zs.length) (hown : w2.ownsRow base 35 1 (.slice A m c) m ((cellsD k zs).map (Value.int .i32))) (hb : b < base) (hB : w.heap.size ≤ b) (hbe : Below w.heap.size w w2) (bg bm : Bool) (h1 : bigB k zs = bg) (h2 : bomB k zs = bm) (v0 v1 v2 v3 : Value) :
    DocTold k zs w (.returned (.agg #[.int .u8 k, .bool bg, .bool bm, .slice A m c])) (putDoc w2 b v0 v1 v2 v3) := by
  subst h1 h2
  exact ⟨A, m, c, rfl, hm, own_less (putDoc_own hown hb v0 v1 v2 v3) (by omega), putDoc_below hbe hB _ _ _ _⟩
theorem constConv2 (w : World) (k : Nat) (hk : w.heap.size = k) : ∀ (C : Array Value) (n c : Nat), (convert 22 22 (.slice (some ⟨k, 0, none⟩) n c)).run Tryd.prog (w.alloc (.cells C 5)) = .ok (.slice (some ⟨k, 0, none⟩) n c) (w.alloc (.cells C 5 (C.size, C.size + 1))) := by
  subst hk
  exact constConv w
theorem bigB_le {zs : List Int} (h : preB 255 254 zs = true) : bigB 2 zs = false := by simp [bigB, h]
theorem bomB_le {zs : List Int} (h : preB 255 254 zs = true) : bomB 2 zs = true := by simp [bomB, h]
theorem cellsD_le {zs : List Int} (h : preB 255 254 zs = true) : cellsD 2 zs = U.dec false (zs.drop 2) := by simp [cellsD, h]
theorem bigB_be {zs : List Int} (h : preB 255 254 zs = false) : bigB 2 zs = true := by simp [bigB, h]
theorem bomB_be {zs : List Int} (h : preB 255 254 zs = false) : bomB 2 zs = preB 254 255 zs := by simp [bomB, h]
theorem cellsD_be {zs : List Int} (h : preB 255 254 zs = false) (h2 : preB 254 255 zs = true) : cellsD 2 zs = U.dec true (zs.drop 2) := by simp [cellsD, h, h2]
theorem cellsD_no {zs : List Int} (h : preB 255 254 zs = false) (h2 : preB 254 255 zs = false) : cellsD 2 zs = U.dec true zs := by simp [cellsD, h, h2]
theorem bd_le : Bd [255, 254] := by intro z hz; revert z; decide
theorem bd_be : Bd [254, 255] := by intro z hz; revert z; decide

set_option maxRecDepth 100000 in
set_option maxHeartbeats 1000000 in
theorem decodeMarked_le (w : World) (B : Nat) (A : Option Addr) (n c : Nat) (zs : List Int) (hx : RI .u8 w B A n zs) (hB : B ≤ w.heap.size) (hz : Bd zs) (hnc : n ≤ c) (hn : n ≤ 1073741824) (hc : c ≤ maxLen) (hp : preB 255 254 zs = true) :
    Calls Tryd.prog 31 #[.slice A n c] w (DocTold 2 zs w) := by
  have kc := fun o => constConv2 (w.alloc o) (w.heap.size + 1) (by simp)
  have hlen := hx.len
  obtain ⟨W, hW⟩ : ∃ W, W = (w.alloc (.cells #[.int .u8 0, .bool false, .bool false, .slice none 0 0] 26)).alloc (.cells #[.int .u8 255, .int .u8 254] 5 (2, 3)) := ⟨_, rfl⟩
  have hbW : Below w.heap.size w W := by rw [hW]; exact ((Below.refl _ w).alloc (Nat.le_refl _) _).alloc (by simp) _
  have hsW : W.heap.size = w.heap.size + 2 := by rw [hW]; simp
  have hdW : Doc4 W w.heap.size := by
    rw [hW]
    exact (Doc4.new w _).keep (Below.heap_alloc _ _ _ (by simp))
  have hmW : RI .u8 W (w.heap.size + 2) (some ⟨w.heap.size + 1, 0, none⟩) 2 [255, 254] := by
    have := RI.laid (w.alloc (.cells #[.int .u8 0, .bool false, .bool false, .slice none 0 0] 26)) .u8 [255, 254] 5 (2, 3)
    rw [hW]
    simpa using this
  have HM := Lib.hid hmW
  have HX := Lib.hid (hx.on hbW hB)
  have HZ := Lib.hid hz
  have HP := Lib.hid hp
  clear hx hz hp hmW
  go_enter Tryd.func31, Tryd.ntmps31
  go_wp2_with fail
  rw [← hW]
  clear hW kc
  with_reducible refine (cut_yes W B (w.heap.size + 2) A (some ⟨w.heap.size + 1, 0, none⟩) n c zs 255 254 HX.out HM.out HZ.out bd_le hnc hc HP.out).mono ?_
  rintro e w1 ⟨A1, rfl, hr1, rfl⟩
  have HR1 := Lib.hid hr1
  clear hr1
  go_wp2_with fail
  with_reducible refine (U.decode_any false W B A1 (n - 2) (c - 2) (zs.drop 2) HR1.out (by omega) (bd_drop HZ.out 2) (by omega) (by omega) (by omega)).mono ?_
  rintro e w2 ⟨v2, rfl, hown2, hb2⟩
  obtain ⟨A2, c2, rfl, h2c, h2m, _⟩ := own_slice2 hown2
  obtain ⟨d0, d1, d2, d3, df⟩ := hdW.keep (w' := w2) (hb2.block _ (by omega))
  have hle := U.dec_len false (zs.drop 2)
  have HO2 := Lib.hid hown2
  have f0 := df 0
  have f1 := df 1
  have f2 := df 2
  have f3 := df 3
  clear hown2 hdW df
  go_wp2
  refine bodyPost_ret (v := .agg #[.int .u8 2, .bool false, .bool true, .slice A2 (U.dec false (zs.drop 2)).length c2]) ?_ rfl ?_
  · simp [results, Tryd.results31, go_sem, *]
  · exact putDoc_told (by simp at hle; omega) (by rw [cellsD_le HP.out]; exact HO2.out) (by omega) (Nat.le_refl _) (hbW.trans (hb2.mono (by omega))) false true (bigB_le HP.out) (bomB_le HP.out) _ _ _ _

set_option maxRecDepth 100000 in
set_option maxHeartbeats 1000000 in
theorem decodeMarked_be (w : World) (B : Nat) (A : Option Addr) (n c : Nat) (zs : List Int) (hx : RI .u8 w B A n zs) (hB : B ≤ w.heap.size) (hz : Bd zs) (hnc : n ≤ c) (hn : n ≤ 1073741824) (hc : c ≤ maxLen) (hp : preB 255 254 zs = false) (hq : preB 254 255 zs = true) :
    Calls Tryd.prog 31 #[.slice A n c] w (DocTold 2 zs w) := by
  have kc := fun o => constConv2 (w.alloc o) (w.heap.size + 1) (by simp)
  have hlen := hx.len
  obtain ⟨W, hW⟩ : ∃ W, W = (w.alloc (.cells #[.int .u8 0, .bool false, .bool false, .slice none 0 0] 26)).alloc (.cells #[.int .u8 255, .int .u8 254] 5 (2, 3)) := ⟨_, rfl⟩
  have hbW : Below w.heap.size w W := by rw [hW]; exact ((Below.refl _ w).alloc (Nat.le_refl _) _).alloc (by simp) _
  have hsW : W.heap.size = w.heap.size + 2 := by rw [hW]; simp
  have hdW : Doc4 W w.heap.size := by
    rw [hW]
    exact (Doc4.new w _).keep (Below.heap_alloc _ _ _ (by simp))
  have hmW : RI .u8 W (w.heap.size + 2) (some ⟨w.heap.size + 1, 0, none⟩) 2 [255, 254] := by
    have := RI.laid (w.alloc (.cells #[.int .u8 0, .bool false, .bool false, .slice none 0 0] 26)) .u8 [255, 254] 5 (2, 3)
    rw [hW]
    simpa using this
  obtain ⟨V, hV⟩ : ∃ V, V = W.alloc (.cells #[.int .u8 254, .int .u8 255] 5 (2, 3)) := ⟨_, rfl⟩
  have hbV : Below W.heap.size W V := by rw [hV]; exact (Below.refl _ W).alloc (Nat.le_refl _) _
  have hsV : V.heap.size = W.heap.size + 1 := by rw [hV]; simp
  have hdV : Doc4 V w.heap.size := hdW.keep (hbV.block _ (by omega))
  have hmV : RI .u8 V (W.heap.size + 1) (some ⟨w.heap.size + 2, 0, none⟩) 2 [254, 255] := by
    rw [hV, ← hsW]
    exact RI.laid W .u8 [254, 255] 5 (2, 3)
  have kv := constConv2 W (w.heap.size + 2) hsW
  have HM := Lib.hid hmW
  have HMV := Lib.hid hmV
  have HXV := Lib.hid ((hx.on hbW hB).on hbV (by omega))
  have HX := Lib.hid (hx.on hbW hB)
  have HZ := Lib.hid hz
  have HP := Lib.hid hp
  have HQ := Lib.hid hq
  clear hx hz hp hmW hmV hdW hq
  go_enter Tryd.func31, Tryd.ntmps31
  go_wp2_with fail
  rw [← hW]
  clear hW kc
  with_reducible refine (cut_no W B (w.heap.size + 2) A (some ⟨w.heap.size + 1, 0, none⟩) n c zs 255 254 HX.out HM.out HZ.out bd_le hnc hc HP.out).mono ?_
  rintro e w1 ⟨rfl, rfl⟩
  go_wp2_with fail
  rw [← hV]
  clear hV kv
  with_reducible refine (cut_yes V B (W.heap.size + 1) A (some ⟨w.heap.size + 2, 0, none⟩) n c zs 254 255 HXV.out HMV.out HZ.out bd_be hnc hc HQ.out).mono ?_
  rintro e w1 ⟨A1, rfl, hr1, rfl⟩
  have HR1 := Lib.hid hr1
  clear hr1
  go_wp2_with fail
  with_reducible refine (U.decode_any true V B A1 (n - 2) (c - 2) (zs.drop 2) HR1.out (by omega) (bd_drop HZ.out 2) (by omega) (by omega) (by omega)).mono ?_
  rintro e w2 ⟨v2, rfl, hown2, hb2⟩
  have hle := U.dec_len true (zs.drop 2)
  obtain ⟨A2, c2, rfl, h2c, h2m, _⟩ := own_slice2 hown2
  obtain ⟨d0, d1, d2, d3, df⟩ := hdV.keep (w' := w2) (hb2.block _ (by omega))
  have HO2 := Lib.hid hown2
  have f0 := df 0
  have f1 := df 1
  have f2 := df 2
  have f3 := df 3
  clear hown2 hdV df
  go_wp2
  refine bodyPost_ret (v := .agg #[.int .u8 2, .bool true, .bool true, .slice A2 (U.dec true (zs.drop 2)).length c2]) ?_ rfl ?_
  · simp [results, Tryd.results31, go_sem, *]
  · exact putDoc_told (base := V.heap.size) (by simp at hle; omega) (by rw [cellsD_be HP.out HQ.out]; exact HO2.out) (by omega) (Nat.le_refl _) ((hbW.trans (hbV.mono (by omega))).trans (hb2.mono (by omega))) true true (bigB_be HP.out) ((bomB_be HP.out).trans HQ.out) _ _ _ _

set_option maxRecDepth 100000 in
set_option maxHeartbeats 1000000 in
theorem decodeMarked_no (w : World) (B : Nat) (A : Option Addr) (n c : Nat) (zs : List Int) (hx : RI .u8 w B A n zs) (hB : B ≤ w.heap.size) (hz : Bd zs) (hnc : n ≤ c) (hn : n ≤ 1073741824) (hc : c ≤ maxLen) (hp : preB 255 254 zs = false) (hq : preB 254 255 zs = false) :
    Calls Tryd.prog 31 #[.slice A n c] w (DocTold 2 zs w) := by
  have kc := fun o => constConv2 (w.alloc o) (w.heap.size + 1) (by simp)
  have hlen := hx.len
  obtain ⟨W, hW⟩ : ∃ W, W = (w.alloc (.cells #[.int .u8 0, .bool false, .bool false, .slice none 0 0] 26)).alloc (.cells #[.int .u8 255, .int .u8 254] 5 (2, 3)) := ⟨_, rfl⟩
  have hbW : Below w.heap.size w W := by rw [hW]; exact ((Below.refl _ w).alloc (Nat.le_refl _) _).alloc (by simp) _
  have hsW : W.heap.size = w.heap.size + 2 := by rw [hW]; simp
  have hdW : Doc4 W w.heap.size := by
    rw [hW]
    exact (Doc4.new w _).keep (Below.heap_alloc _ _ _ (by simp))
  have hmW : RI .u8 W (w.heap.size + 2) (some ⟨w.heap.size + 1, 0, none⟩) 2 [255, 254] := by
    have := RI.laid (w.alloc (.cells #[.int .u8 0, .bool false, .bool false, .slice none 0 0] 26)) .u8 [255, 254] 5 (2, 3)
    rw [hW]
    simpa using this
  obtain ⟨V, hV⟩ : ∃ V, V = W.alloc (.cells #[.int .u8 254, .int .u8 255] 5 (2, 3)) := ⟨_, rfl⟩
  have hbV : Below W.heap.size W V := by rw [hV]; exact (Below.refl _ W).alloc (Nat.le_refl _) _
  have hsV : V.heap.size = W.heap.size + 1 := by rw [hV]; simp
  have hdV : Doc4 V w.heap.size := hdW.keep (hbV.block _ (by omega))
  have hmV : RI .u8 V (W.heap.size + 1) (some ⟨w.heap.size + 2, 0, none⟩) 2 [254, 255] := by
    rw [hV, ← hsW]
    exact RI.laid W .u8 [254, 255] 5 (2, 3)
  have kv := constConv2 W (w.heap.size + 2) hsW
  have HM := Lib.hid hmW
  have HMV := Lib.hid hmV
  have HXV := Lib.hid ((hx.on hbW hB).on hbV (by omega))
  have HX := Lib.hid (hx.on hbW hB)
  have HZ := Lib.hid hz
  have HP := Lib.hid hp
  have HQ := Lib.hid hq
  clear hx hz hp hmW hmV hdW hq
  go_enter Tryd.func31, Tryd.ntmps31
  go_wp2_with fail
  rw [← hW]
  clear hW kc
  with_reducible refine (cut_no W B (w.heap.size + 2) A (some ⟨w.heap.size + 1, 0, none⟩) n c zs 255 254 HX.out HM.out HZ.out bd_le hnc hc HP.out).mono ?_
  rintro e w1 ⟨rfl, rfl⟩
  go_wp2_with fail
  rw [← hV]
  clear hV kv
  with_reducible refine (cut_no V B (W.heap.size + 1) A (some ⟨w.heap.size + 2, 0, none⟩) n c zs 254 255 HXV.out HMV.out HZ.out bd_be hnc hc HQ.out).mono ?_
  rintro e w1 ⟨rfl, rfl⟩
  go_wp2_with fail
  with_reducible refine (U.decode_any true V B A n c zs HXV.out (by omega) HZ.out hnc (by omega) hc).mono ?_
  rintro e w2 ⟨v2, rfl, hown2, hb2⟩
  have hle := U.dec_len true zs
  obtain ⟨A2, c2, rfl, h2c, h2m, _⟩ := own_slice2 hown2
  obtain ⟨d0, d1, d2, d3, df⟩ := hdV.keep (w' := w2) (hb2.block _ (by omega))
  have HO2 := Lib.hid hown2
  have f0 := df 0
  have f1 := df 1
  have f2 := df 2
  have f3 := df 3
  clear hown2 hdV df
  go_wp2
  refine bodyPost_ret (v := .agg #[.int .u8 2, .bool true, .bool false, .slice A2 (U.dec true zs).length c2]) ?_ rfl ?_
  · simp [results, Tryd.results31, go_sem, *]
  · exact putDoc_told (base := V.heap.size) hle (by rw [cellsD_no HP.out HQ.out]; exact HO2.out) (by omega) (Nat.le_refl _) ((hbW.trans (hbV.mono (by omega))).trans (hb2.mono (by omega))) true false (bigB_be HP.out) ((bomB_be HP.out).trans HQ.out) _ _ _ _

theorem decodeMarked_any (w : World) (B : Nat) (A : Option Addr) (n c : Nat) (zs : List Int) (hx : RI .u8 w B A n zs) (hB : B ≤ w.heap.size) (hz : Bd zs) (hnc : n ≤ c) (hn : n ≤ 1073741824) (hc : c ≤ maxLen) :
    Calls Tryd.prog 31 #[.slice A n c] w (DocTold 2 zs w) := by
  cases hp : preB 255 254 zs with
  | true => exact decodeMarked_le w B A n c zs hx hB hz hnc hn hc hp
  | false =>
    cases hq : preB 254 255 zs with
    | true => exact decodeMarked_be w B A n c zs hx hB hz hnc hn hc hp hq
    | false => exact decodeMarked_no w B A n c zs hx hB hz hnc hn hc hp hq
end Go.Proofs.YtijlecfjgcohhaaDoor.C
