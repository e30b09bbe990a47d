/-
  Contract of codec.Decode where there is no such encoding: the error; nothing that was there changes. No condition.
-/
import Derived.Test.YtijlecfjgcohhaaDoorCdcE
namespace Go.Proofs.YtijlecfjgcohhaaDoor.C
open Go.RowKit

set_option maxRecDepth 100000 in
set_option maxHeartbeats 1000000 in
theorem decodeC_none (w : World) (k : Int) (v : Value) (h1 : k ≠ 1) (h2 : k ≠ 2) (h3 : k ≠ 3) :
    Calls Tryd.prog 10 #[.int .u8 k, v] w fun e w' => e = .returned (.tuple #[.agg #[.int .u8 0, .bool false, .bool false, .slice none 0 0], .int .u16 1]) ∧ Below w.heap.size w w' := by
  have hst := @run_store_nilFunc Tryd.prog
  have b1 : (k == 1) = false := by simp [h1]
  have b2 : (k == 2) = false := by simp [h2]
  have b3 : (k == 3) = false := by simp [h3]
  obtain ⟨W, hW⟩ : ∃ W, W = w.alloc (.cells #[.int .u8 0, .bool false, .bool false, .slice none 0 0] 26) := ⟨_, rfl⟩
  have hbW : Below w.heap.size w W := by rw [hW]; exact (Below.refl _ w).alloc (Nat.le_refl _) _
  have hsW : W.heap.size = w.heap.size + 1 := by rw [hW]; simp
  have hdW : Doc4 W w.heap.size := by rw [hW]; exact Doc4.new w _
  go_enter Tryd.func10, Tryd.ntmps10
  go_wp2_with fail
  rw [← hW]
  clear hW
  with_reducible refine (encodings_any W).mono ?_
  rintro e w1 ⟨b, v1, v2, v3, v4, rfl, hm, hd1, he2, hd3, he4, hb1⟩
  have hs1 := hb1.size
  have hlk := lookNo w1 b _ 3 k hm (by simp [Instr.findNow, Instr.sameNow, b1, b2, b3])
  obtain ⟨d0, d1, d2, d3, df⟩ := hdW.keep (w' := w1) (hb1.block _ (by omega))
  have hbV : Below w.heap.size w w1 := hbW.trans (hb1.mono (by omega))
  have hsV : w.heap.size < w1.heap.size := by omega
  have f0 := df 0
  have f1 := df 1
  have f2 := df 2
  have f3 := df 3
  clear hm hd1 he2 hd3 he4 hdW df b1 b2 b3
  go_wp2
  refine bodyPost_ret (v := .tuple #[.agg #[.int .u8 0, .bool false, .bool false, .slice none 0 0], .int .u16 1]) ?_ rfl ?_
  · simp [results, Tryd.results10, go_sem, *]
  · have h := putDoc_below hbV (b := w.heap.size) (Nat.le_refl _) (.int .u8 0) (.bool false) (.bool false) (.slice none 0 0)
    exact ⟨rfl, h.alloc h.size _⟩
end Go.Proofs.YtijlecfjgcohhaaDoor.C
