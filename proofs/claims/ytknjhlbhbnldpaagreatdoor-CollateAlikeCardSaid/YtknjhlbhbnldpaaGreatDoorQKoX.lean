/-
  What the laws of layer 8 have in common: rows of bytes that came in; the statements' locale, as a table is made of it. No condition but what each names.
-/
import Derived.Test.YtknjhlbhbnldpaaGreatDoorQKoW
import Derived.Test.YtknjhlbhbnldpaaGreatDoorB20
import Derived.Test.YtknjhlbhbnldpaaGreatDoorB22
import Derived.Test.YtknjhlbhbnldpaaGreatDoorB24
namespace Go.Proofs.YtknjhlbhbnldpaaGreatDoor.C
open Go.RowKit

theorem row_len {ki : IntKind} {w : World} {a : Option Addr} {len cap : Nat} {zs : List Int} (h : L.IsRow ki w a len cap zs) : len ≤ cap ∧ cap ≤ maxLen := by
 rcases h with ⟨rfl, rfl, rfl, rfl⟩ | ⟨x, rfl, hl, hm, hz, hc, _⟩
 ·exact ⟨Nat.le_refl _, Nat.zero_le _⟩
 ·exact ⟨hl, hm⟩
theorem row_u8 {w : World} {a : Option Addr} {len cap : Nat} {zs : List Int} (h : L.IsRow .u8 w a len cap zs) : ∀ z ∈ zs.take len, 0 ≤ z ∧ z ≤ 255 := by
 rcases h with ⟨rfl, rfl, rfl, rfl⟩ | ⟨x, rfl, hl, hm, hz, hc, hw⟩
 ·intro z hz; simp at hz
 ·intro z hz
  exact bounds_u8 (hw z (List.mem_of_mem_take hz))
theorem byte_in {a : Int} (h : (Lit.int .u8 a).wf = true) : 0 ≤ a ∧ a < 256 := by
 have hmin : IntKind.u8.min = 0 := rfl
 have hmax : IntKind.u8.max = 255 := rfl
 simp only [Lit.wf, Bool.and_eq_true, decide_eq_true_eq] at h
 omega
theorem i32_in {a : Int} (h : (Lit.int .i32 a).wf = true) : -2147483648 ≤ a ∧ a < 2147483648 := by
 have hmin : IntKind.i32.min = -2147483648 := rfl
 have hmax : IntKind.i32.max = 2147483647 := rfl
 simp only [Lit.wf, Bool.and_eq_true, decide_eq_true_eq] at h
 omega
theorem RI.on {ki : IntKind} {w w' : World} {B B' n : Nat} {A : Option Addr} {zs : List Int} (h : RI ki w B A n zs) (hb : Below B' w w') (hB : B ≤ B') : RI ki w' B A n zs := h.keep fun p hp => hb.cell (p := p) (by omega)
theorem own_apart {w w' : World} {T n sz : Nat} {A : Option Addr} {c : Nat} {xs : List Value} {e : TypeId} (h : w'.ownsRow w.heap.size e sz (.slice A n c) n xs) (hT : T < w.heap.size) (hn : 0 < n) : ∀ ad, A = some ad → ad.block ≠ T := by
 intro ad ha
 obtain ⟨g, cap, hv, hg, hlt⟩ := h.form hn
 subst ha
 injection hv with hv
 injection hv with hv
 subst hv
 simp only
 omega
theorem genL_new (zs : List Int) (hb : Byt zs) : NewOk (genL zs) := by
 obtain ⟨hs, _⟩ := genL_small zs hb
 refine ⟨⟨by have := hs.fc; omega, fun e he => ⟨by have := (hs.n1 e he).1; omega, ?_⟩⟩, by have := hs.fu; omega, by have := hs.fl; omega, fun e he => by have := hs.n2 e he; omega⟩
 have := (clsG_rs _ _ e he).2
 omega
theorem genL_locR {w : World} {lo : Nat} {v1 v2 v3 v4 : Value} {zs : List Int} (hb : Byt zs) (h : LocAt w lo v1 v2 v3 v4 (genL zs)) : LocR w w.heap.size v1 v2 v3 v4 (genL zs) := by
 obtain ⟨_, g1, g2, _⟩ := genL_ok zs hb
 exact LocR.of h (fun c hc => by have := g1 c hc; unfold maxLen; omega) (fun e he => by have := g2 e he; unfold maxLen; omega)
theorem genL_right {zs : List Int} (hb : Byt zs) : rightL (genL zs) = true := (genL_ok zs hb).1
end Go.Proofs.YtknjhlbhbnldpaaGreatDoor.C
