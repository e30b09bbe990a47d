/-
  Lengths of a set without texts at one cell, with a table or without; two sets, of which one is not the other. Condition: no more of the table than 1000000000.
-/
import Derived.Test.YthgiikhkcpbpfaaGreatDoorQBaV
namespace Go.Proofs.YthgiikhkcpbpfaaGreatDoor.C
open Go.RowKit

def ksB (L : Loc) (f : Bool) (x : Int) : List Int := if f then foldL L x else [x]
def takeB (L : Loc) (f : Bool) (rs : List (Int × Int)) (x : Int) : Bool := (ksB L f x).any fun c => rs.any (inB c)
def byB (f : Bool) (T : Nat) : Option Addr := if f then some ⟨T, 0, none⟩ else none
theorem TabU.more {F : Nat} {w : World} {T : Nat} {L : Loc} {m m' : Nat} (h : TabU F w T L m) (hm : m ≤ m') : TabU F w T L m' := by
 obtain ⟨n, n0, n1, ht⟩ := h
 exact ⟨n, n0, by omega, ht⟩
theorem foldL_len5 (L : Loc) (c : Int) : (foldL L c).length ≤ 5 := rise_len _
theorem lensF_any (w : World) (f no : Bool) (vR : Value) (rs : List (Int × Int)) (AT Al : Option Addr) (cT cl B lo T m : Nat) (x : Int) (L : Loc)
  (hr : w.ownsRow lo 46 2 vR rs.length (prsC rs)) (hT : T < lo) (hl : RI .i32 w B Al 1 [x]) (hB : B ≤ w.heap.size) (hcl : 1 ≤ cl) (hlT : ∀ ad, Al = some ad → ad.block ≠ T) (ht : TabU T w T L m) (hm : m ≤ 1000000000) (hR : rightL L = true) :
  Calls Tryz.prog 10 #[.agg #[.bool no, vR, .slice AT 0 cT], .slice Al 1 cl, .int .i64 0, .pointer (byB f T)] w fun e w' => (∃ A c, e = .returned (.slice A (lenN (takeB L f rs x != no)) c)) ∧ TabU T w' T L (m + 1) ∧ Fr w w' (· = T) := by
 have hn : rs.length ≤ maxLen := own_len hr
 cases f
 ·refine (lensN_any w no vR rs AT Al cT cl B lo x _ hr hl hB hcl rfl).mono ?_
  rintro e w' ⟨⟨A, c, rfl, -⟩, hb⟩
  refine ⟨⟨A, c, ?_⟩, (ht.keep hb).more (by omega), .of_below hb⟩
  simp [takeB, ksB]
 ·refine (lens1_any w no vR rs AT Al (some ⟨T, 0, none⟩) cT cl B lo x (foldL L x) (· = T) (fun W => TabU T W T L (m + 1)) _ hr ?_ ?_ hl hB hcl hlT (by have := foldL_len5 L x; omega) hn ?_ rfl ?_).mono ?_
  ·rintro g hg rfl
   have := own_ge hr hg
   omega
  ·rintro g rfl
   exact ht.lt
  ·intro W W' h hb
   exact h.keep hb
  ·intro W hb
   exact counted_tab W T m L x (ht.keep hb) hm hR
  ·rintro e w' ⟨⟨A, c, rfl, -⟩, h2, h3⟩
   exact ⟨⟨A, c, rfl⟩, h2, h3⟩
structure TwoS (w : World) (L : Loc) (T m P Q lo : Nat) (no : Bool) (vR : Value) (AT : Option Addr) (cT : Nat) (rs : List (Int × Int)) : Prop where
 p : BrkZ w P (.bool no) vR (.slice AT 0 cT)
 q : BrkZ w Q (.bool (!no)) vR (.slice AT 0 cT)
 r : w.ownsRow lo 46 2 vR rs.length (prsC rs)
 t : TabU T w T L m
 tl : T < lo
 tp : T ≠ P
 tq : T ≠ Q
section
variable {w w' : World} {L : Loc} {T m P Q lo : Nat} {no : Bool} {vR : Value} {AT : Option Addr} {cT : Nat} {rs : List (Int × Int)}
theorem TwoS.below (h : TwoS w L T m P Q lo no vR AT cT rs) (hb : Below w.heap.size w w') : TwoS w' L T m P Q lo no vR AT cT rs :=
 ⟨(hb.block _ h.p.lt).trans h.p, (hb.block _ h.q.lt).trans h.q, own_next h.r hb, h.t.keep hb, h.tl, h.tp, h.tq⟩
theorem TwoS.turn {m' : Nat} (h : TwoS w L T m P Q lo no vR AT cT rs) (hf : Fr w w' (· = T)) (ht : TabU T w' T L m') : TwoS w' L T m' P Q lo no vR AT cT rs :=
 ⟨(hf.block _ h.p.lt (Ne.symm h.tp)).trans h.p, (hf.block _ h.q.lt (Ne.symm h.tq)).trans h.q, ownsRow_fr h.r hf (fun g hg e => by have := own_ge h.r hg; have := h.tl; omega), ht, h.tl, h.tp, h.tq⟩
theorem TwoS.cells (h : TwoS w L T m P Q lo no vR AT cT rs) : (w.cell? ⟨P, 0, none⟩ = some (.bool no) ∧ w.cell? ⟨P, 1, none⟩ = some vR ∧ w.cell? ⟨P, 2, none⟩ = some (.slice AT 0 cT)) ∧ w.cell? ⟨Q, 0, none⟩ = some (.bool (!no)) ∧ w.cell? ⟨Q, 1, none⟩ = some vR ∧ w.cell? ⟨Q, 2, none⟩ = some (.slice AT 0 cT) := ⟨h.p.cells, h.q.cells⟩
theorem TwoS.cells6 (h : TwoS w L T m P Q lo no vR AT cT rs) : w.cell? ⟨P, 0, none⟩ = some (.bool no) ∧ w.cell? ⟨P, 1, none⟩ = some vR ∧ w.cell? ⟨P, 2, none⟩ = some (.slice AT 0 cT) ∧ w.cell? ⟨Q, 0, none⟩ = some (.bool (!no)) ∧ w.cell? ⟨Q, 1, none⟩ = some vR ∧ w.cell? ⟨Q, 2, none⟩ = some (.slice AT 0 cT) := ⟨h.p.cells.1, h.p.cells.2.1, h.p.cells.2.2, h.q.cells⟩
theorem TwoS.lens (h : TwoS w L T m P Q lo no vR AT cT rs) (f b : Bool) (x : Int) (Al : Option Addr) (cl B : Nat) (hl : RI .i32 w B Al 1 [x]) (hB : B ≤ w.heap.size) (hcl : 1 ≤ cl) (hlT : ∀ ad, Al = some ad → ad.block ≠ T) (hm : m ≤ 1000000000) (hR : rightL L = true) :
  Calls Tryz.prog 10 #[.agg #[.bool b, vR, .slice AT 0 cT], .slice Al 1 cl, .int .i64 0, .pointer (byB f T)] w fun e w' => (∃ A c, e = .returned (.slice A (lenN (takeB L f rs x != b)) c)) ∧ TwoS w' L T (m + 1) P Q lo no vR AT cT rs ∧ Fr w w' (· = T) := by
 refine (lensF_any w f b vR rs AT Al cT cl B lo T m x L h.r h.tl hl hB hcl hlT h.t hm hR).mono ?_
 rintro e w' ⟨h1, h2, h3⟩
 exact ⟨h1, h.turn h3 h2, h3⟩
end
theorem lenN_two (d no : Bool) : IntKind.i64.wrap ((lenN (d != no) : Int) + (lenN (d != !no) : Int)) = 1 := by
 cases d <;> cases no <;> rfl
end Go.Proofs.YthgiikhkcpbpfaaGreatDoor.C
