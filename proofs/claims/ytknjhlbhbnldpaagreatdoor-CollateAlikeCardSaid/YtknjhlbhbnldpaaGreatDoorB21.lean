/-
  Joined: KoN. Each with what its own head says.
-/
import Derived.Test.YtknjhlbhbnldpaaGreatDoorB19

namespace Go.Proofs.YtknjhlbhbnldpaaGreatDoor.C
open Go.RowKit

def plainCls : List Cls := [⟨[117, 112, 112, 101, 114], [(65, 90)]⟩, ⟨[108, 111, 119, 101, 114], [(97, 122)]⟩, ⟨[97, 108, 112, 104, 97], [(65, 90), (97, 122)]⟩, ⟨[100, 105, 103, 105, 116], [(48, 57)]⟩, ⟨[97, 108, 110, 117, 109], [(48, 57), (65, 90), (97, 122)]⟩, ⟨[115, 112, 97, 99, 101], [(9, 13), (32, 32)]⟩, ⟨[98, 108, 97, 110, 107], [(9, 9), (32, 32)]⟩, ⟨[112, 117, 110, 99, 116], [(33, 47), (58, 64), (91, 96), (123, 126)]⟩, ⟨[112, 114, 105, 110, 116], [(32, 126)]⟩, ⟨[103, 114, 97, 112, 104], [(33, 126)]⟩, ⟨[99, 110, 116, 114, 108], [(0, 31), (127, 127)]⟩, ⟨[120, 100, 105, 103, 105, 116], [(48, 57), (65, 70), (97, 102)]⟩]
set_option maxRecDepth 100000 in
theorem span_any (a b : Int) (w : World) : Calls Tryz.prog 73 #[.int .i32 a, .int .i32 b] w fun e w' => e = .returned (.agg #[.int .i32 a, .int .i32 b]) ∧ Below w.heap.size w w' := by
 go_enter Tryz.func73, Tryz.ntmps73
 go_wp2
 refine bodyPost_ret (v := .agg #[.int .i32 a, .int .i32 b]) (by simp [results, Tryz.results73, go_sem]) rfl ⟨rfl, ?_⟩
 exact (Below.refl _ _).alloc (Nat.le_refl _) _
set_option maxRecDepth 100000 in
theorem class_any (s : ByteArray) (A : Option Addr) (n c : Nat) (w : World) : Calls Tryz.prog 74 #[.string s, .slice A n c] w fun e w' => e = .returned (.agg #[.string s, .slice A n c]) ∧ Below w.heap.size w w' := by
 go_enter Tryz.func74, Tryz.ntmps74
 go_wp2
 refine bodyPost_ret (v := .agg #[.string s, .slice A n c]) (by simp [results, Tryz.results74, go_sem]) rfl ⟨rfl, ?_⟩
 exact (Below.refl _ _).alloc (Nat.le_refl _) _
def OwnAll (W : World) (B : Nat) (L : List (Value × List (Int × Int))) : Prop := ∀ p ∈ L, W.ownsRow B 109 2 p.1 p.2.length (prsC p.2)
theorem OwnAll.next {W W' : World} {B : Nat} {L : List (Value × List (Int × Int))} (h : OwnAll W B L) (hb : Below W.heap.size W W') : OwnAll W' B L := fun p hp => own_next (h p hp) hb
theorem own_newK {W : World} {B n sz : Nat} {e : TypeId} {l : List Value} (hB : B ≤ W.heap.size) (hl : l.length = n * sz) (hn : n ≤ maxLen) : (W.alloc (.cells l.toArray e)).ownsRow B e sz (.slice (some ⟨W.heap.size, 0, none⟩) n n) n l :=
 ⟨hl, .inr ⟨W.heap.size, n, l.toArray, rfl, hB, heap_alloc_new W _, Nat.le_refl _, hn, by simpa using hl, by rw [List.toList_toArray, List.take_of_length_le (by omega)]⟩⟩
theorem OwnAll.cons {W : World} {B n : Nat} {L : List (Value × List (Int × Int))} (rs : List (Int × Int)) (h : OwnAll W B L) (hB : B ≤ W.heap.size) (hn : rs.length = n) (hm : n ≤ maxLen) : OwnAll (W.alloc (.cells (prsC rs).toArray 109)) B (L ++ [(.slice (some ⟨W.heap.size, 0, none⟩) n n, rs)]) := by
 intro p hp
 rcases List.mem_append.1 hp with hp | hp
 ·exact own_next (h p hp) ((Below.refl _ _).alloc (Nat.le_refl _) _)
 ·rw [List.mem_singleton] at hp
  subst hp
  subst hn
  exact own_newK hB (by rw [prsC_flat, flat_lenK (sz := 2) (by intro x hx; obtain ⟨y, _, rfl⟩ := List.mem_map.1 hx; rfl), List.length_map]) hm
structure Fp where
 b1 : Bool
 b2 : Bool
 b3 : Bool
 b4 : Bool
 b5 : Bool
 c1 : Bool
 c2 : Bool
 c3 : Bool
 c4 : Bool
 c5 : Bool
def Fp.left (f : Fp) : Nat := (!f.b1).toNat + (!f.b2).toNat + (!f.b3).toNat + (!f.b4).toNat + (!f.b5).toNat + (!f.c1).toNat + (!f.c2).toNat + (!f.c3).toNat + (!f.c4).toNat + (!f.c5).toNat
def Fp.arr (f : Fp) : Array Bool := #[true, f.b1, f.c1, true, f.b2, f.c2, true, true, f.b3, f.c3, true, f.b4, f.c4, true, true, true, f.b5, f.c5, false, true, false, false, false, true, false, false, false, false, false, false, false, false, false, false, false, false, false, false, false, false, false, false, true, false, false, false, false, false, false]
def Fp.ok (f : Fp) : Nat → Bool
 | 1 => !f.b1
 | 4 => !f.b2
 | 8 => !f.b3
 | 11 => !f.b4
 | 16 => !f.b5
 | 2 => f.b1 && !f.c1
 | 5 => f.b2 && f.c1 && !f.c2
 | 9 => f.b3 && f.c2 && !f.c3
 | 12 => f.b4 && f.c3 && !f.c4
 | 17 => f.b5 && f.c4 && !f.c5
 | 18 => f.left == 0
 | _ => false
def Fp.fit (f : Fp) : Bool := (!f.c1 || (f.b1)) && (!f.c2 || (f.b2 && f.c1)) && (!f.c3 || (f.b3 && f.c2)) && (!f.c4 || (f.b4 && f.c3)) && (!f.c5 || (f.b5 && f.c4))
noncomputable def pcOps : Array Oper := match Tryz.f34.body with | some (.seq _ (.seq _ (.seq _ (.seq (.region _ ops _) _)))) => ops | _ => #[]
set_option maxHeartbeats 4000000 in
theorem pc_ready0 : ∀ b1 b2 b3 b4 b5 c1 c2 c3 c4 c5 : Bool, ((!(Fp.fit ⟨b1, b2, b3, b4, b5, c1, c2, c3, c4, c5⟩)) || ((Region.ready .any pcOps (Fp.arr ⟨b1, b2, b3, b4, b5, c1, c2, c3, c4, c5⟩)).all (Fp.ok ⟨b1, b2, b3, b4, b5, c1, c2, c3, c4, c5⟩) && ((Fp.left ⟨b1, b2, b3, b4, b5, c1, c2, c3, c4, c5⟩ == 0) || !(Region.ready .any pcOps (Fp.arr ⟨b1, b2, b3, b4, b5, c1, c2, c3, c4, c5⟩)).isEmpty))) = true := by decide +kernel
theorem pc_ready (f : Fp) (h : f.fit = true) : (Region.ready .any pcOps f.arr).all f.ok = true ∧ ((f.left == 0) || !(Region.ready .any pcOps f.arr).isEmpty) = true := by
 have := pc_ready0 f.b1 f.b2 f.b3 f.b4 f.b5 f.c1 f.c2 f.c3 f.c4 f.c5
 rw [show Fp.fit ⟨f.b1, f.b2, f.b3, f.b4, f.b5, f.c1, f.c2, f.c3, f.c4, f.c5⟩ = true from h, Bool.not_true, Bool.false_or, Bool.and_eq_true] at this
 exact this
structure PcI (w0 : World) (f : Fp) (x10 x11 x13 x14 x17 x18 x20 x21 x25 x26 : Value) (W : World) : Prop where
 bel : Below w0.heap.size w0 W
 fit : f.fit = true
 hb1 : f.b1 = true → (∃ g c, x10 = .slice (some ⟨g, 0, none⟩) 1 c) ∧ W.ownsRow w0.heap.size 109 2 x10 1 (prsC [(65, 90)])
 hb2 : f.b2 = true → (∃ g c, x13 = .slice (some ⟨g, 0, none⟩) 1 c) ∧ W.ownsRow w0.heap.size 109 2 x13 1 (prsC [(97, 122)])
 hb3 : f.b3 = true → (∃ g c, x17 = .slice (some ⟨g, 0, none⟩) 2 c) ∧ W.ownsRow w0.heap.size 109 2 x17 2 (prsC [(65, 90), (97, 122)])
 hb4 : f.b4 = true → (∃ g c, x20 = .slice (some ⟨g, 0, none⟩) 1 c) ∧ W.ownsRow w0.heap.size 109 2 x20 1 (prsC [(48, 57)])
 hb5 : f.b5 = true → (∃ g c, x25 = .slice (some ⟨g, 0, none⟩) 3 c) ∧ W.ownsRow w0.heap.size 109 2 x25 3 (prsC [(48, 57), (65, 90), (97, 122)])
 hc1 : f.c1 = true → x11 = .agg #[.string ⟨#[117, 112, 112, 101, 114]⟩, x10]
 hc2 : f.c2 = true → x14 = .agg #[.string ⟨#[108, 111, 119, 101, 114]⟩, x13]
 hc3 : f.c3 = true → x18 = .agg #[.string ⟨#[97, 108, 112, 104, 97]⟩, x17]
 hc4 : f.c4 = true → x21 = .agg #[.string ⟨#[100, 105, 103, 105, 116]⟩, x20]
 hc5 : f.c5 = true → x26 = .agg #[.string ⟨#[97, 108, 110, 117, 109]⟩, x25]
theorem PcI.next {w0 W W' : World} {f : Fp} {x10 x11 x13 x14 x17 x18 x20 x21 x25 x26 : Value} (h : PcI w0 f x10 x11 x13 x14 x17 x18 x20 x21 x25 x26 W) (hb : Below W.heap.size W W') : PcI w0 f x10 x11 x13 x14 x17 x18 x20 x21 x25 x26 W' :=
 ⟨h.bel.trans (hb.mono h.bel.size), h.fit, fun e => ⟨(h.hb1 e).1, own_next (h.hb1 e).2 hb⟩, fun e => ⟨(h.hb2 e).1, own_next (h.hb2 e).2 hb⟩, fun e => ⟨(h.hb3 e).1, own_next (h.hb3 e).2 hb⟩, fun e => ⟨(h.hb4 e).1, own_next (h.hb4 e).2 hb⟩, fun e => ⟨(h.hb5 e).1, own_next (h.hb5 e).2 hb⟩, h.hc1, h.hc2, h.hc3, h.hc4, h.hc5⟩
def pcAct (p1 p2 p3 p4 : Nat) (x10 x11 x13 x14 x17 x18 x20 x21 x25 x26 : Value) : Act := { tmps := #[.slice none 0 0, .pointer (some ⟨p1, 0, none⟩), .pointer (some ⟨p2, 0, none⟩), .pointer (some ⟨p3, 0, none⟩), .pointer (some ⟨p4, 0, none⟩), .agg #[.int .i32 65, .int .i32 90], .agg #[.int .i32 97, .int .i32 122], .agg #[.int .i32 48, .int .i32 57], .agg #[.int .i32 32, .int .i32 32], .agg #[.int .i32 65, .int .i32 90], x10, x11, .agg #[.int .i32 97, .int .i32 122], x13, x14, .agg #[.int .i32 65, .int .i32 90], .agg #[.int .i32 97, .int .i32 122], x17, x18, .agg #[.int .i32 48, .int .i32 57], x20, x21, .agg #[.int .i32 48, .int .i32 57], .agg #[.int .i32 65, .int .i32 90], .agg #[.int .i32 97, .int .i32 122], x25, x26, undef, .agg #[.int .i32 32, .int .i32 32], undef, undef, undef, .agg #[.int .i32 32, .int .i32 32], undef, undef, undef, undef, undef, undef, undef, undef, undef, undef, undef, undef, undef, undef, undef, undef, undef, undef, .agg #[.int .i32 48, .int .i32 57], undef, undef, undef, undef, undef], defers := [] }
def PcS (p1 p2 p3 p4 : Nat) : World → Prop := fun W' => W'.cell? ⟨p1, 0, none⟩ = some (.int .i32 65) ∧ W'.cell? ⟨p1, 1, none⟩ = some (.int .i32 90) ∧ W'.cell? ⟨p2, 0, none⟩ = some (.int .i32 97) ∧ W'.cell? ⟨p2, 1, none⟩ = some (.int .i32 122) ∧ W'.cell? ⟨p3, 0, none⟩ = some (.int .i32 48) ∧ W'.cell? ⟨p3, 1, none⟩ = some (.int .i32 57) ∧ W'.cell? ⟨p4, 0, none⟩ = some (.int .i32 32) ∧ W'.cell? ⟨p4, 1, none⟩ = some (.int .i32 32)
theorem PcS.next {p1 p2 p3 p4 : Nat} {W W' : World} (h : PcS p1 p2 p3 p4 W) (hb : Below W.heap.size W W') : PcS p1 p2 p3 p4 W' := ⟨below_cell hb h.1, below_cell hb h.2.1, below_cell hb h.2.2.1, below_cell hb h.2.2.2.1, below_cell hb h.2.2.2.2.1, below_cell hb h.2.2.2.2.2.1, below_cell hb h.2.2.2.2.2.2.1, below_cell hb h.2.2.2.2.2.2.2⟩
def PcQ (w0 : World) (p1 p2 p3 p4 : Nat) (n : Nat) (listed : Array Bool) (a : Act) (W : World) : Prop := ∃ (f : Fp) (x10 x11 x13 x14 x17 x18 x20 x21 x25 x26 : Value), n = f.left ∧ listed = f.arr ∧ a = pcAct p1 p2 p3 p4 x10 x11 x13 x14 x17 x18 x20 x21 x25 x26 ∧ PcS p1 p2 p3 p4 W ∧ PcI w0 f x10 x11 x13 x14 x17 x18 x20 x21 x25 x26 W
end Go.Proofs.YtknjhlbhbnldpaaGreatDoor.C
