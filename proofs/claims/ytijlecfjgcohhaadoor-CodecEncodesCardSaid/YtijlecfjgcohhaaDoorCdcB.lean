/-
  Contracts of the library's bytes.Equal, HasPrefix and CutPrefix where the prefix has two bytes, and of codec.markOf. No condition.
-/
import Derived.Test.YtijlecfjgcohhaaDoorCdI
import Derived.Lib.SlBytesConst
import Derived.Lib.SlicesS
import Derived.ArgAppend
namespace Go.Proofs.YtijlecfjgcohhaaDoor.C
open Go.RowKit

theorem sb_same {xs ys : List Int} (hx : Bd xs) (hy : Bd ys) : decide (sb xs = sb ys) = decide (xs = ys) := by
  by_cases h : xs = ys
  · subst h; simp
  · rw [decide_eq_false h, decide_eq_false (fun e => h (sb_inj hx hy e))]

set_option maxRecDepth 100000 in
theorem bytesEqual_is (w : World) (Bx By : Nat) (Ax Ay : Option Addr) (n cx m cy : Nat) (xs ys : List Int) (hx : RI .u8 w Bx Ax n xs) (hy : RI .u8 w By Ay m ys) (bx : Bd xs) (by_ : Bd ys) (r : Bool) (hr : decide (xs = ys) = r) :
    Calls Tryd.prog 74 #[.slice Ax n cx, .slice Ay m cy] w fun e w' => e = .returned (.bool r) ∧ w = w' := by
  have h1 := conv_ri hx cx
  have h2 := conv_ri hy cy
  have hs := sb_same bx by_
  rw [hr] at hs
  have HS := Lib.hid hs
  clear hs hr hx hy bx by_
  go_enter Tryd.func74, Tryd.ntmps74
  go_wp2
  go_ret
  refine ⟨?_, rfl⟩
  have := HS.out
  rw [← this]
  have hb : ((sb xs).toList == (sb ys).toList) = decide (sb xs = sb ys) := by
    by_cases h : sb xs = sb ys
    · rw [decide_eq_true h, (Lib.bytes_beq_iff _ _).2 h]
    · rw [decide_eq_false h, (Lib.bytes_beq_false_iff _ _).2 h]
  simpa using hb

/-- do these begin so? -/
def preB (p0 p1 : Int) (zs : List Int) : Bool := decide (zs.take 2 = [p0, p1])
theorem pre_len {p0 p1 : Int} {zs : List Int} (h : preB p0 p1 zs = true) : 2 ≤ zs.length := by
  have := of_decide_eq_true h
  have hl := congrArg List.length this
  simp at hl
  omega
theorem RI.part {ki : IntKind} {w : World} {B n m : Nat} {A : Option Addr} {zs : List Int} (h : RI ki w B A n zs) (hm : m ≤ n) : RI ki w B A m (zs.take m) := h.front hm

set_option maxRecDepth 100000 in
theorem hasPrefix_is (w : World) (B Bp : Nat) (A Ap : Option Addr) (n c : Nat) (zs : List Int) (p0 p1 : Int) (hx : RI .u8 w B A n zs) (hp : RI .u8 w Bp Ap 2 [p0, p1]) (hz : Bd zs) (hpb : Bd [p0, p1]) (hnc : n ≤ c) (hc : c ≤ maxLen) (r : Bool) (hr : preB p0 p1 zs = r) :
    Calls Tryd.prog 65 #[.slice A n c, .slice Ap 2 2] w fun e w' => e = .returned (.bool r) ∧ w = w' := by
  unfold maxLen at hc
  by_cases h2 : 2 ≤ n
  · obtain ⟨ad, u, rfl, hbl, hu, hcell⟩ := hx.at_ (k := 0) (by omega)
    have hf := hx.front h2
    clear hu hcell hbl
    have HF := Lib.hid hf
    have HP := Lib.hid hp
    have HZ := Lib.hid hz
    have HPB := Lib.hid hpb
    have HR := Lib.hid (show decide (zs.take 2 = [p0, p1]) = r from hr)
    clear hf hx hz hp hpb hr
    have t1 : (2 : Int) ≤ (n : Int) := by omega
    have t2 : (2 : Int) ≤ (c : Int) := by omega
    go_enter Tryd.func65, Tryd.ntmps65
    go_wp2_with fail
    with_reducible refine (bytesEqual_is w B Bp (some ad) Ap 2 c 2 2 (zs.take 2) [p0, p1] HF.out HP.out (bd_take HZ.out 2) HPB.out r HR.out).mono ?_
    rintro e w' ⟨rfl, rfl⟩
    go_wp2
    go_ret
    exact ⟨rfl, rfl⟩
  · have hrf : r = false := by
      rw [← hr]
      cases h : preB p0 p1 zs with
      | false => rfl
      | true => exact absurd (hx.len ▸ pre_len h) h2
    subst hrf
    have t1 : ¬ (2 : Int) ≤ (n : Int) := by omega
    clear hr hx hz hp hpb h2
    go_enter Tryd.func65, Tryd.ntmps65
    go_wp2
    go_ret
    exact ⟨rfl, rfl⟩

set_option maxRecDepth 100000 in
theorem cut_no (w : World) (B Bp : Nat) (A Ap : Option Addr) (n c : Nat) (zs : List Int) (p0 p1 : Int) (hx : RI .u8 w B A n zs) (hp : RI .u8 w Bp Ap 2 [p0, p1]) (hz : Bd zs) (hpb : Bd [p0, p1]) (hnc : n ≤ c) (hc : c ≤ maxLen) (hr : preB p0 p1 zs = false) :
    Calls Tryd.prog 47 #[.slice A n c, .slice Ap 2 2] w fun e w' => e = .returned (.tuple #[.slice A n c, .bool false]) ∧ w = w' := by
  go_enter Tryd.func47, Tryd.ntmps47
  go_wp2_with fail
  with_reducible refine (hasPrefix_is w B Bp A Ap n c zs p0 p1 hx hp hz hpb hnc hc false hr).mono ?_
  rintro e w' ⟨rfl, rfl⟩
  go_wp2
  go_ret2
  exact ⟨rfl, rfl⟩

set_option maxRecDepth 100000 in
theorem cut_yes (w : World) (B Bp : Nat) (A Ap : Option Addr) (n c : Nat) (zs : List Int) (p0 p1 : Int) (hx : RI .u8 w B A n zs) (hp : RI .u8 w Bp Ap 2 [p0, p1]) (hz : Bd zs) (hpb : Bd [p0, p1]) (hnc : n ≤ c) (hc : c ≤ maxLen) (hr : preB p0 p1 zs = true) :
    Calls Tryd.prog 47 #[.slice A n c, .slice Ap 2 2] w fun e w' => ∃ A', e = .returned (.tuple #[.slice A' (n - 2) (c - 2), .bool true]) ∧ RI .u8 w B A' (n - 2) (zs.drop 2) ∧ w = w' := by
  have h2 : 2 ≤ n := hx.len ▸ pre_len hr
  have hcut := hx.behind (k := 2) (cap := c) h2 hnc
  obtain ⟨ad, u, rfl, hbl, hu, hcell⟩ := hx.at_ (k := 0) (by omega)
  have HCUT := Lib.hid hcut
  have HX := Lib.hid hx
  have HP := Lib.hid hp
  have HZ := Lib.hid hz
  have HPB := Lib.hid hpb
  have HR := Lib.hid hr
  have HC := Lib.hid hc
  unfold maxLen at hc
  clear hcut hu hcell hbl hx hz hp hpb hr
  have t1 : (2 : Int) ≤ (n : Int) := by omega
  have t2 : (2 : Int) ≤ (c : Int) := by omega
  by_cases hc2 : c = 2
  · subst hc2
    obtain rfl : n = 2 := by omega
    have HCUT' := HCUT.out
    rw [if_pos rfl] at HCUT'
    have HQ := Lib.hid HCUT'
    clear HCUT HCUT'
    go_enter Tryd.func47, Tryd.ntmps47
    go_wp2_with fail
    with_reducible refine (hasPrefix_is w B Bp (some ad) Ap 2 2 zs p0 p1 HX.out HP.out HZ.out HPB.out (Nat.le_refl _) HC.out true HR.out).mono ?_
    rintro e w' ⟨rfl, rfl⟩
    go_wp2
    go_ret2
    exact ⟨_, rfl, HQ.out, rfl⟩
  · have HCUT' := HCUT.out
    rw [if_neg hc2] at HCUT'
    have HQ := Lib.hid HCUT'
    clear HCUT HCUT'
    go_enter Tryd.func47, Tryd.ntmps47
    go_wp2_with fail
    with_reducible refine (hasPrefix_is w B Bp (some ad) Ap n c zs p0 p1 HX.out HP.out HZ.out HPB.out hnc HC.out true HR.out).mono ?_
    rintro e w' ⟨rfl, rfl⟩
    go_wp2
    go_ret2
    exact ⟨_, rfl, HQ.out, rfl⟩

/-- the mark of an order -/
def markL (g : Bool) : List Int := if g then [254, 255] else [255, 254]
theorem mark_len (g : Bool) : (markL g).length = 2 := by cases g <;> rfl
theorem mark_bd (g : Bool) : Bd (markL g) := by intro z hz; cases g <;> revert z <;> decide
/-- a row of numbers that was laid, whatever stands behind it -/
theorem RI.laid (w : World) (ki : IntKind) (zs : List Int) (t : TypeId) (fr : Nat × Nat) : RI ki (w.alloc (.cells (zs.map (Value.int ki)).toArray t fr)) (w.heap.size + 1) (some ⟨w.heap.size, 0, none⟩) zs.length zs :=
  ⟨rfl, fun _ => ⟨_, rfl, Nat.lt_succ_self _, fun j u hu => by
    rw [add_plain, Nat.zero_add]
    simp [World.alloc, World.cell?, hu, -World.alloc_eq]⟩⟩
theorem constConv : ∀ (w : World) (C : Array Value) (n c : Nat), (convert 22 22 (.slice (some ⟨w.heap.size, 0, none⟩) n c)).run Tryd.prog (w.alloc (.cells C 5)) = .ok (.slice (some ⟨w.heap.size, 0, none⟩) n c) (w.alloc (.cells C 5 (C.size, C.size + 1))) :=
  fun w C n c => Lib.run_convert_bytes_const (P := Tryd.prog) w 22 5 C n c Tryd.underlying22 Tryd.underlying5
set_option maxRecDepth 100000 in
theorem markOf_any (g : Bool) (w : World) :
    Calls Tryd.prog 50 #[.bool g] w fun e w' => e = .returned (.slice (some ⟨w.heap.size, 0, none⟩) 2 2) ∧ w' = w.alloc (.cells ((markL g).map (Value.int .u8)).toArray 5 (2, 3)) := by
  have kc := constConv
  cases g with
  | true =>
    go_enter Tryd.func50, Tryd.ntmps50
    go_wp2
    go_ret
    exact ⟨rfl, rfl⟩
  | false =>
    go_enter Tryd.func50, Tryd.ntmps50
    go_wp2
    go_ret
    exact ⟨rfl, rfl⟩

/-- what an append onto a full row of two gives -/
def AppGot (zs : List Int) (w : World) (v' : Value) (w' : World) : Prop :=
  ∃ A' c', v' = .slice A' zs.length c' ∧ zs.length ≤ c' ∧ c' ≤ maxLen ∧ RI .u8 w' w'.heap.size A' zs.length zs ∧ Below w.heap.size w w'
section
variable {P : Program} (w : World)
theorem run_append_full (t ty e : TypeId) (i : TypeInfo) (z : Value) (ht : P.underlying t = some (.slice e)) (hi : P.info? e = some i) (hz : i.zero = some z)
    (hsize : i.size = 1) (hby : i.bytes = 1) (hzs : z.cells.size = 1)
    (B : Nat) (p : Addr) (n : Nat) (os : List Int) (ho : RI .u8 w B (some p) n os) (hB : B ≤ w.heap.size) (h0 : 0 < n)
    (Bx : Nat) (A : Option Addr) (m c : Nat) (zs : List Int) (hr : RI .u8 w Bx A m zs) (hn : n + m ≤ 140737488355328) :
    ∃ v' w', (Builtin.append_ #[t, t] ty #[.slice (some p) n n, .slice A m c]).run P w = .ok v' w' ∧ AppGot (os ++ zs) w v' w' := by
  rcases Nat.eq_zero_or_pos m with h | h
  · subst h
    obtain rfl : zs = [] := List.eq_nil_of_length_eq_zero hr.1
    refine ⟨.slice (some p) n n, w, ?_, some p, n, ?_, ?_, by unfold maxLen; omega, ?_, Below.refl _ _⟩
    · cases A <;> simp [Builtin.append_, run_underlying ht, sizeOf, typeInfo, hi, Builtin.lenOf, Builtin.firstCells, storeCells, loadCells, loadCellsFrom]
    · simp [ho.1]
    · simp [ho.1]
    · rw [List.append_nil, ho.1]
      exact ho.more hB
  · obtain ⟨q, e1, _, hc⟩ := hr.2 h
    subst e1
    obtain ⟨q', e2, _, hco⟩ := ho.2 h0
    injection e2 with e2
    subst e2
    obtain ⟨v', w', hrun, hown, hg⟩ := run_append_arg_grows (P := P) w t ty e i z 1 1 ht hi hz hsize hby hzs (by decide) p n n (os.map (Value.int .u8)) (by simp [ho.1])
      (fun j u hu => by rw [List.getElem?_map] at hu; obtain ⟨y, hy, rfl⟩ := Option.map_eq_some_iff.1 hu; exact hco j y hy)
      q m c (zs.map (Value.int .u8)) (by simp [hr.1]) (fun j u hu => by rw [List.getElem?_map] at hu; obtain ⟨y, hy, rfl⟩ := Option.map_eq_some_iff.1 hu; exact hc j y hy)
      (by omega) (by unfold maxLen; omega) (by omega)
    rw [← List.map_append] at hown
    obtain ⟨A', c', rfl, h1, h2, h3⟩ := own_slice2 hown
    have hl : (os ++ zs).length = n + m := by rw [List.length_append, ho.1, hr.1]
    exact ⟨_, w', hrun, A', c', by rw [hl], by rw [hl]; exact h1, h2, by rw [hl]; exact h3, (Below.refl _ _).grown hg (Nat.le_refl _) (fun _ h => by cases h)⟩
theorem wpList_append_full {ops : Array Oper} {rest : List Oper} {o : Oper} {a : Act} {Q : Exit → Act → World → Prop} (hgd : o.guard = none) (s x : Operand) (t : TypeId)
    (ho : o.op = .call { callee := .builtin .append, args := #[s, x], argTypes := #[t, t] })
    (e : TypeId) (i : TypeInfo) (z : Value) (ht : P.underlying t = some (.slice e)) (hi : P.info? e = some i) (hz : i.zero = some z)
    (hsize : i.size = 1) (hby : i.bytes = 1) (hzs : z.cells.size = 1)
    (B : Nat) (p : Addr) (n : Nat) (os : List Int) (hs : a.eval s = .slice (some p) n n) (hor : RI .u8 w B (some p) n os) (hB : B ≤ w.heap.size) (h0 : 0 < n)
    (Bx : Nat) (A : Option Addr) (m c : Nat) (zs : List Int) (hx : a.eval x = .slice A m c) (hr : RI .u8 w Bx A m zs) (hn : n + m ≤ 140737488355328)
    (h : ∀ v' w', AppGot (os ++ zs) w v' w' → wpList P ops Q rest (a.put o.dst v') w') : wpList P ops Q (o :: rest) a w := by
  refine wpList_plain hgd fun K hK => ?_
  obtain ⟨v', w', hr, h2⟩ := run_append_full (P := P) w t o.type e i z ht hi hz hsize hby hzs B p n os hor hB h0 Bx A m c zs hr hn
  unfold Oper.wp execOp
  simp only [ho, resolve, invoke, builtin, Sem.run_bind, Sem.run_pure, Result.andThen_ok, List.map_toArray, List.map_cons, List.map_nil, hs, hx, hr]
  exact hK _ _ (h v' w' h2)
end
end Go.Proofs.YtijlecfjgcohhaaDoor.C
