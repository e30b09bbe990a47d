/-
  tree.all at cell.Right, isRange and isText; these; isSet: each says what the plain words say, and nothing that was there turns. No condition but what each names.
-/
import Derived.Test.YtcpjcepeiplfgaaDoorTbB
import Derived.Test.YtcpjcepeiplfgaaDoorTbP
namespace Go.Proofs.YtcpjcepeiplfgaaDoor.C
open Go.RowKit

theorem range_all_true {n : Nat} {f : Nat → Bool} (h : ∀ j, j < n → (!f j) = false) : (List.range n).all f = true := List.all_eq_true.2 fun j hj => by have := h j (List.mem_range.1 hj); simpa using this
theorem range_all_false {n k : Nat} {f : Nat → Bool} (hk : k < n) (h : (!f k) = true) : (List.range n).all f = false := by
  rw [List.all_eq_false]
  exact ⟨k, List.mem_range.2 hk, by simpa using h⟩
/-- is what stands at a place so? -/
def atB {α : Type} (p : α → Bool) (l : List α) (j : Nat) : Bool := match l[j]? with
  | some x => p x
  | none => true
theorem atB_some {α : Type} {p : α → Bool} {l : List α} {j : Nat} {x : α} (h : l[j]? = some x) : atB p l j = p x := by unfold atB; rw [h]
theorem all_range_list {α : Type} (l : List α) (p : α → Bool) : (List.range l.length).all (atB p l) = l.all p := by
  rw [Bool.eq_iff_iff, List.all_eq_true, List.all_eq_true]
  constructor
  · intro h x hx
    obtain ⟨i, hi⟩ := List.mem_iff_getElem?.1 hx
    have := h i (List.mem_range.2 (List.getElem?_eq_some_iff.1 hi).1)
    rwa [atB_some hi] at this
  · intro h j hj
    have hj := List.mem_range.1 hj
    rw [atB_some (List.getElem?_eq_getElem hj)]
    exact h _ (List.getElem_mem hj)
theorem prRow_at {l : List (Int × Int)} {k : Nat} {u v : Value} (h : (l.map prRow)[k]? = some [u, v]) : ∃ r, l[k]? = some r ∧ u = .int .i32 r.1 ∧ v = .int .i32 r.2 := by
  rw [List.getElem?_map] at h
  cases hl : l[k]? with
  | none => rw [hl] at h; cases h
  | some r =>
    rw [hl] at h
    simp [prRow] at h
    exact ⟨r, rfl, h.1.symm, h.2.symm⟩
theorem celOk_right (c : Int) : rightB c = celOk c := rfl
theorem celR_any (c : Int) (w : World) : Calls Tryd.prog 35 #[.int .i32 c] w fun e w' => e = .returned (.bool (celOk c)) ∧ w' = w := (right_any c w).mono fun _ _ h => ⟨h.1, h.2.symm⟩

set_option maxRecDepth 100000 in
set_option maxHeartbeats 2000000 in
theorem isRange_any (w : World) (r : Int × Int) : Calls Tryd.prog 54 #[.agg #[.int .i32 r.1, .int .i32 r.2]] w fun e w' => e = .returned (.bool (rngOk r)) ∧ Below w.heap.size w w' := by
  obtain ⟨a, b⟩ := r
  obtain ⟨W, hW⟩ : ∃ W, W = w.alloc (.cells #[.int .i32 a, .int .i32 b] 62) := ⟨_, rfl⟩
  have hb : Below w.heap.size w W := by rw [hW]; exact (Below.refl _ _).alloc (Nat.le_refl _) _
  have HB := Lib.hid hb
  have h1 := fun W => celR_any a W
  have h2 := fun W => celR_any b W
  have hr : rngOk (a, b) = (celOk a && celOk b && decide (a ≤ b)) := rfl
  rw [hr]
  clear hr hb
  cases ha : celOk a with
  | false =>
    rw [ha] at h1
    clear h2
    go_enter Tryd.func54, Tryd.ntmps54
    go_wp2_with (go_at_call 35; refine (h1 _).mono ?_; rintro e w' ⟨rfl, rfl⟩)
    go_ret
    rw [← hW]
    exact ⟨rfl, HB.out⟩
  | true =>
    rw [ha] at h1
    cases hb2 : celOk b with
    | false =>
      rw [hb2] at h2
      clear ha hb2
      go_enter Tryd.func54, Tryd.ntmps54
      go_wp2_with (first
        | (go_at_call 35; with_reducible refine (h1 _).mono ?_; rintro e w' ⟨rfl, rfl⟩)
        | (go_at_call 35; with_reducible refine (h2 _).mono ?_; rintro e w' ⟨rfl, rfl⟩))
      go_ret
      rw [← hW]
      exact ⟨rfl, HB.out⟩
    | true =>
      rw [hb2] at h2
      clear ha hb2
      go_enter Tryd.func54, Tryd.ntmps54
      go_wp2_with (first
        | (go_at_call 35; with_reducible refine (h1 _).mono ?_; rintro e w' ⟨rfl, rfl⟩)
        | (go_at_call 35; with_reducible refine (h2 _).mono ?_; rintro e w' ⟨rfl, rfl⟩))
      go_ret
      rw [← hW]
      exact ⟨rfl, HB.out⟩
set_option maxRecDepth 100000 in
set_option maxHeartbeats 2000000 in
theorem allCel1_any (W : World) (V0 : Nat) (z : Int) (h : One W V0 81 (.func (.func 35) #[] #[])) :
    Calls Tryd.prog 85 #[.int .i32 z, .pointer (some ⟨V0, 0, none⟩)] W fun e w' => e = .returned (.bool (!celOk z)) ∧ Below W.heap.size W w' := by
  have hi := celR_any z W
  have q0 := h.cell
  clear h
  go_enter Tryd.func85, Tryd.ntmps85
  go_wp2_with fail
  refine hi.mono ?_
  rintro e w1 ⟨rfl, rfl⟩
  clear hi
  go_wp2
  go_ret
  exact ⟨rfl, Below.refl _ _⟩
set_option maxRecDepth 100000 in
set_option maxHeartbeats 2000000 in
theorem allCel_any (w : World) (P : Nat → Prop) (A : Option Addr) (c : Nat) (zs : List Int) (h : RIp .i32 w P A zs.length zs) (hP : ∀ b, P b → b < w.heap.size) (hn : zs.length ≤ maxLen) :
    Calls Tryd.prog 75 #[.slice A zs.length c, .func (.func 35) #[] #[]] w fun e w' => e = .returned (.bool (zs.all celOk)) ∧ Below w.heap.size w w' := by
  obtain ⟨W, hW⟩ : ∃ W, W = w.alloc (.cells #[.func (.func 35) #[] #[]] 81) := ⟨_, rfl⟩
  have hb : Below w.heap.size w W := by rw [hW]; exact (Below.refl _ _).alloc (Nat.le_refl _) _
  have hone : One W w.heap.size 81 (.func (.func 35) #[] #[]) := by rw [hW]; exact heap_alloc_new w _
  have hmf : ∀ (fn : Fn) (first cap : Array Value) (w : World), (Instr.makeFunc fn first cap).run Tryd.prog w = .ok (.func fn first cap) w := fun _ _ _ _ => rfl
  have hf := hasCel_any W P A zs.length c zs w.heap.size (fun j => !atB celOk zs j) (fun _ w' => Below W.heap.size W w') (fun _ w' => Below W.heap.size W w') hn (Below.refl _ _)
    (fun k w' hw => h.keep (below_cells (hb.trans (hw.mono hb.size)) hP))
    (fun k z w' hx hw => by
      refine (allCel1_any w' w.heap.size z ((hw.block _ hone.lt).trans hone)).mono ?_
      rintro e w2 ⟨rfl, hb2⟩
      have hw2 : Below W.heap.size W w2 := hw.trans (hb2.mono hw.size)
      simp only [atB_some hx]
      exact ⟨rfl, fun _ => hw2, fun _ => hw2⟩)
  have HB := Lib.hid hb
  have hbb : ∀ w2, Below W.heap.size W w2 → Below w.heap.size w w2 := fun w2 h2 => HB.out.trans (h2.mono HB.out.size)
  clear h hb hone hP
  go_enter Tryd.func75, Tryd.ntmps75
  go_wp2_with fail
  rw [← hW]
  refine hf.mono ?_
  rintro e w2 (⟨j, hj, hq, -, rfl, hb2⟩ | ⟨hq, rfl, hb2⟩)
  · have hp : zs.all celOk = false := by rw [← all_range_list]; exact range_all_false hj hq
    clear hq hf
    go_wp2
    go_ret
    rw [hp]
    exact ⟨rfl, hbb _ hb2⟩
  · have hp : zs.all celOk = true := by rw [← all_range_list]; exact range_all_true hq
    clear hq hf
    go_wp2
    go_ret
    rw [hp]
    exact ⟨rfl, hbb _ hb2⟩
set_option maxRecDepth 100000 in
set_option maxHeartbeats 2000000 in
theorem allRng1_any (W : World) (V0 : Nat) (r : Int × Int) (h : One W V0 105 (.func (.func 54) #[] #[])) :
    Calls Tryd.prog 72 #[.agg #[.int .i32 r.1, .int .i32 r.2], .pointer (some ⟨V0, 0, none⟩)] W fun e w' => e = .returned (.bool (!rngOk r)) ∧ Below W.heap.size W w' := by
  have hi := isRange_any (W.alloc (.cells #[.int .i32 r.1, .int .i32 r.2] 62)) r
  have q0 := (show Rw (W.alloc (.cells #[.int .i32 r.1, .int .i32 r.2] 62)) V0 _ _ from Rw.on (B := W.heap.size) h ((Below.refl _ _).alloc (Nat.le_refl _) _) h.lt).cell (i := 0) rfl
  clear h
  obtain ⟨a, b⟩ := r
  go_enter Tryd.func72, Tryd.ntmps72
  go_wp2_with fail
  refine hi.mono ?_
  rintro e w1 ⟨rfl, hb⟩
  have HB := Lib.hid hb
  clear hi hb
  go_wp2
  go_ret
  exact ⟨rfl, ((Below.refl _ _).alloc (Nat.le_refl _) _).trans (HB.out.mono (by simp))⟩
set_option maxRecDepth 100000 in
set_option maxHeartbeats 2000000 in
theorem allRng_any (w : World) (P : Nat → Prop) (v : Value) (rs : List (Int × Int)) (h : PrsP w P v rs) (hP : ∀ b, P b → b < w.heap.size) :
    Calls Tryd.prog 53 #[v, .func (.func 54) #[] #[]] w fun e w' => e = .returned (.bool (rs.all rngOk)) ∧ Below w.heap.size w w' := by
  obtain ⟨A, c, rfl, hsi, hn⟩ := h
  obtain ⟨W, hW⟩ : ∃ W, W = w.alloc (.cells #[.func (.func 54) #[] #[]] 105) := ⟨_, rfl⟩
  have hb : Below w.heap.size w W := by rw [hW]; exact (Below.refl _ _).alloc (Nat.le_refl _) _
  have hone : One W w.heap.size 105 (.func (.func 54) #[] #[]) := by rw [hW]; exact heap_alloc_new w _
  have hmf : ∀ (fn : Fn) (first cap : Array Value) (w : World), (Instr.makeFunc fn first cap).run Tryd.prog w = .ok (.func fn first cap) w := fun _ _ _ _ => rfl
  have hf := hasRng_any W P A rs.length c (rs.map prRow) w.heap.size (fun j => !atB rngOk rs j) (fun _ w' => Below W.heap.size W w') (fun _ w' => Below W.heap.size W w') hn (Below.refl _ _)
    (fun k w' hw => hsi.keep (below_cells (hb.trans (hw.mono hb.size)) hP))
    (fun k u v w' hx hw => by
      obtain ⟨r, hr, rfl, rfl⟩ := prRow_at hx
      refine (allRng1_any w' w.heap.size r ((hw.block _ hone.lt).trans hone)).mono ?_
      rintro e w2 ⟨rfl, hb2⟩
      have hw2 : Below W.heap.size W w2 := hw.trans (hb2.mono hw.size)
      simp only [atB_some hr]
      exact ⟨rfl, fun _ => hw2, fun _ => hw2⟩)
  have HB := Lib.hid hb
  have hbb : ∀ w2, Below W.heap.size W w2 → Below w.heap.size w w2 := fun w2 h2 => HB.out.trans (h2.mono HB.out.size)
  clear hsi hb hone hP
  go_enter Tryd.func53, Tryd.ntmps53
  go_wp2_with fail
  rw [← hW]
  refine hf.mono ?_
  rintro e w2 (⟨j, hj, hq, -, rfl, hb2⟩ | ⟨hq, rfl, hb2⟩)
  · have hp : rs.all rngOk = false := by rw [← all_range_list]; exact range_all_false hj hq
    clear hq hf
    go_wp2
    go_ret
    rw [hp]
    exact ⟨rfl, hbb _ hb2⟩
  · have hp : rs.all rngOk = true := by rw [← all_range_list]; exact range_all_true hq
    clear hq hf
    go_wp2
    go_ret
    rw [hp]
    exact ⟨rfl, hbb _ hb2⟩
set_option maxRecDepth 100000 in
set_option maxHeartbeats 2000000 in
theorem isText_any (w : World) (P : Nat → Prop) (a : Option Addr) (d : Nat) (t : List Int) (h : RIp .i32 w P a t.length t) (hP : ∀ b, P b → b < w.heap.size) (hn : t.length ≤ maxLen) :
    Calls Tryd.prog 56 #[.slice a t.length d] w fun e w' => e = .returned (.bool (txtOk t)) ∧ Below w.heap.size w w' := by
  have hall := allCel_any w P a d t h hP hn
  have hr : txtOk t = (decide (2 ≤ t.length) && decide (t.length ≤ 4) && t.all celOk) := rfl
  obtain ⟨n, hnn⟩ : ∃ n, n = t.length := ⟨_, rfl⟩
  obtain ⟨tb, htb⟩ : ∃ tb, tb = t.all celOk := ⟨_, rfl⟩
  rw [← htb] at hall hr
  rw [← hnn] at hall hr hn ⊢
  rw [hr]
  clear hr htb hnn h
  unfold maxLen at hn
  by_cases h2 : 2 ≤ n
  · have d2 : decide (2 ≤ n) = true := decide_eq_true h2
    by_cases h4 : n ≤ 4
    · have d4 : decide (n ≤ 4) = true := decide_eq_true h4
      rw [d2, d4]
      have h2' : (2 : Int) ≤ (n : Int) := by omega
      have h4' : (n : Int) ≤ 4 := by omega
      clear d2 d4
      go_enter Tryd.func56, Tryd.ntmps56
      go_wp2_with (go_at_call 75; refine hall.mono ?_; rintro e w' ⟨rfl, hb⟩; have HB := Lib.hid hb; clear hb)
      go_ret
      exact ⟨rfl, HB.out⟩
    · have d4 : decide (n ≤ 4) = false := decide_eq_false h4
      rw [d2, d4]
      have h2' : (2 : Int) ≤ (n : Int) := by omega
      have h4' : ¬ (n : Int) ≤ 4 := by omega
      clear d2 d4 hall
      go_enter Tryd.func56, Tryd.ntmps56
      go_wp2
      go_ret
      exact ⟨rfl, Below.refl _ _⟩
  · have d2 : decide (2 ≤ n) = false := decide_eq_false h2
    rw [d2]
    have h2' : ¬ (2 : Int) ≤ (n : Int) := by omega
    clear d2 hall
    go_enter Tryd.func56, Tryd.ntmps56
    go_wp2
    go_ret
    exact ⟨rfl, Below.refl _ _⟩
set_option maxRecDepth 100000 in
set_option maxHeartbeats 2000000 in
theorem allTxt1_any (W : World) (P : Nat → Prop) (V0 : Nat) (a : Option Addr) (d : Nat) (t : List Int) (ht : RIp .i32 W P a t.length t) (hP : ∀ b, P b → b < W.heap.size) (hn : t.length ≤ maxLen) (h : One W V0 107 (.func (.func 56) #[] #[])) :
    Calls Tryd.prog 74 #[.slice a t.length d, .pointer (some ⟨V0, 0, none⟩)] W fun e w' => e = .returned (.bool (!txtOk t)) ∧ Below W.heap.size W w' := by
  have hi := isText_any W P a d t ht hP hn
  have q0 := h.cell
  clear h ht hP hn
  go_enter Tryd.func74, Tryd.ntmps74
  go_wp2_with fail
  refine hi.mono ?_
  rintro e w1 ⟨rfl, hb⟩
  have HB := Lib.hid hb
  clear hi hb
  go_wp2
  go_ret
  exact ⟨rfl, HB.out⟩
set_option maxRecDepth 100000 in
set_option maxHeartbeats 2000000 in
theorem allTxt_any (w : World) (P : Nat → Prop) (v : Value) (ts : List (List Int)) (h : TxsP w P v ts) (hP : ∀ b, P b → b < w.heap.size) :
    Calls Tryd.prog 55 #[v, .func (.func 56) #[] #[]] w fun e w' => e = .returned (.bool (ts.all txtOk)) ∧ Below w.heap.size w w' := by
  obtain ⟨A, c, us, rfl, hsi, hn, hts⟩ := h
  obtain ⟨W, hW⟩ : ∃ W, W = w.alloc (.cells #[.func (.func 56) #[] #[]] 107) := ⟨_, rfl⟩
  have hb : Below w.heap.size w W := by rw [hW]; exact (Below.refl _ _).alloc (Nat.le_refl _) _
  have hone : One W w.heap.size 107 (.func (.func 56) #[] #[]) := by rw [hW]; exact heap_alloc_new w _
  have hmf : ∀ (fn : Fn) (first cap : Array Value) (w : World), (Instr.makeFunc fn first cap).run Tryd.prog w = .ok (.func fn first cap) w := fun _ _ _ _ => rfl
  have hf := hasTxt_any W P A ts.length c us w.heap.size (fun j => !atB txtOk ts j) (fun _ w' => Below W.heap.size W w') (fun _ w' => Below W.heap.size W w') hn (Below.refl _ _)
    (fun k w' hw => hsi.keep (below_cells (hb.trans (hw.mono hb.size)) hP))
    (fun k u w' hx hw => by
      have hkl := (List.getElem?_eq_some_iff.1 hx).1
      obtain ⟨t, ht⟩ : ∃ t, ts[k]? = some t := ⟨_, List.getElem?_eq_getElem (by have := hsi.1; omega)⟩
      obtain ⟨a, d, h1, h2, h3⟩ := hts k t ht
      rw [hx] at h1
      injection h1 with h1
      injection h1 with h1
      subst h1
      refine (allTxt1_any w' P w.heap.size a d t (h2.keep (below_cells (hb.trans (hw.mono hb.size)) hP)) (fun b hp => by have := hP b hp; have := hw.size; have := hb.size; omega) h3 ((hw.block _ hone.lt).trans hone)).mono ?_
      rintro e w2 ⟨rfl, hb2⟩
      have hw2 : Below W.heap.size W w2 := hw.trans (hb2.mono hw.size)
      simp only [atB_some ht]
      exact ⟨rfl, fun _ => hw2, fun _ => hw2⟩)
  have HB := Lib.hid hb
  have hbb : ∀ w2, Below W.heap.size W w2 → Below w.heap.size w w2 := fun w2 h2 => HB.out.trans (h2.mono HB.out.size)
  clear hsi hb hone hP hts
  go_enter Tryd.func55, Tryd.ntmps55
  go_wp2_with fail
  rw [← hW]
  refine hf.mono ?_
  rintro e w2 (⟨j, hj, hq, -, rfl, hb2⟩ | ⟨hq, rfl, hb2⟩)
  · have hp : ts.all txtOk = false := by rw [← all_range_list]; exact range_all_false hj hq
    clear hq hf
    go_wp2
    go_ret
    rw [hp]
    exact ⟨rfl, hbb _ hb2⟩
  · have hp : ts.all txtOk = true := by rw [← all_range_list]; exact range_all_true hq
    clear hq hf
    go_wp2
    go_ret
    rw [hp]
    exact ⟨rfl, hbb _ hb2⟩
/-- a set in memory -/
def SetP (w : World) (P : Nat → Prop) (x : Nd) (vR vT : Value) : Prop := PrsP w P vR x.rs ∧ TxsP w P vT x.ts
set_option maxRecDepth 100000 in
set_option maxHeartbeats 2000000 in
theorem isSet_any (w : World) (P : Nat → Prop) (x : Nd) (nb : Bool) (vR vT : Value) (h1 : PrsP w P vR x.rs) (h2 : TxsP w P vT x.ts) (hP : ∀ b, P b → b < w.heap.size) :
    Calls Tryd.prog 36 #[.agg #[.bool nb, vR, vT]] w fun e w' => e = .returned (.bool (setB x)) ∧ Below w.heap.size w w' := by
  obtain ⟨W, hW⟩ : ∃ W, W = w.alloc (.cells #[.bool nb, vR, vT] 28) := ⟨_, rfl⟩
  have hb : Below w.heap.size w W := by rw [hW]; exact (Below.refl _ _).alloc (Nat.le_refl _) _
  have hro : Rw W w.heap.size 28 #[.bool nb, vR, vT] := by rw [hW]; exact heap_alloc_new w _
  have hPW : ∀ b, P b → b < W.heap.size := fun b hp => Nat.lt_of_lt_of_le (hP b hp) hb.size
  have c1 := allRng_any W P vR x.rs (h1.keep (below_cells hb hP)) hPW
  have c2 : ∀ w1, Below W.heap.size W w1 → Calls Tryd.prog 55 #[vT, .func (.func 56) #[] #[]] w1 fun e w' => e = .returned (.bool (x.ts.all txtOk)) ∧ Below w1.heap.size w1 w' := fun w1 hb1 =>
    allTxt_any w1 P vT x.ts ((h2.keep (below_cells hb hP)).keep (below_cells hb1 hPW)) (fun b hp => Nat.lt_of_lt_of_le (hPW b hp) hb1.size)
  obtain ⟨A, c, rfl, -⟩ := h1
  obtain ⟨A2, cc2, us, rfl, -⟩ := h2
  have hr : setB x = (x.rs.all rngOk && x.ts.all txtOk) := rfl
  rw [hr]
  have HB := Lib.hid hb
  have HC2 := Lib.hid c2
  have HRO := Lib.hid hro
  clear hr hb c2 hP hPW hro
  cases h3 : x.rs.all rngOk with
  | false =>
    rw [h3] at c1
    clear h3
    go_enter Tryd.func36, Tryd.ntmps36
    go_wp2_with fail
    rw [← hW]
    refine c1.mono ?_
    rintro e w1 ⟨rfl, hb1⟩
    have HB1 := Lib.hid hb1
    clear hb1 c1
    go_wp2
    go_ret
    exact ⟨rfl, HB.out.trans (HB1.out.mono HB.out.size)⟩
  | true =>
    rw [h3] at c1
    clear h3
    go_enter Tryd.func36, Tryd.ntmps36
    go_wp2_with fail
    rw [← hW]
    refine c1.mono ?_
    rintro e w1 ⟨rfl, hb1⟩
    have y2 := (HRO.out.on hb1 HRO.out.lt).cell (i := 2) rfl
    have hc := HC2.out w1 hb1
    have HB1 := Lib.hid hb1
    clear hb1 c1
    go_wp2_with fail
    refine hc.mono ?_
    rintro e w2 ⟨rfl, hb2⟩
    have HB2 := Lib.hid hb2
    clear hb2 hc
    go_wp2
    go_ret
    exact ⟨rfl, HB.out.trans ((HB1.out.trans (HB2.out.mono HB1.out.size)).mono HB.out.size)⟩
end Go.Proofs.YtcpjcepeiplfgaaDoor.C
