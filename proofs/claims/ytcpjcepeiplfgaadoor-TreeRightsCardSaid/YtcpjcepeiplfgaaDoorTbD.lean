/-
  isNoSet, isBlank, areTimes, isNumber, isNewNumber of the program's tree: each says what the plain words say. No condition but what each names.
-/
import Derived.Test.YtcpjcepeiplfgaaDoorTbC
import Derived.Test.YtcpjcepeiplfgaaDoorTaB
namespace Go.Proofs.YtcpjcepeiplfgaaDoor.C
open Go.RowKit

def noSetB (x : Nd) : Bool := !x.nt && decide (x.rs.length = 0) && decide (x.ts.length = 0)
def blankB (x : Nd) : Bool := decide (x.c = 0) && noSetB x && decide (x.n = 0) && decide (x.mn = 0) && decide (x.mx = 0) && decide (x.ks.length = 0)
set_option maxRecDepth 100000 in
set_option maxHeartbeats 1000000 in
theorem isNoSet_any (w : World) (nb : Bool) (AR AT : Option Addr) (r t cR cT : Nat) :
    Calls Tryd.prog 57 #[.agg #[.bool nb, .slice AR r cR, .slice AT t cT]] w fun e w' => e = .returned (.bool (!nb && decide (r = 0) && decide (t = 0))) ∧ Below w.heap.size w w' := by
  obtain ⟨W, hW⟩ : ∃ W, W = w.alloc (.cells #[.bool nb, .slice AR r cR, .slice AT t cT] 28) := ⟨_, rfl⟩
  have HB : Hid (Below w.heap.size w W) := Lib.hid (by rw [hW]; exact (Below.refl _ _).alloc (Nat.le_refl _) _)
  cases nb with
  | true =>
    go_enter Tryd.func57, Tryd.ntmps57
    go_wp2
    go_ret
    rw [← hW]
    exact ⟨rfl, HB.out⟩
  | false =>
    by_cases h1 : r = 0
    · subst h1
      by_cases h2 : t = 0
      · subst h2
        go_enter Tryd.func57, Tryd.ntmps57
        go_wp2
        go_ret
        rw [← hW]
        exact ⟨rfl, HB.out⟩
      · have h2' : ((t : Int) == 0) = false := beq_eq_false_iff_ne.2 (by omega)
        have d2 : decide (t = 0) = false := decide_eq_false h2
        rw [d2]
        clear d2
        go_enter Tryd.func57, Tryd.ntmps57
        go_wp2
        go_ret
        rw [← hW]
        exact ⟨rfl, HB.out⟩
    · have h1' : ((r : Int) == 0) = false := beq_eq_false_iff_ne.2 (by omega)
      have d1 : decide (r = 0) = false := decide_eq_false h1
      rw [d1]
      clear d1
      go_enter Tryd.func57, Tryd.ntmps57
      go_wp2
      go_ret
      rw [← hW]
      exact ⟨rfl, HB.out⟩
set_option maxRecDepth 100000 in
set_option maxHeartbeats 4000000 in
theorem blank_any (w : World) (k c : Int) (nb : Bool) (n mn mx : Int) (AR AT AK : Option Addr) (r t l cR cT cK : Nat) :
    Calls Tryd.prog 40 #[.agg #[.int .u8 k, .int .i32 c, .bool nb, .slice AR r cR, .slice AT t cT, .int .i64 n, .int .i64 mn, .int .i64 mx, .slice AK l cK]] w fun e w' => e = .returned (.bool (decide (c = 0) && (!nb && decide (r = 0) && decide (t = 0)) && decide (n = 0) && decide (mn = 0) && decide (mx = 0) && decide (l = 0))) ∧ Below w.heap.size w w' := by
  obtain ⟨W, hW⟩ : ∃ W, W = w.alloc (.cells #[.int .u8 k, .int .i32 c, .bool nb, .slice AR r cR, .slice AT t cT, .int .i64 n, .int .i64 mn, .int .i64 mx, .slice AK l cK] 31) := ⟨_, rfl⟩
  have HB : Hid (Below w.heap.size w W) := Lib.hid (by rw [hW]; exact (Below.refl _ _).alloc (Nat.le_refl _) _)
  have HR : Hid (Rw W w.heap.size 31 #[.int .u8 k, .int .i32 c, .bool nb, .slice AR r cR, .slice AT t cT, .int .i64 n, .int .i64 mn, .int .i64 mx, .slice AK l cK]) := Lib.hid (by rw [hW]; exact heap_alloc_new w _)
  by_cases h1 : c = 0
  · have d1 : decide (c = 0) = true := decide_eq_true h1
    rw [d1]
    subst h1
    obtain ⟨bs, hbs⟩ : ∃ bs, (!nb && decide (r = 0) && decide (t = 0)) = bs := ⟨_, rfl⟩
    have hc := isNoSet_any W nb AR AT r t cR cT
    rw [hbs] at hc ⊢
    clear hbs d1
    cases bs with
    | false =>
      go_enter Tryd.func40, Tryd.ntmps40
      go_wp2_with fail
      rw [← hW]
      refine hc.mono ?_
      rintro e w1 ⟨rfl, hb1⟩
      have HB1 := Lib.hid hb1
      clear hb1 hc
      go_wp2
      go_ret
      exact ⟨rfl, HB.out.trans (HB1.out.mono HB.out.size)⟩
    | true =>
      obtain ⟨b4, h4⟩ : ∃ b4, decide (n = 0) = b4 := ⟨_, rfl⟩
      obtain ⟨b5, h5⟩ : ∃ b5, decide (mn = 0) = b5 := ⟨_, rfl⟩
      obtain ⟨b6, h6⟩ : ∃ b6, decide (mx = 0) = b6 := ⟨_, rfl⟩
      obtain ⟨b7, h7⟩ : ∃ b7, decide (l = 0) = b7 := ⟨_, rfl⟩
      have e4 : (n == 0) = b4 := by rw [← h4]; rfl
      have e5 : (mn == 0) = b5 := by rw [← h5]; rfl
      have e6 : (mx == 0) = b6 := by rw [← h6]; rfl
      have e7 : ((l : Int) == 0) = b7 := by rw [← h7]; rw [Bool.eq_iff_iff]; simp
      have HEQ : Hid (decide (n = 0) = b4 ∧ decide (mn = 0) = b5 ∧ decide (mx = 0) = b6 ∧ decide (l = 0) = b7) := Lib.hid ⟨h4, h5, h6, h7⟩
      clear h4 h5 h6 h7
      have done : ∀ w1, Below W.heap.size W w1 → Below w.heap.size w w1 := fun w1 h => HB.out.trans (h.mono HB.out.size)
      cases b4 <;> cases b5 <;> cases b6 <;> cases b7
      all_goals
        go_enter Tryd.func40, Tryd.ntmps40
        go_wp2_with fail
        rw [← hW]
        refine hc.mono ?_
        rintro e w1 ⟨rfl, hb1⟩
        have HB1 := Lib.hid (done w1 hb1)
        have hr1 := HR.out.on hb1 HR.out.lt
        have y5 := hr1.cell (i := 5) (v := .int .i64 n) rfl
        have y6 := hr1.cell (i := 6) (v := .int .i64 mn) rfl
        have y7 := hr1.cell (i := 7) (v := .int .i64 mx) rfl
        have y8 := hr1.cell (i := 8) (v := .slice AK l cK) rfl
        clear hb1 hc hr1
        go_wp2
        go_ret
        rw [HEQ.out.1, HEQ.out.2.1, HEQ.out.2.2.1, HEQ.out.2.2.2]
        exact ⟨rfl, HB1.out⟩
  · have d1 : decide (c = 0) = false := decide_eq_false h1
    rw [d1]
    clear d1
    go_enter Tryd.func40, Tryd.ntmps40
    go_wp2
    go_ret
    rw [← hW]
    exact ⟨rfl, HB.out⟩
theorem isBlank_any (w : World) (x : Nd) (AR AT AK : Option Addr) (cR cT cK : Nat) :
    Calls Tryd.prog 40 #[ndVal x (.slice AR x.rs.length cR) (.slice AT x.ts.length cT) (.slice AK x.ks.length cK)] w fun e w' => e = .returned (.bool (blankB x)) ∧ Below w.heap.size w w' :=
  blank_any w x.k x.c x.nt x.n x.mn x.mx AR AT AK x.rs.length x.ts.length x.ks.length cR cT cK
def timB (a b : Int) : Bool := decide (0 ≤ a) && decide (a ≤ 255) && (decide (b = -1) || (decide (a ≤ b) && decide (b ≤ 255)))
set_option maxRecDepth 100000 in
set_option maxHeartbeats 1000000 in
theorem areTimes_any (w : World) (a b : Int) : Calls Tryd.prog 39 #[.int .i64 a, .int .i64 b] w fun e w' => e = .returned (.bool (timB a b)) ∧ w' = w := by
  by_cases h1 : a < 0
  · have hr : timB a b = false := by unfold timB; rw [decide_eq_false (by omega)]; rfl
    rw [hr]
    clear hr
    go_enter Tryd.func39, Tryd.ntmps39
    go_wp2
    go_ret
    exact ⟨rfl, rfl⟩
  by_cases h2 : 255 < a
  · have hr : timB a b = false := by unfold timB; rw [decide_eq_false (show ¬ a ≤ 255 by omega), Bool.and_false]; rfl
    rw [hr]
    clear hr
    go_enter Tryd.func39, Tryd.ntmps39
    go_wp2
    go_ret
    exact ⟨rfl, rfl⟩
  have hr : timB a b = (decide (b = -1) || (decide (a ≤ b) && decide (b ≤ 255))) := by unfold timB; rw [decide_eq_true (show 0 ≤ a by omega), decide_eq_true (show a ≤ 255 by omega)]; rfl
  rw [hr]
  clear hr
  by_cases h3 : b = -1
  · subst h3
    go_enter Tryd.func39, Tryd.ntmps39
    go_wp2
    go_ret
    exact ⟨rfl, rfl⟩
  rw [decide_eq_false h3, Bool.false_or]
  have b3 : (b == -1) = false := beq_eq_false_iff_ne.2 h3
  by_cases h4 : a ≤ b
  · rw [decide_eq_true h4, Bool.true_and]
    by_cases h5 : b ≤ 255
    · rw [decide_eq_true h5]
      go_enter Tryd.func39, Tryd.ntmps39
      go_wp2
      go_ret
      exact ⟨rfl, rfl⟩
    · rw [decide_eq_false h5]
      go_enter Tryd.func39, Tryd.ntmps39
      go_wp2
      go_ret
      exact ⟨rfl, rfl⟩
  · rw [decide_eq_false h4]
    go_enter Tryd.func39, Tryd.ntmps39
    go_wp2
    go_ret
    exact ⟨rfl, rfl⟩
/-- what a walk through a tree keeps: how many groups there may be, which were met, the map of kids -/
def ckRow (g : Int) (gs : List Int) (M : Nat) : List Value := .int .i64 g :: ((List.range 9).map (fun i : Nat => Value.bool (decide ((i : Int) + 1 ∈ gs))) ++ [.map (some M)])
def CkAt (w : World) (C : Nat) (g : Int) (gs : List Int) (M : Nat) : Prop := Rw w C 56 (ckRow g gs M).toArray
theorem ck_at {g : Int} {gs : List Int} {M k : Nat} (hk : k < 9) : (ckRow g gs M).toArray[1 + k]? = some (.bool (decide ((k : Int) + 1 ∈ gs))) := by
  unfold ckRow
  rw [List.getElem?_toArray, show 1 + k = k + 1 from by omega, List.getElem?_cons_succ, List.getElem?_append_left (by simpa using hk), List.getElem?_map, List.getElem?_range hk]
  rfl
theorem ck_set {g : Int} {gs : List Int} {M k : Nat} {n : Int} (hk : k < 9) (hn : n = (k : Int) + 1) : (ckRow g gs M).set (1 + k) (.bool true) = ckRow g (gs ++ [n]) M := by
  subst hn
  unfold ckRow
  rw [show 1 + k = k + 1 from by omega, List.set_cons_succ]
  congr 1
  apply List.ext_getElem?
  intro j
  rw [List.getElem?_set]
  by_cases hj9 : j < 9
  · by_cases hkj : k = j
    · subst hkj
      rw [if_pos rfl, if_pos (by simp; omega), List.getElem?_append_left (by simpa using hj9), List.getElem?_map, List.getElem?_range hj9]
      simp
    · rw [if_neg hkj, List.getElem?_append_left (by simpa using hj9), List.getElem?_append_left (by simpa using hj9), List.getElem?_map, List.getElem?_map, List.getElem?_range hj9]
      have : ¬ (j : Int) = (k : Int) := by omega
      simp [this]
  · by_cases hkj : k = j
    · omega
    · rw [if_neg hkj, List.getElem?_append_right (by simp; omega), List.getElem?_append_right (by simp; omega)]
      simp
end Go.Proofs.YtcpjcepeiplfgaaDoor.C
