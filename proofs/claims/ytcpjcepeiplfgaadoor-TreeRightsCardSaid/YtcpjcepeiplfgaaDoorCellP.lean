/-
  Plain facts on lists of integers for layer 1: the order of two lists, by the first place at which they differ, else by their lengths. No condition.
-/
namespace Go.Proofs.YtcpjcepeiplfgaaDoor.C

def cmp1 (a b : Int) : Int := if a < b then -1 else if b < a then 1 else 0
def cmpL : List Int → List Int → Int
  | [], [] => 0
  | [], _ :: _ => -1
  | _ :: _, [] => 1
  | a :: x, b :: y => if a < b then -1 else if b < a then 1 else cmpL x y

theorem cmpL_nil_left (y : List Int) (h : 0 < y.length) : cmpL [] y = -1 := by
  cases y with
  | nil => simp at h
  | cons b y => rfl
theorem cmpL_nil_right (x : List Int) (h : 0 < x.length) : cmpL x [] = 1 := by
  cases x with
  | nil => simp at h
  | cons b y => rfl
theorem cmpL_cons (a b : Int) (x y : List Int) : cmpL (a :: x) (b :: y) = if a < b then -1 else if b < a then 1 else cmpL x y := rfl
theorem drop_cons {α : Type} {x : List α} {k : Nat} {a : α} (h : x[k]? = some a) : x.drop k = a :: x.drop (k + 1) := by
  have hk : k < x.length := by
    rcases Nat.lt_or_ge k x.length with h1 | h1
    · exact h1
    · rw [List.getElem?_eq_none h1] at h; cases h
  rw [List.getElem?_eq_getElem hk] at h
  rw [List.drop_eq_getElem_cons hk]
  injection h with h
  rw [h]

/-- so far they are alike -/
def CmpSt (x y : List Int) (k : Nat) : Prop := cmpL x y = cmpL (x.drop k) (y.drop k)
theorem cmpSt_zero (x y : List Int) : CmpSt x y 0 := rfl
theorem cmpSt_step {x y : List Int} {k : Nat} {a b : Int} (h : CmpSt x y k) (ha : x[k]? = some a) (hb : y[k]? = some b) (h1 : ¬ a < b) (h2 : ¬ b < a) : CmpSt x y (k + 1) := by
  unfold CmpSt at *
  rw [h, drop_cons ha, drop_cons hb, cmpL_cons, if_neg h1, if_neg h2]
theorem cmpSt_less {x y : List Int} {k : Nat} {a b : Int} (h : CmpSt x y k) (ha : x[k]? = some a) (hb : y[k]? = some b) (h1 : a < b) : cmpL x y = -1 := by
  unfold CmpSt at *
  rw [h, drop_cons ha, drop_cons hb, cmpL_cons, if_pos h1]
theorem cmpSt_more {x y : List Int} {k : Nat} {a b : Int} (h : CmpSt x y k) (ha : x[k]? = some a) (hb : y[k]? = some b) (h1 : b < a) : cmpL x y = 1 := by
  unfold CmpSt at *
  rw [h, drop_cons ha, drop_cons hb, cmpL_cons, if_neg (by omega), if_pos h1]
theorem cmpSt_short {x y : List Int} {k : Nat} (h : CmpSt x y k) (ha : x.length ≤ k) (hb : k < y.length) : cmpL x y = -1 := by
  unfold CmpSt at *
  rw [h, List.drop_of_length_le ha, cmpL_nil_left _ (by simp; omega)]
theorem cmpSt_long {x y : List Int} {k : Nat} (h : CmpSt x y k) (ha : k < x.length) (hb : y.length ≤ k) : cmpL x y = 1 := by
  unfold CmpSt at *
  rw [h, List.drop_of_length_le hb, cmpL_nil_right _ (by simp; omega)]
theorem cmpSt_alike {x y : List Int} {k : Nat} (h : CmpSt x y k) (ha : x.length ≤ k) (hb : y.length ≤ k) : cmpL x y = 0 := by
  unfold CmpSt at *
  rw [h, List.drop_of_length_le ha, List.drop_of_length_le hb]; rfl

theorem cmpL_self (x : List Int) : cmpL x x = 0 := by
  induction x with
  | nil => rfl
  | cons a x ih => simp [cmpL, ih]
theorem cmpL_bd (x : List Int) : ∀ y, cmpL x y = -1 ∨ cmpL x y = 0 ∨ cmpL x y = 1 := by
  induction x with
  | nil => intro y; cases y <;> simp [cmpL]
  | cons a x ih =>
    intro y
    cases y with
    | nil => simp [cmpL]
    | cons b y =>
      simp only [cmpL]
      split
      · exact .inl rfl
      · split
        · exact .inr (.inr rfl)
        · exact ih y
theorem cmpL_eq (x : List Int) : ∀ y, cmpL x y = 0 ↔ x = y := by
  induction x with
  | nil => intro y; cases y <;> simp [cmpL]
  | cons a x ih =>
    intro y
    cases y with
    | nil => simp [cmpL]
    | cons b y =>
      simp only [cmpL]
      by_cases h1 : a < b
      · simp [h1]; omega
      · by_cases h2 : b < a
        · simp [h1, h2]; omega
        · have : a = b := by omega
          subst this
          simp [ih]
theorem cmpL_swap (x : List Int) : ∀ y, cmpL x y = - cmpL y x := by
  induction x with
  | nil => intro y; cases y <;> simp [cmpL]
  | cons a x ih =>
    intro y
    cases y with
    | nil => simp [cmpL]
    | cons b y =>
      simp only [cmpL]
      by_cases h1 : a < b
      · have h2 : ¬ b < a := by omega
        simp [h1, h2]
      · by_cases h2 : b < a
        · simp [h1, h2]
        · simp only [h1, h2, if_false]; exact ih y
theorem cmpL_trans (x : List Int) : ∀ y z, cmpL x y ≤ 0 → cmpL y z ≤ 0 → cmpL x z ≤ 0 := by
  induction x with
  | nil => intro y z _ _; cases z <;> simp [cmpL]
  | cons a x ih =>
    intro y z h1 h2
    cases y with
    | nil => simp [cmpL] at h1
    | cons b y =>
      cases z with
      | nil => simp [cmpL] at h2
      | cons c z =>
        simp only [cmpL] at *
        by_cases e1 : a < b
        · by_cases e2 : b < c
          · have : a < c := by omega
            simp [this]
          · by_cases e3 : c < b
            · simp [e2, e3] at h2
            · have : a < c := by omega
              simp [this]
        · by_cases e4 : b < a
          · simp [e1, e4] at h1
          · have : a = b := by omega
            subst this
            by_cases e2 : a < c
            · simp [e2]
            · by_cases e3 : c < a
              · simp [e2, e3] at h2
              · simp only [e1, e2, e3, if_false] at h1 h2 ⊢
                exact ih y z h1 h2
theorem cmpL_front (x y : List Int) : cmpL x (x ++ y) ≤ 0 := by
  induction x with
  | nil => cases y <;> simp [cmpL]
  | cons a x ih => simpa [cmpL] using ih

/-- the first place, from one on, at which others stand; -1: there is none -/
def findGo (l sub : List Int) : Nat → Nat → Int
  | 0, _ => -1
  | f + 1, k => if k + sub.length ≤ l.length then (if (l.drop k).take sub.length = sub then (k : Int) else findGo l sub f (k + 1)) else -1
def findL (l sub : List Int) (k : Nat) : Int := findGo l sub (l.length + 1 - k) k
theorem findL_over (l sub : List Int) (k : Nat) (h : l.length < k + sub.length) : findL l sub k = -1 := by
  unfold findL
  cases hf : l.length + 1 - k with
  | zero => rfl
  | succ f => rw [findGo, if_neg (by omega)]
theorem findL_here (l sub : List Int) (k : Nat) (h : k + sub.length ≤ l.length) (he : (l.drop k).take sub.length = sub) : findL l sub k = k := by
  unfold findL
  cases hf : l.length + 1 - k with
  | zero => omega
  | succ f => rw [findGo, if_pos h, if_pos he]
theorem findL_next (l sub : List Int) (k : Nat) (h : k + sub.length ≤ l.length) (he : (l.drop k).take sub.length ≠ sub) : findL l sub k = findL l sub (k + 1) := by
  unfold findL
  cases hf : l.length + 1 - k with
  | zero => omega
  | succ f =>
    rw [findGo, if_pos h, if_neg he]
    have : l.length + 1 - (k + 1) = f := by omega
    rw [this]
def FindSt (l sub : List Int) (p k : Nat) : Prop := findL l sub p = findL l sub k
theorem findSt_zero (l sub : List Int) (p : Nat) : FindSt l sub p p := rfl
theorem findSt_step {l sub : List Int} {p k : Nat} (h : FindSt l sub p k) (hk : k + sub.length ≤ l.length) (he : (l.drop k).take sub.length ≠ sub) : FindSt l sub p (k + 1) := by
  unfold FindSt at *
  rw [h, findL_next l sub k hk he]
theorem findSt_here {l sub : List Int} {p k : Nat} (h : FindSt l sub p k) (hk : k + sub.length ≤ l.length) (he : (l.drop k).take sub.length = sub) : findL l sub p = k := by
  unfold FindSt at *
  rw [h, findL_here l sub k hk he]
theorem findSt_over {l sub : List Int} {p k : Nat} (h : FindSt l sub p k) (hk : l.length < k + sub.length) : findL l sub p = -1 := by
  unfold FindSt at *
  rw [h, findL_over l sub k hk]

/-- alike as far as that -/
def AlikeTo (l sub : List Int) (k t : Nat) : Prop := (l.drop k).take t = sub.take t
theorem alike_zero (l sub : List Int) (k : Nat) : AlikeTo l sub k 0 := by simp [AlikeTo]
theorem alike_step {l sub : List Int} {k t : Nat} {a : Int} (h : AlikeTo l sub k t) (h1 : l[k + t]? = some a) (h2 : sub[t]? = some a) : AlikeTo l sub k (t + 1) := by
  unfold AlikeTo at *
  rw [List.take_add_one, List.take_add_one, h, List.getElem?_drop, h1, h2]
theorem alike_all {l sub : List Int} {k : Nat} (h : AlikeTo l sub k sub.length) : (l.drop k).take sub.length = sub := by
  unfold AlikeTo at h
  rw [h, List.take_length]
theorem alike_not {l sub : List Int} {k t : Nat} {a b : Int} (h1 : l[k + t]? = some a) (h2 : sub[t]? = some b) (hne : a ≠ b) : (l.drop k).take sub.length ≠ sub := by
  intro h
  have ht : t < sub.length := by
    rcases Nat.lt_or_ge t sub.length with h1 | h1
    · exact h1
    · rw [List.getElem?_eq_none h1] at h2; cases h2
  have := congrArg (fun x : List Int => x[t]?) h
  simp only [List.getElem?_take, ht, if_true, List.getElem?_drop, h1, h2] at this
  injection this with this
  exact hne this
end Go.Proofs.YtcpjcepeiplfgaaDoor.C
