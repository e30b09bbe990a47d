/-
  Plain facts on UTF-16: cells of bytes, the bytes of cells, in either order; there and back. No condition.
-/
import Derived.Test.YtijlecfjgcohhaaDoorCuA
import Derived.Laws.BytesArg
namespace Go.Proofs.YtijlecfjgcohhaaDoor.C.U
open Go.RowKit

theorem bd_head {z : Int} {zs : List Int} (h : Bd (z :: zs)) : 0 ≤ z ∧ z ≤ 255 := h z List.mem_cons_self
theorem bd_tail {z : Int} {zs : List Int} (h : Bd (z :: zs)) : Bd zs := fun x hx => h x (List.mem_cons_of_mem _ hx)
theorem str_two (a b : List UInt8) : str a ++ str b = str (a ++ b) := by
  apply ByteArray.ext
  simp [str]
/-- the scalar whose units stand ahead, and how many bytes these have (0: none) -/
def scal (g : Bool) : List Int → Int × Nat
  | a :: b :: t =>
    if num g a b < 55296 ∨ 57343 < num g a b then (num g a b, 2)
    else if 56320 ≤ num g a b then (0, 0)
    else match t with
      | c :: d :: _ => if 56320 ≤ num g c d ∧ num g c d ≤ 57343 then (65536 + (num g a b - 55296) * 1024 + (num g c d - 56320), 4) else (0, 0)
      | _ => (0, 0)
  | _ => (0, 0)
/-- how many bytes are taken, and the cells for them -/
def wid (g : Bool) (zs : List Int) : Nat := if (scal g zs).2 = 0 then min zs.length 2 else (scal g zs).2
def escs (zs : List Int) : List Int := zs.map fun z => -1 - z
def cel (g : Bool) (zs : List Int) : List Int := if (scal g zs).2 = 0 then escs (zs.take (wid g zs)) else [(scal g zs).1]
def decF (g : Bool) : Nat → List Int → List Int
  | 0, _ => []
  | f + 1, zs => if zs.length = 0 then [] else cel g zs ++ decF g f (zs.drop (wid g zs))
def dec (g : Bool) (zs : List Int) : List Int := decF g zs.length zs

theorem scal_two (g : Bool) {a b : Int} (t : List Int) (h : num g a b < 55296 ∨ 57343 < num g a b) : scal g (a :: b :: t) = (num g a b, 2) := by simp only [scal]; rw [if_pos h]
theorem scal_low (g : Bool) {a b : Int} (t : List Int) (h1 : 56320 ≤ num g a b) (h2 : num g a b ≤ 57343) : scal g (a :: b :: t) = (0, 0) := by simp only [scal]; rw [if_neg (by omega), if_pos h1]
theorem scal_pair (g : Bool) {a b c d : Int} (t : List Int) (h1 : 55296 ≤ num g a b) (h2 : num g a b < 56320) (h3 : 56320 ≤ num g c d) (h4 : num g c d ≤ 57343) :
    scal g (a :: b :: c :: d :: t) = (65536 + (num g a b - 55296) * 1024 + (num g c d - 56320), 4) := by simp only [scal]; rw [if_neg (by omega), if_neg (by omega), if_pos ⟨h3, h4⟩]
theorem scal_lone (g : Bool) {a b c d : Int} (t : List Int) (h1 : 55296 ≤ num g a b) (h2 : num g a b < 56320) (h3 : num g c d < 56320 ∨ 57343 < num g c d) :
    scal g (a :: b :: c :: d :: t) = (0, 0) := by simp only [scal]; rw [if_neg (by omega), if_neg (by omega), if_neg (by omega)]
theorem scal_cut (g : Bool) {a b : Int} (t : List Int) (h1 : 55296 ≤ num g a b) (h2 : num g a b < 56320) (ht : t.length < 2) : scal g (a :: b :: t) = (0, 0) := by
  simp only [scal]
  rw [if_neg (by omega), if_neg (by omega)]
  split
  · simp at ht; omega
  · rfl
theorem scal_short (g : Bool) : ∀ zs : List Int, zs.length < 2 → scal g zs = (0, 0)
  | [], _ => rfl
  | [_], _ => rfl
  | _ :: _ :: _, h => by simp at h; omega
theorem scal_le (g : Bool) (zs : List Int) : (scal g zs).2 ≤ zs.length := by
  unfold scal
  split
  · split
    · simp
    · split
      · simp
      · split
        · split
          · simp
          · simp
        · simp
  · simp
theorem wid_pos (g : Bool) {zs : List Int} (h : 0 < zs.length) : 1 ≤ wid g zs ∧ wid g zs ≤ zs.length := by
  have := scal_le g zs
  unfold wid
  split
  · omega
  · omega
theorem decF_fuel (g : Bool) : ∀ f f' zs, zs.length ≤ f → zs.length ≤ f' → decF g f zs = decF g f' zs
  | 0, 0, _, _, _ => rfl
  | 0, f' + 1, zs, h, _ => by
    have h0 : zs.length = 0 := by omega
    simp only [decF, h0, if_true]
  | f + 1, 0, zs, _, h => by
    have h0 : zs.length = 0 := by omega
    simp only [decF, h0, if_true]
  | f + 1, f' + 1, zs, h, h' => by
    simp only [decF]
    split
    · rfl
    · have hw := wid_pos g (zs := zs) (by omega)
      rw [decF_fuel g f f' (zs.drop (wid g zs)) (by simp; omega) (by simp; omega)]
theorem dec_nil (g : Bool) : dec g [] = [] := rfl
theorem dec_step (g : Bool) {zs : List Int} (h : 0 < zs.length) : dec g zs = cel g zs ++ dec g (zs.drop (wid g zs)) := by
  obtain ⟨f, hf⟩ : ∃ f, zs.length = f + 1 := ⟨zs.length - 1, by omega⟩
  have hw := wid_pos g h
  unfold dec
  rw [hf]
  simp only [decF]
  rw [if_neg (by omega), decF_fuel g f (zs.drop (wid g zs)).length _ (by simp; omega) (Nat.le_refl _)]
theorem dec_ind (g : Bool) {P : List Int → Prop} (h0 : P []) (hs : ∀ zs, 0 < zs.length → P (zs.drop (wid g zs)) → P zs) : ∀ n zs, zs.length ≤ n → P zs
  | 0, zs, h => by
    obtain rfl : zs = [] := List.eq_nil_of_length_eq_zero (by omega)
    exact h0
  | n + 1, zs, h => by
    rcases Nat.eq_zero_or_pos zs.length with hz | hz
    · obtain rfl : zs = [] := List.eq_nil_of_length_eq_zero hz
      exact h0
    · have hw := wid_pos g hz
      exact hs zs hz (dec_ind g h0 hs n _ (by simp; omega))
theorem cel_len (g : Bool) {zs : List Int} (h : 0 < zs.length) : 1 ≤ (cel g zs).length ∧ (cel g zs).length ≤ wid g zs := by
  have hw := wid_pos g h
  unfold cel
  split
  · simp [escs]; omega
  · simp; omega
theorem dec_len (g : Bool) (zs : List Int) : (dec g zs).length ≤ zs.length := by
  refine dec_ind g (P := fun zs => (dec g zs).length ≤ zs.length) (by simp [dec_nil]) ?_ zs.length zs (Nat.le_refl _)
  intro zs hz ih
  have hw := wid_pos g hz
  have hc := cel_len g hz
  rw [dec_step g hz]
  simp only [List.length_append, List.length_drop] at ih ⊢
  omega
/-- what a scalar's units say -/
theorem scal_good (g : Bool) {zs : List Int} (hb : Bd zs) (h : (scal g zs).2 ≠ 0) : rightB (scal g zs).1 = true ∧ 0 ≤ (scal g zs).1 := by
  revert h
  unfold scal
  split
  · rename_i a b t
    have ha := bd_head hb
    have hb' := bd_head (bd_tail hb)
    have hn := num_bound g ha.1 ha.2 hb'.1 hb'.2
    split
    · intro _
      simp [rightB]
      omega
    · split
      · intro h; simp at h
      · split
        · split
          · intro _
            simp [rightB]
            omega
          · intro h; simp at h
        · intro h; simp at h
  · intro h; simp at h
theorem escs_right {zs : List Int} (h : Bd zs) : ∀ c ∈ escs zs, rightB c = true := by
  intro c hc
  obtain ⟨z, hz, rfl⟩ := List.mem_map.1 hc
  have := h z hz
  simp [rightB]
  omega
theorem cel_right (g : Bool) {zs : List Int} (h : Bd zs) : ∀ c ∈ cel g zs, rightB c = true := by
  unfold cel
  split
  · exact escs_right (bd_take h _)
  · rename_i hs
    intro c hc
    simp at hc
    subst hc
    exact (scal_good g h hs).1
theorem decs_right (g : Bool) {zs : List Int} (h : Bd zs) : ∀ c ∈ dec g zs, rightB c = true := by
  revert h
  refine dec_ind g (P := fun zs => Bd zs → ∀ c ∈ dec g zs, rightB c = true) (by simp [dec_nil]) ?_ zs.length zs (Nat.le_refl _)
  intro zs hz ih h c hc
  rw [dec_step g hz] at hc
  rcases List.mem_append.1 hc with hc | hc
  · exact cel_right g h c hc
  · exact ih (bd_drop h _) c hc
theorem dec_all (g : Bool) {zs : List Int} (h : Bd zs) : (dec g zs).all rightB = true := List.all_eq_true.2 (decs_right g h)

/-- the bytes of a cell, and of cells -/
def encC (g : Bool) (c : Int) : List Int := if c < 0 then [-1 - c] else if c < 65536 then un g c else un g (55296 + (c - 65536) / 1024) ++ un g (56320 + (c - 65536) % 1024)
def encL (g : Bool) (l : List Int) : List Int := l.flatMap (encC g)
theorem encL_nil (g : Bool) : encL g [] = [] := rfl
theorem encL_cons (g : Bool) (c : Int) (l : List Int) : encL g (c :: l) = encC g c ++ encL g l := by simp [encL]
theorem encL_snoc (g : Bool) (l : List Int) (c : Int) : encL g (l ++ [c]) = encL g l ++ encC g c := by simp [encL]
theorem encL_app (g : Bool) (l m : List Int) : encL g (l ++ m) = encL g l ++ encL g m := by simp [encL]
theorem un_len (g : Bool) (u : Int) : (un g u).length = 2 := by cases g <;> rfl
theorem encC_esc (g : Bool) {c : Int} (h : c < 0) : encC g c = [-1 - c] := by unfold encC; rw [if_pos h]
theorem encC_low (g : Bool) {c : Int} (h : 0 ≤ c) (h1 : c < 65536) : encC g c = un g c := by unfold encC; rw [if_neg (by omega), if_pos h1]
theorem encC_pair (g : Bool) {c : Int} (h1 : 65536 ≤ c) : encC g c = un g (55296 + (c - 65536) / 1024) ++ un g (56320 + (c - 65536) % 1024) := by unfold encC; rw [if_neg (by omega), if_neg (by omega)]
theorem encC_len (g : Bool) (c : Int) : 1 ≤ (encC g c).length ∧ (encC g c).length ≤ 4 := by
  unfold encC
  split
  · simp
  · split
    · rw [un_len]; omega
    · rw [List.length_append, un_len, un_len]; omega
theorem encL_len (g : Bool) (l : List Int) : l.length ≤ (encL g l).length ∧ (encL g l).length ≤ 4 * l.length := by
  induction l with
  | nil => simp [encL_nil]
  | cons c l ih =>
    have := encC_len g c
    rw [encL_cons]
    simp only [List.length_append, List.length_cons]
    omega
theorem un_bd (g : Bool) {u : Int} (h0 : 0 ≤ u) (h1 : u ≤ 65535) : Bd (un g u) := by
  cases g
  · rw [un_false]; exact bd_cons (by omega) (bd_cons (by omega) bd_nil)
  · rw [un_true]; exact bd_cons (by omega) (bd_cons (by omega) bd_nil)
theorem encC_bd (g : Bool) {c : Int} (h : rightB c = true) : Bd (encC g c) := by
  unfold rightB at h
  simp at h
  unfold encC
  split
  · exact bd_cons (by omega) bd_nil
  · split
    · exact un_bd g (by omega) (by omega)
    · exact bd_app (un_bd g (by omega) (by omega)) (un_bd g (by omega) (by omega))
theorem encL_bd (g : Bool) {l : List Int} (h : ∀ c ∈ l, rightB c = true) : Bd (encL g l) := by
  induction l with
  | nil => exact bd_nil
  | cons c l ih =>
    rw [encL_cons]
    exact bd_app (encC_bd g (h c List.mem_cons_self)) (ih fun x hx => h x (List.mem_cons_of_mem _ hx))
theorem all_bd (g : Bool) {xs : List Int} (h : xs.all rightB = true) : Bd (encL g xs) := encL_bd g fun c hc => (List.all_eq_true.1 h) c hc

theorem enc_escs (g : Bool) {zs : List Int} (h : Bd zs) : encL g (escs zs) = zs := by
  induction zs with
  | nil => rfl
  | cons z zs ih =>
    have hz := bd_head h
    have e : escs (z :: zs) = (-1 - z) :: escs zs := rfl
    rw [e, encL_cons, ih (bd_tail h), encC_esc g (by omega)]
    simp
    omega
theorem enc_scal (g : Bool) {zs : List Int} (hb : Bd zs) (h : (scal g zs).2 ≠ 0) : encC g (scal g zs).1 = zs.take (scal g zs).2 := by
  revert h
  unfold scal
  split
  · rename_i a b t
    have ha := bd_head hb
    have hb' := bd_head (bd_tail hb)
    have hn := num_bound g ha.1 ha.2 hb'.1 hb'.2
    split
    · intro _
      show encC g (num g a b) = (a :: b :: t).take 2
      rw [encC_low g hn.1 (by omega), un_num g ha.1 ha.2 hb'.1 hb'.2]
      simp
    · split
      · intro h; simp at h
      · split
        · rename_i c d t' 
          have hc := bd_head (bd_tail (bd_tail hb))
          have hd := bd_head (bd_tail (bd_tail (bd_tail hb)))
          split
          · rename_i hv
            intro _
            show encC g (65536 + (num g a b - 55296) * 1024 + (num g c d - 56320)) = (a :: b :: c :: d :: t').take 4
            have e1 : 55296 + (65536 + (num g a b - 55296) * 1024 + (num g c d - 56320) - 65536) / 1024 = num g a b := by omega
            have e2 : 56320 + (65536 + (num g a b - 55296) * 1024 + (num g c d - 56320) - 65536) % 1024 = num g c d := by omega
            rw [encC_pair g (by omega), e1, e2, un_num g ha.1 ha.2 hb'.1 hb'.2, un_num g hc.1 hc.2 hd.1 hd.2]
            simp
          · intro h; simp at h
        · intro h; simp at h
  · intro h; simp at h
theorem enc_cel (g : Bool) {zs : List Int} (hb : Bd zs) : encL g (cel g zs) = zs.take (wid g zs) := by
  unfold cel
  split
  · exact enc_escs g (bd_take hb _)
  · rename_i h
    unfold wid
    rw [if_neg h, ← enc_scal g hb h]
    simp [encL]
/-- bytes, decoded and encoded -/
theorem enc_dec (g : Bool) {zs : List Int} (h : Bd zs) : encL g (dec g zs) = zs := by
  revert h
  refine dec_ind g (P := fun zs => Bd zs → encL g (dec g zs) = zs) (fun _ => rfl) ?_ zs.length zs (Nat.le_refl _)
  intro zs hz ih h
  rw [dec_step g hz, encL_app, enc_cel g h, ih (bd_drop h _), List.take_append_drop]

/-- a scalar's units are decoded to it -/
theorem num_un (g : Bool) (u : Int) : ∃ x y, un g u = [x, y] ∧ num g x y = u := by
  cases g
  · exact ⟨_, _, un_false u, by rw [num_false]; omega⟩
  · exact ⟨_, _, un_true u, by rw [num_true]; omega⟩
theorem scal_enc (g : Bool) {c : Int} (h : rightB c = true) (h0 : 0 ≤ c) (t : List Int) : scal g (encC g c ++ t) = (c, (encC g c).length) := by
  unfold rightB at h
  simp at h
  by_cases hl : c < 65536
  · obtain ⟨x, y, e, hn⟩ := num_un g c
    rw [encC_low g h0 hl, e]
    show scal g (x :: y :: t) = _
    rw [scal_two g t (by omega), hn]
    rfl
  · obtain ⟨x, y, e, hn⟩ := num_un g (55296 + (c - 65536) / 1024)
    obtain ⟨x', y', e', hn'⟩ := num_un g (56320 + (c - 65536) % 1024)
    rw [encC_pair g (by omega), e, e']
    show scal g (x :: y :: x' :: y' :: t) = _
    rw [scal_pair g t (by omega) (by omega) (by omega) (by omega), hn, hn']
    simp
    omega
theorem dec_enc_cons (g : Bool) {c : Int} (h : rightB c = true) (h0 : 0 ≤ c) (t : List Int) : dec g (encC g c ++ t) = c :: dec g t := by
  have hs := scal_enc g h h0 t
  have hl := encC_len g c
  have hn : ¬ (encC g c).length = 0 := by omega
  have hw : wid g (encC g c ++ t) = (encC g c).length := by unfold wid; rw [hs]; exact if_neg hn
  have hc : cel g (encC g c ++ t) = [c] := by unfold cel; rw [hs]; exact if_neg hn
  rw [dec_step g (by simp; omega), hw, hc]
  simp
/-- scalars, encoded and decoded -/
theorem dec_enc (g : Bool) {l : List Int} (h : ∀ c ∈ l, rightB c = true ∧ 0 ≤ c) : dec g (encL g l) = l := by
  induction l with
  | nil => rfl
  | cons c l ih =>
    rw [encL_cons, dec_enc_cons g (h c List.mem_cons_self).1 (h c List.mem_cons_self).2, ih fun x hx => h x (List.mem_cons_of_mem _ hx)]

/-- a byte that is left over -/
theorem scal_odd (g : Bool) (b : Int) : ∀ zs : List Int, zs.length % 2 = 0 → scal g (zs ++ [b]) = scal g zs
  | [], _ => rfl
  | [_], h => by simp at h
  | [_, _], _ => rfl
  | [_, _, _], h => by simp at h
  | _ :: _ :: _ :: _ :: _, _ => rfl
theorem scal_even (g : Bool) (zs : List Int) : (scal g zs).2 % 2 = 0 := by
  unfold scal
  split
  · split
    · simp
    · split
      · simp
      · split
        · split
          · simp
          · simp
        · simp
  · simp
theorem wid_even (g : Bool) {zs : List Int} (h : 0 < zs.length) (he : zs.length % 2 = 0) : wid g zs % 2 = 0 := by
  have := scal_even g zs
  unfold wid
  split
  · have e : min zs.length 2 = 2 := by omega
    rw [e]
  · exact this
theorem dec_odd (g : Bool) (b : Int) {zs : List Int} (he : zs.length % 2 = 0) : dec g (zs ++ [b]) = dec g zs ++ [-1 - b] := by
  revert he
  refine dec_ind g (P := fun zs => zs.length % 2 = 0 → dec g (zs ++ [b]) = dec g zs ++ [-1 - b]) (fun _ => rfl) ?_ zs.length zs (Nat.le_refl _)
  intro zs hz ih he
  have hw := wid_pos g hz
  have hwe := wid_even g hz he
  have hs := scal_odd g b zs he
  have e1 : wid g (zs ++ [b]) = wid g zs := by
    unfold wid
    rw [hs]
    split
    · simp; omega
    · rfl
  have e2 : cel g (zs ++ [b]) = cel g zs := by
    unfold cel
    rw [hs, e1, List.take_append_of_le_length hw.2]
  rw [dec_step g (by simp), dec_step g hz, e1, e2, List.drop_append_of_le_length hw.2, ih (by simp; omega)]
  simp

/-- half a pair -/
theorem dec_lone (g : Bool) (a b c d : Int) (h1 : 55296 ≤ num g a b) (h2 : num g a b ≤ 57343) (h3 : 56320 ≤ num g a b ∨ num g c d < 56320 ∨ 57343 < num g c d) : dec g [a, b, c, d] = (-1 - a) :: (-1 - b) :: dec g [c, d] := by
  have hs : scal g [a, b, c, d] = (0, 0) := by
    by_cases hl : 56320 ≤ num g a b
    · exact scal_low g _ hl h2
    · exact scal_lone g _ h1 (by omega) (by omega)
  have hw : wid g [a, b, c, d] = 2 := by unfold wid; rw [hs]; rfl
  have hc : cel g [a, b, c, d] = [-1 - a, -1 - b] := by unfold cel; rw [hs, hw]; rfl
  rw [dec_step g (by simp), hw, hc]
  rfl
theorem dec_some (g : Bool) (c d : Int) : 1 ≤ (dec g [c, d]).length := by
  have := cel_len g (zs := [c, d]) (by simp)
  rw [dec_step g (by simp), List.length_append]
  omega

/-- each two bytes turned round -/
def swapL : List Int → List Int
  | a :: b :: t => b :: a :: swapL t
  | l => l
theorem swap_un (g : Bool) (u : Int) (t : List Int) : swapL (un g u ++ t) = un (!g) u ++ swapL t := by cases g <;> rfl
theorem swap_enc (g : Bool) {l : List Int} (h : ∀ c ∈ l, 0 ≤ c) : swapL (encL g l) = encL (!g) l := by
  induction l with
  | nil => rfl
  | cons c l ih =>
    have h0 := h c List.mem_cons_self
    have ih' := ih fun x hx => h x (List.mem_cons_of_mem _ hx)
    rw [encL_cons, encL_cons]
    by_cases hl : c < 65536
    · rw [encC_low g h0 hl, encC_low (!g) h0 hl, swap_un, ih']
    · rw [encC_pair g (by omega), encC_pair (!g) (by omega), List.append_assoc, swap_un, swap_un, ih', List.append_assoc]
theorem enc_even (g : Bool) {l : List Int} (h : ∀ c ∈ l, 0 ≤ c) : (encL g l).length % 2 = 0 := by
  induction l with
  | nil => rfl
  | cons c l ih =>
    have h0 := h c List.mem_cons_self
    have ih' := ih fun x hx => h x (List.mem_cons_of_mem _ hx)
    rw [encL_cons, List.length_append]
    by_cases hl : c < 65536
    · rw [encC_low g h0 hl, un_len]; omega
    · rw [encC_pair g (by omega), List.length_append, un_len, un_len]; omega

def backB (g : Bool) (xs : List Int) : Bool := xs.all rightB && sameB (dec g (encL g xs)) xs
def canonB (xs : List Int) : Bool := backB true xs && backB false xs
theorem back_enc (g : Bool) {l : List Int} (h : ∀ c ∈ l, rightB c = true ∧ 0 ≤ c) : backB g l = true := by
  unfold backB
  rw [dec_enc g h, List.all_eq_true.2 fun c hc => (h c hc).1]
  simp [sameB]
theorem canon_enc {l : List Int} (h : ∀ c ∈ l, rightB c = true ∧ 0 ≤ c) : canonB l = true := by
  unfold canonB
  rw [back_enc true h, back_enc false h]
  rfl
end Go.Proofs.YtijlecfjgcohhaaDoor.C.U
