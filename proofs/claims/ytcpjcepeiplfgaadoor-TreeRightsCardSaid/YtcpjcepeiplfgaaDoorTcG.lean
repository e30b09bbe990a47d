/-
  A tree as a text, plain; of one that may be: how long it is. No condition.
-/
import Derived.Test.YtcpjcepeiplfgaaDoorTcF
import Derived.Test.YtcpjcepeiplfgaaDoorTbP
namespace Go.Proofs.YtcpjcepeiplfgaaDoor.C

def rngT (r : Int × Int) : List UInt8 := textL [r.1] ++ 45 :: textL [r.2] ++ [32]
def txtT (t : List Int) : List UInt8 := 61 :: textL t ++ [32]
def setT (x : Nd) : List UInt8 := 91 :: (if x.nt then [94] else []) ++ x.rs.flatMap rngT ++ x.ts.flatMap txtT ++ [93]
def befT (x : Nd) : List UInt8 := if x.k = 1 then 39 :: textL [x.c] else if x.k = 2 then [46] else if x.k = 3 then setT x else if x.k = 4 then [94] else if x.k = 5 then [36] else if x.k = 6 then 35 :: Lib.itoa x.n else if x.k = 7 then 40 :: Lib.itoa x.n ++ [58] else if x.k = 9 then [123] else if x.k = 10 then [] else if x.k = 11 then [40, 41] else []
def betT (x : Nd) : List UInt8 := if x.k = 9 then [124] else []
def behT (x : Nd) : List UInt8 := if x.k = 7 then [41] else if x.k = 9 then [125] else if x.k = 10 then 42 :: Lib.itoa x.mn ++ 44 :: Lib.itoa x.mx else []
/-- texts, one behind the other, with signs between -/
def joinP (sep : List UInt8) (f : Int → List UInt8) : List Int → List UInt8
  | [] => []
  | k :: r => f k ++ r.flatMap fun j => sep ++ f j
def nodeT (acc : List (List UInt8)) (x : Nd) : List UInt8 := befT x ++ joinP (betT x) (fun k => acc.getD k.toNat []) x.ks ++ behT x
def prL (ns : List Nd) : List (List UInt8) := ns.foldl (fun acc x => acc ++ [nodeT acc x]) []
theorem prL_snoc (ns : List Nd) (x : Nd) : prL (ns ++ [x]) = prL ns ++ [nodeT (prL ns) x] := by unfold prL; rw [List.foldl_append]; rfl
theorem list_snoc {α : Type} {P : List α → Prop} (h0 : P []) (h1 : ∀ l x, P l → P (l ++ [x])) (l : List α) : P l := by
  have : ∀ r : List α, P r.reverse := by
    intro r
    induction r with
    | nil => exact h0
    | cons a r ih => rw [List.reverse_cons]; exact h1 _ _ ih
  have h := this l.reverse
  rwa [List.reverse_reverse] at h
theorem prL_len : ∀ (ns : List Nd), (prL ns).length = ns.length := by
  refine list_snoc rfl fun ns x ih => ?_
  rw [prL_snoc, List.length_append, List.length_append, ih]
  rfl
theorem prL_prefix : ∀ (ns ms : List Nd) (k : Nat), k < ns.length → (prL (ns ++ ms)).getD k [] = (prL ns).getD k [] := by
  intro ns
  refine list_snoc (fun k _ => by rw [List.append_nil]) fun ms x ih => ?_
  · intro k hk
    rw [← List.append_assoc, prL_snoc, List.getD_eq_getElem?_getD, List.getElem?_append_left (by rw [prL_len, List.length_append]; omega), ← List.getD_eq_getElem?_getD]
    exact ih k hk
/-- the text of the node at a place -/
def prI (t : Tr) (i : Int) : List UInt8 := (prL t.ns).getD i.toNat []
theorem joinP_congr {sep : List UInt8} {f g : Int → List UInt8} : ∀ {l : List Int}, (∀ k ∈ l, f k = g k) → joinP sep f l = joinP sep g l
  | [], _ => rfl
  | k :: r, h => by
    show f k ++ (r.flatMap fun j => sep ++ f j) = g k ++ r.flatMap fun j => sep ++ g j
    rw [h k (by simp)]
    congr 1
    have : ∀ {l : List Int}, (∀ k ∈ l, f k = g k) → (l.flatMap fun j => sep ++ f j) = l.flatMap fun j => sep ++ g j := by
      intro l
      induction l with
      | nil => intro _; rfl
      | cons a r ih =>
        intro h
        rw [List.flatMap_cons, List.flatMap_cons, h a (by simp), ih (fun k hk => h k (List.mem_cons_of_mem _ hk))]
    exact this (fun k hk => h k (List.mem_cons_of_mem _ hk))
theorem prI_eq {t : Tr} {i : Nat} {x : Nd} (hx : t.ns[i]? = some x) (hk : ∀ k ∈ x.ks, 0 ≤ k ∧ k < (i : Int)) : prI t (i : Int) = befT x ++ joinP (betT x) (prI t) x.ks ++ behT x := by
  have hi := (List.getElem?_eq_some_iff.1 hx).1
  have e : t.ns = t.ns.take i ++ [x] ++ t.ns.drop (i + 1) := by rw [← take_nd hx, List.take_append_drop]
  have hl : (t.ns.take i).length = i := by rw [List.length_take]; omega
  have key : ∀ a d : List Nd, a.length = i → (prL (a ++ [x] ++ d)).getD i [] = nodeT (prL a) x := by
    intro a d ha
    rw [prL_prefix _ _ i (by rw [List.length_append, ha]; simp), prL_snoc, List.getD_eq_getElem?_getD, List.getElem?_append_right (by rw [prL_len, ha]; omega), prL_len, ha]
    simp
  have h1 : prI t (i : Int) = nodeT (prL (t.ns.take i)) x := by
    have := key (t.ns.take i) (t.ns.drop (i + 1)) hl
    rw [← e] at this
    unfold prI
    rw [Int.toNat_natCast]
    exact this
  rw [h1]
  unfold nodeT
  congr 2
  refine joinP_congr fun k hkk => ?_
  obtain ⟨a, b⟩ := hk k hkk
  unfold prI
  conv => rhs; rw [e, List.append_assoc]
  exact (prL_prefix _ _ k.toNat (by rw [hl]; omega)).symm
end Go.Proofs.YtcpjcepeiplfgaaDoor.C
