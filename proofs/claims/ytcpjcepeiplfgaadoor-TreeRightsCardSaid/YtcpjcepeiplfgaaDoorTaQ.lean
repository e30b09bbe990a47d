/-
  The tree of choices, plain, and that it may be. No condition.
-/
import Derived.Test.YtcpjcepeiplfgaaDoorTaP
namespace Go.Proofs.YtcpjcepeiplfgaaDoor.C

def nd (k : Int) : Nd := ⟨k, 0, false, [], [], 0, 0, 0, []⟩
def kindG (a : Int) : Int := if a % 7 = 0 then 1 else if a % 7 = 1 then 1 else if a % 7 = 2 then 2 else if a % 7 = 3 then 4 else if a % 7 = 4 then 5 else if a % 7 = 5 then 11 else 3
/-- a leaf: what its kind asks for -/
def leafG (a b : Int) : Nd := if kindG a = 1 then { nd 1 with c := 97 + b % 3 } else if kindG a = 3 then { nd 3 with nt := decide (b % 2 = 0), rs := [(97, 97 + b / 2 % 3)] } else nd (kindG a)
def backG (g a b : Int) : Nd := if 200 < a ∧ 0 < g then { nd 6 with n := 1 + b % g } else leafG a b
def lastT (t : Tr) : Int := (t.ns.length : Int) - 1
def grpG (t : Tr) (a : Int) : Tr := if a / 7 % 4 = 0 ∧ t.g < 9 then layT t { nd 7 with n := t.g + 1, ks := [lastT t] } else t
def mostG (b : Int) : Int := if b % 4 = 3 then -1 else b % 4
def leastG (b : Int) : Int := if b / 4 % 3 ≤ (if mostG b ≤ 0 then 0 else mostG b) then b / 4 % 3 else if mostG b ≤ 0 then 0 else mostG b
def timG (t : Tr) (a b : Int) : Tr := if a / 28 % 4 = 0 then layT t { nd 10 with mn := leastG b, mx := mostG b, ks := [lastT t] } else t
def joinG (s : TS) (b : Int) : TS := if b % 3 = 0 ∧ 1 < s.o.length then ⟨layT s.t { nd (if b % 2 = 0 then 9 else 8) with ks := s.o.drop (s.o.length - 2) }, s.o.take (s.o.length - 2) ++ [(s.t.ns.length : Int)]⟩ else s
def step3 (s : TS) (a b : Int) : TS := ⟨timG (grpG (layT s.t (backG s.t.g a b)) a) a b, s.o ++ [lastT (timG (grpG (layT s.t (backG s.t.g a b)) a) a b)]⟩
def stepG (s : TS) (a b : Int) : TS := joinG (step3 s a b) b
def pairsG : List Int → List (Int × Int)
  | a :: b :: r => (a, b) :: pairsG r
  | _ => []
def doneG (s : TS) : Tr := match s.o with
  | [] => layT s.t (nd 11)
  | [_] => s.t
  | o => layT s.t { nd 8 with ks := o }
def runG (zs : List Int) (n : Nat) : TS := ((pairsG zs).take n).foldl (fun s p => stepG s p.1 p.2) ⟨⟨[], 0⟩, []⟩
def treeG (zs : List Int) : Tr := doneG (runG zs 20)
theorem lastT_lay (t : Tr) (x : Nd) : lastT (layT t x) = (t.ns.length : Int) := by simp [lastT, layT]
theorem kindG_in (a : Int) : kindG a = 1 ∨ kindG a = 2 ∨ kindG a = 4 ∨ kindG a = 5 ∨ kindG a = 11 ∨ kindG a = 3 := by
  unfold kindG
  repeat' split
  all_goals simp
theorem leafG_ok (a b g : Int) : nodeB (leafG a b) g = true ∧ (leafG a b).ks = [] ∧ (leafG a b).k ≠ 7 := by
  have h3 : 0 ≤ b % 3 ∧ b % 3 < 3 := by omega
  have h4 : 0 ≤ b / 2 % 3 ∧ b / 2 % 3 < 3 := by omega
  unfold leafG
  rcases kindG_in a with h | h | h | h | h | h
  · rw [h, if_pos rfl]
    refine ⟨?_, rfl, by simp [nd]⟩
    have hc : celOk (97 + b % 3) = true := by unfold celOk; simp only [decide_eq_true_eq]; omega
    simp [nodeB, nd, bareB, hc]
  · rw [h]; refine ⟨by simp [nodeB, nd, bareB], rfl, by simp [nd]⟩
  · rw [h]; refine ⟨by simp [nodeB, nd, bareB], rfl, by simp [nd]⟩
  · rw [h]; refine ⟨by simp [nodeB, nd, bareB], rfl, by simp [nd]⟩
  · rw [h]; refine ⟨by simp [nodeB, nd, bareB], rfl, by simp [nd]⟩
  · rw [h, if_neg (by decide), if_pos rfl]
    refine ⟨?_, rfl, by simp [nd]⟩
    have hc : celOk (97 + b / 2 % 3) = true := by unfold celOk; simp only [decide_eq_true_eq]; omega
    have h0 : celOk 97 = true := by decide
    have hl : (97 : Int) ≤ 97 + b / 2 % 3 := by omega
    simp [nodeB, nd, bareB, setB, rngOk, hc, h0, hl]
theorem backG_ok (a b g : Int) : nodeB (backG g a b) g = true ∧ (backG g a b).ks = [] ∧ (backG g a b).k ≠ 7 := by
  unfold backG
  by_cases h : 200 < a ∧ 0 < g
  · rw [if_pos h]
    have h1 : 0 ≤ b % g := Int.emod_nonneg b (by omega)
    have h2 : b % g < g := Int.emod_lt_of_pos b h.2
    refine ⟨?_, rfl, by simp [nd]⟩
    have h3 : (1 : Int) ≤ 1 + b % g := by omega
    have h4 : 1 + b % g ≤ g := by omega
    simp [nodeB, nd, bareB, h3, h4]
  · rw [if_neg h]
    exact leafG_ok a b g
theorem mostG_in (b : Int) : (mostG b = -1 ∨ 0 ≤ mostG b) ∧ mostG b ≤ 2 := by
  unfold mostG
  split <;> omega
theorem leastG_in (b : Int) : 0 ≤ leastG b ∧ leastG b ≤ 2 ∧ (mostG b = -1 ∨ leastG b ≤ mostG b) := by
  have := mostG_in b
  unfold leastG
  split <;> split <;> omega
theorem InvG.last2 {t : Tr} {o p : List Int} {m : Nat} (h : InvG ⟨t, o⟩ m) (ho : o = p ++ [lastT t]) : 0 ≤ lastT t := (h.ob (lastT t) (by show _ ∈ o; rw [ho]; simp)).1
theorem InvG.grow {s : TS} {m m' : Nat} (h : InvG s m) (hm : m ≤ m') : InvG s m' := ⟨Nat.le_trans h.len hm, h.g0, h.g9, h.nodes, h.use, h.od, h.ob, h.grp, h.last⟩
theorem InvG.grpG {t : Tr} {p : List Int} {m : Nat} (h : InvG ⟨t, p ++ [lastT t]⟩ m) (a : Int) : InvG ⟨C.grpG t a, p ++ [lastT (C.grpG t a)]⟩ (m + 1) := by
  unfold C.grpG
  split
  · have hg := h.g0
    have hc : a / 7 % 4 = 0 ∧ t.g < 9 := by assumption
    simp only at hg
    have := h.lay (x := { nd 7 with n := t.g + 1, ks := [lastT t] }) (p := p) (q := [lastT t]) rfl rfl (by
      have h1 : (1 : Int) ≤ t.g + 1 := by omega
      simp [nodeB, nd, bareB, layT, h1]) (fun _ => ⟨rfl, hc.2⟩)
    rw [lastT_lay]
    exact this
  · exact h.grow (Nat.le_succ _)
theorem InvG.timG {t : Tr} {p : List Int} {m : Nat} (h : InvG ⟨t, p ++ [lastT t]⟩ m) (a b : Int) : InvG ⟨C.timG t a b, p ++ [lastT (C.timG t a b)]⟩ (m + 1) := by
  unfold C.timG
  split
  · have hm := mostG_in b
    have hl := leastG_in b
    have := h.lay (x := { nd 10 with mn := leastG b, mx := mostG b, ks := [lastT t] }) (p := p) (q := [lastT t]) rfl rfl (by
      have h1 : leastG b ≤ 255 := by omega
      have h2 : mostG b ≤ 255 := by omega
      rcases hl.2.2 with h3 | h3 <;> simp [nodeB, nd, bareB, hl.1, h1, h2, h3]) (fun h7 => by simp [nd] at h7)
    rw [lastT_lay]
    exact this
  · exact h.grow (Nat.le_succ _)
theorem InvG.joinG {s : TS} {m : Nat} (h : InvG s m) (b : Int) : InvG (C.joinG s b) (m + 1) := by
  unfold C.joinG
  split
  · have hc : b % 3 = 0 ∧ 1 < s.o.length := by assumption
    refine h.lay (x := { nd (if b % 2 = 0 then 9 else 8) with ks := s.o.drop (s.o.length - 2) }) (p := s.o.take (s.o.length - 2)) (q := s.o.drop (s.o.length - 2)) (List.take_append_drop _ _).symm rfl ?_ (fun h7 => ?_)
    · have hk : 2 ≤ (s.o.drop (s.o.length - 2)).length := by rw [List.length_drop]; omega
      split <;> simp only [nodeB, nd, bareB] <;> simp [-List.length_drop, hk]
    · simp only [nd] at h7
      split at h7 <;> omega
  · exact h.grow (Nat.le_succ _)
theorem InvG.step {s : TS} {m : Nat} (h : InvG s m) (a b : Int) : InvG (stepG s a b) (m + 4) := by
  unfold stepG step3
  obtain ⟨h1, h2, h3⟩ := backG_ok a b s.t.g
  have hg : (layT s.t (backG s.t.g a b)).g = s.t.g := if_neg h3
  have h0 := h.lay (x := backG s.t.g a b) (p := s.o) (q := []) (List.append_nil _).symm h2 (by rw [hg]; exact h1) (fun h7 => absurd h7 h3)
  rw [← lastT_lay s.t (backG s.t.g a b)] at h0
  exact ((h0.grpG a).timG a b).joinG b
theorem InvG.start : InvG ⟨⟨[], 0⟩, []⟩ 0 := by
  refine ⟨Nat.le_refl _, Int.le_refl _, by decide, fun i x h => by simp at h, fun i h0 h1 => by simp at h1; omega, List.nodup_nil, fun k h => (by cases h), fun g h => ?_, .inl rfl⟩
  rw [if_neg (by show ¬ g ≤ 0; omega)]
  rfl
theorem InvG.run : ∀ (l : List (Int × Int)) (s : TS) (m : Nat), InvG s m → InvG (l.foldl (fun s p => stepG s p.1 p.2) s) (m + 4 * l.length)
  | [], _, _, h => h
  | p :: l, s, m, h => by
    have := InvG.run l (stepG s p.1 p.2) (m + 4) (h.step p.1 p.2)
    rw [List.foldl_cons, List.length_cons, show m + 4 * (l.length + 1) = m + 4 + 4 * l.length from by omega]
    exact this
theorem runG_inv (zs : List Int) (n : Nat) (hn : n ≤ 20) : InvG (runG zs n) 80 := by
  refine (InvG.run _ _ _ InvG.start).grow ?_
  have : ((pairsG zs).take n).length ≤ n := by rw [List.length_take]; omega
  omega
theorem doneG_ok {s : TS} (h : InvG s 80) : rightT (doneG s) = true ∧ (doneG s).ns.length ≤ 81 ∧ 0 < (doneG s).ns.length := by
  unfold doneG
  have hlen := h.len
  split
  · rename_i ho
    have h0 := h.lay (x := nd 11) (p := []) (q := []) ho rfl (by simp [nodeB, nd, bareB]) (fun h7 => by simp [nd] at h7)
    have hl : (layT s.t (nd 11)).ns.length = s.t.ns.length + 1 := by simp [layT]
    exact ⟨h0.right (by decide) (by simp [layT]) (by show [(s.t.ns.length : Int)] = _; rw [show ((layT s.t (nd 11)).ns.length : Int) - 1 = (s.t.ns.length : Int) from by rw [hl]; omega]), by omega, by omega⟩
  · rename_i k ho
    have hk := h.ob k (by rw [ho]; simp)
    have hl1 : 1 ≤ s.t.ns.length := by omega
    refine ⟨h.right (by decide) hl1 ?_, by omega, hl1⟩
    rcases h.last with e | ⟨p, e⟩
    · rw [ho] at e; cases e
    · rw [ho] at e ⊢
      have hp : p = [] := by
        have := congrArg List.length e
        rw [List.length_append] at this
        simp only [List.length_cons, List.length_nil] at this
        exact List.length_eq_zero_iff.1 (by omega)
      rw [hp] at e
      exact e
  · rename_i hn1 hn2
    have hk2 : 2 ≤ s.o.length := by
      rcases hs : s.o with _ | ⟨a, _ | ⟨b, r⟩⟩
      · exact absurd hs hn1
      · exact absurd hs (hn2 a)
      · simp
    have h0 := h.lay (x := { nd 8 with ks := s.o }) (p := []) (q := s.o) rfl rfl (by simp [nodeB, nd, bareB, hk2]) (fun h7 => by simp [nd] at h7)
    have hl : (layT s.t { nd 8 with ks := s.o }).ns.length = s.t.ns.length + 1 := by simp [layT]
    exact ⟨h0.right (by decide) (by simp [layT]) (by show [(s.t.ns.length : Int)] = _; rw [show ((layT s.t { nd 8 with ks := s.o }).ns.length : Int) - 1 = (s.t.ns.length : Int) from by rw [hl]; omega]), by omega, by omega⟩
theorem treeG_ok (zs : List Int) : rightT (treeG zs) = true ∧ (treeG zs).ns.length ≤ 81 ∧ 0 < (treeG zs).ns.length := doneG_ok (runG_inv zs 20 (Nat.le_refl _))
end Go.Proofs.YtcpjcepeiplfgaaDoor.C
