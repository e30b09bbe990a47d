/-
  areKids: whether the kids of a node lie ahead of it, and are no other's; which it keeps. No condition but what each names.
-/
import Derived.Test.YtcpjcepeiplfgaaDoorTbF
namespace Go.Proofs.YtcpjcepeiplfgaaDoor.C
open Go.RowKit

/-- the map of kids -/
def KsIs (w : World) (M : Nat) (keys : List Int) : Prop := MapIs w M (.int .i64) (keys.map fun k => (Value.int .i64 k, Value.bool true))
theorem ks_fst (keys : List Int) : (keys.map fun k => (Value.int .i64 k, Value.bool true)).map Prod.fst = keys.map (Value.int .i64) := by induction keys <;> simp_all
theorem ks_mem {keys : List Int} {k : Int} : Value.int .i64 k ∈ (keys.map fun k => (Value.int .i64 k, Value.bool true)).map Prod.fst ↔ k ∈ keys := by
  rw [ks_fst, List.mem_map]
  constructor
  · rintro ⟨a, ha, e⟩
    injection e with _ e
    exact e ▸ ha
  · intro h
    exact ⟨k, h, rfl⟩
theorem KsIs.nodup {w : World} {M : Nat} {keys : List Int} (h : KsIs w M keys) : keys.Nodup := by
  obtain ⟨es, c, _, _, _, h4⟩ := h
  rw [ks_fst, List.nodup_iff_pairwise_ne, List.pairwise_map] at h4
  exact List.nodup_iff_pairwise_ne.2 (h4.imp fun h e => h (by rw [e]))
theorem zeroBoolT (w : World) : (zeroValue 4).run Tryd.prog w = .ok (.bool false) w := by kernel_rfl
/-- what the closure stands on -/
structure KdSt (w : World) (Va Vc C M : Nat) (i : Nat) (g : Int) (gs keys : List Int) : Prop where
  a : One w Va 3 (.int .i64 (i : Int))
  c : One w Vc 80 (.pointer (some ⟨C, 0, none⟩))
  ck : CkAt w C g gs M
  m : KsIs w M keys
theorem KdSt.fr {w w' : World} {Va Vc C M i : Nat} {g : Int} {gs keys keys' : List Int} (h : KdSt w Va Vc C M i g gs keys) (hf : Fr w w' (· = M)) (hm : KsIs w' M keys') : KdSt w' Va Vc C M i g gs keys' := by
  have hne : ∀ b, (∃ t cs, Rw w b t cs) → b ≠ M := by
    rintro b ⟨t, cs, hr⟩ rfl
    obtain ⟨es, c, h1, _⟩ := h.m
    rw [show w.heap[b]? = _ from hr] at h1
    cases h1
  exact ⟨(hf.block _ (Rw.lt h.a) (hne _ ⟨_, _, h.a⟩)).trans h.a, (hf.block _ (Rw.lt h.c) (hne _ ⟨_, _, h.c⟩)).trans h.c, (hf.block _ (Rw.lt h.ck) (hne _ ⟨_, _, h.ck⟩)).trans h.ck, hm⟩
def badK (keys : List Int) (i : Nat) (ks : List Int) (j : Nat) : Bool := match ks[j]? with
  | some k => decide (k < 0 ∨ (i : Int) ≤ k ∨ k ∈ keys ++ ks.take j)
  | none => false
set_option maxRecDepth 100000 in
set_option maxHeartbeats 1000000 in
theorem kid_no (w : World) (Va Vc C M i : Nat) (g : Int) (gs keys : List Int) (k : Int) (h : KdSt w Va Vc C M i g gs keys) (hb : k < 0 ∨ (i : Int) ≤ k ∨ k ∈ keys) : Calls Tryd.prog 42 #[.int .i64 k, .pointer (some ⟨Va, 0, none⟩), .pointer (some ⟨Vc, 0, none⟩)] w fun e w' => e = .returned (.bool false) ∧ w' = w := by
  have a0 := h.a.cell
  have b0 := h.c.cell
  have c0 : w.cell? ⟨C, 10, none⟩ = some (.map (some M)) := Rw.cell h.ck (i := 10) rfl
  by_cases h1 : k < 0
  · clear h hb
    go_enter Tryd.func42, Tryd.ntmps42
    go_wp2
    go_ret
    exact ⟨rfl, rfl⟩
  by_cases h2 : (i : Int) ≤ k
  · clear h hb
    go_enter Tryd.func42, Tryd.ntmps42
    go_wp2
    go_ret
    exact ⟨rfl, rfl⟩
  have h3 : k ∈ keys := (hb.resolve_left h1).resolve_left h2
  have q1 := MapIs.look_yes (P := Tryd.prog) h.m Tryd.underlying53 Tryd.underlying3 (key := (.int .i64 k)) (v := .bool true) (by first | trivial | rfl) (List.mem_map.2 ⟨k, h3, rfl⟩) false
  clear h hb h3
  go_enter Tryd.func42, Tryd.ntmps42
  go_wp2
  go_ret
  exact ⟨rfl, rfl⟩
set_option maxRecDepth 100000 in
set_option maxHeartbeats 1000000 in
theorem kid_yes (w : World) (Va Vc C M i : Nat) (g : Int) (gs keys : List Int) (k : Int) (h : KdSt w Va Vc C M i g gs keys) (hb : ¬ (k < 0 ∨ (i : Int) ≤ k ∨ k ∈ keys)) : Calls Tryd.prog 42 #[.int .i64 k, .pointer (some ⟨Va, 0, none⟩), .pointer (some ⟨Vc, 0, none⟩)] w fun e w' => e = .returned (.bool true) ∧ KsIs w' M (keys ++ [k]) ∧ Fr w w' (· = M) := by
  have a0 := h.a.cell
  have b0 := h.c.cell
  have c0 : w.cell? ⟨C, 10, none⟩ = some (.map (some M)) := Rw.cell h.ck (i := 10) rfl
  have h1 : ¬ k < 0 := by omega
  have h2 : ¬ (i : Int) ≤ k := by omega
  have h3 : k ∉ keys := fun h => hb (.inr (.inr h))
  have hnm : Value.int .i64 k ∉ (keys.map fun k => (Value.int .i64 k, Value.bool true)).map Prod.fst := fun h => h3 (ks_mem.1 h)
  have q1 := MapIs.look_no (P := Tryd.prog) h.m Tryd.underlying53 Tryd.underlying3 (key := (.int .i64 k)) (by first | trivial | rfl) hnm (zeroBoolT w) false
  obtain ⟨o, q2, hM⟩ := MapIs.put_new (P := Tryd.prog) h.m Tryd.underlying53 Tryd.underlying3 (key := (.int .i64 k)) (by first | trivial | rfl) hnm (.bool true)
  have HE : Hid (KsIs (putObj w M o) M (keys ++ [k]) ∧ Fr w (putObj w M o) (· = M)) := Lib.hid ⟨by unfold KsIs; rw [List.map_append]; exact hM, (Fr.of_grown (putObj_only o)).mono (fun j _ h => by injection h with h; exact h.symm)⟩
  clear h hb h3 hnm hM
  go_enter Tryd.func42, Tryd.ntmps42
  go_wp2
  go_ret
  exact ⟨rfl, HE.out⟩
set_option maxRecDepth 100000 in
set_option maxHeartbeats 1000000 in
theorem allKid_no (w : World) (V0 Va Vc C M i : Nat) (g : Int) (gs keys : List Int) (k : Int) (h0 : One w V0 83 (.func (.func 42) #[] #[.pointer (some ⟨Va, 0, none⟩), .pointer (some ⟨Vc, 0, none⟩)])) (h : KdSt w Va Vc C M i g gs keys) (hb : k < 0 ∨ (i : Int) ≤ k ∨ k ∈ keys) : Calls Tryd.prog 59 #[.int .i64 k, .pointer (some ⟨V0, 0, none⟩)] w fun e w' => e = .returned (.bool true) ∧ w' = w := by
  have hc := kid_no w Va Vc C M i g gs keys k h hb
  have q0 := h0.cell
  clear h0 h hb
  go_enter Tryd.func59, Tryd.ntmps59
  go_wp2_with fail
  refine hc.mono ?_
  rintro e w1 ⟨rfl, rfl⟩
  clear hc
  go_wp2
  go_ret
  exact ⟨rfl, rfl⟩
set_option maxRecDepth 100000 in
set_option maxHeartbeats 1000000 in
theorem allKid_yes (w : World) (V0 Va Vc C M i : Nat) (g : Int) (gs keys : List Int) (k : Int) (h0 : One w V0 83 (.func (.func 42) #[] #[.pointer (some ⟨Va, 0, none⟩), .pointer (some ⟨Vc, 0, none⟩)])) (h : KdSt w Va Vc C M i g gs keys) (hb : ¬ (k < 0 ∨ (i : Int) ≤ k ∨ k ∈ keys)) : Calls Tryd.prog 59 #[.int .i64 k, .pointer (some ⟨V0, 0, none⟩)] w fun e w' => e = .returned (.bool false) ∧ KsIs w' M (keys ++ [k]) ∧ Fr w w' (· = M) := by
  have hc := kid_yes w Va Vc C M i g gs keys k h hb
  have q0 := h0.cell
  clear h0 h hb
  go_enter Tryd.func59, Tryd.ntmps59
  go_wp2_with fail
  refine hc.mono ?_
  rintro e w1 ⟨rfl, h1, h2⟩
  have HE := Lib.hid (And.intro h1 h2)
  clear hc h1 h2
  go_wp2
  go_ret
  exact ⟨rfl, HE.out⟩
/-- what areKids answers -/
def KidsTold (w : World) (M i : Nat) (keys ks : List Int) (e : Ending) (w' : World) : Prop := ∃ r, e = .returned (.bool r) ∧ Fr w w' (· = M) ∧ (r = true → (∀ k ∈ ks, 0 ≤ k ∧ k < (i : Int)) ∧ KsIs w' M (keys ++ ks)) ∧ (r = false → ∃ j k, ks[j]? = some k ∧ (k < 0 ∨ (i : Int) ≤ k ∨ k ∈ keys ++ ks.take j))
theorem kids_good {keys ks : List Int} {i : Nat} (h : ∀ j, j < ks.length → badK keys i ks j = false) : ∀ k ∈ ks, 0 ≤ k ∧ k < (i : Int) := by
  intro k hk
  obtain ⟨j, hj⟩ := List.mem_iff_getElem?.1 hk
  have := h j (List.getElem?_eq_some_iff.1 hj).1
  unfold badK at this
  rw [hj] at this
  have := of_decide_eq_false this
  omega
theorem KidsTold.of {w w0 W : World} {M i : Nat} {keys ks : List Int} (hb : Below w.heap.size w w0) (hf : Fr w0 W (· = M)) (r : Bool) (h1 : r = true → (∀ j, j < ks.length → badK keys i ks j = false) ∧ KsIs W M (keys ++ ks)) (h2 : r = false → ∃ j, badK keys i ks j = true) : KidsTold w M i keys ks (.returned (.bool r)) W := by
  refine ⟨r, rfl, (Fr.of_below hb).trans (hf.mono fun _ _ h => h) |>.mono (fun _ _ h => h), fun h => ⟨kids_good (h1 h).1, (h1 h).2⟩, fun h => ?_⟩
  obtain ⟨j, hj⟩ := h2 h
  unfold badK at hj
  split at hj
  · rename_i k hk
    exact ⟨j, k, hk, of_decide_eq_true hj⟩
  · cases hj
set_option maxRecDepth 100000 in
set_option maxHeartbeats 2000000 in
theorem areKids_any (w : World) (P : Nat → Prop) (C M i : Nat) (g : Int) (gs keys ks : List Int) (vK : Value) (hC : CkAt w C g gs M) (hM : KsIs w M keys) (hK : KsP w P vK ks) (hP : ∀ b, P b → b < w.heap.size ∧ b ≠ M) :
    Calls Tryd.prog 23 #[.pointer (some ⟨C, 0, none⟩), vK, .int .i64 i] w (KidsTold w M i keys ks) := by
  obtain ⟨A, c, rfl, hri, hn⟩ := hK
  obtain ⟨S, hS⟩ : ∃ S, w.heap.size = S := ⟨_, rfl⟩
  obtain ⟨W, hW⟩ : ∃ W, W = (w.alloc (.cells #[.pointer (some ⟨C, 0, none⟩)] 80)).alloc (.cells #[.int .i64 (i : Int)] 3) := ⟨_, rfl⟩
  obtain ⟨W', hW'⟩ : ∃ W', W' = W.alloc (.cells #[.func (.func 42) #[] #[.pointer (some ⟨S + 1, 0, none⟩), .pointer (some ⟨S, 0, none⟩)]] 83) := ⟨_, rfl⟩
  have hb1 : Below S w (w.alloc (.cells #[.pointer (some ⟨C, 0, none⟩)] 80)) := (Below.refl _ _).alloc (by omega) _
  have hb2 : Below (S + 1) (w.alloc (.cells #[.pointer (some ⟨C, 0, none⟩)] 80)) W := by rw [hW]; exact (Below.refl _ _).alloc (by simp; omega) _
  have hs2 : W.heap.size = S + 2 := by rw [hW]; simp; omega
  have hb3 : Below (S + 2) W W' := by rw [hW']; exact (Below.refl _ _).alloc (by omega) _
  have o1 : One W S 80 (.pointer (some ⟨C, 0, none⟩)) := by
    have : One (w.alloc (.cells #[.pointer (some ⟨C, 0, none⟩)] 80)) S 80 (.pointer (some ⟨C, 0, none⟩)) := by rw [← hS]; exact heap_alloc_new w _
    exact Rw.on this hb2 (by omega)
  have o2 : One W (S + 1) 3 (.int .i64 (i : Int)) := by
    have := heap_alloc_new (w.alloc (.cells #[.pointer (some ⟨C, 0, none⟩)] 80)) (.cells #[.int .i64 (i : Int)] 3)
    rw [World.size_alloc, hS] at this
    rw [hW]; exact this
  have o3 : One W' (S + 2) 83 (.func (.func 42) #[] #[.pointer (some ⟨S + 1, 0, none⟩), .pointer (some ⟨S, 0, none⟩)]) := by rw [hW', ← hs2]; exact heap_alloc_new W _
  have hb : Below S w W' := hb1.trans ((hb2.trans (hb3.mono (by omega))).mono (by omega))
  have st : KdSt W' (S + 1) S C M i g gs keys := ⟨Rw.on o2 hb3 (by omega), Rw.on o1 hb3 (by omega), Rw.on hC hb (by have := Rw.lt hC; omega), MapIs.at_ hM (hb.block M (by have := MapIs.lt hM; omega))⟩
  have hmf : ∀ (fn : Fn) (first cap : Array Value) (w : World), (Instr.makeFunc fn first cap).run Tryd.prog w = .ok (.func fn first cap) w := fun _ _ _ _ => rfl
  have hneM : S + 2 ≠ M := by have := MapIs.lt hM; omega
  have hf := hasInt_any W' P A ks.length c ks (S + 2) (badK keys i ks) (fun j x => Fr W' x (· = M) ∧ KsIs x M (keys ++ ks.take j)) (fun _ x => Fr W' x (· = M)) hn ⟨Fr.of_below (Below.refl _ _), by simpa using st.m⟩
    (fun j x hx => (hri.keep (below_cells hb (fun b hp => by rw [← hS]; exact (hP b hp).1))).keep (fr_cells hx.1 fun b hp => ⟨Nat.lt_of_lt_of_le (hP b hp).1 (by have := hb.size; omega), (hP b hp).2⟩))
    (fun j z x hz hx => by
      have hst := st.fr hx.1 hx.2
      have h0 : One x (S + 2) _ _ := (hx.1.block (S + 2) (Rw.lt o3) hneM).trans o3
      by_cases hbad : z < 0 ∨ (i : Int) ≤ z ∨ z ∈ keys ++ ks.take j
      · have hq : badK keys i ks j = true := by unfold badK; rw [hz]; exact decide_eq_true hbad
        rw [hq]
        refine (allKid_no x (S + 2) (S + 1) S C M i g gs _ z h0 hst hbad).mono ?_
        rintro e w2 ⟨rfl, rfl⟩
        exact ⟨rfl, fun h => (by cases h), fun _ => hx.1⟩
      · have hq : badK keys i ks j = false := by unfold badK; rw [hz]; exact decide_eq_false hbad
        rw [hq]
        refine (allKid_yes x (S + 2) (S + 1) S C M i g gs _ z h0 hst hbad).mono ?_
        rintro e w2 ⟨rfl, h1, h2⟩
        exact ⟨rfl, fun _ => ⟨hx.1.trans h2, by rw [take_one hz, ← List.append_assoc]; exact h1⟩, fun h => (by cases h)⟩)
  have HBW := Lib.hid hb
  have hB := hb
  rw [← hS] at hB
  have HB := Lib.hid hB
  have HKF : ∀ e w2, HasIt ks.length (badK keys i ks) (fun j x => Fr W' x (· = M) ∧ KsIs x M (keys ++ ks.take j)) (fun _ x => Fr W' x (· = M)) e w2 → ∃ r : Bool, e = .returned (.bool r) ∧ Hid (KidsTold w M i keys ks (.returned (.bool (!r))) w2) := by
    rintro e w2 (⟨j, hj, hq, -, rfl, h5⟩ | ⟨hq, rfl, h5⟩)
    · exact ⟨true, rfl, Lib.hid (KidsTold.of HB.out h5 false (fun h => by cases h) (fun _ => ⟨j, hq⟩))⟩
    · exact ⟨false, rfl, Lib.hid (KidsTold.of HB.out h5.1 true (fun _ => ⟨hq, by have := h5.2; rwa [List.take_length] at this⟩) (fun h => by cases h))⟩
  clear hri hb1 hb2 hb3 o1 o2 o3 hb st hB hneM hC hM hP hn
  have hall : Calls Tryd.prog 41 #[.slice A ks.length c, .func (.func 42) #[] #[.pointer (some ⟨S + 1, 0, none⟩), .pointer (some ⟨S, 0, none⟩)]] W (KidsTold w M i keys ks) := by
    clear hW
    go_enter Tryd.func41, Tryd.ntmps41
    go_wp2_with fail
    rw [← hW']
    refine hf.mono ?_
    intro e w2 h2
    obtain ⟨r, rfl, h3⟩ := HKF e w2 h2
    clear hf h2
    go_wp2
    go_ret
    exact h3.out
  clear hf HKF hW' hs2
  go_enter Tryd.func23, Tryd.ntmps23
  go_wp2_with fail
  rw [← hW]
  refine hall.mono ?_
  rintro e w2 h2
  have h3 := h2
  obtain ⟨r, rfl, -⟩ := h3
  have HE := Lib.hid h2
  clear h2 hall
  go_wp2
  go_ret
  exact HE.out
end Go.Proofs.YtcpjcepeiplfgaaDoor.C
