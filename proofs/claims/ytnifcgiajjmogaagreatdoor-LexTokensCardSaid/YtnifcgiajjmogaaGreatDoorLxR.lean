/-
  A reader in memory, and the contracts of its plain steps: what is left, a blank. No condition but what each names.
-/
import Derived.Test.YtnifcgiajjmogaaGreatDoorLxO
import Derived.Laws.OwnMore
import Derived.Deep.AppendLies
import Derived.Lib.BufferWrite
import Derived.Deep.RegionLaw
import Derived.Deep.Draws
import Derived.Maps.AppendAt
import Derived.StillTailTactics
namespace Go.Proofs.YtnifcgiajjmogaaGreatDoor.C
open Go.RowKit

theorem block_of_add (a : Addr) (n : Nat) : (a.add n).block = a.block := by unfold Addr.add; split <;> rfl
theorem add_of_add (a : Addr) (i j : Nat) : (a.add i).add j = a.add (i + j) := by
  unfold Addr.add
  by_cases hi : i = 0 <;> by_cases hj : j = 0 <;> simp [hi, hj, Nat.add_assoc]
theorem add_plain (b off j : Nat) : (⟨b, off, none⟩ : Addr).add j = ⟨b, off + j, none⟩ := by unfold Addr.add; split <;> simp_all
theorem own_keep {w w' : World} {base : Nat} {e : TypeId} {size : Nat} {v : Value} {n : Nat} {xs : List Value} (h : w.ownsRow base e size v n xs) (hb : Below w.heap.size w w') : w'.ownsRow base e size v n xs := by
  refine ⟨h.1, ?_⟩
  rcases h.2 with h1 | ⟨g, cap, cur, h1, h2, h3, h4⟩
  · exact .inl h1
  · exact .inr ⟨g, cap, cur, h1, h2, (hb.block g (Array.getElem?_eq_some_iff.1 h3).1).trans h3, h4⟩
theorem own_less {w : World} {base base' : Nat} {e : TypeId} {size : Nat} {v : Value} {n : Nat} {xs : List Value} (h : w.ownsRow base e size v n xs) (hb : base' ≤ base) : w.ownsRow base' e size v n xs := by
  refine ⟨h.1, ?_⟩
  rcases h.2 with h1 | ⟨g, cap, cur, h1, h2, h3⟩
  · exact .inl h1
  · exact .inr ⟨g, cap, cur, h1, Nat.le_trans hb h2, h3⟩
/-- an owned row is no block of cells of another type -/
theorem row_ne {w : World} {base : Nat} {e : TypeId} {size n : Nat} {u : Value} {xs : List Value} (h : w.ownsRow base e size u n xs) {g : Nat} {cur : Array Value} {t : TypeId} {f : Nat × Nat} (hg : w.heap[g]? = some (.cells cur t f)) (hte : t ≠ e) : u.ownBlock ≠ some g := by
  intro he
  rcases h.2 with ⟨rfl, _⟩ | ⟨g', c, cur', rfl, _, hg', _⟩
  · simp [Value.ownBlock] at he
  · obtain rfl : g' = g := by simpa [Value.ownBlock] using he
    rw [hg] at hg'
    simp at hg'
    exact hte hg'.2.1

/-- a token's cells; those of a row of them -/
def tkC (x : Tok) : List Value := [.int .u8 x.k, .string (str x.t), .int .i64 x.n, .int .i64 x.at_]
def tksC (ts : List Tok) : List Value := ts.flatMap tkC
theorem tksC_snoc (ts : List Tok) (x : Tok) : tksC (ts ++ [x]) = tksC ts ++ tkC x := by simp [tksC]
theorem infoTok : (Tryz.prog.info? 35).map (fun i => (i.zero, i.size, i.bytes)) = some (some (.agg #[.int .u8 0, .string ⟨#[]⟩, .int .i64 0, .int .i64 0]), 4, 40) := by kernel_rfl

/-- block R is a reader of the text s, at place k, that has these tokens -/
def RD (w : World) (R : Nat) (s : ByteArray) (k : Nat) (ts : List Tok) : Prop :=
  glN ≤ R ∧ ∃ v, w.heap[R]? = some (.cells #[.string s, .int .i64 k, v] 41 (0, 0)) ∧ w.ownsRow R 35 4 v ts.length (tksC ts)
section
variable {w w' : World} {R k : Nat} {s : ByteArray} {ts : List Tok}
theorem rd_cells {v : Value} (hb : w.heap[R]? = some (.cells #[.string s, .int .i64 k, v] 41 (0, 0))) :
    w.cell? ⟨R, 0, none⟩ = some (.string s) ∧ w.cell? ⟨R, 1, none⟩ = some (.int .i64 k) ∧ w.cell? ⟨R, 2, none⟩ = some v ∧ w.frozen? ⟨R, 1, none⟩ = false ∧ w.frozen? ⟨R, 2, none⟩ = false := by
  simp [World.cell?, World.frozen?, hb]
theorem RD.lt (h : RD w R s k ts) : R < w.heap.size := by
  obtain ⟨_, v, hb, _⟩ := h
  exact (Array.getElem?_eq_some_iff.1 hb).1
theorem RD.drewN (h : RD w R s k ts) (n : Nat) : RD (w.drewN n) R s k ts := h
theorem RD.next (h : RD w R s k ts) (hb : Below w.heap.size w w') : RD w' R s k ts := by
  have hlt := h.lt
  obtain ⟨h0, v, h1, h2⟩ := h
  exact ⟨h0, v, (hb.block R hlt).trans h1, own_keep h2 hb⟩
theorem RD.seek (h : RD w R s k ts) (k' : Nat) : RD (w.setCell ⟨R, 1, none⟩ (.int .i64 k')) R s k' ts := by
  obtain ⟨h0, v, h1, h2⟩ := h
  have hne := row_ne h2 h1 (by decide)
  refine ⟨h0, v, ?_, h2.kept (Lib.grownBy_setCell w R 1 _) (.inr hne)⟩
  obtain ⟨hlt, hk⟩ := Array.getElem?_eq_some_iff.1 h1
  show (w.heap.modify R _)[R]? = _
  rw [Array.getElem?_eq_getElem (by rw [Array.size_modify]; exact hlt), Array.getElem_modify_self, hk]
  rfl
theorem RD.gl (h : RD w R s k ts) : glN ≤ R := h.1
end
theorem below_seek {w W : World} {R : Nat} (h : Below R w W) (i : Nat) (u : Value) : Below R w (W.setCell ⟨R, i, none⟩ u) := h.setCell (p := ⟨R, i, none⟩) (Nat.le_refl R) u
theorem own_slice4 {w : World} {base : Nat} {e : TypeId} {v : Value} {n : Nat} {xs : List Value} (h : w.ownsRow base e 4 v n xs) : ∃ A c, v = .slice A n c ∧ n ≤ c ∧ c ≤ maxLen := by
  rcases h.2 with ⟨rfl, h0⟩ | ⟨g, c, cur, rfl, _, _, hc, hm, _⟩
  · obtain rfl : n = 0 := by have := h.1; rw [h0] at this; simp at this; omega
    exact ⟨none, 0, rfl, Nat.le_refl _, Nat.zero_le _⟩
  · exact ⟨_, c, rfl, hc, hm⟩

/-- blocks of cells that are neither tokens nor a reader stay -/
def Kt (w w' : World) : Prop := ∀ (b : Nat) (cs : Array Value) (t : TypeId) (f : Nat × Nat), w.heap[b]? = some (.cells cs t f) → t ≠ 35 → t ≠ 41 → w'.heap[b]? = some (.cells cs t f)
theorem Kt.refl (w : World) : Kt w w := fun _ _ _ _ h _ _ => h
theorem Kt.trans {a b c : World} (h : Kt a b) (k : Kt b c) : Kt a c := fun j cs t f h1 h2 h3 => k j cs t f (h j cs t f h1 h2 h3) h2 h3
theorem Kt.of_below {w w' : World} (h : Below w.heap.size w w') : Kt w w' := fun b _ _ _ h1 _ _ => (h.block b (Array.getElem?_eq_some_iff.1 h1).1).trans h1
theorem Kt.drewN (w : World) (n : Nat) : Kt w (w.drewN n) := fun _ _ _ _ h _ _ => h
theorem Kt.setCell {w : World} {b : Nat} {cs : Array Value} {t : TypeId} {f : Nat × Nat} (hb : w.heap[b]? = some (.cells cs t f)) (ht : t = 35 ∨ t = 41) (i : Nat) (u : Value) : Kt w (w.setCell ⟨b, i, none⟩ u) := by
  intro j cs' t' f' h1 h2 h3
  refine (Below.heap_setCell _ _ _ _ (fun e => ?_)).trans h1
  have e' : j = b := e
  subst e'
  rw [hb] at h1
  simp at h1
  rcases ht with h | h
  · exact h2 (h1.2.1 ▸ h)
  · exact h3 (h1.2.1 ▸ h)
theorem Kt.grown {w w' : World} {base n size : Nat} {v : Value} {xs : List Value} (h : w.ownsRow base 35 size v n xs) (hg : w.grownBy w' v.ownBlock) : Kt w w' := by
  intro j cs t f h1 h2 h3
  exact (hg.block j (Array.getElem?_eq_some_iff.1 h1).1 (fun e => row_ne h h1 h2 e.symm)).trans h1
/-- what stands below a reader stays, and what is neither tokens nor a reader -/
def Bk (R : Nat) (w w' : World) : Prop := Below R w w' ∧ Kt w w'
theorem bk_refl (R : Nat) (w : World) : Bk R w w := ⟨Below.refl _ _, Kt.refl w⟩
theorem Bk.trans {R : Nat} {a b c : World} (h : Bk R a b) (k : Bk R b c) : Bk R a c := ⟨h.1.trans k.1, h.2.trans k.2⟩
theorem bk_drewN (R : Nat) (w : World) (n : Nat) : Bk R w (w.drewN n) := ⟨below_drewN0 (Below.refl _ _) n, Kt.drewN w n⟩
theorem bk_of {R : Nat} {w w' : World} (h : Below w.heap.size w w') (hR : R ≤ w.heap.size) : Bk R w w' := ⟨h.mono hR, Kt.of_below h⟩
theorem bk_seek {w W : World} {R k : Nat} {s : ByteArray} {ts : List Tok} (h : Bk R w W) (hd : RD W R s k ts) (i : Nat) (u : Value) : Bk R w (W.setCell ⟨R, i, none⟩ u) := by
  obtain ⟨_, v, hb, _⟩ := hd
  exact ⟨h.1.setCell (p := ⟨R, i, none⟩) (Nat.le_refl R) u, h.2.trans (Kt.setCell hb (.inr rfl) i u)⟩

/-- what a step leaves -/
def Stepped (w : World) (R : Nat) (s : ByteArray) (b : Bool) (k : Nat) (ts : List Tok) (e : Ending) (w' : World) : Prop := e = .returned (.bool b) ∧ RD w' R s k ts ∧ Bk R w w'

theorem drop_ba {s : ByteArray} {k : Nat} (h : k < s.size) : s.data.toList.drop k = s[k]'h :: s.data.toList.drop (k + 1) := by
  have h' : k < s.data.toList.length := by rw [size_list]; exact h
  rw [List.drop_eq_getElem_cons h']
  rfl

set_option maxHeartbeats 1000000 in
theorem rest_any (w : World) (R k : Nat) (s : ByteArray) (ts : List Tok) (h : RD w R s k ts) (hk : k ≤ s.size) (_hs : s.size ≤ 4000) :
    Calls Tryz.prog 37 #[.pointer (some ⟨R, 0, none⟩)] w fun e w' => e = .returned (.string (str (s.data.toList.drop k))) ∧ ∃ n, w' = w.drewN n := by
  obtain ⟨_, v, hb, _⟩ := h
  obtain ⟨c0, c1, _, _, _⟩ := rd_cells hb
  have e1 : s.extract k s.size = str (s.data.toList.drop k) := by rw [extract_str, ← size_list, List.take_length]
  have k0 : (0 : Int) ≤ (k : Int) := by omega
  have k1 : (k : Int) ≤ (s.size : Int) := by omega
  have E1 := Lib.hid e1
  clear hb e1
  go_enter Tryz.func37, Tryz.ntmps37
  go_wp2
  go_quiet (fail)
  go_wp2
  go_ret
  exact ⟨by rw [← E1.out]; rfl, _, rfl⟩

theorem nat_ne {n m : Nat} (h : n ≠ m) : ((n : Int) != (m : Int)) = true := by simp; omega
set_option maxHeartbeats 1000000 in
theorem blank_no (w : World) (R k : Nat) (s : ByteArray) (ts : List Tok) (h : RD w R s k ts) (hk : k < s.size) (_hs : s.size ≤ 4000) (h1 : (s[k]'hk).toNat ≠ 32) (h2 : (s[k]'hk).toNat ≠ 9) :
    Calls Tryz.prog 21 #[.pointer (some ⟨R, 0, none⟩)] w (Stepped w R s false k ts) := by
  have H := Lib.hid h
  obtain ⟨_, v, hb, _⟩ := h
  obtain ⟨c0, c1, _, _, _⟩ := rd_cells hb
  have k0 : (0 : Int) ≤ (k : Int) := by omega
  have k1 : (k : Int) < (s.size : Int) := by omega
  have q1 : (((s[k]'hk).toNat : Int) != 32) = true := nat_ne h1
  have q2 : (((s[k]'hk).toNat : Int) != 9) = true := nat_ne h2
  clear hb h1 h2
  go_enter Tryz.func21, Tryz.ntmps21
  go_wp2
  go_quiet (fail)
  go_wp2
  go_ret
  exact ⟨rfl, H.out.drewN _, bk_drewN _ _ _⟩
set_option maxHeartbeats 1000000 in
theorem blank_32 (w : World) (R k : Nat) (s : ByteArray) (ts : List Tok) (h : RD w R s k ts) (hk : k < s.size) (_hs : s.size ≤ 4000) (h1 : (s[k]'hk).toNat = 32) :
    Calls Tryz.prog 21 #[.pointer (some ⟨R, 0, none⟩)] w (Stepped w R s true (k + 1) ts) := by
  have H := Lib.hid h
  obtain ⟨_, v, hb, _⟩ := h
  obtain ⟨c0, c1, _, f1, _⟩ := rd_cells hb
  have k0 : (0 : Int) ≤ (k : Int) := by omega
  have k1 : (k : Int) < (s.size : Int) := by omega
  have q1 : (((s[k]'hk).toNat : Int) != 32) = false := by simp; omega
  clear hb h1
  go_enter Tryz.func21, Tryz.ntmps21
  go_wp2
  go_quiet (fail)
  go_wp2
  go_ret
  exact ⟨rfl, (H.out.drewN _).seek _, bk_seek (bk_drewN _ _ _) (H.out.drewN _) 1 _⟩
set_option maxHeartbeats 1000000 in
theorem blank_9 (w : World) (R k : Nat) (s : ByteArray) (ts : List Tok) (h : RD w R s k ts) (hk : k < s.size) (_hs : s.size ≤ 4000) (h1 : (s[k]'hk).toNat = 9) :
    Calls Tryz.prog 21 #[.pointer (some ⟨R, 0, none⟩)] w (Stepped w R s true (k + 1) ts) := by
  have H := Lib.hid h
  obtain ⟨_, v, hb, _⟩ := h
  obtain ⟨c0, c1, _, f1, _⟩ := rd_cells hb
  have k0 : (0 : Int) ≤ (k : Int) := by omega
  have k1 : (k : Int) < (s.size : Int) := by omega
  have q1 : (((s[k]'hk).toNat : Int) != 32) = true := by simp; omega
  have q2 : (((s[k]'hk).toNat : Int) != 9) = false := by simp; omega
  clear hb h1
  go_enter Tryz.func21, Tryz.ntmps21
  go_wp2
  go_quiet (fail)
  go_wp2
  go_ret
  exact ⟨rfl, (H.out.drewN _).seek _, bk_seek (bk_drewN _ _ _) (H.out.drewN _) 1 _⟩
set_option maxHeartbeats 1000000 in
theorem lineEnd_no (w : World) (R k : Nat) (s : ByteArray) (ts : List Tok) (h : RD w R s k ts) (hk : k < s.size) (_hs : s.size ≤ 4000) (h1 : (s[k]'hk).toNat ≠ 10) :
    Calls Tryz.prog 23 #[.pointer (some ⟨R, 0, none⟩)] w (Stepped w R s false k ts) := by
  have H := Lib.hid h
  obtain ⟨_, v, hb, _⟩ := h
  obtain ⟨c0, c1, _, f1, _⟩ := rd_cells hb
  have k0 : (0 : Int) ≤ (k : Int) := by omega
  have k1 : (k : Int) < (s.size : Int) := by omega
  have q1 : (((s[k]'hk).toNat : Int) != 10) = true := nat_ne h1
  clear hb h1
  go_enter Tryz.func23, Tryz.ntmps23
  go_wp2
  go_quiet (fail)
  go_wp2
  go_ret
  exact ⟨rfl, H.out.drewN _, bk_drewN _ _ _⟩
set_option maxHeartbeats 1000000 in
theorem remark_no (w : World) (R k : Nat) (s : ByteArray) (ts : List Tok) (h : RD w R s k ts) (hk : k < s.size) (_hs : s.size ≤ 4000) (h1 : (s[k]'hk).toNat ≠ 37) :
    Calls Tryz.prog 22 #[.pointer (some ⟨R, 0, none⟩)] w (Stepped w R s false k ts) := by
  have H := Lib.hid h
  obtain ⟨_, v, hb, _⟩ := h
  obtain ⟨c0, c1, _, f1, _⟩ := rd_cells hb
  have k0 : (0 : Int) ≤ (k : Int) := by omega
  have k1 : (k : Int) < (s.size : Int) := by omega
  have q1 : (((s[k]'hk).toNat : Int) != 37) = true := nat_ne h1
  clear hb h1
  go_enter Tryz.func22, Tryz.ntmps22
  go_wp2
  go_quiet (fail)
  go_wp2
  go_ret
  exact ⟨rfl, H.out.drewN _, bk_drewN _ _ _⟩
set_option maxHeartbeats 1000000 in
theorem remark_yes (w : World) (R k : Nat) (s : ByteArray) (ts : List Tok) (h : RD w R s k ts) (hk : k < s.size) (hs : s.size ≤ 4000) (h1 : (s[k]'hk).toNat = 37) :
    Calls Tryz.prog 22 #[.pointer (some ⟨R, 0, none⟩)] w (Stepped w R s true (k + ((s.data.toList.drop k).takeWhile (· ≠ 10)).length) ts) := by
  have H := Lib.hid h
  have hrest := fun n => rest_any (w.drewN n) R k s ts (h.drewN n) (by omega) hs
  have hll : (s.data.toList.drop k).length ≤ 4000 := by rw [List.length_drop, size_list]; omega
  have htl := (List.takeWhile_prefix (l := s.data.toList.drop k) (fun x : UInt8 => decide (x ≠ 10))).length_le
  have hcut := fun W => cut_any (s.data.toList.drop k) 10 (by omega) W
  obtain ⟨_, v, hb, _⟩ := h
  have hcell := fun n : Nat => rd_cells (w := w.drewN n) hb
  obtain ⟨c0, c1, _, f1, _⟩ := rd_cells hb
  have k0 : (0 : Int) ≤ (k : Int) := by omega
  have k1 : (k : Int) < (s.size : Int) := by omega
  have q1 : (((s[k]'hk).toNat : Int) != 37) = false := by simp; omega
  have hsz := str_size ((s.data.toList.drop k).takeWhile (· ≠ 10))
  have HSZ := Lib.hid hsz
  obtain ⟨m, hm⟩ : ∃ m, ((s.data.toList.drop k).takeWhile (· ≠ 10)).length = m := ⟨_, rfl⟩
  rw [hm] at htl HSZ ⊢
  have hm2 : m ≤ 4000 := by omega
  generalize s.data.toList.drop k = L at *
  generalize L.takeWhile (· ≠ 10) = T at *
  clear hb h1 hll htl hsz hm
  go_enter Tryz.func22, Tryz.ntmps22
  go_wp2
  go_quiet (fail)
  go_wp2_with fail
  refine (hrest _).mono ?_
  rintro e w1 ⟨rfl, n1, rfl⟩
  go_wp2_with fail
  obtain ⟨b, is, hc⟩ := hcut (w.drewN (nq + n1))
  refine hc.mono ?_
  rintro e w2 ⟨rfl, n2, rfl⟩
  have e3 : (str T).size = m := HSZ.out
  go_wp2
  go_ret
  exact ⟨rfl, (H.out.drewN _).seek _, bk_seek (bk_drewN _ _ _) (H.out.drewN _) 1 _⟩

theorem clone_any (s : ByteArray) (w : World) (hs : s.size ≤ 4000) : Calls Tryz.prog 53 #[.string s] w fun e w' => e = .returned (.string s) ∧ Below w.heap.size w w' := by
  have h := Tryz.stringslite_Clone s w (by omega)
  go_enter Tryz.func53, Tryz.ntmps53
  go_wp2_with (go_at_call 66; refine h.mono ?_; rintro e w' ⟨rfl, hb⟩)
  go_ret
  exact ⟨rfl, hb⟩
end Go.Proofs.YtnifcgiajjmogaaGreatDoor.C
