/-
  Joined: MLxR, MLxQ, MLxS. Each with what its own head says.
-/
import Derived.Test.YthaibekbefndlaaGreatDoorZ02
import Derived.Test.YthaibekbefndlaaGreatDoorZ03

namespace Go.Proofs.YthaibekbefndlaaGreatDoor.C
open Go.RowKit

theorem add_plain (b off j : Nat) : (⟨b, off, none⟩ : Addr).add j = ⟨b, off + j, none⟩ := by unfold Addr.add; split <;> simp_all
theorem row_ne {w : World} {base : Nat} {e : TypeId} {size n : Nat} {u : Value} {xs : List Value} (h : w.ownsRow base e size u n xs) {g : Nat} {cur : Array Value} {t : TypeId} {f : Nat × Nat} (hg : w.heap[g]? = some (.cells cur t f)) (hte : t ≠ e) : u.ownBlock ≠ some g := by
 intro he
 rcases h.2 with ⟨rfl, _⟩ | ⟨g', c, cur', rfl, _, hg', _⟩
 ·simp [Value.ownBlock] at he
 ·obtain rfl : g' = g := by simpa [Value.ownBlock] using he
  rw [hg] at hg'
  simp at hg'
  exact hte hg'.2.1

def tkC (x : Tok) : List Value := [.int .u8 x.k, .string (str x.t), .int .i64 x.n, .int .i64 x.at_]
def tksC (ts : List Tok) : List Value := ts.flatMap tkC
theorem tksC_snoc (ts : List Tok) (x : Tok) : tksC (ts ++ [x]) = tksC ts ++ tkC x := by simp [tksC]
theorem infoTok : (Tryz.prog.info? 92).map (fun i => (i.zero, i.size, i.bytes)) = some (some (.agg #[.int .u8 0, .string ⟨#[]⟩, .int .i64 0, .int .i64 0]), 4, 40) := by kernel_rfl

def RD (w : World) (R : Nat) (s : ByteArray) (k : Nat) (ts : List Tok) : Prop :=
 glN ≤ R ∧ ∃ v, w.heap[R]? = some (.cells #[.string s, .int .i64 k, v] 85 (0, 0)) ∧ w.ownsRow R 92 4 v ts.length (tksC ts)
section
variable {w w' : World} {R k : Nat} {s : ByteArray} {ts : List Tok}
theorem rd_cells {v : Value} (hb : w.heap[R]? = some (.cells #[.string s, .int .i64 k, v] 85 (0, 0))) :
  w.cell? ⟨R, 0, none⟩ = some (.string s) ∧ w.cell? ⟨R, 1, none⟩ = some (.int .i64 k) ∧ w.cell? ⟨R, 2, none⟩ = some v ∧ w.frozen? ⟨R, 1, none⟩ = false ∧ w.frozen? ⟨R, 2, none⟩ = false := by
 simp [World.cell?, World.frozen?, hb]
theorem RD.lt (h : RD w R s k ts) : R < w.heap.size := by
 obtain ⟨_, v, hb, _⟩ := h
 exact (Array.getElem?_eq_some_iff.1 hb).1
theorem RD.drewN (h : RD w R s k ts) (n : Nat) : RD (w.drewN n) R s k ts := h
theorem RD.next (h : RD w R s k ts) (hb : Below w.heap.size w w') : RD w' R s k ts := by
 have hlt := h.lt
 obtain ⟨h0, v, h1, h2⟩ := h
 exact ⟨h0, v, (hb.block R hlt).trans h1, own_keep h2 hb⟩
theorem RD.seek (h : RD w R s k ts) (k' : Nat) : RD (w.setCell ⟨R, 1, none⟩ (.int .i64 k')) R s k' ts := by
 obtain ⟨h0, v, h1, h2⟩ := h
 have hne := row_ne h2 h1 (by decide)
 refine ⟨h0, v, ?_, h2.kept (Lib.grownBy_setCell w R 1 _) (.inr hne)⟩
 obtain ⟨hlt, hk⟩ := Array.getElem?_eq_some_iff.1 h1
 show (w.heap.modify R _)[R]? = _
 rw [Array.getElem?_eq_getElem (by rw [Array.size_modify]; exact hlt), Array.getElem_modify_self, hk]
 rfl
theorem RD.gl (h : RD w R s k ts) : glN ≤ R := h.1
end
theorem below_seek {w W : World} {R : Nat} (h : Below R w W) (i : Nat) (u : Value) : Below R w (W.setCell ⟨R, i, none⟩ u) := h.setCell (p := ⟨R, i, none⟩) (Nat.le_refl R) u
theorem own_slice4 {w : World} {base : Nat} {e : TypeId} {v : Value} {n : Nat} {xs : List Value} (h : w.ownsRow base e 4 v n xs) : ∃ A c, v = .slice A n c ∧ n ≤ c ∧ c ≤ maxLen := by
 rcases h.2 with ⟨rfl, h0⟩ | ⟨g, c, cur, rfl, _, _, hc, hm, _⟩
 ·obtain rfl : n = 0 := by have := h.1; rw [h0] at this; simp at this; omega
  exact ⟨none, 0, rfl, Nat.le_refl _, Nat.zero_le _⟩
 ·exact ⟨_, c, rfl, hc, hm⟩

def Kt (w w' : World) : Prop := ∀ (b : Nat) (cs : Array Value) (t : TypeId) (f : Nat × Nat), w.heap[b]? = some (.cells cs t f) → t ≠ 92 → t ≠ 85 → w'.heap[b]? = some (.cells cs t f)
theorem Kt.refl (w : World) : Kt w w := fun _ _ _ _ h _ _ => h
theorem Kt.trans {a b c : World} (h : Kt a b) (k : Kt b c) : Kt a c := fun j cs t f h1 h2 h3 => k j cs t f (h j cs t f h1 h2 h3) h2 h3
theorem Kt.of_below {w w' : World} (h : Below w.heap.size w w') : Kt w w' := fun b _ _ _ h1 _ _ => (h.block b (Array.getElem?_eq_some_iff.1 h1).1).trans h1
theorem Kt.drewN (w : World) (n : Nat) : Kt w (w.drewN n) := fun _ _ _ _ h _ _ => h
theorem Kt.setCell {w : World} {b : Nat} {cs : Array Value} {t : TypeId} {f : Nat × Nat} (hb : w.heap[b]? = some (.cells cs t f)) (ht : t = 92 ∨ t = 85) (i : Nat) (u : Value) : Kt w (w.setCell ⟨b, i, none⟩ u) := by
 intro j cs' t' f' h1 h2 h3
 refine (Below.heap_setCell _ _ _ _ (fun e => ?_)).trans h1
 have e' : j = b := e
 subst e'
 rw [hb] at h1
 simp at h1
 rcases ht with h | h
 ·exact h2 (h1.2.1 ▸ h)
 ·exact h3 (h1.2.1 ▸ h)
theorem Kt.grown {w w' : World} {base n size : Nat} {v : Value} {xs : List Value} (h : w.ownsRow base 92 size v n xs) (hg : w.grownBy w' v.ownBlock) : Kt w w' := by
 intro j cs t f h1 h2 h3
 exact (hg.block j (Array.getElem?_eq_some_iff.1 h1).1 (fun e => row_ne h h1 h2 e.symm)).trans h1
def Bk (R : Nat) (w w' : World) : Prop := Below R w w' ∧ Kt w w'
theorem bk_refl (R : Nat) (w : World) : Bk R w w := ⟨Below.refl _ _, Kt.refl w⟩
theorem Bk.trans {R : Nat} {a b c : World} (h : Bk R a b) (k : Bk R b c) : Bk R a c := ⟨h.1.trans k.1, h.2.trans k.2⟩
theorem bk_drewN (R : Nat) (w : World) (n : Nat) : Bk R w (w.drewN n) := ⟨below_drewN0 (Below.refl _ _) n, Kt.drewN w n⟩
theorem bk_of {R : Nat} {w w' : World} (h : Below w.heap.size w w') (hR : R ≤ w.heap.size) : Bk R w w' := ⟨h.mono hR, Kt.of_below h⟩
theorem bk_seek {w W : World} {R k : Nat} {s : ByteArray} {ts : List Tok} (h : Bk R w W) (hd : RD W R s k ts) (i : Nat) (u : Value) : Bk R w (W.setCell ⟨R, i, none⟩ u) := by
 obtain ⟨_, v, hb, _⟩ := hd
 exact ⟨h.1.setCell (p := ⟨R, i, none⟩) (Nat.le_refl R) u, h.2.trans (Kt.setCell hb (.inr rfl) i u)⟩

def Stepped (w : World) (R : Nat) (s : ByteArray) (b : Bool) (k : Nat) (ts : List Tok) (e : Ending) (w' : World) : Prop := e = .returned (.bool b) ∧ RD w' R s k ts ∧ Bk R w w'

theorem drop_ba {s : ByteArray} {k : Nat} (h : k < s.size) : s.data.toList.drop k = s[k]'h :: s.data.toList.drop (k + 1) := by
 have h' : k < s.data.toList.length := by rw [size_list]; exact h
 rw [List.drop_eq_getElem_cons h']
 rfl

set_option maxHeartbeats 1000000 in
theorem rest_any (w : World) (R k : Nat) (s : ByteArray) (ts : List Tok) (h : RD w R s k ts) (hk : k ≤ s.size) (_hs : s.size ≤ 4000) :
  Calls Tryz.prog 113 #[.pointer (some ⟨R, 0, none⟩)] w fun e w' => e = .returned (.string (str (s.data.toList.drop k))) ∧ ∃ n, w' = w.drewN n := by
 obtain ⟨_, v, hb, _⟩ := h
 obtain ⟨c0, c1, _, _, _⟩ := rd_cells hb
 have e1 : s.extract k s.size = str (s.data.toList.drop k) := by rw [extract_str, ← size_list, List.take_length]
 have k0 : (0 : Int) ≤ (k : Int) := by omega
 have k1 : (k : Int) ≤ (s.size : Int) := by omega
 have E1 := Lib.hid e1
 clear hb e1
 go_enter Tryz.func113, Tryz.ntmps113
 go_wp2
 go_quiet (fail)
 go_wp2
 go_ret
 exact ⟨by rw [← E1.out]; rfl, _, rfl⟩

theorem nat_ne {n m : Nat} (h : n ≠ m) : ((n : Int) != (m : Int)) = true := by simp; omega
set_option maxHeartbeats 1000000 in
theorem blank_no (w : World) (R k : Nat) (s : ByteArray) (ts : List Tok) (h : RD w R s k ts) (hk : k < s.size) (_hs : s.size ≤ 4000) (h1 : (s[k]'hk).toNat ≠ 32) (h2 : (s[k]'hk).toNat ≠ 9) :
  Calls Tryz.prog 67 #[.pointer (some ⟨R, 0, none⟩)] w (Stepped w R s false k ts) := by
 have H := Lib.hid h
 obtain ⟨_, v, hb, _⟩ := h
 obtain ⟨c0, c1, _, _, _⟩ := rd_cells hb
 have k0 : (0 : Int) ≤ (k : Int) := by omega
 have k1 : (k : Int) < (s.size : Int) := by omega
 have q1 : (((s[k]'hk).toNat : Int) != 32) = true := nat_ne h1
 have q2 : (((s[k]'hk).toNat : Int) != 9) = true := nat_ne h2
 clear hb h1 h2
 go_enter Tryz.func67, Tryz.ntmps67
 go_wp2
 go_quiet (fail)
 go_wp2
 go_ret
 exact ⟨rfl, H.out.drewN _, bk_drewN _ _ _⟩
set_option maxHeartbeats 1000000 in
theorem blank_32 (w : World) (R k : Nat) (s : ByteArray) (ts : List Tok) (h : RD w R s k ts) (hk : k < s.size) (_hs : s.size ≤ 4000) (h1 : (s[k]'hk).toNat = 32) :
  Calls Tryz.prog 67 #[.pointer (some ⟨R, 0, none⟩)] w (Stepped w R s true (k + 1) ts) := by
 have H := Lib.hid h
 obtain ⟨_, v, hb, _⟩ := h
 obtain ⟨c0, c1, _, f1, _⟩ := rd_cells hb
 have k0 : (0 : Int) ≤ (k : Int) := by omega
 have k1 : (k : Int) < (s.size : Int) := by omega
 have q1 : (((s[k]'hk).toNat : Int) != 32) = false := by simp; omega
 clear hb h1
 go_enter Tryz.func67, Tryz.ntmps67
 go_wp2
 go_quiet (fail)
 go_wp2
 go_ret
 exact ⟨rfl, (H.out.drewN _).seek _, bk_seek (bk_drewN _ _ _) (H.out.drewN _) 1 _⟩
set_option maxHeartbeats 1000000 in
theorem blank_9 (w : World) (R k : Nat) (s : ByteArray) (ts : List Tok) (h : RD w R s k ts) (hk : k < s.size) (_hs : s.size ≤ 4000) (h1 : (s[k]'hk).toNat = 9) :
  Calls Tryz.prog 67 #[.pointer (some ⟨R, 0, none⟩)] w (Stepped w R s true (k + 1) ts) := by
 have H := Lib.hid h
 obtain ⟨_, v, hb, _⟩ := h
 obtain ⟨c0, c1, _, f1, _⟩ := rd_cells hb
 have k0 : (0 : Int) ≤ (k : Int) := by omega
 have k1 : (k : Int) < (s.size : Int) := by omega
 have q1 : (((s[k]'hk).toNat : Int) != 32) = true := by simp; omega
 have q2 : (((s[k]'hk).toNat : Int) != 9) = false := by simp; omega
 clear hb h1
 go_enter Tryz.func67, Tryz.ntmps67
 go_wp2
 go_quiet (fail)
 go_wp2
 go_ret
 exact ⟨rfl, (H.out.drewN _).seek _, bk_seek (bk_drewN _ _ _) (H.out.drewN _) 1 _⟩
set_option maxHeartbeats 1000000 in
theorem lineEnd_no (w : World) (R k : Nat) (s : ByteArray) (ts : List Tok) (h : RD w R s k ts) (hk : k < s.size) (_hs : s.size ≤ 4000) (h1 : (s[k]'hk).toNat ≠ 10) :
  Calls Tryz.prog 69 #[.pointer (some ⟨R, 0, none⟩)] w (Stepped w R s false k ts) := by
 have H := Lib.hid h
 obtain ⟨_, v, hb, _⟩ := h
 obtain ⟨c0, c1, _, f1, _⟩ := rd_cells hb
 have k0 : (0 : Int) ≤ (k : Int) := by omega
 have k1 : (k : Int) < (s.size : Int) := by omega
 have q1 : (((s[k]'hk).toNat : Int) != 10) = true := nat_ne h1
 clear hb h1
 go_enter Tryz.func69, Tryz.ntmps69
 go_wp2
 go_quiet (fail)
 go_wp2
 go_ret
 exact ⟨rfl, H.out.drewN _, bk_drewN _ _ _⟩
set_option maxHeartbeats 1000000 in
theorem remark_no (w : World) (R k : Nat) (s : ByteArray) (ts : List Tok) (h : RD w R s k ts) (hk : k < s.size) (_hs : s.size ≤ 4000) (h1 : (s[k]'hk).toNat ≠ 37) :
  Calls Tryz.prog 68 #[.pointer (some ⟨R, 0, none⟩)] w (Stepped w R s false k ts) := by
 have H := Lib.hid h
 obtain ⟨_, v, hb, _⟩ := h
 obtain ⟨c0, c1, _, f1, _⟩ := rd_cells hb
 have k0 : (0 : Int) ≤ (k : Int) := by omega
 have k1 : (k : Int) < (s.size : Int) := by omega
 have q1 : (((s[k]'hk).toNat : Int) != 37) = true := nat_ne h1
 clear hb h1
 go_enter Tryz.func68, Tryz.ntmps68
 go_wp2
 go_quiet (fail)
 go_wp2
 go_ret
 exact ⟨rfl, H.out.drewN _, bk_drewN _ _ _⟩
set_option maxHeartbeats 1000000 in
theorem remark_yes (w : World) (R k : Nat) (s : ByteArray) (ts : List Tok) (h : RD w R s k ts) (hk : k < s.size) (hs : s.size ≤ 4000) (h1 : (s[k]'hk).toNat = 37) :
  Calls Tryz.prog 68 #[.pointer (some ⟨R, 0, none⟩)] w (Stepped w R s true (k + ((s.data.toList.drop k).takeWhile (· ≠ 10)).length) ts) := by
 have H := Lib.hid h
 have hrest := fun n => rest_any (w.drewN n) R k s ts (h.drewN n) (by omega) hs
 have hll : (s.data.toList.drop k).length ≤ 4000 := by rw [List.length_drop, size_list]; omega
 have htl := (List.takeWhile_prefix (l := s.data.toList.drop k) (fun x : UInt8 => decide (x ≠ 10))).length_le
 have hcut := fun W => cut_any (s.data.toList.drop k) 10 (by omega) W
 obtain ⟨_, v, hb, _⟩ := h
 have hcell := fun n : Nat => rd_cells (w := w.drewN n) hb
 obtain ⟨c0, c1, _, f1, _⟩ := rd_cells hb
 have k0 : (0 : Int) ≤ (k : Int) := by omega
 have k1 : (k : Int) < (s.size : Int) := by omega
 have q1 : (((s[k]'hk).toNat : Int) != 37) = false := by simp; omega
 have hsz := str_size ((s.data.toList.drop k).takeWhile (· ≠ 10))
 have HSZ := Lib.hid hsz
 obtain ⟨m, hm⟩ : ∃ m, ((s.data.toList.drop k).takeWhile (· ≠ 10)).length = m := ⟨_, rfl⟩
 rw [hm] at htl HSZ ⊢
 have hm2 : m ≤ 4000 := by omega
 generalize s.data.toList.drop k = L at *
 generalize L.takeWhile (· ≠ 10) = T at *
 clear hb h1 hll htl hsz hm
 go_enter Tryz.func68, Tryz.ntmps68
 go_wp2
 go_quiet (fail)
 go_wp2_with fail
 refine (hrest _).mono ?_
 rintro e w1 ⟨rfl, n1, rfl⟩
 go_wp2_with fail
 obtain ⟨b, is, hc⟩ := hcut (w.drewN (nq + n1))
 refine hc.mono ?_
 rintro e w2 ⟨rfl, n2, rfl⟩
 have e3 : (str T).size = m := HSZ.out
 go_wp2
 go_ret
 exact ⟨rfl, (H.out.drewN _).seek _, bk_seek (bk_drewN _ _ _) (H.out.drewN _) 1 _⟩

theorem clone_any (s : ByteArray) (w : World) (hs : s.size ≤ 4000) : Calls Tryz.prog 165 #[.string s] w fun e w' => e = .returned (.string s) ∧ Below w.heap.size w w' := by
 have h := Tryz.stringslite_Clone s w (by omega)
 go_enter Tryz.func165, Tryz.ntmps165
 go_wp2_with (go_at_call 195; refine h.mono ?_; rintro e w' ⟨rfl, hb⟩)
 go_ret
 exact ⟨rfl, hb⟩
end Go.Proofs.YthaibekbefndlaaGreatDoor.C

namespace Go.Proofs.YthaibekbefndlaaGreatDoor.C
open Go.RowKit

theorem heap_new (w : World) (o : Obj) : (w.alloc o).heap[w.heap.size]? = some o := by
 show (w.heap.push o)[w.heap.size]? = _
 simp
theorem heap_lt (w : World) (o : Obj) {j : Nat} (h : j < w.heap.size) : (w.alloc o).heap[j]? = w.heap[j]? := by
 show (w.heap.push o)[j]? = _
 rw [Array.getElem?_push, if_neg (by omega)]

def TkAt (w : World) (b : Nat) (x : Tok) : Prop := w.heap[b]? = some (.cells #[.int .u8 x.k, .string (str x.t), .int .i64 x.n, .int .i64 x.at_] 92 (0, 0))
theorem TkAt.cells {w : World} {b : Nat} {x : Tok} (h : TkAt w b x) : w.cell? ⟨b, 0, none⟩ = some (.int .u8 x.k) ∧ w.cell? ⟨b, 1, none⟩ = some (.string (str x.t)) ∧ w.cell? ⟨b, 2, none⟩ = some (.int .i64 x.n) ∧ w.cell? ⟨b, 3, none⟩ = some (.int .i64 x.at_) ∧ w.frozen? ⟨b, 1, none⟩ = false := by
 simp [World.cell?, World.frozen?, show w.heap[b]? = _ from h]
theorem TkAt.set1 {w : World} {b : Nat} {x : Tok} (h : TkAt w b x) : TkAt (w.setCell ⟨b, 1, none⟩ (.string (str x.t))) b x := by
 obtain ⟨hlt, hk⟩ := Array.getElem?_eq_some_iff.1 h
 show (w.heap.modify b _)[b]? = _
 rw [Array.getElem?_eq_getElem (by rw [Array.size_modify]; exact hlt), Array.getElem_modify_self, hk]
 rfl
theorem RD.put {w : World} {R k k' : Nat} {s : ByteArray} {ts : List Tok} {v0 v' : Value} (h0 : glN ≤ R) (hb : w.heap[R]? = some (.cells #[.string s, .int .i64 k, v0] 85 (0, 0))) (hown : w.ownsRow R 92 4 v' ts.length (tksC ts)) :
  RD ((w.setCell ⟨R, 2, none⟩ v').setCell ⟨R, 1, none⟩ (.int .i64 k')) R s k' ts := by
 have hne := row_ne hown hb (by decide)
 have h1 : (w.setCell ⟨R, 2, none⟩ v').heap[R]? = some (.cells #[.string s, .int .i64 k, v'] 85 (0, 0)) := by
  obtain ⟨hlt, hk⟩ := Array.getElem?_eq_some_iff.1 hb
  show (w.heap.modify R _)[R]? = _
  rw [Array.getElem?_eq_getElem (by rw [Array.size_modify]; exact hlt), Array.getElem_modify_self, hk]
  rfl
 have h2 : RD (w.setCell ⟨R, 2, none⟩ v') R s k ts := ⟨h0, v', h1, hown.kept (Lib.grownBy_setCell w R 2 _) (.inr hne)⟩
 exact h2.seek k'
theorem tok_one (x : Tok) : ∀ u ∈ tkC x, u.oneCell' = true := by
 intro u hu
 simp only [tkC, List.mem_cons, List.not_mem_nil, or_false] at hu
 rcases hu with rfl | rfl | rfl | rfl <;> rfl
theorem tok_new (w : World) (x : Tok) (t : TypeId) (g : Nat) (hg : w.heap.size = g) : ∀ j u, (tkC x)[j]? = some u → (w.alloc (.cells #[.int .u8 x.k, .string (str x.t), .int .i64 x.n, .int .i64 x.at_] t)).cell? ((⟨g, 0, none⟩ : Addr).add j) = some u := by
 subst hg
 intro j u hu
 rw [add_plain, Nat.zero_add, World.cell?_alloc_new]
 simpa [tkC] using hu

set_option maxRecDepth 100000 in
set_option maxHeartbeats 4000000 in
theorem add_any (w : World) (R k : Nat) (s : ByteArray) (ts : List Tok) (h : RD w R s k ts) (kd n m : Nat) (t : List UInt8) (a0 : Int) (hk : k + m ≤ 5000) (ht : t.length ≤ 4000) (hts : ts.length ≤ 5000) :
  Calls Tryz.prog 115 #[.pointer (some ⟨R, 0, none⟩), .agg #[.int .u8 kd, .string (str t), .int .i64 n, .int .i64 a0], .int .i64 m] w fun e w' => e = .returned (.tuple #[]) ∧ RD w' R s (k + m) (ts ++ [⟨kd, t, n, k⟩]) ∧ Bk R w w' := by
 obtain ⟨i0, hi, hz0, hz1, hz2⟩ := info_parts infoTok
 have H := Lib.hid h
 have hlt := h.lt
 obtain ⟨h0, v, hb, hown⟩ := h
 have hcl := fun W => clone_any (str t) W (by rw [str_size]; exact ht)
 have HO := Lib.hid hown
 obtain ⟨c0, c1, c2, f1, f2⟩ := rd_cells hb
 have c1a : ∀ o, (w.alloc o).cell? ⟨R, 1, none⟩ = some (.int .i64 k) := fun o => by rw [World.cell?_alloc_lt w o _ hlt]; exact c1
 have HB := Lib.hid hb
 clear hb hown c1 c0 c2 f1 f2
 go_enter Tryz.func115, Tryz.ntmps115
 go_wp2_with fail
 refine (hcl _).mono ?_
 rintro e w1 ⟨rfl, hb1⟩
 have hW : Below w.heap.size w (w.alloc (.cells #[.int .u8 kd, .string (str t), .int .i64 n, .int .i64 k] 92)) := (Below.refl _ _).alloc (Nat.le_refl _) _
 have hT1 : TkAt w1 w.heap.size ⟨kd, t, n, k⟩ := (hb1.block w.heap.size (by simp)).trans (heap_new w _)
 have hB1 : Below w.heap.size w w1 := hW.trans (hb1.mono (by simp))
 have hR1 := (hB1.block R hlt).trans HB.out
 have hO1 := own_keep HO.out hB1
 have hv : v.ownBlock ≠ some w.heap.size := fun e => by have := (HO.out.lt _ e).2; omega
 have hs1 := hb1.size
 have hs1' : w.heap.size < w1.heap.size := by simp at hs1; omega
 clear hb1 hW hs1
 obtain ⟨q0, q1, q2, q3, qf⟩ := hT1.cells
 simp only at q0 q1 q2 q3
 have hT2 := hT1.set1
 simp only at hT2
 have hO2 := hO1.kept (Lib.grownBy_setCell w1 w.heap.size 1 (.string (str t))) (.inr hv)
 have hR2 : (w1.setCell ⟨w.heap.size, 1, none⟩ (.string (str t))).heap[R]? = _ := (Below.heap_setCell _ _ _ _ (by show R ≠ w.heap.size; omega)).trans hR1
 have hB2 : Below R w (w1.setCell ⟨w.heap.size, 1, none⟩ (.string (str t))) := (hB1.mono (by omega)).setCell (p := ⟨w.heap.size, 1, none⟩) (by show R ≤ w.heap.size; omega) _
 have hK2 : Kt w (w1.setCell ⟨w.heap.size, 1, none⟩ (.string (str t))) := (Kt.of_below hB1).trans (Kt.setCell hT1 (.inl rfl) 1 _)
 have hs2 : (w1.setCell ⟨w.heap.size, 1, none⟩ (.string (str t))).heap.size = w1.heap.size := by simp [World.setCell]
 generalize w.heap.size = b at *
 have HT := Lib.hid hT1
 have HO1 := Lib.hid hO1
 have HR1 := Lib.hid hR1
 have HB1 := Lib.hid hB1
 clear hT1 hO1 hR1 hB1
 go_wp2
 generalize w1.setCell ⟨b, 1, none⟩ (.string (str t)) = w2 at *
 clear q0 q1 q2 q3 qf
 obtain ⟨q0, q1, q2, q3, qf⟩ := hT2.cells
 simp only at q0 q1 q2 q3
 obtain ⟨d0, d1, d2, e1, e2⟩ := rd_cells hR2
 have hlt2 : R < w2.heap.size := by omega
 have HT2 := Lib.hid hT2
 have HO2 := Lib.hid hO2
 have HR2 := Lib.hid hR2
 have HB2 := Lib.hid hB2
 have HK2 := Lib.hid hK2
 have hRv := row_ne hO2 hR2 (by decide)
 have d2a : ∀ o, (w2.alloc o).cell? ⟨R, 2, none⟩ = some v := fun o => by rw [World.cell?_alloc_lt w2 o _ hlt2]; exact d2
 have q0a : ∀ o, (w2.alloc o).cell? ⟨b, 0, none⟩ = some (.int .u8 kd) := fun o => by rw [World.cell?_alloc_lt w2 o _ (by show b < _; omega)]; exact q0
 clear hT2 hO2 hR2 hB2 hK2 qf hs2
 go_region_law ((refine step_append_lies _ rfl (.tmp 19) (.tmp 21) 57 rfl R 92 i0 (.agg #[.int .u8 0, .string ⟨#[]⟩, .int .i64 0, .int .i64 0]) 4 40 Tryz.underlying57 hi hz0 hz1 hz2 rfl (by decide) v ts.length (tksC ts) (by simp [Act.eval]) (HO2.out.alloc _) ⟨w2.heap.size, 0, none⟩ 1 1 (tkC ⟨kd, t, n, k⟩) (by simp [Act.eval]) rfl (tok_new w2 ⟨kd, t, n, k⟩ 92 _ rfl) (tok_one _) (by decide) (by unfold maxLen; omega) (by omega) (by simp; omega) _ rfl ?_); intro g cap w3 hown3 hgrow3 _ _; have hR3 := (hgrow3.block R (by simp; omega) (fun e => hRv e.symm)).trans ((heap_lt w2 _ hlt2).trans HR2.out); obtain ⟨_, g1, g2, gf1, gf2⟩ := rd_cells hR3)
 all_goals
  have HO3 := Lib.hid hown3
  have HG3 := Lib.hid hgrow3
  have HR3 := Lib.hid hR3
  clear hown3 hgrow3 hR3
  go_wp2
  go_end0
  refine ⟨rfl, ?_, ?_⟩
  ·have := RD.put (k' := k + m) h0 HR3.out (ts := ts ++ [⟨kd, t, n, k⟩]) (by rw [tksC_snoc, List.length_append]; exact HO3.out)
   rw [Int.natCast_add] at this
   exact this
  ·have hRR : (w3.setCell ⟨R, 2, none⟩ (.slice (some ⟨g, 0, none⟩) (ts.length + 1) cap)).heap[R]? = some (.cells #[.string s, .int .i64 k, .slice (some ⟨g, 0, none⟩) (ts.length + 1) cap] 85 (0, 0)) := by
    obtain ⟨hlt3, hk3⟩ := Array.getElem?_eq_some_iff.1 HR3.out
    show (w3.heap.modify R _)[R]? = _
    rw [Array.getElem?_eq_getElem (by rw [Array.size_modify]; exact hlt3), Array.getElem_modify_self, hk3]
    rfl
   refine ⟨below_seek (below_seek (((HB2.out.alloc (by omega) _).drew).grown HG3.out (by simp; omega) (fun j e => (HO2.out.lt j e).1)) 2 _) 1 _, ?_⟩
   refine HK2.out.trans (Kt.trans ?_ ((Kt.setCell HR3.out (.inr rfl) 2 _).trans (Kt.setCell hRR (.inr rfl) 1 _)))
   have hk3 : Kt (w2.alloc (.cells #[.int .u8 kd, .string (str t), .int .i64 n, .int .i64 k] 92)).drew w3 := Kt.grown (w := (w2.alloc (.cells #[.int .u8 kd, .string (str t), .int .i64 n, .int .i64 k] 92)).drew) (HO2.out.alloc _) HG3.out
   exact (Kt.of_below (((Below.refl _ w2).alloc (Nat.le_refl _) _).drew)).trans hk3

theorem tks_at : ∀ {ts : List Tok} {j : Nat} {x : Tok} (_ : ts[j]? = some x) (i : Nat) (_ : i < 4), (tksC ts)[j * 4 + i]? = (tkC x)[i]?
 | [], j, x, h, i, hi => by simp at h
 | y :: r, 0, x, h, i, hi => by
  simp at h
  subst h
  show (tkC y ++ tksC r)[0 * 4 + i]? = _
  rw [Nat.zero_mul, Nat.zero_add, List.getElem?_append_left (by simp [tkC]; omega)]
 | y :: r, j + 1, x, h, i, hi => by
  simp at h
  show (tkC y ++ tksC r)[(j + 1) * 4 + i]? = _
  rw [List.getElem?_append_right (by simp [tkC]; omega), show (j + 1) * 4 + i - (tkC y).length = j * 4 + i by simp [tkC]; omega]
  exact tks_at h i hi

theorem snoc_or {α : Type} (l : List α) : l = [] ∨ ∃ r x, l = r ++ [x] := by
 rcases List.eq_nil_or_concat l with h | ⟨r, x, h⟩
 ·exact .inl h
 ·exact .inr ⟨r, x, by simpa using h⟩
theorem add_off0 (g k : Nat) : (⟨g, 0, none⟩ : Addr).add k = ⟨g, k, none⟩ := by rw [add_plain, Nat.zero_add]

set_option maxRecDepth 100000 in
set_option maxHeartbeats 4000000 in
theorem endLine_any (w : World) (R k : Nat) (s : ByteArray) (ts : List Tok) (h : RD w R s k ts) (hk : k ≤ 5000) (hts : ts.length ≤ 5000) :
  Calls Tryz.prog 75 #[.pointer (some ⟨R, 0, none⟩)] w fun e w' => e = .returned (.tuple #[]) ∧ RD w' R s k (endL ts k) ∧ Bk R w w' := by
 have H := Lib.hid h
 obtain ⟨h0, v, hb, hown⟩ := h
 obtain ⟨c0, c1, c2, f1, f2⟩ := rd_cells hb
 obtain ⟨A, c, rfl, hnc, hcm⟩ := own_slice4 hown
 rcases snoc_or ts with rfl | ⟨r, x, rfl⟩
 ·have hl : endL [] k = [] := rfl
  rw [hl]
  simp only [List.length_nil] at c2
  clear hb hown
  go_enter Tryz.func75, Tryz.ntmps75
  go_wp2
  go_end0
  exact ⟨rfl, H.out, bk_refl _ _⟩
 ·obtain ⟨g, cap, hv, hbg, hlt⟩ := hown.form (by simp)
  injection hv with hA _ hcc
  subst hA
  have hcell := hown.cells (g := g) rfl (r.length * 4) (.int .u8 x.k) (by rw [show r.length * 4 = r.length * 4 + 0 from rfl, tks_at (x := x) (by simp) 0 (by omega)]; rfl)
  have hcell' := hcell
  rw [add_off0] at hcell'
  rw [List.length_append, List.length_cons, List.length_nil] at c2 hnc hts
  obtain ⟨j, hj⟩ : ∃ j, r.length = j := ⟨_, rfl⟩
  rw [hj] at c2 hnc hcell hcell' hts
  have j0 : (0 : Int) ≤ (j : Int) := by omega
  have j1 : (j : Int) < (j : Int) + 1 := by omega
  have j2 : (0 : Int) < (j : Int) + 1 := by omega
  by_cases h6 : x.k = 6
  ·have hl : endL (r ++ [x]) k = r ++ [x] := by unfold endL; rw [lastK_snoc, if_pos h6]
   rw [hl]
   have q : ((x.k : Int) != 6) = false := by simp; omega
   clear hb hown hj h6
   go_enter Tryz.func75, Tryz.ntmps75
   go_wp2
   go_end0
   exact ⟨rfl, H.out, bk_refl _ _⟩
  ·have hl : endL (r ++ [x]) k = r ++ [x] ++ [⟨6, [], 0, k⟩] := by unfold endL; rw [lastK_snoc, if_neg h6]
   rw [hl]
   have q : ((x.k : Int) != 6) = true := nat_ne h6
   have hadd := add_any w R k s (r ++ [x]) H.out 6 0 0 [] 0 (by omega) (by simp) (by simp; omega)
   clear hb hown hj h6
   go_enter Tryz.func75, Tryz.ntmps75
   go_wp2_with (go_at_call 115; refine hadd.mono ?_; rintro e w1 ⟨rfl, hr, hb1⟩)
   go_end0
   exact ⟨rfl, hr, hb1⟩

set_option maxHeartbeats 1000000 in
theorem lineEnd_yes (w : World) (R k : Nat) (s : ByteArray) (ts : List Tok) (h : RD w R s k ts) (hk : k < s.size) (hs : s.size ≤ 4000) (hts : ts.length ≤ 5000) (h1 : (s[k]'hk).toNat = 10) :
  Calls Tryz.prog 69 #[.pointer (some ⟨R, 0, none⟩)] w (Stepped w R s true (k + 1) (endL ts k)) := by
 have H := Lib.hid h
 have hend := fun n => endLine_any (w.drewN n) R k s ts (h.drewN n) (by omega) hts
 obtain ⟨_, v, hb, _⟩ := h
 obtain ⟨c0, c1, _, f1, _⟩ := rd_cells hb
 have k0 : (0 : Int) ≤ (k : Int) := by omega
 have k1 : (k : Int) < (s.size : Int) := by omega
 have q1 : (((s[k]'hk).toNat : Int) != 10) = false := by simp; omega
 clear hb h1
 go_enter Tryz.func69, Tryz.ntmps69
 go_wp2
 go_quiet (fail)
 go_wp2_with fail
 refine (hend _).mono ?_
 rintro e w1 ⟨rfl, hr, hb1⟩
 have HR := Lib.hid hr
 obtain ⟨_, v', hb', _⟩ := hr
 obtain ⟨_, d1, _, g1, _⟩ := rd_cells hb'
 clear hb'
 go_wp2
 go_ret
 exact ⟨rfl, HR.out.seek _, bk_seek ((bk_drewN _ _ _).trans hb1) HR.out 1 _⟩
end Go.Proofs.YthaibekbefndlaaGreatDoor.C

namespace Go.Proofs.YthaibekbefndlaaGreatDoor.C
open Go.RowKit

theorem right_int (c : Int) (b : Bool) (h0 : 0 ≤ c) (h : b = decide (c < 55296 ∨ 57343 < c ∧ c ≤ 1114111)) (w : World) : Calls Tryz.prog 108 #[.int .i32 c] w fun e w' => e = .returned (.bool b) ∧ w' = w := by
 have a0 : ¬ c < -256 := by omega
 by_cases h2 : 1114111 < c
 ·obtain rfl : b = false := by rw [h]; exact decide_eq_false (by omega)
  clear h
  go_enter Tryz.func108, Tryz.ntmps108
  go_wp2
  all_goals go_ret
  all_goals exact ⟨rfl, rfl⟩
 by_cases h3 : c < 55296
 ·obtain rfl : b = true := by rw [h]; exact decide_eq_true (by omega)
  clear h
  go_enter Tryz.func108, Tryz.ntmps108
  go_wp2
  all_goals go_ret
  all_goals exact ⟨rfl, rfl⟩
 by_cases h4 : 57343 < c
 ·obtain rfl : b = true := by rw [h]; exact decide_eq_true (by omega)
  clear h
  go_enter Tryz.func108, Tryz.ntmps108
  go_wp2
  all_goals go_ret
  all_goals exact ⟨rfl, rfl⟩
 ·obtain rfl : b = false := by rw [h]; exact decide_eq_false (by omega)
  clear h
  go_enter Tryz.func108, Tryz.ntmps108
  go_wp2
  all_goals go_ret
  all_goals exact ⟨rfl, rfl⟩
theorem rightN_is (n : Nat) (w : World) (b : Bool) (h : rightN n = b) : Calls Tryz.prog 108 #[.int .i32 n] w fun e w' => e = .returned (.bool b) ∧ w' = w :=
 right_int n b (by omega) (by rw [← h]; unfold rightN; rw [decide_eq_decide]; omega) w

theorem not_empty6 {l : List UInt8} (h : l ≠ []) : (str l).toList.isEmpty = false ∧ ¬ (str l).toList = [] := by
 have h1 : (str l).toList.isEmpty = false := by
  rw [← decide_eq_emptyBytes]
  refine decide_eq_false (fun e => h ?_)
  have := congrArg (fun b : ByteArray => b.data.toList) e
  simpa using this
 exact ⟨h1, fun e => by rw [e] at h1; cases h1⟩
theorem numL_lt {l : List UInt8} {n : Nat} (h : numL l = some n) : n < 16777216 := by
 cases l with
 | nil => cases h
 | cons c d =>
  rw [numL_cons] at h
  by_cases hc : c = 85 ∧ 4 ≤ d.length ∧ d.length ≤ 6
  ·rw [if_pos hc] at h
   have := hexN_lt h
   have := pow_16 hc.2.2
   omega
  ·rw [if_neg hc] at h
   cases h

set_option maxHeartbeats 2000000 in
theorem sword_no (w : World) (R k : Nat) (s : ByteArray) (ts : List Tok) (h : RD w R s k ts) (hk : k < s.size) (hs : s.size ≤ 4000) (_hts : ts.length ≤ 4500) (hw : wordL (s.data.toList.drop k) = []) :
  Calls Tryz.prog 74 #[.pointer (some ⟨R, 0, none⟩)] w (Stepped w R s false k ts) := by
 have H := Lib.hid h
 have hrest := rest_any w R k s ts h (by omega) hs
 have hll : (s.data.toList.drop k).length ≤ 4000 := by rw [List.length_drop, size_list]; omega
 have hlk : k + (s.data.toList.drop k).length ≤ 4000 := by rw [List.length_drop, size_list]; omega
 have hc : ∀ W, Calls Tryz.prog 120 #[.string (str (s.data.toList.drop k))] W fun e w' => e = .returned (.string ⟨#[]⟩) ∧ w' = W := fun W => by
  have := wordAt_str (s.data.toList.drop k) W (by unfold maxLen; omega)
  rwa [hw] at this
 generalize s.data.toList.drop k = L at *
 clear h hw hll hlk
 go_enter Tryz.func74, Tryz.ntmps74
 go_wp2_with (first
  | (go_at_call 113; refine hrest.mono ?_; rintro e w' ⟨rfl, n, rfl⟩)
  | (go_at_call 120; refine (hc _).mono ?_; rintro e w' ⟨rfl, rfl⟩))
 go_ret
 exact ⟨rfl, H.out.drewN _, bk_drewN _ _ _⟩
set_option maxHeartbeats 2000000 in
theorem sword_yes (w : World) (R k : Nat) (s : ByteArray) (ts : List Tok) (h : RD w R s k ts) (hk : k < s.size) (hs : s.size ≤ 4000) (hts : ts.length ≤ 4500) (hw : wordL (s.data.toList.drop k) ≠ []) :
  Calls Tryz.prog 74 #[.pointer (some ⟨R, 0, none⟩)] w (Stepped w R s true (k + ((wordL (s.data.toList.drop k)).length)) (ts ++ [⟨1, wordL (s.data.toList.drop k), 0, k⟩])) := by
 have H := Lib.hid h
 have hrest := rest_any w R k s ts h (by omega) hs
 have hll : (s.data.toList.drop k).length ≤ 4000 := by rw [List.length_drop, size_list]; omega
 have hlk : k + (s.data.toList.drop k).length ≤ 4000 := by rw [List.length_drop, size_list]; omega
 have hwl := wordL_len (s.data.toList.drop k)
 have hc : ∀ W, Calls Tryz.prog 120 #[.string (str (s.data.toList.drop k))] W fun e w' => e = .returned (.string (str (wordL (s.data.toList.drop k)))) ∧ w' = W := fun W => wordAt_str (s.data.toList.drop k) W (by unfold maxLen; omega)
 obtain ⟨he1, he2⟩ := not_empty6 hw
 have hsz := str_size (wordL (s.data.toList.drop k))
 generalize s.data.toList.drop k = L at *
 generalize wordL L = T at *
 have hadd := fun n => add_any (w.drewN n) R k s ts (h.drewN _) 1 0 (T.length) T 0 (by omega) (by omega) (by omega)
 obtain ⟨m, hm⟩ : ∃ m, T.length = m := ⟨_, rfl⟩
 rw [hm] at hsz hadd hwl ⊢
 have hm2 : m ≤ 4000 := by omega
 have e3 : (((m : Nat)) : Int) = (m : Int) := by omega
 rw [e3] at hadd
 clear h hw hll hlk hm e3 hwl
 go_enter Tryz.func74, Tryz.ntmps74
 go_wp2_with (first
  | (go_at_call 113; refine hrest.mono ?_; rintro e w' ⟨rfl, n, rfl⟩)
  | (go_at_call 120; refine (hc _).mono ?_; rintro e w' ⟨rfl, rfl⟩)
  | (go_at_call 115; refine (hadd _).mono ?_; rintro e w1 ⟨rfl, hr, hb1⟩))
 go_ret
 exact ⟨rfl, hr, (bk_drewN _ _ _).trans hb1⟩
set_option maxHeartbeats 2000000 in
theorem sname_no (w : World) (R k : Nat) (s : ByteArray) (ts : List Tok) (h : RD w R s k ts) (hk : k < s.size) (hs : s.size ≤ 4000) (_hts : ts.length ≤ 4500) (hw : nameL (s.data.toList.drop k) = []) :
  Calls Tryz.prog 72 #[.pointer (some ⟨R, 0, none⟩)] w (Stepped w R s false k ts) := by
 have H := Lib.hid h
 have hrest := rest_any w R k s ts h (by omega) hs
 have hll : (s.data.toList.drop k).length ≤ 4000 := by rw [List.length_drop, size_list]; omega
 have hlk : k + (s.data.toList.drop k).length ≤ 4000 := by rw [List.length_drop, size_list]; omega
 have hc : ∀ W, Calls Tryz.prog 116 #[.string (str (s.data.toList.drop k))] W fun e w' => e = .returned (.string ⟨#[]⟩) ∧ w' = W := fun W => by
  have := nameAt_any (s.data.toList.drop k) (by omega) W
  rwa [hw] at this
 generalize s.data.toList.drop k = L at *
 clear h hw hll hlk
 go_enter Tryz.func72, Tryz.ntmps72
 go_wp2_with (first
  | (go_at_call 113; refine hrest.mono ?_; rintro e w' ⟨rfl, n, rfl⟩)
  | (go_at_call 116; refine (hc _).mono ?_; rintro e w' ⟨rfl, rfl⟩))
 go_ret
 exact ⟨rfl, H.out.drewN _, bk_drewN _ _ _⟩
set_option maxHeartbeats 2000000 in
theorem sname_yes (w : World) (R k : Nat) (s : ByteArray) (ts : List Tok) (h : RD w R s k ts) (hk : k < s.size) (hs : s.size ≤ 4000) (hts : ts.length ≤ 4500) (hw : nameL (s.data.toList.drop k) ≠ []) :
  Calls Tryz.prog 72 #[.pointer (some ⟨R, 0, none⟩)] w (Stepped w R s true (k + (2 + (nameL (s.data.toList.drop k)).length)) (ts ++ [⟨5, nameL (s.data.toList.drop k), 0, k⟩])) := by
 have H := Lib.hid h
 have hrest := rest_any w R k s ts h (by omega) hs
 have hll : (s.data.toList.drop k).length ≤ 4000 := by rw [List.length_drop, size_list]; omega
 have hlk : k + (s.data.toList.drop k).length ≤ 4000 := by rw [List.length_drop, size_list]; omega
 have hwl := nameL_len (s.data.toList.drop k) hw
 have hc : ∀ W, Calls Tryz.prog 116 #[.string (str (s.data.toList.drop k))] W fun e w' => e = .returned (.string (str (nameL (s.data.toList.drop k)))) ∧ w' = W := fun W => nameAt_any (s.data.toList.drop k) (by omega) W
 obtain ⟨he1, he2⟩ := not_empty6 hw
 have hsz := str_size (nameL (s.data.toList.drop k))
 generalize s.data.toList.drop k = L at *
 generalize nameL L = T at *
 have hadd := fun n => add_any (w.drewN n) R k s ts (h.drewN _) 5 0 (2 + T.length) T 0 (by omega) (by omega) (by omega)
 obtain ⟨m, hm⟩ : ∃ m, T.length = m := ⟨_, rfl⟩
 rw [hm] at hsz hadd hwl ⊢
 have hm2 : m ≤ 4000 := by omega
 have e3 : (((2 + m : Nat)) : Int) = (2 : Int) + (m : Int) := by omega
 rw [e3] at hadd
 clear h hw hll hlk hm e3 hwl
 go_enter Tryz.func72, Tryz.ntmps72
 go_wp2_with (first
  | (go_at_call 113; refine hrest.mono ?_; rintro e w' ⟨rfl, n, rfl⟩)
  | (go_at_call 116; refine (hc _).mono ?_; rintro e w' ⟨rfl, rfl⟩)
  | (go_at_call 115; refine (hadd _).mono ?_; rintro e w1 ⟨rfl, hr, hb1⟩))
 go_ret
 exact ⟨rfl, hr, (bk_drewN _ _ _).trans hb1⟩
set_option maxHeartbeats 2000000 in
theorem sscalar_no (w : World) (R k : Nat) (s : ByteArray) (ts : List Tok) (h : RD w R s k ts) (hk : k < s.size) (hs : s.size ≤ 4000) (_hts : ts.length ≤ 4500) (hG : Gl w) (hw : numL (nameL (s.data.toList.drop k)) = none) :
  Calls Tryz.prog 71 #[.pointer (some ⟨R, 0, none⟩)] w (Stepped w R s false k ts) := by
 have H := Lib.hid h
 have hrest := rest_any w R k s ts h (by omega) hs
 have hll : (s.data.toList.drop k).length ≤ 4000 := by rw [List.length_drop, size_list]; omega
 have hlk : k + (s.data.toList.drop k).length ≤ 4000 := by rw [List.length_drop, size_list]; omega
 have hname := fun W => nameAt_any (s.data.toList.drop k) (by omega) W
 have hnl : (nameL (s.data.toList.drop k)).length ≤ 4000 := by
  by_cases h0 : nameL (s.data.toList.drop k) = []
  ·rw [h0]; simp
  ·have := nameL_len _ h0; omega
 have hnum := fun n => numberOf_no (nameL (s.data.toList.drop k)) hw (w.drewN n) (hG.keep fun b _ => rfl) (by omega)
 have hRt := h.lt
 generalize s.data.toList.drop k = L at *
 generalize nameL L = T at *
 clear h hw hll hlk hnl hG
 go_enter Tryz.func71, Tryz.ntmps71
 go_wp2_with (first
  | (go_at_call 113; refine hrest.mono ?_; rintro e w' ⟨rfl, n, rfl⟩)
  | (go_at_call 116; refine (hname _).mono ?_; rintro e w' ⟨rfl, rfl⟩)
  | (go_at_call 117; refine (hnum _).mono ?_; rintro e w1 ⟨rfl, hb1⟩))
 go_ret
 exact ⟨rfl, (H.out.drewN _).next hb1, (bk_drewN _ _ _).trans (bk_of hb1 (Nat.le_of_lt hRt))⟩
set_option maxHeartbeats 2000000 in
theorem sscalar_yes (w : World) (R k : Nat) (s : ByteArray) (ts : List Tok) (h : RD w R s k ts) (hk : k < s.size) (hs : s.size ≤ 4000) (hts : ts.length ≤ 4500) (v : Nat) (hw : numL (nameL (s.data.toList.drop k)) = some v) (hv : rightN v = true) :
  Calls Tryz.prog 71 #[.pointer (some ⟨R, 0, none⟩)] w (Stepped w R s true (k + (2 + (nameL (s.data.toList.drop k)).length)) (ts ++ [⟨3, [], v, k⟩])) := by
 have H := Lib.hid h
 have hrest := rest_any w R k s ts h (by omega) hs
 have hll : (s.data.toList.drop k).length ≤ 4000 := by rw [List.length_drop, size_list]; omega
 have hlk : k + (s.data.toList.drop k).length ≤ 4000 := by rw [List.length_drop, size_list]; omega
 have hname := fun W => nameAt_any (s.data.toList.drop k) (by omega) W
 have hnl := nameL_len _ (numL_name hw)
 have hnum := fun n => numberOf_yes (nameL (s.data.toList.drop k)) v hw (w.drewN n)
 have hv2 := numL_lt hw
 have hright := fun W => rightN_is v W true hv
 have hRt := h.lt
 have hsz := str_size (nameL (s.data.toList.drop k))
 generalize s.data.toList.drop k = L at *
 generalize nameL L = T at *
 have hadd := fun W (hD : RD W R s k ts) => add_any W R k s ts hD 3 v (2 + T.length) [] 0 (by omega) (by simp) (by omega)
 obtain ⟨m, hm⟩ : ∃ m, T.length = m := ⟨_, rfl⟩
 rw [hm] at hsz hadd hnl ⊢
 have hm2 : m ≤ 4000 := by omega
 have e3 : (((2 + m : Nat)) : Int) = (2 : Int) + (m : Int) := by omega
 rw [e3] at hadd
 obtain ⟨c, hc⟩ : ∃ c : Int, (v : Int) = c := ⟨_, rfl⟩
 rw [hc] at hnum hright hadd
 have c0 : 0 ≤ c := by omega
 have c1 : c < 16777216 := by omega
 clear h hw hll hlk hm e3 hnl hv2 hv hc
 go_enter Tryz.func71, Tryz.ntmps71
 go_wp2_with (first
  | (go_at_call 113; refine hrest.mono ?_; rintro e w' ⟨rfl, n, rfl⟩)
  | (go_at_call 116; refine (hname _).mono ?_; rintro e w' ⟨rfl, rfl⟩)
  | (go_at_call 117; refine (hnum _).mono ?_; rintro e w1 ⟨rfl, hb1⟩)
  | (go_at_call 108; refine (hright _).mono ?_; rintro e w' ⟨rfl, rfl⟩)
  | (go_at_call 115; refine (hadd _ ((H.out.drewN _).next hb1)).mono ?_; rintro e w2 ⟨rfl, hr, hb2⟩))
 go_ret
 exact ⟨rfl, hr, (bk_drewN _ _ _).trans ((bk_of hb1 (Nat.le_of_lt hRt)).trans hb2)⟩
def Bad (w : World) (R k : Nat) (e : Ending) (w' : World) : Prop := e = .panicked [{ v := .iface 128 (.int .i64 k), recovered := false }] ∧ Below R w w'
set_option maxHeartbeats 2000000 in
theorem sscalar_bad (w : World) (R k : Nat) (s : ByteArray) (ts : List Tok) (h : RD w R s k ts) (hk : k < s.size) (hs : s.size ≤ 4000) (_hts : ts.length ≤ 4500) (v : Nat) (hw : numL (nameL (s.data.toList.drop k)) = some v) (hv : rightN v = false) :
  Calls Tryz.prog 71 #[.pointer (some ⟨R, 0, none⟩)] w (Bad w R k) := by
 have H := Lib.hid h
 have hrest := rest_any w R k s ts h (by omega) hs
 have hll : (s.data.toList.drop k).length ≤ 4000 := by rw [List.length_drop, size_list]; omega
 have hlk : k + (s.data.toList.drop k).length ≤ 4000 := by rw [List.length_drop, size_list]; omega
 have hname := fun W => nameAt_any (s.data.toList.drop k) (by omega) W
 have hnum := fun n => numberOf_yes (nameL (s.data.toList.drop k)) v hw (w.drewN n)
 have hv2 := numL_lt hw
 have hright := fun W => rightN_is v W false hv
 have hRt := h.lt
 obtain ⟨_, vv, hb, _⟩ := h
 have hcell : ∀ n w1, Below (w.drewN n).heap.size (w.drewN n) w1 → w1.cell? ⟨R, 1, none⟩ = some (.int .i64 k) := fun n w1 hb1 => (rd_cells ((hb1.block R hRt).trans hb)).2.1
 generalize s.data.toList.drop k = L at *
 generalize nameL L = T at *
 obtain ⟨c, hc⟩ : ∃ c : Int, (v : Int) = c := ⟨_, rfl⟩
 rw [hc] at hnum hright
 have c0 : 0 ≤ c := by omega
 have c1 : c < 16777216 := by omega
 clear hw hll hlk hv2 hv hc hb
 go_enter Tryz.func71, Tryz.ntmps71
 go_wp2_with (first
  | (go_at_call 113; refine hrest.mono ?_; rintro e w' ⟨rfl, n, rfl⟩)
  | (go_at_call 116; refine (hname _).mono ?_; rintro e w' ⟨rfl, rfl⟩)
  | (go_at_call 117; refine (hnum _).mono ?_; rintro e w1 ⟨rfl, hb1⟩; have hq := hcell _ _ hb1)
  | (go_at_call 108; refine (hright _).mono ?_; rintro e w' ⟨rfl, rfl⟩))
 exact ⟨rfl, rfl, (below_drewN0 (Below.refl _ _) _).trans (hb1.mono (Nat.le_of_lt hRt))⟩
set_option maxHeartbeats 2000000 in
theorem squoted_no1 (w : World) (R k : Nat) (s : ByteArray) (ts : List Tok) (h : RD w R s k ts) (hk : k < s.size) (hs : s.size ≤ 4000) (_hts : ts.length ≤ 4500) (hw : (s.data.toList.drop k).head? ≠ some 34) :
  Calls Tryz.prog 73 #[.pointer (some ⟨R, 0, none⟩)] w (Stepped w R s false k ts) := by
 have H := Lib.hid h
 have hrest := rest_any w R k s ts h (by omega) hs
 have hll : (s.data.toList.drop k).length ≤ 4000 := by rw [List.length_drop, size_list]; omega
 have hlk : k + (s.data.toList.drop k).length ≤ 4000 := by rw [List.length_drop, size_list]; omega
 have hpre := fun W => cutPrefix_no (s.data.toList.drop k) 34 hw W
 generalize s.data.toList.drop k = L at *
 clear h hw hll hlk
 go_enter Tryz.func73, Tryz.ntmps73
 go_wp2_with (first
  | (go_at_call 113; refine hrest.mono ?_; rintro e w' ⟨rfl, n, rfl⟩)
  | (go_at_call 118; refine (hpre _).mono ?_; rintro e w' ⟨rfl, rfl⟩))
 go_ret
 exact ⟨rfl, H.out.drewN _, bk_drewN _ _ _⟩
set_option maxHeartbeats 2000000 in
theorem squoted_no2 (w : World) (R k : Nat) (s : ByteArray) (ts : List Tok) (h : RD w R s k ts) (hk : k < s.size) (hs : s.size ≤ 4000) (_hts : ts.length ≤ 4500) (r : List UInt8) (hr : s.data.toList.drop k = 34 :: r) (hw : ¬ (r.takeWhile (· ≠ 34)).length < r.length) :
  Calls Tryz.prog 73 #[.pointer (some ⟨R, 0, none⟩)] w (Stepped w R s false k ts) := by
 have H := Lib.hid h
 have hrest := rest_any w R k s ts h (by omega) hs
 have hll : (s.data.toList.drop k).length ≤ 4000 := by rw [List.length_drop, size_list]; omega
 have hlk : k + (s.data.toList.drop k).length ≤ 4000 := by rw [List.length_drop, size_list]; omega
 have hpre := fun W => cutPrefix_yes 34 r W
 have hcut := fun W => cut_no r 34 hw W
 rw [hr] at hrest
 generalize (34 : UInt8) :: r = L at *
 generalize r.takeWhile (· ≠ 34) = T at *
 clear h hw hll hlk hr
 go_enter Tryz.func73, Tryz.ntmps73
 go_wp2_with (first
  | (go_at_call 113; refine hrest.mono ?_; rintro e w' ⟨rfl, n, rfl⟩)
  | (go_at_call 118; refine (hpre _).mono ?_; rintro e w' ⟨rfl, rfl⟩)
  | (go_at_call 112; refine (hcut _).mono ?_; rintro e w' ⟨rfl, n2, rfl⟩))
 go_ret
 exact ⟨rfl, H.out.drewN _, bk_drewN _ _ _⟩
set_option maxHeartbeats 2000000 in
theorem squoted_no3 (w : World) (R k : Nat) (s : ByteArray) (ts : List Tok) (h : RD w R s k ts) (hk : k < s.size) (hs : s.size ≤ 4000) (_hts : ts.length ≤ 4500) (r : List UInt8) (hr : s.data.toList.drop k = 34 :: r) (hw : (r.takeWhile (· ≠ 34)).length < r.length) (h10 : 10 ∈ r.takeWhile (· ≠ 34)) :
  Calls Tryz.prog 73 #[.pointer (some ⟨R, 0, none⟩)] w (Stepped w R s false k ts) := by
 have H := Lib.hid h
 have hrest := rest_any w R k s ts h (by omega) hs
 have hll : (s.data.toList.drop k).length ≤ 4000 := by rw [List.length_drop, size_list]; omega
 have hlk : k + (s.data.toList.drop k).length ≤ 4000 := by rw [List.length_drop, size_list]; omega
 have hpre := fun W => cutPrefix_yes 34 r W
 have hrl : r.length ≤ 4000 := by rw [hr] at hll; simp at hll; omega
 have hcut := fun W => (cut_yes r 34 hw (by omega) W)
 have hcon := fun W => contains_yes (r.takeWhile (· ≠ 34)) 10 h10 W
 rw [hr] at hrest
 generalize (34 : UInt8) :: r = L at *
 generalize r.takeWhile (· ≠ 34) = T at *
 clear h hw hll hlk hr h10 hrl
 go_enter Tryz.func73, Tryz.ntmps73
 go_wp2_with (first
  | (go_at_call 113; refine hrest.mono ?_; rintro e w' ⟨rfl, n, rfl⟩)
  | (go_at_call 118; refine (hpre _).mono ?_; rintro e w' ⟨rfl, rfl⟩)
  | (go_at_call 112; obtain ⟨b, hc⟩ := hcut (w.drewN n); refine hc.mono ?_; rintro e w' ⟨rfl, n2, rfl⟩)
  | (go_at_call 119; refine (hcon _).mono ?_; rintro e w' ⟨rfl, rfl⟩))
 go_ret
 exact ⟨rfl, H.out.drewN _, bk_drewN _ _ _⟩
set_option maxHeartbeats 2000000 in
theorem squoted_yes (w : World) (R k : Nat) (s : ByteArray) (ts : List Tok) (h : RD w R s k ts) (hk : k < s.size) (hs : s.size ≤ 4000) (hts : ts.length ≤ 4500) (r : List UInt8) (hr : s.data.toList.drop k = 34 :: r) (hw : (r.takeWhile (· ≠ 34)).length < r.length) (h10 : 10 ∉ r.takeWhile (· ≠ 34)) :
  Calls Tryz.prog 73 #[.pointer (some ⟨R, 0, none⟩)] w (Stepped w R s true (k + (2 + (r.takeWhile (· ≠ 34)).length)) (ts ++ [⟨4, r.takeWhile (· ≠ 34), 0, k⟩])) := by
 have H := Lib.hid h
 have hrest := rest_any w R k s ts h (by omega) hs
 have hll : (s.data.toList.drop k).length ≤ 4000 := by rw [List.length_drop, size_list]; omega
 have hlk : k + (s.data.toList.drop k).length ≤ 4000 := by rw [List.length_drop, size_list]; omega
 have hpre := fun W => cutPrefix_yes 34 r W
 have hrl : r.length ≤ 4000 := by rw [hr] at hll; simp at hll; omega
 have hcut := fun W => (cut_yes r 34 hw (by omega) W)
 have hcon := fun W => contains_no (r.takeWhile (· ≠ 34)) 10 h10 W
 rw [hr] at hrest hlk
 rw [List.length_cons] at hlk
 have hsz := str_size (r.takeWhile (· ≠ 34))
 generalize (34 : UInt8) :: r = L at *
 generalize r.takeWhile (· ≠ 34) = T at *
 have hadd := fun n => add_any (w.drewN n) R k s ts (h.drewN _) 4 0 (2 + T.length) T 0 (by omega) (by omega) (by omega)
 obtain ⟨m, hm⟩ : ∃ m, T.length = m := ⟨_, rfl⟩
 rw [hm] at hsz hadd hw ⊢
 have hm2 : m ≤ 4000 := by omega
 have e3 : (((2 + m : Nat)) : Int) = (2 : Int) + (m : Int) := by omega
 rw [e3] at hadd
 clear h hw hll hlk hr h10 hrl hm e3
 go_enter Tryz.func73, Tryz.ntmps73
 go_wp2_with (first
  | (go_at_call 113; refine hrest.mono ?_; rintro e w' ⟨rfl, n, rfl⟩)
  | (go_at_call 118; refine (hpre _).mono ?_; rintro e w' ⟨rfl, rfl⟩)
  | (go_at_call 112; obtain ⟨b, hc⟩ := hcut (w.drewN n); refine hc.mono ?_; rintro e w' ⟨rfl, n2, rfl⟩)
  | (go_at_call 119; refine (hcon _).mono ?_; rintro e w' ⟨rfl, rfl⟩)
  | (go_at_call 115; refine (hadd _).mono ?_; rintro e w1 ⟨rfl, hr, hb1⟩))
 go_ret
 exact ⟨rfl, hr, (bk_drewN _ _ _).trans hb1⟩
end Go.Proofs.YthaibekbefndlaaGreatDoor.C
