/-
  Joined: KoP, KoD, KoE, KoF, KoV. Each with what its own head says.
-/
import Derived.Test.YthgiikhkcpbpfaaGreatDoorB10
import Derived.Test.YthgiikhkcpbpfaaGreatDoorB12


namespace Go.Proofs.YthgiikhkcpbpfaaGreatDoor.C
open Go.RowKit
theorem nodup_take {α : Type} {l : List α} (h : ∀ i x, l[i]? = some x → x ∉ l.take i) : l.Nodup :=
 List.pairwise_iff_getElem.2 fun i j hi hj hij e => h j l[j] (List.getElem?_eq_getElem hj) (by rw [← e]; exact List.mem_take_iff_getElem.2 ⟨i, by omega, rfl⟩)
theorem all_rangeK {n : Nat} {f : Nat → Bool} (h : (List.range n).all f = true) {i : Nat} (hi : i < n) : f i = true := List.all_eq_true.1 h i (List.mem_range.2 hi)
theorem pairs_nodup {ps : List (Int × Int)} (h : pairsB ps = true) : (ps.map Prod.fst).Nodup := by
 refine nodup_take fun i x hx hm => ?_
 rw [List.getElem?_map] at hx
 obtain ⟨p, hp, rfl⟩ := Option.map_eq_some_iff.1 hx
 have h1 := all_rangeK h (List.getElem?_eq_some_iff.1 hp).1
 unfold pairAt at h1
 rw [hp] at h1
 rw [← List.map_take] at hm
 have h2 : ((ps.take i).map Prod.fst).contains p.1 = true := List.elem_eq_true_of_mem hm
 simp only [h2, Bool.not_true, Bool.and_false] at h1
 cases h1
theorem cls_nodup {cs : List Cls} (h : clsB cs = true) : (cs.map Cls.name).Nodup := by
 refine nodup_take fun i x hx hm => ?_
 rw [List.getElem?_map] at hx
 obtain ⟨p, hp, rfl⟩ := Option.map_eq_some_iff.1 hx
 have h1 := all_rangeK h (List.getElem?_eq_some_iff.1 hp).1
 unfold clsAt at h1
 rw [hp] at h1
 rw [← List.map_take] at hm
 have h2 : ((cs.take i).map Cls.name).contains p.name = true := List.elem_eq_true_of_mem hm
 simp only [h2, Bool.not_true, Bool.and_false, Bool.false_and] at h1
 cases h1
theorem ordK_at {o : List Elm} (h : ordB o = true) {i : Nat} {e : Elm} (he : o[i]? = some e) : elemB e = true ∧ ((o.take i).any fun x => decide (x.cells = e.cells)) = false ∧ sameAt o i e = true ∧ (e.name ≠ [] → ((o.take i).any fun x => decide (x.name = e.name)) = false) := by
 unfold ordB at h
 rw [Bool.and_eq_true] at h
 have h1 := all_rangeK h.2 (List.getElem?_eq_some_iff.1 he).1
 rw [elemAt_is he] at h1
 simp only [Bool.and_eq_true, Bool.not_eq_true', Bool.or_eq_true, List.isEmpty_iff] at h1
 exact ⟨h1.1.1.1, h1.1.1.2, h1.1.2, fun hn => h1.2.resolve_left hn⟩
theorem ord_elem {o : List Elm} (h : ordB o = true) {e : Elm} (he : e ∈ o) : elemB e = true := by
 obtain ⟨i, hi, rfl⟩ := List.mem_iff_getElem.1 he
 exact (ordK_at h (List.getElem?_eq_getElem hi)).1
theorem cells_nodup {o : List Elm} (h : ordB o = true) : (o.map Elm.cells).Nodup := by
 refine nodup_take fun i x hx hm => ?_
 rw [List.getElem?_map] at hx
 obtain ⟨e, he, rfl⟩ := Option.map_eq_some_iff.1 hx
 have h1 := (ordK_at h he).2.1
 rw [← List.map_take, List.mem_map] at hm
 obtain ⟨y, hy, e1⟩ := hm
 have h2 : ((o.take i).any fun x => decide (x.cells = e.cells)) = true := List.any_eq_true.2 ⟨y, hy, by simpa using e1⟩
 rw [h2] at h1
 cases h1
theorem shown_odd {c d : Int} (hc : rightB c = true) (hd : rightB d = false) {x y : List UInt8} (h : shown c ++ x = shown d ++ y) : False := by
 have e2 : shown d = [92, 63] := by
  unfold rightB at hd
  have hd' : ¬ (-256 ≤ d ∧ d < 55296 ∨ 57343 < d ∧ d ≤ 1114111) := by simpa using hd
  unfold shown
  rw [if_neg (by omega), if_pos hd']
 rcases shown_kind hc with ⟨m, m1, m2, e1⟩ | ⟨m2, e1⟩ | ⟨m2, e1⟩ | ⟨m, m0, m1, m3, m2, e1⟩ | ⟨m, m2, e1⟩ <;> rw [e1, e2] at h <;> simp only [List.cons_append, List.nil_append, List.cons.injEq] at h
 ·exact absurd h.2.1 (by decide)
 ·exact absurd h.2.1 (by decide)
 ·exact absurd h.2.1 (by decide)
 ·exact absurd (u8_92 m1 h.1) m3
 ·exact absurd h.2.1 (by decide)
theorem textL_any : ∀ {a b : List Int}, (∀ c ∈ a, rightB c = true) → textL a = textL b → a = b
 | [], [], _, _ => rfl
 | [], c :: b, _, h => by
  have h' : [] = shown c ++ textL b := by simpa [textL] using h
  exact absurd (List.append_eq_nil_iff.1 h'.symm).1 (shown_ne c)
 | c :: a, [], _, h => by
  have h' : shown c ++ textL a = [] := by simpa [textL] using h
  exact absurd (List.append_eq_nil_iff.1 h').1 (shown_ne c)
 | c :: a, d :: b, ha, h => by
  have h' : shown c ++ textL a = shown d ++ textL b := by simpa [textL] using h
  cases hd : rightB d with
  | false => exact (shown_odd (ha c (by simp)) hd h').elim
  | true =>
   obtain ⟨h1, h2⟩ := shown_cut (ha c (by simp)) hd h'
   rw [h1, textL_any (fun x hx => ha x (by simp [hx])) h2]
theorem strV_inj {a b : List UInt8} (h : Value.string (str a) = .string (str b)) : a = b := by
 have h1 : str a = str b := by injection h
 have h2 := congrArg (fun s => s.data.toList) h1
 simpa [str] using h2
theorem nodup_map {α β : Type} {f : α → β} : ∀ {l : List α}, (∀ a ∈ l, ∀ b ∈ l, f a = f b → a = b) → l.Nodup → (l.map f).Nodup
 | [], _, _ => by simp
 | x :: r, hf, h => by
  rw [List.nodup_cons] at h
  rw [List.map_cons, List.nodup_cons]
  refine ⟨fun hm => ?_, nodup_map (fun a ha b hb => hf a (by simp [ha]) b (by simp [hb])) h.2⟩
  obtain ⟨y, hy, e⟩ := List.mem_map.1 hm
  exact h.1 (hf y (by simp [hy]) x (by simp) e ▸ hy)
def toL : List (Int × Int) → Int → Int
 | [], c => c
 | p :: r, c => if p.1 = c then p.2 else toL r c
theorem toL_in : ∀ {ps : List (Int × Int)} {p : Int × Int}, (ps.map Prod.fst).Nodup → p ∈ ps → toL ps p.1 = p.2
 | q :: r, p, hn, hp => by
  rw [List.map_cons, List.nodup_cons] at hn
  unfold toL
  rcases List.mem_cons.1 hp with rfl | hp
  ·rw [if_pos rfl]
  ·rw [if_neg (fun e => hn.1 (by rw [e]; exact List.mem_map_of_mem hp))]
   exact toL_in hn.2 hp
theorem toL_out : ∀ {ps : List (Int × Int)} {c : Int}, c ∉ ps.map Prod.fst → toL ps c = c
 | [], _, _ => rfl
 | q :: r, c, h => by
  rw [List.map_cons, List.mem_cons, not_or] at h
  unfold toL
  rw [if_neg (Ne.symm h.1)]
  exact toL_out h.2
def insU (x : Int) : List Int → List Int
 | [] => [x]
 | y :: r => if x < y then x :: y :: r else if x = y then y :: r else y :: insU x r
def riseL (l : List Int) : List Int := l.foldl (fun r x => insU x r) []
theorem insU_mem {x z : Int} : ∀ {l : List Int}, z ∈ insU x l ↔ z = x ∨ z ∈ l
 | [] => by simp [insU]
 | y :: r => by
  unfold insU
  split
  ·simp
  ·split
   ·rename_i h
    subst h
    simp
   ·rw [List.mem_cons, insU_mem, List.mem_cons]
    constructor
    ·rintro (h | h | h)
     ·exact .inr (.inl h)
     ·exact .inl h
     ·exact .inr (.inr h)
    ·rintro (h | h | h)
     ·exact .inr (.inl h)
     ·exact .inl h
     ·exact .inr (.inr h)
theorem insU_up {x : Int} : ∀ {l : List Int}, l.Pairwise (· < ·) → (insU x l).Pairwise (· < ·)
 | [], _ => by simp [insU]
 | y :: r, h => by
  rw [List.pairwise_cons] at h
  unfold insU
  split
  ·rename_i hx
   rw [List.pairwise_cons, List.pairwise_cons]
   refine ⟨fun z hz => ?_, h⟩
   rcases List.mem_cons.1 hz with rfl | hz
   ·exact hx
   ·exact Int.lt_trans hx (h.1 z hz)
  ·split
   ·exact List.pairwise_cons.2 h
   ·rename_i h1 h2
    rw [List.pairwise_cons]
    refine ⟨fun z hz => ?_, insU_up h.2⟩
    rcases insU_mem.1 hz with rfl | hz
    ·omega
    ·exact h.1 z hz
theorem insU_len {x : Int} : ∀ {l : List Int}, (insU x l).length ≤ l.length + 1
 | [] => by simp [insU]
 | y :: r => by
  unfold insU
  split
  ·simp
  ·split
   ·simp
   ·have := insU_len (x := x) (l := r)
    simp only [List.length_cons]
    omega
theorem rise_all : ∀ {l a : List Int}, (∀ z, z ∈ l.foldl (fun r x => insU x r) a ↔ z ∈ l ∨ z ∈ a) ∧ (a.Pairwise (· < ·) → (l.foldl (fun r x => insU x r) a).Pairwise (· < ·)) ∧ (l.foldl (fun r x => insU x r) a).length ≤ l.length + a.length
 | [], a => by simp
 | x :: r, a => by
  obtain ⟨h1, h2, h3⟩ := rise_all (l := r) (a := insU x a)
  refine ⟨fun z => ?_, fun ha => h2 (insU_up ha), ?_⟩
  ·rw [List.foldl_cons, h1, insU_mem, List.mem_cons]
   constructor
   ·rintro (h | h | h)
    ·exact .inl (.inr h)
    ·exact .inl (.inl h)
    ·exact .inr h
   ·rintro ((h | h) | h)
    ·exact .inr (.inl h)
    ·exact .inl h
    ·exact .inr (.inr h)
  ·rw [List.foldl_cons]
   have := insU_len (x := x) (l := a)
   simp only [List.length_cons]
   omega
theorem rise_mem {l : List Int} {z : Int} : z ∈ riseL l ↔ z ∈ l := by
 have := (rise_all (l := l) (a := [])).1 z
 unfold riseL
 simpa using this
theorem rise_up (l : List Int) : (riseL l).Pairwise (· < ·) := (rise_all (l := l) (a := [])).2.1 (by simp)
theorem rise_len (l : List Int) : (riseL l).length ≤ l.length := by
 unfold riseL
 simpa using (rise_all (l := l) (a := [])).2.2
theorem up_one : ∀ {a b : List Int}, a.Pairwise (· < ·) → b.Pairwise (· < ·) → (∀ z, z ∈ a ↔ z ∈ b) → a = b
 | [], [], _, _, _ => rfl
 | [], y :: r, _, _, h => by have := (h y).2 (by simp); simp at this
 | x :: r, [], _, _, h => by have := (h x).1 (by simp); simp at this
 | x :: r, y :: s, ha, hb, h => by
  rw [List.pairwise_cons] at ha hb
  have e : x = y := by
   have h1 := (h x).1 (by simp)
   have h2 := (h y).2 (by simp)
   rcases List.mem_cons.1 h1 with e | h1
   ·exact e
   ·rcases List.mem_cons.1 h2 with e | h2
    ·exact e.symm
    ·have := hb.1 x h1
     have := ha.1 y h2
     omega
  subst e
  congr 1
  refine up_one ha.2 hb.2 fun z => ⟨fun hz => ?_, fun hz => ?_⟩
  ·rcases List.mem_cons.1 ((h z).1 (by simp [hz])) with e | h1
   ·have := ha.1 z hz
    omega
   ·exact h1
  ·rcases List.mem_cons.1 ((h z).2 (by simp [hz])) with e | h1
   ·have := hb.1 z hz
    omega
   ·exact h1
def foldL (L : Loc) (c : Int) : List Int := riseL [c, toL L.up c, toL L.lo c, toL L.lo (toL L.up c), toL L.up (toL L.lo c)]
end Go.Proofs.YthgiikhkcpbpfaaGreatDoor.C


namespace Go.Proofs.YthgiikhkcpbpfaaGreatDoor.C
open Go.RowKit
theorem keep_map {w w' : World} {M T : Nat} (hf : Fr w w' (· = M)) (hT : T ≤ w.heap.size) (hM : T ≤ M) : Below T w w' := hf.below (by rintro j _ rfl; exact hM) hT
theorem map_fst_pair (ps : List (Int × Int)) : (ps.map fun p => ((Value.int .i32 p.1, Value.int .i32 p.2) : Value × Value)).map Prod.fst = (ps.map Prod.fst).map (Value.int .i32) := by simp
set_option maxRecDepth 100000 in
set_option maxHeartbeats 2000000 in
theorem fillPair (T o : Nat) (t : TypeId) (l : List Value) (w : World) (v : Value) (ps : List (Int × Int)) (hl : l[o + 4]? = some v) (hps : PrsR w T v ps) (hn : ps.length ≤ maxLen) (hnd : (ps.map Prod.fst).Nodup) (hT : T < w.heap.size) :
  Fills 109 (.pointer (some ⟨T, o, none⟩)) (.int .i32) T o t w l (PPair T ps) := by
 intro W M hf hr hM hm
 have hb := hf.belowT (Nat.le_of_lt hT)
 have hWT : T < W.heap.size := by have := hf.size; omega
 have c4 : W.cell? ⟨T, o + 4, none⟩ = some v := hr.cell (by rw [set_ne (by omega), set_ne (by omega)]; exact hl)
 obtain ⟨A, c, rfl, hsi⟩ := hps.on hb (Nat.le_refl _)
 unfold maxLen at hn
 have HSI := Lib.hid hsi
 have HND := Lib.hid hnd
 have HTM : Hid (T < M ∧ T ≤ W.heap.size) := Lib.hid ⟨by omega, by omega⟩
 have HM := Lib.hid hm
 clear hf hr hps hnd hb hsi hl hm hM hT hWT
 go_enter Tryz.func109, Tryz.ntmps109
 go_wp2
 go_loopw [11] (fun iv wr => ∃ k : Nat, k ≤ ps.length ∧ iv = .int .i64 k ∧ Hid (Fr W wr (· = M) ∧ MapIs wr M (.int .i32) ((ps.take k).map fun p => (.int .i32 p.1, .int .i32 p.2)))) (fun iv _ => ps.length - (intOf iv).toNat)
 case atStart => exact ⟨0, Nat.zero_le _, rfl, Lib.hid ⟨Fr.refl _ _, HM.out⟩⟩
 case round =>
  obtain ⟨k, hk, rfl, HQ⟩ := hrel
  by_cases hlt : k < ps.length
  ·obtain ⟨p, hp⟩ : ∃ p, ps[k]? = some p := ⟨_, List.getElem?_eq_getElem hlt⟩
   have hB := keep_map HQ.out.1 HTM.out.2 (Nat.le_of_lt HTM.out.1)
   obtain ⟨ad, rfl, hbl, hc0, hc1⟩ := prsR_at (HSI.out.on hB (Nat.le_refl _)) hp
   obtain ⟨a, b⟩ := p
   obtain ⟨w2, hw2⟩ : ∃ w2, w2 = wr.alloc (.cells #[.int .i32 a, .int .i32 b] 81) := ⟨_, rfl⟩
   have hb2 : Below wr.heap.size wr w2 := by rw [hw2]; exact (Below.refl _ _).alloc (Nat.le_refl _) _
   have hm2 : MapIs w2 M (.int .i32) ((ps.take k).map fun p => (.int .i32 p.1, .int .i32 p.2)) := HQ.out.2.at_ (hb2.block M HQ.out.2.lt)
   have hnot : (Value.int .i32 a) ∉ ((ps.take k).map fun p => ((Value.int .i32 p.1, Value.int .i32 p.2) : Value × Value)).map Prod.fst := by
    rw [map_fst_pair]
    intro h
    obtain ⟨x, hx, e⟩ := List.mem_map.1 h
    injection e with _ e
    subst e
    rw [List.map_take] at hx
    have h1 : (ps.map Prod.fst)[k]? = some x := by rw [List.getElem?_map, hp]; rfl
    obtain ⟨j, hj, e⟩ := List.mem_take_iff_getElem.1 hx
    have hk' := (List.getElem?_eq_some_iff.1 h1)
    have := (List.pairwise_iff_getElem.1 HND.out) j k (by omega) hk'.1 (by omega)
    exact this (e.trans hk'.2.symm)
   obtain ⟨ob, hput, hm3⟩ := hm2.put_new (P := Tryz.prog) Tryz.underlying120 Tryz.underlying30 (key := .int .i32 a) (by first | trivial | rfl) hnot (.int .i32 b)
   have HEND : Hid (Fr W (putObj w2 M ob) (· = M) ∧ MapIs (putObj w2 M ob) M (.int .i32) ((ps.take (k + 1)).map fun p => (.int .i32 p.1, .int .i32 p.2))) := Lib.hid ⟨(HQ.out.1.trans (.of_below hb2)).next (.of_grown (putObj_only ob)) (by intro j _ e; injection e with e; exact e.symm), by rw [take_one hp, List.map_append]; exact hm3⟩
   have x0 : w2.cell? ⟨wr.heap.size, 0, none⟩ = some (.int .i32 a) := by rw [hw2]; simp
   have x1 : w2.cell? ⟨wr.heap.size, 1, none⟩ = some (.int .i32 b) := by rw [hw2]; simp
   have i0 : (0 : Int) ≤ (k : Int) := by omega
   have i1 : (k : Int) < (ps.length : Int) := by omega
   clear hm2 hm3 hnot hb2 hbl hB hp
   subst hw2
   go_wp2
   go_roundw
   case rel => exact ⟨k + 1, by omega, by go_num, HEND⟩
   case measure => simp [intOf]; omega
  ·obtain rfl : k = ps.length := by omega
   have HE : Hid (Fr W wr (· = M) ∧ PPair T ps wr M) := Lib.hid ⟨HQ.out.1, HTM.out.1, by have := HQ.out.2; rwa [List.take_length] at this⟩
   go_wp2
   go_end0
   exact ⟨rfl, HE.out⟩
def sndV (xs : List (List Value)) : List Value := xs.map fun x => x.getD 1 .nilIface
theorem sndV_at {xs : List (List Value)} {i : Nat} {u v : Value} (h : xs[i]? = some [u, v]) : (sndV xs)[i]? = some v := by
 unfold sndV
 rw [List.getElem?_map, h]
 rfl
theorem not_taken {α β : Type} {f : α → β} {l : List α} (h : (l.map f).Nodup) {k : Nat} {x : α} (hx : l[k]? = some x) : f x ∉ (l.take k).map f := by
 intro hm
 rw [List.map_take] at hm
 have h1 : (l.map f)[k]? = some (f x) := by rw [List.getElem?_map, hx]; rfl
 obtain ⟨j, hj, e⟩ := List.mem_take_iff_getElem.1 hm
 have hk' := (List.getElem?_eq_some_iff.1 h1)
 exact (List.pairwise_iff_getElem.1 h) j k (by omega) hk'.1 (by omega) (e.trans hk'.2.symm)
theorem str_nodup {l : List (List UInt8)} (h : l.Nodup) : (l.map fun x => Value.string (str x)).Nodup := nodup_map (fun _ _ _ _ e => strV_inj e) h
set_option maxRecDepth 100000 in
set_option maxHeartbeats 2000000 in
theorem fillCls (T o : Nat) (t : TypeId) (l : List Value) (w : World) (v : Value) (cs : List Cls) (hl : l[o + 4]? = some v) (hcs : ClsR w T v cs) (hn : cs.length ≤ maxLen) (hnd : (cs.map Cls.name).Nodup) (hT : T < w.heap.size) :
  Fills 179 (.pointer (some ⟨T, o, none⟩)) .string T o t w l (PCls T cs) := by
 intro W M hf hr hM hm
 have hb := hf.belowT (Nat.le_of_lt hT)
 have hWT : T < W.heap.size := by have := hf.size; omega
 have c4 : W.cell? ⟨T, o + 4, none⟩ = some v := hr.cell (by rw [set_ne (by omega), set_ne (by omega)]; exact hl)
 obtain ⟨A, c, xs, rfl, hsi, hel⟩ := hcs.on hb (Nat.le_refl _)
 obtain ⟨vs, hvs⟩ : ∃ vs, vs = sndV xs := ⟨_, rfl⟩
 have hlen : vs.length = cs.length := by rw [hvs, sndV, List.length_map, hsi.len]
 have hev : ∀ (i : Nat) (k : Cls) (u : Value), cs[i]? = some k → vs[i]? = some u → PrsR W T u k.rs := by
  intro i k u hi hu
  obtain ⟨u', hx, hp, _⟩ := hel i k hi
  rw [hvs, sndV_at hx] at hu
  exact Option.some.inj hu ▸ hp
 unfold maxLen at hn
 have HSI := Lib.hid hsi
 have HEL := Lib.hid hel
 have HEV := Lib.hid hev
 have HLEN := Lib.hid hlen
 have HVS := Lib.hid hvs
 have hkn : (((cs.zip vs).map fun x => ((Value.string (str x.1.name), x.2) : Value × Value)).map Prod.fst).Nodup := by
  have e : ((cs.zip vs).map fun x => ((Value.string (str x.1.name), x.2) : Value × Value)).map Prod.fst = (cs.map Cls.name).map fun x => Value.string (str x) := by
   rw [List.map_map, List.map_map]
   show (cs.zip vs).map ((fun k : Cls => Value.string (str k.name)) ∘ Prod.fst) = _
   rw [← List.map_map, List.map_fst_zip (by omega)]
   rfl
  rw [e]
  exact str_nodup hnd
 have HND := Lib.hid hkn
 have HTM : Hid (T < M ∧ T ≤ W.heap.size) := Lib.hid ⟨by omega, by omega⟩
 have HM := Lib.hid hm
 clear hf hr hcs hnd hb hsi hl hm hM hT hWT hel hev hvs hkn hlen
 go_enter Tryz.func179, Tryz.ntmps179
 go_wp2
 go_loopw [11] (fun iv wr => ∃ k : Nat, k ≤ cs.length ∧ iv = .int .i64 k ∧ Hid (Fr W wr (· = M) ∧ MapIs wr M .string (((cs.zip vs).take k).map fun x => (.string (str x.1.name), x.2)))) (fun iv _ => cs.length - (intOf iv).toNat)
 case atStart => exact ⟨0, Nat.zero_le _, rfl, Lib.hid ⟨Fr.refl _ _, HM.out⟩⟩
 case round =>
  obtain ⟨k, hk, rfl, HQ⟩ := hrel
  by_cases hlt : k < cs.length
  ·obtain ⟨p, hp⟩ : ∃ p, cs[k]? = some p := ⟨_, List.getElem?_eq_getElem hlt⟩
   have hB := keep_map HQ.out.1 HTM.out.2 (Nat.le_of_lt HTM.out.1)
   obtain ⟨ad, a, b, rfl, hbl, hx, hc0, hc1⟩ := (HSI.out.on hB (Nat.le_refl _)).at2 hlt
   obtain ⟨u', hx', _⟩ := HEL.out k p hp
   obtain ⟨rfl, rfl⟩ : a = .string (str p.name) ∧ b = u' := by rw [hx] at hx'; simpa using hx'
   obtain ⟨bA, bn, bc, rfl⟩ : ∃ bA bn bc, b = .slice bA bn bc := by
    obtain ⟨A', c', e, _⟩ := HEV.out k p b hp (by rw [HVS.out]; exact sndV_at hx)
    exact ⟨A', _, c', e⟩
   obtain ⟨nm, rs⟩ := p
   have hz : (cs.zip vs)[k]? = some (⟨nm, rs⟩, .slice bA bn bc) := by rw [List.getElem?_zip_eq_some]; exact ⟨hp, by rw [HVS.out]; exact sndV_at hx⟩
   obtain ⟨w2, hw2⟩ : ∃ w2, w2 = wr.alloc (.cells #[.string (str nm), .slice bA bn bc] 79) := ⟨_, rfl⟩
   have hb2 : Below wr.heap.size wr w2 := by rw [hw2]; exact (Below.refl _ _).alloc (Nat.le_refl _) _
   have hm2 := HQ.out.2.at_ (hb2.block M HQ.out.2.lt)
   have hnot : (Value.string (str nm)) ∉ (((cs.zip vs).take k).map fun x => ((Value.string (str x.1.name), x.2) : Value × Value)).map Prod.fst := by
    have h1 := HND.out
    rw [List.map_map] at h1
    have h2 := not_taken h1 hz
    rw [List.map_map]
    exact h2
   obtain ⟨ob, hput, hm3⟩ := hm2.put_new (P := Tryz.prog) Tryz.underlying114 Tryz.underlying9 (key := .string (str nm)) (by first | trivial | rfl) hnot (.slice bA bn bc)
   have HEND : Hid (Fr W (putObj w2 M ob) (· = M) ∧ MapIs (putObj w2 M ob) M .string (((cs.zip vs).take (k + 1)).map fun x => (.string (str x.1.name), x.2))) := Lib.hid ⟨(HQ.out.1.trans (.of_below hb2)).next (.of_grown (putObj_only ob)) (by intro j _ e; injection e with e; exact e.symm), by rw [take_one hz, List.map_append]; exact hm3⟩
   have x0 : w2.cell? ⟨wr.heap.size, 0, none⟩ = some (.string (str nm)) := by rw [hw2]; simp
   have x1 : w2.cell? ⟨wr.heap.size, 1, none⟩ = some (.slice bA bn bc) := by rw [hw2]; simp
   have i0 : (0 : Int) ≤ (k : Int) := by omega
   have i1 : (k : Int) < (cs.length : Int) := by omega
   clear hm2 hm3 hnot hb2 hbl hB hp hx hx' hz
   subst hw2
   go_wp2
   go_roundw
   case rel => exact ⟨k + 1, by omega, by go_num, HEND⟩
   case measure => simp [intOf]; omega
  ·obtain rfl : k = cs.length := by omega
   have HE : Hid (Fr W wr (· = M) ∧ PCls T cs wr M) := Lib.hid ⟨HQ.out.1, HTM.out.1, vs, HLEN.out, by
    have := HQ.out.2
    rwa [List.take_of_length_le (by rw [List.length_zip]; omega)] at this, fun i k u a b => (HEV.out i k u a b).on (keep_map HQ.out.1 HTM.out.2 (Nat.le_of_lt HTM.out.1)) (Nat.le_refl _)⟩
   go_wp2
   go_end0
   exact ⟨rfl, HE.out⟩
end Go.Proofs.YthgiikhkcpbpfaaGreatDoor.C


namespace Go.Proofs.YthgiikhkcpbpfaaGreatDoor.C
open Go.RowKit
theorem rank_keys : ∀ (o : List Elm) (i : Nat), (rankKV i o).map Prod.fst = o.map fun e => Value.string (str (textL e.cells))
 | [], _ => rfl
 | e :: r, i => by
  show _ :: (rankKV (i + 1) r).map Prod.fst = _
  rw [rank_keys r (i + 1)]
  rfl
theorem rank_snoc : ∀ (o : List Elm) (i : Nat) (e : Elm), rankKV i (o ++ [e]) = rankKV i o ++ [(.string (str (textL e.cells)), .int .i64 ((i + o.length : Nat) : Int))]
 | [], i, e => by simp [rankKV]
 | x :: r, i, e => by
  show _ :: rankKV (i + 1) (r ++ [e]) = _ :: (rankKV (i + 1) r ++ _)
  rw [rank_snoc r (i + 1) e, List.length_cons, show i + 1 + r.length = i + (r.length + 1) by omega]
theorem texts_nodup {o : List Elm} (h : ordB o = true) : (o.map fun e => Value.string (str (textL e.cells))).Nodup := by
 have h1 : ((o.map Elm.cells).map fun c => Value.string (str (textL c))).Nodup := nodup_map (fun a ha b _ e => by
  obtain ⟨x, hx, rfl⟩ := List.mem_map.1 ha
  exact textL_any (elemB_right (ord_elem h hx)) (strV_inj e)) (cells_nodup h)
 rwa [List.map_map] at h1
theorem len4 {o : List Elm} (h : ordB o = true) {e : Elm} (he : e ∈ o) : e.cells.length ≤ 4 := elemB_len (ord_elem h he)
set_option maxRecDepth 100000 in
set_option maxHeartbeats 2000000 in
theorem fillRank (T : Nat) (t : TypeId) (l : List Value) (w : World) (v : Value) (es : List Elm) (hl : l[1]? = some v) (hes : OrdR w T v es) (ho : ordB es = true) (hT : T < w.heap.size) (hG : Gl w) (hgT : (5 : Nat) < T) :
  Fills 143 (.pointer (some ⟨T, 1, none⟩)) .string T 2 t w l (PRank T es) := by
 intro W M hf hr hM hm
 have hn : es.length ≤ 500 := by unfold ordB at ho; simp only [Bool.and_eq_true, decide_eq_true_eq] at ho; exact ho.1
 have hb := hf.belowT (Nat.le_of_lt hT)
 have hWT : T < W.heap.size := by have := hf.size; omega
 have c4 : W.cell? ⟨T, 1, none⟩ = some v := hr.cell (by rw [set_ne (by omega), set_ne (by omega)]; exact hl)
 have hGW : W.cell? ⟨5, 15, none⟩ = some (.int .u8 4) := (hb.cell (p := ⟨5, 15, none⟩) hgT).trans hG
 have hO := hes.on hb (Nat.le_refl _)
 obtain ⟨A, c, xs, rfl, _⟩ := id hO
 have HO := Lib.hid hO
 have HGW := Lib.hid hGW
 have HOK := Lib.hid ho
 have HTM : Hid (T < M ∧ T ≤ W.heap.size) := Lib.hid ⟨by omega, by omega⟩
 have HM := Lib.hid hm
 clear hf hr hes hb hO hl hm hM hT hWT hG hGW ho
 go_enter Tryz.func143, Tryz.ntmps143
 go_wp2
 go_loopw [11] (fun iv wr => ∃ k : Nat, k ≤ es.length ∧ iv = .int .i64 k ∧ Hid (Fr W wr (· = M) ∧ MapIs wr M .string (rankKV 0 (es.take k)))) (fun iv _ => es.length - (intOf iv).toNat)
 case atStart => exact ⟨0, Nat.zero_le _, rfl, Lib.hid ⟨Fr.refl _ _, HM.out⟩⟩
 case round =>
  obtain ⟨k, hk, rfl, HQ⟩ := hrel
  by_cases hlt : k < es.length
  ·obtain ⟨p, hp⟩ : ∃ p, es[k]? = some p := ⟨_, List.getElem?_eq_getElem hlt⟩
   have hB := keep_map HQ.out.1 HTM.out.2 (Nat.le_of_lt HTM.out.1)
   have hOr : OrdR wr T (.slice A es.length c) es := HO.out.on hB (Nat.le_refl _)
   obtain ⟨ad, c', Ac, cc, hv, hbl, hc0, hc1, hc2, hri⟩ := elmR_at hOr hp
   injection hv with hv _ hcc
   subst hv hcc
   have hl4 := len4 HOK.out (List.mem_of_getElem? hp)
   obtain ⟨nm, cl, sm⟩ := p
   obtain ⟨w2, hw2⟩ : ∃ w2, w2 = wr.alloc (.cells #[.string (str nm), .slice Ac cl.length cc, .int .i64 sm] 83) := ⟨_, rfl⟩
   have hb2 : Below wr.heap.size wr w2 := by rw [hw2]; exact (Below.refl _ _).alloc (Nat.le_refl _) _
   have hsz := hB.size
   have hTr : T ≤ wr.heap.size := by have := HTM.out; omega
   have htx := text_any w2 T Ac cl.length cc cl (hri.keep fun p hp => hb2.cell (p := p) (by omega)) (by have := hb2.size; omega) (by simp only at hl4; omega) ((hb2.cell (p := ⟨5, 15, none⟩) (by show (5 : Nat) < _; omega)).trans ((hB.cell (p := ⟨5, 15, none⟩) hgT).trans HGW.out))
   have hm2 := HQ.out.2.at_ (hb2.block M HQ.out.2.lt)
   have hnot : (Value.string (str (textL cl))) ∉ (rankKV 0 (es.take k)).map Prod.fst := by
    rw [rank_keys]
    exact not_taken (f := fun e : Elm => Value.string (str (textL e.cells))) (texts_nodup HOK.out) hp
   have HM2 := Lib.hid hm2
   have HNOT := Lib.hid hnot
   have HB2 := Lib.hid hb2
   have HP := Lib.hid hp
   have x0 : w2.cell? ⟨wr.heap.size, 0, none⟩ = some (.string (str nm)) := by rw [hw2]; simp
   have x1 : w2.cell? ⟨wr.heap.size, 1, none⟩ = some (.slice Ac cl.length cc) := by rw [hw2]; simp
   have x2 : w2.cell? ⟨wr.heap.size, 2, none⟩ = some (.int .i64 sm) := by rw [hw2]; simp
   have i0 : (0 : Int) ≤ (k : Int) := by omega
   have i1 : (k : Int) < (es.length : Int) := by omega
   clear hm2 hnot hb2 hB hp hri hOr hsz hTr
   subst hw2
   go_wp2_with fail
   refine htx.mono ?_
   rintro e w3 ⟨rfl, hb3⟩
   have hm3 := HM2.out.at_ (hb3.block M HM2.out.lt)
   obtain ⟨ob, hput, hm4⟩ := hm3.put_new (P := Tryz.prog) Tryz.underlying101 Tryz.underlying9 (key := .string (str (textL cl))) (by first | trivial | rfl) HNOT.out (.int .i64 (k : Int))
   have HEND : Hid (Fr W (putObj w3 M ob) (· = M) ∧ MapIs (putObj w3 M ob) M .string (rankKV 0 (es.take (k + 1)))) := Lib.hid ⟨((HQ.out.1.trans (.of_below HB2.out)).trans (.of_below hb3)).next (.of_grown (putObj_only ob)) (by intro j _ e; injection e with e; exact e.symm), by
    rw [take_one HP.out, rank_snoc, List.length_take, Nat.min_eq_left (by omega), Nat.zero_add]
    exact hm4⟩
   clear hm3 hm4 hb3 htx
   go_wp2
   go_roundw
   case rel => exact ⟨k + 1, by omega, by go_num, HEND⟩
   case measure => simp [intOf]; omega
  ·obtain rfl : k = es.length := by omega
   have HE : Hid (Fr W wr (· = M) ∧ PRank T es wr M) := Lib.hid ⟨HQ.out.1, HTM.out.1, by have := HQ.out.2; rwa [List.take_length] at this⟩
   go_wp2
   go_end0
   exact ⟨rfl, HE.out⟩
end Go.Proofs.YthgiikhkcpbpfaaGreatDoor.C


namespace Go.Proofs.YthgiikhkcpbpfaaGreatDoor.C
open Go.RowKit
variable {F : Nat}
theorem right_up {L : Loc} (h : rightL L = true) : (L.up.map Prod.fst).Nodup := by unfold rightL at h; simp only [Bool.and_eq_true] at h; exact pairs_nodup h.1.1.2
theorem right_lo {L : Loc} (h : rightL L = true) : (L.lo.map Prod.fst).Nodup := by unfold rightL at h; simp only [Bool.and_eq_true] at h; exact pairs_nodup h.1.2
theorem right_cls {L : Loc} (h : rightL L = true) : (L.cls.map Cls.name).Nodup := by unfold rightL at h; simp only [Bool.and_eq_true] at h; exact cls_nodup h.1.1.1
theorem right_ord {L : Loc} (h : rightL L = true) : ordB L.ord = true := by unfold rightL at h; simp only [Bool.and_eq_true] at h; exact h.2
set_option maxRecDepth 100000 in
set_option maxHeartbeats 1000000 in
theorem count_any (w : World) (T : Nat) (L : Loc) (n : Int) (h : TabG F w T L n) (h0 : 0 ≤ n) (h1 : n < 4611686018427387904) :
  Calls Tryz.prog 70 #[.pointer (some ⟨T, 0, none⟩)] w fun e w' => e = .returned (.tuple #[]) ∧ TabG F w' T L (n + 1) ∧ Fr w w' (· = T) := by
 obtain ⟨hc, hz⟩ := h.cell0
 have hadd := run_call_add (P := Tryz.prog) Tryz.func152 (by kernel_rfl) (by kernel_rfl) (by kernel_rfl) .i64 (by kernel_rfl) (y := 1) (s := n + 1) hc hz (by simp [go_sem]; rw [IntKind.wrap_i64]; omega)
 have HT : Hid (TabG F (w.setCell ⟨T, 0, none⟩ (.int .i64 (n + 1))) T L (n + 1) ∧ Fr w (w.setCell ⟨T, 0, none⟩ (.int .i64 (n + 1))) (· = T)) := Lib.hid ⟨h.count, (Fr.refl w _).setT _ _⟩
 clear h hc hz
 go_enter Tryz.func70, Tryz.ntmps70
 go_wp2
 go_end0
 exact ⟨rfl, HT.out⟩
theorem zeroCell32 (w : World) : (zeroValue 30).run Tryz.prog w = .ok (.int .i32 0) w := by kernel_rfl
theorem zeroInt64 (w : World) : (zeroValue 3).run Tryz.prog w = .ok (.int .i64 0) w := by kernel_rfl
set_option maxRecDepth 100000 in
set_option maxHeartbeats 2000000 in
theorem ofP_any (T o : Nat) (t : TypeId) (l : List Value) (w : World) (v : Value) (ps : List (Int × Int)) (c : Int) (hr : Row w T t l) (hk : Lk l o (PPair T ps w)) (hl : l[o + 4]? = some v) (hps : PrsR w T v ps) (hn : ps.length ≤ maxLen) (hnd : (ps.map Prod.fst).Nodup) :
  Calls Tryz.prog 71 #[.pointer (some ⟨T, o, none⟩), .int .i32 c] w fun e w' => e = .returned (.int .i32 (toL ps c)) ∧ Fr w w' (· = T) ∧ ∃ l', Row w' T t l' ∧ Lk l' o (PPair T ps w') ∧ Else l l' o := by
 have hget := getCC_any T o t l w 109 (.pointer (some ⟨T, o, none⟩)) (PPair T ps) hr hk (fun W W' M h hf => h.fr hf) (fun args w => run_enter Tryz.func109 (by kernel_rfl) rfl args w) (fillPair T o t l w v ps hl hps hn hnd hr.lt)
 have hmf : ∀ (fn : Fn) (first cap : Array Value) (w : World), (Instr.makeFunc fn first cap).run Tryz.prog w = .ok (.func fn first cap) w := fun _ _ _ _ => rfl
 have HND := Lib.hid hnd
 clear hr hk hl hps hn hnd
 go_enter Tryz.func71, Tryz.ntmps71
 go_wp2_with fail
 refine hget.mono ?_
 rintro e w1 ⟨M, rfl, hp, hf, l', hr', hk', he⟩
 have HQ : Hid (Fr w w1 (· = T) ∧ ∃ l', Row w1 T t l' ∧ Lk l' o (PPair T ps w1) ∧ Else l l' o) := Lib.hid ⟨hf, l', hr', hk', he⟩
 have hm := hp.2
 clear hget hp hf hr' hk' he
 by_cases hc : c ∈ ps.map Prod.fst
 ·obtain ⟨p, hp, e⟩ := List.mem_map.1 hc
  have q := hm.look_yes (P := Tryz.prog) Tryz.underlying120 Tryz.underlying30 (key := .int .i32 c) (v := .int .i32 p.2) (by first | trivial | rfl) (by rw [← e]; exact List.mem_map.2 ⟨p, hp, rfl⟩) true
  have HV : Hid (toL ps c = p.2) := Lib.hid (by rw [← e]; exact toL_in HND.out hp)
  clear hm hp
  go_wp2
  go_ret
  exact ⟨by rw [HV.out]; rfl, HQ.out⟩
 ·have q := hm.look_no (P := Tryz.prog) Tryz.underlying120 Tryz.underlying30 (key := .int .i32 c) (by first | trivial | rfl) (by
   rw [map_fst_pair]
   intro h
   obtain ⟨x, hx, e⟩ := List.mem_map.1 h
   injection e with _ e
   exact hc (e ▸ hx)) (zeroCell32 w1) true
  have HV : Hid (toL ps c = c) := Lib.hid (toL_out hc)
  clear hm
  go_wp2
  go_ret
  exact ⟨by rw [HV.out]; rfl, HQ.out⟩
theorem up_any (w : World) (T : Nat) (L : Loc) (n c : Int) (h : TabG F w T L n) (hR : rightL L = true) :
  Calls Tryz.prog 71 #[.pointer (some ⟨T, 19, none⟩), .int .i32 c] w fun e w' => e = .returned (.int .i32 (toL L.up c)) ∧ TabG F w' T L n ∧ Fr w w' (· = T) := by
 obtain ⟨l, v1, v2, v3, v4, hr, h1, h2, h3, h4, h5, h6, h7, k1, k2, k3, k4, k5, k6⟩ := h
 refine (ofP_any T 19 _ l w v2 L.up c hr k5 h5 h7.2.1 h7.2.2.2.2.2.1 (right_up hR)).mono ?_
 rintro e w' ⟨rfl, hf, l', hr', hk', he⟩
 exact ⟨rfl, TabG.step hf hr hr' 19 (by simp) he ⟨h1, h2, h3, h4, h5, h6, h7⟩ (.inr ⟨by omega, k1⟩) (.inr ⟨by omega, k2⟩) (.inr ⟨by omega, k3⟩) (.inr ⟨by omega, k4⟩) (.inl hk') (.inr ⟨by omega, k6⟩), hf⟩
theorem lo_any (w : World) (T : Nat) (L : Loc) (n c : Int) (h : TabG F w T L n) (hR : rightL L = true) :
  Calls Tryz.prog 71 #[.pointer (some ⟨T, 24, none⟩), .int .i32 c] w fun e w' => e = .returned (.int .i32 (toL L.lo c)) ∧ TabG F w' T L n ∧ Fr w w' (· = T) := by
 obtain ⟨l, v1, v2, v3, v4, hr, h1, h2, h3, h4, h5, h6, h7, k1, k2, k3, k4, k5, k6⟩ := h
 refine (ofP_any T 24 _ l w v3 L.lo c hr k6 h6 h7.2.2.1 h7.2.2.2.2.2.2 (right_lo hR)).mono ?_
 rintro e w' ⟨rfl, hf, l', hr', hk', he⟩
 exact ⟨rfl, TabG.step hf hr hr' 24 (by simp) he ⟨h1, h2, h3, h4, h5, h6, h7⟩ (.inr ⟨by omega, k1⟩) (.inr ⟨by omega, k2⟩) (.inr ⟨by omega, k3⟩) (.inr ⟨by omega, k4⟩) (.inr ⟨by omega, k5⟩) (.inl hk'), hf⟩
theorem RI.fr {ki : IntKind} {w w' : World} {B n : Nat} {A : Option Addr} {zs : List Int} {X : Nat → Prop} (h : RI ki w B A n zs) (hf : Fr w w' X) (hB : B ≤ w.heap.size) (hx : 0 < n → ∀ ad, A = some ad → ¬ X ad.block) : RI ki w' B A n zs :=
 ⟨h.1, fun hn => by
  obtain ⟨ad, e, hb, hc⟩ := h.2 hn
  exact ⟨ad, e, hb, fun j u hu => (World.cell?_of_block (hf.block (ad.add j).block (by rw [block_of_add]; omega) (by rw [block_of_add]; exact hx hn ad e))).trans (hc j u hu)⟩⟩
theorem rank_at {o : List Elm} {i : Nat} {e : Elm} (he : o[i]? = some e) : ((Value.string (str (textL e.cells)), Value.int .i64 (i : Int)) : Value × Value) ∈ rankKV 0 o := by
 have h : ∀ (o : List Elm) (k i : Nat), o[i]? = some e → ((Value.string (str (textL e.cells)), Value.int .i64 ((k + i : Nat) : Int)) : Value × Value) ∈ rankKV k o := by
  intro o
  induction o with
  | nil => intro k i h; cases h
  | cons x r ih =>
   intro k i h
   cases i with
   | zero =>
    obtain rfl : x = e := by simpa using h
    exact List.mem_cons_self
   | succ j =>
    have := ih (k + 1) j (by simpa using h)
    rw [show k + (j + 1) = k + 1 + j by omega]
    exact List.mem_cons_of_mem _ this
 have := h o 0 i he
 rwa [Nat.zero_add] at this
theorem first_at : ∀ {o : List Elm} {cs : List Int}, (∃ e ∈ o, e.cells = cs) → ∃ (i : Nat) (e : Elm), o[i]? = some e ∧ e.cells = cs ∧ ∀ x ∈ o.take i, x.cells ≠ cs
 | [], _, h => by obtain ⟨e, he, _⟩ := h; cases he
 | x :: r, cs, h => by
  by_cases hx : x.cells = cs
  ·exact ⟨0, x, rfl, hx, by simp⟩
  ·obtain ⟨i, e, h1, h2, h3⟩ := first_at (o := r) (cs := cs) (by
    obtain ⟨e, he, hc⟩ := h
    rcases List.mem_cons.1 he with rfl | he
    ·exact absurd hc hx
    ·exact ⟨e, he, hc⟩)
   refine ⟨i + 1, e, by simpa using h1, h2, fun y hy => ?_⟩
   rw [List.take_succ_cons] at hy
   rcases List.mem_cons.1 hy with rfl | hy
   ·exact hx
   ·exact h3 y hy
theorem place_is {o : List Elm} {cs : List Int} : (∃ (i : Nat) (e : Elm), o[i]? = some e ∧ e.cells = cs ∧ placeV o cs = (i : Int)) ∨ ((∀ e ∈ o, e.cells ≠ cs) ∧ placeV o cs = -1) := by
 by_cases h : ∃ e ∈ o, e.cells = cs
 ·obtain ⟨i, e, he, hc, hx⟩ := first_at h
  exact .inl ⟨i, e, he, hc, placeV_at he hc hx⟩
 ·have h' : ∀ e ∈ o, e.cells ≠ cs := fun e he hc => h ⟨e, he, hc⟩
  exact .inr ⟨h', placeV_none h'⟩
set_option maxRecDepth 100000 in
set_option maxHeartbeats 2000000 in
theorem rankO_any (w : World) (T : Nat) (L : Loc) (n : Int) (Bx : Nat) (Ax : Option Addr) (m cx : Nat) (cs : List Int) (h : TabG F w T L n) (hR : rightL L = true) (hx : RI .i32 w Bx Ax m cs) (hBx : Bx ≤ w.heap.size) (hxT : 0 < m → ∀ ad, Ax = some ad → ad.block ≠ T) (hG : Gl w) (hgT : (5 : Nat) < T) :
  Calls Tryz.prog 98 #[.pointer (some ⟨T, 1, none⟩), .slice Ax m cx] w fun e w' => e = .returned (.int .i64 (placeV L.ord cs)) ∧ TabG F w' T L n ∧ Fr w w' (· = T) := by
 have hord := right_ord hR
 by_cases hm : 4 < m
 ·have hp : placeV L.ord cs = -1 := placeV_none (fun e he hc => by
   have := len4 hord he
   rw [hc, hx.len] at this
   omega)
  have hm' : (4 : Int) < (m : Int) := by omega
  have HE : Hid (TabG F w T L n ∧ Fr w w (· = T)) := Lib.hid ⟨h, Fr.refl _ _⟩
  clear h hx hxT hG
  rw [hp]
  go_enter Tryz.func98, Tryz.ntmps98
  go_wp2
  go_ret
  exact ⟨rfl, HE.out⟩
 ·have hm' : ¬ (4 : Int) < (m : Int) := by omega
  obtain ⟨l, v1, v2, v3, v4, hr, h1, h2, h3, h4, h5, h6, h7, k1, k2, k3, k4, k5, k6⟩ := h
  have hget := getSI_any T 2 _ l w 143 (.pointer (some ⟨T, 1, none⟩)) (PRank T L.ord) hr k1 (fun W W' M h hf => h.fr hf) (fun args w => run_enter Tryz.func143 (by kernel_rfl) rfl args w) (fillRank T _ l w v4 L.ord h3 h7.2.2.2.1 hord hr.lt hG hgT)
  have hmf : ∀ (fn : Fn) (first cap : Array Value) (w : World), (Instr.makeFunc fn first cap).run Tryz.prog w = .ok (.func fn first cap) w := fun _ _ _ _ => rfl
  have HS : Hid (∀ w' l', Fr w w' (· = T) → Row w' T 131 l' → Lk l' 2 (PRank T L.ord w') → Else l l' 2 → TabG F w' T L n) := Lib.hid (fun w' l' hf hr' hk' he => TabG.step hf hr hr' 2 (by simp) he ⟨h1, h2, h3, h4, h5, h6, h7⟩ (.inl hk') (.inr ⟨by omega, k2⟩) (.inr ⟨by omega, k3⟩) (.inr ⟨by omega, k4⟩) (.inr ⟨by omega, k5⟩) (.inr ⟨by omega, k6⟩))
  have HX := Lib.hid hx
  have HXT := Lib.hid hxT
  have HG := Lib.hid hG
  have HTl : Hid (T ≤ w.heap.size) := Lib.hid (Nat.le_of_lt hr.lt)
  have HORD := Lib.hid hord
  clear hr h1 h2 h3 h4 h5 h6 h7 k1 k2 k3 k4 k5 k6 hx hxT hG hord
  go_enter Tryz.func98, Tryz.ntmps98
  go_wp2_with fail
  refine hget.mono ?_
  rintro e w1 ⟨M, rfl, hp, hf, l', hr', hk', he⟩
  have hs := hf.size
  have htx := text_any w1 Bx Ax m cx cs (HX.out.fr hf hBx HXT.out) (by omega) (by omega) (((hf.belowT HTl.out).cell (p := ⟨5, 15, none⟩) hgT).trans HG.out)
  have HQ : Hid (TabG F w1 T L n ∧ Fr w w1 (· = T)) := Lib.hid ⟨HS.out _ _ hf hr' hk' he, hf⟩
  have HM := Lib.hid hp.2
  clear hget hp hf hr' hk' he hs
  go_wp2_with fail
  refine htx.mono ?_
  rintro e w2 ⟨rfl, hb2⟩
  have HQ2 : Hid (TabG F w2 T L n ∧ Fr w w2 (· = T)) := Lib.hid ⟨HQ.out.1.keep hb2, HQ.out.2.trans (.of_below hb2)⟩
  have hm2 := HM.out.at_ (hb2.block M HM.out.lt)
  clear htx hb2
  rcases place_is (o := L.ord) (cs := cs) with ⟨i, e, he, hc, hp⟩ | ⟨hno, hp⟩
  ·have q := hm2.look_yes (P := Tryz.prog) Tryz.underlying101 Tryz.underlying9 (key := .string (str (textL cs))) (v := .int .i64 (i : Int)) (by first | trivial | rfl) (by rw [← hc]; exact rank_at he) true
   have HP := Lib.hid hp
   clear hm2 he hp hc
   go_wp2
   go_ret
   exact ⟨by rw [HP.out]; rfl, HQ2.out⟩
  ·have q := hm2.look_no (P := Tryz.prog) Tryz.underlying101 Tryz.underlying9 (key := .string (str (textL cs))) (by first | trivial | rfl) (by
    rw [rank_keys]
    intro h
    obtain ⟨x, hx, e⟩ := List.mem_map.1 h
    exact hno x hx (textL_any (elemB_right (ord_elem HORD.out hx)) (strV_inj e))) (zeroInt64 w2) true
   have HP := Lib.hid hp
   clear hm2 hno hp
   go_wp2
   go_ret
   exact ⟨by rw [HP.out]; rfl, HQ2.out⟩
set_option maxRecDepth 100000 in
set_option maxHeartbeats 1000000 in
theorem rank_any (w : World) (T : Nat) (L : Loc) (n : Int) (Bx : Nat) (Ax : Option Addr) (m cx : Nat) (cs : List Int) (h : TabG F w T L n) (h0 : 0 ≤ n) (h1 : n < 4611686018427387904) (hR : rightL L = true) (hx : RI .i32 w Bx Ax m cs) (hBx : Bx ≤ w.heap.size) (hxT : 0 < m → ∀ ad, Ax = some ad → ad.block ≠ T) (hG : Gl w) (hgT : (5 : Nat) < T) :
  Calls Tryz.prog 103 #[.pointer (some ⟨T, 0, none⟩), .slice Ax m cx] w fun e w' => e = .returned (.int .i64 (placeV L.ord cs)) ∧ TabG F w' T L (n + 1) ∧ Fr w w' (· = T) := by
 have hc := count_any w T L n h h0 h1
 have HTl : Hid (T ≤ w.heap.size) := Lib.hid (Nat.le_of_lt h.lt)
 have HX := Lib.hid hx
 have HXT := Lib.hid hxT
 have HG := Lib.hid hG
 clear h hx hxT hG
 go_enter Tryz.func103, Tryz.ntmps103
 go_wp2_with fail
 refine hc.mono ?_
 rintro e w1 ⟨rfl, ht, hf⟩
 have hs := hf.size
 have hu := rankO_any w1 T L (n + 1) Bx Ax m cx cs ht hR (HX.out.fr hf hBx HXT.out) (by omega) HXT.out (((hf.belowT HTl.out).cell (p := ⟨5, 15, none⟩) hgT).trans HG.out) hgT
 have HF := Lib.hid hf
 clear hc ht hf
 go_wp2_with fail
 refine hu.mono ?_
 rintro e w2 ⟨rfl, ht, hf⟩
 have HE : Hid (TabG F w2 T L (n + 1) ∧ Fr w w2 (· = T)) := Lib.hid ⟨ht, HF.out.trans hf⟩
 clear hu ht hf
 go_wp2
 go_ret
 exact ⟨rfl, HE.out⟩
end Go.Proofs.YthgiikhkcpbpfaaGreatDoor.C


namespace Go.Proofs.YthgiikhkcpbpfaaGreatDoor.C
open Go.RowKit
variable {F : Nat}
def rangesL (cs : List Cls) (nm : List UInt8) : Option (List (Int × Int)) := (cs.find? fun k => k.name == nm).map Cls.rs
theorem rangesL_some {cs : List Cls} {nm : List UInt8} {rs : List (Int × Int)} (h : rangesL cs nm = some rs) : ∃ (i : Nat) (k : Cls), cs[i]? = some k ∧ k.name = nm ∧ k.rs = rs := by
 unfold rangesL at h
 cases hf : cs.find? fun k => k.name == nm with
 | none => rw [hf] at h; cases h
 | some k =>
  rw [hf] at h
  have hm := List.mem_of_find?_eq_some hf
  have hn := List.find?_some hf
  obtain ⟨i, hi⟩ := List.mem_iff_getElem?.1 hm
  exact ⟨i, k, hi, by simpa using hn, by simpa using h⟩
theorem rangesL_none {cs : List Cls} {nm : List UInt8} (h : rangesL cs nm = none) : ∀ k ∈ cs, k.name ≠ nm := by
 intro k hk e
 unfold rangesL at h
 cases hf : cs.find? fun k => k.name == nm with
 | none =>
  have := List.find?_eq_none.1 hf k hk
  simp [e] at this
 | some k => rw [hf] at h; cases h
theorem zeroRngs (w : World) : (zeroValue 31).run Tryz.prog w = .ok (.slice none 0 0) w := by kernel_rfl
set_option maxRecDepth 100000 in
set_option maxHeartbeats 2000000 in
theorem ranges_any (w : World) (T : Nat) (L : Loc) (n : Int) (nm : List UInt8) (h : TabG F w T L n) (hR : rightL L = true) :
  Calls Tryz.prog 141 #[.pointer (some ⟨T, 14, none⟩), .string (str nm)] w fun e w' => TabG F w' T L n ∧ Fr w w' (· = T) ∧
   ∃ v, e = .returned (.tuple #[v, .bool (rangesL L.cls nm).isSome]) ∧ PrsR w' T v ((rangesL L.cls nm).getD []) ∧ ((rangesL L.cls nm).getD []).length ≤ maxLen := by
 have HML : Hid (∀ k ∈ L.cls, k.rs.length ≤ maxLen) := Lib.hid (by
  obtain ⟨l, v1, v2, v3, v4, _, _, _, _, _, _, _, h7, _⟩ := id h
  obtain ⟨A, c, xs, _, _, hel⟩ := h7.1
  intro k hk
  obtain ⟨i, hi⟩ := List.mem_iff_getElem?.1 hk
  obtain ⟨_, _, _, _, q⟩ := hel i k hi
  exact q)
 have hnd := right_cls hR
 obtain ⟨l, v1, v2, v3, v4, hr, h1, h2, h3, h4, h5, h6, h7, k1, k2, k3, k4, k5, k6⟩ := h
 have hget := getSR_any T 14 _ l w 179 (.pointer (some ⟨T, 14, none⟩)) (PCls T L.cls) hr k4 (fun W W' M h hf => h.fr hf) (fun args w => run_enter Tryz.func179 (by kernel_rfl) rfl args w) (fillCls T 14 _ l w v1 L.cls h4 h7.1 h7.2.2.2.2.1 hnd hr.lt)
 have hmf : ∀ (fn : Fn) (first cap : Array Value) (w : World), (Instr.makeFunc fn first cap).run Tryz.prog w = .ok (.func fn first cap) w := fun _ _ _ _ => rfl
 have HS : Hid (∀ w' l', Fr w w' (· = T) → Row w' T 131 l' → Lk l' 14 (PCls T L.cls w') → Else l l' 14 → TabG F w' T L n) := Lib.hid (fun w' l' hf hr' hk' he => TabG.step hf hr hr' 14 (by simp) he ⟨h1, h2, h3, h4, h5, h6, h7⟩ (.inr ⟨by omega, k1⟩) (.inr ⟨by omega, k2⟩) (.inr ⟨by omega, k3⟩) (.inl hk') (.inr ⟨by omega, k5⟩) (.inr ⟨by omega, k6⟩))
 have HND := Lib.hid hnd
 clear hr h1 h2 h3 h4 h5 h6 h7 k1 k2 k3 k4 k5 k6 hnd
 go_enter Tryz.func141, Tryz.ntmps141
 go_wp2_with fail
 refine hget.mono ?_
 rintro e w1 ⟨M, rfl, hp, hf, l', hr', hk', he⟩
 have HQ : Hid (TabG F w1 T L n ∧ Fr w w1 (· = T)) := Lib.hid ⟨HS.out _ _ hf hr' hk' he, hf⟩
 obtain ⟨_, vs, hlen, hm, hev⟩ := hp
 clear hget hf hr' hk' he
 cases hl : rangesL L.cls nm with
 | some rs =>
  have HL := Lib.hid hl
  obtain ⟨i, k, hi, hn, hrs⟩ := rangesL_some hl
  have hml := HML.out k (List.mem_of_getElem? hi)
  rw [hrs] at hml
  have hv : vs[i]? = some (vs[i]'(by rw [hlen]; exact (List.getElem?_eq_some_iff.1 hi).1)) := List.getElem?_eq_getElem _
  generalize vs[i]'(by rw [hlen]; exact (List.getElem?_eq_some_iff.1 hi).1) = u at hv
  have hz : (L.cls.zip vs)[i]? = some (k, u) := by rw [List.getElem?_zip_eq_some]; exact ⟨hi, hv⟩
  have hpr := hev i k u hi hv
  rw [hrs] at hpr
  have q := hm.look_yes (P := Tryz.prog) Tryz.underlying114 Tryz.underlying9 (key := .string (str nm)) (v := u) (by first | trivial | rfl) (by rw [← hn]; exact List.mem_map.2 ⟨_, List.mem_of_getElem? hz, rfl⟩) true
  have HE : Hid (TabG F w1 T L n ∧ Fr w w1 (· = T) ∧ PrsR w1 T u rs ∧ rs.length ≤ maxLen) := Lib.hid ⟨HQ.out.1, HQ.out.2, hpr, hml⟩
  obtain ⟨uA, uc, rfl, _⟩ := id hpr
  clear hm hpr hev hz hv hi hl hml
  go_wp2
  go_ret2
  exact ⟨HE.out.1, HE.out.2.1, _, by rw [HL.out]; rfl, by rw [HL.out]; exact HE.out.2.2⟩
 | none =>
  have HL := Lib.hid hl
  have hno := rangesL_none hl
  have q := hm.look_no (P := Tryz.prog) Tryz.underlying114 Tryz.underlying9 (key := .string (str nm)) (by first | trivial | rfl) (by
   intro h
   rw [List.map_map] at h
   obtain ⟨x, hx, e⟩ := List.mem_map.1 h
   have e' := strV_inj e
   exact hno x.1 (List.of_mem_zip hx).1 e') (zeroRngs w1) true
  have HE : Hid (TabG F w1 T L n ∧ Fr w w1 (· = T) ∧ PrsR w1 T (.slice none 0 0) []) := Lib.hid ⟨HQ.out.1, HQ.out.2, none, 0, rfl, SI.nil 2 w1 T none⟩
  clear hm hev hl hno
  go_wp2
  go_ret2
  exact ⟨HE.out.1, HE.out.2.1, _, by rw [HL.out]; rfl, by rw [HL.out]; exact ⟨HE.out.2.2, Nat.zero_le _⟩⟩
end Go.Proofs.YthgiikhkcpbpfaaGreatDoor.C
