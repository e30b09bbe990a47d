/-
  Joined: MLxW, MLxN, MLxO, LcG, LjT, LdJ, MLyK. Each with what its own head says.
-/
import Derived.Lib.ConvBytes
import Derived.Laws.Strings3
import Derived.Laws.Closers25
import Derived.Laws.Closers25b
import Derived.BigCall
import Derived.BigGuard
import Derived.Lib.LaidU8
import Derived.Test.YthaibekbefndlaaGreatDoorRows
import Derived.OpenShut
import Derived.ShutString
import Derived.ChangeOld
import Derived.Carry
import Derived.Deep.DeepHandedRow
import Derived.Lib.LaidTab
import Derived.Stop.LaidErr
import Derived.LaidLaws
import Derived.Lay
import Derived.Lib.RuneBytes
import Derived.Laws.BytesArg
import Derived.Lib.BufferWrite
import Derived.Deep.RegionLaw
import Derived.StillTailTactics
import Derived.WalkLawsBesides
import Derived.WalkMore
import Derived.Defers
import Derived.Recover
import Derived.Laws.CopyRow
import Derived.Laws.BitsAllLaws
import Derived.Laws.IdiomStrings
import Derived.Deep.RegionHeld3
import Derived.Deep.RegionWith
import Derived.OrdersHeld
import Derived.MapKept
import Derived.Laws.NewBlocks
import Derived.WideMake
import Derived.Laws.NewDeep
import Derived.Lib.SmallJoins
import Derived.Laws.BitsLemmas
import Derived.Lib.Slices
import Derived.Laws.RangeString
import Derived.Laws.RangeAny
import Derived.Test.YthaibekbefndlaaGreatDoorZ01
import Derived.Test.YthaibekbefndlaaGreatDoorZ00

namespace Go.Proofs.YthaibekbefndlaaGreatDoor.C
open Go.RowKit

@[simp] theorem str_list (l : List UInt8) : (str l).data.toList = l := rfl
theorem str_of (s : ByteArray) : str s.data.toList = s := by cases s; rfl
theorem size_list (s : ByteArray) : s.data.toList.length = s.size := Array.length_toList

theorem hasPrefix_one (l : List UInt8) (c : UInt8) : Lib.hasPrefix l [c] = decide (l.head? = some c) := by
 cases l with
 | nil => simp [Lib.hasPrefix]
 | cons a r =>
  show ((c == a) && true) = decide (some a = some c)
  by_cases h : c = a
  ·subst h
   simp
  ·have h' : ¬ a = c := fun e => h e.symm
   simp [h, h']

theorem hasPrefix_yes (l : List UInt8) (p : ByteArray) (w : World) (h : Lib.hasPrefix l p.data.toList = true) :
  Calls Tryz.prog 114 #[.string (str l), .string p] w fun e w' => e = .returned (.bool true) ∧ w' = w := by
 have := Tryz.strings_HasPrefix (str l) p w
 rwa [str_list, h] at this
theorem hasPrefix_no (l : List UInt8) (p : ByteArray) (w : World) (h : Lib.hasPrefix l p.data.toList = false) :
  Calls Tryz.prog 114 #[.string (str l), .string p] w fun e w' => e = .returned (.bool false) ∧ w' = w := by
 have := Tryz.strings_HasPrefix (str l) p w
 rwa [str_list, h] at this

theorem cutPrefix_yes (c : UInt8) (r : List UInt8) (w : World) :
  Calls Tryz.prog 118 #[.string (str (c :: r)), .string ⟨#[c]⟩] w fun e w' => e = .returned (.tuple #[.string (str r), .bool true]) ∧ w' = w := by
 have := Tryz.strings_CutPrefix (str (c :: r)) ⟨#[c]⟩ w
 have h1 : Lib.hasPrefix (c :: r) [c] = true := by simp [hasPrefix_one]
 have h2 : Lib.trimPrefix (c :: r) [c] = r := by simp [Lib.trimPrefix, h1]
 rw [str_list, show (ByteArray.mk #[c]).data.toList = [c] from rfl, h1, h2] at this
 exact this
theorem cutPrefix_no (l : List UInt8) (c : UInt8) (h : l.head? ≠ some c) (w : World) :
  Calls Tryz.prog 118 #[.string (str l), .string ⟨#[c]⟩] w fun e w' => e = .returned (.tuple #[.string (str l), .bool false]) ∧ w' = w := by
 have := Tryz.strings_CutPrefix (str l) ⟨#[c]⟩ w
 have h1 : Lib.hasPrefix l [c] = false := by rw [hasPrefix_one]; simpa using h
 have h2 : Lib.trimPrefix l [c] = l := by simp [Lib.trimPrefix, h1]
 rw [str_list, show (ByteArray.mk #[c]).data.toList = [c] from rfl, h1, h2] at this
 exact this

theorem builder_write (B b : Nat) (bs : List Value) (s : ByteArray) (w : World) (h : Lib.IsBuilder 208 5 B b bs w) (hlen : bs.length + s.size ≤ 140737488355328) (hBw : B ≤ w.heap.size) :
  Calls Tryz.prog 180 #[.pointer (some ⟨b, 0, none⟩), .string s] w fun e w' => e = .returned (.tuple #[.int .i64 s.size, .nilIface]) ∧ (Lib.BuilderAt 208 5 B b (.pointer (some ⟨b, 0, none⟩)) (bs ++ Lib.strCells s) w' ∧ Below B w w') :=
 Any.Builder_WriteString { Tryz.lays158 with } Tryz.Builder_Extra_158 B b bs s w h hlen hBw

set_option maxHeartbeats 1000000 in
theorem isOfWord_any (b : UInt8) (w : World) : Calls Tryz.prog 169 #[.int .u8 b.toNat] w fun e w' => e = .returned (.bool (isW b)) ∧ w' = w := by
 have hlt : b.toNat < 256 := b.toNat_lt
 obtain ⟨n, hn⟩ : ∃ n, b.toNat = n := ⟨_, rfl⟩
 have key : isW b = decide (97 ≤ n ∧ n ≤ 122 ∨ 65 ≤ n ∧ n ≤ 90 ∨ 48 ≤ n ∧ n ≤ 57 ∨ n = 45 ∨ n = 95) := by unfold isW; rw [hn]
 rw [key, hn]
 clear key hn
 have fin : ∀ (x : Bool) (e : Ending), (x = decide (97 ≤ n ∧ n ≤ 122 ∨ 65 ≤ n ∧ n ≤ 90 ∨ 48 ≤ n ∧ n ≤ 57 ∨ n = 45 ∨ n = 95)) → e = .returned (.bool x) → e = .returned (.bool (decide (97 ≤ n ∧ n ≤ 122 ∨ 65 ≤ n ∧ n ≤ 90 ∨ 48 ≤ n ∧ n ≤ 57 ∨ n = 45 ∨ n = 95))) := fun x e h h2 => by rw [h2, h]
 go_enter Tryz.func169, Tryz.ntmps169
 go_wp2
 all_goals go_ret
 all_goals refine ⟨fin _ _ ?_ rfl, rfl⟩
 all_goals first | (rw [eq_comm, decide_eq_true_iff]; omega) | (rw [eq_comm, decide_eq_false_iff_not]; omega) | (rw [Bool.eq_iff_iff]; simp; omega)
theorem isOfWord_yes (b : UInt8) (w : World) (h : isW b = true) : Calls Tryz.prog 169 #[.int .u8 b.toNat] w fun e w' => e = .returned (.bool true) ∧ w' = w := by
 have := isOfWord_any b w
 rwa [h] at this
theorem isOfWord_no (b : UInt8) (w : World) (h : isW b = false) : Calls Tryz.prog 169 #[.int .u8 b.toNat] w fun e w' => e = .returned (.bool false) ∧ w' = w := by
 have := isOfWord_any b w
 rwa [h] at this

theorem word_drop {l : List UInt8} {k : Nat} {b : UInt8} (h : l[k]? = some b) : wordL (l.drop k) = if isW b then b :: wordL (l.drop (k + 1)) else [] := by
 have hk : k < l.length := (List.getElem?_eq_some_iff.1 h).1
 have e : l.drop k = b :: l.drop (k + 1) := by
  rw [List.drop_eq_getElem_cons hk]
  congr 1
  exact (List.getElem?_eq_some_iff.1 h).2
 rw [e]
 unfold wordL
 rw [List.takeWhile_cons]
theorem word_step {l : List UInt8} {k : Nat} {b : UInt8} (h : l[k]? = some b) (hw : isW b = true) (hk : wordL l = l.take k ++ wordL (l.drop k)) : wordL l = l.take (k + 1) ++ wordL (l.drop (k + 1)) := by
 rw [word_drop h, if_pos hw] at hk
 rw [hk, List.take_add_one, h]
 simp
theorem word_end {l : List UInt8} {k : Nat} {b : UInt8} (h : l[k]? = some b) (hw : isW b = false) (hk : wordL l = l.take k ++ wordL (l.drop k)) : wordL l = l.take k := by
 rw [word_drop h, if_neg (by rw [hw]; decide)] at hk
 simpa using hk
theorem extract_list (s : ByteArray) (i j : Nat) : (s.extract i j).data.toList = (s.data.toList.take j).drop i := by
 simp [ByteArray.data_extract, List.drop_take]
theorem extract_str (s : ByteArray) (i j : Nat) : s.extract i j = str ((s.data.toList.take j).drop i) := by
 rw [← extract_list, str_of]

set_option maxHeartbeats 1000000 in
theorem wordAt_any (s : ByteArray) (w : World) (hs : s.size ≤ maxLen) : Calls Tryz.prog 120 #[.string s] w fun e w' => e = .returned (.string (str (wordL s.data.toList))) ∧ w' = w := by
 unfold maxLen at hs
 go_enter Tryz.func120, Tryz.ntmps120
 go_wp2
 go_loop [3] (fun i => ∃ k : Nat, k ≤ s.size ∧ i = .int .i64 k ∧ Hid (wordL s.data.toList = s.data.toList.take k ++ wordL (s.data.toList.drop k))) (fun i => s.size - (intOf i).toNat)
 case atStart => exact ⟨0, Nat.zero_le _, rfl, Lib.hid (by simp)⟩
 case round =>
  obtain ⟨k, hk, rfl, HK⟩ := hrel
  have fin : wordL s.data.toList = s.data.toList.take k → s.extract 0 k = str (wordL s.data.toList) := fun h => by rw [extract_str, h, List.drop_zero]
  have FIN := Lib.hid fin
  clear fin
  by_cases hlt : k < s.size
  ·have hb : s.data.toList[k]? = some (s[k]'hlt) := by
    rw [Array.getElem?_toList]
    exact Array.getElem?_eq_getElem hlt
   have HB := Lib.hid hb
   clear hb
   by_cases hw : isW (s[k]'hlt) = true
   ·have HW := Lib.hid hw
    go_wp2_with (go_at_call 169; refine (isOfWord_yes _ _ HW.out).mono ?_; rintro e w' ⟨rfl, rfl⟩)
    go_round
    case rel => exact ⟨k + 1, by omega, by go_num, Lib.hid (word_step HB.out HW.out HK.out)⟩
    case measure => simp [intOf]; omega
   ·have hw' : isW (s[k]'hlt) = false := by simpa using hw
    have HW := Lib.hid hw'
    clear hw hw'
    go_wp2_with (go_at_call 169; refine (isOfWord_no _ _ HW.out).mono ?_; rintro e w' ⟨rfl, rfl⟩)
    go_ret
    exact ⟨by rw [FIN.out (word_end HB.out HW.out HK.out)]; rfl, rfl⟩
  ·obtain rfl : k = s.size := by omega
   go_wp2
   go_ret
   refine ⟨?_, rfl⟩
   have h := HK.out
   rw [← size_list, List.drop_length, List.take_length] at h
   have h2 : wordL s.data.toList = s.data.toList := by simpa [wordL] using h
   show Ending.returned (Value.string s) = _
   rw [h2, str_of]
theorem wordAt_str (l : List UInt8) (w : World) (hs : l.length ≤ maxLen) : Calls Tryz.prog 120 #[.string (str l)] w fun e w' => e = .returned (.string (str (wordL l))) ∧ w' = w := wordAt_any (str l) w (by rw [str_size]; exact hs)

theorem index_miss {l : List UInt8} {c : UInt8} (h : c ∉ l) : Lib.indexByte l c = -1 := by
 induction l with
 | nil => rfl
 | cons b r ih =>
  have h1 : b ≠ c := fun e => h (by simp [e])
  have h2 := ih (fun e => h (by simp [e]))
  simp [Lib.indexByte, h1, h2]
theorem index_hit {c : UInt8} : ∀ {a : List UInt8} (_ : c ∉ a) (b : List UInt8), Lib.indexByte (a ++ c :: b) c = a.length
 | [], _, b => by simp [Lib.indexByte]
 | x :: a, h, b => by
  have h1 : x ≠ c := fun e => h (by simp [e])
  have h2 := index_hit (a := a) (fun e => h (List.mem_cons_of_mem _ e)) b
  have h3 : ¬ ((a.length : Int) = -1) := by omega
  simp [Lib.indexByte, h1, h2, h3]
theorem ahead_miss {l : List UInt8} {c : UInt8} (h : ¬ (l.takeWhile (· ≠ c)).length < l.length) : c ∉ l ∧ l.takeWhile (· ≠ c) = l := by
 have hp := List.takeWhile_prefix (l := l) (fun x : UInt8 => decide (x ≠ c))
 have e : l.takeWhile (· ≠ c) = l := hp.eq_of_length (by have := hp.length_le; omega)
 refine ⟨fun hc => ?_, e⟩
 rw [← e] at hc
 have := List.all_takeWhile (l := l) (p := fun x : UInt8 => decide (x ≠ c))
 rw [List.all_eq_true] at this
 have := this c hc
 simp at this
theorem ahead_hit {l : List UInt8} {c : UInt8} (h : (l.takeWhile (· ≠ c)).length < l.length) : c ∉ l.takeWhile (· ≠ c) ∧ ∃ b, l = l.takeWhile (· ≠ c) ++ c :: b := by
 refine ⟨fun hc => ?_, ?_⟩
 ·have := List.all_takeWhile (l := l) (p := fun x : UInt8 => decide (x ≠ c))
  rw [List.all_eq_true] at this
  have := this c hc
  simp at this
 ·have e := List.takeWhile_append_dropWhile (p := fun x : UInt8 => decide (x ≠ c)) (l := l)
  cases hd : l.dropWhile (fun x : UInt8 => decide (x ≠ c)) with
  | nil =>
   rw [hd, List.append_nil] at e
   exact absurd (congrArg List.length e) (by omega)
  | cons x b =>
   have hx : x = c := by
    have := List.head?_dropWhile_not (p := fun x : UInt8 => decide (x ≠ c)) (l := l)
    rw [hd] at this
    simpa using this
   subst hx
   rw [hd] at e
   exact ⟨b, e.symm⟩

def CutTold (w : World) (a b : List UInt8) (is : Bool) (e : Ending) (w' : World) : Prop := e = .returned (.tuple #[.string (str a), .string (str b), .bool is]) ∧ ∃ n, w' = w.drewN n
set_option maxHeartbeats 1000000 in
theorem cut_hit0 (a b : List UInt8) (c : UInt8) (hc : c ∉ a) (hl : (a ++ c :: b).length ≤ 1099511627776) (w : World) :
  Calls Tryz.prog 163 #[.string (str (a ++ c :: b)), .string ⟨#[c]⟩] w (CutTold w a b true) := by
 have hi := Tryz.stringslite_Index_one (str (a ++ c :: b)) c w
 rw [str_list, index_hit hc] at hi
 have hs := str_size (a ++ c :: b)
 rw [List.length_append, List.length_cons] at hs
 have e1 : (str (a ++ c :: b)).extract 0 a.length = str a := by rw [extract_str, str_list]; simp
 have e2 : (str (a ++ c :: b)).extract (a.length + 1) (str (a ++ c :: b)).size = str b := by
  rw [extract_str, str_list, str_size, List.take_length, ← List.drop_drop]; simp
 have hl' : a.length + (b.length + 1) ≤ 1099511627776 := by simpa using hl
 obtain ⟨S, hS⟩ : ∃ S, str (a ++ c :: b) = S := ⟨_, rfl⟩
 rw [hS] at hi hs e1 e2 ⊢
 have h1 : a.length ≤ S.size := by omega
 have h2 : a.length + 1 ≤ S.size := by omega
 clear hs hS
 obtain ⟨k, hk⟩ : ∃ k, a.length = k := ⟨_, rfl⟩
 rw [hk] at hi h1 h2 hl' e1 e2
 have E1 := Lib.hid e1
 have E2 := Lib.hid e2
 have hk2 : k < 4611686018427387904 := by omega
 clear hk e1 e2 hl
 go_enter Tryz.func163, Tryz.ntmps163
 go_wp2_with (go_at_call 194; refine hi.mono ?_; rintro e w' ⟨rfl, rfl⟩)
 go_quiet (fail)
 go_wp2
 refine bodyPost_ret (v := .tuple #[.string (str a), .string (str b), .bool true]) (by simp [results, Tryz.results163, E1.out, E2.out]) rfl ⟨rfl, _, rfl⟩
set_option maxHeartbeats 1000000 in
theorem cut_miss0 (l : List UInt8) (c : UInt8) (hc : c ∉ l) (w : World) :
  Calls Tryz.prog 163 #[.string (str l), .string ⟨#[c]⟩] w (CutTold w l [] false) := by
 have hi := Tryz.stringslite_Index_one (str l) c w
 rw [str_list, index_miss hc] at hi
 go_enter Tryz.func163, Tryz.ntmps163
 go_wp2_with (go_at_call 194; refine hi.mono ?_; rintro e w' ⟨rfl, rfl⟩)
 refine bodyPost_ret (v := .tuple #[.string (str l), .string (str []), .bool false]) (by simp [results, Tryz.results163, str]) rfl ⟨rfl, 0, rfl⟩
set_option maxHeartbeats 1000000 in
theorem cut_of {x : ByteArray} {c : UInt8} {w : World} {a b : List UInt8} {is : Bool} (h : Calls Tryz.prog 163 #[.string x, .string ⟨#[c]⟩] w (CutTold w a b is)) :
  Calls Tryz.prog 112 #[.string x, .string ⟨#[c]⟩] w (CutTold w a b is) := by
 go_enter Tryz.func112, Tryz.ntmps112
 go_wp2_with (go_at_call 163; refine h.mono ?_; rintro e w' ⟨rfl, n, rfl⟩)
 refine bodyPost_ret (v := .tuple #[.string (str a), .string (str b), .bool is]) (by simp [results, Tryz.results112]) rfl ⟨rfl, n, rfl⟩
theorem cut_yes (l : List UInt8) (c : UInt8) (h : (l.takeWhile (· ≠ c)).length < l.length) (hl : l.length ≤ 1099511627776) (w : World) :
  ∃ b, Calls Tryz.prog 112 #[.string (str l), .string ⟨#[c]⟩] w (CutTold w (l.takeWhile (· ≠ c)) b true) := by
 obtain ⟨h1, b, h2⟩ := ahead_hit h
 refine ⟨b, cut_of ?_⟩
 have := cut_hit0 (l.takeWhile (· ≠ c)) b c h1 (by rw [← h2]; exact hl) w
 rwa [← h2] at this
theorem cut_no (l : List UInt8) (c : UInt8) (h : ¬ (l.takeWhile (· ≠ c)).length < l.length) (w : World) :
  Calls Tryz.prog 112 #[.string (str l), .string ⟨#[c]⟩] w (CutTold w (l.takeWhile (· ≠ c)) [] false) := by
 obtain ⟨h1, h2⟩ := ahead_miss h
 rw [h2]
 exact cut_of (cut_miss0 l c h1 w)
theorem cut_any (l : List UInt8) (c : UInt8) (hl : l.length ≤ 1099511627776) (w : World) :
  ∃ b is, Calls Tryz.prog 112 #[.string (str l), .string ⟨#[c]⟩] w (CutTold w (l.takeWhile (· ≠ c)) b is) := by
 by_cases h : (l.takeWhile (· ≠ c)).length < l.length
 ·obtain ⟨b, hb⟩ := cut_yes l c h hl w
  exact ⟨b, true, hb⟩
 ·exact ⟨[], false, cut_no l c h w⟩
theorem contains_yes (l : List UInt8) (c : UInt8) (h : c ∈ l) (w : World) :
  Calls Tryz.prog 119 #[.string (str l), .string ⟨#[c]⟩] w fun e w' => e = .returned (.bool true) ∧ w' = w := by
 have := Tryz.strings_Contains_one (str l) c w
 obtain ⟨b, hb⟩ := (ahead_hit (l := l) (c := c) (by
  rcases Nat.lt_or_ge (l.takeWhile (· ≠ c)).length l.length with h1 | h1
  ·exact h1
  ·exact absurd h (ahead_miss (by omega)).1)).2
 have h2 := index_hit (c := c) (a := l.takeWhile (· ≠ c)) (ahead_hit (by
  rcases Nat.lt_or_ge (l.takeWhile (· ≠ c)).length l.length with h1 | h1
  ·exact h1
  ·exact absurd h (ahead_miss (by omega)).1)).1 b
 rw [← hb] at h2
 rw [str_list, h2] at this
 simpa using this
theorem contains_no (l : List UInt8) (c : UInt8) (h : c ∉ l) (w : World) :
  Calls Tryz.prog 119 #[.string (str l), .string ⟨#[c]⟩] w fun e w' => e = .returned (.bool false) ∧ w' = w := by
 have := Tryz.strings_Contains_one (str l) c w
 rw [str_list, index_miss h] at this
 simpa using this
end Go.Proofs.YthaibekbefndlaaGreatDoor.C

namespace Go.Proofs.YthaibekbefndlaaGreatDoor.C
open Go.RowKit

theorem bytes_below (w : World) (e : TypeId) (s : ByteArray) : Below w.heap.size w (Lib.bytesWorld w e s) :=
 ⟨rfl, rfl, rfl, by rw [Lib.bytesWorld_size]; omega, fun j hj => Lib.bytesWorld_at_old w e s j hj⟩

theorem low_val : ∀ n : Nat, n < 256 → bits .or .u8 (n : Int) 32 = ((n ||| 32 : Nat) : Int) := by decide +kernel
theorem low_small : ∀ n : Nat, n < 256 → 97 ≤ n ∧ n ≤ 102 → n ||| 32 = n := by decide +kernel
theorem low_great : ∀ n : Nat, n < 256 → 65 ≤ n ∧ n ≤ 70 → n ||| 32 = n + 32 := by decide +kernel
theorem low_other : ∀ n : Nat, n < 256 → ¬ (97 ≤ n ∧ n ≤ 102) → ¬ (65 ≤ n ∧ n ≤ 70) → (n ||| 32) < 97 ∨ 102 < (n ||| 32) := by decide +kernel
theorem low_255 : ∀ n : Nat, n < 256 → (n ||| 32) < 256 := by decide +kernel

theorem lower_is (n v : Nat) (h : bits .or .u8 (n : Int) 32 = (v : Int)) (w : World) : Calls Tryz.prog 214 #[.int .u8 n] w fun e w' => e = .returned (.int .u8 v) ∧ w' = w := by
 have := Tryz.internal_strconv_lower n w
 rwa [h] at this

theorem lower_95 (w : World) : Calls Tryz.prog 214 #[.int .u8 95] w fun e w' => e = .returned (.int .u8 127) ∧ w' = w := lower_is 95 127 (low_val 95 (by decide)) w
def parsV (l : List UInt8) : Value := match hexN l 0 with
 | some n => .tuple #[.int .u64 n, .nilIface]
 | none => .tuple #[.int .u64 0, .iface 226 (.int .i64 2)]
theorem parsV_some {l : List UInt8} {n : Nat} (h : hexN l 0 = some n) : parsV l = .tuple #[.int .u64 n, .nilIface] := by unfold parsV; rw [h]
theorem parsV_none {l : List UInt8} (h : hexN l 0 = none) : parsV l = .tuple #[.int .u64 0, .iface 226 (.int .i64 2)] := by unfold parsV; rw [h]
theorem pow_16 {k : Nat} (h : k ≤ 6) : 16 ^ k ≤ 16777216 := Nat.le_trans (Nat.pow_le_pow_right (by omega) h) (by decide)

set_option maxHeartbeats 32000000 in
set_option maxRecDepth 100000 in
theorem parse_any (t : ByteArray) (hne : t.size ≠ 0) (hmax : t.size ≤ 6) (w : World) :
  Calls Tryz.prog 196 #[.string t, .int .i64 16, .int .i64 32] w fun e w' => e = .returned (parsV t.data.toList) ∧ w' = Lib.bytesWorld w 5 t := by
 have hemp : t.toList.isEmpty = false := by
  rw [← decide_eq_emptyBytes]
  exact decide_eq_false (fun h => hne (by rw [h]; rfl))
 have hcv := Lib.run_convert_string_bytes (P := Tryz.prog) w 9 38 5 t (u := .string) Tryz.underlying9 Tryz.underlying38 Tryz.underlying5
 have hB : ∀ j, j < t.size → (Lib.bytesWorld w 5 t).cell? ⟨w.heap.size, j, none⟩ = some (.int .u8 (t.data.toList.getD j 0).toNat) := fun j hj => Lib.bytesWorld_cell w 5 t j hj
 obtain ⟨W1, hW1⟩ : ∃ W1, W1 = Lib.bytesWorld w 5 t := ⟨_, rfl⟩
 rw [← hW1] at hcv hB ⊢
 clear hW1
 obtain ⟨bs, hL⟩ : ∃ bs, bs = t.data.toList := ⟨_, rfl⟩
 have hLn : bs.length = t.size := by rw [hL, Lib.size_eq]
 rw [← hL] at hB ⊢
 clear hL
 have hmv : IntKind.u64.wrap (IntKind.u64.wrap 4294967296 - 1) = 4294967295 := by
  rw [IntKind.wrap_u64, IntKind.wrap_u64]
  decide
 go_enter Tryz.func196, Tryz.ntmps196
 go_wp2
 go_loop [12, 13, 101] (fun vu vn vi => ∃ (k acc : Nat) (a : Int), vu = .bool false ∧ vn = .int .u64 a ∧ vi = .int .i64 k ∧ k ≤ t.size ∧ Hid (a = (acc : Int) ∧ acc < 16 ^ k ∧ hexN bs 0 = hexN (bs.drop k) acc))
  (fun _ _ vi => t.size - (intOf vi).toNat)
 case atStart => exact ⟨0, 0, 0, rfl, rfl, rfl, by omega, rfl, by decide, rfl⟩
 case round =>
  obtain ⟨k, acc, a, rfl, rfl, rfl, hk, hh⟩ := hrel
  obtain ⟨ha, hacc, hdec⟩ := hh.out
  clear hh
  have a0 : 0 ≤ a := by omega
  by_cases hkn : k < t.size
  ·have hc := hB k hkn
   have hdrop : bs.drop k = bs[k]'(by omega) :: bs.drop (k + 1) := List.drop_eq_getElem_cons (by omega)
   have hget : bs.getD k 0 = bs[k]'(by omega) := by simp [List.getD, List.getElem?_eq_getElem (show k < bs.length by omega)]
   rw [hdrop, hexN_cons] at hdec
   rw [hget] at hc
   generalize bs[k]'(by omega) = c at hc hdec
   have hc256 : c.toNat < 256 := c.toNat_lt
   have hp : acc < 1048576 := Nat.lt_of_lt_of_le hacc (Nat.le_trans (Nat.pow_le_pow_right (by omega) (show k ≤ 5 by omega)) (by decide))
   have a1 : a < 1048576 := by omega
   have hstep : ∀ d : Nat, d < 16 → 16 * acc + d < 16 ^ (k + 1) := fun d hd => by rw [Nat.pow_succ]; omega
   have HST := Lib.hid hstep
   obtain ⟨n, hn⟩ : ∃ n, c.toNat = n := ⟨_, rfl⟩
   have hdv : digV c = if 48 ≤ n ∧ n ≤ 57 then some (n - 48) else if 97 ≤ n ∧ n ≤ 102 then some (n - 87) else if 65 ≤ n ∧ n ≤ 70 then some (n - 55) else none := by unfold digV; rw [hn]
   rw [hn] at hc hc256
   rw [hdv] at hdec
   clear hB hdrop hget hdv hn hstep
   by_cases hdig : 48 ≤ n ∧ n ≤ 57
   ·rw [if_pos hdig] at hdec
    simp only at hdec
    obtain ⟨hd0, hd1⟩ := hdig
    have HN : Hid (a * 16 + ((n : Int) - 48) = ((16 * acc + (n - 48) : Nat) : Int) ∧ 16 * acc + (n - 48) < 16 ^ (k + 1) ∧ hexN bs 0 = hexN (bs.drop (k + 1)) (16 * acc + (n - 48))) := Lib.hid ⟨by omega, HST.out _ (by omega), hdec⟩
    clear hacc hdec ha hp HST
    go_wp2
    exact ⟨⟨k + 1, 16 * acc + (n - 48), a * 16 + ((n : Int) - 48), rfl, (by first | rfl | (congr 1; omega)), (by first | rfl | (congr 1; omega)), by omega, HN⟩, by simp [intOf]; omega⟩
   ·rw [if_neg hdig] at hdec
    have hlo : ∀ v : Nat, n ||| 32 = v → bits .or .u8 (n : Int) 32 = (v : Int) := fun v e => by rw [low_val n hc256, e]
    by_cases hs : 97 ≤ n ∧ n ≤ 102 ∨ 65 ≤ n ∧ n ≤ 70
    ·obtain ⟨v, hv, hv1, hv2, hd⟩ : ∃ v : Nat, n ||| 32 = v ∧ 97 ≤ v ∧ v ≤ 102 ∧ hexN bs 0 = hexN (bs.drop (k + 1)) (16 * acc + (v - 87)) := by
      rcases hs with h1 | h1
      ·refine ⟨n, low_small n hc256 h1, h1.1, h1.2, ?_⟩
       rw [if_pos h1] at hdec
       exact hdec
      ·refine ⟨n + 32, low_great n hc256 h1, by omega, by omega, ?_⟩
       rw [if_neg (by omega), if_pos h1] at hdec
       simp only at hdec
       rw [hdec, show n - 55 = n + 32 - 87 by omega]
     have HV := Lib.hid (hlo v hv)
     have hno : ¬ ((48 : Int) ≤ (n : Int) ∧ (n : Int) ≤ 57) := by omega
     have hno' : (48 : Int) ≤ (n : Int) := by omega
     have hno2 : ¬ (n : Int) ≤ 57 := by omega
     have hne95 : ((n : Int) == 95) = false := by simp; omega
     have HN : Hid (a * 16 + ((v : Int) - 97 + 10) = ((16 * acc + (v - 87) : Nat) : Int) ∧ 16 * acc + (v - 87) < 16 ^ (k + 1) ∧ hexN bs 0 = hexN (bs.drop (k + 1)) (16 * acc + (v - 87))) := Lib.hid ⟨by omega, HST.out _ (by omega), hd⟩
     clear hacc hdec ha hp HST hd hv hlo hs hdig hno
     go_wp2_with (go_at_call 214; refine (lower_is n v HV.out _).mono ?_; rintro e w' ⟨rfl, rfl⟩)
     exact ⟨⟨k + 1, 16 * acc + (v - 87), a * 16 + ((v : Int) - 97 + 10), rfl, (by first | rfl | (congr 1; omega)), (by first | rfl | (congr 1; omega)), by omega, HN⟩, by simp [intOf]; omega⟩
    ·rw [if_neg (by omega), if_neg (by omega)] at hdec
     simp only at hdec
     have hlow := low_other n hc256 (by omega) (by omega)
     have h255 := low_255 n hc256
     obtain ⟨v, hv⟩ : ∃ v : Nat, n ||| 32 = v := ⟨_, rfl⟩
     have HV := Lib.hid (hlo v hv)
     rw [hv] at hlow h255
     have HD := Lib.hid (parsV_none hdec)
     clear hacc hdec ha hp HST hv hlo hs
     by_cases h95 : n = 95
     ·subst h95
      go_wp2_with (go_at_call 214; refine (lower_95 _).mono ?_; rintro e w' ⟨rfl, rfl⟩)
      all_goals go_ret2
      all_goals exact ⟨by rw [HD.out]; rfl, rfl⟩
     ·have hne95 : ((n : Int) == 95) = false := by simp; omega
      by_cases hv1 : v < 97
      ·go_wp2_with (go_at_call 214; refine (lower_is n v HV.out _).mono ?_; rintro e w' ⟨rfl, rfl⟩)
       all_goals go_ret2
       all_goals exact ⟨by rw [HD.out]; rfl, rfl⟩
      ·have hv2 : 102 < v := by omega
       go_wp2_with (go_at_call 214; refine (lower_is n v HV.out _).mono ?_; rintro e w' ⟨rfl, rfl⟩)
       all_goals go_ret2
       all_goals exact ⟨by rw [HD.out]; rfl, rfl⟩
  ·have hkk : k = t.size := by omega
   subst hkk
   have hF : hexN (bs.drop t.size) acc = some acc := by rw [List.drop_eq_nil_of_le (by omega)]; rfl
   rw [hF] at hdec
   have HD := Lib.hid (parsV_some hdec)
   subst ha
   clear hacc hF a0 hdec
   go_wp2
   go_ret2
   exact ⟨by rw [HD.out]; rfl, rfl⟩
end Go.Proofs.YthaibekbefndlaaGreatDoor.C

namespace Go.Proofs.YthaibekbefndlaaGreatDoor.C
open Go.RowKit

def Gl (w : World) : Prop :=
 (∃ ev, w.cell? ⟨5, 0, none⟩ = some ev ∧ (ev = .nilIface ∨ ∃ te pe, ev = .iface te pe)) ∧ w.cell? ⟨10, 15, none⟩ = some (.int .u8 4) ∧
 ∃ t f, w.heap[(0 : Nat)]? = some (.cells #[.string ⟨#[59]⟩, .string ⟨#[44]⟩, .string ⟨#[40]⟩, .string ⟨#[41]⟩, .string ⟨#[46, 46, 46]⟩] t f)
def glN : Nat := Nat.max (Nat.max (5 + 1) (10 + 1)) (0 + 1)
theorem Gl.keep {w w' : World} (h : Gl w) (hk : ∀ b, b < glN → w'.heap[b]? = w.heap[b]?) : Gl w' := by
 obtain ⟨⟨ev, h1, h2⟩, h3, t, f, h4⟩ := h
 have kc : ∀ p : Addr, p.block < glN → w'.cell? p = w.cell? p := fun p hp => World.cell?_of_block (hk _ hp)
 exact ⟨⟨ev, (kc _ (by decide)).trans h1, h2⟩, (kc _ (by decide)).trans h3, t, f, (hk _ (by decide)).trans h4⟩
theorem Gl.on {w w' : World} {B : Nat} (h : Gl w) (hb : Below B w w') (hB : glN ≤ B) : Gl w' := h.keep fun b hlt => hb.block b (by omega)
theorem Gl.top {w : World} (h : Gl w) : glN ≤ w.heap.size := by
 obtain ⟨⟨ev, h1, _⟩, h3, t, f, h4⟩ := h
 have a := World.block_lt_of_cell? w _ h1
 have b := World.block_lt_of_cell? w _ h3
 have c := (Array.getElem?_eq_some_iff.1 h4).1
 unfold glN
 simp only at a b
 exact Nat.max_le.2 ⟨Nat.max_le.2 ⟨a, b⟩, c⟩
theorem Gl.next {w w' : World} (h : Gl w) (hb : Below w.heap.size w w') : Gl w' := h.on hb h.top

def ParsTold (w : World) (v : Value) (e : Ending) (w' : World) : Prop := e = .returned v ∧ Below w.heap.size w w'

set_option maxHeartbeats 2000000 in
theorem parsUint_yes (l : List UInt8) (n : Nat) (h : hexN l 0 = some n) (hne : l.length ≠ 0) (hm : l.length ≤ 6) (w : World) :
  Calls Tryz.prog 166 #[.string (str l), .int .i64 16, .int .i64 32] w (ParsTold w (.tuple #[.int .u64 n, .nilIface])) := by
 have hp := parse_any (str l) (by rw [str_size]; exact hne) (by rw [str_size]; exact hm) w
 rw [str_list, parsV_some h] at hp
 have hb := bytes_below w 5 (str l)
 obtain ⟨W1, hW⟩ : ∃ W1, Lib.bytesWorld w 5 (str l) = W1 := ⟨_, rfl⟩
 rw [hW] at hp hb
 have HB := Lib.hid hb
 clear hb hW h
 go_enter Tryz.func166, Tryz.ntmps166
 go_wp2_with (go_at_call 196; refine hp.mono ?_; rintro e w' ⟨rfl, rfl⟩)
 go_ret2
 exact ⟨rfl, HB.out⟩

set_option maxHeartbeats 2000000 in
theorem parsUint_no (l : List UInt8) (h : hexN l 0 = none) (hne : l.length ≠ 0) (hm : l.length ≤ 6) (w : World) (hG : Gl w) :
  Calls Tryz.prog 166 #[.string (str l), .int .i64 16, .int .i64 32] w fun e w' => ∃ N, ParsTold w (.tuple #[.int .u64 0, .iface 228 (.pointer (some ⟨N, 0, none⟩))]) e w' := by
 have hp := parse_any (str l) (by rw [str_size]; exact hne) (by rw [str_size]; exact hm) w
 rw [str_list, parsV_none h] at hp
 have hb := bytes_below w 5 (str l)
 have hs := str_size l
 obtain ⟨W1, hW⟩ : ∃ W1, Lib.bytesWorld w 5 (str l) = W1 := ⟨_, rfl⟩
 rw [hW] at hp hb
 obtain ⟨⟨ev, h1, h2⟩, _⟩ := hG.next hb
 have ht := Tryz.strconv_toError_syntax ⟨#[80, 97, 114, 115, 101, 85, 105, 110, 116]⟩ (str l) 16 32 ev W1 (by omega) h1 h2
 have HB := Lib.hid hb
 clear hb hW h h1 h2 hs hG
 go_enter Tryz.func166, Tryz.ntmps166
 go_wp2_with (first | (go_at_call 196; refine hp.mono ?_; rintro e w' ⟨rfl, rfl⟩) | (go_at_call 197; refine ht.mono ?_; rintro e w2 ⟨N, rfl, hN, hN2, hb2⟩))
 go_ret2
 exact ⟨N, rfl, HB.out.trans (hb2.mono (HB.out.size))⟩

theorem name_no {l : List UInt8} (h : l.head? ≠ some 60) : nameL l = [] := by
 cases l with
 | nil => rfl
 | cons c r =>
  rw [nameL_cons, if_neg]
  intro hc
  exact h (by rw [hc.1]; rfl)

set_option maxHeartbeats 2000000 in
theorem nameAt_any (l : List UInt8) (hl : l.length ≤ 1099511627776) (w : World) : Calls Tryz.prog 116 #[.string (str l)] w fun e w' => e = .returned (.string (str (nameL l))) ∧ w' = w := by
 by_cases h0 : l.head? = some 60
 ·obtain ⟨r, rfl⟩ : ∃ r, l = 60 :: r := by
   cases l with
   | nil => cases h0
   | cons c r => simp at h0; subst h0; exact ⟨r, rfl⟩
  have h1 := cutPrefix_yes 60 r w
  have h2 := wordAt_str r w (by unfold maxLen; simp at hl; omega)
  have hwl := wordL_len r
  have e1 : (str r).extract (str (wordL r)).size (str r).size = str (r.drop (wordL r).length) := by rw [extract_str, str_list, str_size, str_size, List.take_length]
  have s1 : (str (wordL r)).size ≤ (str r).size := by rw [str_size, str_size]; exact hwl
  have s2 : (str r).size ≤ 1099511627776 := by rw [str_size]; simp at hl; omega
  by_cases h3 : (r.drop (wordL r).length).head? = some 62
  ·have h4 := hasPrefix_yes (r.drop (wordL r).length) ⟨#[62]⟩ w (by rw [show (ByteArray.mk #[62]).data.toList = [62] from rfl, hasPrefix_one]; simpa using h3)
   rw [← e1] at h4
   rw [nameL_cons, if_pos ⟨rfl, h3⟩]
   clear e1 h3 h0 hwl hl
   generalize str r = S at *
   generalize str (wordL r) = N at *
   generalize str (60 :: r) = X at *
   go_enter Tryz.func116, Tryz.ntmps116
   go_wp2_with (first
    | (go_at_call 118; refine h1.mono ?_; rintro e w' ⟨rfl, rfl⟩)
    | (go_at_call 120; refine h2.mono ?_; rintro e w' ⟨rfl, rfl⟩)
    | (go_at_call 114; refine h4.mono ?_; rintro e w' ⟨rfl, rfl⟩))
   go_ret
   exact ⟨rfl, rfl⟩
  ·have h4 := hasPrefix_no (r.drop (wordL r).length) ⟨#[62]⟩ w (by rw [show (ByteArray.mk #[62]).data.toList = [62] from rfl, hasPrefix_one]; simpa using h3)
   rw [← e1] at h4
   rw [nameL_cons, if_neg (fun h => h3 h.2)]
   clear e1 h3 h0 hwl hl
   generalize str r = S at *
   generalize str (wordL r) = N at *
   generalize str (60 :: r) = X at *
   go_enter Tryz.func116, Tryz.ntmps116
   go_wp2_with (first
    | (go_at_call 118; refine h1.mono ?_; rintro e w' ⟨rfl, rfl⟩)
    | (go_at_call 120; refine h2.mono ?_; rintro e w' ⟨rfl, rfl⟩)
    | (go_at_call 114; refine h4.mono ?_; rintro e w' ⟨rfl, rfl⟩))
   go_ret
   exact ⟨rfl, rfl⟩
 ·have h1 := cutPrefix_no l 60 h0 w
  have h2 := wordAt_str l w (by unfold maxLen; omega)
  rw [name_no h0]
  clear h0
  go_enter Tryz.func116, Tryz.ntmps116
  go_wp2_with (first
   | (go_at_call 118; refine h1.mono ?_; rintro e w' ⟨rfl, rfl⟩)
   | (go_at_call 120; refine h2.mono ?_; rintro e w' ⟨rfl, rfl⟩))
  go_ret
  exact ⟨rfl, rfl⟩

def NumTold (w : World) (n : Int) (is : Bool) (e : Ending) (w' : World) : Prop := e = .returned (.tuple #[.int .i64 n, .bool is]) ∧ Below w.heap.size w w'
theorem below_drewN0 {B : Nat} {a w : World} (h : Below B a w) (n : Nat) : Below B a (w.drewN n) := ⟨h.os, h.tape, h.output, h.size, h.block⟩
theorem hexN_lt : ∀ {l : List UInt8} {n m : Nat}, hexN l n = some m → m < (n + 1) * 16 ^ l.length
 | [], n, m, h => by simp [hexN] at h; simp; omega
 | b :: r, n, m, h => by
  rw [hexN_cons] at h
  cases hd : digV b with
  | none => rw [hd] at h; cases h
  | some d =>
   rw [hd] at h
   have h16 : d < 16 := by
    unfold digV at hd
    split at hd
    ·injection hd with hd; omega
    ·split at hd
     ·injection hd with hd; omega
     ·split at hd
      ·injection hd with hd; omega
      ·cases hd
   have := hexN_lt h
   rw [List.length_cons, Nat.pow_succ]
   refine Nat.lt_of_lt_of_le this ?_
   calc (16 * n + d + 1) * 16 ^ r.length ≤ ((n + 1) * 16) * 16 ^ r.length := Nat.mul_le_mul_right _ (by omega)
    _ = (n + 1) * (16 ^ r.length * 16) := by rw [Nat.mul_assoc, Nat.mul_comm 16]
set_option maxHeartbeats 2000000 in
theorem numberOf_yes (l : List UInt8) (n : Nat) (h : numL l = some n) (w : World) : Calls Tryz.prog 117 #[.string (str l)] w (NumTold w n true) := by
 cases l with
 | nil => cases h
 | cons c d =>
  rw [numL_cons] at h
  by_cases hc : c = 85 ∧ 4 ≤ d.length ∧ d.length ≤ 6
  ·rw [if_pos hc] at h
   obtain ⟨rfl, h4, h6⟩ := hc
   have hn : n < 16777216 := by
    have := hexN_lt h
    have := pow_16 h6
    omega
   have h1 := cutPrefix_yes 85 d w
   have h2 := parsUint_yes d n h (by omega) h6 w
   have s1 := str_size d
   have s4 : 4 ≤ (str d).size := by omega
   have s6 : (str d).size ≤ 6 := by omega
   clear s1 h h4 h6
   generalize str d = S at *
   generalize str (85 :: d) = X at *
   obtain ⟨m, hm⟩ : ∃ m : Int, m = (n : Int) := ⟨_, rfl⟩
   rw [← hm] at h2 ⊢
   have m0 : 0 ≤ m := by omega
   have m1 : m < 16777216 := by omega
   clear hm hn
   go_enter Tryz.func117, Tryz.ntmps117
   go_wp2_with (first
    | (go_at_call 118; refine h1.mono ?_; rintro e w' ⟨rfl, rfl⟩)
    | (go_at_call 166; refine h2.mono ?_; rintro e w1 ⟨rfl, hb⟩))
   go_quiet (fail)
   go_wp2
   go_ret2
   exact ⟨rfl, below_drewN0 hb _⟩
  ·rw [if_neg hc] at h
   cases h
set_option maxHeartbeats 2000000 in
theorem numberOf_no (l : List UInt8) (h : numL l = none) (w : World) (hG : Gl w) (hl : l.length ≤ 1099511627776) : Calls Tryz.prog 117 #[.string (str l)] w (NumTold w 0 false) := by
 by_cases h0 : l.head? = some 85
 ·obtain ⟨d, rfl⟩ : ∃ r, l = 85 :: r := by
   cases l with
   | nil => cases h0
   | cons c r => simp at h0; subst h0; exact ⟨r, rfl⟩
  have h1 := cutPrefix_yes 85 d w
  have s1 := str_size d
  rw [List.length_cons] at hl
  rw [numL_cons] at h
  by_cases h4 : 4 ≤ d.length
  ·by_cases h6 : d.length ≤ 6
   ·rw [if_pos ⟨rfl, h4, h6⟩] at h
    have h2 := parsUint_no d h (by omega) h6 w hG
    have s4 : 4 ≤ (str d).size := by omega
    have s6 : (str d).size ≤ 6 := by omega
    clear s1 h h4 h6 hG hl h0
    generalize str d = S at *
    generalize str (85 :: d) = X at *
    go_enter Tryz.func117, Tryz.ntmps117
    go_wp2_with (first
     | (go_at_call 118; refine h1.mono ?_; rintro e w' ⟨rfl, rfl⟩)
     | (go_at_call 166; refine h2.mono ?_; rintro e w1 ⟨N, rfl, hb⟩))
    go_quiet (fail)
    go_wp2
    go_ret2
    exact ⟨rfl, below_drewN0 hb _⟩
   ·have s6 : ¬ (str d).size ≤ 6 := by omega
    have s4 : 4 ≤ (str d).size := by omega
    have s7 : (str d).size ≤ 1099511627776 := by omega
    clear s1 h h4 h6 hG hl h0
    generalize str d = S at *
    generalize str (85 :: d) = X at *
    go_enter Tryz.func117, Tryz.ntmps117
    go_wp2_with (go_at_call 118; refine h1.mono ?_; rintro e w' ⟨rfl, rfl⟩)
    go_ret2
    exact ⟨rfl, Below.refl _ _⟩
  ·have s4 : (str d).size < 4 := by omega
   clear s1 h h4 hG hl h0
   generalize str d = S at *
   generalize str (85 :: d) = X at *
   go_enter Tryz.func117, Tryz.ntmps117
   go_wp2_with (go_at_call 118; refine h1.mono ?_; rintro e w' ⟨rfl, rfl⟩)
   go_ret2
   exact ⟨rfl, Below.refl _ _⟩
 ·have h1 := cutPrefix_no l 85 h0 w
  clear h hG h0
  go_enter Tryz.func117, Tryz.ntmps117
  go_wp2_with (go_at_call 118; refine h1.mono ?_; rintro e w' ⟨rfl, rfl⟩)
  go_ret2
  exact ⟨rfl, Below.refl _ _⟩
end Go.Proofs.YthaibekbefndlaaGreatDoor.C

namespace Go.Proofs.YthaibekbefndlaaGreatDoor.C
open Go.RowKit

def Gm (w : World) : Prop := Gl w ∧ Lib.Utf8Tabs 3 4 w
end Go.Proofs.YthaibekbefndlaaGreatDoor.C

namespace Go.Proofs.YthaibekbefndlaaGreatDoor.C

def nums : List Nat := [0, 1, 2, 3, 4, 5, 6, 7, 8, 9, 10, 11, 12, 13, 14, 15, 16, 17, 18, 19, 20, 21, 22, 23, 24, 25, 26, 27, 28, 29, 30, 31, 32, 33, 34, 35, 36, 37, 38, 39, 40, 41, 42, 43, 44, 45, 46, 47]
def nextF (l : Array Bool) : List Nat := nums.drop (l.toList.findIdx (!·))
end Go.Proofs.YthaibekbefndlaaGreatDoor.C

namespace Go.Proofs.YthaibekbefndlaaGreatDoor.C
open Go.RowKit

theorem wpAnyH_one {P : Program} {ops : Array Oper} {Q : Exit → Act → World → Prop} {md : Region.Mode} {S : World → Prop} {i : Nat} {o : Oper} {fuel : Nat} {listed : Array Bool} {a : Act} {w : World} (hr : Region.ready md ops listed = [i]) (ho : ops[i]? = some o)
  (h : ∀ K : Act → World → Prop, Hid (∀ a' w', S w' → (S w' → wpAnyH P md ops Q S fuel (listed.setIfInBounds i true) a' w') → K a' w') →
   if Region.wanted o (yielded ops a.tmps) = true then Oper.wp P o a w K Q else K (a.put o.dst undef) w) : wpAnyH P md ops Q S (fuel + 1) listed a w := by
 refine ⟨fun h0 => (by rw [hr] at h0; cases h0), fun j hj => ?_⟩
 rw [hr, List.mem_singleton] at hj
 subst hj
 have h1 := h (fun a' w' => S w' ∧ wpAnyH P md ops Q S fuel (listed.setIfInBounds j true) a' w') (Lib.hid fun a' w' hs hh => ⟨hs, hh hs⟩)
 unfold wpOp
 simp only [ho]
 split
 ·rename_i hw
  rw [if_pos hw] at h1
  exact .inl h1
 ·rename_i hw
  rw [if_neg hw] at h1
  exact h1
end Go.Proofs.YthaibekbefndlaaGreatDoor.C

namespace Go.Proofs.YthaibekbefndlaaGreatDoor.C
open Go.RowKit

theorem take_ba {S : ByteArray} {i : Nat} (h : i < S.size) : S.data.toList.take (i + 1) = S.data.toList.take i ++ [S[i]'h] := by
 have hb : S.data.toList[i]? = some (S[i]'h) := by
  rw [Array.getElem?_toList]
  exact Array.getElem?_eq_getElem h
 exact take_snoc hb
theorem extract_one {S : ByteArray} {i : Nat} (h : i < S.size) : S.extract i (i + 1) = str [S[i]'h] := by
 have hl : (S.data.toList.take i).length = i := by rw [List.length_take, size_list]; omega
 rw [extract_str, take_ba h, List.drop_append_of_le_length (by omega), List.drop_eq_nil_of_le (by omega)]
 rfl
theorem ba_eq {b : UInt8} {n : Nat} (h : b.toNat = n) : b = UInt8.ofNat n := by
 rw [← h]
 simp
theorem slice_ij (S : ByteArray) (i j : Int) (h0 : 0 ≤ i) (h1 : i ≤ j) (h2 : j ≤ S.size) (a b : Nat) (ha : i.toNat = a) (hb : j.toNat = b) (W : World) :
  (Instr.slice 9 (.string S) (some (.int .i64 i)) (some (.int .i64 j)) none).run Tryz.prog W = .ok (.string (S.extract a b)) W := by
 rw [← ha, ← hb]
 exact run_slice_string W 9 S .i64 .i64 i j (by kernel_rfl) h0 h1 h2
end Go.Proofs.YthaibekbefndlaaGreatDoor.C
