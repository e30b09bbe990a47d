/-
  Contracts of the library's functions on texts, in words of lists of bytes: what begins a text, what stands ahead of a byte; of what is a word's. No condition but what each names.
-/
import Derived.Test.YtnifcgiajjmogaaGreatDoorChecked
import Derived.Test.YtnifcgiajjmogaaGreatDoorShelf
import Derived.Test.YtnifcgiajjmogaaGreatDoorLxP
import Derived.WalkKit
import Derived.ProofKit
import Derived.Lib.Hide
import Derived.Deep.QuietTactic
import Derived.BigQuiet
import Derived.RegionTactic
import Derived.Below
import Derived.Lib.Walk
namespace Go.Proofs.YtnifcgiajjmogaaGreatDoor.C
open Go.RowKit

/-- a text out of bytes -/
def str (l : List UInt8) : ByteArray := ⟨l.toArray⟩
@[simp] theorem str_list (l : List UInt8) : (str l).data.toList = l := rfl
theorem str_size (l : List UInt8) : (str l).size = l.length := by show l.toArray.size = _; simp
theorem str_of (s : ByteArray) : str s.data.toList = s := by cases s; rfl
theorem size_list (s : ByteArray) : s.data.toList.length = s.size := Array.length_toList

theorem hasPrefix_one (l : List UInt8) (c : UInt8) : Lib.hasPrefix l [c] = decide (l.head? = some c) := by
  cases l with
  | nil => simp [Lib.hasPrefix]
  | cons a r =>
    show ((c == a) && true) = decide (some a = some c)
    by_cases h : c = a
    · subst h
      simp
    · have h' : ¬ a = c := fun e => h e.symm
      simp [h, h']

theorem hasPrefix_yes (l : List UInt8) (p : ByteArray) (w : World) (h : Lib.hasPrefix l p.data.toList = true) :
    Calls Tryz.prog 38 #[.string (str l), .string p] w fun e w' => e = .returned (.bool true) ∧ w' = w := by
  have := Tryz.strings_HasPrefix (str l) p w
  rwa [str_list, h] at this
theorem hasPrefix_no (l : List UInt8) (p : ByteArray) (w : World) (h : Lib.hasPrefix l p.data.toList = false) :
    Calls Tryz.prog 38 #[.string (str l), .string p] w fun e w' => e = .returned (.bool false) ∧ w' = w := by
  have := Tryz.strings_HasPrefix (str l) p w
  rwa [str_list, h] at this

theorem cutPrefix_yes (c : UInt8) (r : List UInt8) (w : World) :
    Calls Tryz.prog 43 #[.string (str (c :: r)), .string ⟨#[c]⟩] w fun e w' => e = .returned (.tuple #[.string (str r), .bool true]) ∧ w' = w := by
  have := Tryz.strings_CutPrefix (str (c :: r)) ⟨#[c]⟩ w
  have h1 : Lib.hasPrefix (c :: r) [c] = true := by simp [hasPrefix_one]
  have h2 : Lib.trimPrefix (c :: r) [c] = r := by simp [Lib.trimPrefix, h1]
  rw [str_list, show (ByteArray.mk #[c]).data.toList = [c] from rfl, h1, h2] at this
  exact this
theorem cutPrefix_no (l : List UInt8) (c : UInt8) (h : l.head? ≠ some c) (w : World) :
    Calls Tryz.prog 43 #[.string (str l), .string ⟨#[c]⟩] w fun e w' => e = .returned (.tuple #[.string (str l), .bool false]) ∧ w' = w := by
  have := Tryz.strings_CutPrefix (str l) ⟨#[c]⟩ w
  have h1 : Lib.hasPrefix l [c] = false := by rw [hasPrefix_one]; simpa using h
  have h2 : Lib.trimPrefix l [c] = l := by simp [Lib.trimPrefix, h1]
  rw [str_list, show (ByteArray.mk #[c]).data.toList = [c] from rfl, h1, h2] at this
  exact this

theorem builder_write (B b : Nat) (bs : List Value) (s : ByteArray) (w : World) (h : Lib.IsBuilder 46 5 B b bs w) (hlen : bs.length + s.size ≤ 140737488355328) (hBw : B ≤ w.heap.size) :
    Calls Tryz.prog 16 #[.pointer (some ⟨b, 0, none⟩), .string s] w fun e w' => e = .returned (.tuple #[.int .i64 s.size, .nilIface]) ∧ (Lib.BuilderAt 46 5 B b (.pointer (some ⟨b, 0, none⟩)) (bs ++ Lib.strCells s) w' ∧ Below B w w') :=
  Any.Builder_WriteString { Tryz.lays158 with } Tryz.Builder_Extra_158 B b bs s w h hlen hBw

set_option maxHeartbeats 1000000 in
theorem isOfWord_any (b : UInt8) (w : World) : Calls Tryz.prog 57 #[.int .u8 b.toNat] w fun e w' => e = .returned (.bool (isW b)) ∧ w' = w := by
  have hlt : b.toNat < 256 := b.toNat_lt
  obtain ⟨n, hn⟩ : ∃ n, b.toNat = n := ⟨_, rfl⟩
  have key : isW b = decide (97 ≤ n ∧ n ≤ 122 ∨ 65 ≤ n ∧ n ≤ 90 ∨ 48 ≤ n ∧ n ≤ 57 ∨ n = 45 ∨ n = 95) := by unfold isW; rw [hn]
  rw [key, hn]
  clear key hn
  have fin : ∀ (x : Bool) (e : Ending), (x = decide (97 ≤ n ∧ n ≤ 122 ∨ 65 ≤ n ∧ n ≤ 90 ∨ 48 ≤ n ∧ n ≤ 57 ∨ n = 45 ∨ n = 95)) → e = .returned (.bool x) → e = .returned (.bool (decide (97 ≤ n ∧ n ≤ 122 ∨ 65 ≤ n ∧ n ≤ 90 ∨ 48 ≤ n ∧ n ≤ 57 ∨ n = 45 ∨ n = 95))) := fun x e h h2 => by rw [h2, h]
  go_enter Tryz.func57, Tryz.ntmps57
  go_wp2
  all_goals go_ret
  all_goals refine ⟨fin _ _ ?_ rfl, rfl⟩
  all_goals first | (rw [eq_comm, decide_eq_true_iff]; omega) | (rw [eq_comm, decide_eq_false_iff_not]; omega) | (rw [Bool.eq_iff_iff]; simp; omega)
theorem isOfWord_yes (b : UInt8) (w : World) (h : isW b = true) : Calls Tryz.prog 57 #[.int .u8 b.toNat] w fun e w' => e = .returned (.bool true) ∧ w' = w := by
  have := isOfWord_any b w
  rwa [h] at this
theorem isOfWord_no (b : UInt8) (w : World) (h : isW b = false) : Calls Tryz.prog 57 #[.int .u8 b.toNat] w fun e w' => e = .returned (.bool false) ∧ w' = w := by
  have := isOfWord_any b w
  rwa [h] at this

theorem word_drop {l : List UInt8} {k : Nat} {b : UInt8} (h : l[k]? = some b) : wordL (l.drop k) = if isW b then b :: wordL (l.drop (k + 1)) else [] := by
  have hk : k < l.length := (List.getElem?_eq_some_iff.1 h).1
  have e : l.drop k = b :: l.drop (k + 1) := by
    rw [List.drop_eq_getElem_cons hk]
    congr 1
    exact (List.getElem?_eq_some_iff.1 h).2
  rw [e]
  unfold wordL
  rw [List.takeWhile_cons]
theorem word_step {l : List UInt8} {k : Nat} {b : UInt8} (h : l[k]? = some b) (hw : isW b = true) (hk : wordL l = l.take k ++ wordL (l.drop k)) : wordL l = l.take (k + 1) ++ wordL (l.drop (k + 1)) := by
  rw [word_drop h, if_pos hw] at hk
  rw [hk, List.take_add_one, h]
  simp
theorem word_end {l : List UInt8} {k : Nat} {b : UInt8} (h : l[k]? = some b) (hw : isW b = false) (hk : wordL l = l.take k ++ wordL (l.drop k)) : wordL l = l.take k := by
  rw [word_drop h, if_neg (by rw [hw]; decide)] at hk
  simpa using hk
theorem extract_list (s : ByteArray) (i j : Nat) : (s.extract i j).data.toList = (s.data.toList.take j).drop i := by
  simp [ByteArray.data_extract, List.drop_take]
theorem extract_str (s : ByteArray) (i j : Nat) : s.extract i j = str ((s.data.toList.take j).drop i) := by
  rw [← extract_list, str_of]

set_option maxHeartbeats 1000000 in
theorem wordAt_any (s : ByteArray) (w : World) (hs : s.size ≤ maxLen) : Calls Tryz.prog 45 #[.string s] w fun e w' => e = .returned (.string (str (wordL s.data.toList))) ∧ w' = w := by
  unfold maxLen at hs
  go_enter Tryz.func45, Tryz.ntmps45
  go_wp2
  go_loop [3] (fun i => ∃ k : Nat, k ≤ s.size ∧ i = .int .i64 k ∧ Hid (wordL s.data.toList = s.data.toList.take k ++ wordL (s.data.toList.drop k))) (fun i => s.size - (intOf i).toNat)
  case atStart => exact ⟨0, Nat.zero_le _, rfl, Lib.hid (by simp)⟩
  case round =>
    obtain ⟨k, hk, rfl, HK⟩ := hrel
    have fin : wordL s.data.toList = s.data.toList.take k → s.extract 0 k = str (wordL s.data.toList) := fun h => by rw [extract_str, h, List.drop_zero]
    have FIN := Lib.hid fin
    clear fin
    by_cases hlt : k < s.size
    · have hb : s.data.toList[k]? = some (s[k]'hlt) := by
        rw [Array.getElem?_toList]
        exact Array.getElem?_eq_getElem hlt
      have HB := Lib.hid hb
      clear hb
      by_cases hw : isW (s[k]'hlt) = true
      · have HW := Lib.hid hw
        go_wp2_with (go_at_call 57; refine (isOfWord_yes _ _ HW.out).mono ?_; rintro e w' ⟨rfl, rfl⟩)
        go_round
        case rel => exact ⟨k + 1, by omega, by go_num, Lib.hid (word_step HB.out HW.out HK.out)⟩
        case measure => simp [intOf]; omega
      · have hw' : isW (s[k]'hlt) = false := by simpa using hw
        have HW := Lib.hid hw'
        clear hw hw'
        go_wp2_with (go_at_call 57; refine (isOfWord_no _ _ HW.out).mono ?_; rintro e w' ⟨rfl, rfl⟩)
        go_ret
        exact ⟨by rw [FIN.out (word_end HB.out HW.out HK.out)]; rfl, rfl⟩
    · obtain rfl : k = s.size := by omega
      go_wp2
      go_ret
      refine ⟨?_, rfl⟩
      have h := HK.out
      rw [← size_list, List.drop_length, List.take_length] at h
      have h2 : wordL s.data.toList = s.data.toList := by simpa [wordL] using h
      show Ending.returned (Value.string s) = _
      rw [h2, str_of]
theorem wordAt_str (l : List UInt8) (w : World) (hs : l.length ≤ maxLen) : Calls Tryz.prog 45 #[.string (str l)] w fun e w' => e = .returned (.string (str (wordL l))) ∧ w' = w := wordAt_any (str l) w (by rw [str_size]; exact hs)

theorem index_miss {l : List UInt8} {c : UInt8} (h : c ∉ l) : Lib.indexByte l c = -1 := by
  induction l with
  | nil => rfl
  | cons b r ih =>
    have h1 : b ≠ c := fun e => h (by simp [e])
    have h2 := ih (fun e => h (by simp [e]))
    simp [Lib.indexByte, h1, h2]
theorem index_hit {c : UInt8} : ∀ {a : List UInt8} (_ : c ∉ a) (b : List UInt8), Lib.indexByte (a ++ c :: b) c = a.length
  | [], _, b => by simp [Lib.indexByte]
  | x :: a, h, b => by
    have h1 : x ≠ c := fun e => h (by simp [e])
    have h2 := index_hit (a := a) (fun e => h (List.mem_cons_of_mem _ e)) b
    have h3 : ¬ ((a.length : Int) = -1) := by omega
    simp [Lib.indexByte, h1, h2, h3]
theorem ahead_miss {l : List UInt8} {c : UInt8} (h : ¬ (l.takeWhile (· ≠ c)).length < l.length) : c ∉ l ∧ l.takeWhile (· ≠ c) = l := by
  have hp := List.takeWhile_prefix (l := l) (fun x : UInt8 => decide (x ≠ c))
  have e : l.takeWhile (· ≠ c) = l := hp.eq_of_length (by have := hp.length_le; omega)
  refine ⟨fun hc => ?_, e⟩
  rw [← e] at hc
  have := List.all_takeWhile (l := l) (p := fun x : UInt8 => decide (x ≠ c))
  rw [List.all_eq_true] at this
  have := this c hc
  simp at this
theorem ahead_hit {l : List UInt8} {c : UInt8} (h : (l.takeWhile (· ≠ c)).length < l.length) : c ∉ l.takeWhile (· ≠ c) ∧ ∃ b, l = l.takeWhile (· ≠ c) ++ c :: b := by
  refine ⟨fun hc => ?_, ?_⟩
  · have := List.all_takeWhile (l := l) (p := fun x : UInt8 => decide (x ≠ c))
    rw [List.all_eq_true] at this
    have := this c hc
    simp at this
  · have e := List.takeWhile_append_dropWhile (p := fun x : UInt8 => decide (x ≠ c)) (l := l)
    cases hd : l.dropWhile (fun x : UInt8 => decide (x ≠ c)) with
    | nil =>
      rw [hd, List.append_nil] at e
      exact absurd (congrArg List.length e) (by omega)
    | cons x b =>
      have hx : x = c := by
        have := List.head?_dropWhile_not (p := fun x : UInt8 => decide (x ≠ c)) (l := l)
        rw [hd] at this
        simpa using this
      subst hx
      rw [hd] at e
      exact ⟨b, e.symm⟩

def CutTold (w : World) (a b : List UInt8) (is : Bool) (e : Ending) (w' : World) : Prop := e = .returned (.tuple #[.string (str a), .string (str b), .bool is]) ∧ ∃ n, w' = w.drewN n
set_option maxHeartbeats 1000000 in
theorem cut_hit0 (a b : List UInt8) (c : UInt8) (hc : c ∉ a) (hl : (a ++ c :: b).length ≤ 1099511627776) (w : World) :
    Calls Tryz.prog 51 #[.string (str (a ++ c :: b)), .string ⟨#[c]⟩] w (CutTold w a b true) := by
  have hi := Tryz.stringslite_Index_one (str (a ++ c :: b)) c w
  rw [str_list, index_hit hc] at hi
  have hs := str_size (a ++ c :: b)
  rw [List.length_append, List.length_cons] at hs
  have e1 : (str (a ++ c :: b)).extract 0 a.length = str a := by rw [extract_str, str_list]; simp
  have e2 : (str (a ++ c :: b)).extract (a.length + 1) (str (a ++ c :: b)).size = str b := by
    rw [extract_str, str_list, str_size, List.take_length, ← List.drop_drop]; simp
  have hl' : a.length + (b.length + 1) ≤ 1099511627776 := by simpa using hl
  obtain ⟨S, hS⟩ : ∃ S, str (a ++ c :: b) = S := ⟨_, rfl⟩
  rw [hS] at hi hs e1 e2 ⊢
  have h1 : a.length ≤ S.size := by omega
  have h2 : a.length + 1 ≤ S.size := by omega
  clear hs hS
  obtain ⟨k, hk⟩ : ∃ k, a.length = k := ⟨_, rfl⟩
  rw [hk] at hi h1 h2 hl' e1 e2
  have E1 := Lib.hid e1
  have E2 := Lib.hid e2
  have hk2 : k < 4611686018427387904 := by omega
  clear hk e1 e2 hl
  go_enter Tryz.func51, Tryz.ntmps51
  go_wp2_with (go_at_call 65; refine hi.mono ?_; rintro e w' ⟨rfl, rfl⟩)
  go_quiet (fail)
  go_wp2
  refine bodyPost_ret (v := .tuple #[.string (str a), .string (str b), .bool true]) (by simp [results, Tryz.results51, E1.out, E2.out]) rfl ⟨rfl, _, rfl⟩
set_option maxHeartbeats 1000000 in
theorem cut_miss0 (l : List UInt8) (c : UInt8) (hc : c ∉ l) (w : World) :
    Calls Tryz.prog 51 #[.string (str l), .string ⟨#[c]⟩] w (CutTold w l [] false) := by
  have hi := Tryz.stringslite_Index_one (str l) c w
  rw [str_list, index_miss hc] at hi
  go_enter Tryz.func51, Tryz.ntmps51
  go_wp2_with (go_at_call 65; refine hi.mono ?_; rintro e w' ⟨rfl, rfl⟩)
  refine bodyPost_ret (v := .tuple #[.string (str l), .string (str []), .bool false]) (by simp [results, Tryz.results51, str]) rfl ⟨rfl, 0, rfl⟩
set_option maxHeartbeats 1000000 in
theorem cut_of {x : ByteArray} {c : UInt8} {w : World} {a b : List UInt8} {is : Bool} (h : Calls Tryz.prog 51 #[.string x, .string ⟨#[c]⟩] w (CutTold w a b is)) :
    Calls Tryz.prog 36 #[.string x, .string ⟨#[c]⟩] w (CutTold w a b is) := by
  go_enter Tryz.func36, Tryz.ntmps36
  go_wp2_with (go_at_call 51; refine h.mono ?_; rintro e w' ⟨rfl, n, rfl⟩)
  refine bodyPost_ret (v := .tuple #[.string (str a), .string (str b), .bool is]) (by simp [results, Tryz.results36]) rfl ⟨rfl, n, rfl⟩
/-- what stands ahead of a byte -/
theorem cut_yes (l : List UInt8) (c : UInt8) (h : (l.takeWhile (· ≠ c)).length < l.length) (hl : l.length ≤ 1099511627776) (w : World) :
    ∃ b, Calls Tryz.prog 36 #[.string (str l), .string ⟨#[c]⟩] w (CutTold w (l.takeWhile (· ≠ c)) b true) := by
  obtain ⟨h1, b, h2⟩ := ahead_hit h
  refine ⟨b, cut_of ?_⟩
  have := cut_hit0 (l.takeWhile (· ≠ c)) b c h1 (by rw [← h2]; exact hl) w
  rwa [← h2] at this
theorem cut_no (l : List UInt8) (c : UInt8) (h : ¬ (l.takeWhile (· ≠ c)).length < l.length) (w : World) :
    Calls Tryz.prog 36 #[.string (str l), .string ⟨#[c]⟩] w (CutTold w (l.takeWhile (· ≠ c)) [] false) := by
  obtain ⟨h1, h2⟩ := ahead_miss h
  rw [h2]
  exact cut_of (cut_miss0 l c h1 w)
theorem cut_any (l : List UInt8) (c : UInt8) (hl : l.length ≤ 1099511627776) (w : World) :
    ∃ b is, Calls Tryz.prog 36 #[.string (str l), .string ⟨#[c]⟩] w (CutTold w (l.takeWhile (· ≠ c)) b is) := by
  by_cases h : (l.takeWhile (· ≠ c)).length < l.length
  · obtain ⟨b, hb⟩ := cut_yes l c h hl w
    exact ⟨b, true, hb⟩
  · exact ⟨[], false, cut_no l c h w⟩
theorem contains_yes (l : List UInt8) (c : UInt8) (h : c ∈ l) (w : World) :
    Calls Tryz.prog 44 #[.string (str l), .string ⟨#[c]⟩] w fun e w' => e = .returned (.bool true) ∧ w' = w := by
  have := Tryz.strings_Contains_one (str l) c w
  obtain ⟨b, hb⟩ := (ahead_hit (l := l) (c := c) (by
    rcases Nat.lt_or_ge (l.takeWhile (· ≠ c)).length l.length with h1 | h1
    · exact h1
    · exact absurd h (ahead_miss (by omega)).1)).2
  have h2 := index_hit (c := c) (a := l.takeWhile (· ≠ c)) (ahead_hit (by
    rcases Nat.lt_or_ge (l.takeWhile (· ≠ c)).length l.length with h1 | h1
    · exact h1
    · exact absurd h (ahead_miss (by omega)).1)).1 b
  rw [← hb] at h2
  rw [str_list, h2] at this
  simpa using this
theorem contains_no (l : List UInt8) (c : UInt8) (h : c ∉ l) (w : World) :
    Calls Tryz.prog 44 #[.string (str l), .string ⟨#[c]⟩] w fun e w' => e = .returned (.bool false) ∧ w' = w := by
  have := Tryz.strings_Contains_one (str l) c w
  rw [str_list, index_miss h] at this
  simpa using this
end Go.Proofs.YtnifcgiajjmogaaGreatDoor.C
