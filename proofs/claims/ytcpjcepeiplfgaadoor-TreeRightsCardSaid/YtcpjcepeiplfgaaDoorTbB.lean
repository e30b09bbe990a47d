/-
  slices.IndexFunc and ContainsFunc at the closures of tree.all, over any contract of the closure. No condition but what each names.
-/
import Derived.Test.YtcpjcepeiplfgaaDoorTbA
import Derived.Test.YtcpjcepeiplfgaaDoorTaA
import Derived.Test.YtcpjcepeiplfgaaDoorTaX
namespace Go.Proofs.YtcpjcepeiplfgaaDoor.C
open Go.RowKit

/-- what a search by a closure answers: the first place at which it says yes, or -1 -/
def FoundAt (n : Nat) (q : Nat → Bool) (Inv : Nat → World → Prop) (Fin : Nat → World → Prop) (e : Ending) (w' : World) : Prop :=
  (∃ k, k < n ∧ q k = true ∧ (∀ j, j < k → q j = false) ∧ e = .returned (.int .i64 k) ∧ Fin k w') ∨ ((∀ j, j < n → q j = false) ∧ e = .returned (.int .i64 (-1)) ∧ Inv n w')
def HasIt (n : Nat) (q : Nat → Bool) (Inv : Nat → World → Prop) (Fin : Nat → World → Prop) (e : Ending) (w' : World) : Prop :=
  (∃ k, k < n ∧ q k = true ∧ (∀ j, j < k → q j = false) ∧ e = .returned (.bool true) ∧ Fin k w') ∨ ((∀ j, j < n → q j = false) ∧ e = .returned (.bool false) ∧ Inv n w')
/-- what a closure answers of the element at a place -/
def Asked (b : Bool) (Inv : World → Prop) (Fin : World → Prop) (e : Ending) (w' : World) : Prop := e = .returned (.bool b) ∧ (b = false → Inv w') ∧ (b = true → Fin w')
theorem asked_step {q : Nat → Bool} {k : Nat} (hq : ∀ j, j < k → q j = false) (h : q k = false) : ∀ j, j < k + 1 → q j = false := fun j hj => by
  rcases Nat.lt_or_ge j k with h1 | h1
  · exact hq j h1
  · obtain rfl : j = k := by omega
    exact h
section
variable {w : World} {P : Nat → Prop} {A : Option Addr} {n : Nat}
theorem RIp.at_ {ki : IntKind} {zs : List Int} (h : RIp ki w P A n zs) {k : Nat} (hk : k < n) : ∃ ad u, A = some ad ∧ P ad.block ∧ zs[k]? = some u ∧ w.cell? (ad.add k) = some (.int ki u) := by
  obtain ⟨ad, e, hb, hc⟩ := h.2 (by omega)
  have hl : k < zs.length := by have := h.1; omega
  exact ⟨ad, zs[k], e, hb, List.getElem?_eq_getElem hl, hc k _ (List.getElem?_eq_getElem hl)⟩
theorem SIp.at_ {sz : Nat} {xs : List (List Value)} (h : SIp sz w P A n xs) {k : Nat} (hk : k < n) : ∃ ad x, A = some ad ∧ P ad.block ∧ xs[k]? = some x ∧ x.length = sz ∧ ∀ i u, x[i]? = some u → w.cell? (ad.add (k * sz + i)) = some u := by
  obtain ⟨ad, e, hb, hc⟩ := h.2.2 (by omega)
  have hl : k < xs.length := by have := h.1; omega
  exact ⟨ad, xs[k], e, hb, List.getElem?_eq_getElem hl, h.2.1 _ (List.getElem_mem hl), hc k _ (List.getElem?_eq_getElem hl)⟩
theorem SIp.at1 {xs : List (List Value)} (h : SIp 1 w P A n xs) {k : Nat} (hk : k < n) : ∃ ad u, A = some ad ∧ P ad.block ∧ xs[k]? = some [u] ∧ w.cell? (ad.add k) = some u := by
  obtain ⟨ad, x, e, hb, hx, hl, hc⟩ := h.at_ hk
  match x, hl with
  | [u], _ =>
    have := hc 0 u rfl
    rw [Nat.mul_one, Nat.add_zero] at this
    exact ⟨ad, u, e, hb, hx, this⟩
theorem SIp.at2 {xs : List (List Value)} (h : SIp 2 w P A n xs) {k : Nat} (hk : k < n) : ∃ ad u v, A = some ad ∧ P ad.block ∧ xs[k]? = some [u, v] ∧ w.cell? (ad.add (k * 2)) = some u ∧ w.cell? ⟨(ad.add (k * 2)).block, (ad.add (k * 2)).off + 1, none⟩ = some v := by
  obtain ⟨ad, x, e, hb, hx, hl, hc⟩ := h.at_ hk
  match x, hl with
  | [u, v], _ => exact ⟨ad, u, v, e, hb, hx, hc 0 u rfl, by rw [add_more' _ _ _ (by omega)]; exact hc 1 v rfl⟩
end
/-- a variable of one cell -/
def One (w : World) (b : Nat) (t : TypeId) (v : Value) : Prop := Rw w b t #[v]
theorem One.cell {w : World} {b : Nat} {t : TypeId} {v : Value} (h : One w b t v) : w.cell? ⟨b, 0, none⟩ = some v := Rw.cell h (i := 0) rfl
set_option maxRecDepth 100000 in
set_option maxHeartbeats 4000000 in
theorem findInt_any (w : World) (P : Nat → Prop) (A : Option Addr) (n c : Nat) (zs : List Int) (V0 : Nat) (q : Nat → Bool) (Inv : Nat → World → Prop) (Fin : Nat → World → Prop) (hn : n ≤ maxLen) (h0 : Inv 0 w)
    (hk : ∀ k W, Inv k W → RIp .i64 W P A n zs)
    (hs : ∀ k z W, zs[k]? = some z → Inv k W → Calls Tryd.prog 59 #[.int .i64 z, .pointer (some ⟨V0, 0, none⟩)] W (Asked (q k) (Inv (k + 1)) (Fin k))) :
    Calls Tryd.prog 76 #[.slice A n c, .func (.func 59) #[] #[.pointer (some ⟨V0, 0, none⟩)]] w (FoundAt n q Inv Fin) := by
  unfold maxLen at hn
  have HK := Lib.hid hk
  have HS := Lib.hid hs
  have H0 := Lib.hid h0
  clear hk hs h0
  go_enter Tryd.func76, Tryd.ntmps76
  go_wp2
  go_loopw [8] (fun iv wr => ∃ k : Nat, k ≤ n ∧ iv = .int .i64 k ∧ Hid (Inv k wr) ∧ Hid (∀ j, j < k → q j = false)) (fun iv _ => n - (intOf iv).toNat)
  case atStart => exact ⟨0, Nat.zero_le _, rfl, H0, Lib.hid (fun j hj => absurd hj (by omega))⟩
  case round =>
    obtain ⟨k, hkn, rfl, HI, HQ⟩ := hrel
    by_cases hlt : k < n
    · obtain ⟨ad, z, rfl, hb, hx, c0⟩ := (HK.out k wr HI.out).at_ hlt
      have hc := HS.out k z wr hx HI.out
      clear hx
      cases hq : q k with
      | true =>
        rw [hq] at hc
        have HQK := Lib.hid hq
        clear hq
        go_wp2_with (go_at_call 59; refine hc.mono ?_; rintro e w2 ⟨rfl, -, hf⟩; have HF := Lib.hid (hf rfl); clear hf hc)
        go_ret
        exact .inl ⟨k, hlt, HQK.out, HQ.out, rfl, HF.out⟩
      | false =>
        rw [hq] at hc
        have HQK := Lib.hid hq
        clear hq
        go_wp2_with (go_at_call 59; refine hc.mono ?_; rintro e w2 ⟨rfl, hf, -⟩; have HF := Lib.hid (hf rfl); clear hf hc)
        go_roundw
        case rel => exact ⟨k + 1, by omega, by go_num, HF, Lib.hid (asked_step HQ.out HQK.out)⟩
        case measure => simp [intOf]; omega
    · obtain rfl : k = n := by omega
      go_wp2
      go_ret
      exact .inr ⟨HQ.out, rfl, HI.out⟩

set_option maxRecDepth 100000 in
set_option maxHeartbeats 4000000 in
theorem hasInt_any (w : World) (P : Nat → Prop) (A : Option Addr) (n c : Nat) (zs : List Int) (V0 : Nat) (q : Nat → Bool) (Inv : Nat → World → Prop) (Fin : Nat → World → Prop) (hn : n ≤ maxLen) (h0 : Inv 0 w)
    (hk : ∀ k W, Inv k W → RIp .i64 W P A n zs)
    (hs : ∀ k z W, zs[k]? = some z → Inv k W → Calls Tryd.prog 59 #[.int .i64 z, .pointer (some ⟨V0, 0, none⟩)] W (Asked (q k) (Inv (k + 1)) (Fin k))) :
    Calls Tryd.prog 58 #[.slice A n c, .func (.func 59) #[] #[.pointer (some ⟨V0, 0, none⟩)]] w (HasIt n q Inv Fin) := by
  have hf := findInt_any w P A n c zs V0 q Inv Fin hn h0 hk hs
  clear hk hs h0 hn
  go_enter Tryd.func58, Tryd.ntmps58
  go_wp2_with fail
  refine hf.mono ?_
  intro e w2 h2
  rcases h2 with ⟨k, h1, h2, h3, rfl, h5⟩ | ⟨h1, rfl, h5⟩
  · have HH : Hid (HasIt n q Inv Fin (.returned (.bool true)) w2) := Lib.hid (.inl ⟨k, h1, h2, h3, rfl, h5⟩)
    clear h2 h3 h5
    go_wp2
    go_ret
    exact HH.out
  · have HH : Hid (HasIt n q Inv Fin (.returned (.bool false)) w2) := Lib.hid (.inr ⟨h1, rfl, h5⟩)
    clear h1 h5
    go_wp2
    go_ret
    exact HH.out

set_option maxRecDepth 100000 in
set_option maxHeartbeats 4000000 in
theorem findCel_any (w : World) (P : Nat → Prop) (A : Option Addr) (n c : Nat) (zs : List Int) (V0 : Nat) (q : Nat → Bool) (Inv : Nat → World → Prop) (Fin : Nat → World → Prop) (hn : n ≤ maxLen) (h0 : Inv 0 w)
    (hk : ∀ k W, Inv k W → RIp .i32 W P A n zs)
    (hs : ∀ k z W, zs[k]? = some z → Inv k W → Calls Tryd.prog 85 #[.int .i32 z, .pointer (some ⟨V0, 0, none⟩)] W (Asked (q k) (Inv (k + 1)) (Fin k))) :
    Calls Tryd.prog 88 #[.slice A n c, .func (.func 85) #[] #[.pointer (some ⟨V0, 0, none⟩)]] w (FoundAt n q Inv Fin) := by
  unfold maxLen at hn
  have HK := Lib.hid hk
  have HS := Lib.hid hs
  have H0 := Lib.hid h0
  clear hk hs h0
  go_enter Tryd.func88, Tryd.ntmps88
  go_wp2
  go_loopw [8] (fun iv wr => ∃ k : Nat, k ≤ n ∧ iv = .int .i64 k ∧ Hid (Inv k wr) ∧ Hid (∀ j, j < k → q j = false)) (fun iv _ => n - (intOf iv).toNat)
  case atStart => exact ⟨0, Nat.zero_le _, rfl, H0, Lib.hid (fun j hj => absurd hj (by omega))⟩
  case round =>
    obtain ⟨k, hkn, rfl, HI, HQ⟩ := hrel
    by_cases hlt : k < n
    · obtain ⟨ad, z, rfl, hb, hx, c0⟩ := (HK.out k wr HI.out).at_ hlt
      have hc := HS.out k z wr hx HI.out
      clear hx
      cases hq : q k with
      | true =>
        rw [hq] at hc
        have HQK := Lib.hid hq
        clear hq
        go_wp2_with (go_at_call 85; refine hc.mono ?_; rintro e w2 ⟨rfl, -, hf⟩; have HF := Lib.hid (hf rfl); clear hf hc)
        go_ret
        exact .inl ⟨k, hlt, HQK.out, HQ.out, rfl, HF.out⟩
      | false =>
        rw [hq] at hc
        have HQK := Lib.hid hq
        clear hq
        go_wp2_with (go_at_call 85; refine hc.mono ?_; rintro e w2 ⟨rfl, hf, -⟩; have HF := Lib.hid (hf rfl); clear hf hc)
        go_roundw
        case rel => exact ⟨k + 1, by omega, by go_num, HF, Lib.hid (asked_step HQ.out HQK.out)⟩
        case measure => simp [intOf]; omega
    · obtain rfl : k = n := by omega
      go_wp2
      go_ret
      exact .inr ⟨HQ.out, rfl, HI.out⟩

set_option maxRecDepth 100000 in
set_option maxHeartbeats 4000000 in
theorem hasCel_any (w : World) (P : Nat → Prop) (A : Option Addr) (n c : Nat) (zs : List Int) (V0 : Nat) (q : Nat → Bool) (Inv : Nat → World → Prop) (Fin : Nat → World → Prop) (hn : n ≤ maxLen) (h0 : Inv 0 w)
    (hk : ∀ k W, Inv k W → RIp .i32 W P A n zs)
    (hs : ∀ k z W, zs[k]? = some z → Inv k W → Calls Tryd.prog 85 #[.int .i32 z, .pointer (some ⟨V0, 0, none⟩)] W (Asked (q k) (Inv (k + 1)) (Fin k))) :
    Calls Tryd.prog 84 #[.slice A n c, .func (.func 85) #[] #[.pointer (some ⟨V0, 0, none⟩)]] w (HasIt n q Inv Fin) := by
  have hf := findCel_any w P A n c zs V0 q Inv Fin hn h0 hk hs
  clear hk hs h0 hn
  go_enter Tryd.func84, Tryd.ntmps84
  go_wp2_with fail
  refine hf.mono ?_
  intro e w2 h2
  rcases h2 with ⟨k, h1, h2, h3, rfl, h5⟩ | ⟨h1, rfl, h5⟩
  · have HH : Hid (HasIt n q Inv Fin (.returned (.bool true)) w2) := Lib.hid (.inl ⟨k, h1, h2, h3, rfl, h5⟩)
    clear h2 h3 h5
    go_wp2
    go_ret
    exact HH.out
  · have HH : Hid (HasIt n q Inv Fin (.returned (.bool false)) w2) := Lib.hid (.inr ⟨h1, rfl, h5⟩)
    clear h1 h5
    go_wp2
    go_ret
    exact HH.out

set_option maxRecDepth 100000 in
set_option maxHeartbeats 4000000 in
theorem findRng_any (w : World) (P : Nat → Prop) (A : Option Addr) (n c : Nat) (xs : List (List Value)) (V0 : Nat) (q : Nat → Bool) (Inv : Nat → World → Prop) (Fin : Nat → World → Prop) (hn : n ≤ maxLen) (h0 : Inv 0 w)
    (hk : ∀ k W, Inv k W → SIp 2 W P A n xs)
    (hs : ∀ k u v W, xs[k]? = some [u, v] → Inv k W → Calls Tryd.prog 72 #[.agg #[u, v], .pointer (some ⟨V0, 0, none⟩)] W (Asked (q k) (Inv (k + 1)) (Fin k))) :
    Calls Tryd.prog 82 #[.slice A n c, .func (.func 72) #[] #[.pointer (some ⟨V0, 0, none⟩)]] w (FoundAt n q Inv Fin) := by
  unfold maxLen at hn
  have HK := Lib.hid hk
  have HS := Lib.hid hs
  have H0 := Lib.hid h0
  clear hk hs h0
  go_enter Tryd.func82, Tryd.ntmps82
  go_wp2
  go_loopw [8] (fun iv wr => ∃ k : Nat, k ≤ n ∧ iv = .int .i64 k ∧ Hid (Inv k wr) ∧ Hid (∀ j, j < k → q j = false)) (fun iv _ => n - (intOf iv).toNat)
  case atStart => exact ⟨0, Nat.zero_le _, rfl, H0, Lib.hid (fun j hj => absurd hj (by omega))⟩
  case round =>
    obtain ⟨k, hkn, rfl, HI, HQ⟩ := hrel
    by_cases hlt : k < n
    · obtain ⟨ad, u, v, rfl, hb, hx, c0, c1⟩ := (HK.out k wr HI.out).at2 hlt
      have hc := HS.out k u v wr hx HI.out
      clear hx
      cases hq : q k with
      | true =>
        rw [hq] at hc
        have HQK := Lib.hid hq
        clear hq
        go_wp2_with (go_at_call 72; refine hc.mono ?_; rintro e w2 ⟨rfl, -, hf⟩; have HF := Lib.hid (hf rfl); clear hf hc)
        go_ret
        exact .inl ⟨k, hlt, HQK.out, HQ.out, rfl, HF.out⟩
      | false =>
        rw [hq] at hc
        have HQK := Lib.hid hq
        clear hq
        go_wp2_with (go_at_call 72; refine hc.mono ?_; rintro e w2 ⟨rfl, hf, -⟩; have HF := Lib.hid (hf rfl); clear hf hc)
        go_roundw
        case rel => exact ⟨k + 1, by omega, by go_num, HF, Lib.hid (asked_step HQ.out HQK.out)⟩
        case measure => simp [intOf]; omega
    · obtain rfl : k = n := by omega
      go_wp2
      go_ret
      exact .inr ⟨HQ.out, rfl, HI.out⟩

set_option maxRecDepth 100000 in
set_option maxHeartbeats 4000000 in
theorem hasRng_any (w : World) (P : Nat → Prop) (A : Option Addr) (n c : Nat) (xs : List (List Value)) (V0 : Nat) (q : Nat → Bool) (Inv : Nat → World → Prop) (Fin : Nat → World → Prop) (hn : n ≤ maxLen) (h0 : Inv 0 w)
    (hk : ∀ k W, Inv k W → SIp 2 W P A n xs)
    (hs : ∀ k u v W, xs[k]? = some [u, v] → Inv k W → Calls Tryd.prog 72 #[.agg #[u, v], .pointer (some ⟨V0, 0, none⟩)] W (Asked (q k) (Inv (k + 1)) (Fin k))) :
    Calls Tryd.prog 71 #[.slice A n c, .func (.func 72) #[] #[.pointer (some ⟨V0, 0, none⟩)]] w (HasIt n q Inv Fin) := by
  have hf := findRng_any w P A n c xs V0 q Inv Fin hn h0 hk hs
  clear hk hs h0 hn
  go_enter Tryd.func71, Tryd.ntmps71
  go_wp2_with fail
  refine hf.mono ?_
  intro e w2 h2
  rcases h2 with ⟨k, h1, h2, h3, rfl, h5⟩ | ⟨h1, rfl, h5⟩
  · have HH : Hid (HasIt n q Inv Fin (.returned (.bool true)) w2) := Lib.hid (.inl ⟨k, h1, h2, h3, rfl, h5⟩)
    clear h2 h3 h5
    go_wp2
    go_ret
    exact HH.out
  · have HH : Hid (HasIt n q Inv Fin (.returned (.bool false)) w2) := Lib.hid (.inr ⟨h1, rfl, h5⟩)
    clear h1 h5
    go_wp2
    go_ret
    exact HH.out

set_option maxRecDepth 100000 in
set_option maxHeartbeats 4000000 in
theorem findTxt_any (w : World) (P : Nat → Prop) (A : Option Addr) (n c : Nat) (xs : List (List Value)) (V0 : Nat) (q : Nat → Bool) (Inv : Nat → World → Prop) (Fin : Nat → World → Prop) (hn : n ≤ maxLen) (h0 : Inv 0 w)
    (hk : ∀ k W, Inv k W → SIp 1 W P A n xs)
    (hs : ∀ k u W, xs[k]? = some [u] → Inv k W → Calls Tryd.prog 74 #[u, .pointer (some ⟨V0, 0, none⟩)] W (Asked (q k) (Inv (k + 1)) (Fin k))) :
    Calls Tryd.prog 83 #[.slice A n c, .func (.func 74) #[] #[.pointer (some ⟨V0, 0, none⟩)]] w (FoundAt n q Inv Fin) := by
  unfold maxLen at hn
  have HK := Lib.hid hk
  have HS := Lib.hid hs
  have H0 := Lib.hid h0
  clear hk hs h0
  go_enter Tryd.func83, Tryd.ntmps83
  go_wp2
  go_loopw [8] (fun iv wr => ∃ k : Nat, k ≤ n ∧ iv = .int .i64 k ∧ Hid (Inv k wr) ∧ Hid (∀ j, j < k → q j = false)) (fun iv _ => n - (intOf iv).toNat)
  case atStart => exact ⟨0, Nat.zero_le _, rfl, H0, Lib.hid (fun j hj => absurd hj (by omega))⟩
  case round =>
    obtain ⟨k, hkn, rfl, HI, HQ⟩ := hrel
    by_cases hlt : k < n
    · obtain ⟨ad, u, rfl, hb, hx, c0⟩ := (HK.out k wr HI.out).at1 hlt
      have hc := HS.out k u wr hx HI.out
      clear hx
      cases hq : q k with
      | true =>
        rw [hq] at hc
        have HQK := Lib.hid hq
        clear hq
        go_wp2_with (go_at_call 74; refine hc.mono ?_; rintro e w2 ⟨rfl, -, hf⟩; have HF := Lib.hid (hf rfl); clear hf hc)
        go_ret
        exact .inl ⟨k, hlt, HQK.out, HQ.out, rfl, HF.out⟩
      | false =>
        rw [hq] at hc
        have HQK := Lib.hid hq
        clear hq
        go_wp2_with (go_at_call 74; refine hc.mono ?_; rintro e w2 ⟨rfl, hf, -⟩; have HF := Lib.hid (hf rfl); clear hf hc)
        go_roundw
        case rel => exact ⟨k + 1, by omega, by go_num, HF, Lib.hid (asked_step HQ.out HQK.out)⟩
        case measure => simp [intOf]; omega
    · obtain rfl : k = n := by omega
      go_wp2
      go_ret
      exact .inr ⟨HQ.out, rfl, HI.out⟩

set_option maxRecDepth 100000 in
set_option maxHeartbeats 4000000 in
theorem hasTxt_any (w : World) (P : Nat → Prop) (A : Option Addr) (n c : Nat) (xs : List (List Value)) (V0 : Nat) (q : Nat → Bool) (Inv : Nat → World → Prop) (Fin : Nat → World → Prop) (hn : n ≤ maxLen) (h0 : Inv 0 w)
    (hk : ∀ k W, Inv k W → SIp 1 W P A n xs)
    (hs : ∀ k u W, xs[k]? = some [u] → Inv k W → Calls Tryd.prog 74 #[u, .pointer (some ⟨V0, 0, none⟩)] W (Asked (q k) (Inv (k + 1)) (Fin k))) :
    Calls Tryd.prog 73 #[.slice A n c, .func (.func 74) #[] #[.pointer (some ⟨V0, 0, none⟩)]] w (HasIt n q Inv Fin) := by
  have hf := findTxt_any w P A n c xs V0 q Inv Fin hn h0 hk hs
  clear hk hs h0 hn
  go_enter Tryd.func73, Tryd.ntmps73
  go_wp2_with fail
  refine hf.mono ?_
  intro e w2 h2
  rcases h2 with ⟨k, h1, h2, h3, rfl, h5⟩ | ⟨h1, rfl, h5⟩
  · have HH : Hid (HasIt n q Inv Fin (.returned (.bool true)) w2) := Lib.hid (.inl ⟨k, h1, h2, h3, rfl, h5⟩)
    clear h2 h3 h5
    go_wp2
    go_ret
    exact HH.out
  · have HH : Hid (HasIt n q Inv Fin (.returned (.bool false)) w2) := Lib.hid (.inr ⟨h1, rfl, h5⟩)
    clear h1 h5
    go_wp2
    go_ret
    exact HH.out

end Go.Proofs.YtcpjcepeiplfgaaDoor.C
