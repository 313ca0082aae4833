/-
  What SameInts, slices.Equal, SameLasso and slices.ContainsFunc answer, of whatever slices of ints.
-/
import Derived.Test.YtpiacnnifdjlkaaBa
namespace Go.Proofs.Ytpiacnnifdjlkaa
open Go.RowKit

set_option maxRecDepth 100000 in
set_option maxHeartbeats 400000 in
theorem indexFunc_go (n b off cap F : Nat) (caps : Array Value) (f : Nat → Int) (p : Nat → Bool) (w : World) (hm : n ≤ maxLen) (hF : ∀ args w, (callFunc F args).run Try.prog w = .ok (.enter F args) w)
    (hx : ∀ i, i < n → w.cell? ⟨b, off + i, none⟩ = some (.int .i64 (f i)))
    (hp : ∀ i, i < n → ∀ w1, Below w.heap.size w w1 → Calls Try.prog F (#[.int .i64 (f i)] ++ caps) w1 fun e w' => e = .returned (.bool (p i)) ∧ Below w1.heap.size w1 w')
    (r : Int) (hr : (∃ i : Nat, i < n ∧ p i = true ∧ (∀ j, j < i → p j = false) ∧ r = i) ∨ (r = -1 ∧ ∀ i, i < n → p i = false)) :
    Calls Try.prog 30 #[.slice (some ⟨b, off, none⟩) n cap, .func (.func F) #[] caps] w fun e w' => e = .returned (.int .i64 r) ∧ Below w.heap.size w w' := by
  unfold maxLen at hm
  have Hr : Hid _ := hr
  have Hp : Hid _ := hp
  clear hr hp
  go_enter Try.func30, Try.ntmps30
  go_wp2
  go_loopw [8] (fun i wr => ∃ k : Nat, k ≤ n ∧ i = .int .i64 k ∧ (∀ j, j < k → p j = false) ∧ Below w.heap.size w wr) (fun i _ => n - (intOf i).toNat)
  case atStart => exact ⟨0, Nat.zero_le _, rfl, fun j hj => by omega, Below.refl _ _⟩
  case round =>
    obtain ⟨k, hk, rfl, htk, hbw⟩ := hrel
    have Htk : Hid (∀ j, j < k → p j = false) := htk
    clear htk
    by_cases hlt : k < n
    · have hx' := hx k (by omega)
      rw [← hbw.cell (World.block_lt_of_cell? w _ hx')] at hx'
      clear hx
      go_wp2_with (fail)
      refine (Hp.out k hlt wr hbw).mono ?_
      rintro e w1 ⟨rfl, hb1⟩
      generalize hpk : p k = pk
      have Hpk : Hid (p k = pk) := hpk
      clear hpk
      have hbw1 := below_trans hbw hb1
      cases pk with
      | false =>
        go_wp2
        go_roundw
        case rel => exact ⟨k + 1, by omega, by go_num, fun j hj => by
          by_cases e : j = k
          · subst e; exact Hpk.out
          · exact Htk.out j (by omega), hbw1⟩
        case measure => simp [intOf]; omega
      | true =>
        go_wp2
        go_ret
        have : r = k := by
          rcases Hr.out with ⟨i, hi, h1, h2, rfl⟩ | ⟨_, h⟩
          · rcases Nat.lt_trichotomy i k with h | h | h
            · rw [Htk.out i h] at h1; cases h1
            · rw [h]
            · have := h2 k h; rw [Hpk.out] at this; cases this
          · have := h k hlt; rw [Hpk.out] at this; cases this
        subst this
        exact ⟨rfl, hbw1⟩
    · go_wp2
      go_ret
      have : r = -1 := by
        rcases Hr.out with ⟨i, hi, h1, h2, rfl⟩ | ⟨h, _⟩
        · rw [Htk.out i (by omega)] at h1; cases h1
        · exact h
      subst this
      exact ⟨rfl, hbw⟩

set_option maxHeartbeats 400000 in
theorem indexFunc_zero (a : Option Addr) (cap : Nat) (fv : Value) (w : World) :
    Calls Try.prog 30 #[.slice a 0 cap, fv] w fun e w' => e = .returned (.int .i64 (-1)) ∧ Below w.heap.size w w' := by
  go_enter Try.func30, Try.ntmps30
  go_wp2
  refine wp_loop_rounds 1 ?_; rw [rounds_succ]
  go_wp2
  go_ret
  exact ⟨rfl, Below.refl _ _⟩

theorem indexFunc_any {v : Value} {zs : List Int} {w : World} (F : Nat) (caps : Array Value) (p : Int → Bool) (hv : IntSl w v zs) (hF : ∀ args w, (callFunc F args).run Try.prog w = .ok (.enter F args) w)
    (hp : ∀ i, i < zs.length → ∀ w1, Below w.heap.size w w1 → Calls Try.prog F (#[.int .i64 (zs.getD i 0)] ++ caps) w1 fun e w' => e = .returned (.bool (p (zs.getD i 0))) ∧ Below w1.heap.size w1 w') :
    Calls Try.prog 30 #[v, .func (.func F) #[] caps] w fun e w' => ∃ r : Int, e = .returned (.int .i64 r) ∧ decide (0 ≤ r) = zs.any p ∧ Below w.heap.size w w' := by
  obtain ⟨a, cap, rfl, hm, h, -⟩ := hv
  rcases h with rfl | ⟨b, off, rfl, hc⟩
  · exact (indexFunc_zero a cap _ w).mono fun e w' ⟨he, hb⟩ => ⟨-1, he, by simp, hb⟩
  · by_cases hex : ∃ i, i < zs.length ∧ p (zs.getD i 0) = true
    · obtain ⟨i, hi, h1, h2⟩ : ∃ i, i < zs.length ∧ p (zs.getD i 0) = true ∧ ∀ j, j < i → p (zs.getD j 0) = false := by
        have : ∀ m, (∃ i, i < m ∧ i < zs.length ∧ p (zs.getD i 0) = true) → ∃ i, i < zs.length ∧ p (zs.getD i 0) = true ∧ ∀ j, j < i → p (zs.getD j 0) = false := by
          intro m
          induction m with
          | zero => rintro ⟨i, h, _⟩; omega
          | succ m ih =>
            rintro ⟨i, h, hi, h1⟩
            by_cases hh : ∃ i, i < m ∧ i < zs.length ∧ p (zs.getD i 0) = true
            · exact ih hh
            · refine ⟨i, hi, h1, fun j hj => ?_⟩
              cases e : p (zs.getD j 0) with
              | false => rfl
              | true => exact absurd ⟨j, by omega, by omega, e⟩ hh
        obtain ⟨i, hi, h1⟩ := hex
        exact this (i + 1) ⟨i, by omega, hi, h1⟩
      refine (indexFunc_go _ b off cap F caps (fun i => zs.getD i 0) (fun i => p (zs.getD i 0)) w hm hF hc hp i (Or.inl ⟨i, hi, h1, h2, rfl⟩)).mono fun e w' ⟨he, hb⟩ => ⟨i, he, ?_, hb⟩
      have : zs.any p = true := List.any_eq_true.2 ⟨zs.getD i 0, by simp [List.getD, hi], h1⟩
      rw [this]; simp
    · have hall : ∀ i, i < zs.length → p (zs.getD i 0) = false := fun i hi => by
        cases e : p (zs.getD i 0) with
        | false => rfl
        | true => exact absurd ⟨i, hi, e⟩ hex
      refine (indexFunc_go _ b off cap F caps (fun i => zs.getD i 0) (fun i => p (zs.getD i 0)) w hm hF hc hp (-1) (Or.inr ⟨rfl, hall⟩)).mono fun e w' ⟨he, hb⟩ => ⟨-1, he, ?_, hb⟩
      have : zs.any p = false := by
        rw [List.any_eq_false]
        intro x hx
        obtain ⟨i, hi, rfl⟩ := List.mem_iff_getElem.1 hx
        have := hall i hi
        simpa [List.getD, hi] using this
      rw [this]; rfl

set_option maxHeartbeats 400000 in
theorem containsFunc_any {v : Value} {zs : List Int} {w : World} (F : Nat) (caps : Array Value) (p : Int → Bool) (hv : IntSl w v zs) (hF : ∀ args w, (callFunc F args).run Try.prog w = .ok (.enter F args) w)
    (hp : ∀ i, i < zs.length → ∀ w1, Below w.heap.size w w1 → Calls Try.prog F (#[.int .i64 (zs.getD i 0)] ++ caps) w1 fun e w' => e = .returned (.bool (p (zs.getD i 0))) ∧ Below w1.heap.size w1 w') :
    Calls Try.prog 23 #[v, .func (.func F) #[] caps] w fun e w' => e = .returned (.bool (zs.any p)) ∧ Below w.heap.size w w' := by
  have H := indexFunc_any F caps p hv hF hp
  have HH : Hid _ := H
  clear H hp hF hv
  go_enter Try.func23, Try.ntmps23
  go_wp2_with (fail)
  refine Calls.mono HH.out ?_
  rintro e w1 ⟨r, rfl, hr, hb1⟩
  have Hr : Hid _ := hr
  clear hr
  go_wp2
  go_ret
  exact ⟨by rw [← Hr.out]; rfl, hb1⟩

set_option maxHeartbeats 400000 in
theorem checkNone_any (x n : Int) (a : Addr) (w : World) (ha : w.cell? a = some (.int .i64 n)) :
    Calls Try.prog 22 #[.int .i64 x, .pointer (some a)] w fun e w' => e = .returned (.bool (decide (x < 0) || decide (n ≤ x))) ∧ w' = w := by
  by_cases h1 : x < 0
  · go_enter Try.func22, Try.ntmps22
    go_wp2
    go_ret
    exact ⟨by simp [h1], rfl⟩
  · have h2 : 0 ≤ x := by omega
    clear h1
    go_enter Try.func22, Try.ntmps22
    go_wp2
    go_ret
    exact ⟨rfl, rfl⟩

end Go.Proofs.Ytpiacnnifdjlkaa
