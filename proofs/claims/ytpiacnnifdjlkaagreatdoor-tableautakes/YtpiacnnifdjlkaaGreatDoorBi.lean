/-
  Plain facts: the shortest list that, again and again, makes up a loop, and the least shift of a word, are one.
-/
import Derived.Test.YtpiacnnifdjlkaaGreatDoorRows
import Derived.WalkKit
import Derived.WalkSpells
import Derived.WalkLawsBesides
import Derived.BigQuiet
import Derived.Deep.QuietTactic
import Derived.Lib.QuietBelow
import Derived.Deep.RegionHeld3
import Derived.Deep.AppendLies
import Derived.Deep.RegionLaw
import Derived.Deep.CutBlock
import Derived.Deep.DeepCutAuto
/-
  Small facts: slices of ints and of bools as they lie in memory, the letter of a lasso at a place, and what the leaves of package word and of the reference answer.
-/
namespace Go.Proofs.YtpiacnnifdjlkaaGreatDoor
open Go.RowKit

theorem hide {p : Prop} (h : p) : Hid p := h

/-- A slice of ints that reads as this list. -/
def IntSl (w : World) (v : Value) (zs : List Int) : Prop :=
  ∃ a cap, v = .slice a zs.length cap ∧ zs.length ≤ maxLen ∧ (zs = [] ∨ ∃ b off, a = some ⟨b, off, none⟩ ∧ ∀ i, i < zs.length → w.cell? ⟨b, off + i, none⟩ = some (.int .i64 (zs.getD i 0))) ∧ (a = none → cap = 0) ∧ zs.length ≤ cap

theorem IntSl.below {w w' : World} {v : Value} {zs : List Int} (h : IntSl w v zs) (hb : Below w.heap.size w w') : IntSl w' v zs := by
  obtain ⟨a, cap, rfl, hm, h, hn⟩ := h
  refine ⟨a, cap, rfl, hm, ?_, hn⟩
  rcases h with h | ⟨b, off, rfl, hc⟩
  · exact Or.inl h
  · refine Or.inr ⟨b, off, rfl, fun i hi => ?_⟩
    have := hc i hi
    rw [hb.cell (World.block_lt_of_cell? w _ this)]; exact this

theorem IntSl.setCell {w : World} {v : Value} {zs : List Int} (h : IntSl w v zs) {a : Addr} (hne : ∀ k, v.ownBlock = some k → k ≠ a.block) (u : Value) : IntSl (w.setCell a u) v zs := by
  obtain ⟨b, cap, rfl, hm, h, hn⟩ := h
  refine ⟨b, cap, rfl, hm, ?_, hn⟩
  rcases h with h | ⟨b, off, rfl, hc⟩
  · exact Or.inl h
  · refine Or.inr ⟨b, off, rfl, fun i hi => ?_⟩
    rw [World.cell?_setCell_other _ _ _ _ (fun e => hne b rfl (by rw [e]))]
    exact hc i hi

theorem below_trans {w w1 w2 : World} (h : Below w.heap.size w w1) (k : Below w1.heap.size w1 w2) : Below w.heap.size w w2 :=
  h.trans (k.mono h.size)

theorem below_drawn (w : World) (n : Nat) : Below w.heap.size w (w.drewN n) := below_drewN (Below.refl _ _) n

theorem below_new (w : World) (o : Obj) : Below w.heap.size w (w.alloc o) := (Below.refl _ _).alloc (Nat.le_refl _) o

def lat (hs ls : List Int) (i : Nat) : Int := if i < hs.length then hs.getD i 0 else ls.getD ((i - hs.length) % ls.length) 0

set_option maxHeartbeats 400000 in
theorem letterAt_head (b off n cap : Nat) (v1 : Value) (i : Nat) (x : Int) (w : World) (hi : i < n) (_hn : n ≤ maxLen)
    (hx : w.cell? ⟨b, off + i, none⟩ = some (.int .i64 x)) (hb : b < w.heap.size) :
    Calls Tryz.prog 73 #[.agg #[.slice (some ⟨b, off, none⟩) n cap, v1], .int .i64 i] w fun e w' => e = .returned (.int .i64 x) ∧ Below w.heap.size w w' := by
  unfold maxLen at _hn
  go_enter Tryz.func73, Tryz.ntmps73
  go_wp2
  go_ret
  exact ⟨rfl, (Below.refl _ _).alloc (Nat.le_refl _) _⟩

set_option maxHeartbeats 400000 in
theorem letterAt_loop (b off n cap h0 c0 : Nat) (a0 : Option Addr) (i : Nat) (x : Int) (w : World) (hi : h0 ≤ i) (hn : n ≤ maxLen) (hh : h0 ≤ maxLen) (hni : (i : Int) ≤ 9223372036854775807) (hnn : 0 < n)
    (hx : w.cell? ⟨b, off + (i - h0) % n, none⟩ = some (.int .i64 x)) (hb : b < w.heap.size) :
    Calls Tryz.prog 73 #[.agg #[.slice a0 h0 c0, .slice (some ⟨b, off, none⟩) n cap], .int .i64 i] w fun e w' => e = .returned (.int .i64 x) ∧ Below w.heap.size w w' := by
  unfold maxLen at hn hh
  have hn0 : ((n : Int) == 0) = false := by rw [beq_eq_false_iff_ne]; omega
  have hn1 : ¬ (n : Int) = 0 := by omega
  have he : ((i : Int) - h0) % n = ((i - h0) % n : Nat) := by rw [← Int.ofNat_sub hi]; rfl
  have hq1 : 0 ≤ ((i : Int) - h0) % n := by rw [he]; omega
  have hq2 : ((i : Int) - h0) % n < n := by rw [he]; have := Nat.mod_lt (i - h0) hnn; omega
  clear he
  go_enter Tryz.func73, Tryz.ntmps73
  go_wp2
  refine wp_region_quiet_lit (by kernel_rfl) (by kernel_rfl) ?_
  repeat (go_big_quiet_step (fail))
  refine wpQuiet_nil ?_
  intro _ hw'; obtain ⟨nq, hw''⟩ := hw'; subst hw''
  go_wp2
  go_ret
  exact ⟨rfl, below_drewN ((Below.refl _ _).alloc (Nat.le_refl _) _) _⟩

theorem letterAt_any {hv lv : Value} {hs ls : List Int} {w : World} (hh : IntSl w hv hs) (hl : IntSl w lv ls) (i : Int) (h0 : 0 ≤ i) (hi : i ≤ 9223372036854775807) (hne : ls ≠ []) :
    Calls Tryz.prog 73 #[.agg #[hv, lv], .int .i64 i] w fun e w' => e = .returned (.int .i64 (lat hs ls i.toNat)) ∧ Below w.heap.size w w' := by
  obtain ⟨k, rfl⟩ := Int.eq_ofNat_of_zero_le h0
  obtain ⟨a0, c0, rfl, hm0, hh, -⟩ := hh
  obtain ⟨a1, c1, rfl, hm1, hl, -⟩ := hl
  have hpos : 0 < ls.length := List.length_pos_iff.2 hne
  unfold lat
  rw [Int.toNat_natCast]
  by_cases hk : k < hs.length
  · rw [if_pos hk]
    rcases hh with hh | ⟨b, off, rfl, hc⟩
    · subst hh; simp at hk
    · have := hc k hk
      exact letterAt_head b off _ _ _ k _ w hk hm0 this (World.block_lt_of_cell? w _ this)
  · rw [if_neg hk]
    rcases hl with hl | ⟨b, off, rfl, hc⟩
    · exact absurd hl hne
    · have := hc _ (Nat.mod_lt (k - hs.length) hpos)
      exact letterAt_loop b off _ _ _ _ _ k _ w (by omega) hm1 hm0 hi hpos this (World.block_lt_of_cell? w _ this)

set_option maxHeartbeats 400000 in
theorem between_any (a b c : Int) (w : World) :
    Calls Tryz.prog 17 #[.int .i64 a, .int .i64 b, .int .i64 c] w fun e w' => e = .returned (.bool (decide (b ≤ a ∧ a ≤ c))) ∧ w' = w := by
  by_cases h1 : b ≤ a
  · go_enter Tryz.func17, Tryz.ntmps17
    go_wp2
    go_ret
    exact ⟨by simp [h1], rfl⟩
  · have h2 : a < b := by omega
    have e : decide (b ≤ a ∧ a ≤ c) = false := by simp; omega
    rw [e]
    clear h1 e
    go_enter Tryz.func17, Tryz.ntmps17
    go_wp2
    go_ret
    exact ⟨rfl, rfl⟩

end Go.Proofs.YtpiacnnifdjlkaaGreatDoor

/-
  What SameInts, slices.Equal, SameLasso and slices.ContainsFunc answer, of whatever slices of ints.
-/
namespace Go.Proofs.YtpiacnnifdjlkaaGreatDoor
open Go.RowKit

set_option maxRecDepth 100000 in
set_option maxHeartbeats 400000 in
theorem indexFunc_go (n b off cap F : Nat) (caps : Array Value) (f : Nat → Int) (p : Nat → Bool) (w : World) (hm : n ≤ maxLen) (hF : ∀ args w, (callFunc F args).run Tryz.prog w = .ok (.enter F args) w)
    (hx : ∀ i, i < n → w.cell? ⟨b, off + i, none⟩ = some (.int .i64 (f i)))
    (hp : ∀ i, i < n → ∀ w1, Below w.heap.size w w1 → Calls Tryz.prog F (#[.int .i64 (f i)] ++ caps) w1 fun e w' => e = .returned (.bool (p i)) ∧ Below w1.heap.size w1 w')
    (r : Int) (hr : (∃ i : Nat, i < n ∧ p i = true ∧ (∀ j, j < i → p j = false) ∧ r = i) ∨ (r = -1 ∧ ∀ i, i < n → p i = false)) :
    Calls Tryz.prog 66 #[.slice (some ⟨b, off, none⟩) n cap, .func (.func F) #[] caps] w fun e w' => e = .returned (.int .i64 r) ∧ Below w.heap.size w w' := by
  unfold maxLen at hm
  have Hr : Hid _ := hr
  have Hp : Hid _ := hp
  clear hr hp
  go_enter Tryz.func66, Tryz.ntmps66
  go_wp2
  go_loopw [8] (fun i wr => ∃ k : Nat, k ≤ n ∧ i = .int .i64 k ∧ (∀ j, j < k → p j = false) ∧ Below w.heap.size w wr) (fun i _ => n - (intOf i).toNat)
  case atStart => exact ⟨0, Nat.zero_le _, rfl, fun j hj => by omega, Below.refl _ _⟩
  case round =>
    obtain ⟨k, hk, rfl, htk, hbw⟩ := hrel
    have Htk : Hid (∀ j, j < k → p j = false) := htk
    clear htk
    by_cases hlt : k < n
    · have hx' := hx k (by omega)
      rw [← hbw.cell (World.block_lt_of_cell? w _ hx')] at hx'
      clear hx
      go_wp2_with (fail)
      refine (Hp.out k hlt wr hbw).mono ?_
      rintro e w1 ⟨rfl, hb1⟩
      generalize hpk : p k = pk
      have Hpk : Hid (p k = pk) := hpk
      clear hpk
      have hbw1 := below_trans hbw hb1
      cases pk with
      | false =>
        go_wp2
        go_roundw
        case rel => exact ⟨k + 1, by omega, by go_num, fun j hj => by
          by_cases e : j = k
          · subst e; exact Hpk.out
          · exact Htk.out j (by omega), hbw1⟩
        case measure => simp [intOf]; omega
      | true =>
        go_wp2
        go_ret
        have : r = k := by
          rcases Hr.out with ⟨i, hi, h1, h2, rfl⟩ | ⟨_, h⟩
          · rcases Nat.lt_trichotomy i k with h | h | h
            · rw [Htk.out i h] at h1; cases h1
            · rw [h]
            · have := h2 k h; rw [Hpk.out] at this; cases this
          · have := h k hlt; rw [Hpk.out] at this; cases this
        subst this
        exact ⟨rfl, hbw1⟩
    · go_wp2
      go_ret
      have : r = -1 := by
        rcases Hr.out with ⟨i, hi, h1, h2, rfl⟩ | ⟨h, _⟩
        · rw [Htk.out i (by omega)] at h1; cases h1
        · exact h
      subst this
      exact ⟨rfl, hbw⟩

set_option maxHeartbeats 400000 in
theorem indexFunc_zero (a : Option Addr) (cap : Nat) (fv : Value) (w : World) :
    Calls Tryz.prog 66 #[.slice a 0 cap, fv] w fun e w' => e = .returned (.int .i64 (-1)) ∧ Below w.heap.size w w' := by
  go_enter Tryz.func66, Tryz.ntmps66
  go_wp2
  refine wp_loop_rounds 1 ?_; rw [rounds_succ]
  go_wp2
  go_ret
  exact ⟨rfl, Below.refl _ _⟩

theorem indexFunc_any {v : Value} {zs : List Int} {w : World} (F : Nat) (caps : Array Value) (p : Int → Bool) (hv : IntSl w v zs) (hF : ∀ args w, (callFunc F args).run Tryz.prog w = .ok (.enter F args) w)
    (hp : ∀ i, i < zs.length → ∀ w1, Below w.heap.size w w1 → Calls Tryz.prog F (#[.int .i64 (zs.getD i 0)] ++ caps) w1 fun e w' => e = .returned (.bool (p (zs.getD i 0))) ∧ Below w1.heap.size w1 w') :
    Calls Tryz.prog 66 #[v, .func (.func F) #[] caps] w fun e w' => ∃ r : Int, e = .returned (.int .i64 r) ∧ decide (0 ≤ r) = zs.any p ∧ Below w.heap.size w w' := by
  obtain ⟨a, cap, rfl, hm, h, -⟩ := hv
  rcases h with rfl | ⟨b, off, rfl, hc⟩
  · exact (indexFunc_zero a cap _ w).mono fun e w' ⟨he, hb⟩ => ⟨-1, he, by simp, hb⟩
  · by_cases hex : ∃ i, i < zs.length ∧ p (zs.getD i 0) = true
    · obtain ⟨i, hi, h1, h2⟩ : ∃ i, i < zs.length ∧ p (zs.getD i 0) = true ∧ ∀ j, j < i → p (zs.getD j 0) = false := by
        have : ∀ m, (∃ i, i < m ∧ i < zs.length ∧ p (zs.getD i 0) = true) → ∃ i, i < zs.length ∧ p (zs.getD i 0) = true ∧ ∀ j, j < i → p (zs.getD j 0) = false := by
          intro m
          induction m with
          | zero => rintro ⟨i, h, _⟩; omega
          | succ m ih =>
            rintro ⟨i, h, hi, h1⟩
            by_cases hh : ∃ i, i < m ∧ i < zs.length ∧ p (zs.getD i 0) = true
            · exact ih hh
            · refine ⟨i, hi, h1, fun j hj => ?_⟩
              cases e : p (zs.getD j 0) with
              | false => rfl
              | true => exact absurd ⟨j, by omega, by omega, e⟩ hh
        obtain ⟨i, hi, h1⟩ := hex
        exact this (i + 1) ⟨i, by omega, hi, h1⟩
      refine (indexFunc_go _ b off cap F caps (fun i => zs.getD i 0) (fun i => p (zs.getD i 0)) w hm hF hc hp i (Or.inl ⟨i, hi, h1, h2, rfl⟩)).mono fun e w' ⟨he, hb⟩ => ⟨i, he, ?_, hb⟩
      have : zs.any p = true := List.any_eq_true.2 ⟨zs.getD i 0, by simp [List.getD, hi], h1⟩
      rw [this]; simp
    · have hall : ∀ i, i < zs.length → p (zs.getD i 0) = false := fun i hi => by
        cases e : p (zs.getD i 0) with
        | false => rfl
        | true => exact absurd ⟨i, hi, e⟩ hex
      refine (indexFunc_go _ b off cap F caps (fun i => zs.getD i 0) (fun i => p (zs.getD i 0)) w hm hF hc hp (-1) (Or.inr ⟨rfl, hall⟩)).mono fun e w' ⟨he, hb⟩ => ⟨-1, he, ?_, hb⟩
      have : zs.any p = false := by
        rw [List.any_eq_false]
        intro x hx
        obtain ⟨i, hi, rfl⟩ := List.mem_iff_getElem.1 hx
        have := hall i hi
        simpa [List.getD, hi] using this
      rw [this]; rfl

set_option maxHeartbeats 400000 in
theorem containsFunc_any {v : Value} {zs : List Int} {w : World} (F : Nat) (caps : Array Value) (p : Int → Bool) (hv : IntSl w v zs) (hF : ∀ args w, (callFunc F args).run Tryz.prog w = .ok (.enter F args) w)
    (hp : ∀ i, i < zs.length → ∀ w1, Below w.heap.size w w1 → Calls Tryz.prog F (#[.int .i64 (zs.getD i 0)] ++ caps) w1 fun e w' => e = .returned (.bool (p (zs.getD i 0))) ∧ Below w1.heap.size w1 w') :
    Calls Tryz.prog 43 #[v, .func (.func F) #[] caps] w fun e w' => e = .returned (.bool (zs.any p)) ∧ Below w.heap.size w w' := by
  have H := indexFunc_any F caps p hv hF hp
  have HH : Hid _ := H
  clear H hp hF hv
  go_enter Tryz.func43, Tryz.ntmps43
  go_wp2_with (fail)
  refine Calls.mono HH.out ?_
  rintro e w1 ⟨r, rfl, hr, hb1⟩
  have Hr : Hid _ := hr
  clear hr
  go_wp2
  go_ret
  exact ⟨by rw [← Hr.out]; rfl, hb1⟩

set_option maxHeartbeats 400000 in
theorem checkNone_any (x n : Int) (a : Addr) (w : World) (ha : w.cell? a = some (.int .i64 n)) :
    Calls Tryz.prog 42 #[.int .i64 x, .pointer (some a)] w fun e w' => e = .returned (.bool (decide (x < 0) || decide (n ≤ x))) ∧ w' = w := by
  by_cases h1 : x < 0
  · go_enter Tryz.func42, Tryz.ntmps42
    go_wp2
    go_ret
    exact ⟨by simp [h1], rfl⟩
  · have h2 : 0 ≤ x := by omega
    clear h1
    go_enter Tryz.func42, Tryz.ntmps42
    go_wp2
    go_ret
    exact ⟨rfl, rfl⟩

end Go.Proofs.YtpiacnnifdjlkaaGreatDoor

/-
  What SameInts, SameLasso, slices.Equal and word.Check answer.
-/
namespace Go.Proofs.YtpiacnnifdjlkaaGreatDoor
open Go.RowKit

theorem list_eq_iff {xs ys : List Int} (h : xs.length = ys.length) : xs = ys ↔ ∀ i, i < xs.length → xs.getD i 0 = ys.getD i 0 := by
  constructor
  · rintro rfl _ _; rfl
  · intro H
    apply List.ext_getElem h
    intro i h1 h2
    have := H i h1
    simpa [List.getD, h1, h2] using this


/-- What word.Check tells. -/
def chk (hs ls : List Int) (n : Int) : Int :=
  if n < 1 ∨ 8 < n then 3 else if 4000 < hs.length ∨ 4000 < ls.length then 2 else if ls.length = 0 then 1
  else if (hs ++ ls).any (fun x => decide (x < 0) || decide (n ≤ x)) then 5 else 0

theorem checkCalls {hv lv : Value} {hs ls : List Int} {w : World} (n : Int) (hh : IntSl w hv hs) (hl : IntSl w lv ls) (w1 : World) (hb : Below w.heap.size w w1) (v : Value) (zs : List Int) (hv' : (v = hv ∧ zs = hs) ∨ (v = lv ∧ zs = ls)) (a : Addr) (ha : w1.cell? a = some (.int .i64 n)) :
    Calls Tryz.prog 43 #[v, .func (.func 42) #[] #[.pointer (some a)]] w1 fun e w' => e = .returned (.bool (zs.any fun x => decide (x < 0) || decide (n ≤ x))) ∧ Below w1.heap.size w1 w' := by
  have hz : IntSl w v zs := by
    rcases hv' with ⟨rfl, rfl⟩ | ⟨rfl, rfl⟩
    · exact hh
    · exact hl
  exact containsFunc_any 42 _ (fun x => decide (x < 0) || decide (n ≤ x)) (hz.below hb) Tryz.call42 fun i _ w2 hw2 =>
    (checkNone_any (zs.getD i 0) n a w2 (by rw [hw2.cell (World.block_lt_of_cell? w1 _ ha)]; exact ha)).mono fun e w' ⟨he, hw⟩ => ⟨he, by rw [hw]; exact Below.refl _ _⟩

set_option maxHeartbeats 400000 in
theorem check_any {hv lv : Value} {hs ls : List Int} {w : World} (n : Int) (hh : IntSl w hv hs) (hl : IntSl w lv ls) :
    Calls Tryz.prog 24 #[.agg #[hv, lv], .int .i64 n] w fun e w' => e = .returned (.int .i64 (chk hs ls n)) ∧ Below w.heap.size w w' := by
  have Hc : Hid _ := checkCalls n hh hl
  obtain ⟨a0, c0, rfl, hm0, -, -⟩ := hh
  obtain ⟨a1, c1, rfl, hm1, -, -⟩ := hl
  have hmf : ∀ (fn : Fn) (first cap : Array Value) (w : World), (Instr.makeFunc fn first cap).run Tryz.prog w = .ok (.func fn first cap) w := fun _ _ _ _ => rfl
  unfold maxLen at hm0 hm1
  by_cases h1 : n < 1 ∨ 8 < n
  · have e : chk hs ls n = 3 := by simp [chk, h1]
    rw [e]
    clear e
    rcases h1 with h1 | h1
    · go_enter Tryz.func24, Tryz.ntmps24
      go_wp2
      go_ret
      exact ⟨rfl, (by repeat (first | exact Below.refl _ _ | assumption | refine below_drewN ?_ _ | refine Below.drew ?_ | refine Below.alloc ?_ (by simp <;> omega) _ | refine below_trans ?_ (by assumption)))⟩
    · have h2 : 1 ≤ n := by omega
      go_enter Tryz.func24, Tryz.ntmps24
      go_wp2
      go_ret
      exact ⟨rfl, (by repeat (first | exact Below.refl _ _ | assumption | refine below_drewN ?_ _ | refine Below.drew ?_ | refine Below.alloc ?_ (by simp <;> omega) _ | refine below_trans ?_ (by assumption)))⟩
  have h2 : 1 ≤ n := by omega
  have h3 : n ≤ 8 := by omega
  by_cases h4 : 4000 < hs.length ∨ 4000 < ls.length
  · have e : chk hs ls n = 2 := by simp [chk, h1, h4]
    rw [e]
    clear e h1
    rcases h4 with h4 | h4
    · go_enter Tryz.func24, Tryz.ntmps24
      go_wp2
      go_ret
      exact ⟨rfl, (by repeat (first | exact Below.refl _ _ | assumption | refine below_drewN ?_ _ | refine Below.drew ?_ | refine Below.alloc ?_ (by simp <;> omega) _ | refine below_trans ?_ (by assumption)))⟩
    · by_cases h5 : 4000 < hs.length
      · go_enter Tryz.func24, Tryz.ntmps24
        go_wp2
        go_ret
        exact ⟨rfl, (by repeat (first | exact Below.refl _ _ | assumption | refine below_drewN ?_ _ | refine Below.drew ?_ | refine Below.alloc ?_ (by simp <;> omega) _ | refine below_trans ?_ (by assumption)))⟩
      · have h6 : hs.length ≤ 4000 := by omega
        clear h5
        go_enter Tryz.func24, Tryz.ntmps24
        go_wp2
        go_ret
        exact ⟨rfl, (by repeat (first | exact Below.refl _ _ | assumption | refine below_drewN ?_ _ | refine Below.drew ?_ | refine Below.alloc ?_ (by simp <;> omega) _ | refine below_trans ?_ (by assumption)))⟩
  have h5 : hs.length ≤ 4000 := by omega
  have h6 : ls.length ≤ 4000 := by omega
  by_cases h7 : ls.length = 0
  · have e : chk hs ls n = 1 := by unfold chk; rw [if_neg h1, if_neg h4, if_pos h7]
    rw [e]
    have h8 : ((ls.length : Int) == 0) = true := by simpa using h7
    clear e h1 h4 h7
    go_enter Tryz.func24, Tryz.ntmps24
    go_wp2
    go_ret
    exact ⟨rfl, (by repeat (first | exact Below.refl _ _ | assumption | refine below_drewN ?_ _ | refine Below.drew ?_ | refine Below.alloc ?_ (by simp <;> omega) _ | refine below_trans ?_ (by assumption)))⟩
  have h8 : ((ls.length : Int) == 0) = false := by rw [beq_eq_false_iff_ne]; omega
  have e : chk hs ls n = if (hs ++ ls).any (fun x => decide (x < 0) || decide (n ≤ x)) then 5 else 0 := by simp only [chk, h1, h4, h7, if_false]
  rw [e]
  clear e h1 h4 h7
  rw [List.any_append]
  generalize hg1 : (hs.any fun x => decide (x < 0) || decide (n ≤ x)) = r1
  generalize hg2 : (ls.any fun x => decide (x < 0) || decide (n ≤ x)) = r2
  have G1 : Hid _ := hg1
  have G2 : Hid _ := hg2
  clear hg1 hg2
  go_enter Tryz.func24, Tryz.ntmps24
  go_wp2_with (fail)
  refine Calls.mono (Hc.out _ ?_ _ hs (Or.inl ⟨rfl, rfl⟩) _ ?_) ?_
  · exact (by repeat (first | exact Below.refl _ _ | assumption | refine below_drewN ?_ _ | refine Below.drew ?_ | refine Below.alloc ?_ (by simp <;> omega) _ | refine below_trans ?_ (by assumption)))
  · simp
  rw [G1.out]
  rintro e w1 ⟨rfl, hb1⟩
  have hc1 : w1.cell? ⟨w.heap.size, 0, none⟩ = some (.slice a0 hs.length c0) := by rw [hb1.cell (by simp <;> omega)]; simp
  have hc2 : w1.cell? ⟨w.heap.size, 1, none⟩ = some (.slice a1 ls.length c1) := by rw [hb1.cell (by simp <;> omega)]; simp
  have hc3 : w1.cell? ⟨w.heap.size + 1, 0, none⟩ = some (.int .i64 n) := by rw [hb1.cell (by simp <;> omega)]; simp
  have hw1 : Below w.heap.size w w1 := by
    refine below_trans ?_ hb1
    exact (by repeat (first | exact Below.refl _ _ | assumption | refine below_drewN ?_ _ | refine Below.drew ?_ | refine Below.alloc ?_ (by simp <;> omega) _ | refine below_trans ?_ (by assumption)))
  cases r1 with
  | true =>
    go_wp2
    go_ret
    exact ⟨by simp, hw1⟩
  | false =>
    go_wp2_with (fail)
    refine Calls.mono (Hc.out _ ?_ _ ls (Or.inr ⟨rfl, rfl⟩) _ ?_) ?_
    · exact hw1
    · exact hc3
    rw [G2.out]
    rintro e w2 ⟨rfl, hb2⟩
    have hw2 := below_trans hw1 hb2
    cases r2 with
    | true =>
      go_wp2
      go_ret
      exact ⟨by simp, hw2⟩
    | false =>
      go_wp2
      go_ret
      exact ⟨by simp, hw2⟩

end Go.Proofs.YtpiacnnifdjlkaaGreatDoor

/-
  append of a slice of ints onto a slice of the call's own; what CheckLasso tells.
-/
namespace Go.Proofs.YtpiacnnifdjlkaaGreatDoor
open Go.RowKit

theorem add_none (b off i : Nat) : (⟨b, off, none⟩ : Addr).add i = ⟨b, off + i, none⟩ := Go.WideShapes.add_plain b off i

theorem intInfo : Tryz.prog.info? 3 = some Tryz.t3 := by kernel_rfl

/-- append(v, s...), both of ints, v of the call's own. -/
theorem run_append_sl (w : World) (ty base : Nat) (v : Value) (n : Nat) (xs : List Value) (hown : w.ownsRow base 3 1 v n xs) (sv : Value) (zs : List Int) (hs : IntSl w sv zs)
    (h63 : n + zs.length ≤ 1000000) (hbase : base ≤ w.heap.size) :
    ∃ v' w', (Builtin.append_ #[24, 24] ty #[v, sv]).run Tryz.prog w = .ok v' w' ∧ w'.ownsRow base 3 1 v' (n + zs.length) (xs ++ zs.map (.int .i64)) ∧ w.grownBy w' v.ownBlock ∧ (v'.ownBlock = v.ownBlock ∨ v'.ownBlock = some w.heap.size) := by
  obtain ⟨a, cap, rfl, hm, hc, hn⟩ := hs
  cases a with
  | none =>
    have hz : zs = [] := by
      rcases hc with h | ⟨b, off, h, _⟩
      · exact h
      · cases h
    have hc0 := hn.1 rfl
    subst hz hc0
    refine ⟨v, w, run_append_owned_none w base 24 ty 3 Tryz.t3 1 Tryz.underlying24 intInfo v n xs hown, by simpa using hown, ⟨rfl, rfl, rfl, Nat.le_refl _, fun _ _ _ => rfl⟩, Or.inl rfl⟩
  | some a =>
    have hnews : ∀ j u, (zs.map (Value.int .i64))[j]? = some u → w.cell? (a.add j) = some u := by
      intro j u hu
      rcases hc with h | ⟨b, off, h, hcell⟩
      · subst h; simp at hu
      · cases h
        rw [add_none]
        rw [List.getElem?_map] at hu
        cases hj : zs[j]? with
        | none => rw [hj] at hu; simp at hu
        | some z =>
          rw [hj] at hu
          have hlt : j < zs.length := (List.getElem?_eq_some_iff.1 hj).1
          rw [hcell j hlt, List.getD, hj]
          simpa using hu
    obtain ⟨v', w', hr, h2, h3, _, h5⟩ := run_append_own_at (P := Tryz.prog) w base 24 ty 3 Tryz.t3 (.int .i64 0) 1 8 Tryz.underlying24 intInfo (by kernel_rfl) (by kernel_rfl) (by kernel_rfl) (by kernel_rfl) (by decide) v n xs hown a zs.length cap (zs.map (.int .i64)) (by simp) hnews (by intro u hu; obtain ⟨z, _, rfl⟩ := List.mem_map.1 hu; rfl) (by unfold maxLen; omega) (by omega) hbase
    exact ⟨v', w', hr, h2, h3, h5⟩

/-- A slice of the call's own, read. -/
theorem intSl_of_owns {w : World} {base : Nat} {v : Value} {zs : List Int} {n : Nat} (h : w.ownsRow base 3 1 v n (zs.map (.int .i64))) : IntSl w v zs := by
  have hl : zs.length = n := by simpa using h.1
  rcases h.2 with ⟨rfl, h0⟩ | ⟨g, cap, cur, rfl, hb, hg, hnc, hcm, hcs, htake⟩
  · have : zs = [] := List.eq_nil_of_length_eq_zero (by omega)
    subst this
    exact ⟨none, 0, rfl, by simp [maxLen], Or.inl rfl, fun _ => rfl, Nat.le_refl _⟩
  · subst hl
    refine ⟨some ⟨g, 0, none⟩, cap, rfl, by omega, Or.inr ⟨g, 0, rfl, fun i hi => ?_⟩, (fun h => by cases h), hnc⟩
    have := h.cells (g := g) rfl i (.int .i64 (zs.getD i 0)) (by simp [List.getD, hi])
    rwa [add_none] at this

theorem owns_empty {w : World} {base g : Nat} (h : w.heap[g]? = some (.cells #[] 3 (0, 0))) (hb : base ≤ g) : w.ownsRow base 3 1 (.slice (some ⟨g, 0, none⟩) 0 0) 0 [] :=
  ⟨rfl, .inr ⟨g, 0, #[], rfl, hb, h, Nat.le_refl _, by simp [maxLen], rfl, rfl⟩⟩

theorem heap_two (w : World) (o1 o2 : Obj) : ((w.alloc o1).alloc o2).drew.heap[w.heap.size + 1]? = some o2 := by
  have := heap_alloc_new (w.alloc o1) o2
  rw [World.size_alloc] at this
  exact this

/-- The same at a step of a region that draws its order. -/
theorem step_append_sl {ops : Array Oper} {o : Oper} {a : Act} {K : Act → World → Prop} {Q : Exit → Act → World → Prop} {E : Prop} {w : World} (hgd : o.guard = none) (s x : Operand)
    (ho : o.op = .call { callee := .builtin .append, args := #[s, x], argTypes := #[24, 24] })
    (base : Nat) (v : Value) (n : Nat) (xs : List Value) (hs : a.eval s = v) (hown : w.ownsRow base 3 1 v n xs) (sv : Value) (zs : List Int) (hx : a.eval x = sv) (hz : IntSl w sv zs)
    (h63 : n + zs.length ≤ 1000000) (hbase : base ≤ w.heap.size)
    (h : ∀ v' w', w'.ownsRow base 3 1 v' (n + zs.length) (xs ++ zs.map (.int .i64)) → Below base w w' → (∀ b o, b < base → w'.cell? ⟨b, o, none⟩ = w.cell? ⟨b, o, none⟩) → base ≤ w'.heap.size → K (a.put o.dst v') w') :
    if Region.wanted o (yielded ops a.tmps) = true then Oper.wp Tryz.prog o a w K Q else E := by
  have hw : Region.wanted o (yielded ops a.tmps) = true := by simp [Region.wanted, hgd]
  rw [if_pos hw]
  obtain ⟨v', w', hr, h2, h3, _⟩ := run_append_sl w o.type base v n xs hown sv zs hz h63 hbase
  have hb : Below base w w' := (Below.refl _ _).grown h3 hbase fun k hk => (hown.lt k hk).1
  unfold Oper.wp execOp
  simp only [ho, resolve, invoke, builtin, Sem.run_bind, Sem.run_pure, Result.andThen_ok, List.map_toArray, List.map_cons, List.map_nil, hs, hx, hr]
  exact h v' w' h2 hb (fun b o hlt => hb.cell (p := ⟨b, o, none⟩) hlt) (Nat.le_trans hbase hb.size)

end Go.Proofs.YtpiacnnifdjlkaaGreatDoor

/-
  What period, piece and At of package word answer.
-/
namespace Go.Proofs.YtpiacnnifdjlkaaGreatDoor
open Go.RowKit

/-- p letters, again and again, make up the list, and p goes into its length. -/
def IsPer (ls : List Int) (p : Nat) : Prop := 1 ≤ p ∧ p ≤ ls.length ∧ ls.length % p = 0 ∧ ls.drop p = ls.take (ls.length - p)

def LeastPer (ls : List Int) (p : Nat) : Prop := IsPer ls p ∧ ∀ q, IsPer ls q → p ≤ q

theorem intSl_drop {w : World} {b off cap p : Nat} {ls : List Int} (hm : ls.length ≤ maxLen) (hc : ∀ i, i < ls.length → w.cell? ⟨b, off + i, none⟩ = some (.int .i64 (ls.getD i 0))) (hcap : ls.length ≤ cap) (hp : p < ls.length) :
    IntSl w (.slice (some ⟨b, off + p, none⟩) (ls.length - p) (cap - p)) (ls.drop p) := by
  refine ⟨some ⟨b, off + p, none⟩, cap - p, by simp, by simp; omega, Or.inr ⟨b, off + p, rfl, fun i hi => ?_⟩, (fun h => by cases h), by simp; omega⟩
  rw [List.length_drop] at hi
  rw [show off + p + i = off + (p + i) by omega, hc (p + i) (by omega)]
  simp [List.getD]

theorem intSl_take {w : World} {b off cap p : Nat} {ls : List Int} (hm : ls.length ≤ maxLen) (hc : ∀ i, i < ls.length → w.cell? ⟨b, off + i, none⟩ = some (.int .i64 (ls.getD i 0))) (hcap : ls.length ≤ cap) (hp : p ≤ ls.length) :
    IntSl w (.slice (some ⟨b, off, none⟩) p cap) (ls.take p) := by
  refine ⟨some ⟨b, off, none⟩, cap, by simp; omega, by simp; omega, Or.inr ⟨b, off, rfl, fun i hi => ?_⟩, (fun h => by cases h), by simp; omega⟩
  rw [List.length_take] at hi
  rw [hc i (by omega)]
  simp [List.getD, show i < p by omega]

end Go.Proofs.YtpiacnnifdjlkaaGreatDoor

/-
  What piece, At and Least of package word answer.
-/
namespace Go.Proofs.YtpiacnnifdjlkaaGreatDoor
open Go.RowKit

def zeroInts (c : Nat) : Array Value := Array.replicate c (.int .i64 0)

theorem make_ints (c : Nat) (h : c ≤ 1000000) (w : World) : (Instr.makeSlice 24 (.int .i64 c) (.int .i64 c)).run Tryz.prog w = .ok (.slice (some ⟨w.heap.size, 0, none⟩) c c) (w.alloc (.cells (zeroInts c) 3)) := by
  have hz : Tryz.t3.zero = some (.int .i64 0) := by kernel_rfl
  have hb : Tryz.t3.bytes = 8 := by kernel_rfl
  have hs : Tryz.t3.size = 1 := by kernel_rfl
  rw [run_make w 24 3 Tryz.t3 (.int .i64 0) Tryz.underlying24 intInfo hz .i64 .i64 c c (by omega) (by omega) (by rw [hb]; omega) (by omega)]
  have e : madeCells (Value.cells (.int .i64 0)) (c * 1) = zeroInts c := by
    apply Array.ext
    · simp [size_madeCells, zeroInts]
    · intro i h1 h2
      simp [madeCells, zeroInts, Value.cells, Nat.mod_one]
  rw [hs, Int.toNat_natCast, e]

def pieceOf (hs ls : List Int) (f c : Nat) : List Int := (List.range c).map fun j => lat hs ls (f + j)

def pieceAt (hs ls : List Int) (f k j : Nat) : Int := if j < k then lat hs ls (f + j) else 0

theorem pieceAt_same (hs ls : List Int) (f k : Nat) : pieceAt hs ls f (k + 1) k = lat hs ls (f + k) := by simp [pieceAt]
theorem pieceAt_other (hs ls : List Int) (f k j : Nat) (h : j ≠ k) : pieceAt hs ls f (k + 1) j = pieceAt hs ls f k j := by
  unfold pieceAt
  by_cases h1 : j < k
  · rw [if_pos (by omega), if_pos h1]
  · rw [if_neg (by omega), if_neg h1]

end Go.Proofs.YtpiacnnifdjlkaaGreatDoor

/-
  What Least of package word answers.
-/
namespace Go.Proofs.YtpiacnnifdjlkaaGreatDoor
open Go.RowKit Go.Sort

def LeastHead (hs ls : List Int) (p k : Nat) : Prop := k ≤ hs.length ∧ (∀ j, k ≤ j → j < hs.length → lat hs ls j = lat hs ls (j + p)) ∧ (k = 0 ∨ lat hs ls (k - 1) ≠ lat hs ls (k - 1 + p))

theorem IntSl.form {w : World} {v : Value} {zs : List Int} (h : IntSl w v zs) {n : Nat} (hn : zs.length = n) : ∃ a cap, v = .slice a n cap := by
  obtain ⟨a, cap, rfl, _⟩ := h
  exact ⟨a, cap, by rw [hn]⟩

theorem pieceOf_length (hs ls : List Int) (f c : Nat) : (pieceOf hs ls f c).length = c := by simp [pieceOf]

theorem chk_zero {hs ls : List Int} {n : Int} (h : chk hs ls n = 0) : hs.length ≤ 4000 ∧ ls.length ≤ 4000 ∧ 0 < ls.length ∧ 1 ≤ n ∧ n ≤ 8 := by
  unfold chk at h
  split at h
  · cases h
  · split at h
    · cases h
    · split at h
      · cases h
      · omega

end Go.Proofs.YtpiacnnifdjlkaaGreatDoor

/-
  What LeastOf of the reference answers.
-/
namespace Go.Proofs.YtpiacnnifdjlkaaGreatDoor
open Go.RowKit Go.Sort

/-- What stands behind the head is the same n further on, all along. -/
def IsShift (hs ls : List Int) (n : Nat) : Prop := ∀ i, hs.length ≤ i → i < hs.length + ls.length → lat hs ls i = lat hs ls (i + n)

def LeastShift (hs ls : List Int) (n : Nat) : Prop := 1 ≤ n ∧ n ≤ ls.length ∧ IsShift hs ls n ∧ ∀ q, 1 ≤ q → IsShift hs ls q → n ≤ q

theorem isShift_all (hs ls : List Int) : IsShift hs ls ls.length := by
  intro i h1 h2
  unfold lat
  rw [if_neg (by omega), if_neg (by omega)]
  congr 1
  rw [show i + ls.length - hs.length = (i - hs.length) + ls.length by omega, Nat.add_mod_right]

theorem grown_of_below {w w' : World} (h : Below w.heap.size w w') : w.grownBy w' none := ⟨h.os, h.tape, h.output, h.size, fun k hk _ => h.block k hk⟩

theorem owns_below {w w' : World} {base : Nat} {e : TypeId} {size : Nat} {v : Value} {n : Nat} {xs : List Value} (h : w.ownsRow base e size v n xs) (hb : Below w.heap.size w w') : w'.ownsRow base e size v n xs :=
  h.kept (grown_of_below hb) (by cases hv : v.ownBlock <;> simp)

theorem owns_form {w : World} {base : Nat} {e : TypeId} {size : Nat} {v : Value} {n : Nat} {xs : List Value} (h : w.ownsRow base e size v n xs) : ∃ a cap, v = .slice a n cap := by
  rcases h.2 with ⟨rfl, rfl⟩ | ⟨g, cap, cur, rfl, _⟩
  · exact ⟨none, 0, rfl⟩
  · exact ⟨_, _, rfl⟩

/-- append at a step of a region that draws its order; the new slice written out. -/
theorem step_append_sl2 {ops : Array Oper} {o : Oper} {a : Act} {K : Act → World → Prop} {Q : Exit → Act → World → Prop} {E : Prop} {w : World} (hgd : o.guard = none) (s x : Operand)
    (ho : o.op = .call { callee := .builtin .append, args := #[s, x], argTypes := #[24, 24] })
    (base : Nat) (v : Value) (n : Nat) (xs : List Value) (hs : a.eval s = v) (hown : w.ownsRow base 3 1 v n xs) (sv : Value) (zs : List Int) (hx : a.eval x = sv) (hz : IntSl w sv zs)
    (h63 : n + zs.length ≤ 1000000) (hbase : base ≤ w.heap.size)
    (h : ∀ ad cap w', w'.ownsRow base 3 1 (.slice ad (n + zs.length) cap) (n + zs.length) (xs ++ zs.map (.int .i64)) → Below base w w' → (∀ b o, b < base → w'.cell? ⟨b, o, none⟩ = w.cell? ⟨b, o, none⟩) → (∀ b o, b < base → w'.frozen? ⟨b, o, none⟩ = w.frozen? ⟨b, o, none⟩) → base ≤ w'.heap.size → K (a.put o.dst (.slice ad (n + zs.length) cap)) w') :
    if Region.wanted o (yielded ops a.tmps) = true then Oper.wp Tryz.prog o a w K Q else E :=
  step_append_sl hgd s x ho base v n xs hs hown sv zs hx hz h63 hbase fun v' w' h2 hb hc hsz => by
    obtain ⟨ad, cap, rfl⟩ := owns_form h2
    exact h ad cap w' h2 hb hc (fun b o hlt => hb.frozen (p := ⟨b, o, none⟩) hlt) hsz

/-- A call of a Go function at a step of a region that draws its order. -/
theorem step_call {ops : Array Oper} {o : Oper} {a : Act} {K : Act → World → Prop} {Q : Exit → Act → World → Prop} {E : Prop} {w : World} (hgd : o.guard = none) (f : Nat) (args : List Operand) (tys : Array TypeId)
    (ho : o.op = .call { callee := .value (.func f), args := args.toArray, argTypes := tys }) (hf : ∀ args w, (callFunc f args).run Tryz.prog w = .ok (.enter f args) w)
    (h : Calls Tryz.prog f (args.map a.eval).toArray w fun e w' => ∃ v, e = .returned v ∧ K (a.put o.dst v) w') :
    if Region.wanted o (yielded ops a.tmps) = true then Oper.wp Tryz.prog o a w K Q else E := by
  have hw : Region.wanted o (yielded ops a.tmps) = true := by simp [Region.wanted, hgd]
  rw [if_pos hw]
  have hrun : (execOp a.eval o).run Tryz.prog w = .ok (.enter f (args.map a.eval).toArray) w := by
    unfold execOp
    simp only [ho, resolve, Deferred.ofValue, invoke, Sem.run_bind, Sem.run_pure, Result.andThen_ok, List.map_toArray, Act.eval, Array.empty_append, Array.append_empty, hf]
  unfold Oper.wp
  rw [hrun, Oper.upon_enter]
  exact h.mono fun e w' ⟨v, he, hk⟩ => by subst he; exact hk

theorem intSl_one (w : World) (g : Nat) (x : Int) (h : w.cell? ⟨g, 0, none⟩ = some (.int .i64 x)) : IntSl w (.slice (some ⟨g, 0, none⟩) 1 1) [x] :=
  ⟨_, _, rfl, by simp [maxLen], Or.inr ⟨g, 0, rfl, fun i hi => by
    have : i = 0 := by simpa using hi
    subst this
    exact h⟩, (fun h => by cases h), by simp⟩

theorem IntSl.belowB {w w' : World} {v : Value} {zs : List Int} {B : Nat} (h : IntSl w v zs) (hb : Below B w w') (hk : ∀ k, v.ownBlock = some k → k < B) : IntSl w' v zs := by
  obtain ⟨a, cap, rfl, hm, h, hn⟩ := h
  refine ⟨a, cap, rfl, hm, ?_, hn⟩
  rcases h with h | ⟨b, off, rfl, hc⟩
  · exact Or.inl h
  · exact Or.inr ⟨b, off, rfl, fun i hi => by rw [hb.cell (p := ⟨b, off + i, none⟩) (hk b rfl)]; exact hc i hi⟩

theorem pieceOf_succ (hs ls : List Int) (f m : Nat) : pieceOf hs ls f (m + 1) = pieceOf hs ls f m ++ [lat hs ls (f + m)] := by
  simp [pieceOf, List.range_succ]

end Go.Proofs.YtpiacnnifdjlkaaGreatDoor

namespace Go.Proofs.YtpiacnnifdjlkaaGreatDoor
open Go.RowKit

def cyc (ls : List Int) (j : Nat) : Int := ls.getD (j % ls.length) 0

theorem lat_cyc (hs ls : List Int) (j : Nat) : lat hs ls (hs.length + j) = cyc ls j := by
  unfold lat cyc
  rw [if_neg (by omega), Nat.add_sub_cancel_left]

theorem cyc_mod (ls : List Int) (j : Nat) : cyc ls (j % ls.length) = cyc ls j := by
  unfold cyc
  rw [Nat.mod_mod]

theorem cyc_len (ls : List Int) (j : Nat) : cyc ls (j + ls.length) = cyc ls j := by
  unfold cyc
  rw [Nat.add_mod_right]

/-- The word behind its head is the same n further on. -/
def Period (ls : List Int) (n : Nat) : Prop := ∀ j, cyc ls j = cyc ls (j + n)

theorem period_of_shift {hs ls : List Int} {n : Nat} (h0 : 0 < ls.length) (h : IsShift hs ls n) : Period ls n := by
  intro j
  have h1 := h (hs.length + j % ls.length) (by omega) (by have := Nat.mod_lt j h0; omega)
  rw [lat_cyc, Nat.add_assoc, lat_cyc, cyc_mod] at h1
  rw [h1]
  unfold cyc
  rw [Nat.mod_add_mod]

theorem shift_of_period {hs ls : List Int} {n : Nat} (h : Period ls n) : IsShift hs ls n := by
  intro i h1 _
  obtain ⟨j, rfl⟩ : ∃ j, i = hs.length + j := ⟨i - hs.length, by omega⟩
  rw [lat_cyc, Nat.add_assoc, lat_cyc]
  exact h j

theorem period_mul {ls : List Int} {n : Nat} (h : Period ls n) (q j : Nat) : cyc ls j = cyc ls (j + n * q) := by
  induction q with
  | zero => rfl
  | succ q ih => rw [ih, h (j + n * q), Nat.mul_succ, Nat.add_assoc]

theorem per_step {ls : List Int} {p : Nat} (h : IsPer ls p) (j : Nat) (hj : j + p < ls.length) : ls.getD (j + p) 0 = ls.getD j 0 := by
  have h4 := h.2.2.2
  have h1 : (ls.drop p).getD j 0 = (ls.take (ls.length - p)).getD j 0 := by rw [h4]
  simp only [List.getD, List.getElem?_drop, List.getElem?_take] at h1
  rw [if_pos (by omega), Nat.add_comm p j] at h1
  exact h1

theorem per_mul {ls : List Int} {p : Nat} (h : IsPer ls p) (r q : Nat) (hj : r + p * q < ls.length) : ls.getD (r + p * q) 0 = ls.getD r 0 := by
  induction q with
  | zero => rfl
  | succ q ih =>
    rw [Nat.mul_succ, ← Nat.add_assoc] at hj ⊢
    rw [per_step h _ hj, ih (by omega)]

theorem period_of_per {ls : List Int} {p : Nat} (h : IsPer ls p) : Period ls p := by
  have h0 : 0 < ls.length := by have := h.1; have := h.2.1; omega
  have key : ∀ i, i < ls.length → cyc ls i = ls.getD (i % p) 0 := by
    intro i hi
    have e : i % p + p * (i / p) = i := Nat.mod_add_div i p
    unfold cyc
    rw [Nat.mod_eq_of_lt hi]
    have := per_mul h (i % p) (i / p) (by rw [e]; exact hi)
    rw [e] at this
    exact this
  have dv : p ∣ ls.length := Nat.dvd_of_mod_eq_zero h.2.2.1
  have all : ∀ j, cyc ls j = ls.getD (j % p) 0 := by
    intro j
    rw [← cyc_mod, key _ (Nat.mod_lt _ h0), Nat.mod_mod_of_dvd _ dv]
  intro j
  rw [all j, all (j + p), Nat.add_mod_right]

theorem per_of_period {ls : List Int} {n : Nat} (h1 : 1 ≤ n) (h2 : n ≤ ls.length) (hd : ls.length % n = 0) (h : Period ls n) : IsPer ls n := by
  refine ⟨h1, h2, hd, ?_⟩
  apply List.ext_getElem
  · simp
  · intro i hi1 hi2
    have hi : i < ls.length - n := by simpa using hi1
    have e := h i
    unfold cyc at e
    rw [Nat.mod_eq_of_lt (by omega), Nat.mod_eq_of_lt (show i + n < ls.length by omega)] at e
    simp [List.getD, show i < ls.length by omega, show i + n < ls.length by omega] at e
    simp [e, Nat.add_comm]

theorem least_same {hs ls : List Int} {n p : Nat} (hn : LeastShift hs ls n) (hp : LeastPer ls p) : n = p := by
  obtain ⟨h1, h2, h3, h4⟩ := hn
  have h0 : 0 < ls.length := by omega
  have hpn := period_of_shift h0 h3
  have hmod : ls.length % n = 0 := by
    rcases Nat.eq_zero_or_pos (ls.length % n) with h | h
    · exact h
    · have hr : Period ls (ls.length % n) := by
        intro j
        have e : ls.length % n + n * (ls.length / n) = ls.length := Nat.mod_add_div _ _
        have := period_mul hpn (ls.length / n) (j + ls.length % n)
        rw [Nat.add_assoc, e, cyc_len] at this
        exact this.symm
      have := h4 _ h (shift_of_period hr)
      have := Nat.mod_lt ls.length (show 0 < n by omega)
      omega
  have a := hp.2 n (per_of_period h1 h2 hmod hpn)
  have b := h4 p hp.1.1 (shift_of_period (period_of_per hp.1))
  omega

theorem head_same {hs ls : List Int} {p k k' : Nat} (h : LeastHead hs ls p k) (h' : LeastHead hs ls p k') : k = k' := by
  have aux : ∀ {a b : Nat}, LeastHead hs ls p a → LeastHead hs ls p b → ¬ a < b := by
    intro a b ha hb hlt
    rcases hb.2.2 with h | h
    · omega
    · exact h (ha.2.1 (b - 1) (by omega) (by have := hb.1; omega))
  have := aux h h'
  have := aux h' h
  omega

/-- The least lasso of a word, and the same of the reference, have the same letters. -/
theorem leasts_same {hs ls : List Int} {p k p' k' : Nat} (hp : LeastPer ls p) (hk : LeastHead hs ls p k) (hp' : LeastShift hs ls p') (hk' : LeastHead hs ls p' k') : pieceOf hs ls 0 k = pieceOf hs ls 0 k' ∧ pieceOf hs ls k p = pieceOf hs ls k' p' := by
  have e := least_same hp' hp
  subst e
  have e2 := head_same hk hk'
  subst e2
  exact ⟨rfl, rfl⟩
end Go.Proofs.YtpiacnnifdjlkaaGreatDoor
