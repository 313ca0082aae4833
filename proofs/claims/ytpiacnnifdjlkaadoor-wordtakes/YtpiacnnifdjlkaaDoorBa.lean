/-
  Small facts: slices of ints and of bools as they lie in memory, the letter of a lasso at a place, and what the leaves of package word and of the reference answer.
-/
import Derived.Test.YtpiacnnifdjlkaaDoorRows
import Derived.WalkKit
import Derived.WalkSpells
import Derived.WalkLawsBesides
import Derived.BigQuiet
import Derived.Deep.QuietTactic
import Derived.Lib.QuietBelow
namespace Go.Proofs.YtpiacnnifdjlkaaDoor
open Go.RowKit

theorem hide {p : Prop} (h : p) : Hid p := h

/-- A slice of ints that reads as this list. -/
def IntSl (w : World) (v : Value) (zs : List Int) : Prop :=
  ∃ a cap, v = .slice a zs.length cap ∧ zs.length ≤ maxLen ∧ (zs = [] ∨ ∃ b off, a = some ⟨b, off, none⟩ ∧ ∀ i, i < zs.length → w.cell? ⟨b, off + i, none⟩ = some (.int .i64 (zs.getD i 0))) ∧ (a = none → cap = 0) ∧ zs.length ≤ cap

theorem IntSl.below {w w' : World} {v : Value} {zs : List Int} (h : IntSl w v zs) (hb : Below w.heap.size w w') : IntSl w' v zs := by
  obtain ⟨a, cap, rfl, hm, h, hn⟩ := h
  refine ⟨a, cap, rfl, hm, ?_, hn⟩
  rcases h with h | ⟨b, off, rfl, hc⟩
  · exact Or.inl h
  · refine Or.inr ⟨b, off, rfl, fun i hi => ?_⟩
    have := hc i hi
    rw [hb.cell (World.block_lt_of_cell? w _ this)]; exact this

theorem IntSl.setCell {w : World} {v : Value} {zs : List Int} (h : IntSl w v zs) {a : Addr} (hne : ∀ k, v.ownBlock = some k → k ≠ a.block) (u : Value) : IntSl (w.setCell a u) v zs := by
  obtain ⟨b, cap, rfl, hm, h, hn⟩ := h
  refine ⟨b, cap, rfl, hm, ?_, hn⟩
  rcases h with h | ⟨b, off, rfl, hc⟩
  · exact Or.inl h
  · refine Or.inr ⟨b, off, rfl, fun i hi => ?_⟩
    rw [World.cell?_setCell_other _ _ _ _ (fun e => hne b rfl (by rw [e]))]
    exact hc i hi

theorem below_trans {w w1 w2 : World} (h : Below w.heap.size w w1) (k : Below w1.heap.size w1 w2) : Below w.heap.size w w2 :=
  h.trans (k.mono h.size)

theorem below_drawn (w : World) (n : Nat) : Below w.heap.size w (w.drewN n) := below_drewN (Below.refl _ _) n

theorem below_new (w : World) (o : Obj) : Below w.heap.size w (w.alloc o) := (Below.refl _ _).alloc (Nat.le_refl _) o

def lat (hs ls : List Int) (i : Nat) : Int := if i < hs.length then hs.getD i 0 else ls.getD ((i - hs.length) % ls.length) 0

set_option maxHeartbeats 400000 in
theorem letterAt_head (b off n cap : Nat) (v1 : Value) (i : Nat) (x : Int) (w : World) (hi : i < n) (_hn : n ≤ maxLen)
    (hx : w.cell? ⟨b, off + i, none⟩ = some (.int .i64 x)) (hb : b < w.heap.size) :
    Calls Tryd.prog 62 #[.agg #[.slice (some ⟨b, off, none⟩) n cap, v1], .int .i64 i] w fun e w' => e = .returned (.int .i64 x) ∧ Below w.heap.size w w' := by
  unfold maxLen at _hn
  go_enter Tryd.func62, Tryd.ntmps62
  go_wp2
  go_ret
  exact ⟨rfl, (Below.refl _ _).alloc (Nat.le_refl _) _⟩

set_option maxHeartbeats 400000 in
theorem letterAt_loop (b off n cap h0 c0 : Nat) (a0 : Option Addr) (i : Nat) (x : Int) (w : World) (hi : h0 ≤ i) (hn : n ≤ maxLen) (hh : h0 ≤ maxLen) (hni : (i : Int) ≤ 9223372036854775807) (hnn : 0 < n)
    (hx : w.cell? ⟨b, off + (i - h0) % n, none⟩ = some (.int .i64 x)) (hb : b < w.heap.size) :
    Calls Tryd.prog 62 #[.agg #[.slice a0 h0 c0, .slice (some ⟨b, off, none⟩) n cap], .int .i64 i] w fun e w' => e = .returned (.int .i64 x) ∧ Below w.heap.size w w' := by
  unfold maxLen at hn hh
  have hn0 : ((n : Int) == 0) = false := by rw [beq_eq_false_iff_ne]; omega
  have hn1 : ¬ (n : Int) = 0 := by omega
  have he : ((i : Int) - h0) % n = ((i - h0) % n : Nat) := by rw [← Int.ofNat_sub hi]; rfl
  have hq1 : 0 ≤ ((i : Int) - h0) % n := by rw [he]; omega
  have hq2 : ((i : Int) - h0) % n < n := by rw [he]; have := Nat.mod_lt (i - h0) hnn; omega
  clear he
  go_enter Tryd.func62, Tryd.ntmps62
  go_wp2
  refine wp_region_quiet_lit (by kernel_rfl) (by kernel_rfl) ?_
  repeat (go_big_quiet_step (fail))
  refine wpQuiet_nil ?_
  intro _ hw'; obtain ⟨nq, hw''⟩ := hw'; subst hw''
  go_wp2
  go_ret
  exact ⟨rfl, below_drewN ((Below.refl _ _).alloc (Nat.le_refl _) _) _⟩

theorem letterAt_any {hv lv : Value} {hs ls : List Int} {w : World} (hh : IntSl w hv hs) (hl : IntSl w lv ls) (i : Int) (h0 : 0 ≤ i) (hi : i ≤ 9223372036854775807) (hne : ls ≠ []) :
    Calls Tryd.prog 62 #[.agg #[hv, lv], .int .i64 i] w fun e w' => e = .returned (.int .i64 (lat hs ls i.toNat)) ∧ Below w.heap.size w w' := by
  obtain ⟨k, rfl⟩ := Int.eq_ofNat_of_zero_le h0
  obtain ⟨a0, c0, rfl, hm0, hh, -⟩ := hh
  obtain ⟨a1, c1, rfl, hm1, hl, -⟩ := hl
  have hpos : 0 < ls.length := List.length_pos_iff.2 hne
  unfold lat
  rw [Int.toNat_natCast]
  by_cases hk : k < hs.length
  · rw [if_pos hk]
    rcases hh with hh | ⟨b, off, rfl, hc⟩
    · subst hh; simp at hk
    · have := hc k hk
      exact letterAt_head b off _ _ _ k _ w hk hm0 this (World.block_lt_of_cell? w _ this)
  · rw [if_neg hk]
    rcases hl with hl | ⟨b, off, rfl, hc⟩
    · exact absurd hl hne
    · have := hc _ (Nat.mod_lt (k - hs.length) hpos)
      exact letterAt_loop b off _ _ _ _ _ k _ w (by omega) hm1 hm0 hi hpos this (World.block_lt_of_cell? w _ this)

set_option maxHeartbeats 400000 in
theorem letterAtR_head (b off n cap : Nat) (v1 : Value) (i : Nat) (x : Int) (w : World) (hi : i < n) (_hn : n ≤ maxLen)
    (hx : w.cell? ⟨b, off + i, none⟩ = some (.int .i64 x)) (hb : b < w.heap.size) :
    Calls Tryd.prog 28 #[.agg #[.slice (some ⟨b, off, none⟩) n cap, v1], .int .i64 i] w fun e w' => e = .returned (.int .i64 x) ∧ Below w.heap.size w w' := by
  unfold maxLen at _hn
  go_enter Tryd.func28, Tryd.ntmps28
  go_wp2
  go_ret
  exact ⟨rfl, (Below.refl _ _).alloc (Nat.le_refl _) _⟩

set_option maxHeartbeats 400000 in
theorem letterAtR_loop (b off n cap h0 c0 : Nat) (a0 : Option Addr) (i : Nat) (x : Int) (w : World) (hi : h0 ≤ i) (hn : n ≤ maxLen) (hh : h0 ≤ maxLen) (hni : (i : Int) ≤ 9223372036854775807) (hnn : 0 < n)
    (hx : w.cell? ⟨b, off + (i - h0) % n, none⟩ = some (.int .i64 x)) (hb : b < w.heap.size) :
    Calls Tryd.prog 28 #[.agg #[.slice a0 h0 c0, .slice (some ⟨b, off, none⟩) n cap], .int .i64 i] w fun e w' => e = .returned (.int .i64 x) ∧ Below w.heap.size w w' := by
  unfold maxLen at hn hh
  have hn0 : ((n : Int) == 0) = false := by rw [beq_eq_false_iff_ne]; omega
  have hn1 : ¬ (n : Int) = 0 := by omega
  have he : ((i : Int) - h0) % n = ((i - h0) % n : Nat) := by rw [← Int.ofNat_sub hi]; rfl
  have hq1 : 0 ≤ ((i : Int) - h0) % n := by rw [he]; omega
  have hq2 : ((i : Int) - h0) % n < n := by rw [he]; have := Nat.mod_lt (i - h0) hnn; omega
  clear he
  go_enter Tryd.func28, Tryd.ntmps28
  go_wp2
  refine wp_region_quiet_lit (by kernel_rfl) (by kernel_rfl) ?_
  repeat (go_big_quiet_step (fail))
  refine wpQuiet_nil ?_
  intro _ hw'; obtain ⟨nq, hw''⟩ := hw'; subst hw''
  go_wp2
  go_ret
  exact ⟨rfl, below_drewN ((Below.refl _ _).alloc (Nat.le_refl _) _) _⟩

theorem letterAtR_any {hv lv : Value} {hs ls : List Int} {w : World} (hh : IntSl w hv hs) (hl : IntSl w lv ls) (i : Int) (h0 : 0 ≤ i) (hi : i ≤ 9223372036854775807) (hne : ls ≠ []) :
    Calls Tryd.prog 28 #[.agg #[hv, lv], .int .i64 i] w fun e w' => e = .returned (.int .i64 (lat hs ls i.toNat)) ∧ Below w.heap.size w w' := by
  obtain ⟨k, rfl⟩ := Int.eq_ofNat_of_zero_le h0
  obtain ⟨a0, c0, rfl, hm0, hh, -⟩ := hh
  obtain ⟨a1, c1, rfl, hm1, hl, -⟩ := hl
  have hpos : 0 < ls.length := List.length_pos_iff.2 hne
  unfold lat
  rw [Int.toNat_natCast]
  by_cases hk : k < hs.length
  · rw [if_pos hk]
    rcases hh with hh | ⟨b, off, rfl, hc⟩
    · subst hh; simp at hk
    · have := hc k hk
      exact letterAtR_head b off _ _ _ k _ w hk hm0 this (World.block_lt_of_cell? w _ this)
  · rw [if_neg hk]
    rcases hl with hl | ⟨b, off, rfl, hc⟩
    · exact absurd hl hne
    · have := hc _ (Nat.mod_lt (k - hs.length) hpos)
      exact letterAtR_loop b off _ _ _ _ _ k _ w (by omega) hm1 hm0 hi hpos this (World.block_lt_of_cell? w _ this)

set_option maxHeartbeats 400000 in
theorem sameInts_go (n b0 off0 c0 b1 off1 c1 : Nat) (f g : Nat → Int) (r : Bool) (w : World) (hm : n ≤ maxLen)
    (hx : ∀ i, i < n → w.cell? ⟨b0, off0 + i, none⟩ = some (.int .i64 (f i)))
    (hy : ∀ i, i < n → w.cell? ⟨b1, off1 + i, none⟩ = some (.int .i64 (g i))) (hr : r = true ↔ ∀ i, i < n → f i = g i) :
    Calls Tryd.prog 60 #[.slice (some ⟨b0, off0, none⟩) n c0, .slice (some ⟨b1, off1, none⟩) n c1] w fun e w' => e = .returned (.bool r) ∧ ∃ m, w' = w.drewN m := by
  unfold maxLen at hm
  have hne : ((n : Int) != n) = false := by simp
  have Hr : Hid (r = true ↔ ∀ i, i < n → f i = g i) := hr
  clear hr
  go_enter Tryd.func60, Tryd.ntmps60
  go_wp2
  go_loopw [5] (fun i wr => ∃ k : Nat, k ≤ n ∧ i = .int .i64 k ∧ (∀ j, j < k → f j = g j) ∧ ∃ m, wr = w.drewN m) (fun i _ => n - (intOf i).toNat)
  case atStart => exact ⟨0, Nat.zero_le _, rfl, fun j hj => by omega, 0, rfl⟩
  case round =>
    obtain ⟨k, hk, rfl, htk, m, rfl⟩ := hrel
    have Htk : Hid (∀ j, j < k → f j = g j) := htk
    clear htk
    by_cases hlt : k < n
    · have hx' := hx k (by omega)
      have hy' := hy k (by omega)
      clear hx hy
      generalize hex : f k = x at *
      generalize hey : g k = y at *
      have Hex : Hid (f k = x) := hex
      have Hey : Hid (g k = y) := hey
      clear hex hey
      by_cases hxy : x = y
      · have hb : (x != y) = false := by simpa using hxy
        have Hxy : Hid (x = y) := hxy
        clear hxy
        go_wp2
        refine wp_region_quiet_lit (by kernel_rfl) (by kernel_rfl) ?_
        repeat (go_big_quiet_step (fail))
        refine wpQuiet_nil ?_
        intro _ hw'; obtain ⟨nq, hw''⟩ := hw'; subst hw''
        go_wp2
        go_roundw
        case rel => exact ⟨k + 1, by omega, by go_num, fun j hj => by
          by_cases e : j = k
          · subst e; rw [Hex.out, Hey.out]; exact Hxy.out
          · exact Htk.out j (by omega), m + nq, rfl⟩
        case measure => simp [intOf]; omega
      · have hb : (x != y) = true := by simpa using hxy
        have Hxy : Hid (¬ x = y) := hxy
        clear hxy
        go_wp2
        refine wp_region_quiet_lit (by kernel_rfl) (by kernel_rfl) ?_
        repeat (go_big_quiet_step (fail))
        refine wpQuiet_nil ?_
        intro _ hw'; obtain ⟨nq, hw''⟩ := hw'; subst hw''
        go_wp2
        go_ret
        have : r = false := by
          cases r with
          | false => rfl
          | true => exact absurd (by rw [← Hex.out, ← Hey.out]; exact Hr.out.1 rfl k hlt) Hxy.out
        subst this
        exact ⟨rfl, m + nq, by rw [World.drewN_drewN]⟩
    · go_wp2
      go_ret
      have : r = true := Hr.out.2 fun i hi => Htk.out i (by omega)
      subst this
      exact ⟨rfl, m, rfl⟩

set_option maxHeartbeats 400000 in
theorem between_any (a b c : Int) (w : World) :
    Calls Tryd.prog 50 #[.int .i64 a, .int .i64 b, .int .i64 c] w fun e w' => e = .returned (.bool (decide (b ≤ a ∧ a ≤ c))) ∧ w' = w := by
  by_cases h1 : b ≤ a
  · go_enter Tryd.func50, Tryd.ntmps50
    go_wp2
    go_ret
    exact ⟨by simp [h1], rfl⟩
  · have h2 : a < b := by omega
    have e : decide (b ≤ a ∧ a ≤ c) = false := by simp; omega
    rw [e]
    clear h1 e
    go_enter Tryd.func50, Tryd.ntmps50
    go_wp2
    go_ret
    exact ⟨rfl, rfl⟩

end Go.Proofs.YtpiacnnifdjlkaaDoor
