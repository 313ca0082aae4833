/-
  Small facts: slices of ints and of bools as they lie in memory, the letter of a lasso at a place, and what the leaves of package word and of the reference answer.
-/
import Derived.Test.YtpiacnnifdjlkaaRows
import Derived.WalkKit
import Derived.WalkSpells
import Derived.WalkLawsBesides
import Derived.BigQuiet
import Derived.Deep.QuietTactic
import Derived.Lib.QuietBelow
namespace Go.Proofs.Ytpiacnnifdjlkaa
open Go.RowKit

theorem hide {p : Prop} (h : p) : Hid p := h

/-- A slice of ints that reads as this list. -/
def IntSl (w : World) (v : Value) (zs : List Int) : Prop :=
  ∃ a cap, v = .slice a zs.length cap ∧ zs.length ≤ maxLen ∧ (zs = [] ∨ ∃ b off, a = some ⟨b, off, none⟩ ∧ ∀ i, i < zs.length → w.cell? ⟨b, off + i, none⟩ = some (.int .i64 (zs.getD i 0))) ∧ (a = none → cap = 0) ∧ zs.length ≤ cap

theorem IntSl.below {w w' : World} {v : Value} {zs : List Int} (h : IntSl w v zs) (hb : Below w.heap.size w w') : IntSl w' v zs := by
  obtain ⟨a, cap, rfl, hm, h, hn⟩ := h
  refine ⟨a, cap, rfl, hm, ?_, hn⟩
  rcases h with h | ⟨b, off, rfl, hc⟩
  · exact Or.inl h
  · refine Or.inr ⟨b, off, rfl, fun i hi => ?_⟩
    have := hc i hi
    rw [hb.cell (World.block_lt_of_cell? w _ this)]; exact this

theorem IntSl.setCell {w : World} {v : Value} {zs : List Int} (h : IntSl w v zs) {a : Addr} (hne : ∀ k, v.ownBlock = some k → k ≠ a.block) (u : Value) : IntSl (w.setCell a u) v zs := by
  obtain ⟨b, cap, rfl, hm, h, hn⟩ := h
  refine ⟨b, cap, rfl, hm, ?_, hn⟩
  rcases h with h | ⟨b, off, rfl, hc⟩
  · exact Or.inl h
  · refine Or.inr ⟨b, off, rfl, fun i hi => ?_⟩
    rw [World.cell?_setCell_other _ _ _ _ (fun e => hne b rfl (by rw [e]))]
    exact hc i hi

theorem below_trans {w w1 w2 : World} (h : Below w.heap.size w w1) (k : Below w1.heap.size w1 w2) : Below w.heap.size w w2 :=
  h.trans (k.mono h.size)

theorem below_drawn (w : World) (n : Nat) : Below w.heap.size w (w.drewN n) := below_drewN (Below.refl _ _) n

theorem below_new (w : World) (o : Obj) : Below w.heap.size w (w.alloc o) := (Below.refl _ _).alloc (Nat.le_refl _) o

def lat (hs ls : List Int) (i : Nat) : Int := if i < hs.length then hs.getD i 0 else ls.getD ((i - hs.length) % ls.length) 0

set_option maxHeartbeats 400000 in
theorem letterAtR_head (b off n cap : Nat) (v1 : Value) (i : Nat) (x : Int) (w : World) (hi : i < n) (_hn : n ≤ maxLen)
    (hx : w.cell? ⟨b, off + i, none⟩ = some (.int .i64 x)) (hb : b < w.heap.size) :
    Calls Try.prog 28 #[.agg #[.slice (some ⟨b, off, none⟩) n cap, v1], .int .i64 i] w fun e w' => e = .returned (.int .i64 x) ∧ Below w.heap.size w w' := by
  unfold maxLen at _hn
  go_enter Try.func28, Try.ntmps28
  go_wp2
  go_ret
  exact ⟨rfl, (Below.refl _ _).alloc (Nat.le_refl _) _⟩

set_option maxHeartbeats 400000 in
theorem letterAtR_loop (b off n cap h0 c0 : Nat) (a0 : Option Addr) (i : Nat) (x : Int) (w : World) (hi : h0 ≤ i) (hn : n ≤ maxLen) (hh : h0 ≤ maxLen) (hni : (i : Int) ≤ 9223372036854775807) (hnn : 0 < n)
    (hx : w.cell? ⟨b, off + (i - h0) % n, none⟩ = some (.int .i64 x)) (hb : b < w.heap.size) :
    Calls Try.prog 28 #[.agg #[.slice a0 h0 c0, .slice (some ⟨b, off, none⟩) n cap], .int .i64 i] w fun e w' => e = .returned (.int .i64 x) ∧ Below w.heap.size w w' := by
  unfold maxLen at hn hh
  have hn0 : ((n : Int) == 0) = false := by rw [beq_eq_false_iff_ne]; omega
  have hn1 : ¬ (n : Int) = 0 := by omega
  have he : ((i : Int) - h0) % n = ((i - h0) % n : Nat) := by rw [← Int.ofNat_sub hi]; rfl
  have hq1 : 0 ≤ ((i : Int) - h0) % n := by rw [he]; omega
  have hq2 : ((i : Int) - h0) % n < n := by rw [he]; have := Nat.mod_lt (i - h0) hnn; omega
  clear he
  go_enter Try.func28, Try.ntmps28
  go_wp2
  refine wp_region_quiet_lit (by kernel_rfl) (by kernel_rfl) ?_
  repeat (go_big_quiet_step (fail))
  refine wpQuiet_nil ?_
  intro _ hw'; obtain ⟨nq, hw''⟩ := hw'; subst hw''
  go_wp2
  go_ret
  exact ⟨rfl, below_drewN ((Below.refl _ _).alloc (Nat.le_refl _) _) _⟩

theorem letterAtR_any {hv lv : Value} {hs ls : List Int} {w : World} (hh : IntSl w hv hs) (hl : IntSl w lv ls) (i : Int) (h0 : 0 ≤ i) (hi : i ≤ 9223372036854775807) (hne : ls ≠ []) :
    Calls Try.prog 28 #[.agg #[hv, lv], .int .i64 i] w fun e w' => e = .returned (.int .i64 (lat hs ls i.toNat)) ∧ Below w.heap.size w w' := by
  obtain ⟨k, rfl⟩ := Int.eq_ofNat_of_zero_le h0
  obtain ⟨a0, c0, rfl, hm0, hh, -⟩ := hh
  obtain ⟨a1, c1, rfl, hm1, hl, -⟩ := hl
  have hpos : 0 < ls.length := List.length_pos_iff.2 hne
  unfold lat
  rw [Int.toNat_natCast]
  by_cases hk : k < hs.length
  · rw [if_pos hk]
    rcases hh with hh | ⟨b, off, rfl, hc⟩
    · subst hh; simp at hk
    · have := hc k hk
      exact letterAtR_head b off _ _ _ k _ w hk hm0 this (World.block_lt_of_cell? w _ this)
  · rw [if_neg hk]
    rcases hl with hl | ⟨b, off, rfl, hc⟩
    · exact absurd hl hne
    · have := hc _ (Nat.mod_lt (k - hs.length) hpos)
      exact letterAtR_loop b off _ _ _ _ _ k _ w (by omega) hm1 hm0 hi hpos this (World.block_lt_of_cell? w _ this)

set_option maxHeartbeats 400000 in
theorem between_any (a b c : Int) (w : World) :
    Calls Try.prog 14 #[.int .i64 a, .int .i64 b, .int .i64 c] w fun e w' => e = .returned (.bool (decide (b ≤ a ∧ a ≤ c))) ∧ w' = w := by
  by_cases h1 : b ≤ a
  · go_enter Try.func14, Try.ntmps14
    go_wp2
    go_ret
    exact ⟨by simp [h1], rfl⟩
  · have h2 : a < b := by omega
    have e : decide (b ≤ a ∧ a ≤ c) = false := by simp; omega
    rw [e]
    clear h1 e
    go_enter Try.func14, Try.ntmps14
    go_wp2
    go_ret
    exact ⟨rfl, rfl⟩

end Go.Proofs.Ytpiacnnifdjlkaa
