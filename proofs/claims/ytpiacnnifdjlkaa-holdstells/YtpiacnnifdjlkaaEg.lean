/-
  Rows of bools as they lie in memory; what the rules of nodes answer.
-/
import Derived.Test.YtpiacnnifdjlkaaEf
namespace Go.Proofs.Ytpiacnnifdjlkaa
open Go.RowKit Go.Sort

/-- A slice of bools that reads as this list. -/
def RowSl (w : World) (v : Value) (zs : List Bool) : Prop :=
  ∃ a cap, v = .slice a zs.length cap ∧ zs.length ≤ maxLen ∧ (zs = [] ∨ ∃ b off, a = some ⟨b, off, none⟩ ∧ ∀ i, i < zs.length → w.cell? ⟨b, off + i, none⟩ = some (.bool (zs.getD i false))) ∧ (a = none → cap = 0) ∧ zs.length ≤ cap

theorem RowSl.below {w w' : World} {v : Value} {zs : List Bool} (h : RowSl w v zs) (hb : Below w.heap.size w w') : RowSl w' v zs := by
  obtain ⟨a, cap, rfl, hm, h, hn⟩ := h
  refine ⟨a, cap, rfl, hm, ?_, hn⟩
  rcases h with h | ⟨b, off, rfl, hc⟩
  · exact Or.inl h
  · refine Or.inr ⟨b, off, rfl, fun i hi => ?_⟩
    have := hc i hi
    rw [hb.cell (World.block_lt_of_cell? w _ this)]; exact this

theorem RowSl.at {w : World} {v : Value} {zs : List Bool} (h : RowSl w v zs) (i : Nat) (hi : i < zs.length) : ∃ b off cap, v = .slice (some ⟨b, off, none⟩) zs.length cap ∧ w.cell? ⟨b, off + i, none⟩ = some (.bool (zs.getD i false)) ∧ zs.length ≤ 9223372036854775807 := by
  obtain ⟨a, cap, rfl, hm, h, hn⟩ := h
  rcases h with h | ⟨b, off, rfl, hc⟩
  · subst h; simp at hi
  · exact ⟨b, off, cap, rfl, hc i hi, by unfold maxLen at hm; omega⟩

theorem IntSl.at {w : World} {v : Value} {zs : List Int} (h : IntSl w v zs) (i : Nat) (hi : i < zs.length) : ∃ b off cap, v = .slice (some ⟨b, off, none⟩) zs.length cap ∧ w.cell? ⟨b, off + i, none⟩ = some (.int .i64 (zs.getD i 0)) ∧ zs.length ≤ 9223372036854775807 := by
  obtain ⟨a, cap, rfl, hm, h, hn⟩ := h
  rcases h with h | ⟨b, off, rfl, hc⟩
  · subst h; simp at hi
  · exact ⟨b, off, cap, rfl, hc i hi, by unfold maxLen at hm; omega⟩

set_option maxHeartbeats 400000 in
theorem rule2_any {w : World} {av : Value} {A : List Bool} (i : Nat) (nx : Bool) (pa : Nat) (ha : w.cell? ⟨pa, 0, none⟩ = some av) (hA : RowSl w av A) (hi : i < A.length) :
    Calls Try.prog 34 #[.int .i64 i, .bool nx, .pointer (some ⟨pa, 0, none⟩)] w fun e w' => e = .returned (.bool (!A.getD i false)) ∧ w' = w := by
  obtain ⟨b, off, cap, rfl, hc, hm⟩ := hA.at i hi
  clear hA
  generalize A.getD i false = x at *
  go_enter Try.func34, Try.ntmps34
  go_wp2_with (fail)
  go_ret
  exact ⟨rfl, rfl⟩

set_option maxHeartbeats 400000 in
theorem rule8_any {w : World} (i : Int) (nx : Bool) :
    Calls Try.prog 41 #[.int .i64 i, .bool nx] w fun e w' => e = .returned (.bool true) ∧ w' = w := by
  go_enter Try.func41, Try.ntmps41
  go_wp2_with (fail)
  go_ret
  exact ⟨rfl, rfl⟩

set_option maxHeartbeats 400000 in
theorem rule3_any {w : World} {av bv : Value} {A B : List Bool} (i : Nat) (nx : Bool) (pa pb : Nat) (ha : w.cell? ⟨pa, 0, none⟩ = some av) (hA : RowSl w av A) (hi : i < A.length) (hb : w.cell? ⟨pb, 0, none⟩ = some bv) (hB : RowSl w bv B) (hj : i < B.length) :
    Calls Try.prog 35 #[.int .i64 i, .bool nx, .pointer (some ⟨pa, 0, none⟩), .pointer (some ⟨pb, 0, none⟩)] w fun e w' => e = .returned (.bool (A.getD i false && B.getD i false)) ∧ w' = w := by
  obtain ⟨b, off, cap, rfl, hc, hm⟩ := hA.at i hi
  obtain ⟨b', off', cap', rfl, hc', hm'⟩ := hB.at i hj
  clear hA hB
  generalize A.getD i false = x at *
  generalize B.getD i false = y at *
  cases x <;> cases y <;> (
    go_enter Try.func35, Try.ntmps35
    go_wp2_with (fail)
    go_ret
    exact ⟨by first | rfl | (cases nx <;> rfl), rfl⟩)

set_option maxHeartbeats 400000 in
theorem rule4_any {w : World} {av bv : Value} {A B : List Bool} (i : Nat) (nx : Bool) (pa pb : Nat) (ha : w.cell? ⟨pa, 0, none⟩ = some av) (hA : RowSl w av A) (hi : i < A.length) (hb : w.cell? ⟨pb, 0, none⟩ = some bv) (hB : RowSl w bv B) (hj : i < B.length) :
    Calls Try.prog 36 #[.int .i64 i, .bool nx, .pointer (some ⟨pa, 0, none⟩), .pointer (some ⟨pb, 0, none⟩)] w fun e w' => e = .returned (.bool (A.getD i false || B.getD i false)) ∧ w' = w := by
  obtain ⟨b, off, cap, rfl, hc, hm⟩ := hA.at i hi
  obtain ⟨b', off', cap', rfl, hc', hm'⟩ := hB.at i hj
  clear hA hB
  generalize A.getD i false = x at *
  generalize B.getD i false = y at *
  cases x <;> cases y <;> (
    go_enter Try.func36, Try.ntmps36
    go_wp2_with (fail)
    go_ret
    exact ⟨by first | rfl | (cases nx <;> rfl), rfl⟩)

set_option maxHeartbeats 400000 in
theorem rule6_any {w : World} {av bv : Value} {A B : List Bool} (i : Nat) (nx : Bool) (pa pb : Nat) (ha : w.cell? ⟨pa, 0, none⟩ = some av) (hA : RowSl w av A) (hi : i < A.length) (hb : w.cell? ⟨pb, 0, none⟩ = some bv) (hB : RowSl w bv B) (hj : i < B.length) :
    Calls Try.prog 39 #[.int .i64 i, .bool nx, .pointer (some ⟨pb, 0, none⟩), .pointer (some ⟨pa, 0, none⟩)] w fun e w' => e = .returned (.bool (B.getD i false || A.getD i false && nx)) ∧ w' = w := by
  obtain ⟨b, off, cap, rfl, hc, hm⟩ := hA.at i hi
  obtain ⟨b', off', cap', rfl, hc', hm'⟩ := hB.at i hj
  clear hA hB
  generalize A.getD i false = x at *
  generalize B.getD i false = y at *
  cases x <;> cases y <;> (
    go_enter Try.func39, Try.ntmps39
    go_wp2_with (fail)
    go_ret
    exact ⟨by first | rfl | (cases nx <;> rfl), rfl⟩)

set_option maxHeartbeats 400000 in
theorem rule7_any {w : World} {av bv : Value} {A B : List Bool} (i : Nat) (nx : Bool) (pa pb : Nat) (ha : w.cell? ⟨pa, 0, none⟩ = some av) (hA : RowSl w av A) (hi : i < A.length) (hb : w.cell? ⟨pb, 0, none⟩ = some bv) (hB : RowSl w bv B) (hj : i < B.length) :
    Calls Try.prog 40 #[.int .i64 i, .bool nx, .pointer (some ⟨pb, 0, none⟩), .pointer (some ⟨pa, 0, none⟩)] w fun e w' => e = .returned (.bool (B.getD i false && (A.getD i false || nx))) ∧ w' = w := by
  obtain ⟨b, off, cap, rfl, hc, hm⟩ := hA.at i hi
  obtain ⟨b', off', cap', rfl, hc', hm'⟩ := hB.at i hj
  clear hA hB
  generalize A.getD i false = x at *
  generalize B.getD i false = y at *
  cases x <;> cases y <;> (
    go_enter Try.func40, Try.ntmps40
    go_wp2_with (fail)
    go_ret
    exact ⟨by first | rfl | (cases nx <;> rfl), rfl⟩)

set_option maxHeartbeats 400000 in
theorem next_place {w : World} {a : Option Addr} {N c : Nat} (h i : Nat) (rv : Value) (hN : N ≤ 9223372036854775807) (hi : i < N) :
    Calls Try.prog 38 #[.agg #[.slice a N c, .int .i64 h, rv], .int .i64 i] w fun e w' => e = .returned (.int .i64 (if i + 1 = N then h else i + 1 : Nat)) ∧ Below w.heap.size w w' := by
  by_cases e : i + 1 = N
  · have hb : ((i : Int) + 1 == N) = true := by rw [beq_iff_eq]; omega
    rw [if_pos e]
    clear e
    go_enter Try.func38, Try.ntmps38
    go_wp2_with (fail)
    go_ret
    exact ⟨rfl, (by repeat (first | exact Below.refl _ _ | assumption | refine below_drewN ?_ _ | refine Below.drew ?_ | refine Below.alloc ?_ (by simp <;> omega) _ | refine below_trans ?_ (by assumption)))⟩
  · have hb : ((i : Int) + 1 == N) = false := by rw [beq_eq_false_iff_ne]; omega
    rw [if_neg e]
    clear e
    go_enter Try.func38, Try.ntmps38
    go_wp2_with (fail)
    go_ret
    exact ⟨by go_num, (by repeat (first | exact Below.refl _ _ | assumption | refine below_drewN ?_ _ | refine Below.drew ?_ | refine Below.alloc ?_ (by simp <;> omega) _ | refine below_trans ?_ (by assumption)))⟩

theorem bit_and (x n : Int) (h0 : 0 ≤ x) (h7 : x ≤ 7) (n0 : 0 ≤ n) (n2 : n ≤ 2) : (bits BinOp.and IntKind.i64 (x / 2 ^ n.toNat) 1 != 0) = decide (x / 2 ^ n.toNat % 2 = 1) := by
  have hx : x = 0 ∨ x = 1 ∨ x = 2 ∨ x = 3 ∨ x = 4 ∨ x = 5 ∨ x = 6 ∨ x = 7 := by omega
  have hn : n = 0 ∨ n = 1 ∨ n = 2 := by omega
  rcases hx with rfl | rfl | rfl | rfl | rfl | rfl | rfl | rfl <;> rcases hn with rfl | rfl | rfl <;> decide +kernel

set_option maxHeartbeats 1000000 in
theorem rule1_any {w : World} {lv : Value} {Ls : List Int} (i : Nat) (nx : Bool) (pt pn : Nat) (n : Int) (h0 : w.cell? ⟨pt, 0, none⟩ = some lv) (hL : IntSl w lv Ls) (hi : i < Ls.length) (hx : 0 ≤ Ls.getD i 0 ∧ Ls.getD i 0 ≤ 7) (hn : 0 ≤ n ∧ n ≤ 2)
    (h3 : w.cell? ⟨pn, 3, none⟩ = some (.int .i64 n)) :
    Calls Try.prog 33 #[.int .i64 i, .bool nx, .pointer (some ⟨pt, 0, none⟩), .pointer (some ⟨pn, 0, none⟩)] w fun e w' => e = .returned (.bool (decide (Ls.getD i 0 / 2 ^ n.toNat % 2 = 1))) ∧ ∃ m, w' = w.drewN m := by
  obtain ⟨b', off, cap, rfl, hc, hm⟩ := hL.at i hi
  clear hL
  generalize Ls.getD i 0 = x at *
  obtain ⟨hx0, hx7⟩ := hx
  obtain ⟨hn0, hn2⟩ := hn
  go_enter Try.func33, Try.ntmps33
  go_wp2_with (fail)
  (refine wp_region_quiet_lit (by kernel_rfl) (by kernel_rfl) ?_; (repeat (go_big_quiet_step (fail))); refine wpQuiet_nil ?_; intro _ hw'; obtain ⟨nq, hw''⟩ := hw'; subst hw'')
  go_wp2_with (fail)
  go_ret
  exact ⟨ret_bool (bit_and x n hx0 hx7 hn0 hn2), nq, rfl⟩
end Go.Proofs.Ytpiacnnifdjlkaa
