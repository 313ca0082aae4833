/-
  Automata as they lie in memory; what within, Compare, Or, Order and the reference's Less answer.
-/
import Derived.Test.YtpiacnnifdjlkaaDoorBi
namespace Go.Proofs.YtpiacnnifdjlkaaDoor
open Go.RowKit Go.Sort

/-- A slice of bools that reads as this list. -/
def BoolSl (w : World) (v : Value) (zs : List Bool) : Prop :=
  ∃ a cap, v = .slice a zs.length cap ∧ zs.length ≤ maxLen ∧ (zs = [] ∨ ∃ b off, a = some ⟨b, off, none⟩ ∧ ∀ i, i < zs.length → w.cell? ⟨b, off + i, none⟩ = some (.bool (zs.getD i false))) ∧ (a = none → cap = 0) ∧ zs.length ≤ cap

theorem BoolSl.below {w w' : World} {v : Value} {zs : List Bool} (h : BoolSl w v zs) (hb : Below w.heap.size w w') : BoolSl w' v zs := by
  obtain ⟨a, cap, rfl, hm, h, hn⟩ := h
  refine ⟨a, cap, rfl, hm, ?_, hn⟩
  rcases h with h | ⟨b, off, rfl, hc⟩
  · exact Or.inl h
  · refine Or.inr ⟨b, off, rfl, fun i hi => ?_⟩
    have := hc i hi
    rw [hb.cell (World.block_lt_of_cell? w _ this)]; exact this

/-- A step: from, letter, to. -/
structure Stp where
  f : Int
  l : Int
  t : Int

def stp0 : Stp := ⟨0, 0, 0⟩

/-- A slice of steps that reads as this list. -/
def StepSl (w : World) (v : Value) (zs : List Stp) : Prop :=
  ∃ a cap, v = .slice a zs.length cap ∧ zs.length ≤ maxLen ∧ (zs = [] ∨ ∃ b off, a = some ⟨b, off, none⟩ ∧ ∀ i, i < zs.length → w.cell? ⟨b, off + i * 3, none⟩ = some (.int .i64 (zs.getD i stp0).f) ∧ w.cell? ⟨b, off + i * 3 + 1, none⟩ = some (.int .i64 (zs.getD i stp0).l) ∧ w.cell? ⟨b, off + i * 3 + 2, none⟩ = some (.int .i64 (zs.getD i stp0).t)) ∧ (a = none → cap = 0) ∧ zs.length ≤ cap

theorem StepSl.below {w w' : World} {v : Value} {zs : List Stp} (h : StepSl w v zs) (hb : Below w.heap.size w w') : StepSl w' v zs := by
  obtain ⟨a, cap, rfl, hm, h, hn⟩ := h
  refine ⟨a, cap, rfl, hm, ?_, hn⟩
  rcases h with h | ⟨b, off, rfl, hc⟩
  · exact Or.inl h
  · refine Or.inr ⟨b, off, rfl, fun i hi => ?_⟩
    obtain ⟨h1, h2, h3⟩ := hc i hi
    refine ⟨?_, ?_, ?_⟩
    · rw [hb.cell (World.block_lt_of_cell? w _ h1)]; exact h1
    · rw [hb.cell (World.block_lt_of_cell? w _ h2)]; exact h2
    · rw [hb.cell (World.block_lt_of_cell? w _ h3)]; exact h3

/-- An automaton. -/
structure Aut where
  n : Int
  m : Int
  first : List Int
  good : List Bool
  steps : List Stp

def AutV (w : World) (v : Value) (A : Aut) : Prop :=
  ∃ fv gv sv, v = .agg #[.int .i64 A.n, .int .i64 A.m, fv, gv, sv] ∧ IntSl w fv A.first ∧ BoolSl w gv A.good ∧ StepSl w sv A.steps

theorem AutV.below {w w' : World} {v : Value} {A : Aut} (h : AutV w v A) (hb : Below w.heap.size w w') : AutV w' v A := by
  obtain ⟨fv, gv, sv, rfl, h1, h2, h3⟩ := h
  exact ⟨fv, gv, sv, rfl, h1.below hb, h2.below hb, h3.below hb⟩

set_option maxHeartbeats 400000 in
theorem within_any (a n : Int) (w : World) :
    Calls Tryd.prog 91 #[.int .i64 a, .int .i64 n] w fun e w' => e = .returned (.bool (decide (0 ≤ a ∧ a < n))) ∧ w' = w := by
  by_cases h1 : 0 ≤ a
  · go_enter Tryd.func91, Tryd.ntmps91
    go_wp2
    go_ret
    exact ⟨by simp [h1], rfl⟩
  · have h2 : a < 0 := by omega
    have e : decide (0 ≤ a ∧ a < n) = false := by simp; omega
    rw [e]
    clear h1 e
    go_enter Tryd.func91, Tryd.ntmps91
    go_wp2
    go_ret
    exact ⟨rfl, rfl⟩

def cmpI (a b : Int) : Int := if a < b then -1 else if b < a then 1 else 0

set_option maxHeartbeats 400000 in
theorem compare_any (a b : Int) (w : World) :
    Calls Tryd.prog 119 #[.int .i64 a, .int .i64 b] w fun e w' => e = .returned (.int .i64 (cmpI a b)) ∧ w' = w := by
  have ha : (a != a) = false := by simp
  have hb : (b != b) = false := by simp
  by_cases h1 : a < b
  · rw [show cmpI a b = -1 by simp [cmpI, h1]]
    go_enter Tryd.func119, Tryd.ntmps119
    go_wp2
    go_ret
    exact ⟨rfl, rfl⟩
  · by_cases h2 : b < a
    · rw [show cmpI a b = 1 by simp [cmpI, h1, h2]]
      clear h1
      go_enter Tryd.func119, Tryd.ntmps119
      go_wp2
      go_ret
      exact ⟨rfl, rfl⟩
    · rw [show cmpI a b = 0 by simp [cmpI, h1, h2]]
      have h3 : a ≤ b := by omega
      have h4 : b ≤ a := by omega
      clear h1 h2
      go_enter Tryd.func119, Tryd.ntmps119
      go_wp2
      go_ret
      exact ⟨rfl, rfl⟩

def orI (x y z : Int) : Int := if x ≠ 0 then x else if y ≠ 0 then y else z

set_option maxHeartbeats 400000 in
theorem or_any (g : Nat) (x y z : Int) (w : World) (h0 : w.cell? ⟨g, 0, none⟩ = some (.int .i64 x)) (h1 : w.cell? ⟨g, 1, none⟩ = some (.int .i64 y)) (h2 : w.cell? ⟨g, 2, none⟩ = some (.int .i64 z)) :
    Calls Tryd.prog 120 #[.slice (some ⟨g, 0, none⟩) 3 3] w fun e w' => e = .returned (.int .i64 (orI x y z)) ∧ w' = w := by
  by_cases hx : x = 0
  · have bx : (x != 0) = false := by simp [hx]
    by_cases hy : y = 0
    · have bY : (y != 0) = false := by simp [hy]
      by_cases hz : z = 0
      · have bz : (z != 0) = false := by simp [hz]
        have e : orI x y z = 0 := by simp [orI, hx, hy, hz]
        rw [e]
        clear hx hy hz e
        go_enter Tryd.func120, Tryd.ntmps120
        go_wp2
        refine wp_loop_rounds 4 ?_
        repeat (rw [rounds_succ]; go_wp2)
        go_ret
        exact ⟨rfl, rfl⟩
      · have bz : (z != 0) = true := by simp [hz]
        have e : orI x y z = z := by simp [orI, hx, hy]
        rw [e]
        clear hx hy hz e
        go_enter Tryd.func120, Tryd.ntmps120
        go_wp2
        refine wp_loop_rounds 4 ?_
        repeat (rw [rounds_succ]; go_wp2)
        go_ret
        exact ⟨rfl, rfl⟩
    · have bY : (y != 0) = true := by simp [hy]
      have e : orI x y z = y := by simp [orI, hx, hy]
      rw [e]
      clear hx hy e
      go_enter Tryd.func120, Tryd.ntmps120
      go_wp2
      refine wp_loop_rounds 4 ?_
      repeat (rw [rounds_succ]; go_wp2)
      go_ret
      exact ⟨rfl, rfl⟩
  · have bx : (x != 0) = true := by simp [hx]
    have e : orI x y z = x := by simp [orI, hx]
    rw [e]
    clear hx e
    go_enter Tryd.func120, Tryd.ntmps120
    go_wp2
    refine wp_loop_rounds 4 ?_
    repeat (rw [rounds_succ]; go_wp2)
    go_ret
    exact ⟨rfl, rfl⟩

theorem cell_three (w : World) (a b : Obj) (c : Array Value) (t : TypeId) (i : Nat) : (((w.alloc a).alloc b).alloc (.cells c t)).drew.cell? ⟨w.heap.size + 1 + 1, i, none⟩ = c[i]? := by
  have := World.cell?_alloc_new ((w.alloc a).alloc b) c t i
  rw [World.size_alloc, World.size_alloc] at this
  exact this

def ordS (a b : Stp) : Int := orI (cmpI a.f b.f) (cmpI a.l b.l) (cmpI a.t b.t)

set_option maxRecDepth 100000 in
set_option maxHeartbeats 1000000 in
theorem order_any (a b : Stp) (w : World) :
    Calls Tryd.prog 92 #[.agg #[.int .i64 a.f, .int .i64 a.l, .int .i64 a.t], .agg #[.int .i64 b.f, .int .i64 b.l, .int .i64 b.t]] w fun e w' => e = .returned (.int .i64 (ordS a b)) ∧ Below w.heap.size w w' := by
  obtain ⟨af, al, at_⟩ := a
  obtain ⟨bf, bl, bt⟩ := b
  dsimp only [ordS]
  go_enter Tryd.func92, Tryd.ntmps92
  go_wp2_with (fail)
  go_region_held3 (fun w' => w'.cell? ⟨w.heap.size, 0, none⟩ = some (.int .i64 af) ∧ w'.cell? ⟨w.heap.size, 1, none⟩ = some (.int .i64 al) ∧ w'.cell? ⟨w.heap.size, 2, none⟩ = some (.int .i64 at_) ∧ w'.cell? ⟨w.heap.size + 1, 0, none⟩ = some (.int .i64 bf) ∧ w'.cell? ⟨w.heap.size + 1, 1, none⟩ = some (.int .i64 bl) ∧ w'.cell? ⟨w.heap.size + 1, 2, none⟩ = some (.int .i64 bt)) (go_keep) (first | (go_at_call 119; refine (compare_any _ _ _).mono ?_; rintro e w' ⟨rfl, rfl⟩) | (go_at_call 120; refine (or_any _ (cmpI af bf) (cmpI al bl) (cmpI at_ bt) _ ?_ ?_ ?_).mono ?_; exact cell_three _ _ _ _ _ 0; exact cell_three _ _ _ _ _ 1; exact cell_three _ _ _ _ _ 2; rintro e w' ⟨rfl, rfl⟩))
  go_wp2
  go_ret
  exact ⟨rfl, (by repeat (first | exact Below.refl _ _ | assumption | refine below_drewN ?_ _ | refine Below.drew ?_ | refine Below.alloc ?_ (by simp <;> omega) _ | refine below_trans ?_ (by assumption)))⟩
end Go.Proofs.YtpiacnnifdjlkaaDoor
