/-
  What Check of package auto tells.
-/
import Derived.Test.YtpiacnnifdjlkaaDoorBl
namespace Go.Proofs.YtpiacnnifdjlkaaDoor
open Go.RowKit Go.Sort

set_option maxRecDepth 100000 in
set_option maxHeartbeats 1000000 in
theorem autoCheck_any {w : World} {v : Value} {A : Aut} (hv : AutV w v A) :
    Calls Tryd.prog 19 #[v] w fun e w' => e = .returned (.int .i64 (chkA A)) ∧ Below w.heap.size w w' := by
  obtain ⟨fv, gv, sv, rfl, h1, h2, h3⟩ := hv
  have HF : Hid (∀ w1, Below w.heap.size w w1 → Calls Tryd.prog 54 #[.agg #[.int .i64 A.n, .int .i64 A.m, fv, gv, sv]] w1 fun e w' => e = .returned (.int .i64 (chkFirst A.n A.first)) ∧ Below w1.heap.size w1 w') := fun w1 hb => checkFirst_any A.n A.m fv gv sv A.first (h1.below hb)
  obtain ⟨a1, c1, rfl, hm1, -, -⟩ := h1
  obtain ⟨a2, c2, rfl, hm2, -, -⟩ := h2
  have HS : Hid (∀ w1, Below w.heap.size w w1 → Calls Tryd.prog 55 #[.agg #[.int .i64 A.n, .int .i64 A.m, .slice a1 A.first.length c1, .slice a2 A.good.length c2, sv]] w1 fun e w' => e = .returned (.int .i64 (chkStepsFrom A.n A.m none A.steps)) ∧ Below w1.heap.size w1 w') := fun w1 hb => checkSteps_any A.n A.m a1 a2 _ _ c1 c2 sv A.steps (h3.below hb)
  obtain ⟨a3, c3, rfl, hm3, -, -⟩ := h3
  unfold maxLen at hm1 hm2 hm3
  generalize hq : chkA A = q
  have Hq := hide hq
  clear hq
  obtain ⟨n, m, first, good, steps⟩ := A
  dsimp only at *
  generalize hcf : chkFirst n first = cf at HF
  generalize hcs : chkStepsFrom n m none steps = cs at HS
  have Hcf := hide hcf
  have Hcs := hide hcs
  clear hcf hcs
  generalize hl1 : first.length = L1 at *
  generalize hl2 : good.length = L2 at *
  generalize hl3 : steps.length = L3 at *
  have Hqq : Hid (q = if n < 1 ∨ 300 < n ∨ m < 1 ∨ 8 < m then 3 else if (L2 : Int) ≠ n then 1 else if 6000 < L3 then 2 else if cf ≠ 0 then cf else cs) := by
    show q = _
    rw [← Hq.out, ← hl2, ← hl3]
    simp only [chkA, Hcf.out, Hcs.out]
  clear hl1 hl2 hl3 Hq Hcf Hcs
  by_cases g1 : n < 1
  · have : q = 3 := by rw [Hqq.out, if_pos (Or.inl g1)]
    subst this
    go_enter Tryd.func19, Tryd.ntmps19
    go_wp2
    go_ret
    exact ⟨rfl, (by repeat (first | exact Below.refl _ _ | assumption | refine below_drewN ?_ _ | refine Below.drew ?_ | refine Below.alloc ?_ (by simp <;> omega) _ | refine below_trans ?_ (by assumption)))⟩
  by_cases g2 : 300 < n
  · have : q = 3 := by rw [Hqq.out, if_pos (Or.inr (Or.inl g2))]
    subst this
    have g1' : 1 ≤ n := by omega
    clear g1
    go_enter Tryd.func19, Tryd.ntmps19
    go_wp2
    go_ret
    exact ⟨rfl, (by repeat (first | exact Below.refl _ _ | assumption | refine below_drewN ?_ _ | refine Below.drew ?_ | refine Below.alloc ?_ (by simp <;> omega) _ | refine below_trans ?_ (by assumption)))⟩
  have g1' : 1 ≤ n := by omega
  have g2' : n ≤ 300 := by omega
  by_cases g3 : m < 1
  · have : q = 3 := by rw [Hqq.out, if_pos (Or.inr (Or.inr (Or.inl g3)))]
    subst this
    clear g1 g2
    go_enter Tryd.func19, Tryd.ntmps19
    go_wp2
    go_ret
    exact ⟨rfl, (by repeat (first | exact Below.refl _ _ | assumption | refine below_drewN ?_ _ | refine Below.drew ?_ | refine Below.alloc ?_ (by simp <;> omega) _ | refine below_trans ?_ (by assumption)))⟩
  have g3' : 1 ≤ m := by omega
  by_cases g4 : 8 < m
  · have : q = 3 := by rw [Hqq.out, if_pos (Or.inr (Or.inr (Or.inr g4)))]
    subst this
    clear g1 g2 g3
    go_enter Tryd.func19, Tryd.ntmps19
    go_wp2
    go_ret
    exact ⟨rfl, (by repeat (first | exact Below.refl _ _ | assumption | refine below_drewN ?_ _ | refine Below.drew ?_ | refine Below.alloc ?_ (by simp <;> omega) _ | refine below_trans ?_ (by assumption)))⟩
  have g4' : m ≤ 8 := by omega
  have Hq1 : Hid (q = if (L2 : Int) ≠ n then 1 else if 6000 < L3 then 2 else if cf ≠ 0 then cf else cs) := by
    show q = _
    rw [Hqq.out, if_neg (by omega)]
  clear Hqq g1 g2 g3 g4
  by_cases g5 : (L2 : Int) = n
  · have g5' : ((L2 : Int) != n) = false := by simp [g5]
    have Hq2 : Hid (q = if 6000 < L3 then 2 else if cf ≠ 0 then cf else cs) := by
      show q = _
      rw [Hq1.out, if_neg (by simpa using g5)]
    clear Hq1 g5
    by_cases g6 : 6000 < L3
    · have : q = 2 := by rw [Hq2.out, if_pos g6]
      subst this
      go_enter Tryd.func19, Tryd.ntmps19
      go_wp2
      go_ret
      exact ⟨rfl, (by repeat (first | exact Below.refl _ _ | assumption | refine below_drewN ?_ _ | refine Below.drew ?_ | refine Below.alloc ?_ (by simp <;> omega) _ | refine below_trans ?_ (by assumption)))⟩
    have g6' : L3 ≤ 6000 := by omega
    have Hq3 : Hid (q = if cf ≠ 0 then cf else cs) := by
      show q = _
      rw [Hq2.out, if_neg g6]
    clear Hq2 g6
    by_cases g7 : cf = 0
    · have g7' : (cf != 0) = false := by simp [g7]
      have Hq4 : Hid (q = cs) := by show q = cs; rw [Hq3.out, if_neg (by simpa using g7)]
      clear Hq3 g7
      go_enter Tryd.func19, Tryd.ntmps19
      go_wp2_with (fail)
      refine (HF.out _ (by repeat (first | exact Below.refl _ _ | assumption | refine below_drewN ?_ _ | refine Below.drew ?_ | refine Below.alloc ?_ (by simp <;> omega) _ | refine below_trans ?_ (by assumption)))).mono ?_
      rintro e w1 ⟨rfl, hb1⟩
      have hbw : Below w.heap.size w w1 := below_trans (by repeat (first | exact Below.refl _ _ | assumption | refine below_drewN ?_ _ | refine Below.drew ?_ | refine Below.alloc ?_ (by simp <;> omega) _ | refine below_trans ?_ (by assumption))) hb1
      have y0 : w1.cell? ⟨w.heap.size, 0, none⟩ = some (.int .i64 n) := by rw [hb1.cell (by simp <;> omega)]; simp
      have y1 : w1.cell? ⟨w.heap.size, 1, none⟩ = some (.int .i64 m) := by rw [hb1.cell (by simp <;> omega)]; simp
      have y2 : w1.cell? ⟨w.heap.size, 2, none⟩ = some (.slice a1 L1 c1) := by rw [hb1.cell (by simp <;> omega)]; simp
      have y3 : w1.cell? ⟨w.heap.size, 3, none⟩ = some (.slice a2 L2 c2) := by rw [hb1.cell (by simp <;> omega)]; simp
      have y4 : w1.cell? ⟨w.heap.size, 4, none⟩ = some (.slice a3 L3 c3) := by rw [hb1.cell (by simp <;> omega)]; simp
      go_wp2_with (fail)
      refine (HS.out _ hbw).mono ?_
      rintro e w2 ⟨rfl, hb2⟩
      go_wp2
      go_ret
      exact ⟨by rw [Hq4.out]; rfl, below_trans hbw hb2⟩
    · have g7' : (cf != 0) = true := by simp [g7]
      have Hq4 : Hid (q = cf) := by show q = cf; rw [Hq3.out, if_pos g7]
      clear Hq3 g7
      go_enter Tryd.func19, Tryd.ntmps19
      go_wp2_with (fail)
      refine (HF.out _ (by repeat (first | exact Below.refl _ _ | assumption | refine below_drewN ?_ _ | refine Below.drew ?_ | refine Below.alloc ?_ (by simp <;> omega) _ | refine below_trans ?_ (by assumption)))).mono ?_
      rintro e w1 ⟨rfl, hb1⟩
      have hbw : Below w.heap.size w w1 := below_trans (by repeat (first | exact Below.refl _ _ | assumption | refine below_drewN ?_ _ | refine Below.drew ?_ | refine Below.alloc ?_ (by simp <;> omega) _ | refine below_trans ?_ (by assumption))) hb1
      go_wp2
      go_ret
      exact ⟨by rw [Hq4.out]; rfl, hbw⟩
  · have g5' : ((L2 : Int) != n) = true := by simp [g5]
    have : q = 1 := by rw [Hq1.out, if_pos g5]
    subst this
    clear Hq1 g5
    go_enter Tryd.func19, Tryd.ntmps19
    go_wp2
    go_ret
    exact ⟨rfl, (by repeat (first | exact Below.refl _ _ | assumption | refine below_drewN ?_ _ | refine Below.drew ?_ | refine Below.alloc ?_ (by simp <;> omega) _ | refine below_trans ?_ (by assumption)))⟩
end Go.Proofs.YtpiacnnifdjlkaaDoor
