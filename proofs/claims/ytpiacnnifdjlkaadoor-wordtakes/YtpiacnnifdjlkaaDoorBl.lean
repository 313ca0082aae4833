/-
  What checkSteps and Check of package auto tell.
-/
import Derived.Test.YtpiacnnifdjlkaaDoorBk
namespace Go.Proofs.YtpiacnnifdjlkaaDoor
open Go.RowKit Go.Sort

def prevOf (ss : List Stp) (k : Nat) : Option Stp := if k = 0 then none else some (ss.getD (k - 1) stp0)

theorem drop_cons (ss : List Stp) (k : Nat) (h : k < ss.length) : ss.drop k = ss.getD k stp0 :: ss.drop (k + 1) := by
  rw [List.drop_eq_getElem_cons h]
  simp [List.getD, h]

theorem chk_bad (n m : Int) (ss : List Stp) (k : Nat) (h : k < ss.length) (hb : badS n m (ss.getD k stp0) = true) : chkStepsFrom n m (prevOf ss k) (ss.drop k) = 5 := by
  rw [drop_cons ss k h]
  unfold chkStepsFrom
  rw [if_pos hb]

theorem chk_first (n m : Int) (ss : List Stp) (h : 0 < ss.length) (hb : badS n m (ss.getD 0 stp0) = false) : chkStepsFrom n m (prevOf ss 0) (ss.drop 0) = chkStepsFrom n m (prevOf ss 1) (ss.drop 1) := by
  rw [drop_cons ss 0 h, show prevOf ss 1 = some (ss.getD 0 stp0) from rfl, show prevOf ss 0 = none from rfl]
  rw [chkStepsFrom, if_neg (by rw [hb]; simp)]

theorem chk_fall (n m : Int) (ss : List Stp) (k : Nat) (hk : 0 < k) (h : k < ss.length) (hb : badS n m (ss.getD k stp0) = false) (ho : 0 ≤ ordS (ss.getD (k - 1) stp0) (ss.getD k stp0)) : chkStepsFrom n m (prevOf ss k) (ss.drop k) = 4 := by
  rw [drop_cons ss k h, show prevOf ss k = some (ss.getD (k - 1) stp0) by simp only [prevOf, if_neg (show ¬ k = 0 by omega)]]
  rw [chkStepsFrom, if_neg (by rw [hb]; simp)]
  rw [if_pos (decide_eq_true ho)]

theorem chk_rise (n m : Int) (ss : List Stp) (k : Nat) (hk : 0 < k) (h : k < ss.length) (hb : badS n m (ss.getD k stp0) = false) (ho : ordS (ss.getD (k - 1) stp0) (ss.getD k stp0) < 0) : chkStepsFrom n m (prevOf ss k) (ss.drop k) = chkStepsFrom n m (prevOf ss (k + 1)) (ss.drop (k + 1)) := by
  rw [drop_cons ss k h, show prevOf ss k = some (ss.getD (k - 1) stp0) by simp only [prevOf, if_neg (show ¬ k = 0 by omega)], show prevOf ss (k + 1) = some (ss.getD k stp0) by simp only [prevOf, if_neg (show ¬ k + 1 = 0 by omega), Nat.add_sub_cancel]]
  rw [chkStepsFrom, if_neg (by rw [hb]; simp)]
  rw [if_neg (by rw [decide_eq_true_iff]; omega)]

theorem chk_end (n m : Int) (ss : List Stp) (k : Nat) (h : ss.length ≤ k) : chkStepsFrom n m (prevOf ss k) (ss.drop k) = 0 := by
  rw [List.drop_eq_nil_of_le h]
  simp [chkStepsFrom]

set_option maxRecDepth 100000 in
set_option maxHeartbeats 2000000 in
theorem checkSteps_any {w : World} (n m : Int) (a1 a2 : Option Addr) (l1 l2 c1 c2 : Nat) (sv : Value) (ss : List Stp) (hs : StepSl w sv ss) :
    Calls Tryd.prog 55 #[.agg #[.int .i64 n, .int .i64 m, .slice a1 l1 c1, .slice a2 l2 c2, sv]] w fun e w' => e = .returned (.int .i64 (chkStepsFrom n m none ss)) ∧ Below w.heap.size w w' := by
  obtain ⟨a0, c0, rfl, hm0, hc, -⟩ := hs
  have Hc := hide hc
  clear hc
  unfold maxLen at hm0
  generalize hq : chkStepsFrom n m none ss = q
  have Hq : Hid (chkStepsFrom n m (prevOf ss 0) (ss.drop 0) = q) := hq
  clear hq
  go_enter Tryd.func55, Tryd.ntmps55
  go_wp2_with (fail)
  generalize hW0 : w.alloc (Obj.cells #[Value.int .i64 n, .int .i64 m, .slice a1 l1 c1, .slice a2 l2 c2, .slice a0 ss.length c0] 26) = W0
  have hbW : Below w.heap.size w W0 := by rw [← hW0]; exact (by repeat (first | exact Below.refl _ _ | assumption | refine below_drewN ?_ _ | refine Below.drew ?_ | refine Below.alloc ?_ (by simp <;> omega) _ | refine below_trans ?_ (by assumption)))
  have hB : ∀ {w' : World}, Below W0.heap.size W0 w' → w'.cell? ⟨w.heap.size, 0, none⟩ = some (.int .i64 n) ∧ w'.cell? ⟨w.heap.size, 1, none⟩ = some (.int .i64 m) ∧ w'.cell? ⟨w.heap.size, 4, none⟩ = some (.slice a0 ss.length c0) ∧ w.heap.size < w'.heap.size := by
    intro w' hb
    have hsz : w.heap.size < W0.heap.size := by rw [← hW0]; simp
    refine ⟨?_, ?_, ?_, Nat.lt_of_lt_of_le hsz hb.size⟩
    · rw [hb.cell hsz, ← hW0]; simp
    · rw [hb.cell hsz, ← hW0]; simp
    · rw [hb.cell hsz, ← hW0]; simp
  clear hW0
  have HB := hide (fun w' => @hB w')
  clear hB
  go_loopw [8] (fun i wr => ∃ k : Nat, k ≤ ss.length ∧ i = .int .i64 k ∧ chkStepsFrom n m (prevOf ss k) (ss.drop k) = q ∧ Below W0.heap.size W0 wr) (fun i _ => ss.length - (intOf i).toNat)
  case atStart => exact ⟨0, Nat.zero_le _, rfl, Hq.out, Below.refl _ _⟩
  case round =>
    obtain ⟨k, hk, rfl, hqk, hbr⟩ := hrel
    have Hqk := hide hqk
    clear hqk
    obtain ⟨x0, x1, x4, hlw⟩ := HB.out _ hbr
    by_cases hlt : k < ss.length
    · obtain ⟨b, off, rfl, hcell⟩ : ∃ b off, a0 = some ⟨b, off, none⟩ ∧ ∀ i, i < ss.length → w.cell? ⟨b, off + i * 3, none⟩ = some (.int .i64 (ss.getD i stp0).f) ∧ w.cell? ⟨b, off + i * 3 + 1, none⟩ = some (.int .i64 (ss.getD i stp0).l) ∧ w.cell? ⟨b, off + i * 3 + 2, none⟩ = some (.int .i64 (ss.getD i stp0).t) := by
        rcases Hc.out with h | h
        · subst h; simp at hlt
        · exact h
      have hbR := below_trans hbW hbr
      obtain ⟨d0, d1, d2⟩ := hcell k hlt
      rw [← hbR.cell (World.block_lt_of_cell? w _ d0)] at d0
      rw [← hbR.cell (World.block_lt_of_cell? w _ d1)] at d1
      rw [← hbR.cell (World.block_lt_of_cell? w _ d2)] at d2
      have Hcell := hide hcell
      clear hcell
      generalize hs : ss.getD k stp0 = s at *
      have Hs := hide hs
      clear hs
      obtain ⟨sf, sl, st⟩ := s
      dsimp only at d0 d1 d2
      have HW1 := hide (within_any sf n)
      have HW2 := hide (within_any st n)
      have HW3 := hide (within_any sl m)
      generalize hr1 : decide (0 ≤ sf ∧ sf < n) = r1 at HW1
      generalize hr2 : decide (0 ≤ st ∧ st < n) = r2 at HW2
      generalize hr3 : decide (0 ≤ sl ∧ sl < m) = r3 at HW3
      have Hr1 := hide hr1
      have Hr2 := hide hr2
      have Hr3 := hide hr3
      clear hr1 hr2 hr3
      have Hbad : Hid (badS n m (ss.getD k stp0) = (!r1 || !r2 || !r3)) := by
        show badS n m (ss.getD k stp0) = _
        rw [Hs.out]
        simp only [badS, outB, Hr1.out, Hr2.out, Hr3.out]
      go_wp2_with (fail)
      refine (HW1.out _).mono ?_
      rintro e w' ⟨rfl, rfl⟩
      cases r1 with
      | false =>
        go_wp2
        go_ret
        have : q = 5 := by rw [← Hqk.out]; exact chk_bad n m ss k hlt (by rw [Hbad.out]; rfl)
        subst this
        exact ⟨rfl, below_trans hbR (by repeat (first | exact Below.refl _ _ | assumption | refine below_drewN ?_ _ | refine Below.drew ?_ | refine Below.alloc ?_ (by simp <;> omega) _ | refine below_trans ?_ (by assumption)))⟩
      | true =>
        go_wp2_with (fail)
        refine (HW2.out _).mono ?_
        rintro e w' ⟨rfl, rfl⟩
        cases r2 with
        | false =>
          go_wp2
          go_ret
          have : q = 5 := by rw [← Hqk.out]; exact chk_bad n m ss k hlt (by rw [Hbad.out]; rfl)
          subst this
          exact ⟨rfl, below_trans hbR (by repeat (first | exact Below.refl _ _ | assumption | refine below_drewN ?_ _ | refine Below.drew ?_ | refine Below.alloc ?_ (by simp <;> omega) _ | refine below_trans ?_ (by assumption)))⟩
        | true =>
          go_wp2_with (fail)
          refine (HW3.out _).mono ?_
          rintro e w' ⟨rfl, rfl⟩
          cases r3 with
          | false =>
            go_wp2
            go_ret
            have : q = 5 := by rw [← Hqk.out]; exact chk_bad n m ss k hlt (by rw [Hbad.out]; rfl)
            subst this
            exact ⟨rfl, below_trans hbR (by repeat (first | exact Below.refl _ _ | assumption | refine below_drewN ?_ _ | refine Below.drew ?_ | refine Below.alloc ?_ (by simp <;> omega) _ | refine below_trans ?_ (by assumption)))⟩
          | true =>
            by_cases hk0 : 0 < k
            · obtain ⟨e0, e1, e2⟩ := Hcell.out (k - 1) (by omega)
              rw [← hbR.cell (World.block_lt_of_cell? w _ e0)] at e0
              rw [← hbR.cell (World.block_lt_of_cell? w _ e1)] at e1
              rw [← hbR.cell (World.block_lt_of_cell? w _ e2)] at e2
              generalize hp : ss.getD (k - 1) stp0 = p at e0 e1 e2
              have Hp := hide hp
              clear hp
              obtain ⟨pf, pl, pt⟩ := p
              dsimp only at e0 e1 e2
              have hbs := World.block_lt_of_cell? _ _ e0
              generalize hW1 : wr.alloc (Obj.cells #[Value.int .i64 sf, .int .i64 sl, .int .i64 st] 81) = W1
              have k0 := cell_regrown (w := W1) (a := ⟨b, off + (k - 1) * 3, none⟩) (v := .int .i64 pf) (by rw [← hW1, World.cell?_alloc_past _ _ _ hbs]; exact e0)
              have k1 := cell_regrown (w := W1) (a := ⟨b, off + (k - 1) * 3 + 1, none⟩) (v := .int .i64 pl) (by rw [← hW1, World.cell?_alloc_past _ _ _ hbs]; exact e1)
              have k2 := cell_regrown (w := W1) (a := ⟨b, off + (k - 1) * 3 + 2, none⟩) (v := .int .i64 pt) (by rw [← hW1, World.cell?_alloc_past _ _ _ hbs]; exact e2)
              have k3 := cell_regrown (w := W1) (a := ⟨wr.heap.size, 0, none⟩) (v := .int .i64 sf) (by rw [← hW1]; simp)
              have k4 := cell_regrown (w := W1) (a := ⟨wr.heap.size, 1, none⟩) (v := .int .i64 sl) (by rw [← hW1]; simp)
              have k5 := cell_regrown (w := W1) (a := ⟨wr.heap.size, 2, none⟩) (v := .int .i64 st) (by rw [← hW1]; simp)
              have k6 := cell_regrown (w := W1) (a := ⟨w.heap.size, 4, none⟩) (v := .slice (some ⟨b, off, none⟩) ss.length c0) (by rw [← hW1, World.cell?_alloc_past _ _ _ hlw]; exact x4)
              have hbW1 : Below W0.heap.size W0 W1 := by rw [← hW1]; exact hbr.alloc hbr.size _
              clear hW1
              have cO : ∀ d os, Calls Tryd.prog 92 #[.agg #[.int .i64 pf, .int .i64 pl, .int .i64 pt], .agg #[.int .i64 sf, .int .i64 sl, .int .i64 st]] (grow (redrawn W1 d) os) fun e w'' => e = .returned (.int .i64 (ordS ⟨pf, pl, pt⟩ ⟨sf, sl, st⟩)) ∧ ∃ p : Regrown, w'' = grow (redrawn W1 p.d) p.os := fun d os => Calls.regrown_of (order_any ⟨pf, pl, pt⟩ ⟨sf, sl, st⟩ _)
              generalize ho : ordS ⟨pf, pl, pt⟩ ⟨sf, sl, st⟩ = o at cO
              have Ho := hide ho
              have CO := hide cO
              clear ho cO d0 d1 d2 e0 e1 e2 x0 x1 x4 HB HW1 HW2 HW3
              by_cases hneg : 0 ≤ o
              · have hd : decide (0 ≤ o) = true := decide_eq_true hneg
                go_wp2_with (fail)
                refine wp_region_quiet_below (by kernel_rfl) (by kernel_rfl) ?_
                (repeat (go_big_quiet_step (exact CO.out _ _)))
                refine wpQuiet_nil ?_
                intro _ hw'
                obtain ⟨⟨dq, osq⟩, hw''⟩ := hw'
                subst hw''
                have hbq := below_trans hbW1 (below_regrown W1 dq osq)
                clear k0 k1 k2 k3 k4 k5 k6
                go_wp2
                go_ret
                have : q = 4 := by rw [← Hqk.out]; exact chk_fall n m ss k hk0 hlt (by rw [Hbad.out]; rfl) (by rw [Hs.out, Hp.out, Ho.out]; exact hneg)
                subst this
                exact ⟨rfl, below_trans hbW hbq⟩
              · have hd : decide (0 ≤ o) = false := decide_eq_false hneg
                go_wp2_with (fail)
                refine wp_region_quiet_below (by kernel_rfl) (by kernel_rfl) ?_
                (repeat (go_big_quiet_step (exact CO.out _ _)))
                refine wpQuiet_nil ?_
                intro _ hw'
                obtain ⟨⟨dq, osq⟩, hw''⟩ := hw'
                subst hw''
                have hbq := below_trans hbW1 (below_regrown W1 dq osq)
                clear k0 k1 k2 k3 k4 k5 k6
                go_wp2
                go_roundw
                case rel => exact ⟨k + 1, by omega, by go_num, by
                  rw [← Hqk.out]
                  exact (chk_rise n m ss k hk0 hlt (by rw [Hbad.out]; rfl) (by rw [Hs.out, Hp.out, Ho.out]; omega)).symm, hbq⟩
                case measure => simp [intOf]; omega
            · have hd0 : decide (0 < k) = false := by simp; omega
              have Hk0 : Hid (k = 0) := by show k = 0; omega
              go_wp2_with (fail)
              (refine wp_region_quiet_lit (by kernel_rfl) (by kernel_rfl) ?_; (repeat (go_big_quiet_step (fail))); refine wpQuiet_nil ?_; intro _ hw'; obtain ⟨nq, hw''⟩ := hw'; subst hw'')
              go_wp2
              go_roundw
              case rel => exact ⟨k + 1, by omega, by go_num, by
                rw [← Hqk.out, Hk0.out]
                exact (chk_first n m ss (by omega) (by have := Hbad.out; rw [Hk0.out] at this; exact this)).symm, below_drewN (hbr.alloc hbr.size _) _⟩
              case measure => simp [intOf]; omega
    · go_wp2_with (fail)
      go_ret
      have : q = 0 := by rw [← Hqk.out]; exact chk_end n m ss k (by omega)
      subst this
      exact ⟨rfl, below_trans hbW hbr⟩
end Go.Proofs.YtpiacnnifdjlkaaDoor
