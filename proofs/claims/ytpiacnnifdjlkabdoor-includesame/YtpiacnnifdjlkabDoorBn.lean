/-
  Sets of states as five words of 64 bits: has and with.
-/
import Derived.Test.YtpiacnnifdjlkabDoorBj
/-
  What Check of package auto tells.
-/
namespace Go.Proofs.YtpiacnnifdjlkabDoor
open Go.RowKit Go.Sort

def outB (n x : Int) : Bool := !(decide (0 ≤ x ∧ x < n))

def fallsB (fs : List Int) : Bool := (List.range (fs.length - 1)).any fun i => decide (fs.getD (i + 1) 0 ≤ fs.getD i 0)

def chkFirst (n : Int) (fs : List Int) : Int := if fs.any (outB n) then 5 else if fallsB fs then 4 else 0

def badS (n m : Int) (s : Stp) : Bool := outB n s.f || outB n s.t || outB m s.l

def chkStepsFrom (n m : Int) : Option Stp → List Stp → Int
  | _, [] => 0
  | p, s :: r => if badS n m s then 5 else match p with
    | none => chkStepsFrom n m (some s) r
    | some q => if decide (0 ≤ ordS q s) then 4 else chkStepsFrom n m (some s) r

def chkA (A : Aut) : Int :=
  if A.n < 1 ∨ 300 < A.n ∨ A.m < 1 ∨ 8 < A.m then 3 else if (A.good.length : Int) ≠ A.n then 1 else if 6000 < A.steps.length then 2
  else if chkFirst A.n A.first ≠ 0 then chkFirst A.n A.first else chkStepsFrom A.n A.m none A.steps

set_option maxHeartbeats 400000 in
theorem firstNone_any (x n : Int) (a : Addr) (w : World) (ha : w.cell? a = some (.int .i64 n)) :
    Calls Tryd.prog 82 #[.int .i64 x, .pointer (some a)] w fun e w' => e = .returned (.bool (outB n x)) ∧ w' = w := by
  unfold outB
  have HW := hide (within_any x n)
  generalize decide (0 ≤ x ∧ x < n) = r at HW ⊢
  go_enter Tryd.func82, Tryd.ntmps82
  go_wp2_with (fail)
  refine (HW.out _).mono ?_
  rintro e w' ⟨rfl, rfl⟩
  go_wp2
  go_ret
  exact ⟨rfl, rfl⟩

theorem fallsB_true {fs : List Int} {k : Nat} (h : k + 1 < fs.length) (hf : fs.getD (k + 1) 0 ≤ fs.getD k 0) : fallsB fs = true := by
  unfold fallsB
  rw [List.any_eq_true]
  exact ⟨k, by simp; omega, by simpa using hf⟩

theorem fallsB_false {fs : List Int} (h : ∀ k, k + 1 < fs.length → fs.getD k 0 < fs.getD (k + 1) 0) : fallsB fs = false := by
  unfold fallsB
  rw [List.any_eq_false]
  intro k hk
  have h1 := h k (by simp at hk; omega)
  intro hd
  have h2 := of_decide_eq_true hd
  omega

set_option maxRecDepth 100000 in
set_option maxHeartbeats 1000000 in
theorem checkFirst_any {w : World} (n m : Int) (fv gv sv : Value) (fs : List Int) (hf : IntSl w fv fs) :
    Calls Tryd.prog 51 #[.agg #[.int .i64 n, .int .i64 m, fv, gv, sv]] w fun e w' => e = .returned (.int .i64 (chkFirst n fs)) ∧ Below w.heap.size w w' := by
  have HF : Hid (∀ w1, Below w.heap.size w w1 → ∀ a, w1.cell? a = some (.int .i64 n) → Calls Tryd.prog 49 #[fv, .func (.func 82) #[] #[.pointer (some a)]] w1 fun e w' => e = .returned (.bool (fs.any (outB n))) ∧ Below w1.heap.size w1 w') := fun w1 hb a ha =>
    containsFunc_any 82 _ (outB n) (hf.below hb) Tryd.call82 fun i _ w2 hw2 =>
      (firstNone_any (fs.getD i 0) n a w2 (by rw [hw2.cell (World.block_lt_of_cell? w1 _ ha)]; exact ha)).mono fun e w' ⟨he, hw⟩ => ⟨he, by rw [hw]; exact Below.refl _ _⟩
  obtain ⟨a0, c0, rfl, hm0, hc, -⟩ := hf
  have Hc := hide hc
  clear hc
  unfold maxLen at hm0
  have hmf : ∀ (fn : Fn) (first cap : Array Value) (w : World), (Instr.makeFunc fn first cap).run Tryd.prog w = .ok (.func fn first cap) w := fun _ _ _ _ => rfl
  generalize hq : chkFirst n fs = q
  have Hq := hide hq
  clear hq
  generalize hany : fs.any (outB n) = r at HF
  have Hany := hide hany
  clear hany
  go_enter Tryd.func51, Tryd.ntmps51
  go_wp2_with (fail)
  refine (HF.out _ (by repeat (first | exact Below.refl _ _ | assumption | refine below_drewN ?_ _ | refine Below.drew ?_ | refine Below.alloc ?_ (by simp <;> omega) _ | refine below_trans ?_ (by assumption))) _ (by simp)).mono ?_
  rintro e w1 ⟨rfl, hb1⟩
  have hbw : Below w.heap.size w w1 := below_trans (by repeat (first | exact Below.refl _ _ | assumption | refine below_drewN ?_ _ | refine Below.drew ?_ | refine Below.alloc ?_ (by simp <;> omega) _ | refine below_trans ?_ (by assumption))) hb1
  have x2 : w1.cell? ⟨w.heap.size, 2, none⟩ = some (.slice a0 fs.length c0) := by rw [hb1.cell (by simp <;> omega)]; simp
  cases r with
  | true =>
    have : q = 5 := by rw [← Hq.out]; simp [chkFirst, Hany.out]
    subst this
    go_wp2
    go_ret
    exact ⟨rfl, hbw⟩
  | false =>
    go_wp2_with (fail)
    go_loopw [3] (fun i wr => ∃ k : Nat, (1 ≤ k ∧ (k ≤ fs.length ∨ k = 1)) ∧ i = .int .i64 k ∧ (∀ j, j + 1 < k → fs.getD j 0 < fs.getD (j + 1) 0) ∧ ∃ d, wr = w1.drewN d) (fun i _ => fs.length - (intOf i).toNat)
    case atStart => exact ⟨1, ⟨Nat.le_refl _, Or.inr rfl⟩, rfl, (fun j hj => by omega), 0, rfl⟩
    case round =>
      obtain ⟨k, ⟨hk1, hk2⟩, rfl, htk, d, rfl⟩ := hrel
      have Htk := hide htk
      clear htk
      by_cases hlt : k < fs.length
      · obtain ⟨b, off, rfl, hcell⟩ : ∃ b off, a0 = some ⟨b, off, none⟩ ∧ ∀ i, i < fs.length → w.cell? ⟨b, off + i, none⟩ = some (.int .i64 (fs.getD i 0)) := by
          rcases Hc.out with h | h
          · subst h; simp at hlt
          · exact h
        have c1 : w1.cell? ⟨b, off + k, none⟩ = some (.int .i64 (fs.getD k 0)) := by have h := hcell k hlt; rw [hbw.cell (World.block_lt_of_cell? w _ h)]; exact h
        have c2 : w1.cell? ⟨b, off + (k - 1), none⟩ = some (.int .i64 (fs.getD (k - 1) 0)) := by have h := hcell (k - 1) (by omega); rw [hbw.cell (World.block_lt_of_cell? w _ h)]; exact h
        clear hcell
        generalize hx : fs.getD k 0 = x at *
        generalize hy : fs.getD (k - 1) 0 = y at *
        have Hx := hide hx
        have Hy := hide hy
        clear hx hy hk2
        by_cases hxy : x ≤ y
        · have hd : decide (x ≤ y) = true := decide_eq_true hxy
          go_wp2_with (fail)
          (refine wp_region_quiet_lit (by kernel_rfl) (by kernel_rfl) ?_; (repeat (go_big_quiet_step (fail))); refine wpQuiet_nil ?_; intro _ hw'; obtain ⟨nq, hw''⟩ := hw'; subst hw'')
          go_wp2
          go_ret
          have : q = 4 := by
            rw [← Hq.out]
            have hfb := fallsB_true (fs := fs) (k := k - 1) (by omega) (by rw [show k - 1 + 1 = k by omega, Hx.out, Hy.out]; exact hxy)
            simp [chkFirst, Hany.out, hfb]
          subst this
          exact ⟨rfl, (by repeat (first | exact Below.refl _ _ | assumption | refine below_drewN ?_ _ | refine Below.drew ?_ | refine Below.alloc ?_ (by simp <;> omega) _ | refine below_trans ?_ (by assumption)))⟩
        · have hxy' : y < x := by omega
          have hd : decide (x ≤ y) = false := decide_eq_false hxy
          clear hxy
          go_wp2_with (fail)
          (refine wp_region_quiet_lit (by kernel_rfl) (by kernel_rfl) ?_; (repeat (go_big_quiet_step (fail))); refine wpQuiet_nil ?_; intro _ hw'; obtain ⟨nq, hw''⟩ := hw'; subst hw'')
          go_wp2
          go_roundw
          case rel => exact ⟨k + 1, ⟨by omega, Or.inl (by omega)⟩, by go_num, (fun j hj => by
            by_cases e : j + 1 = k
            · have e' : j = k - 1 := by omega
              rw [e, Hx.out, e', Hy.out]; exact hxy'
            · exact Htk.out j (by omega)), d + nq, by first | rfl | rw [World.drewN_drewN]⟩
          case measure => simp [intOf]; omega
      · go_wp2_with (fail)
        go_ret
        have : q = 0 := by
          rw [← Hq.out]
          have hfb := fallsB_false (fs := fs) (fun j hj => Htk.out j (by omega))
          simp [chkFirst, Hany.out, hfb]
        subst this
        exact ⟨rfl, (by repeat (first | exact Below.refl _ _ | assumption | refine below_drewN ?_ _ | refine Below.drew ?_ | refine Below.alloc ?_ (by simp <;> omega) _ | refine below_trans ?_ (by assumption)))⟩
end Go.Proofs.YtpiacnnifdjlkabDoor

/-
  What checkSteps and Check of package auto tell.
-/
namespace Go.Proofs.YtpiacnnifdjlkabDoor
open Go.RowKit Go.Sort

def prevOf (ss : List Stp) (k : Nat) : Option Stp := if k = 0 then none else some (ss.getD (k - 1) stp0)

theorem drop_cons (ss : List Stp) (k : Nat) (h : k < ss.length) : ss.drop k = ss.getD k stp0 :: ss.drop (k + 1) := by
  rw [List.drop_eq_getElem_cons h]
  simp [List.getD, h]

theorem chk_bad (n m : Int) (ss : List Stp) (k : Nat) (h : k < ss.length) (hb : badS n m (ss.getD k stp0) = true) : chkStepsFrom n m (prevOf ss k) (ss.drop k) = 5 := by
  rw [drop_cons ss k h]
  unfold chkStepsFrom
  rw [if_pos hb]

theorem chk_first (n m : Int) (ss : List Stp) (h : 0 < ss.length) (hb : badS n m (ss.getD 0 stp0) = false) : chkStepsFrom n m (prevOf ss 0) (ss.drop 0) = chkStepsFrom n m (prevOf ss 1) (ss.drop 1) := by
  rw [drop_cons ss 0 h, show prevOf ss 1 = some (ss.getD 0 stp0) from rfl, show prevOf ss 0 = none from rfl]
  rw [chkStepsFrom, if_neg (by rw [hb]; simp)]

theorem chk_fall (n m : Int) (ss : List Stp) (k : Nat) (hk : 0 < k) (h : k < ss.length) (hb : badS n m (ss.getD k stp0) = false) (ho : 0 ≤ ordS (ss.getD (k - 1) stp0) (ss.getD k stp0)) : chkStepsFrom n m (prevOf ss k) (ss.drop k) = 4 := by
  rw [drop_cons ss k h, show prevOf ss k = some (ss.getD (k - 1) stp0) by simp only [prevOf, if_neg (show ¬ k = 0 by omega)]]
  rw [chkStepsFrom, if_neg (by rw [hb]; simp)]
  rw [if_pos (decide_eq_true ho)]

theorem chk_rise (n m : Int) (ss : List Stp) (k : Nat) (hk : 0 < k) (h : k < ss.length) (hb : badS n m (ss.getD k stp0) = false) (ho : ordS (ss.getD (k - 1) stp0) (ss.getD k stp0) < 0) : chkStepsFrom n m (prevOf ss k) (ss.drop k) = chkStepsFrom n m (prevOf ss (k + 1)) (ss.drop (k + 1)) := by
  rw [drop_cons ss k h, show prevOf ss k = some (ss.getD (k - 1) stp0) by simp only [prevOf, if_neg (show ¬ k = 0 by omega)], show prevOf ss (k + 1) = some (ss.getD k stp0) by simp only [prevOf, if_neg (show ¬ k + 1 = 0 by omega), Nat.add_sub_cancel]]
  rw [chkStepsFrom, if_neg (by rw [hb]; simp)]
  rw [if_neg (by rw [decide_eq_true_iff]; omega)]

theorem chk_end (n m : Int) (ss : List Stp) (k : Nat) (h : ss.length ≤ k) : chkStepsFrom n m (prevOf ss k) (ss.drop k) = 0 := by
  rw [List.drop_eq_nil_of_le h]
  simp [chkStepsFrom]

set_option maxRecDepth 100000 in
set_option maxHeartbeats 2000000 in
theorem checkSteps_any {w : World} (n m : Int) (a1 a2 : Option Addr) (l1 l2 c1 c2 : Nat) (sv : Value) (ss : List Stp) (hs : StepSl w sv ss) :
    Calls Tryd.prog 52 #[.agg #[.int .i64 n, .int .i64 m, .slice a1 l1 c1, .slice a2 l2 c2, sv]] w fun e w' => e = .returned (.int .i64 (chkStepsFrom n m none ss)) ∧ Below w.heap.size w w' := by
  obtain ⟨a0, c0, rfl, hm0, hc, -⟩ := hs
  have Hc := hide hc
  clear hc
  unfold maxLen at hm0
  generalize hq : chkStepsFrom n m none ss = q
  have Hq : Hid (chkStepsFrom n m (prevOf ss 0) (ss.drop 0) = q) := hq
  clear hq
  go_enter Tryd.func52, Tryd.ntmps52
  go_wp2_with (fail)
  generalize hW0 : w.alloc (Obj.cells #[Value.int .i64 n, .int .i64 m, .slice a1 l1 c1, .slice a2 l2 c2, .slice a0 ss.length c0] 26) = W0
  have hbW : Below w.heap.size w W0 := by rw [← hW0]; exact (by repeat (first | exact Below.refl _ _ | assumption | refine below_drewN ?_ _ | refine Below.drew ?_ | refine Below.alloc ?_ (by simp <;> omega) _ | refine below_trans ?_ (by assumption)))
  have hB : ∀ {w' : World}, Below W0.heap.size W0 w' → w'.cell? ⟨w.heap.size, 0, none⟩ = some (.int .i64 n) ∧ w'.cell? ⟨w.heap.size, 1, none⟩ = some (.int .i64 m) ∧ w'.cell? ⟨w.heap.size, 4, none⟩ = some (.slice a0 ss.length c0) ∧ w.heap.size < w'.heap.size := by
    intro w' hb
    have hsz : w.heap.size < W0.heap.size := by rw [← hW0]; simp
    refine ⟨?_, ?_, ?_, Nat.lt_of_lt_of_le hsz hb.size⟩
    · rw [hb.cell hsz, ← hW0]; simp
    · rw [hb.cell hsz, ← hW0]; simp
    · rw [hb.cell hsz, ← hW0]; simp
  clear hW0
  have HB := hide (fun w' => @hB w')
  clear hB
  go_loopw [8] (fun i wr => ∃ k : Nat, k ≤ ss.length ∧ i = .int .i64 k ∧ chkStepsFrom n m (prevOf ss k) (ss.drop k) = q ∧ Below W0.heap.size W0 wr) (fun i _ => ss.length - (intOf i).toNat)
  case atStart => exact ⟨0, Nat.zero_le _, rfl, Hq.out, Below.refl _ _⟩
  case round =>
    obtain ⟨k, hk, rfl, hqk, hbr⟩ := hrel
    have Hqk := hide hqk
    clear hqk
    obtain ⟨x0, x1, x4, hlw⟩ := HB.out _ hbr
    by_cases hlt : k < ss.length
    · obtain ⟨b, off, rfl, hcell⟩ : ∃ b off, a0 = some ⟨b, off, none⟩ ∧ ∀ i, i < ss.length → w.cell? ⟨b, off + i * 3, none⟩ = some (.int .i64 (ss.getD i stp0).f) ∧ w.cell? ⟨b, off + i * 3 + 1, none⟩ = some (.int .i64 (ss.getD i stp0).l) ∧ w.cell? ⟨b, off + i * 3 + 2, none⟩ = some (.int .i64 (ss.getD i stp0).t) := by
        rcases Hc.out with h | h
        · subst h; simp at hlt
        · exact h
      have hbR := below_trans hbW hbr
      obtain ⟨d0, d1, d2⟩ := hcell k hlt
      rw [← hbR.cell (World.block_lt_of_cell? w _ d0)] at d0
      rw [← hbR.cell (World.block_lt_of_cell? w _ d1)] at d1
      rw [← hbR.cell (World.block_lt_of_cell? w _ d2)] at d2
      have Hcell := hide hcell
      clear hcell
      generalize hs : ss.getD k stp0 = s at *
      have Hs := hide hs
      clear hs
      obtain ⟨sf, sl, st⟩ := s
      dsimp only at d0 d1 d2
      have HW1 := hide (within_any sf n)
      have HW2 := hide (within_any st n)
      have HW3 := hide (within_any sl m)
      generalize hr1 : decide (0 ≤ sf ∧ sf < n) = r1 at HW1
      generalize hr2 : decide (0 ≤ st ∧ st < n) = r2 at HW2
      generalize hr3 : decide (0 ≤ sl ∧ sl < m) = r3 at HW3
      have Hr1 := hide hr1
      have Hr2 := hide hr2
      have Hr3 := hide hr3
      clear hr1 hr2 hr3
      have Hbad : Hid (badS n m (ss.getD k stp0) = (!r1 || !r2 || !r3)) := by
        show badS n m (ss.getD k stp0) = _
        rw [Hs.out]
        simp only [badS, outB, Hr1.out, Hr2.out, Hr3.out]
      go_wp2_with (fail)
      refine (HW1.out _).mono ?_
      rintro e w' ⟨rfl, rfl⟩
      cases r1 with
      | false =>
        go_wp2
        go_ret
        have : q = 5 := by rw [← Hqk.out]; exact chk_bad n m ss k hlt (by rw [Hbad.out]; rfl)
        subst this
        exact ⟨rfl, below_trans hbR (by repeat (first | exact Below.refl _ _ | assumption | refine below_drewN ?_ _ | refine Below.drew ?_ | refine Below.alloc ?_ (by simp <;> omega) _ | refine below_trans ?_ (by assumption)))⟩
      | true =>
        go_wp2_with (fail)
        refine (HW2.out _).mono ?_
        rintro e w' ⟨rfl, rfl⟩
        cases r2 with
        | false =>
          go_wp2
          go_ret
          have : q = 5 := by rw [← Hqk.out]; exact chk_bad n m ss k hlt (by rw [Hbad.out]; rfl)
          subst this
          exact ⟨rfl, below_trans hbR (by repeat (first | exact Below.refl _ _ | assumption | refine below_drewN ?_ _ | refine Below.drew ?_ | refine Below.alloc ?_ (by simp <;> omega) _ | refine below_trans ?_ (by assumption)))⟩
        | true =>
          go_wp2_with (fail)
          refine (HW3.out _).mono ?_
          rintro e w' ⟨rfl, rfl⟩
          cases r3 with
          | false =>
            go_wp2
            go_ret
            have : q = 5 := by rw [← Hqk.out]; exact chk_bad n m ss k hlt (by rw [Hbad.out]; rfl)
            subst this
            exact ⟨rfl, below_trans hbR (by repeat (first | exact Below.refl _ _ | assumption | refine below_drewN ?_ _ | refine Below.drew ?_ | refine Below.alloc ?_ (by simp <;> omega) _ | refine below_trans ?_ (by assumption)))⟩
          | true =>
            by_cases hk0 : 0 < k
            · obtain ⟨e0, e1, e2⟩ := Hcell.out (k - 1) (by omega)
              rw [← hbR.cell (World.block_lt_of_cell? w _ e0)] at e0
              rw [← hbR.cell (World.block_lt_of_cell? w _ e1)] at e1
              rw [← hbR.cell (World.block_lt_of_cell? w _ e2)] at e2
              generalize hp : ss.getD (k - 1) stp0 = p at e0 e1 e2
              have Hp := hide hp
              clear hp
              obtain ⟨pf, pl, pt⟩ := p
              dsimp only at e0 e1 e2
              have hbs := World.block_lt_of_cell? _ _ e0
              generalize hW1 : wr.alloc (Obj.cells #[Value.int .i64 sf, .int .i64 sl, .int .i64 st] 49) = W1
              have k0 := cell_regrown (w := W1) (a := ⟨b, off + (k - 1) * 3, none⟩) (v := .int .i64 pf) (by rw [← hW1, World.cell?_alloc_past _ _ _ hbs]; exact e0)
              have k1 := cell_regrown (w := W1) (a := ⟨b, off + (k - 1) * 3 + 1, none⟩) (v := .int .i64 pl) (by rw [← hW1, World.cell?_alloc_past _ _ _ hbs]; exact e1)
              have k2 := cell_regrown (w := W1) (a := ⟨b, off + (k - 1) * 3 + 2, none⟩) (v := .int .i64 pt) (by rw [← hW1, World.cell?_alloc_past _ _ _ hbs]; exact e2)
              have k3 := cell_regrown (w := W1) (a := ⟨wr.heap.size, 0, none⟩) (v := .int .i64 sf) (by rw [← hW1]; simp)
              have k4 := cell_regrown (w := W1) (a := ⟨wr.heap.size, 1, none⟩) (v := .int .i64 sl) (by rw [← hW1]; simp)
              have k5 := cell_regrown (w := W1) (a := ⟨wr.heap.size, 2, none⟩) (v := .int .i64 st) (by rw [← hW1]; simp)
              have k6 := cell_regrown (w := W1) (a := ⟨w.heap.size, 4, none⟩) (v := .slice (some ⟨b, off, none⟩) ss.length c0) (by rw [← hW1, World.cell?_alloc_past _ _ _ hlw]; exact x4)
              have hbW1 : Below W0.heap.size W0 W1 := by rw [← hW1]; exact hbr.alloc hbr.size _
              clear hW1
              have cO : ∀ d os, Calls Tryd.prog 75 #[.agg #[.int .i64 pf, .int .i64 pl, .int .i64 pt], .agg #[.int .i64 sf, .int .i64 sl, .int .i64 st]] (grow (redrawn W1 d) os) fun e w'' => e = .returned (.int .i64 (ordS ⟨pf, pl, pt⟩ ⟨sf, sl, st⟩)) ∧ ∃ p : Regrown, w'' = grow (redrawn W1 p.d) p.os := fun d os => Calls.regrown_of (order_any ⟨pf, pl, pt⟩ ⟨sf, sl, st⟩ _)
              generalize ho : ordS ⟨pf, pl, pt⟩ ⟨sf, sl, st⟩ = o at cO
              have Ho := hide ho
              have CO := hide cO
              clear ho cO d0 d1 d2 e0 e1 e2 x0 x1 x4 HB HW1 HW2 HW3
              by_cases hneg : 0 ≤ o
              · have hd : decide (0 ≤ o) = true := decide_eq_true hneg
                go_wp2_with (fail)
                refine wp_region_quiet_below (by kernel_rfl) (by kernel_rfl) ?_
                (repeat (go_big_quiet_step (exact CO.out _ _)))
                refine wpQuiet_nil ?_
                intro _ hw'
                obtain ⟨⟨dq, osq⟩, hw''⟩ := hw'
                subst hw''
                have hbq := below_trans hbW1 (below_regrown W1 dq osq)
                clear k0 k1 k2 k3 k4 k5 k6
                go_wp2
                go_ret
                have : q = 4 := by rw [← Hqk.out]; exact chk_fall n m ss k hk0 hlt (by rw [Hbad.out]; rfl) (by rw [Hs.out, Hp.out, Ho.out]; exact hneg)
                subst this
                exact ⟨rfl, below_trans hbW hbq⟩
              · have hd : decide (0 ≤ o) = false := decide_eq_false hneg
                go_wp2_with (fail)
                refine wp_region_quiet_below (by kernel_rfl) (by kernel_rfl) ?_
                (repeat (go_big_quiet_step (exact CO.out _ _)))
                refine wpQuiet_nil ?_
                intro _ hw'
                obtain ⟨⟨dq, osq⟩, hw''⟩ := hw'
                subst hw''
                have hbq := below_trans hbW1 (below_regrown W1 dq osq)
                clear k0 k1 k2 k3 k4 k5 k6
                go_wp2
                go_roundw
                case rel => exact ⟨k + 1, by omega, by go_num, by
                  rw [← Hqk.out]
                  exact (chk_rise n m ss k hk0 hlt (by rw [Hbad.out]; rfl) (by rw [Hs.out, Hp.out, Ho.out]; omega)).symm, hbq⟩
                case measure => simp [intOf]; omega
            · have hd0 : decide (0 < k) = false := by simp; omega
              have Hk0 : Hid (k = 0) := by show k = 0; omega
              go_wp2_with (fail)
              (refine wp_region_quiet_lit (by kernel_rfl) (by kernel_rfl) ?_; (repeat (go_big_quiet_step (fail))); refine wpQuiet_nil ?_; intro _ hw'; obtain ⟨nq, hw''⟩ := hw'; subst hw'')
              go_wp2
              go_roundw
              case rel => exact ⟨k + 1, by omega, by go_num, by
                rw [← Hqk.out, Hk0.out]
                exact (chk_first n m ss (by omega) (by have := Hbad.out; rw [Hk0.out] at this; exact this)).symm, below_drewN (hbr.alloc hbr.size _) _⟩
              case measure => simp [intOf]; omega
    · go_wp2_with (fail)
      go_ret
      have : q = 0 := by rw [← Hqk.out]; exact chk_end n m ss k (by omega)
      subst this
      exact ⟨rfl, below_trans hbW hbr⟩
end Go.Proofs.YtpiacnnifdjlkabDoor

/-
  What Check of package auto tells.
-/
namespace Go.Proofs.YtpiacnnifdjlkabDoor
open Go.RowKit Go.Sort

set_option maxRecDepth 100000 in
set_option maxHeartbeats 1000000 in
theorem autoCheck_any {w : World} {v : Value} {A : Aut} (hv : AutV w v A) :
    Calls Tryd.prog 31 #[v] w fun e w' => e = .returned (.int .i64 (chkA A)) ∧ Below w.heap.size w w' := by
  obtain ⟨fv, gv, sv, rfl, h1, h2, h3⟩ := hv
  have HF : Hid (∀ w1, Below w.heap.size w w1 → Calls Tryd.prog 51 #[.agg #[.int .i64 A.n, .int .i64 A.m, fv, gv, sv]] w1 fun e w' => e = .returned (.int .i64 (chkFirst A.n A.first)) ∧ Below w1.heap.size w1 w') := fun w1 hb => checkFirst_any A.n A.m fv gv sv A.first (h1.below hb)
  obtain ⟨a1, c1, rfl, hm1, -, -⟩ := h1
  obtain ⟨a2, c2, rfl, hm2, -, -⟩ := h2
  have HS : Hid (∀ w1, Below w.heap.size w w1 → Calls Tryd.prog 52 #[.agg #[.int .i64 A.n, .int .i64 A.m, .slice a1 A.first.length c1, .slice a2 A.good.length c2, sv]] w1 fun e w' => e = .returned (.int .i64 (chkStepsFrom A.n A.m none A.steps)) ∧ Below w1.heap.size w1 w') := fun w1 hb => checkSteps_any A.n A.m a1 a2 _ _ c1 c2 sv A.steps (h3.below hb)
  obtain ⟨a3, c3, rfl, hm3, -, -⟩ := h3
  unfold maxLen at hm1 hm2 hm3
  generalize hq : chkA A = q
  have Hq := hide hq
  clear hq
  obtain ⟨n, m, first, good, steps⟩ := A
  dsimp only at *
  generalize hcf : chkFirst n first = cf at HF
  generalize hcs : chkStepsFrom n m none steps = cs at HS
  have Hcf := hide hcf
  have Hcs := hide hcs
  clear hcf hcs
  generalize hl1 : first.length = L1 at *
  generalize hl2 : good.length = L2 at *
  generalize hl3 : steps.length = L3 at *
  have Hqq : Hid (q = if n < 1 ∨ 300 < n ∨ m < 1 ∨ 8 < m then 3 else if (L2 : Int) ≠ n then 1 else if 6000 < L3 then 2 else if cf ≠ 0 then cf else cs) := by
    show q = _
    rw [← Hq.out, ← hl2, ← hl3]
    simp only [chkA, Hcf.out, Hcs.out]
  clear hl1 hl2 hl3 Hq Hcf Hcs
  by_cases g1 : n < 1
  · have : q = 3 := by rw [Hqq.out, if_pos (Or.inl g1)]
    subst this
    go_enter Tryd.func31, Tryd.ntmps31
    go_wp2
    go_ret
    exact ⟨rfl, (by repeat (first | exact Below.refl _ _ | assumption | refine below_drewN ?_ _ | refine Below.drew ?_ | refine Below.alloc ?_ (by simp <;> omega) _ | refine below_trans ?_ (by assumption)))⟩
  by_cases g2 : 300 < n
  · have : q = 3 := by rw [Hqq.out, if_pos (Or.inr (Or.inl g2))]
    subst this
    have g1' : 1 ≤ n := by omega
    clear g1
    go_enter Tryd.func31, Tryd.ntmps31
    go_wp2
    go_ret
    exact ⟨rfl, (by repeat (first | exact Below.refl _ _ | assumption | refine below_drewN ?_ _ | refine Below.drew ?_ | refine Below.alloc ?_ (by simp <;> omega) _ | refine below_trans ?_ (by assumption)))⟩
  have g1' : 1 ≤ n := by omega
  have g2' : n ≤ 300 := by omega
  by_cases g3 : m < 1
  · have : q = 3 := by rw [Hqq.out, if_pos (Or.inr (Or.inr (Or.inl g3)))]
    subst this
    clear g1 g2
    go_enter Tryd.func31, Tryd.ntmps31
    go_wp2
    go_ret
    exact ⟨rfl, (by repeat (first | exact Below.refl _ _ | assumption | refine below_drewN ?_ _ | refine Below.drew ?_ | refine Below.alloc ?_ (by simp <;> omega) _ | refine below_trans ?_ (by assumption)))⟩
  have g3' : 1 ≤ m := by omega
  by_cases g4 : 8 < m
  · have : q = 3 := by rw [Hqq.out, if_pos (Or.inr (Or.inr (Or.inr g4)))]
    subst this
    clear g1 g2 g3
    go_enter Tryd.func31, Tryd.ntmps31
    go_wp2
    go_ret
    exact ⟨rfl, (by repeat (first | exact Below.refl _ _ | assumption | refine below_drewN ?_ _ | refine Below.drew ?_ | refine Below.alloc ?_ (by simp <;> omega) _ | refine below_trans ?_ (by assumption)))⟩
  have g4' : m ≤ 8 := by omega
  have Hq1 : Hid (q = if (L2 : Int) ≠ n then 1 else if 6000 < L3 then 2 else if cf ≠ 0 then cf else cs) := by
    show q = _
    rw [Hqq.out, if_neg (by omega)]
  clear Hqq g1 g2 g3 g4
  by_cases g5 : (L2 : Int) = n
  · have g5' : ((L2 : Int) != n) = false := by simp [g5]
    have Hq2 : Hid (q = if 6000 < L3 then 2 else if cf ≠ 0 then cf else cs) := by
      show q = _
      rw [Hq1.out, if_neg (by simpa using g5)]
    clear Hq1 g5
    by_cases g6 : 6000 < L3
    · have : q = 2 := by rw [Hq2.out, if_pos g6]
      subst this
      go_enter Tryd.func31, Tryd.ntmps31
      go_wp2
      go_ret
      exact ⟨rfl, (by repeat (first | exact Below.refl _ _ | assumption | refine below_drewN ?_ _ | refine Below.drew ?_ | refine Below.alloc ?_ (by simp <;> omega) _ | refine below_trans ?_ (by assumption)))⟩
    have g6' : L3 ≤ 6000 := by omega
    have Hq3 : Hid (q = if cf ≠ 0 then cf else cs) := by
      show q = _
      rw [Hq2.out, if_neg g6]
    clear Hq2 g6
    by_cases g7 : cf = 0
    · have g7' : (cf != 0) = false := by simp [g7]
      have Hq4 : Hid (q = cs) := by show q = cs; rw [Hq3.out, if_neg (by simpa using g7)]
      clear Hq3 g7
      go_enter Tryd.func31, Tryd.ntmps31
      go_wp2_with (fail)
      refine (HF.out _ (by repeat (first | exact Below.refl _ _ | assumption | refine below_drewN ?_ _ | refine Below.drew ?_ | refine Below.alloc ?_ (by simp <;> omega) _ | refine below_trans ?_ (by assumption)))).mono ?_
      rintro e w1 ⟨rfl, hb1⟩
      have hbw : Below w.heap.size w w1 := below_trans (by repeat (first | exact Below.refl _ _ | assumption | refine below_drewN ?_ _ | refine Below.drew ?_ | refine Below.alloc ?_ (by simp <;> omega) _ | refine below_trans ?_ (by assumption))) hb1
      have y0 : w1.cell? ⟨w.heap.size, 0, none⟩ = some (.int .i64 n) := by rw [hb1.cell (by simp <;> omega)]; simp
      have y1 : w1.cell? ⟨w.heap.size, 1, none⟩ = some (.int .i64 m) := by rw [hb1.cell (by simp <;> omega)]; simp
      have y2 : w1.cell? ⟨w.heap.size, 2, none⟩ = some (.slice a1 L1 c1) := by rw [hb1.cell (by simp <;> omega)]; simp
      have y3 : w1.cell? ⟨w.heap.size, 3, none⟩ = some (.slice a2 L2 c2) := by rw [hb1.cell (by simp <;> omega)]; simp
      have y4 : w1.cell? ⟨w.heap.size, 4, none⟩ = some (.slice a3 L3 c3) := by rw [hb1.cell (by simp <;> omega)]; simp
      go_wp2_with (fail)
      refine (HS.out _ hbw).mono ?_
      rintro e w2 ⟨rfl, hb2⟩
      go_wp2
      go_ret
      exact ⟨by rw [Hq4.out]; rfl, below_trans hbw hb2⟩
    · have g7' : (cf != 0) = true := by simp [g7]
      have Hq4 : Hid (q = cf) := by show q = cf; rw [Hq3.out, if_pos g7]
      clear Hq3 g7
      go_enter Tryd.func31, Tryd.ntmps31
      go_wp2_with (fail)
      refine (HF.out _ (by repeat (first | exact Below.refl _ _ | assumption | refine below_drewN ?_ _ | refine Below.drew ?_ | refine Below.alloc ?_ (by simp <;> omega) _ | refine below_trans ?_ (by assumption)))).mono ?_
      rintro e w1 ⟨rfl, hb1⟩
      have hbw : Below w.heap.size w w1 := below_trans (by repeat (first | exact Below.refl _ _ | assumption | refine below_drewN ?_ _ | refine Below.drew ?_ | refine Below.alloc ?_ (by simp <;> omega) _ | refine below_trans ?_ (by assumption))) hb1
      go_wp2
      go_ret
      exact ⟨by rw [Hq4.out]; rfl, hbw⟩
  · have g5' : ((L2 : Int) != n) = true := by simp [g5]
    have : q = 1 := by rw [Hq1.out, if_pos g5]
    subst this
    clear Hq1 g5
    go_enter Tryd.func31, Tryd.ntmps31
    go_wp2
    go_ret
    exact ⟨rfl, (by repeat (first | exact Below.refl _ _ | assumption | refine below_drewN ?_ _ | refine Below.drew ?_ | refine Below.alloc ?_ (by simp <;> omega) _ | refine below_trans ?_ (by assumption)))⟩
end Go.Proofs.YtpiacnnifdjlkabDoor

namespace Go.Proofs.YtpiacnnifdjlkabDoor
open Go.RowKit Go.Sort

theorem five_get (B : Nat → Nat) (k : IntKind) (i : Nat) (h : i < 5) : (#[Value.int k (B 0), .int k (B 1), .int k (B 2), .int k (B 3), .int k (B 4)] : Array Value)[i]? = some (.int k (B i)) := by
  match i, h with
  | 0, _ => rfl
  | 1, _ => rfl
  | 2, _ => rfl
  | 3, _ => rfl
  | 4, _ => rfl

/-- Is a state in the set? -/
def inB (B : Nat → Nat) (s : Nat) : Bool := (B (s / 64)).testBit (s % 64)

def addB (B : Nat → Nat) (s : Nat) : Nat → Nat := fun i => if i = s / 64 then B i ||| 2 ^ (s % 64) else B i

def Words (B : Nat → Nat) : Prop := ∀ i, B i < 18446744073709551616

theorem testBit_word (x k : Nat) (hx : x < 18446744073709551616) : (bits BinOp.and IntKind.u64 ((x : Int) / 2 ^ k) 1 != 0) = x.testBit k := by
  have e1 : (2 : Int) ^ k = ((2 ^ k : Nat) : Int) := by simp
  have e : ((x : Int) / 2 ^ k) = ((x / 2 ^ k : Nat) : Int) := by rw [e1]; exact (Int.natCast_ediv x (2 ^ k)).symm
  have hle : x / 2 ^ k ≤ x := Nat.div_le_self _ _
  rw [e, Nat.testBit_eq_decide_div_mod_eq]
  generalize x / 2 ^ k = y at *
  rw [and_one_u64 _ (by omega) (by omega)]
  rcases Nat.mod_two_eq_zero_or_one y with h | h
  · have h2 : (y : Int) % 2 = 0 := by omega
    rw [h, h2]; rfl
  · have h2 : (y : Int) % 2 = 1 := by omega
    rw [h, h2]; rfl

set_option maxHeartbeats 400000 in
theorem has_any (B : Nat → Nat) (s : Nat) (w : World) (hs : s < 300) (hB : Words B) :
    Calls Tryd.prog 60 #[.agg #[.int .u64 (B 0), .int .u64 (B 1), .int .u64 (B 2), .int .u64 (B 3), .int .u64 (B 4)], .int .i64 s] w fun e w' => e = .returned (.bool (inB B s)) ∧ Below w.heap.size w w' := by
  have hc : (w.alloc (Obj.cells #[Value.int .u64 (B 0), .int .u64 (B 1), .int .u64 (B 2), .int .u64 (B 3), .int .u64 (B 4)] 89)).cell? ⟨w.heap.size, s / 64, none⟩ = some (.int .u64 (B (s / 64))) := by
    rw [World.cell?_alloc_new]; exact five_get B .u64 _ (by omega)
  have hb := hB (s / 64)
  have Hr := hide (testBit_word (B (s / 64)) (s % 64) hb)
  unfold inB
  generalize B (s / 64) = x at *
  have h0 : 0 ≤ (s : Int) % 64 := by omega
  have h1 : (s : Int) % 64 < 64 := by omega
  clear hB
  go_enter Tryd.func60, Tryd.ntmps60
  go_wp2
  go_ret
  exact ⟨by rw [← Hr.out]; rfl, (by repeat (first | exact Below.refl _ _ | assumption | refine below_drewN ?_ _ | refine Below.drew ?_ | refine Below.alloc ?_ (by simp <;> omega) _ | refine below_trans ?_ (by assumption)))⟩

theorem orBit_word (x k : Nat) (hx : x < 18446744073709551616) (hk : k < 64) : bits BinOp.or IntKind.u64 (x : Int) (IntKind.u64.wrap (2 ^ k)) = ((x ||| 2 ^ k : Nat) : Int) := by
  have e1 : (2 : Int) ^ k = ((2 ^ k : Nat) : Int) := by simp
  have hlt : 2 ^ k < 2 ^ 64 := Nat.pow_lt_pow_right (by decide) hk
  have e2 : IntKind.u64.wrap (2 ^ k) = ((2 ^ k : Nat) : Int) := by
    rw [IntKind.wrap_u64, e1]
    generalize 2 ^ k = y at *
    omega
  rw [e2]
  exact bits_or_u64_nat x (2 ^ k) hx (Nat.pow_lt_pow_right (by decide) hk)

theorem addB_words {B : Nat → Nat} (hB : Words B) (s : Nat) : Words (addB B s) := by
  intro i
  unfold addB
  split
  · exact Nat.or_lt_two_pow (n := 64) (hB i) (Nat.pow_lt_pow_right (by decide) (Nat.mod_lt _ (by decide)))
  · exact hB i

theorem inB_add (B : Nat → Nat) (s t : Nat) : inB (addB B s) t = (inB B t || decide (t = s)) := by
  unfold inB addB
  by_cases h : t / 64 = s / 64
  · rw [if_pos h, Nat.testBit_or, Nat.testBit_two_pow]
    congr 1
    by_cases e : t = s
    · subst e; simp
    · have : ¬ s % 64 = t % 64 := by omega
      simp [this, e]
  · rw [if_neg h]
    have : ¬ t = s := by intro e; subst e; exact h rfl
    simp [this]

set_option maxRecDepth 100000 in
set_option maxHeartbeats 1000000 in
theorem with_0 (B : Nat → Nat) (s : Nat) (w : World) (hs : s < 300) (hB : Words B) (hq : s / 64 = 0) :
    Calls Tryd.prog 53 #[.agg #[.int .u64 (B 0), .int .u64 (B 1), .int .u64 (B 2), .int .u64 (B 3), .int .u64 (B 4)], .int .i64 s] w fun e w' => e = .returned (.agg #[.int .u64 (addB B s 0), .int .u64 (addB B s 1), .int .u64 (addB B s 2), .int .u64 (addB B s 3), .int .u64 (addB B s 4)]) ∧ Below w.heap.size w w' := by
  have hqi : (s : Int) / 64 = 0 := by omega
  have h0 : 0 ≤ (s : Int) % 64 := by omega
  have h1 : (s : Int) % 64 < 64 := by omega
  have ho := orBit_word (B 0) (s % 64) (hB 0) (by omega)
  have Hv : Hid ((Value.agg #[.int .u64 (addB B s 0), .int .u64 (addB B s 1), .int .u64 (addB B s 2), .int .u64 (addB B s 3), .int .u64 (addB B s 4)]) = (Value.agg #[.int .u64 (bits BinOp.or IntKind.u64 ((B 0 : Nat) : Int) (IntKind.u64.wrap (2 ^ (s % 64)))), .int .u64 (B 1), .int .u64 (B 2), .int .u64 (B 3), .int .u64 (B 4)])) := by
    show _ = _
    simp [addB, hq, ho]
  rw [Hv.out]
  clear ho
  go_enter Tryd.func53, Tryd.ntmps53
  go_wp2
  go_region
  go_wp2
  exact bodyPost_ret (v := (Value.agg #[.int .u64 (bits BinOp.or IntKind.u64 ((B 0 : Nat) : Int) (IntKind.u64.wrap (2 ^ (s % 64)))), .int .u64 (B 1), .int .u64 (B 2), .int .u64 (B 3), .int .u64 (B 4)])) (by simp [results, Tryd.results53, go_sem]) rfl ⟨rfl, (by repeat (first | exact Below.refl _ _ | assumption | refine below_drewN ?_ _ | refine Below.drew ?_ | refine Below.alloc ?_ (by simp <;> omega) _ | refine below_trans ?_ (by assumption)))⟩

set_option maxRecDepth 100000 in
set_option maxHeartbeats 1000000 in
theorem with_1 (B : Nat → Nat) (s : Nat) (w : World) (hs : s < 300) (hB : Words B) (hq : s / 64 = 1) :
    Calls Tryd.prog 53 #[.agg #[.int .u64 (B 0), .int .u64 (B 1), .int .u64 (B 2), .int .u64 (B 3), .int .u64 (B 4)], .int .i64 s] w fun e w' => e = .returned (.agg #[.int .u64 (addB B s 0), .int .u64 (addB B s 1), .int .u64 (addB B s 2), .int .u64 (addB B s 3), .int .u64 (addB B s 4)]) ∧ Below w.heap.size w w' := by
  have hqi : (s : Int) / 64 = 1 := by omega
  have h0 : 0 ≤ (s : Int) % 64 := by omega
  have h1 : (s : Int) % 64 < 64 := by omega
  have ho := orBit_word (B 1) (s % 64) (hB 1) (by omega)
  have Hv : Hid ((Value.agg #[.int .u64 (addB B s 0), .int .u64 (addB B s 1), .int .u64 (addB B s 2), .int .u64 (addB B s 3), .int .u64 (addB B s 4)]) = (Value.agg #[.int .u64 (B 0), .int .u64 (bits BinOp.or IntKind.u64 ((B 1 : Nat) : Int) (IntKind.u64.wrap (2 ^ (s % 64)))), .int .u64 (B 2), .int .u64 (B 3), .int .u64 (B 4)])) := by
    show _ = _
    simp [addB, hq, ho]
  rw [Hv.out]
  clear ho
  go_enter Tryd.func53, Tryd.ntmps53
  go_wp2
  go_region
  go_wp2
  exact bodyPost_ret (v := (Value.agg #[.int .u64 (B 0), .int .u64 (bits BinOp.or IntKind.u64 ((B 1 : Nat) : Int) (IntKind.u64.wrap (2 ^ (s % 64)))), .int .u64 (B 2), .int .u64 (B 3), .int .u64 (B 4)])) (by simp [results, Tryd.results53, go_sem]) rfl ⟨rfl, (by repeat (first | exact Below.refl _ _ | assumption | refine below_drewN ?_ _ | refine Below.drew ?_ | refine Below.alloc ?_ (by simp <;> omega) _ | refine below_trans ?_ (by assumption)))⟩

set_option maxRecDepth 100000 in
set_option maxHeartbeats 1000000 in
theorem with_2 (B : Nat → Nat) (s : Nat) (w : World) (hs : s < 300) (hB : Words B) (hq : s / 64 = 2) :
    Calls Tryd.prog 53 #[.agg #[.int .u64 (B 0), .int .u64 (B 1), .int .u64 (B 2), .int .u64 (B 3), .int .u64 (B 4)], .int .i64 s] w fun e w' => e = .returned (.agg #[.int .u64 (addB B s 0), .int .u64 (addB B s 1), .int .u64 (addB B s 2), .int .u64 (addB B s 3), .int .u64 (addB B s 4)]) ∧ Below w.heap.size w w' := by
  have hqi : (s : Int) / 64 = 2 := by omega
  have h0 : 0 ≤ (s : Int) % 64 := by omega
  have h1 : (s : Int) % 64 < 64 := by omega
  have ho := orBit_word (B 2) (s % 64) (hB 2) (by omega)
  have Hv : Hid ((Value.agg #[.int .u64 (addB B s 0), .int .u64 (addB B s 1), .int .u64 (addB B s 2), .int .u64 (addB B s 3), .int .u64 (addB B s 4)]) = (Value.agg #[.int .u64 (B 0), .int .u64 (B 1), .int .u64 (bits BinOp.or IntKind.u64 ((B 2 : Nat) : Int) (IntKind.u64.wrap (2 ^ (s % 64)))), .int .u64 (B 3), .int .u64 (B 4)])) := by
    show _ = _
    simp [addB, hq, ho]
  rw [Hv.out]
  clear ho
  go_enter Tryd.func53, Tryd.ntmps53
  go_wp2
  go_region
  go_wp2
  exact bodyPost_ret (v := (Value.agg #[.int .u64 (B 0), .int .u64 (B 1), .int .u64 (bits BinOp.or IntKind.u64 ((B 2 : Nat) : Int) (IntKind.u64.wrap (2 ^ (s % 64)))), .int .u64 (B 3), .int .u64 (B 4)])) (by simp [results, Tryd.results53, go_sem]) rfl ⟨rfl, (by repeat (first | exact Below.refl _ _ | assumption | refine below_drewN ?_ _ | refine Below.drew ?_ | refine Below.alloc ?_ (by simp <;> omega) _ | refine below_trans ?_ (by assumption)))⟩

set_option maxRecDepth 100000 in
set_option maxHeartbeats 1000000 in
theorem with_3 (B : Nat → Nat) (s : Nat) (w : World) (hs : s < 300) (hB : Words B) (hq : s / 64 = 3) :
    Calls Tryd.prog 53 #[.agg #[.int .u64 (B 0), .int .u64 (B 1), .int .u64 (B 2), .int .u64 (B 3), .int .u64 (B 4)], .int .i64 s] w fun e w' => e = .returned (.agg #[.int .u64 (addB B s 0), .int .u64 (addB B s 1), .int .u64 (addB B s 2), .int .u64 (addB B s 3), .int .u64 (addB B s 4)]) ∧ Below w.heap.size w w' := by
  have hqi : (s : Int) / 64 = 3 := by omega
  have h0 : 0 ≤ (s : Int) % 64 := by omega
  have h1 : (s : Int) % 64 < 64 := by omega
  have ho := orBit_word (B 3) (s % 64) (hB 3) (by omega)
  have Hv : Hid ((Value.agg #[.int .u64 (addB B s 0), .int .u64 (addB B s 1), .int .u64 (addB B s 2), .int .u64 (addB B s 3), .int .u64 (addB B s 4)]) = (Value.agg #[.int .u64 (B 0), .int .u64 (B 1), .int .u64 (B 2), .int .u64 (bits BinOp.or IntKind.u64 ((B 3 : Nat) : Int) (IntKind.u64.wrap (2 ^ (s % 64)))), .int .u64 (B 4)])) := by
    show _ = _
    simp [addB, hq, ho]
  rw [Hv.out]
  clear ho
  go_enter Tryd.func53, Tryd.ntmps53
  go_wp2
  go_region
  go_wp2
  exact bodyPost_ret (v := (Value.agg #[.int .u64 (B 0), .int .u64 (B 1), .int .u64 (B 2), .int .u64 (bits BinOp.or IntKind.u64 ((B 3 : Nat) : Int) (IntKind.u64.wrap (2 ^ (s % 64)))), .int .u64 (B 4)])) (by simp [results, Tryd.results53, go_sem]) rfl ⟨rfl, (by repeat (first | exact Below.refl _ _ | assumption | refine below_drewN ?_ _ | refine Below.drew ?_ | refine Below.alloc ?_ (by simp <;> omega) _ | refine below_trans ?_ (by assumption)))⟩

set_option maxRecDepth 100000 in
set_option maxHeartbeats 1000000 in
theorem with_4 (B : Nat → Nat) (s : Nat) (w : World) (hs : s < 300) (hB : Words B) (hq : s / 64 = 4) :
    Calls Tryd.prog 53 #[.agg #[.int .u64 (B 0), .int .u64 (B 1), .int .u64 (B 2), .int .u64 (B 3), .int .u64 (B 4)], .int .i64 s] w fun e w' => e = .returned (.agg #[.int .u64 (addB B s 0), .int .u64 (addB B s 1), .int .u64 (addB B s 2), .int .u64 (addB B s 3), .int .u64 (addB B s 4)]) ∧ Below w.heap.size w w' := by
  have hqi : (s : Int) / 64 = 4 := by omega
  have h0 : 0 ≤ (s : Int) % 64 := by omega
  have h1 : (s : Int) % 64 < 64 := by omega
  have ho := orBit_word (B 4) (s % 64) (hB 4) (by omega)
  have Hv : Hid ((Value.agg #[.int .u64 (addB B s 0), .int .u64 (addB B s 1), .int .u64 (addB B s 2), .int .u64 (addB B s 3), .int .u64 (addB B s 4)]) = (Value.agg #[.int .u64 (B 0), .int .u64 (B 1), .int .u64 (B 2), .int .u64 (B 3), .int .u64 (bits BinOp.or IntKind.u64 ((B 4 : Nat) : Int) (IntKind.u64.wrap (2 ^ (s % 64))))])) := by
    show _ = _
    simp [addB, hq, ho]
  rw [Hv.out]
  clear ho
  go_enter Tryd.func53, Tryd.ntmps53
  go_wp2
  go_region
  go_wp2
  exact bodyPost_ret (v := (Value.agg #[.int .u64 (B 0), .int .u64 (B 1), .int .u64 (B 2), .int .u64 (B 3), .int .u64 (bits BinOp.or IntKind.u64 ((B 4 : Nat) : Int) (IntKind.u64.wrap (2 ^ (s % 64))))])) (by simp [results, Tryd.results53, go_sem]) rfl ⟨rfl, (by repeat (first | exact Below.refl _ _ | assumption | refine below_drewN ?_ _ | refine Below.drew ?_ | refine Below.alloc ?_ (by simp <;> omega) _ | refine below_trans ?_ (by assumption)))⟩

theorem with_any (B : Nat → Nat) (s : Nat) (w : World) (hs : s < 300) (hB : Words B) :
    Calls Tryd.prog 53 #[.agg #[.int .u64 (B 0), .int .u64 (B 1), .int .u64 (B 2), .int .u64 (B 3), .int .u64 (B 4)], .int .i64 s] w fun e w' => e = .returned (.agg #[.int .u64 (addB B s 0), .int .u64 (addB B s 1), .int .u64 (addB B s 2), .int .u64 (addB B s 3), .int .u64 (addB B s 4)]) ∧ Below w.heap.size w w' := by
  by_cases h0 : s / 64 = 0
  · exact with_0 B s w hs hB h0
  by_cases h1 : s / 64 = 1
  · exact with_1 B s w hs hB h1
  by_cases h2 : s / 64 = 2
  · exact with_2 B s w hs hB h2
  by_cases h3 : s / 64 = 3
  · exact with_3 B s w hs hB h3
  · exact with_4 B s w hs hB (by omega)
end Go.Proofs.YtpiacnnifdjlkabDoor
