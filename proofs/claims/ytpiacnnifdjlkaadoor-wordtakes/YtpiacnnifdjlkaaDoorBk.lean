/-
  What Check of package auto tells.
-/
import Derived.Test.YtpiacnnifdjlkaaDoorBj
namespace Go.Proofs.YtpiacnnifdjlkaaDoor
open Go.RowKit Go.Sort

def outB (n x : Int) : Bool := !(decide (0 ≤ x ∧ x < n))

def fallsB (fs : List Int) : Bool := (List.range (fs.length - 1)).any fun i => decide (fs.getD (i + 1) 0 ≤ fs.getD i 0)

def chkFirst (n : Int) (fs : List Int) : Int := if fs.any (outB n) then 5 else if fallsB fs then 4 else 0

def badS (n m : Int) (s : Stp) : Bool := outB n s.f || outB n s.t || outB m s.l

def chkStepsFrom (n m : Int) : Option Stp → List Stp → Int
  | _, [] => 0
  | p, s :: r => if badS n m s then 5 else match p with
    | none => chkStepsFrom n m (some s) r
    | some q => if decide (0 ≤ ordS q s) then 4 else chkStepsFrom n m (some s) r

def chkA (A : Aut) : Int :=
  if A.n < 1 ∨ 300 < A.n ∨ A.m < 1 ∨ 8 < A.m then 3 else if (A.good.length : Int) ≠ A.n then 1 else if 6000 < A.steps.length then 2
  else if chkFirst A.n A.first ≠ 0 then chkFirst A.n A.first else chkStepsFrom A.n A.m none A.steps

set_option maxHeartbeats 400000 in
theorem firstNone_any (x n : Int) (a : Addr) (w : World) (ha : w.cell? a = some (.int .i64 n)) :
    Calls Tryd.prog 90 #[.int .i64 x, .pointer (some a)] w fun e w' => e = .returned (.bool (outB n x)) ∧ w' = w := by
  unfold outB
  have HW := hide (within_any x n)
  generalize decide (0 ≤ x ∧ x < n) = r at HW ⊢
  go_enter Tryd.func90, Tryd.ntmps90
  go_wp2_with (fail)
  refine (HW.out _).mono ?_
  rintro e w' ⟨rfl, rfl⟩
  go_wp2
  go_ret
  exact ⟨rfl, rfl⟩

theorem fallsB_true {fs : List Int} {k : Nat} (h : k + 1 < fs.length) (hf : fs.getD (k + 1) 0 ≤ fs.getD k 0) : fallsB fs = true := by
  unfold fallsB
  rw [List.any_eq_true]
  exact ⟨k, by simp; omega, by simpa using hf⟩

theorem fallsB_false {fs : List Int} (h : ∀ k, k + 1 < fs.length → fs.getD k 0 < fs.getD (k + 1) 0) : fallsB fs = false := by
  unfold fallsB
  rw [List.any_eq_false]
  intro k hk
  have h1 := h k (by simp at hk; omega)
  intro hd
  have h2 := of_decide_eq_true hd
  omega

set_option maxRecDepth 100000 in
set_option maxHeartbeats 1000000 in
theorem checkFirst_any {w : World} (n m : Int) (fv gv sv : Value) (fs : List Int) (hf : IntSl w fv fs) :
    Calls Tryd.prog 54 #[.agg #[.int .i64 n, .int .i64 m, fv, gv, sv]] w fun e w' => e = .returned (.int .i64 (chkFirst n fs)) ∧ Below w.heap.size w w' := by
  have HF : Hid (∀ w1, Below w.heap.size w w1 → ∀ a, w1.cell? a = some (.int .i64 n) → Calls Tryd.prog 66 #[fv, .func (.func 90) #[] #[.pointer (some a)]] w1 fun e w' => e = .returned (.bool (fs.any (outB n))) ∧ Below w1.heap.size w1 w') := fun w1 hb a ha =>
    containsFunc_any 90 _ (outB n) (hf.below hb) Tryd.call90 fun i _ w2 hw2 =>
      (firstNone_any (fs.getD i 0) n a w2 (by rw [hw2.cell (World.block_lt_of_cell? w1 _ ha)]; exact ha)).mono fun e w' ⟨he, hw⟩ => ⟨he, by rw [hw]; exact Below.refl _ _⟩
  obtain ⟨a0, c0, rfl, hm0, hc, -⟩ := hf
  have Hc := hide hc
  clear hc
  unfold maxLen at hm0
  have hmf : ∀ (fn : Fn) (first cap : Array Value) (w : World), (Instr.makeFunc fn first cap).run Tryd.prog w = .ok (.func fn first cap) w := fun _ _ _ _ => rfl
  generalize hq : chkFirst n fs = q
  have Hq := hide hq
  clear hq
  generalize hany : fs.any (outB n) = r at HF
  have Hany := hide hany
  clear hany
  go_enter Tryd.func54, Tryd.ntmps54
  go_wp2_with (fail)
  refine (HF.out _ (by repeat (first | exact Below.refl _ _ | assumption | refine below_drewN ?_ _ | refine Below.drew ?_ | refine Below.alloc ?_ (by simp <;> omega) _ | refine below_trans ?_ (by assumption))) _ (by simp)).mono ?_
  rintro e w1 ⟨rfl, hb1⟩
  have hbw : Below w.heap.size w w1 := below_trans (by repeat (first | exact Below.refl _ _ | assumption | refine below_drewN ?_ _ | refine Below.drew ?_ | refine Below.alloc ?_ (by simp <;> omega) _ | refine below_trans ?_ (by assumption))) hb1
  have x2 : w1.cell? ⟨w.heap.size, 2, none⟩ = some (.slice a0 fs.length c0) := by rw [hb1.cell (by simp <;> omega)]; simp
  cases r with
  | true =>
    have : q = 5 := by rw [← Hq.out]; simp [chkFirst, Hany.out]
    subst this
    go_wp2
    go_ret
    exact ⟨rfl, hbw⟩
  | false =>
    go_wp2_with (fail)
    go_loopw [3] (fun i wr => ∃ k : Nat, (1 ≤ k ∧ (k ≤ fs.length ∨ k = 1)) ∧ i = .int .i64 k ∧ (∀ j, j + 1 < k → fs.getD j 0 < fs.getD (j + 1) 0) ∧ ∃ d, wr = w1.drewN d) (fun i _ => fs.length - (intOf i).toNat)
    case atStart => exact ⟨1, ⟨Nat.le_refl _, Or.inr rfl⟩, rfl, (fun j hj => by omega), 0, rfl⟩
    case round =>
      obtain ⟨k, ⟨hk1, hk2⟩, rfl, htk, d, rfl⟩ := hrel
      have Htk := hide htk
      clear htk
      by_cases hlt : k < fs.length
      · obtain ⟨b, off, rfl, hcell⟩ : ∃ b off, a0 = some ⟨b, off, none⟩ ∧ ∀ i, i < fs.length → w.cell? ⟨b, off + i, none⟩ = some (.int .i64 (fs.getD i 0)) := by
          rcases Hc.out with h | h
          · subst h; simp at hlt
          · exact h
        have c1 : w1.cell? ⟨b, off + k, none⟩ = some (.int .i64 (fs.getD k 0)) := by have h := hcell k hlt; rw [hbw.cell (World.block_lt_of_cell? w _ h)]; exact h
        have c2 : w1.cell? ⟨b, off + (k - 1), none⟩ = some (.int .i64 (fs.getD (k - 1) 0)) := by have h := hcell (k - 1) (by omega); rw [hbw.cell (World.block_lt_of_cell? w _ h)]; exact h
        clear hcell
        generalize hx : fs.getD k 0 = x at *
        generalize hy : fs.getD (k - 1) 0 = y at *
        have Hx := hide hx
        have Hy := hide hy
        clear hx hy hk2
        by_cases hxy : x ≤ y
        · have hd : decide (x ≤ y) = true := decide_eq_true hxy
          go_wp2_with (fail)
          (refine wp_region_quiet_lit (by kernel_rfl) (by kernel_rfl) ?_; (repeat (go_big_quiet_step (fail))); refine wpQuiet_nil ?_; intro _ hw'; obtain ⟨nq, hw''⟩ := hw'; subst hw'')
          go_wp2
          go_ret
          have : q = 4 := by
            rw [← Hq.out]
            have hfb := fallsB_true (fs := fs) (k := k - 1) (by omega) (by rw [show k - 1 + 1 = k by omega, Hx.out, Hy.out]; exact hxy)
            simp [chkFirst, Hany.out, hfb]
          subst this
          exact ⟨rfl, (by repeat (first | exact Below.refl _ _ | assumption | refine below_drewN ?_ _ | refine Below.drew ?_ | refine Below.alloc ?_ (by simp <;> omega) _ | refine below_trans ?_ (by assumption)))⟩
        · have hxy' : y < x := by omega
          have hd : decide (x ≤ y) = false := decide_eq_false hxy
          clear hxy
          go_wp2_with (fail)
          (refine wp_region_quiet_lit (by kernel_rfl) (by kernel_rfl) ?_; (repeat (go_big_quiet_step (fail))); refine wpQuiet_nil ?_; intro _ hw'; obtain ⟨nq, hw''⟩ := hw'; subst hw'')
          go_wp2
          go_roundw
          case rel => exact ⟨k + 1, ⟨by omega, Or.inl (by omega)⟩, by go_num, (fun j hj => by
            by_cases e : j + 1 = k
            · have e' : j = k - 1 := by omega
              rw [e, Hx.out, e', Hy.out]; exact hxy'
            · exact Htk.out j (by omega)), d + nq, by first | rfl | rw [World.drewN_drewN]⟩
          case measure => simp [intOf]; omega
      · go_wp2_with (fail)
        go_ret
        have : q = 0 := by
          rw [← Hq.out]
          have hfb := fallsB_false (fs := fs) (fun j hj => Htk.out j (by omega))
          simp [chkFirst, Hany.out, hfb]
        subst this
        exact ⟨rfl, (by repeat (first | exact Below.refl _ _ | assumption | refine below_drewN ?_ _ | refine Below.drew ?_ | refine Below.alloc ?_ (by simp <;> omega) _ | refine below_trans ?_ (by assumption)))⟩
end Go.Proofs.YtpiacnnifdjlkaaDoor
