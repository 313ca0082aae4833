/-
  What formula.Check answers.
-/
import Derived.Test.YtpiacnnifdjlkaaEc
import Derived.Test.YtpiacnnifdjlkaaEd
namespace Go.Proofs.Ytpiacnnifdjlkaa
open Go.RowKit Go.Sort

theorem ret_eq {a b : Int} (h : a = b) : Ending.returned (.int .i64 a) = .returned (.int .i64 b) := by rw [h]

def nodeErr (x : Nd) (i : Int) : Int := if 1 ≤ x.k ∧ x.k ≤ 8 then chkN x i else 7

/-- The first error of nodes from a number on. -/
def chkFrom : List Nd → Nat → Int
  | [], _ => 0
  | x :: r, i => if nodeErr x i = 0 then chkFrom r (i + 1) else nodeErr x i

/-- What formula.Check tells. -/
def chkF (F : List Nd) : Int := if F.length = 0 then 1 else if 12 < F.length ∨ 4 < cntT F then 2 else chkFrom F 0

theorem chkFrom_drop (F : List Nd) (m : Nat) (h : m < F.length) : chkFrom (F.drop m) m = if nodeErr (F.getD m nd0) m = 0 then chkFrom (F.drop (m + 1)) (m + 1) else nodeErr (F.getD m nd0) m := by
  rw [List.drop_eq_getElem_cons h]
  have : F.getD m nd0 = F[m] := by simp [List.getD, h]
  rw [this]
  rfl

theorem chkFrom_end (F : List Nd) (m : Nat) (h : F.length ≤ m) : chkFrom (F.drop m) m = 0 := by
  rw [List.drop_of_length_le h]; rfl

theorem sgOf_some (k : Int) : (sgOf k).isSome = decide (1 ≤ k ∧ k ≤ 8) := by
  unfold sgOf
  by_cases h1 : k = 1
  · subst h1; rfl
  by_cases h2 : k = 2
  · subst h2; rfl
  by_cases h3 : k = 3
  · subst h3; rfl
  by_cases h4 : k = 4
  · subst h4; rfl
  by_cases h5 : k = 5
  · subst h5; rfl
  by_cases h6 : k = 6
  · subst h6; rfl
  by_cases h7 : k = 7
  · subst h7; rfl
  by_cases h8 : k = 8
  · subst h8; rfl
  simp [h1, h2, h3, h4, h5, h6, h7, h8]; omega

set_option maxRecDepth 100000 in
set_option maxHeartbeats 2000000 in
theorem formulaCheck_any {w : World} {v : Value} {F : List Nd} (hv : NodeSl w v F) :
    Calls Try.prog 10 #[v] w fun e w' => e = .returned (.int .i64 (chkF F)) ∧ Below w.heap.size w w' := by
  have HV : Hid _ := hide hv
  obtain ⟨a, cap, rfl, hm, hc, -⟩ := hv
  unfold maxLen at hm
  by_cases h0 : F.length = 0
  · have e : chkF F = 1 := by simp [chkF, h0]
    rw [e]
    have h8 : ((F.length : Int) == 0) = true := by simpa using h0
    clear e h0
    go_enter Try.func10, Try.ntmps10
    go_wp2_with (fail)
    go_ret
    exact ⟨rfl, (by repeat (first | exact Below.refl _ _ | assumption | refine below_drewN ?_ _ | refine Below.drew ?_ | refine Below.alloc ?_ (by simp <;> omega) _ | refine below_trans ?_ (by assumption)))⟩
  have h8 : ((F.length : Int) == 0) = false := by rw [beq_eq_false_iff_ne]; omega
  by_cases h12 : 12 < F.length
  · have e : chkF F = 2 := by simp [chkF, h0, h12]
    rw [e]
    clear e h0
    go_enter Try.func10, Try.ntmps10
    go_wp2_with (fail)
    refine (signs_any _).mono ?_
    rintro e w1 ⟨r, rfl, hr, -, hb1⟩
    go_wp2_with (fail)
    go_ret
    exact ⟨rfl, hb1⟩
  have hle : F.length ≤ 12 := by omega
  have HC : Hid (∀ w1 r, Below w.heap.size w w1 → SgMap w1 r → Calls Try.prog 20 #[.slice a F.length cap, .map (some r)] w1 fun e w' => e = .returned (.int .i64 (cntT F)) ∧ Below w1.heap.size w1 w') := fun w1 r hb hr => countTemporal_any (HV.out.below hb) hr
  by_cases h4 : 4 < cntT F
  · have e : chkF F = 2 := by simp [chkF, h0, h4]
    rw [e]
    have h4' : (4 : Int) < cntT F := by omega
    clear e h0 h12 h4
    go_enter Try.func10, Try.ntmps10
    go_wp2_with (fail)
    refine (signs_any _).mono ?_
    rintro e w1 ⟨r, rfl, hr, -, hb1⟩
    go_wp2_with (fail)
    refine (HC.out _ _ hb1 hr).mono ?_
    rintro e w2 ⟨rfl, hb2⟩
    go_wp2_with (fail)
    go_ret
    exact ⟨rfl, below_trans hb1 hb2⟩
  have e : chkF F = chkFrom F 0 := by simp [chkF, h0, h4, h12]
  have h4' : (cntT F : Int) ≤ 4 := by omega
  have E : Hid (chkF F = chkFrom F 0) := e
  clear e h0 h12 h4
  go_enter Try.func10, Try.ntmps10
  go_wp2_with (fail)
  refine (signs_any _).mono ?_
  rintro e w1 ⟨r, rfl, hr, -, hb1⟩
  have HR : Hid (SgMap w1 r) := hide hr
  clear hr
  go_wp2_with (fail)
  refine (HC.out _ _ hb1 HR.out).mono ?_
  rintro e w2 ⟨rfl, hb2⟩
  have hb := below_trans hb1 hb2
  have HR2 : Hid (SgMap w2 r) := hide (SgMap.below HR.out hb2)
  clear HR hb1 hb2
  go_wp2_with (fail)
  go_loopw [24] (fun i wr => ∃ m : Nat, m ≤ F.length ∧ i = .int .i64 m ∧ chkFrom F 0 = chkFrom (F.drop m) m ∧ Below w2.heap.size w2 wr) (fun i _ => F.length - (intOf i).toNat)
  case atStart => exact ⟨0, Nat.zero_le _, rfl, rfl, Below.refl _ _⟩
  case round =>
    obtain ⟨m, hml, rfl, hfr, hbw⟩ := hrel
    have Hfr : Hid _ := hfr
    clear hfr
    by_cases hlt : m < F.length
    · rcases hc with hc | ⟨b, off, rfl, hc⟩
      · subst hc; simp at hlt
      have hbw0 := below_trans hb hbw
      obtain ⟨c0, c1, c2, c3⟩ := hc m hlt
      rw [← hbw0.cell (World.block_lt_of_cell? w _ c0)] at c0
      rw [← hbw0.cell (World.block_lt_of_cell? w _ c1)] at c1
      rw [← hbw0.cell (World.block_lt_of_cell? w _ c2)] at c2
      rw [← hbw0.cell (World.block_lt_of_cell? w _ c3)] at c3
      have hd := chkFrom_drop F m hlt
      rw [← Hfr.out] at hd
      have Hd : Hid _ := hd
      clear hd hc Hfr
      generalize F.getD m nd0 = x at *
      have hlk := (run_lookup_sign ((HR2.out.below hbw).below (below_new wr (Obj.cells #[.int .i64 x.k, .int .i64 x.a, .int .i64 x.b, .int .i64 x.n] 44))) x.k).2
      have hsm := sgOf_some x.k
      have HK : Hid (∀ s w1, sgOf x.k = some s → Calls Try.prog 21 #[.agg #[.int .i64 x.k, .int .i64 x.a, .int .i64 x.b, .int .i64 x.n], .int .i64 m, sgV s] w1 fun e w' => e = .returned (.int .i64 (chkN x m)) ∧ Below w1.heap.size w1 w') := fun s w1 hs => checkNode_any x m s hs w1
      cases hs : sgOf x.k with
      | none =>
        rw [hs] at hlk hsm
        have hne : nodeErr x m = 7 := by
          unfold nodeErr
          rw [if_neg]
          intro h
          rw [decide_eq_true h] at hsm
          cases hsm
        rw [hne] at Hd
        have hq : chkF F = 7 := by rw [E.out, Hd.out]; rfl
        have Hq : Hid (7 = chkF F) := hq.symm
        clear hsm hs hne Hd hq E HK
        dsimp only [Option.getD_none, Option.isSome_none] at hlk
        unfold sgV sg0 at hlk
        obtain ⟨k, xa, xb, xn⟩ := x
        dsimp only at *
        go_wp2_with (fail)
        go_ret
        exact ⟨ret_eq Hq.out, below_trans hbw0 (by repeat (first | exact Below.refl _ _ | assumption | refine below_drewN ?_ _ | refine Below.drew ?_ | refine Below.alloc ?_ (by simp <;> omega) _ | refine below_trans ?_ (by assumption)))⟩
      | some s =>
        rw [hs] at hlk hsm
        have hne : nodeErr x m = chkN x m := by
          unfold nodeErr
          rw [if_pos]
          have : decide (1 ≤ x.k ∧ x.k ≤ 8) = true := by rw [← hsm]; rfl
          simpa using this
        rw [hne] at Hd
        have HK' := hide (fun w1 => HK.out s w1 hs)
        clear hsm hs hne HK
        dsimp only [Option.getD_some, Option.isSome_some] at hlk
        obtain ⟨st, sp, sn, stm, so⟩ := s
        unfold sgV at hlk HK'
        generalize chkN x m = q at *
        obtain ⟨k, xa, xb, xn⟩ := x
        dsimp only at *
        go_wp2_with (fail)
        refine (HK'.out _).mono ?_
        rintro e w3 ⟨rfl, hb3⟩
        have hb4 : Below wr.heap.size wr w3 := Below.trans (((Below.refl _ _).alloc (Nat.le_refl _) _).alloc (by simp) _) (hb3.mono (by simp <;> omega))
        clear hb3
        by_cases hq : q = 0
        · have bq : (q != 0) = false := by simpa using hq
          rw [if_pos hq] at Hd
          clear hq
          go_wp2_with (fail)
          go_roundw
          case rel => exact ⟨m + 1, by omega, by go_num, Hd.out, below_trans hbw hb4⟩
          case measure => simp [intOf]; omega
        · have bq : (q != 0) = true := by simpa using hq
          rw [if_neg hq] at Hd
          clear hq
          go_wp2_with (fail)
          go_ret
          exact ⟨ret_eq (by rw [E.out, Hd.out]), below_trans hbw0 hb4⟩
    · go_wp2_with (fail)
      go_ret
      exact ⟨ret_eq (by rw [E.out, Hfr.out, chkFrom_end F m (by omega)]), below_trans hb hbw⟩
end Go.Proofs.Ytpiacnnifdjlkaa
