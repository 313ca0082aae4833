/-
  What slices.BinarySearchFunc answers, where steps.From calls it.
-/
import Derived.Test.YtpiacnnifdjlkaaDoorBy
namespace Go.Proofs.YtpiacnnifdjlkaaDoor
open Go.RowKit Go.Sort

set_option maxHeartbeats 400000 in
theorem fromCmp_any (s : Stp) (st : Int) (w : World) :
    Calls Tryd.prog 118 #[.agg #[.int .i64 s.f, .int .i64 s.l, .int .i64 s.t], .int .i64 st] w fun e w' => e = .returned (.int .i64 (cmpI s.f st)) ∧ Below w.heap.size w w' := by
  have HC := hide (fun w1 => compare_any s.f st w1)
  generalize cmpI s.f st = c at *
  go_enter Tryd.func118, Tryd.ntmps118
  go_wp2_with (fail)
  refine (HC.out _).mono ?_
  rintro e w1 ⟨rfl, rfl⟩
  go_wp2
  go_ret
  exact ⟨rfl, (by repeat (first | exact Below.refl _ _ | assumption | refine below_drewN ?_ _ | refine Below.drew ?_ | refine Below.alloc ?_ (by simp <;> omega) _ | refine below_trans ?_ (by assumption)))⟩

set_option maxRecDepth 100000 in
set_option maxHeartbeats 2000000 in
theorem bsf_go (ss : List Stp) (b off cap : Nat) (st : Int) (w : World) (hlen : ss.length ≤ 6000)
    (hc : ∀ i, i < ss.length → w.cell? ⟨b, off + i * 3, none⟩ = some (.int .i64 (ss.getD i stp0).f) ∧ w.cell? ⟨b, off + i * 3 + 1, none⟩ = some (.int .i64 (ss.getD i stp0).l) ∧ w.cell? ⟨b, off + i * 3 + 2, none⟩ = some (.int .i64 (ss.getD i stp0).t))
    (hmono : ∀ i j, i ≤ j → j < ss.length → (ss.getD i stp0).f ≤ (ss.getD j stp0).f) :
    Calls Tryd.prog 117 #[.slice (some ⟨b, off, none⟩) ss.length cap, .int .i64 st, .func (.func 118) #[] #[]] w fun e w' =>
      ∃ (k : Nat) (q : Bool), e = .returned (.tuple #[.int .i64 k, .bool q]) ∧ k ≤ ss.length ∧ (∀ j, j < k → (ss.getD j stp0).f < st) ∧ (∀ j, k ≤ j → j < ss.length → st ≤ (ss.getD j stp0).f) ∧ Below w.heap.size w w' := by
  have Hc := hide hc
  have Hm := hide hmono
  clear hc hmono
  go_enter Tryd.func117, Tryd.ntmps117
  go_wp2_with (fail)
  go_loopw [9, 10] (fun iv jv wr => ∃ i j : Nat, iv = .int .i64 i ∧ jv = .int .i64 j ∧ i ≤ j ∧ j ≤ ss.length ∧ (∀ k, k < i → (ss.getD k stp0).f < st) ∧ (∀ k, j ≤ k → k < ss.length → st ≤ (ss.getD k stp0).f) ∧ Below w.heap.size w wr) (fun iv jv _ => (intOf jv).toNat - (intOf iv).toNat)
  case atStart => exact ⟨0, ss.length, rfl, rfl, Nat.zero_le _, Nat.le_refl _, (fun k hk => by omega), (fun k h1 h2 => by omega), (by repeat (first | exact Below.refl _ _ | assumption | refine below_drewN ?_ _ | refine Below.drew ?_ | refine Below.alloc ?_ (by simp <;> omega) _ | refine below_trans ?_ (by assumption)))⟩
  case round =>
    obtain ⟨i, j, rfl, rfl, hij, hj, hlo, hhi, hb⟩ := hrel
    have Hlo := hide hlo
    have Hhi := hide hhi
    clear hlo hhi
    by_cases hlt : i < j
    · have hmid : (i + j) / 2 < ss.length := by omega
      obtain ⟨d0, d1, d2⟩ := Hc.out ((i + j) / 2) hmid
      rw [← hb.cell (World.block_lt_of_cell? w _ d0)] at d0
      rw [← hb.cell (World.block_lt_of_cell? w _ d1)] at d1
      rw [← hb.cell (World.block_lt_of_cell? w _ d2)] at d2
      generalize hs : ss.getD ((i + j) / 2) stp0 = s at *
      have Hs := hide hs
      clear hs
      have HC := hide (fun w1 => fromCmp_any s st w1)
      generalize hcm : cmpI s.f st = c at HC
      have Hcm := hide hcm
      clear hcm
      go_wp2_with (fail)
      refine (HC.out _).mono ?_
      rintro e w1 ⟨rfl, hb1⟩
      have hb2 := below_trans hb hb1
      by_cases hneg : c < 0
      · have hd : decide (c < 0) = true := decide_eq_true hneg
        clear d0 d1 d2 hb1
        go_wp2
        go_roundw
        case rel =>
          refine ⟨(i + j) / 2 + 1, j, by simp only [Value.int.injEq]; exact ⟨trivial, by omega⟩, rfl, by omega, hj, fun k hk => ?_, Hhi.out, hb2⟩
          have h1 : s.f < st := by have := Hcm.out; unfold cmpI at this; split at this <;> first | omega | (split at this <;> omega)
          have h2 := Hm.out k ((i + j) / 2) (by omega) hmid
          rw [Hs.out] at h2
          omega
        case measure => simp [intOf]; omega
      · have hd : decide (c < 0) = false := decide_eq_false hneg
        clear d0 d1 d2 hb1
        go_wp2
        go_roundw
        case rel =>
          refine ⟨i, (i + j) / 2, rfl, by simp only [Value.int.injEq]; exact ⟨trivial, by omega⟩, by omega, by omega, Hlo.out, fun k h1 h2 => ?_, hb2⟩
          have h3 : st ≤ s.f := by have := Hcm.out; unfold cmpI at this; split at this <;> first | omega | (split at this <;> omega)
          have h4 := Hm.out ((i + j) / 2) k h1 h2
          rw [Hs.out] at h4
          omega
        case measure => simp [intOf]; omega
    · have hij2 : i = j := by omega
      subst hij2
      have Hend := hide (And.intro hj (And.intro Hlo.out Hhi.out))
      by_cases hin : i < ss.length
      · obtain ⟨d0, d1, d2⟩ := Hc.out i hin
        rw [← hb.cell (World.block_lt_of_cell? w _ d0)] at d0
        rw [← hb.cell (World.block_lt_of_cell? w _ d1)] at d1
        rw [← hb.cell (World.block_lt_of_cell? w _ d2)] at d2
        generalize hs : ss.getD i stp0 = s at *
        clear hs
        have HC := hide (fun w1 => fromCmp_any s st w1)
        generalize hcm : cmpI s.f st = c at HC
        clear hcm
        go_wp2_with (fail)
        refine (HC.out _).mono ?_
        rintro e w1 ⟨rfl, hb1⟩
        have hb2 := below_trans hb hb1
        clear d0 d1 d2 hb1
        go_wp2
        go_ret2
        obtain ⟨q1, q2, q3⟩ := Hend.out
        exact ⟨i, _, rfl, q1, q2, q3, hb2⟩
      · go_wp2_with (fail)
        go_ret2
        obtain ⟨q1, q2, q3⟩ := Hend.out
        exact ⟨i, _, rfl, q1, q2, q3, hb⟩

set_option maxHeartbeats 400000 in
theorem bsf_zero (a : Option Addr) (cap : Nat) (st : Int) (fv : Value) (w : World) :
    Calls Tryd.prog 117 #[.slice a 0 cap, .int .i64 st, fv] w fun e w' => e = .returned (.tuple #[.int .i64 0, .bool false]) ∧ w' = w := by
  go_enter Tryd.func117, Tryd.ntmps117
  go_wp2
  refine wp_loop_rounds 1 ?_; rw [rounds_succ]
  go_wp2
  go_ret2
  exact ⟨rfl, rfl⟩

theorem bsf_any {v : Value} {ss : List Stp} {w : World} (st : Int) (hv : StepSl w v ss) (hlen : ss.length ≤ 6000) (hmono : ∀ i j, i ≤ j → j < ss.length → (ss.getD i stp0).f ≤ (ss.getD j stp0).f) :
    Calls Tryd.prog 117 #[v, .int .i64 st, .func (.func 118) #[] #[]] w fun e w' =>
      ∃ (k : Nat) (q : Bool), e = .returned (.tuple #[.int .i64 k, .bool q]) ∧ k ≤ ss.length ∧ (∀ j, j < k → (ss.getD j stp0).f < st) ∧ (∀ j, k ≤ j → j < ss.length → st ≤ (ss.getD j stp0).f) ∧ Below w.heap.size w w' := by
  obtain ⟨a, cap, rfl, hm, h, hn⟩ := hv
  rcases h with rfl | ⟨b, off, rfl, hc⟩
  · refine (bsf_zero a cap st _ w).mono ?_
    rintro e w' ⟨rfl, rfl⟩
    exact ⟨0, false, rfl, Nat.zero_le _, (fun j hj => by omega), (fun j _ hj => by simp at hj), Below.refl _ _⟩
  · exact bsf_go ss b off cap st w hlen hc hmono
end Go.Proofs.YtpiacnnifdjlkaaDoor
