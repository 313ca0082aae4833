/-
  What SameInts, SameLasso, slices.Equal and word.Check answer.
-/
import Derived.Test.YtpiacnnifdjlkaaBb
namespace Go.Proofs.Ytpiacnnifdjlkaa
open Go.RowKit

theorem list_eq_iff {xs ys : List Int} (h : xs.length = ys.length) : xs = ys ↔ ∀ i, i < xs.length → xs.getD i 0 = ys.getD i 0 := by
  constructor
  · rintro rfl _ _; rfl
  · intro H
    apply List.ext_getElem h
    intro i h1 h2
    have := H i h1
    simpa [List.getD, h1, h2] using this


/-- What word.Check tells. -/
def chk (hs ls : List Int) (n : Int) : Int :=
  if n < 1 ∨ 8 < n then 3 else if 4000 < hs.length ∨ 4000 < ls.length then 2 else if ls.length = 0 then 1
  else if (hs ++ ls).any (fun x => decide (x < 0) || decide (n ≤ x)) then 5 else 0

theorem checkCalls {hv lv : Value} {hs ls : List Int} {w : World} (n : Int) (hh : IntSl w hv hs) (hl : IntSl w lv ls) (w1 : World) (hb : Below w.heap.size w w1) (v : Value) (zs : List Int) (hv' : (v = hv ∧ zs = hs) ∨ (v = lv ∧ zs = ls)) (a : Addr) (ha : w1.cell? a = some (.int .i64 n)) :
    Calls Try.prog 23 #[v, .func (.func 22) #[] #[.pointer (some a)]] w1 fun e w' => e = .returned (.bool (zs.any fun x => decide (x < 0) || decide (n ≤ x))) ∧ Below w1.heap.size w1 w' := by
  have hz : IntSl w v zs := by
    rcases hv' with ⟨rfl, rfl⟩ | ⟨rfl, rfl⟩
    · exact hh
    · exact hl
  exact containsFunc_any 22 _ (fun x => decide (x < 0) || decide (n ≤ x)) (hz.below hb) Try.call22 fun i _ w2 hw2 =>
    (checkNone_any (zs.getD i 0) n a w2 (by rw [hw2.cell (World.block_lt_of_cell? w1 _ ha)]; exact ha)).mono fun e w' ⟨he, hw⟩ => ⟨he, by rw [hw]; exact Below.refl _ _⟩

set_option maxHeartbeats 400000 in
theorem check_any {hv lv : Value} {hs ls : List Int} {w : World} (n : Int) (hh : IntSl w hv hs) (hl : IntSl w lv ls) :
    Calls Try.prog 11 #[.agg #[hv, lv], .int .i64 n] w fun e w' => e = .returned (.int .i64 (chk hs ls n)) ∧ Below w.heap.size w w' := by
  have Hc : Hid _ := checkCalls n hh hl
  obtain ⟨a0, c0, rfl, hm0, -, -⟩ := hh
  obtain ⟨a1, c1, rfl, hm1, -, -⟩ := hl
  have hmf : ∀ (fn : Fn) (first cap : Array Value) (w : World), (Instr.makeFunc fn first cap).run Try.prog w = .ok (.func fn first cap) w := fun _ _ _ _ => rfl
  unfold maxLen at hm0 hm1
  by_cases h1 : n < 1 ∨ 8 < n
  · have e : chk hs ls n = 3 := by simp [chk, h1]
    rw [e]
    clear e
    rcases h1 with h1 | h1
    · go_enter Try.func11, Try.ntmps11
      go_wp2
      go_ret
      exact ⟨rfl, (by repeat (first | exact Below.refl _ _ | assumption | refine below_drewN ?_ _ | refine Below.drew ?_ | refine Below.alloc ?_ (by simp <;> omega) _ | refine below_trans ?_ (by assumption)))⟩
    · have h2 : 1 ≤ n := by omega
      go_enter Try.func11, Try.ntmps11
      go_wp2
      go_ret
      exact ⟨rfl, (by repeat (first | exact Below.refl _ _ | assumption | refine below_drewN ?_ _ | refine Below.drew ?_ | refine Below.alloc ?_ (by simp <;> omega) _ | refine below_trans ?_ (by assumption)))⟩
  have h2 : 1 ≤ n := by omega
  have h3 : n ≤ 8 := by omega
  by_cases h4 : 4000 < hs.length ∨ 4000 < ls.length
  · have e : chk hs ls n = 2 := by simp [chk, h1, h4]
    rw [e]
    clear e h1
    rcases h4 with h4 | h4
    · go_enter Try.func11, Try.ntmps11
      go_wp2
      go_ret
      exact ⟨rfl, (by repeat (first | exact Below.refl _ _ | assumption | refine below_drewN ?_ _ | refine Below.drew ?_ | refine Below.alloc ?_ (by simp <;> omega) _ | refine below_trans ?_ (by assumption)))⟩
    · by_cases h5 : 4000 < hs.length
      · go_enter Try.func11, Try.ntmps11
        go_wp2
        go_ret
        exact ⟨rfl, (by repeat (first | exact Below.refl _ _ | assumption | refine below_drewN ?_ _ | refine Below.drew ?_ | refine Below.alloc ?_ (by simp <;> omega) _ | refine below_trans ?_ (by assumption)))⟩
      · have h6 : hs.length ≤ 4000 := by omega
        clear h5
        go_enter Try.func11, Try.ntmps11
        go_wp2
        go_ret
        exact ⟨rfl, (by repeat (first | exact Below.refl _ _ | assumption | refine below_drewN ?_ _ | refine Below.drew ?_ | refine Below.alloc ?_ (by simp <;> omega) _ | refine below_trans ?_ (by assumption)))⟩
  have h5 : hs.length ≤ 4000 := by omega
  have h6 : ls.length ≤ 4000 := by omega
  by_cases h7 : ls.length = 0
  · have e : chk hs ls n = 1 := by unfold chk; rw [if_neg h1, if_neg h4, if_pos h7]
    rw [e]
    have h8 : ((ls.length : Int) == 0) = true := by simpa using h7
    clear e h1 h4 h7
    go_enter Try.func11, Try.ntmps11
    go_wp2
    go_ret
    exact ⟨rfl, (by repeat (first | exact Below.refl _ _ | assumption | refine below_drewN ?_ _ | refine Below.drew ?_ | refine Below.alloc ?_ (by simp <;> omega) _ | refine below_trans ?_ (by assumption)))⟩
  have h8 : ((ls.length : Int) == 0) = false := by rw [beq_eq_false_iff_ne]; omega
  have e : chk hs ls n = if (hs ++ ls).any (fun x => decide (x < 0) || decide (n ≤ x)) then 5 else 0 := by simp only [chk, h1, h4, h7, if_false]
  rw [e]
  clear e h1 h4 h7
  rw [List.any_append]
  generalize hg1 : (hs.any fun x => decide (x < 0) || decide (n ≤ x)) = r1
  generalize hg2 : (ls.any fun x => decide (x < 0) || decide (n ≤ x)) = r2
  have G1 : Hid _ := hg1
  have G2 : Hid _ := hg2
  clear hg1 hg2
  go_enter Try.func11, Try.ntmps11
  go_wp2_with (fail)
  refine Calls.mono (Hc.out _ ?_ _ hs (Or.inl ⟨rfl, rfl⟩) _ ?_) ?_
  · exact (by repeat (first | exact Below.refl _ _ | assumption | refine below_drewN ?_ _ | refine Below.drew ?_ | refine Below.alloc ?_ (by simp <;> omega) _ | refine below_trans ?_ (by assumption)))
  · simp
  rw [G1.out]
  rintro e w1 ⟨rfl, hb1⟩
  have hc1 : w1.cell? ⟨w.heap.size, 0, none⟩ = some (.slice a0 hs.length c0) := by rw [hb1.cell (by simp <;> omega)]; simp
  have hc2 : w1.cell? ⟨w.heap.size, 1, none⟩ = some (.slice a1 ls.length c1) := by rw [hb1.cell (by simp <;> omega)]; simp
  have hc3 : w1.cell? ⟨w.heap.size + 1, 0, none⟩ = some (.int .i64 n) := by rw [hb1.cell (by simp <;> omega)]; simp
  have hw1 : Below w.heap.size w w1 := by
    refine below_trans ?_ hb1
    exact (by repeat (first | exact Below.refl _ _ | assumption | refine below_drewN ?_ _ | refine Below.drew ?_ | refine Below.alloc ?_ (by simp <;> omega) _ | refine below_trans ?_ (by assumption)))
  cases r1 with
  | true =>
    go_wp2
    go_ret
    exact ⟨by simp, hw1⟩
  | false =>
    go_wp2_with (fail)
    refine Calls.mono (Hc.out _ ?_ _ ls (Or.inr ⟨rfl, rfl⟩) _ ?_) ?_
    · exact hw1
    · exact hc3
    rw [G2.out]
    rintro e w2 ⟨rfl, hb2⟩
    have hw2 := below_trans hw1 hb2
    cases r2 with
    | true =>
      go_wp2
      go_ret
      exact ⟨by simp, hw2⟩
    | false =>
      go_wp2
      go_ret
      exact ⟨by simp, hw2⟩

end Go.Proofs.Ytpiacnnifdjlkaa
