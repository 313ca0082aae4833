/-
  What holds.Table and holds.Holds answer.
-/
import Derived.Test.YtpiacnnifdjlkaaEn
namespace Go.Proofs.Ytpiacnnifdjlkaa
open Go.RowKit Go.Sort

/-- A slice of rows that reads as this table. -/
def GridSl (w : World) (v : Value) (T : List (List Bool)) : Prop :=
  ∃ ad c, v = .slice ad T.length c ∧ T.length ≤ 1000 ∧ (T = [] ∨ ∃ R, ad = some ⟨R, 0, none⟩ ∧ ∀ j, j < T.length → ∃ a n c, w.cell? ⟨R, j, none⟩ = some (.slice a n c) ∧ RowSl w (.slice a n c) (T.getD j []))

theorem GridSl.below {w w' : World} {v : Value} {T : List (List Bool)} (h : GridSl w v T) (hb : Below w.heap.size w w') : GridSl w' v T := by
  obtain ⟨ad, c, rfl, hm, h⟩ := h
  refine ⟨ad, c, rfl, hm, ?_⟩
  rcases h with h | ⟨R, rfl, hc⟩
  · exact Or.inl h
  · refine Or.inr ⟨R, rfl, fun j hj => ?_⟩
    obtain ⟨a, n, c', h1, h2⟩ := hc j hj
    exact ⟨a, n, c', cell_keep h1 hb, h2.below hb⟩

theorem GridSl.at {w : World} {v : Value} {T : List (List Bool)} (h : GridSl w v T) (j : Nat) (hj : j < T.length) : ∃ R c a n c', v = .slice (some ⟨R, 0, none⟩) T.length c ∧ w.cell? ⟨R, j, none⟩ = some (.slice a n c') ∧ RowSl w (.slice a n c') (T.getD j []) := by
  obtain ⟨ad, c, rfl, hm, h⟩ := h
  rcases h with h | ⟨R, rfl, hc⟩
  · subst h; simp at hj
  · obtain ⟨a, n, c', h1, h2⟩ := hc j hj
    exact ⟨R, c, a, n, c', rfl, h1, h2⟩

/-- What is told of a formula and a word. -/
def chkT (F : List Nd) (hs ls : List Int) : Int := if chkF F = 0 then chk hs ls 8 else chkF F

/-- The table of a formula and a word. -/
def tabF (F : List Nd) (hs ls : List Int) : List (List Bool) := tabN F hs.length ls.length (fun i => (hs ++ ls).getD i 0) F.length

theorem tabF_len (F : List Nd) (hs ls : List Int) : (tabF F hs ls).length = F.length := tabN_len _ _ _ _ _

theorem chk_ok {hs ls : List Int} (h : chk hs ls 8 = 0) : hs.length ≤ 4000 ∧ ls.length ≤ 4000 ∧ 0 < ls.length ∧ ∀ i, i < hs.length + ls.length → 0 ≤ (hs ++ ls).getD i 0 ∧ (hs ++ ls).getD i 0 ≤ 7 := by
  unfold chk at h
  split at h
  · omega
  · split at h
    · omega
    · split at h
      · omega
      · rename_i h1 h2 h3
        refine ⟨by omega, by omega, by omega, fun i hi => ?_⟩
        by_cases ha : (hs ++ ls).any (fun x => decide (x < 0) || decide (8 ≤ x)) = true
        · rw [if_pos ha] at h; omega
        · rw [Bool.not_eq_true, List.any_eq_false] at ha
          have hl : i < (hs ++ ls).length := by rw [List.length_append]; exact hi
          have := ha ((hs ++ ls)[i]) (List.getElem_mem _)
          have e : (hs ++ ls).getD i 0 = (hs ++ ls)[i] := by rw [List.getD, List.getElem?_eq_getElem hl]; rfl
          rw [e]
          simp at this
          omega

set_option maxRecDepth 100000 in
set_option maxHeartbeats 1000000 in
theorem table_any {w : World} {fv hv lv : Value} {F : List Nd} {hs ls : List Int} (hF : NodeSl w fv F) (hh : IntSl w hv hs) (hl : IntSl w lv ls) :
    Calls Try.prog 4 #[fv, .agg #[hv, lv]] w fun e w' => ∃ v, e = .returned (.tuple #[v, .int .i64 (chkT F hs ls)]) ∧ (chkT F hs ls = 0 → GridSl w' v (tabF F hs ls)) ∧ (chkT F hs ls ≠ 0 → v = .slice none 0 0) ∧ Below w.heap.size w w' := by
  have hfd : ∀ (a b c : Value) (w : World), (Instr.field 40 (.agg #[a, b, c]) 2).run Try.prog w = .ok c w := fun _ _ _ _ => rfl
  have HC : Hid (∀ W, Below w.heap.size w W → Calls Try.prog 10 #[fv] W fun e w' => e = .returned (.int .i64 (chkF F)) ∧ Below W.heap.size W w') := fun W hb => formulaCheck_any (hF.below hb)
  have HW : Hid (∀ W, Below w.heap.size w W → Calls Try.prog 11 #[.agg #[hv, lv], .int .i64 8] W fun e w' => e = .returned (.int .i64 (chk hs ls 8)) ∧ Below W.heap.size W w') := fun W hb => check_any 8 (hh.below hb) (hl.below hb)
  have HN : Hid (chkF F = 0 → chk hs ls 8 = 0 → ∀ W, Below w.heap.size w W → Calls Try.prog 12 #[fv, .agg #[hv, lv]] W fun e w' => ∃ R v1 v2, e = .returned (.agg #[v1, v2, .slice (some ⟨R, 0, none⟩) F.length F.length]) ∧ GridSl w' (.slice (some ⟨R, 0, none⟩) F.length F.length) (tabF F hs ls) ∧ Below W.heap.size W w') := by
    refine hide fun h1 h2 W hb => ?_
    have hF' := hF.below hb
    have hh' := hh.below hb
    have hl' := hl.below hb
    obtain ⟨a, c, rfl, -⟩ := id hF
    obtain ⟨a0, c0, rfl, -⟩ := id hh
    obtain ⟨a1, c1, rfl, -⟩ := id hl
    obtain ⟨k1, k2, k3, k4⟩ := chk_ok h2
    refine (newTable_any hF' hh' hl' k1 k2 k3 h1 k4).mono ?_
    rintro e w' ⟨R, v1, v2, rfl, hg, hb'⟩
    have h12 := (chkF_ok h1).2.1
    refine ⟨R, v1, v2, rfl, ⟨_, _, by rw [tabF_len], by rw [tabF_len]; omega, Or.inr ⟨R, rfl, fun j hj => hg j (by rw [tabF_len] at hj; exact hj)⟩⟩, hb'⟩
  obtain ⟨a0, c0, rfl, -⟩ := hh
  obtain ⟨a1, c1, rfl, -⟩ := hl
  clear hF
  generalize hcf : chkF F = q at *
  have HQ := hide hcf
  clear hcf
  by_cases hq : q = 0
  · have bq : (q != 0) = false := by simpa using hq
    have eT : chkT F hs ls = chk hs ls 8 := by unfold chkT; rw [HQ.out, if_pos hq]
    rw [eT]
    generalize hcw : chk hs ls 8 = r at *
    by_cases hr : r = 0
    · have br : (r != 0) = false := by simpa using hr
      have HN' := hide (HN.out hq hr)
      have HR := hide hr
      clear HN hq hr eT hcw HQ
      go_enter Try.func4, Try.ntmps4
      go_wp2_with (fail)
      refine (HC.out _ (below_new w _)).mono ?_
      rintro e w1 ⟨rfl, hb1⟩
      have k0 : w1.cell? ⟨w.heap.size, 0, none⟩ = some (.slice a0 hs.length c0) := cell_keep (by simp) hb1
      have k1 : w1.cell? ⟨w.heap.size, 1, none⟩ = some (.slice a1 ls.length c1) := cell_keep (by simp) hb1
      have hb1' := below_trans (below_new w _) hb1
      clear hb1 HC
      go_wp2_with (fail)
      refine (HW.out _ hb1').mono ?_
      rintro e w2 ⟨rfl, hb2⟩
      have k0 := cell_keep k0 hb2
      have k1 := cell_keep k1 hb2
      have hb2' := below_trans hb1' hb2
      clear hb1' hb2 HW
      go_wp2_with (fail)
      refine (HN'.out _ hb2').mono ?_
      rintro e w3 ⟨R, v1, v2, rfl, hg, hb3⟩
      have HG := hide (And.intro hg (below_trans hb2' hb3))
      clear hg hb3 hb2' HN'
      go_wp2_with (fail)
      go_ret2
      have hr0 := HR.out
      subst hr0
      exact ⟨_, rfl, fun _ => HG.out.1, fun h => absurd rfl h, HG.out.2⟩
    · have br : (r != 0) = true := by simpa using hr
      have HR := hide hr
      clear HN hq hr eT hcw HQ
      go_enter Try.func4, Try.ntmps4
      go_wp2_with (fail)
      refine (HC.out _ (below_new w _)).mono ?_
      rintro e w1 ⟨rfl, hb1⟩
      have k0 : w1.cell? ⟨w.heap.size, 0, none⟩ = some (.slice a0 hs.length c0) := cell_keep (by simp) hb1
      have k1 : w1.cell? ⟨w.heap.size, 1, none⟩ = some (.slice a1 ls.length c1) := cell_keep (by simp) hb1
      have hb1' := below_trans (below_new w _) hb1
      clear hb1 HC
      go_wp2_with (fail)
      refine (HW.out _ hb1').mono ?_
      rintro e w2 ⟨rfl, hb2⟩
      have hb2' := below_trans hb1' hb2
      clear hb1' hb2 HW
      go_wp2_with (fail)
      go_ret2
      exact ⟨_, rfl, fun h => absurd h HR.out, fun _ => rfl, hb2'⟩
  · have bq : (q != 0) = true := by simpa using hq
    have eT : chkT F hs ls = q := by unfold chkT; rw [HQ.out, if_neg hq]
    rw [eT]
    have HR := hide hq
    clear HN hq eT HQ HW
    go_enter Try.func4, Try.ntmps4
    go_wp2_with (fail)
    refine (HC.out _ (below_new w _)).mono ?_
    rintro e w1 ⟨rfl, hb1⟩
    have hb1' := below_trans (below_new w _) hb1
    clear hb1 HC
    go_wp2_with (fail)
    go_ret2
    exact ⟨_, rfl, fun h => absurd h HR.out, fun _ => rfl, hb1'⟩

set_option maxRecDepth 100000 in
set_option maxHeartbeats 1000000 in
theorem holds_any {w : World} {fv hv lv : Value} {F : List Nd} {hs ls : List Int} (hF : NodeSl w fv F) (hh : IntSl w hv hs) (hl : IntSl w lv ls) :
    Calls Try.prog 5 #[fv, .agg #[hv, lv]] w fun e w' => e = .returned (.tuple #[.bool (if chkT F hs ls = 0 then ((tabF F hs ls).getD (F.length - 1) []).getD 0 false else false), .int .i64 (chkT F hs ls)]) ∧ Below w.heap.size w w' := by
  have HT : Hid (∀ W, Below w.heap.size w W → Calls Try.prog 4 #[fv, .agg #[hv, lv]] W fun e w' => ∃ v, e = .returned (.tuple #[v, .int .i64 (chkT F hs ls)]) ∧ (chkT F hs ls = 0 → GridSl w' v (tabF F hs ls)) ∧ (chkT F hs ls ≠ 0 → v = .slice none 0 0) ∧ Below W.heap.size W w') := fun W hb => table_any (hF.below hb) (hh.below hb) (hl.below hb)
  have HF : Hid (chkT F hs ls = 0 → 0 < F.length ∧ F.length ≤ 12 ∧ 0 < hs.length + ls.length) := by
    refine hide fun h => ?_
    unfold chkT at h
    by_cases h0 : chkF F = 0
    · rw [if_pos h0] at h
      exact ⟨(chkF_ok h0).1, (chkF_ok h0).2.1, by have := (chk_ok h).2.2.1; omega⟩
    · rw [if_neg h0] at h; exact absurd h h0
  obtain ⟨a, c, rfl, hm, -⟩ := hF
  obtain ⟨a0, c0, rfl, -⟩ := hh
  obtain ⟨a1, c1, rfl, -⟩ := hl
  generalize hq : chkT F hs ls = q at *
  clear hq hm
  by_cases h0 : q = 0
  · have bq : (q != 0) = false := by simpa using h0
    obtain ⟨hF0, hF12, hlen⟩ := HF.out h0
    rw [if_pos h0]
    have H0 := hide h0
    have hrl : 0 < ((tabF F hs ls).getD (F.length - 1) []).length := by
      rw [tabF, tab_len F _ _ _ _ (by omega)]; exact hlen
    have HRL := hide hrl
    have hi0 : (0 : Int) ≤ (F.length : Int) - 1 := by omega
    have hi1 : (F.length : Int) - 1 < F.length := by omega
    have hi2 : ((F.length : Int) - 1).toNat = F.length - 1 := by omega
    clear h0 hrl hlen
    go_enter Try.func5, Try.ntmps5
    go_wp2_with (fail)
    refine (HT.out _ (below_new w _)).mono ?_
    rintro e w1 ⟨v, rfl, hg, -, hb1⟩
    have hb1' := below_trans (below_new w _) hb1
    obtain ⟨R, gc, ga, gn, gc', rfl, hc, hrow⟩ := (hg H0.out).at (F.length - 1) (by rw [tabF_len]; omega)
    obtain ⟨rb, ro, rc, hrv, hcell, hrm⟩ := hrow.at 0 HRL.out
    rw [Nat.add_zero] at hcell
    injection hrv with e1 e2 e3
    subst e1 e2 e3
    have hrl := HRL.out
    rw [tabF_len]
    generalize hrw : (tabF F hs ls).getD (F.length - 1) [] = row at *
    generalize hx : row.getD 0 false = x at *
    have HRW := hide hrw
    have HX := hide hx
    clear hg hrow hb1 HT HF hrw hx
    go_wp2_with (fail)
    go_ret2
    have hq0 := H0.out
    subst hq0
    exact ⟨by rw [HRW.out, HX.out]; rfl, hb1'⟩
  · have bq : (q != 0) = true := by simpa using h0
    rw [if_neg h0]
    have H0 := hide h0
    clear h0 HF
    go_enter Try.func5, Try.ntmps5
    go_wp2_with (fail)
    refine (HT.out _ (below_new w _)).mono ?_
    rintro e w1 ⟨v, rfl, -, hv, hb1⟩
    have hb1' := below_trans (below_new w _) hb1
    have hv' := hv H0.out
    subst hv'
    clear hv hb1
    go_wp2_with (fail)
    go_ret2
    exact ⟨rfl, hb1'⟩
end Go.Proofs.Ytpiacnnifdjlkaa
