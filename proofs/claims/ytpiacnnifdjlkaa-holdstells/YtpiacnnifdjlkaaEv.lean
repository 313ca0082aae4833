/-
  HoldsTells answers true.
-/
import Derived.Test.YtpiacnnifdjlkaaEu
import Derived.Test.YtpiacnnifdjlkaaEt
namespace Go.Proofs.Ytpiacnnifdjlkaa
open Go.RowKit Go.Sort

set_option maxRecDepth 100000 in
set_option maxHeartbeats 8000000 in
theorem holdsTells_any {w : World} {fv hv lv : Value} {F : List Nd} {hs ls : List Int} (hF : NodeSl w fv F) (hh : IntSl w hv hs) (hl : IntSl w lv ls) :
    Calls Try.prog 3 #[fv, .agg #[hv, lv]] w fun e w' => e = .returned (.bool true) ∧ Below w.heap.size w w' := by
  have HTb : Hid (∀ W, Below w.heap.size w W → Calls Try.prog 4 #[fv, .agg #[hv, lv]] W fun e w' => ∃ v, e = .returned (.tuple #[v, .int .i64 (chkT F hs ls)]) ∧ (chkT F hs ls = 0 → GridSl w' v (tabF F hs ls)) ∧ (chkT F hs ls ≠ 0 → v = .slice none 0 0) ∧ Below W.heap.size W w') := hide fun W hb => table_any (hF.below hb) (hh.below hb) (hl.below hb)
  have HHo : Hid (∀ W, Below w.heap.size w W → Calls Try.prog 5 #[fv, .agg #[hv, lv]] W fun e w' => e = .returned (.tuple #[.bool (if chkT F hs ls = 0 then ((tabF F hs ls).getD (F.length - 1) []).getD 0 false else false), .int .i64 (chkT F hs ls)]) ∧ Below W.heap.size W w') := hide fun W hb => holds_any (hF.below hb) (hh.below hb) (hl.below hb)
  have HCF : Hid (∀ W, Below w.heap.size w W → Calls Try.prog 6 #[fv] W fun e w' => e = .returned (.int .i64 (chkF F)) ∧ Below W.heap.size W w') := hide fun W hb => checkFormula_any (hF.below hb)
  have HCL : Hid (∀ W, Below w.heap.size w W → Calls Try.prog 7 #[.agg #[hv, lv], .int .i64 8] W fun e w' => e = .returned (.int .i64 (chk hs ls 8)) ∧ Below W.heap.size W w') := hide fun W hb => checkLasso_any 8 (hh.below hb) (hl.below hb)
  have HTO : Hid (chkF F = 0 → chk hs ls 8 = 0 → ∀ W, Below w.heap.size w W → Calls Try.prog 9 #[fv, .agg #[hv, lv]] W fun e w' => ∃ v, e = .returned v ∧ GridSl w' v (tabF F hs ls) ∧ Below W.heap.size W w') := hide fun h1 h2 W hb => tableOf_any (hF.below hb) (hh.below hb) (hl.below hb) h1 h2
  obtain ⟨a, c, rfl, hm, -⟩ := hF
  obtain ⟨a0, c0, rfl, -⟩ := hh
  obtain ⟨a1, c1, rfl, -⟩ := hl
  unfold maxLen at hm
  by_cases hq : chkF F = 0
  · have eT : chkT F hs ls = chk hs ls 8 := by unfold chkT; rw [if_pos hq]
    rw [eT] at HTb HHo
    by_cases hr : chk hs ls 8 = 0
    · have HTO' := hide (HTO.out hq hr)
      obtain ⟨hM0, hM12, _⟩ := chkF_ok hq
      obtain ⟨k1, k2, k3, _⟩ := chk_ok hr
      have hlen : ∀ j, j < (tabF F hs ls).length → ((tabF F hs ls).getD j []).length = hs.length + ls.length := fun j hj => by
        rw [tabF_len] at hj
        exact tab_len F _ _ _ j hj
      have htl := tabF_len F hs ls
      rw [hq] at HCF
      rw [hr] at HTb HHo HCL
      simp only [if_true] at HHo
      generalize tabF F hs ls = T at *
      have HLEN := hide hlen
      have HTL := hide htl
      clear HTO hq hr eT hlen htl
      go_enter Try.func3, Try.ntmps3
      go_wp2_with (fail)
      refine (HTb.out _ (below_new w _)).mono ?_
      rintro e w1 ⟨tv, rfl, hg1, -, hb1⟩
      have hg1 := hg1 (by first | rfl | trivial)
      have hB1 := below_trans (below_new w (Obj.cells #[.slice a0 hs.length c0, .slice a1 ls.length c1] 26)) hb1
      have j0 : w1.cell? ⟨w.heap.size, 0, none⟩ = some (.slice a0 hs.length c0) := cell_keep (by simp) hb1
      have j1 : w1.cell? ⟨w.heap.size, 1, none⟩ = some (.slice a1 ls.length c1) := cell_keep (by simp) hb1
      obtain ⟨R1, tc, htv, -⟩ := hg1.rows (N := hs.length + ls.length) (by rw [HTL.out]; omega) (by omega) HLEN.out
      rw [HTL.out] at htv
      subst htv
      have G1 := hide hg1
      clear hg1 hb1 HTb
      go_wp2_with (fail)
      refine (HHo.out _ hB1).mono ?_
      rintro e w2 ⟨rfl, hb2⟩
      have G1 := hide (G1.out.below hb2)
      have hB2 := below_trans hB1 hb2
      have j0 := cell_keep j0 hb2
      have j1 := cell_keep j1 hb2
      generalize hok : (T.getD (F.length - 1) []).getD 0 false = ok at *
      have HOK := hide hok
      clear hb2 hB1 HHo hok
      go_wp2_with (fail)
      refine (HCF.out _ hB2).mono ?_
      rintro e w3 ⟨rfl, hb3⟩
      have G1 := hide (G1.out.below hb3)
      have hB3 := below_trans hB2 hb3
      have j0 := cell_keep j0 hb3
      have j1 := cell_keep j1 hb3
      clear hb3 hB2 HCF
      go_wp2_with (fail)
      refine (HCL.out _ hB3).mono ?_
      rintro e w4 ⟨rfl, hb4⟩
      have G1 := hide (G1.out.below hb4)
      have hB4 := below_trans hB3 hb4
      have j0 := cell_keep j0 hb4
      have j1 := cell_keep j1 hb4
      clear hb4 hB3 HCL
      go_wp2_with (fail)
      refine (holdsBegun_any _).mono ?_
      rintro e w5 ⟨rfl, hb5⟩
      have G1 := hide (G1.out.below hb5)
      have hB5 := below_trans hB4 hb5
      have j0 := cell_keep j0 hb5
      have j1 := cell_keep j1 hb5
      clear hb5 hB4
      go_wp2_with (fail)
      refine (HTO'.out _ hB5).mono ?_
      rintro e w6 ⟨wv, rfl, hg2, hb6⟩
      have hg1 := G1.out.below hb6
      have hB6 := below_trans hB5 hb6
      obtain ⟨R1', tc', he1, hr1⟩ := hg1.rows (N := hs.length + ls.length) (by rw [HTL.out]; omega) (by omega) HLEN.out
      obtain ⟨R2, wc, he2, hr2⟩ := hg2.rows (N := hs.length + ls.length) (by rw [HTL.out]; omega) (by omega) HLEN.out
      injection he1 with e1 e2 e3
      injection e1 with e1
      injection e1 with e1
      rw [HTL.out] at he2 hr1 hr2
      subst he2
      subst e1
      have HR1 := hide hr1
      have HR2 := hide hr2
      have HB6 := hide hB6
      clear hg1 hg2 hr1 hr2 G1 hb6 hB5 hB6 e2 e3 HTO' j0 j1
      generalize hN : hs.length + ls.length = N at *
      have hN0 : 0 < N := by omega
      have hN8 : N ≤ 8000 := by omega
      have hMM : ((F.length : Int) != F.length) = false := by simp
      have hNN : ((N : Int) != N) = false := by simp
      clear hN
      go_wp2_with (fail)
      go_loopw [11] (fun iv wr => ∃ j : Nat, j ≤ F.length ∧ iv = .int .i64 j ∧ Hid (∃ m, wr = w6.drewN m)) (fun iv _ => F.length - (intOf iv).toNat)
      case atStart => exact ⟨0, Nat.zero_le _, rfl, hide ⟨0, rfl⟩⟩
      case round =>
        obtain ⟨j, hj, rfl, hwr⟩ := hrel
        by_cases hlt : j < F.length
        · obtain ⟨b1, o1, d1, p1, q1⟩ := HR1.out j hlt
          obtain ⟨b2, o2, d2, p2, q2⟩ := HR2.out j hlt
          have P1 := hide p1
          have P2 := hide p2
          have p1 := dr_cell hwr.out p1
          have p2 := dr_cell hwr.out p2
          have Q1 := hide q1
          have Q2 := hide q2
          clear q1 q2
          go_wp2_with (fail)
          refine wp_region_quiet_lit (by kernel_rfl) (by kernel_rfl) ?_
          (repeat (go_big_quiet_step (fail)))
          refine wpQuiet_nil ?_
          intro v1 hw'
          have hv1 := hide (dr_trans hwr.out hw')
          clear hw' p1 p2
          go_wp2_with (fail)
          go_loopw [12] (fun kv wr => ∃ p : Nat, p ≤ N ∧ kv = .int .i64 p ∧ Hid (∃ m, wr = w6.drewN m)) (fun kv _ => N - (intOf kv).toNat)
          case atStart => exact ⟨0, Nat.zero_le _, rfl, hv1⟩
          case round =>
            obtain ⟨p, hp, rfl, hwr2⟩ := hrel
            have p1 := dr_cell hwr2.out P1.out
            have p2 := dr_cell hwr2.out P2.out
            by_cases hplt : p < N
            · have q1 := dr_cell hwr2.out (Q1.out p hplt)
              have q2 := dr_cell hwr2.out (Q2.out p hplt)
              generalize (T.getD j []).getD p false = x at *
              cases x with
              | true =>
                go_wp2_with (fail)
                refine wp_region_quiet_lit (by kernel_rfl) (by kernel_rfl) ?_
                (repeat (go_big_quiet_step (fail)))
                refine wpQuiet_nil ?_
                intro v2 hw'
                have hv2 := hide (dr_trans hwr2.out hw')
                clear hw' p1 p2 q1 q2
                go_wp2_with (fail)
                go_roundw
                case rel => exact ⟨p + 1, by omega, by go_num, hv2⟩
                case measure => simp [intOf]; omega
              | false =>
                go_wp2_with (fail)
                refine wp_region_quiet_lit (by kernel_rfl) (by kernel_rfl) ?_
                (repeat (go_big_quiet_step (fail)))
                refine wpQuiet_nil ?_
                intro v2 hw'
                have hv2 := hide (dr_trans hwr2.out hw')
                clear hw' p1 p2 q1 q2
                go_wp2_with (fail)
                go_roundw
                case rel => exact ⟨p + 1, by omega, by go_num, hv2⟩
                case measure => simp [intOf]; omega
            · go_wp2_with (fail)
              go_roundw
              case rel => exact ⟨j + 1, by omega, by go_num, hwr2⟩
              case measure => simp [intOf]; omega
        · have hjF : j = F.length := by omega
          have hlt' : (F.length : Int) ≤ j := by omega
          obtain ⟨b2, o2, d2, p2, q2⟩ := HR2.out (F.length - 1) (by omega)
          have p2 := dr_cell hwr.out p2
          have q2 := dr_cell hwr.out (q2 0 hN0)
          rw [Nat.add_zero, HOK.out] at q2
          have hi0 : (0 : Int) ≤ (F.length : Int) - 1 := by omega
          have hi1 : (F.length : Int) - 1 < F.length := by omega
          have hi2 : ((F.length : Int) - 1).toNat = F.length - 1 := by omega
          have HBB := hide (dr_below hwr.out HB6.out)
          clear hjF
          cases ok with
          | true =>
            go_wp2_with (fail)
            go_ret
            exact ⟨rfl, HBB.out⟩
          | false =>
            go_wp2_with (fail)
            go_ret
            exact ⟨rfl, HBB.out⟩
    · have br : (chk hs ls 8 == 0) = false := by simpa using hr
      have br' : (chk hs ls 8 != 0) = true := by simpa using hr
      rw [hq] at HCF
      simp only [if_neg hr] at HHo
      generalize chk hs ls 8 = r at *
      have hrr : (r != r) = false := by simp
      have HR := hide hr
      clear HTO hq hr eT
      go_enter Try.func3, Try.ntmps3
      go_wp2_with (fail)
      refine (HTb.out _ (below_new w _)).mono ?_
      rintro e w1 ⟨tv, rfl, -, hv, hb1⟩
      have hv' := hv HR.out
      subst hv'
      have hB1 := below_trans (below_new w (Obj.cells #[.slice a0 hs.length c0, .slice a1 ls.length c1] 26)) hb1
      have j0 : w1.cell? ⟨w.heap.size, 0, none⟩ = some (.slice a0 hs.length c0) := cell_keep (by simp) hb1
      have j1 : w1.cell? ⟨w.heap.size, 1, none⟩ = some (.slice a1 ls.length c1) := cell_keep (by simp) hb1
      clear hb1 HTb hv
      go_wp2_with (fail)
      refine (HHo.out _ hB1).mono ?_
      rintro e w2 ⟨rfl, hb2⟩
      have hB2 := below_trans hB1 hb2
      have j0 := cell_keep j0 hb2
      have j1 := cell_keep j1 hb2
      clear hb2 hB1 HHo
      go_wp2_with (fail)
      refine (HCF.out _ hB2).mono ?_
      rintro e w3 ⟨rfl, hb3⟩
      have hB3 := below_trans hB2 hb3
      have j0 := cell_keep j0 hb3
      have j1 := cell_keep j1 hb3
      clear hb3 hB2 HCF
      go_wp2_with (fail)
      refine (HCL.out _ hB3).mono ?_
      rintro e w4 ⟨rfl, hb4⟩
      have hB4 := below_trans hB3 hb4
      clear hb4 hB3 HCL
      go_wp2_with (fail)
      refine (holdsBegun_any _).mono ?_
      rintro e w5 ⟨rfl, hb5⟩
      have hB5 := below_trans hB4 hb5
      clear hb5 hB4 j0 j1
      go_wp2_with (fail)
      go_ret
      exact ⟨rfl, hB5⟩
  · have eT : chkT F hs ls = chkF F := by unfold chkT; rw [if_neg hq]
    rw [eT] at HTb HHo
    have bq : (chkF F == 0) = false := by simpa using hq
    have bq' : (chkF F != 0) = true := by simpa using hq
    simp only [if_neg hq] at HHo
    generalize chkF F = q at *
    have hqq : (q != q) = false := by simp
    have HQ := hide hq
    clear HTO hq eT HCL
    go_enter Try.func3, Try.ntmps3
    go_wp2_with (fail)
    refine (HTb.out _ (below_new w _)).mono ?_
    rintro e w1 ⟨tv, rfl, -, hv, hb1⟩
    have hv' := hv HQ.out
    subst hv'
    have hB1 := below_trans (below_new w (Obj.cells #[.slice a0 hs.length c0, .slice a1 ls.length c1] 26)) hb1
    have j0 : w1.cell? ⟨w.heap.size, 0, none⟩ = some (.slice a0 hs.length c0) := cell_keep (by simp) hb1
    have j1 : w1.cell? ⟨w.heap.size, 1, none⟩ = some (.slice a1 ls.length c1) := cell_keep (by simp) hb1
    clear hb1 HTb hv
    go_wp2_with (fail)
    refine (HHo.out _ hB1).mono ?_
    rintro e w2 ⟨rfl, hb2⟩
    have hB2 := below_trans hB1 hb2
    clear hb2 hB1 HHo j0 j1
    go_wp2_with (fail)
    refine (HCF.out _ hB2).mono ?_
    rintro e w3 ⟨rfl, hb3⟩
    have hB3 := below_trans hB2 hb3
    clear hb3 hB2 HCF
    go_wp2_with (fail)
    refine (holdsBegun_any _).mono ?_
    rintro e w5 ⟨rfl, hb5⟩
    have hB5 := below_trans hB3 hb5
    clear hb5 hB3
    go_wp2_with (fail)
    go_ret
    exact ⟨rfl, hB5⟩
end Go.Proofs.Ytpiacnnifdjlkaa
