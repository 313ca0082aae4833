/-
  AutoTells of the statements: true.
-/
import Derived.Test.YtpiacnnifdjlkaaDoorJk
import Derived.Test.YtpiacnnifdjlkaaDoorJq
/-
  What autoBegun of the statements needs.
-/
namespace Go.Proofs.YtpiacnnifdjlkaaDoor
open Go.RowKit Go.Sort

theorem one_aut (w : World) : Calls Tryd.prog 53 #[] w fun e w' => ∃ v, e = .returned v ∧ AutV w' v oneA ∧ Below w.heap.size w w' := by
  refine (one_any w).mono ?_
  rintro e w' ⟨g1, g2, g3, rfl, h1, h2, h3, h4, h5, hb⟩
  exact ⟨_, rfl, autV_one h1 h2 h3 h4 h5, hb⟩

theorem chk_one : chkA oneA = 0 := by decide

theorem itoa_dig {z : Int} (h0 : 0 ≤ z) (h1 : z < 10) : Lib.itoa z = [UInt8.ofNat (48 + z.toNat)] := by
  rw [itoa_nat h0, Lib.decDigits_one (by omega)]

def textOne : List UInt8 := [115, 116, 97, 116, 101, 115, 32, 49, 32, 108, 101, 116, 116, 101, 114, 115, 32, 50, 10, 102, 105, 114, 115, 116, 32, 48, 10, 103, 111, 111, 100, 32, 48, 10, 48, 32, 48, 32, 48, 10]

theorem prt_one : prtA oneA = textOne := by
  have i0 : Lib.itoa 0 = [48] := itoa_dig (by omega) (by omega)
  have i1 : Lib.itoa 1 = [49] := itoa_dig (by omega) (by omega)
  have i2 : Lib.itoa 2 = [50] := itoa_dig (by omega) (by omega)
  have hg : goods oneA.good oneA.good.length = [0] := rfl
  unfold prtA
  rw [hg]
  simp [headT, oneA, numsT, stepT, i0, i1, i2, textOne]

theorem prs_one : prsE textOne = 0 ∧ prsN textOne = 0 ∧ prsA textOne = oneA := by
  have h : readT textOne = (oneA, 0) := by rw [← prt_one]; exact readT_prt (right_of chk_one)
  have e1 : prsE textOne = 0 := by
    unfold prsE
    rw [if_neg (by decide), h]
    exact chk_one
  refine ⟨e1, ?_, ?_⟩
  · unfold prsN
    rw [if_neg (by decide), h]
  · unfold prsA
    rw [if_pos e1, h]

theorem trim_one {T : Aut} (h : TrimR oneA T) : T = oneA := by
  rcases h with ⟨h, _⟩ | ⟨_, f, hf, rfl⟩
  · cases h
  · have h0 : f 0 = true := (hf 0 (by decide)).2 ⟨0, by decide, 0, rfl⟩
    have hn : oneA.n.toNat = 1 := rfl
    rw [hn]
    have r0 : rk f 0 = 0 := rfl
    have r1 : rk f 1 = 1 := by rw [show (1 : Nat) = 0 + 1 from rfl, rk_succ, if_pos h0, r0]
    have k1 : keptGood f oneA.good 1 = [true] := by rw [show (1 : Nat) = 0 + 1 from rfl, keptGood_succ, if_pos h0]; rfl
    unfold onlyA
    rw [r1, k1]
    simp [keptFirst, keptSteps, keptStep, oneA, h0, r0]
end Go.Proofs.YtpiacnnifdjlkaaDoor

/-
  What autoBegun of the statements answers: true.
-/
namespace Go.Proofs.YtpiacnnifdjlkaaDoor
open Go.RowKit Go.Sort

theorem textOne_beq : (textOne == [115, 116, 97, 116, 101, 115, 32, 49, 32, 108, 101, 116, 116, 101, 114, 115, 32, 50, 10, 102, 105, 114, 115, 116, 32, 48, 10, 103, 111, 111, 100, 32, 48, 10, 48, 32, 48, 32, 48, 10]) = true := by decide

set_option maxRecDepth 100000 in
set_option maxHeartbeats 2000000 in
theorem autoBegun_any {w : World} {m : Int} (ht : Lib.TabBelow Tryd.prog w.heap.size w "internal/strconv.uint64pow10" .u64 Lib.pow10Tab) (hm : w.cell? maxG = some (.int .i64 m)) :
    Calls Tryd.prog 18 #[] w fun e w' => e = .returned (.bool true) ∧ Below w.heap.size w w' := by
  have HT : Hid (∀ W, Below w.heap.size w W → Lib.TabIs Tryd.prog W "internal/strconv.uint64pow10" .u64 Lib.pow10Tab) := hide ht
  have HM := hide hm
  have hml := World.block_lt_of_cell? w _ hm
  clear ht hm
  go_enter Tryd.func18, Tryd.ntmps18
  go_wp2_with (fail)
  go_fit (one_aut w)
  rintro e w1 ⟨v1, rfl, hv1, hb1⟩
  go_wp2_with (fail)
  go_fit (autoPrint_any hv1 (fun W hb => HT.out W (below_trans hb1 hb)))
  rw [chk_one, if_pos rfl, prt_one]
  rintro e w2 ⟨rfl, hb2⟩
  have B2 := below_trans hb1 hb2
  go_wp2_with (fail)
  go_fit (parse_any textOne m ((B2.cell hml).trans HM.out))
  rintro e w3 ⟨v3, rfl, hv3, hb3⟩
  obtain ⟨p1, p2, p3⟩ := prs_one
  rw [p3] at hv3
  rw [p1, p2]
  have B3 := below_trans B2 hb3
  have H3 := hide hv3.aut
  obtain ⟨f3, g3, s3, rfl, i1, i2, i3⟩ := hv3.aut
  obtain ⟨a1, c1, rfl, -⟩ := i1
  obtain ⟨a2, c2, rfl, -⟩ := i2
  obtain ⟨a3, c3, rfl, -⟩ := i3
  have Hx := hide (one_new w3 (Obj.cells #[.int .i64 oneA.n, .int .i64 oneA.m, .slice a1 oneA.first.length c1, .slice a2 oneA.good.length c2, .slice a3 oneA.steps.length c3] 26))
  have HB4 := hide (below_trans B3 (below_new w3 (Obj.cells #[.int .i64 oneA.n, .int .i64 oneA.m, .slice a1 oneA.first.length c1, .slice a2 oneA.good.length c2, .slice a3 oneA.steps.length c3] 26)))
  have H4 := hide (H3.out.below (below_new w3 (Obj.cells #[.int .i64 oneA.n, .int .i64 oneA.m, .slice a1 oneA.first.length c1, .slice a2 oneA.good.length c2, .slice a3 oneA.steps.length c3] 26)))
  clear hv3 hb3 hb2 hb1 hv1 B2 B3 p1 p2 p3
  generalize hO : oneA.n = on at *
  generalize hO1 : oneA.m = om at *
  generalize hO2 : oneA.first.length = o1 at *
  generalize hO3 : oneA.good.length = o2 at *
  generalize hO4 : oneA.steps.length = o3 at *
  clear hO hO1 hO2 hO3 hO4
  go_wp2_with (fail)
  generalize w3.alloc (Obj.cells #[.int .i64 on, .int .i64 om, .slice a1 o1 c1, .slice a2 o2 c2, .slice a3 o3 c3] 26) = w4 at *
  go_fit (one_aut w4)
  rintro e w5 ⟨v5, rfl, hv5, hb5⟩
  go_wp2_with (fail)
  go_fit (trim_any hv5)
  rintro e w6 ⟨v6, T6, rfl, hv6, ht6, -, hb6⟩
  obtain rfl := trim_one (ht6 chk_one)
  have B6 := below_trans hb5 hb6
  have HB6 := hide (below_trans HB4.out B6)
  have H6 := hide hv6.aut
  obtain ⟨f6, g6, s6, rfl, i1, i2, i3⟩ := hv6.aut
  obtain ⟨b1, e1, rfl, -⟩ := i1
  obtain ⟨b2, e2, rfl, -⟩ := i2
  obtain ⟨b3, e3, rfl, -⟩ := i3
  have hb7 := below_new w6 (Obj.cells #[.int .i64 oneA.n, .int .i64 oneA.m, .slice b1 oneA.first.length e1, .slice b2 oneA.good.length e2, .slice b3 oneA.steps.length e3] 26)
  have hX7 := belowRow (below_trans B6 hb7) Hx.out
  have hY7 := one_new w6 (Obj.cells #[.int .i64 oneA.n, .int .i64 oneA.m, .slice b1 oneA.first.length e1, .slice b2 oneA.good.length e2, .slice b3 oneA.steps.length e3] 26)
  have HB7 := hide (below_trans HB6.out hb7)
  have HA7 := hide ((H4.out.below B6).below hb7)
  have HC7 := hide (H6.out.below hb7)
  rw [chk_one]
  clear hv6 ht6 hb6 hv5 hb5 B6 hb7 H3 H4 H6 HT HM Hx HB4 HB6
  have tb := textOne_beq
  generalize hO : oneA.n = pn at *
  generalize hO1 : oneA.m = pm at *
  generalize hO2 : oneA.first.length = p1 at *
  generalize hO3 : oneA.good.length = p2 at *
  generalize hO4 : oneA.steps.length = p3 at *
  clear hO hO1 hO2 hO3 hO4
  go_wp2_with (fail)
  generalize w6.alloc (Obj.cells #[.int .i64 pn, .int .i64 pm, .slice b1 p1 e1, .slice b2 p2 e2, .slice b3 p3 e3] 26) = w7 at *
  generalize w3.heap.size = xb at *
  generalize w6.heap.size = yb at *
  refine wp_region_orders [[0, 1, 2, 3, 4, 5, 6, 7, 8, 9, 10, 11, 12, 13, 14, 15, 16, 17, 18, 19, 20, 21, 22, 23, 24, 25, 26, 27, 28, 29], [0, 1, 2, 3, 4, 5, 6, 7, 8, 9, 10, 11, 12, 13, 14, 15, 16, 17, 18, 19, 20, 21, 22, 23, 24, 26, 25, 27, 28, 29], [0, 1, 2, 3, 4, 5, 6, 7, 8, 9, 10, 11, 12, 13, 14, 15, 16, 17, 18, 19, 21, 20, 22, 23, 24, 25, 26, 27, 28, 29], [0, 1, 2, 3, 4, 5, 6, 7, 8, 9, 10, 11, 12, 13, 14, 15, 16, 17, 18, 19, 21, 20, 22, 23, 24, 26, 25, 27, 28, 29]] (by kernel_rfl) (by kernel_rfl) ?_
  simp only [List.forall_mem_cons, List.filterMap_cons, List.filterMap_nil, List.getElem?_cons_succ, List.getElem?_cons_zero, List.not_mem_nil, false_implies, implies_true, and_true]
  refine ⟨?_, ?_, ?_, ?_⟩
  all_goals
    go_wp2_with (fail)
    go_fit (one_aut _)
    rintro e w8 ⟨v8, rfl, hv8, hb8⟩
    have B8 := below_trans (Below.drew (Below.refl w7.heap.size w7)) hb8
    clear hb8
    go_wp2_with (fail)
    go_fit (autoCheck_any hv8)
    rintro e w9 ⟨rfl, hb9⟩
    rw [chk_one]
    have B9 := below_trans B8 hb9
    have hX9 := belowRow B9 hX7
    have x0 := cell_of_row _ _ 0 _ _ _ hX9
    have x1 := cell_of_row _ _ 1 _ _ _ hX9
    have x2 := cell_of_row _ _ 2 _ _ _ hX9
    have x3 := cell_of_row _ _ 3 _ _ _ hX9
    have x4 := cell_of_row _ _ 4 _ _ _ hX9
    clear hb9 B8 hv8
    go_wp2_with (fail)
    go_fit (one_aut _)
    rintro e w10 ⟨v10, rfl, hv10, hb10⟩
    have B10 := below_trans B9 hb10
    have hX10 := belowRow B10 hX7
    clear x0 x1 x2 x3 x4
    have x0 := cell_of_row _ _ 0 _ _ _ hX10
    have x1 := cell_of_row _ _ 1 _ _ _ hX10
    have x2 := cell_of_row _ _ 2 _ _ _ hX10
    have x3 := cell_of_row _ _ 3 _ _ _ hX10
    have x4 := cell_of_row _ _ 4 _ _ _ hX10
    clear hb10 B9 hX9
    go_wp2_with (fail)
    go_fit (sameAuto_same (HA7.out.below B10) hv10)
    rintro e w11 ⟨rfl, hb11⟩
    have B11 := below_trans B10 hb11
    have hY11 := belowRow B11 hY7
    clear x0 x1 x2 x3 x4
    have y0 := cell_of_row _ _ 0 _ _ _ hY11
    have y1 := cell_of_row _ _ 1 _ _ _ hY11
    have y2 := cell_of_row _ _ 2 _ _ _ hY11
    have y3 := cell_of_row _ _ 3 _ _ _ hY11
    have y4 := cell_of_row _ _ 4 _ _ _ hY11
    clear hb11 B10 hX10 hv10
    go_wp2_with (fail)
    go_fit (one_aut _)
    rintro e w12 ⟨v12, rfl, hv12, hb12⟩
    have B12 := below_trans B11 hb12
    have hY12 := belowRow B12 hY7
    clear y0 y1 y2 y3 y4
    have y0 := cell_of_row _ _ 0 _ _ _ hY12
    have y1 := cell_of_row _ _ 1 _ _ _ hY12
    have y2 := cell_of_row _ _ 2 _ _ _ hY12
    have y3 := cell_of_row _ _ 3 _ _ _ hY12
    have y4 := cell_of_row _ _ 4 _ _ _ hY12
    clear hb12 B11 hY11
    go_wp2_with (fail)
    go_fit (sameAuto_same (HC7.out.below B12) hv12)
    rintro e w13 ⟨rfl, hb13⟩
    have B13 := below_trans HB7.out (below_trans B12 hb13)
    clear y0 y1 y2 y3 y4 hb13 B12 hY12 hv12
    go_wp2_with (fail)
    go_ret
    exact ⟨rfl, B13⟩
end Go.Proofs.YtpiacnnifdjlkaaDoor

/-
  AutoBack of the statements: true.
-/
namespace Go.Proofs.YtpiacnnifdjlkaaDoor
open Go.RowKit Go.Sort

theorem prs_prt {A : Aut} (hc : chkA A = 0) (hl : (prtA A).length ≤ 100000) : prsE (prtA A) = 0 ∧ prsA (prtA A) = A := by
  have h : readT (prtA A) = (A, 0) := readT_prt (right_of hc)
  have e1 : prsE (prtA A) = 0 := by
    unfold prsE
    rw [if_neg (by omega), h]
    exact hc
  refine ⟨e1, ?_⟩
  unfold prsA
  rw [if_pos e1, h]

theorem prs_ok {S : List UInt8} (h : prsE S = 0) : chkA (prsA S) = 0 ∧ prtA (prsA S) = S := by
  have ha : prsA S = (readT S).1 := by unfold prsA; rw [if_pos h]
  unfold prsE at h
  split at h
  · cases h
  · split at h
    · cases h
    · next h2 =>
      rw [ha]
      refine ⟨h, readT_back ?_⟩
      have : (readT S).2 = 0 := by omega
      rw [← this]

theorem prs_zero {S : List UInt8} (h : prsE S ≠ 0) : prsA S = zeroA := by
  unfold prsA
  rw [if_neg h]

set_option maxRecDepth 100000 in
set_option maxHeartbeats 4000000 in
theorem autoBack_any {w : World} {v : Value} {A : Aut} {S : List UInt8} {m : Int} (hv : AutV w v A) (ht : Lib.TabBelow Tryd.prog w.heap.size w "internal/strconv.uint64pow10" .u64 Lib.pow10Tab) (hm : w.cell? maxG = some (.int .i64 m)) :
    Calls Tryd.prog 5 #[v, .string ⟨S.toArray⟩] w fun e w' => e = .returned (.bool true) ∧ Below w.heap.size w w' := by
  have HT : Hid (∀ W, Below w.heap.size w W → Lib.TabIs Tryd.prog W "internal/strconv.uint64pow10" .u64 Lib.pow10Tab) := hide ht
  have HM := hide hm
  have hml := World.block_lt_of_cell? w _ hm
  have HV := hide hv
  obtain ⟨fv, gv, sv, rfl, i1, i2, i3⟩ := hv
  obtain ⟨a1, c1, rfl, -⟩ := i1
  obtain ⟨a2, c2, rfl, -⟩ := i2
  obtain ⟨a3, c3, rfl, -⟩ := i3
  clear ht hm
  have hbA := below_new w (Obj.cells #[.int .i64 A.n, .int .i64 A.m, .slice a1 A.first.length c1, .slice a2 A.good.length c2, .slice a3 A.steps.length c3] 26)
  have hxA := one_new w (Obj.cells #[.int .i64 A.n, .int .i64 A.m, .slice a1 A.first.length c1, .slice a2 A.good.length c2, .slice a3 A.steps.length c3] 26)
  have HbA := hide hbA
  have HxA := hide hxA
  clear hxA
  go_enter Tryd.func5, Tryd.ntmps5
  go_wp2_with (fail)
  go_fit (autoBegun_any (m := m) (fun W hb => HT.out W (below_trans HbA.out hb)) ((hbA.cell hml).trans HM.out))
  rintro e w1 ⟨rfl, hb1⟩
  have B1 := below_trans HbA.out hb1
  have hx1 := belowRow hb1 HxA.out
  have x0 := cell_of_row _ _ 0 _ _ _ hx1
  have x1 := cell_of_row _ _ 1 _ _ _ hx1
  have x2 := cell_of_row _ _ 2 _ _ _ hx1
  have x3 := cell_of_row _ _ 3 _ _ _ hx1
  have x4 := cell_of_row _ _ 4 _ _ _ hx1
  have HX1 := hide hx1
  have HV1 := hide (HV.out.below B1)
  clear hb1 hbA hx1
  go_wp2_with (fail)
  go_fit (autoPrint_any HV1.out (fun W hb => HT.out W (below_trans B1 hb)))
  rintro e w2 ⟨rfl, hb2⟩
  have B2 := below_trans B1 hb2
  have hx2 := belowRow hb2 HX1.out
  clear x0 x1 x2 x3 x4
  by_cases hc : chkA A = 0
  · rw [hc, if_pos rfl]
    have hsz : (⟨(prtA A).toArray⟩ : ByteArray).size = (prtA A).length := by simp [ByteArray.size]
    by_cases hl : (prtA A).length ≤ 100000
    · obtain ⟨r1, r2⟩ := prs_prt hc hl
      have hg : decide (((prtA A).length : Int) ≤ 100000) = true := decide_eq_true (by omega)
      have HP1 := hide (parse_any (w := w2) (prtA A) m ((B2.cell hml).trans HM.out))
      have HR1 := hide r1
      have HR2 := hide r2
      have HX2 := hide hx2
      have HV2 := hide (HV1.out.below hb2)
      generalize prtA A = T at *
      generalize T.length = TL at *
      clear hl r1 r2 hc hx2 hb2
      go_wp2_with (fail)
      go_fit HP1.out
      rintro e w3 ⟨v3, rfl, hv3, hb3⟩
      rw [HR1.out]
      rw [HR2.out] at hv3
      have B3 := below_trans B2 hb3
      have H3 := hide hv3.aut
      obtain ⟨f3, g3, s3, rfl, i1, i2, i3⟩ := hv3.aut
      obtain ⟨b1, e1, rfl, -⟩ := i1
      obtain ⟨b2, e2, rfl, -⟩ := i2
      obtain ⟨b3, e3, rfl, -⟩ := i3
      have hbn := below_new w3 (Obj.cells #[.int .i64 A.n, .int .i64 A.m, .slice b1 A.first.length e1, .slice b2 A.good.length e2, .slice b3 A.steps.length e3] 26)
      have hx3 := belowRow (below_trans hb3 hbn) HX2.out
      have hy3 := one_new w3 (Obj.cells #[.int .i64 A.n, .int .i64 A.m, .slice b1 A.first.length e1, .slice b2 A.good.length e2, .slice b3 A.steps.length e3] 26)
      have B4 := below_trans B3 hbn
      have HS := hide (sameAuto_same ((HV2.out.below hb3).below hbn) (H3.out.below hbn))
      have x0 := cell_of_row _ _ 0 _ _ _ hx3
      have x1 := cell_of_row _ _ 1 _ _ _ hx3
      have x2 := cell_of_row _ _ 2 _ _ _ hx3
      have x3 := cell_of_row _ _ 3 _ _ _ hx3
      have x4 := cell_of_row _ _ 4 _ _ _ hx3
      have y0 := cell_of_row _ _ 0 _ _ _ hy3
      have y1 := cell_of_row _ _ 1 _ _ _ hy3
      have y2 := cell_of_row _ _ 2 _ _ _ hy3
      have y3 := cell_of_row _ _ 3 _ _ _ hy3
      have y4 := cell_of_row _ _ 4 _ _ _ hy3
      clear hv3 hb3 hbn hx3 hy3 HR1 HR2 HP1
      go_wp2_with (fail)
      go_fit HS.out
      rintro e w5 ⟨rfl, hb5⟩
      have B5 := below_trans B4 hb5
      clear x0 x1 x2 x3 x4 y0 y1 y2 y3 y4 hb5 B4 HS
      go_wp2_with (fail)
      go_fit (parse_any S m ((B5.cell hml).trans HM.out))
      rintro e wp ⟨vp, rfl, hvp, hbp⟩
      have BP := below_trans B5 hbp
      have HP := hide hvp.aut
      obtain ⟨fp, gp, sp, rfl, i1, i2, i3⟩ := hvp.aut
      obtain ⟨p1, d1, rfl, -⟩ := i1
      obtain ⟨p2, d2, rfl, -⟩ := i2
      obtain ⟨p3, d3, rfl, -⟩ := i3
      have hbq := below_new wp (Obj.cells #[.int .i64 (prsA S).n, .int .i64 (prsA S).m, .slice p1 (prsA S).first.length d1, .slice p2 (prsA S).good.length d2, .slice p3 (prsA S).steps.length d3] 26)
      have HBQ := hide (below_trans BP hbq)
      have HPQ := hide (HP.out.below hbq)
      clear hvp hbp BP hbq
      by_cases he : prsE S = 0
      · obtain ⟨r1, r2⟩ := prs_ok he
        rw [he]
        have HR1 := hide r1
        have HR2 := hide r2
        clear he r1 r2
        go_wp2_with (fail)
        go_fit (autoPrint_any HPQ.out (fun W hb => HT.out W (below_trans HBQ.out hb)))
        rw [HR1.out, if_pos rfl, HR2.out]
        rintro e wt ⟨rfl, hbt⟩
        have BT := below_trans HBQ.out hbt
        have hss : (S == S) = true := by simp
        clear hbt
        go_wp2_with (fail)
        go_ret
        exact ⟨by first | rfl | (rw [hss]), BT⟩
      · have hz := prs_zero he
        have hn0 : (prsA S).n = 0 := by rw [hz]; rfl
        have hne : (prsE S != 0) = true := by simpa using he
        rw [hn0]
        generalize prsE S = pe at *
        generalize (prsA S).m = pm at *
        generalize (prsA S).first.length = l1 at *
        generalize (prsA S).good.length = l2 at *
        generalize (prsA S).steps.length = l3 at *
        rw [hn0] at HBQ
        clear hz hn0 he HPQ HP
        go_wp2_with (fail)
        go_ret
        exact ⟨rfl, HBQ.out⟩
    · have hg : decide (((prtA A).length : Int) ≤ 100000) = false := decide_eq_false (by omega)
      generalize prtA A = T at *
      generalize T.length = TL at *
      clear hl hc hx2 hb2
      go_wp2_with (fail)
      go_fit (parse_any S m ((B2.cell hml).trans HM.out))
      rintro e wp ⟨vp, rfl, hvp, hbp⟩
      have BP := below_trans B2 hbp
      have HP := hide hvp.aut
      obtain ⟨fp, gp, sp, rfl, i1, i2, i3⟩ := hvp.aut
      obtain ⟨p1, d1, rfl, -⟩ := i1
      obtain ⟨p2, d2, rfl, -⟩ := i2
      obtain ⟨p3, d3, rfl, -⟩ := i3
      have hbq := below_new wp (Obj.cells #[.int .i64 (prsA S).n, .int .i64 (prsA S).m, .slice p1 (prsA S).first.length d1, .slice p2 (prsA S).good.length d2, .slice p3 (prsA S).steps.length d3] 26)
      have HBQ := hide (below_trans BP hbq)
      have HPQ := hide (HP.out.below hbq)
      clear hvp hbp BP hbq
      by_cases he : prsE S = 0
      · obtain ⟨r1, r2⟩ := prs_ok he
        rw [he]
        have HR1 := hide r1
        have HR2 := hide r2
        clear he r1 r2
        go_wp2_with (fail)
        go_fit (autoPrint_any HPQ.out (fun W hb => HT.out W (below_trans HBQ.out hb)))
        rw [HR1.out, if_pos rfl, HR2.out]
        rintro e wt ⟨rfl, hbt⟩
        have BT := below_trans HBQ.out hbt
        have hss : (S == S) = true := by simp
        clear hbt
        go_wp2_with (fail)
        go_ret
        exact ⟨by first | rfl | (rw [hss]), BT⟩
      · have hz := prs_zero he
        have hn0 : (prsA S).n = 0 := by rw [hz]; rfl
        have hne : (prsE S != 0) = true := by simpa using he
        rw [hn0]
        generalize prsE S = pe at *
        generalize (prsA S).m = pm at *
        generalize (prsA S).first.length = l1 at *
        generalize (prsA S).good.length = l2 at *
        generalize (prsA S).steps.length = l3 at *
        rw [hn0] at HBQ
        clear hz hn0 he HPQ HP
        go_wp2_with (fail)
        go_ret
        exact ⟨rfl, HBQ.out⟩
  · rw [if_neg hc]
    have hd : (chkA A == 0) = false := by rw [beq_eq_false_iff_ne]; exact hc
    generalize chkA A = c at *
    clear hc hx2 hb2
    go_wp2_with (fail)
    go_fit (parse_any S m ((B2.cell hml).trans HM.out))
    rintro e wp ⟨vp, rfl, hvp, hbp⟩
    have BP := below_trans B2 hbp
    have HP := hide hvp.aut
    obtain ⟨fp, gp, sp, rfl, i1, i2, i3⟩ := hvp.aut
    obtain ⟨p1, d1, rfl, -⟩ := i1
    obtain ⟨p2, d2, rfl, -⟩ := i2
    obtain ⟨p3, d3, rfl, -⟩ := i3
    have hbq := below_new wp (Obj.cells #[.int .i64 (prsA S).n, .int .i64 (prsA S).m, .slice p1 (prsA S).first.length d1, .slice p2 (prsA S).good.length d2, .slice p3 (prsA S).steps.length d3] 26)
    have HBQ := hide (below_trans BP hbq)
    have HPQ := hide (HP.out.below hbq)
    clear hvp hbp BP hbq
    by_cases he : prsE S = 0
    · obtain ⟨r1, r2⟩ := prs_ok he
      rw [he]
      have HR1 := hide r1
      have HR2 := hide r2
      clear he r1 r2
      go_wp2_with (fail)
      go_fit (autoPrint_any HPQ.out (fun W hb => HT.out W (below_trans HBQ.out hb)))
      rw [HR1.out, if_pos rfl, HR2.out]
      rintro e wt ⟨rfl, hbt⟩
      have BT := below_trans HBQ.out hbt
      have hss : (S == S) = true := by simp
      clear hbt
      go_wp2_with (fail)
      go_ret
      exact ⟨by first | rfl | (rw [hss]), BT⟩
    · have hz := prs_zero he
      have hn0 : (prsA S).n = 0 := by rw [hz]; rfl
      have hne : (prsE S != 0) = true := by simpa using he
      rw [hn0]
      generalize prsE S = pe at *
      generalize (prsA S).m = pm at *
      generalize (prsA S).first.length = l1 at *
      generalize (prsA S).good.length = l2 at *
      generalize (prsA S).steps.length = l3 at *
      rw [hn0] at HBQ
      clear hz hn0 he HPQ HP
      go_wp2_with (fail)
      go_ret
      exact ⟨rfl, HBQ.out⟩
end Go.Proofs.YtpiacnnifdjlkaaDoor

namespace Go.Proofs.YtpiacnnifdjlkaaDoor
open Go.RowKit Go.Sort

theorem fivePut_other (w : World) (b rb : Nat) (h : b ≠ rb) (v0 v1 v2 v3 v4 : Value) : (fivePut w rb v0 v1 v2 v3 v4).heap[b]? = w.heap[b]? := by
  unfold fivePut
  rw [heap_setCell_other _ _ _ b h, heap_setCell_other _ _ _ b h, heap_setCell_other _ _ _ b h, heap_setCell_other _ _ _ b h, heap_setCell_other _ _ _ b h]

set_option maxRecDepth 100000 in
set_option maxHeartbeats 4000000 in
theorem autoTells_any {w : World} {v : Value} {A : Aut} {m : Int} (hv : AutV w v A) (ht : Lib.TabBelow Tryd.prog w.heap.size w "internal/strconv.uint64pow10" .u64 Lib.pow10Tab) (hm : w.cell? maxG = some (.int .i64 m)) :
    Calls Tryd.prog 3 #[v] w fun e w' => e = .returned (.bool true) ∧ Below w.heap.size w w' := by
  have HT : Hid (∀ W, Below w.heap.size w W → Lib.TabIs Tryd.prog W "internal/strconv.uint64pow10" .u64 Lib.pow10Tab) := hide ht
  have HM := hide hm
  have hml := World.block_lt_of_cell? w _ hm
  have HV := hide hv
  obtain ⟨fv, gv, sv, rfl, i1, i2, i3⟩ := hv
  obtain ⟨a1, c1, rfl, -⟩ := i1
  obtain ⟨a2, c2, rfl, -⟩ := i2
  obtain ⟨a3, c3, rfl, -⟩ := i3
  clear ht hm
  have hb0 := below_new w (Obj.cells #[.int .i64 A.n, .int .i64 A.m, .slice a1 A.first.length c1, .slice a2 A.good.length c2, .slice a3 A.steps.length c3] 26)
  have hx0 := one_new w (Obj.cells #[.int .i64 A.n, .int .i64 A.m, .slice a1 A.first.length c1, .slice a2 A.good.length c2, .slice a3 A.steps.length c3] 26)
  have HX0 := hide hx0
  have HB0 := hide hb0
  have HV0 := hide (HV.out.below hb0)
  clear hx0 hb0
  go_enter Tryd.func3, Tryd.ntmps3
  go_wp2_with (fail)
  go_fit (autoPrint_any HV0.out (fun W hb => HT.out W (below_trans HB0.out hb)))
  generalize hPT : (if chkA A = 0 then prtA A else []) = PT
  have HPT := hide hPT
  clear hPT
  rintro e w1 ⟨rfl, hb1⟩
  have B1 := below_trans HB0.out hb1
  have hx1 := belowRow hb1 HX0.out
  have x0 := cell_of_row _ _ 0 _ _ _ hx1
  have x1 := cell_of_row _ _ 1 _ _ _ hx1
  have x2 := cell_of_row _ _ 2 _ _ _ hx1
  have x3 := cell_of_row _ _ 3 _ _ _ hx1
  have x4 := cell_of_row _ _ 4 _ _ _ hx1
  have HX1 := hide hx1
  have HV1 := hide (HV.out.below B1)
  clear hb1 hx1 HX0 HV0
  go_wp2_with (fail)
  go_fit (trim_any HV1.out)
  rintro e w2 ⟨v2, T, rfl, hT, hT0, hT1, hb2⟩
  have B2 := below_trans B1 hb2
  have HX2 := hide (belowRow hb2 HX1.out)
  have HTa := hide hT
  have HTr := hide (And.intro hT0 hT1)
  obtain ⟨fv, gv, sv, rfl, i1, i2, i3⟩ := hT.aut
  obtain ⟨b1, e1, rfl, -⟩ := i1
  obtain ⟨b2, e2, rfl, -⟩ := i2
  obtain ⟨b3, e3, rfl, -⟩ := i3
  have hbn := below_new w2 (Obj.cells #[.int .i64 T.n, .int .i64 T.m, .slice b1 T.first.length e1, .slice b2 T.good.length e2, .slice b3 T.steps.length e3] 26)
  have HY3 := hide (one_new w2 (Obj.cells #[.int .i64 T.n, .int .i64 T.m, .slice b1 T.first.length e1, .slice b2 T.good.length e2, .slice b3 T.steps.length e3] 26))
  have B3 := below_trans B2 hbn
  have hx3 := belowRow hbn HX2.out
  have HX3 := hide hx3
  have HT3 := hide (HTa.out.below hbn)
  have hlt2 : w.heap.size < w2.heap.size := (Array.getElem?_eq_some_iff.1 HX2.out).1
  have x0 := cell_of_row _ _ 0 _ _ _ hx3
  have x1 := cell_of_row _ _ 1 _ _ _ hx3
  have x2 := cell_of_row _ _ 2 _ _ _ hx3
  have x3 := cell_of_row _ _ 3 _ _ _ hx3
  have x4 := cell_of_row _ _ 4 _ _ _ hx3
  clear hT hT0 hT1 hb2 hbn hx3 HX1 HV1 HX2 HTa B1 B2
  go_wp2_with (fail)
  generalize w2.alloc (Obj.cells #[.int .i64 T.n, .int .i64 T.m, .slice b1 T.first.length e1, .slice b2 T.good.length e2, .slice b3 T.steps.length e3] 26) = w3 at *
  generalize w2.heap.size = tb at *
  go_fit (checkAutoR_any (HV.out.below B3))
  rintro e w4 ⟨rfl, hb4⟩
  have hbn := below_new w4 (Obj.cells noA 26)
  have b45 := below_trans hb4 hbn
  have B5 := below_trans B3 b45
  have HX5 := hide (belowRow b45 HX3.out)
  have HY5 := hide (belowRow b45 HY3.out)
  have HU5 := hide (one_new w4 (Obj.cells noA 26))
  have HT5 := hide (HT3.out.below b45)
  unfold noA at B5 HX5 HY5 HU5 HT5
  have hl4a := Nat.lt_of_lt_of_le (Array.getElem?_eq_some_iff.1 HX3.out).1 hb4.size
  have hl4b := Nat.lt_of_lt_of_le (Array.getElem?_eq_some_iff.1 HY3.out).1 hb4.size
  clear x0 x1 x2 x3 x4 hb4 hbn b45 B3 HX3 HY3 HT3
  have hub : w.heap.size ≠ w4.heap.size ∧ tb ≠ w4.heap.size ∧ w.heap.size ≤ w4.heap.size := ⟨fun e => by omega, fun e => by omega, by omega⟩
  by_cases hc : chkA A = 0
  · have HCk := hide hc
    have HRt := hide (right_of hc)
    have HFw := hide (first_few hc)
    obtain rfl : prtA A = PT := by rw [← HPT.out, if_pos hc]
    rw [hc]
    clear hc HPT
    have x0 := cell_of_row _ _ 0 _ _ _ HX5.out
    have x1 := cell_of_row _ _ 1 _ _ _ HX5.out
    have x2 := cell_of_row _ _ 2 _ _ _ HX5.out
    have x3 := cell_of_row _ _ 3 _ _ _ HX5.out
    have x4 := cell_of_row _ _ 4 _ _ _ HX5.out
    go_wp2_with (fail)
    generalize w4.alloc (Obj.cells #[.int .i64 0, .int .i64 0, .slice none 0 0, .slice none 0 0, .slice none 0 0] 26) = w5 at *
    generalize w4.heap.size = ub at *
    refine wp_region_orders [[0, 1, 2, 3, 4, 5], [0, 2, 1, 3, 4, 5], [2, 0, 1, 3, 4, 5]] (by kernel_rfl) (by kernel_rfl) ?_
    simp only [List.forall_mem_cons, List.filterMap_cons, List.filterMap_nil, List.getElem?_cons_succ, List.getElem?_cons_zero, List.not_mem_nil, false_implies, implies_true, and_true]
    refine ⟨?_, ?_, ?_⟩
    all_goals
      go_wp2_with (fail)
      go_fit (printAuto_any (HV.out.below B5.drew) HRt.out HFw.out)
      rintro e w6 ⟨rfl, hb6⟩
      have b6 := below_trans (Below.drew (Below.refl w5.heap.size w5)) hb6
      have hx6 := belowRow b6 HX5.out
      clear x0 x1 x2 x3 x4
      have x0 := cell_of_row _ _ 0 _ _ _ hx6
      have x1 := cell_of_row _ _ 1 _ _ _ hx6
      have x2 := cell_of_row _ _ 2 _ _ _ hx6
      have x3 := cell_of_row _ _ 3 _ _ _ hx6
      have x4 := cell_of_row _ _ 4 _ _ _ hx6
      clear hx6 hb6
      go_wp2_with (fail)
      go_fit (trimOf_any (HV.out.below (below_trans B5 b6)) HRt.out HFw.out)
      rintro e w7 ⟨v7, U, rfl, hU, hUT, hb7⟩
      have b7 := below_trans b6 hb7
      have hUb := belowRow b7 HU5.out
      have hXb := belowRow b7 HX5.out
      have hYb := belowRow b7 HY5.out
      have hTb := HT5.out.below b7
      have B7' := below_trans B5 b7
      have hlt7 : w6.heap.size ≤ w7.heap.size := hb7.size
      obtain ⟨fu, gu, su, rfl, o1, o2, o3⟩ := hU
      have hU := (show AutO w7 w6.heap.size (.agg #[.int .i64 U.n, .int .i64 U.m, fu, gu, su]) U from ⟨_, _, _, rfl, o1, o2, o3⟩)
      obtain ⟨h1, k1, rfl, -⟩ := intSl_of_owns o1
      obtain ⟨h2, k2, rfl, -⟩ := boolSl_of_owns o2
      obtain ⟨h3, k3, rfl, -⟩ := stepSl_of_owns o3
      have y0 := cell_of_row _ _ 0 _ _ _ hUb
      have y1 := cell_of_row _ _ 1 _ _ _ hUb
      have y2 := cell_of_row _ _ 2 _ _ _ hUb
      have y3 := cell_of_row _ _ 3 _ _ _ hUb
      have y4 := cell_of_row _ _ 4 _ _ _ hUb
      have z0 := frozen_of_row _ _ 0 _ _ hUb
      have z1 := frozen_of_row _ _ 1 _ _ hUb
      have z2 := frozen_of_row _ _ 2 _ _ hUb
      have z3 := frozen_of_row _ _ 3 _ _ hUb
      have z4 := frozen_of_row _ _ 4 _ _ hUb
      have HU7 := hide (fivePut_box hUb (.int .i64 U.n) (.int .i64 U.m) (.slice h1 U.first.length k1) (.slice h2 U.good.length k2) (.slice h3 U.steps.length k3))
      have HX7 := hide ((fivePut_other w7 w.heap.size ub (by omega) (.int .i64 U.n) (.int .i64 U.m) (.slice h1 U.first.length k1) (.slice h2 U.good.length k2) (.slice h3 U.steps.length k3)).trans hXb)
      have HY7 := hide ((fivePut_other w7 tb ub (by omega) (.int .i64 U.n) (.int .i64 U.m) (.slice h1 U.first.length k1) (.slice h2 U.good.length k2) (.slice h3 U.steps.length k3)).trans hYb)
      have HT7 := hide (hTb.five hUb (.int .i64 U.n) (.int .i64 U.m) (.slice h1 U.first.length k1) (.slice h2 U.good.length k2) (.slice h3 U.steps.length k3)).aut
      have HU7a := hide (hU.five hUb (.int .i64 U.n) (.int .i64 U.m) (.slice h1 U.first.length k1) (.slice h2 U.good.length k2) (.slice h3 U.steps.length k3)).aut
      have HB7 := hide (fivePut_below B7' (show w.heap.size ≤ ub by omega) (.int .i64 U.n) (.int .i64 U.m) (.slice h1 U.first.length k1) (.slice h2 U.good.length k2) (.slice h3 U.steps.length k3))
      have HUT := hide (TrimR.unique HRt.out (HTr.out.1 HCk.out) hUT)
      unfold fivePut at HU7 HX7 HY7 HT7 HU7a HB7
      clear hUb hXb hYb hTb hU o1 o2 o3 hUT b6 b7 B7' hb7 x0 x1 x2 x3 x4
      go_wp2_with (fail)
      generalize ((((w7.setCell ⟨ub, 0, none⟩ (.int .i64 U.n)).setCell ⟨ub, 1, none⟩ (.int .i64 U.m)).setCell ⟨ub, 2, none⟩ (.slice h1 U.first.length k1)).setCell ⟨ub, 3, none⟩ (.slice h2 U.good.length k2)).setCell ⟨ub, 4, none⟩ (.slice h3 U.steps.length k3) = W7 at *
      clear y0 y1 y2 y3 y4 z0 z1 z2 z3 z4
      have B7 := HB7.out
      go_wp2_with (fail)
      go_fit (autoBegun_any (m := m) (fun W hb => HT.out W (below_trans B7 hb)) ((B7.cell hml).trans HM.out))
      rintro e w8 ⟨rfl, hb8⟩
      have B8 := below_trans B7 hb8
      have hx8 := belowRow hb8 HX7.out
      have x0 := cell_of_row _ _ 0 _ _ _ hx8
      have x1 := cell_of_row _ _ 1 _ _ _ hx8
      have x2 := cell_of_row _ _ 2 _ _ _ hx8
      have x3 := cell_of_row _ _ 3 _ _ _ hx8
      have x4 := cell_of_row _ _ 4 _ _ _ hx8
      clear hx8
      go_wp2_with (fail)
      go_fit (autoCheck_any (HV.out.below B8))
      rintro e w9 ⟨rfl, hb9⟩
      have B9 := below_trans B8 hb9
      have b89 := below_trans hb8 hb9
      have hy9 := belowRow b89 HY7.out
      have hu9 := belowRow b89 HU7.out
      clear x0 x1 x2 x3 x4
      have y0 := cell_of_row _ _ 0 _ _ _ hy9
      have y1 := cell_of_row _ _ 1 _ _ _ hy9
      have y2 := cell_of_row _ _ 2 _ _ _ hy9
      have y3 := cell_of_row _ _ 3 _ _ _ hy9
      have y4 := cell_of_row _ _ 4 _ _ _ hy9
      have u0 := cell_of_row _ _ 0 _ _ _ hu9
      have u1 := cell_of_row _ _ 1 _ _ _ hu9
      have u2 := cell_of_row _ _ 2 _ _ _ hu9
      have u3 := cell_of_row _ _ 3 _ _ _ hu9
      have u4 := cell_of_row _ _ 4 _ _ _ hu9
      have HI := hide (autoIs_same (chkA A) (HT7.out.below b89) (HU7a.out.below b89) (fun _ => HUT.out) (fun h => absurd HCk.out h))
      clear hy9 hu9 hb8 hb9 B8 b89
      rw [HCk.out] at HI ⊢
      have hss : ((prtA A) == (prtA A)) = true := by simp
      go_wp2_with (fail)
      go_fit HI.out
      rintro e w10 ⟨rfl, hb10⟩
      have B10 := below_trans B9 hb10
      clear y0 y1 y2 y3 y4 u0 u1 u2 u3 u4 hb10 B9
      go_wp2_with (fail)
      go_ret
      exact ⟨rfl, B10⟩
  · obtain rfl : [] = PT := by rw [← HPT.out, if_neg hc]
    have hd : (chkA A == 0) = false := by rw [beq_eq_false_iff_ne]; exact hc
    generalize hw5 : w4.alloc (Obj.cells #[.int .i64 0, .int .i64 0, .slice none 0 0, .slice none 0 0, .slice none 0 0] 26) = w5 at *
    go_wp2_with (fail)
    go_wp2_with (fail)
    go_fit (autoBegun_any (m := m) (fun W hb => HT.out W (below_trans B5 hb)) ((B5.cell hml).trans HM.out))
    rintro e w8 ⟨rfl, hb8⟩
    have B8 := below_trans B5 hb8
    have hx8 := belowRow hb8 HX5.out
    have x0 := cell_of_row _ _ 0 _ _ _ hx8
    have x1 := cell_of_row _ _ 1 _ _ _ hx8
    have x2 := cell_of_row _ _ 2 _ _ _ hx8
    have x3 := cell_of_row _ _ 3 _ _ _ hx8
    have x4 := cell_of_row _ _ 4 _ _ _ hx8
    clear hx8
    go_wp2_with (fail)
    go_fit (autoCheck_any (HV.out.below B8))
    rintro e w9 ⟨rfl, hb9⟩
    have B9 := below_trans B8 hb9
    have b89 := below_trans hb8 hb9
    have hy9 := belowRow b89 HY5.out
    have hu9 := belowRow b89 HU5.out
    clear x0 x1 x2 x3 x4
    have y0 := cell_of_row _ _ 0 _ _ _ hy9
    have y1 := cell_of_row _ _ 1 _ _ _ hy9
    have y2 := cell_of_row _ _ 2 _ _ _ hy9
    have y3 := cell_of_row _ _ 3 _ _ _ hy9
    have y4 := cell_of_row _ _ 4 _ _ _ hy9
    have u0 := cell_of_row _ _ 0 _ _ _ hu9
    have u1 := cell_of_row _ _ 1 _ _ _ hu9
    have u2 := cell_of_row _ _ 2 _ _ _ hu9
    have u3 := cell_of_row _ _ 3 _ _ _ hu9
    have u4 := cell_of_row _ _ 4 _ _ _ hu9
    have HI := hide (autoIs_same (chkA A) (HT5.out.aut.below b89) (autV_zero _) (fun h => absurd h hc) (fun _ => HTr.out.2 hc))
    clear hy9 hu9 hb8 hb9 B8 b89
    have hcc : (chkA A == chkA A) = true := by simp
    generalize chkA A = c at *
    clear hc
    go_wp2_with (fail)
    go_fit HI.out
    rintro e w10 ⟨rfl, hb10⟩
    have B10 := below_trans B9 hb10
    clear y0 y1 y2 y3 y4 u0 u1 u2 u3 u4 hb10 B9
    go_wp2_with (fail)
    go_ret
    exact ⟨rfl, B10⟩
end Go.Proofs.YtpiacnnifdjlkaaDoor
