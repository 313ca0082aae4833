/- BothSome holds: whatever automaton is handed in, Some of package both finds a word that it takes, just if there is one, and its errors are what the document says; the table deBruijn64tab of math/bits is as the program's text lays it. -/
import Derived.Test.YtpiacnnifdjlkabDoorVo
import Derived.Test.YtpiacnnifdjlkabDoorVm
import Derived.Test.YtpiacnnifdjlkabDoorCg
import Derived.Test.YtpiacnnifdjlkabDoorCz
import Derived.Test.YtpiacnnifdjlkabDoorCn
import Derived.Test.YtpiacnnifdjlkabDoorBe
import Derived.Test.YtpiacnnifdjlkabDoorCq
/-
  both.Either of the statements' own automata, and what begun tells of package both.
-/
namespace Go.Proofs.YtpiacnnifdjlkabDoor
open Go.RowKit Go.Sort

theorem noneA_right : chkA noneA = 0 := by decide

theorem takes_beside : TakesA besideA [] [0] := by
  refine ⟨0, by decide, (0, 0), ⟨0, rfl⟩, rfl, ⟨0, (0, 0), ⟨rfl, ⟨0, 0, 0⟩, by simp [besideA], rfl, rfl, rfl⟩, rfl⟩⟩

theorem none_takes (u : Nat → Int) : ¬ TakesU noneA u := by
  rintro ⟨i, h, _⟩
  exact absurd h (by simp [noneA])

set_option maxHeartbeats 400000 in
theorem none_any (w : World) :
    Calls Tryd.prog 25 #[] w fun e w' => ∃ g, e = .returned (.agg #[.int .i64 1, .int .i64 2, .slice none 0 0, .slice (some ⟨g, 0, none⟩) 1 1, .slice none 0 0]) ∧ w'.cell? ⟨g, 0, none⟩ = some (.bool false) ∧ Below w.heap.size w w' := by
  go_enter Tryd.func25, Tryd.ntmps25
  go_wp2
  have q := two_alloc w (Obj.cells #[Value.int .i64 1, .int .i64 2, .slice none 0 0, .slice (some ⟨w.heap.size + 1, 0, none⟩) 1 1, .slice none 0 0] 26) (Obj.cells #[Value.bool false] 4)
  have c0 := cell_of_row _ _ 0 _ _ _ q.1
  have c1 := cell_of_row _ _ 1 _ _ _ q.1
  have c2 := cell_of_row _ _ 2 _ _ _ q.1
  have c3 := cell_of_row _ _ 3 _ _ _ q.1
  have c4 := cell_of_row _ _ 4 _ _ _ q.1
  have c5 := cell_of_row _ _ 0 _ _ _ q.2
  refine bodyPost_ret (v := .agg #[.int .i64 1, .int .i64 2, .slice none 0 0, .slice (some ⟨w.heap.size + 1, 0, none⟩) 1 1, .slice none 0 0]) (by simp [results, Tryd.results25, go_sem, c0, c1, c2, c3, c4]) rfl ⟨_, rfl, c5, (by repeat (first | exact Below.refl _ _ | assumption | refine below_drewN ?_ _ | refine Below.drew ?_ | refine Below.alloc ?_ (by simp <;> omega) _ | refine below_trans ?_ (by assumption)))⟩

theorem autV_none {w : World} {g : Nat} (h : w.cell? ⟨g, 0, none⟩ = some (.bool false)) :
    AutV w (.agg #[.int .i64 1, .int .i64 2, .slice none 0 0, .slice (some ⟨g, 0, none⟩) 1 1, .slice none 0 0]) noneA :=
  ⟨_, _, _, rfl, intSl_nil w, boolSl_one w g false h, none, 0, rfl, by simp [maxLen, noneA], Or.inl rfl, fun _ => rfl, by simp [noneA]⟩

set_option maxRecDepth 100000 in
set_option maxHeartbeats 2000000 in
theorem eitherOne {w : World} {g1 g2 g3 g4 : Nat} (h1 : w.cell? ⟨g1, 0, none⟩ = some (.int .i64 0)) (h2 : w.cell? ⟨g2, 0, none⟩ = some (.bool true)) (h3 : w.cell? ⟨g3, 0, none⟩ = some (.int .i64 0)) (h4 : w.cell? ⟨g3, 1, none⟩ = some (.int .i64 0)) (h5 : w.cell? ⟨g3, 2, none⟩ = some (.int .i64 0)) (h6 : w.cell? ⟨g4, 0, none⟩ = some (.bool false)) :
    Calls Tryd.prog 7 #[.agg #[.int .i64 1, .int .i64 2, .slice (some ⟨g1, 0, none⟩) 1 1, .slice (some ⟨g2, 0, none⟩) 1 1, .slice (some ⟨g3, 0, none⟩) 1 1], .agg #[.int .i64 1, .int .i64 2, .slice none 0 0, .slice (some ⟨g4, 0, none⟩) 1 1, .slice none 0 0]] w fun e w' => ∃ v, e = .returned (.tuple #[v, .int .i64 0]) ∧ BesideV w' v ∧ Below w.heap.size w w' := by
  have HA := hide (autV_one h1 h2 h3 h4 h5)
  have HB := hide (autV_none h6)
  have HH := hide (And.intro h1 (And.intro h2 (And.intro h3 (And.intro h4 (And.intro h5 h6)))))
  clear h1 h2 h3 h4 h5 h6
  obtain ⟨r0, r1, r2⟩ := three_alloc w (Obj.cells #[Value.int .i64 1, .int .i64 2, .slice (some ⟨g1, 0, none⟩) 1 1, .slice (some ⟨g2, 0, none⟩) 1 1, .slice (some ⟨g3, 0, none⟩) 1 1] 26) (Obj.cells #[Value.int .i64 1, .int .i64 2, .slice none 0 0, .slice (some ⟨g4, 0, none⟩) 1 1, .slice none 0 0] 26) (Obj.cells #[Value.int .i64 0, .int .i64 0, .slice none 0 0, .slice none 0 0, .slice none 0 0] 26)
  have hb3 : Below w.heap.size w (((w.alloc (Obj.cells #[Value.int .i64 1, .int .i64 2, .slice (some ⟨g1, 0, none⟩) 1 1, .slice (some ⟨g2, 0, none⟩) 1 1, .slice (some ⟨g3, 0, none⟩) 1 1] 26)).alloc (Obj.cells #[Value.int .i64 1, .int .i64 2, .slice none 0 0, .slice (some ⟨g4, 0, none⟩) 1 1, .slice none 0 0] 26)).alloc (Obj.cells #[Value.int .i64 0, .int .i64 0, .slice none 0 0, .slice none 0 0, .slice none 0 0] 26)) := (by repeat (first | exact Below.refl _ _ | assumption | refine below_drewN ?_ _ | refine Below.drew ?_ | refine Below.alloc ?_ (by simp <;> omega) _ | refine below_trans ?_ (by assumption)))
  have HR := hide (And.intro r0 (And.intro r1 r2))
  have HW := hide hb3
  clear r0 r1 r2 hb3
  go_enter Tryd.func7, Tryd.ntmps7
  go_wp2_with (fail)
  go_fit (pairsCheck_ok (HA.out.below HW.out) (HB.out.below HW.out) oneA_right noneA_right rfl)
  rintro e w1 ⟨rfl, hb1⟩
  have HB1 := hide (below_trans HW.out hb1)
  have hr0 := belowRow hb1 HR.out.1
  have hr1 := belowRow hb1 HR.out.2.1
  have HR2 := hide (belowRow hb1 HR.out.2.2)
  have a0 := cell_of_row _ _ 0 _ _ _ hr0
  have a1 := cell_of_row _ _ 1 _ _ _ hr0
  have a2 := cell_of_row _ _ 2 _ _ _ hr0
  have a3 := cell_of_row _ _ 3 _ _ _ hr0
  have a4 := cell_of_row _ _ 4 _ _ _ hr0
  have b0 := cell_of_row _ _ 0 _ _ _ hr1
  have b1 := cell_of_row _ _ 1 _ _ _ hr1
  have b2 := cell_of_row _ _ 2 _ _ _ hr1
  have b3 := cell_of_row _ _ 3 _ _ _ hr1
  have b4 := cell_of_row _ _ 4 _ _ _ hr1
  clear hb1 hr0 hr1
  go_wp2_with (fail)
  go_fit (beside_one (cell_keepB HH.out.1 HB1.out) (Nat.le_refl 1) (cell_keepB HH.out.2.1 HB1.out) (Nat.le_refl 1) (cell_keepB HH.out.2.2.1 HB1.out) (cell_keepB HH.out.2.2.2.1 HB1.out) (cell_keepB HH.out.2.2.2.2.1 HB1.out) (cell_keepB HH.out.2.2.2.2.2 HB1.out) (Nat.le_refl 1))
  rintro e w2 ⟨v, rfl, hv, hb2⟩
  have h09 := belowRow hb2 HR2.out
  have hbw := below_trans HB1.out hb2
  have HV := hide hv
  obtain ⟨c1, d1, c2, d2, c3, d3, _, _, rfl, -⟩ := id hv
  have HBF := hide (fivePut_below hbw (show w.heap.size ≤ w.heap.size + 1 + 1 by omega) (.int .i64 2) (.int .i64 2) (.slice c1 1 d1) (.slice c2 2 d2) (.slice c3 1 d3))
  have HAF := hide (hv.five h09 (.int .i64 2) (.int .i64 2) (.slice c1 1 d1) (.slice c2 2 d2) (.slice c3 1 d3))
  have H09 := hide h09
  have y0 := cell_of_row _ _ 0 _ _ _ H09.out
  have y1 := cell_of_row _ _ 1 _ _ _ H09.out
  have y2 := cell_of_row _ _ 2 _ _ _ H09.out
  have y3 := cell_of_row _ _ 3 _ _ _ H09.out
  have y4 := cell_of_row _ _ 4 _ _ _ H09.out
  have z0 := frozen_of_row _ _ 0 _ _ H09.out
  have z1 := frozen_of_row _ _ 1 _ _ H09.out
  have z2 := frozen_of_row _ _ 2 _ _ H09.out
  have z3 := frozen_of_row _ _ 3 _ _ H09.out
  have z4 := frozen_of_row _ _ 4 _ _ H09.out
  clear h09 hbw hv hb2 a0 a1 a2 a3 a4 b0 b1 b2 b3 b4
  go_wp2
  have hF := fivePut_box H09.out (.int .i64 2) (.int .i64 2) (.slice c1 1 d1) (.slice c2 2 d2) (.slice c3 1 d3)
  have f0 := cell_of_row _ _ 0 _ _ _ hF
  have f1 := cell_of_row _ _ 1 _ _ _ hF
  have f2 := cell_of_row _ _ 2 _ _ _ hF
  have f3 := cell_of_row _ _ 3 _ _ _ hF
  have f4 := cell_of_row _ _ 4 _ _ _ hF
  unfold fivePut at f0 f1 f2 f3 f4
  exact bodyPost_ret (v := .tuple #[.agg #[.int .i64 2, .int .i64 2, .slice c1 1 d1, .slice c2 2 d2, .slice c3 1 d3], .int .i64 0]) (by simp [results, Tryd.results7, go_sem, f0, f1, f2, f3, f4]) rfl ⟨_, rfl, HAF.out, HBF.out⟩

end Go.Proofs.YtpiacnnifdjlkabDoor

/-
  What begun tells of package both.
-/
namespace Go.Proofs.YtpiacnnifdjlkabDoor
open Go.RowKit Go.Sort

theorem takesE {w : World} {v : Value} {g : Nat} (ht : Tab w) (hv : BesideV w v) (h : w.cell? ⟨g, 0, none⟩ = some (.int .i64 0)) :
    Calls Tryd.prog 13 #[v, .agg #[.slice none 0 0, .slice (some ⟨g, 0, none⟩) 1 1]] w fun e w' => e = .returned (.tuple #[.bool true, .int .i64 0]) ∧ Below w.heap.size w w' := by
  refine (takes_any hv.aut (intSl_nil w) (intSl_one w g 0 h) ht).mono ?_
  rintro e w' ⟨b, rfl, hb, hw⟩
  have e0 : tkE besideA [] [0] = 0 := by decide
  have : b = true := hb.2 ⟨e0, takes_beside⟩
  subst this
  rw [e0]
  exact ⟨rfl, hw⟩

set_option maxRecDepth 100000 in
set_option maxHeartbeats 2000000 in
theorem bothBegun_any {w : World} (ht : Tab w) :
    Calls Tryd.prog 11 #[] w fun e w' => e = .returned (.bool true) ∧ Below w.heap.size w w' := by
  have Ht := hide ht
  clear ht
  go_enter Tryd.func11, Tryd.ntmps11
  go_wp2_with (fail)
  refine (one_any _).mono ?_
  rintro e w1 ⟨g1, g2, g3, rfl, j1, j2, j3, j4, j5, hb1⟩
  have J := hide (And.intro j1 (And.intro j2 (And.intro j3 (And.intro j4 j5))))
  clear j1 j2 j3 j4 j5
  go_wp2_with (fail)
  refine (none_any _).mono ?_
  rintro e w2 ⟨g4, rfl, j6, hb2⟩
  have HE := hide (eitherOne (cell_keepB J.out.1 hb2) (cell_keepB J.out.2.1 hb2) (cell_keepB J.out.2.2.1 hb2) (cell_keepB J.out.2.2.2.1 hb2) (cell_keepB J.out.2.2.2.2 hb2) j6)
  have HB2 := hide (below_trans hb1 hb2)
  clear j6 hb2 hb1 J
  go_wp2_with (fail)
  go_fit HE.out
  rintro e w3 ⟨v, rfl, hv, hb3⟩
  obtain ⟨c1, d1, c2, d2, c3, d3, _, _, rfl, -⟩ := id hv
  have hbn := below_new w3 (Obj.cells #[Value.int .i64 2, .int .i64 2, .slice c1 1 d1, .slice c2 2 d2, .slice c3 1 d3] 26)
  have hon := one_new w3 (Obj.cells #[Value.int .i64 2, .int .i64 2, .slice c1 1 d1, .slice c2 2 d2, .slice c3 1 d3] 26)
  have HB3 := hide (below_trans (below_trans HB2.out hb3) hbn)
  have HV3 := hide (hv.below hbn)
  have HR3 := hide hon
  clear hbn hon hv hb3 HB2 HE
  go_wp2_with (fail)
  generalize w3.alloc (Obj.cells #[Value.int .i64 2, .int .i64 2, .slice c1 1 d1, .slice c2 2 d2, .slice c3 1 d3] 26) = W3 at *
  refine (one_any _).mono ?_
  rintro e w4 ⟨g1, g2, g3, rfl, j1, j2, j3, j4, j5, hb4⟩
  have J := hide (And.intro j1 (And.intro j2 (And.intro j3 (And.intro j4 j5))))
  have HC := hide hb4
  clear j1 j2 j3 j4 j5 hb4
  go_wp2_with (fail)
  refine (one_any _).mono ?_
  rintro e w5 ⟨k1, k2, k3, rfl, j1, j2, j3, j4, j5, hb5⟩
  have HE := hide (bothOne (autV_one (cell_keepB J.out.1 hb5) (cell_keepB J.out.2.1 hb5) (cell_keepB J.out.2.2.1 hb5) (cell_keepB J.out.2.2.2.1 hb5) (cell_keepB J.out.2.2.2.2 hb5)) (autV_one j1 j2 j3 j4 j5))
  have HC5 := hide (below_trans HC.out hb5)
  clear j1 j2 j3 j4 j5 hb5 J HC
  go_wp2_with (fail)
  go_fit HE.out
  rintro e w6 ⟨v, O, rfl, hO, hch, htk, hb6⟩
  have HT := hide (And.intro hch htk)
  obtain ⟨o1, o2, o3, rfl, w1', w2', w3'⟩ := id hO
  obtain ⟨p1, q1, rfl⟩ := owns_form w1'
  obtain ⟨p2, q2, rfl⟩ := owns_form w2'
  obtain ⟨p3, q3, rfl⟩ := owns_form w3'
  have hbn := below_new w6 (Obj.cells #[Value.int .i64 O.n, .int .i64 O.m, .slice p1 O.first.length q1, .slice p2 O.good.length q2, .slice p3 O.steps.length q3] 26)
  have hon := one_new w6 (Obj.cells #[Value.int .i64 O.n, .int .i64 O.m, .slice p1 O.first.length q1, .slice p2 O.good.length q2, .slice p3 O.steps.length q3] 26)
  have HC6 := hide (below_trans (below_trans HC5.out hb6) hbn)
  have HO := hide (hO.aut.below hbn)
  have x0 := cell_of_row _ _ 0 _ _ _ hon
  have x1 := cell_of_row _ _ 1 _ _ _ hon
  have x2 := cell_of_row _ _ 2 _ _ _ hon
  have x3 := cell_of_row _ _ 3 _ _ _ hon
  have x4 := cell_of_row _ _ 4 _ _ _ hon
  clear hbn hon hO hch htk hb6 HE HC5 w1' w2' w3'
  go_wp2_with (fail)
  generalize w6.alloc (Obj.cells #[Value.int .i64 O.n, .int .i64 O.m, .slice p1 O.first.length q1, .slice p2 O.good.length q2, .slice p3 O.steps.length q3] 26) = W6 at *
  go_fit (some_any HO.out)
  rintro e w7 ⟨hv, lv, b, rfl, hm⟩
  have hbT : b = true := by
    cases b with
    | true => rfl
    | false => exact absurd HT.out.2 ((hm.no HT.out.1 rfl).2.2 _)
  subst hbT
  rw [HT.out.1]
  obtain ⟨us, vs, i1, i2, -, -, -, hne, -⟩ := hm.yes rfl
  have hb7 := hm.bl
  obtain ⟨ha, hc, rfl, -⟩ := i1
  obtain ⟨la, lc, rfl, -⟩ := i2
  have hpos : 0 < vs.length := List.length_pos_iff.2 hne
  have HP := hide hpos
  generalize us.length = un at *
  generalize vs.length = vn at *
  have hbn := below_new w7 (Obj.cells #[Value.slice ha un hc, .slice la vn lc] 28)
  have hon := one_new w7 (Obj.cells #[Value.slice ha un hc, .slice la vn lc] 28)
  have HC7 := hide (below_trans (below_trans HC6.out hb7) hbn)
  have HR7 := hide hon
  clear hbn hon hm hb7 hne hpos x0 x1 x2 x3 x4 HC6 HO
  go_wp2_with (fail)
  generalize w7.alloc (Obj.cells #[Value.slice ha un hc, .slice la vn lc] 28) = W7 at *
  refine (none_any _).mono ?_
  rintro e w8 ⟨g5, rfl, j6, hb8⟩
  have HN := hide (some_any (autV_none j6))
  have HD8 := hide hb8
  clear j6 hb8
  go_wp2_with (fail)
  go_fit HN.out
  rintro e w9 ⟨hv', lv', b', rfl, hm⟩
  have hbF : b' = false := by
    cases b' with
    | false => rfl
    | true =>
      obtain ⟨us', vs', -, -, -, -, -, -, -, -, t⟩ := hm.yes rfl
      exact absurd t (none_takes _)
  subst hbF
  obtain ⟨rfl, rfl, -⟩ := hm.no noneA_right rfl
  rw [noneA_right]
  have hbn := below_new w9 (Obj.cells #[Value.slice none 0 0, .slice none 0 0] 28)
  have HD9 := hide (below_trans (below_trans HD8.out hm.bl) hbn)
  have HC9 := hide (below_trans HC7.out HD9.out)
  have HB9 := hide (below_trans HB3.out HC9.out)
  have HV9 := hide (HV3.out.below HC9.out)
  have HR9 := hide (belowRow HC9.out HR3.out)
  have HL9 := hide (belowRow HD9.out HR7.out)
  clear hbn hm HN HD8 HD9 HC9 HC7 HV3 HR3 HR7 HB3
  go_wp2_with (fail)
  generalize w9.alloc (Obj.cells #[Value.slice none 0 0, .slice none 0 0] 28) = W9 at *
  have m0 := cell_of_row _ _ 0 _ _ _ HR9.out
  have m1 := cell_of_row _ _ 1 _ _ _ HR9.out
  have m2 := cell_of_row _ _ 2 _ _ _ HR9.out
  have m3 := cell_of_row _ _ 3 _ _ _ HR9.out
  have m4 := cell_of_row _ _ 4 _ _ _ HR9.out
  refine wp_region_orders [[0, 1, 2, 3, 4, 5, 6, 7], [0, 1, 2, 3, 4, 6, 5, 7], [0, 1, 2, 3, 5, 4, 6, 7], [1, 0, 2, 3, 4, 5, 6, 7], [1, 0, 2, 3, 4, 6, 5, 7], [1, 0, 2, 3, 5, 4, 6, 7]] (by kernel_rfl) (by kernel_rfl) ?_
  simp only [List.forall_mem_cons, List.filterMap_cons, List.filterMap_nil, List.getElem?_cons_succ, List.getElem?_cons_zero, List.not_mem_nil, false_implies, implies_true, and_true]
  refine ⟨?_, ?_, ?_, ?_, ?_, ?_⟩
  all_goals
    go_wp2_with (fail)
    refine (zero_any _).mono ?_
    rintro e wz ⟨gz, rfl, zz, hbz⟩
    have Z0 : Below W9.heap.size W9 wz := below_trans (Below.drew (Below.refl _ _)) hbz
    have HZ := hide (takesE ((Ht.out.below HB9.out).below Z0) (HV9.out.below Z0) zz)
    have r0 := cell_keepB m0 Z0
    have r1 := cell_keepB m1 Z0
    have r2 := cell_keepB m2 Z0
    have r3 := cell_keepB m3 Z0
    have r4 := cell_keepB m4 Z0
    clear hbz zz m0 m1 m2 m3 m4
    go_wp2_with (fail)
    refine HZ.out.mono ?_
    rintro e wc ⟨rfl, hbc⟩
    have Z1 := hide (below_trans Z0 hbc)
    have n1 := cell_of_row _ _ 1 _ _ _ (belowRow Z1.out HL9.out)
    have hpos := HP.out
    clear hbc Z0 r0 r1 r2 r3 r4 HZ
    go_wp2
    go_ret
    exact ⟨rfl, below_trans HB9.out Z1.out⟩

end Go.Proofs.YtpiacnnifdjlkabDoor

/-
  BothSome of the statements: true, whatever it is handed.
-/
namespace Go.Proofs.YtpiacnnifdjlkabDoor
open Go.RowKit Go.Sort

/-- What is found is right, and taken. -/
theorem some_right {A : Aut} {us vs : List Int} (hc : chkA A = 0) (h1 : (us.length : Int) ≤ A.n) (h2 : vs ≠ []) (h3 : (vs.length : Int) ≤ A.n) (h4 : ∀ c ∈ us ++ vs, 0 ≤ c ∧ c < A.m) (h5 : TakesU A (lat us vs)) : chk us vs A.m = 0 ∧ tkE A us vs = 0 ∧ TakesA A us vs := by
  have hR := right_of hc
  have hk : chk us vs A.m = 0 := by
    unfold chk
    have a1 := hR.m8
    have a2 := hR.n3
    have hl : 0 < vs.length := List.length_pos_iff.2 h2
    rw [if_neg (by
      intro h
      rcases h with h | h
      · have hx : vs.head h2 ∈ us ++ vs := List.mem_append_right _ (List.head_mem h2)
        have := h4 _ hx
        omega
      · omega), if_neg (by omega), if_neg (by omega), if_neg (by
      intro h
      obtain ⟨x, hx, hy⟩ := List.any_eq_true.1 h
      have := h4 x hx
      simp at hy
      omega)]
  refine ⟨hk, ?_, (takes_word (List.length_pos_iff.2 h2)).2 h5⟩
  unfold tkE
  simp [hc, hk]

/-- Where nothing is found nothing is taken. -/
theorem none_right {A : Aut} {hs ls : List Int} (hc : chkA A = 0) (h : ∀ u, ¬ TakesU A u) (b : Bool) (hb : b = true ↔ tkE A hs ls = 0 ∧ TakesA A hs ls) : tkE A hs ls ≠ 0 ∨ b = false := by
  cases b with
  | false => exact Or.inr rfl
  | true =>
    obtain ⟨h1, h2⟩ := hb.1 rfl
    have hk : chk hs ls A.m = 0 := by
      unfold tkE at h1
      simpa [hc] using h1
    have hl : 0 < ls.length := List.length_pos_iff.2 (chk_lens hk).2.2
    exact absurd ((takes_word hl).1 h2) (h _)

set_option maxRecDepth 100000 in
set_option maxHeartbeats 2000000 in
theorem bothSome_any {w : World} {v hv lv : Value} {A : Aut} {hs ls : List Int} (hA : AutV w v A) (hh : IntSl w hv hs) (hl : IntSl w lv ls) (ht : Tab w) :
    Calls Tryd.prog 4 #[v, .agg #[hv, lv]] w fun e w' => e = .returned (.bool true) ∧ Below w.heap.size w w' := by
  have Ht := hide ht
  have H0 := hide (fun w1 (hb : Below w.heap.size w w1) => some_any (hA.below hb))
  have H1 := hide (fun w1 (hb : Below w.heap.size w w1) => takes_any (hA.below hb) (hh.below hb) (hl.below hb) (ht.below hb))
  have H2 := hide (fun w1 (hb : Below w.heap.size w w1) => checkAutoR_any (hA.below hb))
  have H3 := hide (fun w1 (hb : Below w.heap.size w w1) (a b : Value) us vs (ha : IntSl w1 a us) (hb' : IntSl w1 b vs) => takes_any (hA.below hb) ha hb' (ht.below hb))
  have HZ := hide (fun us vs => some_right (A := A) (us := us) (vs := vs))
  have HY := hide (none_right (A := A) (hs := hs) (ls := ls))
  have HX := hide (fun w1 (a b : Value) us vs (ha : IntSl w1 a us) (hb' : IntSl w1 b vs) => checkLasso_any A.m ha hb')
  obtain ⟨fv, gv, sv, rfl, h1, h2, h3⟩ := hA
  obtain ⟨a1, c1, rfl, -⟩ := h1
  obtain ⟨a2, c2, rfl, -⟩ := h2
  obtain ⟨a3, c3, rfl, -⟩ := h3
  obtain ⟨a4, c4, rfl, -⟩ := hh
  obtain ⟨a5, c5, rfl, -⟩ := hl
  clear ht
  generalize hAm : A.m = m at *
  generalize hAn : A.n = n at *
  have HAm := hide hAm
  have HAn := hide hAn
  clear hAm hAn
  generalize A.first.length = L1 at *
  generalize A.good.length = L2 at *
  generalize A.steps.length = L3 at *
  generalize hs.length = L4 at *
  generalize ls.length = L5 at *
  go_enter Tryd.func4, Tryd.ntmps4
  go_wp2_with (fail)
  have qz := two_alloc w (Obj.cells #[Value.int .i64 n, .int .i64 m, .slice a1 L1 c1, .slice a2 L2 c2, .slice a3 L3 c3] 26) (Obj.cells #[Value.slice a4 L4 c4, .slice a5 L5 c5] 28)
  have B0 : Below w.heap.size w ((w.alloc (Obj.cells #[Value.int .i64 n, .int .i64 m, .slice a1 L1 c1, .slice a2 L2 c2, .slice a3 L3 c3] 26)).alloc (Obj.cells #[Value.slice a4 L4 c4, .slice a5 L5 c5] 28)) := (by repeat (first | exact Below.refl _ _ | assumption | refine below_drewN ?_ _ | refine Below.drew ?_ | refine Below.alloc ?_ (by simp <;> omega) _ | refine below_trans ?_ (by assumption)))
  refine (H0.out _ B0).mono ?_
  rintro e w1 ⟨xh, xl, b, rfl, hm⟩
  have hform : (∃ a n c, xh = .slice a n c) ∧ ∃ a n c, xl = .slice a n c := by
    by_cases hc : chkA A = 0
    · cases b with
      | true =>
        obtain ⟨us, vs, g1, g2, _⟩ := hm.yes rfl
        obtain ⟨a, c, e1, _⟩ := g1
        obtain ⟨a', c', e2, _⟩ := g2
        exact ⟨⟨_, _, _, e1⟩, ⟨_, _, _, e2⟩⟩
      | false =>
        obtain ⟨e1, e2, _⟩ := hm.no hc rfl
        exact ⟨⟨_, _, _, e1⟩, ⟨_, _, _, e2⟩⟩
    · obtain ⟨_, e1, e2⟩ := hm.bad hc
      exact ⟨⟨_, _, _, e1⟩, ⟨_, _, _, e2⟩⟩
  obtain ⟨⟨xa, xn, xc, rfl⟩, ⟨ya, yn, yc, rfl⟩⟩ := hform
  have HM := hide hm
  have hbn := below_new w1 (Obj.cells #[Value.slice xa xn xc, .slice ya yn yc] 28)
  have hon := one_new w1 (Obj.cells #[Value.slice xa xn xc, .slice ya yn yc] 28)
  have HB1 := hide (below_trans (below_trans B0 hm.bl) hbn)
  have e0 := belowRow hbn (belowRow hm.bl qz.1)
  have E1 := hide (belowRow hbn (belowRow hm.bl qz.2))
  have E0 := hide e0
  have EX := hide hon
  have HI := hide hbn
  clear qz B0 hm hon
  have p0 := cell_of_row _ _ 0 _ _ _ e0
  have p1 := cell_of_row _ _ 1 _ _ _ e0
  have p2 := cell_of_row _ _ 2 _ _ _ e0
  have p3 := cell_of_row _ _ 3 _ _ _ e0
  have p4 := cell_of_row _ _ 4 _ _ _ e0
  clear e0 hbn
  generalize hca : chkA A = ca at *
  have Hca := hide hca
  clear hca
  go_wp2_with (fail)
  generalize w1.alloc (Obj.cells #[Value.slice xa xn xc, .slice ya yn yc] 28) = W1 at *
  clear p0 p1 p2 p3 p4
  go_fit (H2.out _ HB1.out)
  rintro e w2 ⟨rfl, hb2⟩
  have HB2 := hide (below_trans HB1.out hb2)
  have HI2 := hide (below_trans HI.out hb2)
  have E02 := hide (belowRow hb2 E0.out)
  have E12 := hide (belowRow hb2 E1.out)
  have EX2 := hide (belowRow hb2 EX.out)
  clear hb2 HB1 HI E0 E1 EX
  go_wp2_with (fail)
  go_fit (bothBegun_any (Ht.out.below HB2.out))
  rintro e w3 ⟨rfl, hb3⟩
  have HB3 := hide (below_trans HB2.out hb3)
  have HI3 := hide (below_trans HI2.out hb3)
  have E03 := hide (belowRow hb3 E02.out)
  have E13 := hide (belowRow hb3 E12.out)
  have EX3 := hide (belowRow hb3 EX2.out)
  clear hb3 HB2 HI2 E02 E12 EX2
  go_wp2_with (fail)
  go_fit (wordBegun_any (Ht.out.below HB3.out))
  rintro e w4 ⟨rfl, hb4⟩
  have HB4 := hide (below_trans HB3.out hb4)
  have HI4 := hide (below_trans HI3.out hb4)
  have e0 := belowRow hb4 E03.out
  have e1 := belowRow hb4 E13.out
  have ex := belowRow hb4 EX3.out
  clear hb4 HB3 HI3 E03 E13 EX3
  have p0 := cell_of_row _ _ 0 _ _ _ e0
  have p1 := cell_of_row _ _ 1 _ _ _ e0
  have p2 := cell_of_row _ _ 2 _ _ _ e0
  have p3 := cell_of_row _ _ 3 _ _ _ e0
  have p4 := cell_of_row _ _ 4 _ _ _ e0
  have EX4 := hide ex
  have E04 := hide e0
  have hne : (ca != ca) = false := by simp
  by_cases hz : ca = 0
  · subst hz
    cases b with
    | true =>
      obtain ⟨us, vs, i1, i2, -, -, l1, hnv, l2, hr, htk⟩ := HM.out.yes rfl
      have HS := hide (some_right Hca.out l1 hnv l2 hr htk)
      have HK := hide (show chk us vs m = 0 by rw [← HAm.out]; exact HS.out.1)
      have hxn : xn = us.length := by
        obtain ⟨_, _, ee, _⟩ := id i1
        injection ee
      have hyn : yn = vs.length := by
        obtain ⟨_, _, ee, _⟩ := id i2
        injection ee
      have hg1 : ¬ n < (xn : Int) := by rw [hxn, ← HAn.out]; omega
      have hg2 : ¬ n < (yn : Int) := by rw [hyn, ← HAn.out]; omega
      have I1 := hide (i1.below HI4.out)
      have I2 := hide (i2.below HI4.out)
      clear i1 i2 l1 hnv l2 hr htk hxn hyn
      have q0 := cell_of_row _ _ 0 _ _ _ ex
      have q1 := cell_of_row _ _ 1 _ _ _ ex
      go_wp2_with (fail)
      go_fit (HX.out _ _ _ us vs I1.out I2.out)
      rintro e w5 ⟨rfl, hb5⟩
      rw [HK.out]
      have HB5 := hide (below_trans HB4.out hb5)
      have J1 := hide (I1.out.below hb5)
      have J2 := hide (I2.out.below hb5)
      have e0 := belowRow hb5 e0
      have ex := belowRow hb5 ex
      clear p0 p1 p2 p3 p4 q0 q1 hb5 e1
      have p0 := cell_of_row _ _ 0 _ _ _ e0
      have p1 := cell_of_row _ _ 1 _ _ _ e0
      have p2 := cell_of_row _ _ 2 _ _ _ e0
      have p3 := cell_of_row _ _ 3 _ _ _ e0
      have p4 := cell_of_row _ _ 4 _ _ _ e0
      have q0 := cell_of_row _ _ 0 _ _ _ ex
      have q1 := cell_of_row _ _ 1 _ _ _ ex
      clear e0 ex EX4 E04
      go_wp2_with (fail)
      go_fit (H3.out _ HB5.out _ _ us vs J1.out J2.out)
      rintro e w6 ⟨b, rfl, hb, hb6⟩
      have ebb : b = true := hb.2 HS.out.2
      subst ebb
      rw [HS.out.2.1]
      have HB6 := hide (below_trans HB5.out hb6)
      clear hb hb6 p0 p1 p2 p3 p4 q0 q1
      go_wp2
      go_ret
      exact ⟨rfl, HB6.out⟩
    | false =>
      obtain ⟨ee1, ee2, hno⟩ := HM.out.no Hca.out rfl
      cases ee1
      cases ee2
      have HN := hide hno
      clear hno
      have p5 := cell_of_row _ _ 0 _ _ _ e1
      have p6 := cell_of_row _ _ 1 _ _ _ e1
      go_wp2_with (fail)
      go_fit (H1.out _ HB4.out)
      rintro e w5 ⟨b, rfl, hb, hb5⟩
      have hor := HY.out (by first | trivial | exact Hca.out) HN.out b hb
      clear hb
      generalize tkE A hs ls = te at *
      have HB5 := hide (below_trans HB4.out hb5)
      have ex := belowRow hb5 ex
      have q0 := cell_of_row _ _ 0 _ _ _ ex
      have q1 := cell_of_row _ _ 1 _ _ _ ex
      clear hb5 p0 p1 p2 p3 p4 p5 p6 ex EX4 E04 e0 e1
      rcases hor with hte | rfl
      · have hd : (te != 0) = true := by simpa using hte
        go_wp2
        go_ret
        exact ⟨by simp, HB5.out⟩
      · by_cases hte : te = 0
        · subst hte
          go_wp2
          go_ret
          exact ⟨by simp, HB5.out⟩
        · have hd : (te != 0) = true := by simpa using hte
          go_wp2
          go_ret
          exact ⟨by simp, HB5.out⟩
  · obtain ⟨rfl, ee1, ee2⟩ := HM.out.bad (by rw [Hca.out]; exact hz)
    cases ee1
    cases ee2
    have hd : (ca != 0) = true := by simpa using hz
    have p5 := cell_of_row _ _ 0 _ _ _ e1
    have p6 := cell_of_row _ _ 1 _ _ _ e1
    go_wp2_with (fail)
    go_fit (H1.out _ HB4.out)
    rintro e w5 ⟨b, rfl, hb, hb5⟩
    clear hb
    generalize tkE A hs ls = te at *
    have HB5 := hide (below_trans HB4.out hb5)
    have ex := belowRow hb5 ex
    have q0 := cell_of_row _ _ 0 _ _ _ ex
    have q1 := cell_of_row _ _ 1 _ _ _ ex
    clear hb5 p0 p1 p2 p3 p4 p5 p6 ex EX4 E04 e0 e1
    go_wp2
    go_ret
    exact ⟨by simp, HB5.out⟩

end Go.Proofs.YtpiacnnifdjlkabDoor

/- WordTells holds: whatever lasso, number of letters and place are handed in, Check, Least and At of package word answer just what the document says, errors too; the table deBruijn64tab of math/bits is as the program's text lays it. -/
namespace Go.Proofs.YtpiacnnifdjlkabDoor
open Go.ChangeShapes Go.WideShapes Go.ChangeAt Go.RowKit Go.Deep
set_option maxRecDepth 100000

theorem gTab64Type : (Tryd.prog.globals[0]?).map (·.type) = some 176 := by kernel_rfl
theorem cellsTab64 : Tryd.prog.cellsOf 176 = 64 := by kernel_rfl
theorem cellsU8 : Tryd.prog.cellsOf 5 = 1 := by kernel_rfl

/-- A block with these integers in its cells. -/
def layInts (k : IntKind) (zs : List Int) : Obj → Obj
  | .cells _ t frozen => .cells (zs.map fun z => Value.int k z).toArray t frozen
  | o => o

/-- A world with the table laid as its initialiser lays it. -/
def layTab64 (W : World) : World := { W with heap := W.heap.modify 0 (layInts .u8 tab64) }

def wordTells_args : Array Value := #[.agg #[.slice .none 0 0, .slice .none 0 0], .int .i64 0, .int .i64 0]

end Go.Proofs.YtpiacnnifdjlkabDoor

namespace Go.Proofs.YtpiacnnifdjlkabDoor
open Go.ChangeShapes Go.WideShapes Go.ChangeAt Go.RowKit Go.Deep
set_option maxRecDepth 100000

theorem bothSome_table {W : World} (h : laidMetH Tryd.prog Rows.bothSomeRow.laid W) : Lib.TabIs Tryd.prog W "math/bits.deBruijn64tab" .u8 tab64 :=
  Lib.tabIs_of_head (rest := []) gTab64 gTab64Type Tryd.underlying176 Tryd.underlying5 cellsU8 cellsTab64 h

theorem bothSome_contract (H : Type) (enc : TypeId × Value → H) (W : World) (base : Nat) (args : Array Value) (ds gs : List (DataW H)) (before : List MemPlace)
    (hval : ∀ (j : Nat) t v, Tryd.f4.params[j]? = some t → args[j]? = some v → Value.okWide Tryd.prog W .any base t v)
    (hW : DataW.Whole enc Tryd.prog Tryd.f4.params.toList Rows.bothSomeSpec.vars false W args.toList ds gs before) (hL : laidMetH Tryd.prog Rows.bothSomeRow.laid W) :
    Calls Tryd.prog 4 args W fun e W' => ∃ v, e = .returned v ∧ Rows.bothSomeSpec.post enc Tryd.prog Tryd.f4 false true false false W args v W' := by
  have hW' := hW
  obtain ⟨p, q, hA0, hV, rfl, hfz, hnd⟩ := hW
  have hA : DataW.TrodAll enc Tryd.prog W 0 (fun _ => true) true Tryd.f4.params.toList args.toList ds p := hA0
  rw [Tryd.params4] at hA hval
  obtain ⟨v0, v1, d0, d1, p0, p1, rfl, rfl, rfl, h0, h1⟩ := trodAll_two hA
  obtain ⟨rfl, rfl⟩ := trodVars_none hV
  have h0k := h0
  have h1k := h1
  obtain ⟨A, hAut⟩ := auto_of_trod (hval 0 26 _ rfl rfl) h0
  obtain ⟨hv, lv, hs, ls, rfl, i0, i1⟩ := lasso_of_trod (hval 1 28 _ rfl rfl) h1
  clear hA0 hA
  simp only [List.append_nil] at hW' hfz
  have hlt0 : ∀ x ∈ p0, x.block < W.heap.size := fun x hx => by simpa using hW'.lt x (List.mem_append_left _ hx)
  have hlt1 : ∀ x ∈ p1, x.block < W.heap.size := fun x hx => by simpa using hW'.lt x (List.mem_append_right _ hx)
  refine (bothSome_any hAut i0 i1 (tab_of_is (bothSome_table hL))).mono fun e W' ⟨he, hb⟩ => ?_
  subst he
  exact ⟨_, rfl, _, _, _, [], _, [], hW', trodAll_mk1 (shut_bool Tryd.underlying4 _), trodAll_mk2 (Below.trod laidOut (by kernel_rfl) (of_decide_eq_true (by kernel_rfl)) h0k hb hlt0) (Below.trod laidOut (by kernel_rfl) (of_decide_eq_true (by kernel_rfl)) h1k hb hlt1), rfl, hb.frame _, fun h => by cases h⟩

def bothSome_args : Array Value := #[.agg #[.int .i64 0, .int .i64 0, .slice .none 0 0, .slice .none 0 0, .slice .none 0 0], .agg #[.slice .none 0 0, .slice .none 0 0]]

theorem bothSome_met (os : Os) : laidMet Tryd.prog Rows.bothSomeRow.laid ((layTab64 (World.holding Tryd.prog os ⟨#[], #[], []⟩)).forCall (fun _ _ => 0) ⟨#[], bothSome_args, []⟩).memory :=
  laidMet_of_run' 8 (by kernel_rfl) (by kernel_rfl)

theorem bothSome_reads (os : Os) {H : Type} (enc : TypeId × Value → H) : ∃ places, DataW.whole enc Tryd.prog ((layTab64 (World.holding Tryd.prog os ⟨#[], #[], []⟩)).forCall (fun _ _ => 0) ⟨#[], bothSome_args, []⟩).memory Tryd.f4.params.toList Rows.bothSomeSpec.vars false bothSome_args.toList 8 = some ([.agg [.lit (.int .i64 0), .lit (.int .i64 0), .nil, .nil, .nil], .agg [.nil, .nil]], [], places) :=
  ⟨[], by kernel_rfl⟩

theorem bothSome_lifted (os : Os) (started : os.Started) (H : Type) (enc : TypeId × Value → H) (F : Stop.Interp) :
    ReturnsInHanded {} Tryd.checked os 4 .any ((OpenSpec.ofChange Rows.bothSomeSpec).preRow enc Tryd.prog Tryd.f4 Rows.bothSomeRow.domain false Rows.bothSomeRow.laid) (((OpenSpec.ofChange Rows.bothSomeSpec).at F).post enc Tryd.prog Tryd.f4 false true false false) := by
  obtain ⟨places, hx⟩ := bothSome_reads os enc
  refine returnsInHanded_of_row (C := Tryd.checked) (s := OpenSpec.ofChange Rows.bothSomeSpec) own started (by kernel_rfl) Tryd.func4
    (witness_row_at (enc := enc) (C := Tryd.checked) false (layTab64 (World.holding Tryd.prog os ⟨#[], #[], []⟩)) bothSome_args rfl (by kernel_rfl) (by kernel_rfl) (by kernel_rfl)
      (OpenSpec.preRow_of_cond 8 hx (by kernel_rfl) (fun k hk => by cases hk) (by kernel_rfl) (bothSome_met os))) ?_
  intro W base args ds gs before hval hW _ _ _ hL _ _
  exact bothSome_contract H enc W base args ds gs before hval hW hL

theorem bothSome_said : Rows.BothSomeSaid :=
  OpenClaim.holds_of_cond 4 Tryd.f4 rfl rfl rfl rfl rfl rfl rfl ⟨rfl, rfl, rfl, rfl, rfl⟩ rfl rfl rfl rfl rfl (by kernel_rfl) Tryd.func4 (by kernel_rfl)
    (of_decide_eq_true (by kernel_rfl)) (by unfold Func.isWrapper; first | (rw [if_pos (by decide +kernel)]; kernel_rfl) | (rw [if_neg (by decide +kernel)]; exact ⟨rfl, rfl⟩))
    (fun os started H enc _ F => by rw [OpenClaim.pre_eq_preRow]; exact bothSome_lifted os started H enc F)

theorem bothSome_plain (f : FuncId) (fn : Func) (hf : Tryd.pinned.checked.prog.funcNamed "lassowork/lassoworklaw.BothSome" = some f) (hfn : Tryd.pinned.checked.prog.funcs[f]? = some fn) :
    false = Tryd.pinned.checked.prog.looks [] ∧ ∀ (j : Nat) t, fn.params[j]? = some t → Tryd.pinned.checked.prog.wantsStandIn t = false := by
  obtain rfl : f = 4 := Option.some.inj ((show Tryd.prog.funcNamed "lassowork/lassoworklaw.BothSome" = some 4 by kernel_rfl).symm.trans hf) |>.symm
  obtain rfl : fn = Tryd.f4 := (Option.some.inj (Tryd.func4.symm.trans hfn)).symm
  refine ⟨by kernel_rfl, fun j t ht => ?_⟩
  rw [Tryd.params4] at ht
  have hm := Array.mem_of_getElem? ht
  simp only [List.mem_toArray, List.mem_cons, List.not_mem_nil, or_false] at hm
  rcases hm with rfl | rfl
  · exact (show Tryd.prog.wantsStandIn 26 = false by kernel_rfl)
  · exact (show Tryd.prog.wantsStandIn 28 = false by kernel_rfl)

theorem bothSome_card : Rows.BothSomeCardSaid :=
  Claim7.holds_tied_plain_at .later [] _ _ _ _ bothSome_said (fun _ h => by cases h) (by kernel_rfl) (fun _ h => by cases h) bothSome_row_tie rfl ⟨rfl, rfl⟩ (by kernel_rfl) rfl bothSome_plain (by kernel_rfl)
end Go.Proofs.YtpiacnnifdjlkabDoor
