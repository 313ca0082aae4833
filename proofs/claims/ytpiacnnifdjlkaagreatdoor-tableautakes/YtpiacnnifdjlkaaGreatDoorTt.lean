/- TableauTakes holds: whatever formula and lasso are handed in, the automaton that Translate of package tableau makes of the formula takes the lasso just if the formula holds of it, and its errors are what the document says; the table deBruijn64tab of math/bits is as the program's text lays it. -/
import Derived.Test.YtpiacnnifdjlkaaGreatDoorTq
import Derived.Test.YtpiacnnifdjlkaaGreatDoorTe
import Derived.Test.YtpiacnnifdjlkaaGreatDoorCn
import Derived.WalkKit
import Derived.ProofKit
import Derived.OpenShut
import Derived.Carry
import Derived.Deep.DeepHandedRow
import Derived.Lib.SmallJoins
import Derived.Deep.Grids
import Derived.Deep.Strs
/-
  What must be in any case: holdsBegun is true.
-/
namespace Go.Proofs.YtpiacnnifdjlkaaGreatDoor
open Go.RowKit Go.Sort

def untilF : List Nd := [⟨2, 0, 0, 0⟩, ⟨2, 0, 0, 1⟩, ⟨7, 0, 1, 0⟩]

set_option maxHeartbeats 1000000 in
theorem until_any (w : World) :
    Calls Tryz.prog 20 #[] w fun e w' => ∃ g, e = .returned (.slice (some ⟨g, 0, none⟩) 3 3) ∧ NodeSl w' (.slice (some ⟨g, 0, none⟩) 3 3) untilF ∧ Below w.heap.size w w' := by
  go_enter Tryz.func20, Tryz.ntmps20
  go_wp2_with (fail)
  go_ret
  refine ⟨w.heap.size, rfl, ⟨_, _, rfl, by decide, Or.inr ⟨w.heap.size, 0, rfl, fun i hi => ?_⟩, (fun h => by cases h), by decide⟩, (by repeat (first | exact Below.refl _ _ | assumption | refine below_drewN ?_ _ | refine Below.drew ?_ | refine Below.alloc ?_ (by simp <;> omega) _ | refine below_trans ?_ (by assumption)))⟩
  have hb := heap_alloc_new w (Obj.cells #[.int .i64 2, .int .i64 0, .int .i64 0, .int .i64 0, .int .i64 2, .int .i64 0, .int .i64 0, .int .i64 1, .int .i64 7, .int .i64 0, .int .i64 1, .int .i64 0] 54)
  have h3 : i = 0 ∨ i = 1 ∨ i = 2 := by simp [untilF] at hi; omega
  rcases h3 with rfl | rfl | rfl
  · exact ⟨cell_of_row _ _ 0 _ _ _ hb, cell_of_row _ _ 1 _ _ _ hb, cell_of_row _ _ 2 _ _ _ hb, cell_of_row _ _ 3 _ _ _ hb⟩
  · exact ⟨cell_of_row _ _ 4 _ _ _ hb, cell_of_row _ _ 5 _ _ _ hb, cell_of_row _ _ 6 _ _ _ hb, cell_of_row _ _ 7 _ _ _ hb⟩
  · exact ⟨cell_of_row _ _ 8 _ _ _ hb, cell_of_row _ _ 9 _ _ _ hb, cell_of_row _ _ 10 _ _ _ hb, cell_of_row _ _ 11 _ _ _ hb⟩

theorem untilChk : chkT untilF [1, 2] [0] = 0 := by decide +kernel
theorem untilTab : tabF untilF [1, 2] [0] = [[true, false, false], [false, true, false], [true, true, false]] := by decide +kernel

theorem ints_cells {w : World} {g : Nat} {zs : List Int} (h : w.heap[g]? = some (.cells (zs.map (Value.int .i64)).toArray 3)) (hl : zs.length ≤ 100) : IntSl w (.slice (some ⟨g, 0, none⟩) zs.length zs.length) zs :=
  ⟨_, _, rfl, by unfold maxLen; omega, Or.inr ⟨g, 0, rfl, fun i hi => by rw [Nat.zero_add, cell_of_row w g i _ _ _ h]; simp [List.getD, hi]⟩, (fun h => by cases h), Nat.le_refl _⟩

/-- The rows of a table, all as long. -/
theorem GridSl.rows {w : World} {v : Value} {T : List (List Bool)} {N : Nat} (h : GridSl w v T) (hT : 0 < T.length) (hN : 0 < N) (hl : ∀ j, j < T.length → (T.getD j []).length = N) :
    ∃ R c, v = .slice (some ⟨R, 0, none⟩) T.length c ∧ ∀ j, j < T.length → ∃ b o c', w.cell? ⟨R, j, none⟩ = some (.slice (some ⟨b, o, none⟩) N c') ∧ ∀ p, p < N → w.cell? ⟨b, o + p, none⟩ = some (.bool ((T.getD j []).getD p false)) := by
  obtain ⟨ad, c, rfl, hm, hg⟩ := h
  rcases hg with hg | ⟨R, rfl, hc⟩
  · subst hg; simp at hT
  · refine ⟨R, c, rfl, fun j hj => ?_⟩
    obtain ⟨a, n, c', h1, h2⟩ := hc j hj
    have hlen := hl j hj
    obtain ⟨a', cap, he, _, hz, _⟩ := h2
    injection he with e1 e2 e3
    rcases hz with hz | ⟨b, o, e4, hcell⟩
    · rw [hz] at hlen; simp at hlen; omega
    · refine ⟨b, o, c', ?_, fun p hpp => hcell p (by omega)⟩
      rw [h1, e1, e4, e2, hlen]

set_option maxRecDepth 100000 in
set_option maxHeartbeats 4000000 in
theorem holdsBegun_any (w : World) :
    Calls Tryz.prog 7 #[] w fun e w' => e = .returned (.bool true) ∧ Below w.heap.size w w' := by
  have HH : Hid (∀ (W : World) (g h l : Nat), NodeSl W (.slice (some ⟨g, 0, none⟩) 3 3) untilF → W.heap[h]? = some (Obj.cells #[.int .i64 1, .int .i64 2] 3) → W.heap[l]? = some (Obj.cells #[.int .i64 0] 3) → Calls Tryz.prog 9 #[.slice (some ⟨g, 0, none⟩) 3 3, .agg #[.slice (some ⟨h, 0, none⟩) 2 2, .slice (some ⟨l, 0, none⟩) 1 1]] W fun e w' => e = .returned (.tuple #[.bool true, .int .i64 0]) ∧ Below W.heap.size W w') := by
    refine hide fun W g h l hn hh hl => ?_
    refine (holds_any (hs := [1, 2]) (ls := [0]) hn (ints_cells (zs := [1, 2]) hh (by decide)) (ints_cells (zs := [0]) hl (by decide))).mono ?_
    rintro e w' ⟨rfl, hb⟩
    rw [untilChk, untilTab]
    exact ⟨rfl, hb⟩
  have HT : Hid (∀ (W : World) (g h l : Nat), NodeSl W (.slice (some ⟨g, 0, none⟩) 3 3) untilF → W.heap[h]? = some (Obj.cells #[.int .i64 1, .int .i64 2] 3) → W.heap[l]? = some (Obj.cells #[.int .i64 0] 3) → Calls Tryz.prog 21 #[.slice (some ⟨g, 0, none⟩) 3 3, .agg #[.slice (some ⟨h, 0, none⟩) 2 2, .slice (some ⟨l, 0, none⟩) 1 1]] W fun e w' => ∃ R c b o c', e = .returned (.tuple #[.slice (some ⟨R, 0, none⟩) 3 c, .int .i64 0]) ∧ w'.cell? ⟨R, 2, none⟩ = some (.slice (some ⟨b, o, none⟩) 3 c') ∧ w'.cell? ⟨b, o, none⟩ = some (.bool true) ∧ w'.cell? ⟨b, o + 1, none⟩ = some (.bool true) ∧ w'.cell? ⟨b, o + 2, none⟩ = some (.bool false) ∧ Below W.heap.size W w') := by
    refine hide fun W g h l hn hh hl => ?_
    refine (table_any (hs := [1, 2]) (ls := [0]) hn (ints_cells (zs := [1, 2]) hh (by decide)) (ints_cells (zs := [0]) hl (by decide))).mono ?_
    rintro e w' ⟨v, rfl, hg, -, hb⟩
    rw [untilChk]
    have hg' := hg untilChk
    rw [untilTab] at hg'
    obtain ⟨R, c, rfl, hr⟩ := hg'.rows (N := 3) (by decide) (by decide) (by decide)
    obtain ⟨b, o, c', h1, h2⟩ := hr 2 (by decide)
    exact ⟨R, c, b, o, c', rfl, h1, h2 0 (by decide), h2 1 (by decide), h2 2 (by decide), hb⟩
  go_enter Tryz.func7, Tryz.ntmps7
  go_wp2_with (fail)
  obtain ⟨W0, hW0⟩ : ∃ W0, W0 = ((w.alloc (Obj.cells #[.int .i64 1, .int .i64 2] 3)).alloc (Obj.cells #[.int .i64 0] 3)).alloc (Obj.cells #[.slice (some ⟨w.heap.size, 0, none⟩) 2 2, .slice (some ⟨w.heap.size + 1, 0, none⟩) 1 1] 26) := ⟨_, rfl⟩
  have hbW : Below w.heap.size w W0 := by rw [hW0]; exact (by repeat (first | exact Below.refl _ _ | assumption | refine below_drewN ?_ _ | refine Below.drew ?_ | refine Below.alloc ?_ (by simp <;> omega) _ | refine below_trans ?_ (by assumption)))
  have x0 := heap_alloc_new w (Obj.cells #[.int .i64 1, .int .i64 2] 3)
  have x1 := heap_alloc_new (w.alloc (Obj.cells #[.int .i64 1, .int .i64 2] 3)) (Obj.cells #[.int .i64 0] 3)
  have x2 := heap_alloc_new ((w.alloc (Obj.cells #[.int .i64 1, .int .i64 2] 3)).alloc (Obj.cells #[.int .i64 0] 3)) (Obj.cells #[.slice (some ⟨w.heap.size, 0, none⟩) 2 2, .slice (some ⟨w.heap.size + 1, 0, none⟩) 1 1] 26)
  simp only [World.size_alloc] at x1 x2
  have x0 := heap_under (Obj.cells #[.slice (some ⟨w.heap.size, 0, none⟩) 2 2, .slice (some ⟨w.heap.size + 1, 0, none⟩) 1 1] 26) (heap_under (Obj.cells #[.int .i64 0] 3) x0)
  have x1 := heap_under (Obj.cells #[.slice (some ⟨w.heap.size, 0, none⟩) 2 2, .slice (some ⟨w.heap.size + 1, 0, none⟩) 1 1] 26) x1
  rw [← hW0] at x0 x1 x2 ⊢
  clear hW0
  have HB0 := hide hbW
  clear hbW
  generalize w.heap.size + 1 + 1 = P at *
  generalize w.heap.size + 1 = B at *
  generalize hA : w.heap.size = A at *
  have HA := hide hA
  clear hA
  have d0 : Hid (W0.heap[A]? = some (Obj.cells #[.int .i64 1, .int .i64 2] 3) ∧ W0.heap[B]? = some (Obj.cells #[.int .i64 0] 3)) := hide ⟨x0, x1⟩
  have s0 : W0.cell? ⟨P, 0, none⟩ = some (.slice (some ⟨A, 0, none⟩) 2 2) ∧ W0.cell? ⟨P, 1, none⟩ = some (.slice (some ⟨B, 0, none⟩) 1 1) := ⟨cell_of_row _ _ 0 _ _ _ x2, cell_of_row _ _ 1 _ _ _ x2⟩
  clear x0 x1 x2
  go_region_held3 (fun w' => w'.cell? ⟨P, 0, none⟩ = some (.slice (some ⟨A, 0, none⟩) 2 2) ∧ w'.cell? ⟨P, 1, none⟩ = some (.slice (some ⟨B, 0, none⟩) 1 1)) ((first | (with_reducible exact sw3) | (with_reducible exact sw2) | (with_reducible exact s0) | (exact s0))) (first | (go_at_call 20; refine (until_any _).mono ?_; rintro e w2 ⟨g2, rfl, hnw2, hbw2⟩; have dw2 : Hid (w2.heap[A]? = some (Obj.cells #[.int .i64 1, .int .i64 2] 3) ∧ w2.heap[B]? = some (Obj.cells #[.int .i64 0] 3)) := hide ⟨block_keep (heap_drew d0.out.1) hbw2, block_keep (heap_drew d0.out.2) hbw2⟩; have sw2 : w2.cell? ⟨P, 0, none⟩ = some (.slice (some ⟨A, 0, none⟩) 2 2) ∧ w2.cell? ⟨P, 1, none⟩ = some (.slice (some ⟨B, 0, none⟩) 1 1) := ⟨cell_keep (cell_drew s0.1) hbw2, cell_keep (cell_drew s0.2) hbw2⟩) | (go_at_call 9; refine (HH.out _ _ _ _ hnw2 dw2.out.1 dw2.out.2).mono ?_; rintro e w3 ⟨rfl, hbw3⟩; have dw3 : Hid (w3.heap[A]? = some (Obj.cells #[.int .i64 1, .int .i64 2] 3) ∧ w3.heap[B]? = some (Obj.cells #[.int .i64 0] 3)) := hide ⟨block_keep dw2.out.1 hbw3, block_keep dw2.out.2 hbw3⟩; have sw3 : w3.cell? ⟨P, 0, none⟩ = some (.slice (some ⟨A, 0, none⟩) 2 2) ∧ w3.cell? ⟨P, 1, none⟩ = some (.slice (some ⟨B, 0, none⟩) 1 1) := ⟨cell_keep sw2.1 hbw3, cell_keep sw2.2 hbw3⟩))
  have hb0 : Below w.heap.size w W0 := by rw [HA.out]; exact HB0.out
  have hB3 := below_trans hb0 (below_trans (below_trans (below_drawn W0 1) hbw2) hbw3)
  have HB3 := hide hB3
  clear hB3 hb0 hbw2 hbw3 hnw2 sw2 dw2 s0 d0
  go_wp2_with (fail)
  go_region_held3 (fun w' => w'.cell? ⟨P, 0, none⟩ = some (.slice (some ⟨A, 0, none⟩) 2 2) ∧ w'.cell? ⟨P, 1, none⟩ = some (.slice (some ⟨B, 0, none⟩) 1 1)) ((first | (with_reducible exact sw5) | (with_reducible exact sw4) | (with_reducible exact sw3) | (exact sw3))) (first | (go_at_call 20; refine (until_any _).mono ?_; rintro e w4 ⟨g4, rfl, hnw4, hbw4⟩; have dw4 : Hid (w4.heap[A]? = some (Obj.cells #[.int .i64 1, .int .i64 2] 3) ∧ w4.heap[B]? = some (Obj.cells #[.int .i64 0] 3)) := hide ⟨block_keep (heap_drew dw3.out.1) hbw4, block_keep (heap_drew dw3.out.2) hbw4⟩; have sw4 : w4.cell? ⟨P, 0, none⟩ = some (.slice (some ⟨A, 0, none⟩) 2 2) ∧ w4.cell? ⟨P, 1, none⟩ = some (.slice (some ⟨B, 0, none⟩) 1 1) := ⟨cell_keep (cell_drew sw3.1) hbw4, cell_keep (cell_drew sw3.2) hbw4⟩) | (go_at_call 21; refine (HT.out _ _ _ _ hnw4 dw4.out.1 dw4.out.2).mono ?_; rintro e w5 ⟨R, tc, rb, ro, rc, rfl, z0, z1, z2, z3, hbw5⟩; have dw5 : Hid (w5.heap[A]? = some (Obj.cells #[.int .i64 1, .int .i64 2] 3) ∧ w5.heap[B]? = some (Obj.cells #[.int .i64 0] 3)) := hide ⟨block_keep dw4.out.1 hbw5, block_keep dw4.out.2 hbw5⟩; have sw5 : w5.cell? ⟨P, 0, none⟩ = some (.slice (some ⟨A, 0, none⟩) 2 2) ∧ w5.cell? ⟨P, 1, none⟩ = some (.slice (some ⟨B, 0, none⟩) 1 1) := ⟨cell_keep sw4.1 hbw5, cell_keep sw4.2 hbw5⟩))
  have hB5 := below_trans HB3.out (below_trans (below_trans (below_drawn w3 1) hbw4) hbw5)
  clear hbw4 hbw5 hnw4 sw4 dw4 sw3 dw3
  go_wp2_with (fail)
  go_ret
  exact ⟨rfl, hB5⟩
end Go.Proofs.YtpiacnnifdjlkaaGreatDoor

/-
  What tableauBegun answers.
-/
namespace Go.Proofs.YtpiacnnifdjlkaaGreatDoor
open Go.RowKit Go.Sort

theorem untilF_ok : chkF untilF = 0 := by decide

set_option maxRecDepth 100000 in
set_option maxHeartbeats 4000000 in
theorem tableauBegun_any (w : World) (ht : Tab w) :
    Calls Tryz.prog 6 #[] w fun e w' => e = .returned (.bool true) ∧ Below w.heap.size w w' := by
  have HT := hide ht
  clear ht
  go_enter Tryz.func6, Tryz.ntmps6
  go_wp2_with (fail)
  go_fit (until_any _)
  rintro e w1 ⟨g, rfl, hn, hb1⟩
  have HN := hide hn
  have HB1 := hide hb1
  clear hn hb1
  go_wp2_with (fail)
  go_fit (translate_any HN.out)
  rintro e w2 ⟨v, rfl, hT⟩
  obtain ⟨met, A, hof, hAm, h81, hso, hnd, hAO⟩ := hT.good untilF_ok
  obtain ⟨fv', gv', sv', rfl, o1, o2, o3⟩ := id hAO
  obtain ⟨a1, c1, rfl⟩ := owns_form o1
  obtain ⟨a2, c2, rfl⟩ := owns_form o2
  obtain ⟨a3, c3, rfl⟩ := owns_form o3
  have HM := hide (And.intro hof (And.intro hAm (And.intro h81 (And.intro hso hnd))))
  have HA := hide hAO.aut
  have HB2 := hide (below_trans HB1.out hT.bl)
  rw [untilF_ok]
  clear o1 o2 o3 hAO hof hAm h81 hso hnd hT
  go_wp2_with (fail)
  have hx1 := one_new w2 (Obj.cells #[.int .i64 A.n, .int .i64 A.m, .slice a1 A.first.length c1, .slice a2 A.good.length c2, .slice a3 A.steps.length c3] 30)
  have hx2 := one_new (w2.alloc (Obj.cells #[.int .i64 A.n, .int .i64 A.m, .slice a1 A.first.length c1, .slice a2 A.good.length c2, .slice a3 A.steps.length c3] 30)) (Obj.cells #[Value.int .i64 1, .int .i64 2] 3)
  have hx3 := one_new ((w2.alloc (Obj.cells #[.int .i64 A.n, .int .i64 A.m, .slice a1 A.first.length c1, .slice a2 A.good.length c2, .slice a3 A.steps.length c3] 30)).alloc (Obj.cells #[Value.int .i64 1, .int .i64 2] 3)) (Obj.cells #[Value.int .i64 0] 3)
  have hb21 := below_new w2 (Obj.cells #[.int .i64 A.n, .int .i64 A.m, .slice a1 A.first.length c1, .slice a2 A.good.length c2, .slice a3 A.steps.length c3] 30)
  have hb22 := below_new (w2.alloc (Obj.cells #[.int .i64 A.n, .int .i64 A.m, .slice a1 A.first.length c1, .slice a2 A.good.length c2, .slice a3 A.steps.length c3] 30)) (Obj.cells #[Value.int .i64 1, .int .i64 2] 3)
  have hb23 := below_new ((w2.alloc (Obj.cells #[.int .i64 A.n, .int .i64 A.m, .slice a1 A.first.length c1, .slice a2 A.good.length c2, .slice a3 A.steps.length c3] 30)).alloc (Obj.cells #[Value.int .i64 1, .int .i64 2] 3)) (Obj.cells #[Value.int .i64 0] 3)
  have hx1' := belowRow hb23 (belowRow hb22 hx1)
  have hx2' := belowRow hb23 hx2
  rw [show (w2.alloc (Obj.cells #[.int .i64 A.n, .int .i64 A.m, .slice a1 A.first.length c1, .slice a2 A.good.length c2, .slice a3 A.steps.length c3] 30)).heap.size = w2.heap.size + 1 by simp] at hx2'
  rw [show ((w2.alloc (Obj.cells #[.int .i64 A.n, .int .i64 A.m, .slice a1 A.first.length c1, .slice a2 A.good.length c2, .slice a3 A.steps.length c3] 30)).alloc (Obj.cells #[Value.int .i64 1, .int .i64 2] 3)).heap.size = w2.heap.size + 1 + 1 by simp] at hx3
  have hb3 := below_trans (below_trans hb21 hb22) hb23
  obtain ⟨w3, hw3⟩ : ∃ w3, w3 = ((w2.alloc (Obj.cells #[.int .i64 A.n, .int .i64 A.m, .slice a1 A.first.length c1, .slice a2 A.good.length c2, .slice a3 A.steps.length c3] 30)).alloc (Obj.cells #[Value.int .i64 1, .int .i64 2] 3)).alloc (Obj.cells #[Value.int .i64 0] 3) := ⟨_, rfl⟩
  rw [← hw3] at hx1' hx2' hx3 hb3 ⊢
  clear hw3 hx1 hx2 hb21 hb22 hb23
  have HB3 := hide (below_trans HB2.out hb3)
  have HA3 := hide (HA.out.below hb3)
  have HI1 := hide (ints_cells (zs := [1, 2]) hx2' (by decide))
  have HI2 := hide (ints_cells (zs := [0]) hx3 (by decide))
  have HX := hide hx1'
  clear hx1' hx2' hx3 hb3
  go_fit (takes_table untilF_ok HM.out.1 HM.out.2.1 HM.out.2.2.1 HM.out.2.2.2.1 HM.out.2.2.2.2 HA3.out HI1.out HI2.out (HT.out.below HB3.out))
  rintro e w4 ⟨rfl, hb4⟩
  rw [show holdB untilF [1, 2] [0] = true by decide, show chk [1, 2] [0] 8 = 0 by decide]
  have hx4 := belowRow hb4 HX.out
  have x0 := cell_of_row _ _ 0 _ _ _ hx4
  have x1 := cell_of_row _ _ 1 _ _ _ hx4
  have x2 := cell_of_row _ _ 2 _ _ _ hx4
  have x3 := cell_of_row _ _ 3 _ _ _ hx4
  have x4 := cell_of_row _ _ 4 _ _ _ hx4
  have HB4 := hide (below_trans HB3.out hb4)
  have HA4 := hide (HA3.out.below hb4)
  clear hb4 hx4
  go_wp2_with (fail)
  have hb5 := below_new w4 (Obj.cells #[Value.int .i64 1] 3)
  have hx5 := one_new w4 (Obj.cells #[Value.int .i64 1] 3)
  go_fit (takes_table untilF_ok HM.out.1 HM.out.2.1 HM.out.2.2.1 HM.out.2.2.2.1 HM.out.2.2.2.2 (HA4.out.below hb5) (intSl_nil _) (ints_cells (zs := [1]) hx5 (by decide)) (HT.out.below (below_trans HB4.out hb5)))
  rintro e w6 ⟨rfl, hb6⟩
  rw [show holdB untilF [] [1] = false by decide, show chk [] [1] 8 = 0 by decide]
  have HB6 := hide (below_trans (below_trans HB4.out hb5) hb6)
  clear hb6 hb5 hx5 x0 x1 x2 x3 x4
  go_wp2
  go_ret
  exact ⟨rfl, HB6.out⟩

end Go.Proofs.YtpiacnnifdjlkaaGreatDoor

/-
  The walk of TableauTakes: it says true.
-/
namespace Go.Proofs.YtpiacnnifdjlkaaGreatDoor
open Go.RowKit Go.Sort

set_option maxRecDepth 100000 in
set_option maxHeartbeats 4000000 in
theorem tableauTakes_any {w : World} {fv hv lv : Value} {F : List Nd} {hs ls : List Int} (hF : NodeSl w fv F) (hh : IntSl w hv hs) (hl : IntSl w lv ls) (ht : Tab w) :
    Calls Tryz.prog 3 #[fv, .agg #[hv, lv]] w fun e w' => e = .returned (.bool true) ∧ Below w.heap.size w w' := by
  have HF := hide hF
  have HH := hide hh
  have HL := hide hl
  have HT := hide ht
  obtain ⟨fa, fc, rfl, -⟩ := hF
  obtain ⟨ha, hc, rfl, -⟩ := hh
  obtain ⟨la, lc, rfl, -⟩ := hl
  clear ht
  have hb0 := below_new w (Obj.cells #[.slice ha hs.length hc, .slice la ls.length lc] 26)
  have ho0 := one_new w (Obj.cells #[.slice ha hs.length hc, .slice la ls.length lc] 26)
  have HB0 := hide hb0
  have HO0 := hide ho0
  clear hb0 ho0
  go_enter Tryz.func3, Tryz.ntmps3
  go_wp2_with (fail)
  go_fit (translate_any (HF.out.below HB0.out))
  rintro e w2 ⟨v, rfl, hT⟩
  have HB2 := hide (below_trans HB0.out hT.bl)
  have HO2 := hide (belowRow hT.bl HO0.out)
  by_cases hcF : chkF F = 0
  · obtain ⟨met, A, hof, hAm, h81, hso, hnd, hAO⟩ := hT.good hcF
    obtain ⟨fv', gv', sv', rfl, o1, o2, o3⟩ := id hAO
    obtain ⟨a1, c1, rfl⟩ := owns_form o1
    obtain ⟨a2, c2, rfl⟩ := owns_form o2
    obtain ⟨a3, c3, rfl⟩ := owns_form o3
    have HM := hide (And.intro hof (And.intro hAm (And.intro h81 (And.intro hso hnd))))
    have HA := hide hAO.aut
    have HC := hide hcF
    clear o1 o2 o3 hAO hof hAm h81 hso hnd hT hcF
    have hb3 := below_new w2 (Obj.cells #[.int .i64 A.n, .int .i64 A.m, .slice a1 A.first.length c1, .slice a2 A.good.length c2, .slice a3 A.steps.length c3] 30)
    have ho3 := one_new w2 (Obj.cells #[.int .i64 A.n, .int .i64 A.m, .slice a1 A.first.length c1, .slice a2 A.good.length c2, .slice a3 A.steps.length c3] 30)
    rw [HC.out]
    go_wp2_with (fail)
    go_fit (checkFormula_any (HF.out.below (below_trans HB2.out hb3)))
    rintro e w4 ⟨rfl, hb4⟩
    rw [HC.out]
    have HB4 := hide (below_trans (below_trans HB2.out hb3) hb4)
    have HX4 := hide (belowRow hb4 ho3)
    have HO4 := hide (belowRow hb4 (belowRow hb3 HO2.out))
    have HA4 := hide (HA.out.below (below_trans hb3 hb4))
    clear hb3 ho3 hb4
    go_wp2_with (fail)
    go_fit (tableauBegun_any _ (HT.out.below HB4.out))
    rintro e w5 ⟨rfl, hb5⟩
    have HB5 := hide (below_trans HB4.out hb5)
    have HX5 := hide (belowRow hb5 HX4.out)
    have HO5 := hide (belowRow hb5 HO4.out)
    have HA5 := hide (HA4.out.below hb5)
    clear hb5
    go_wp2_with (fail)
    go_fit (holdsBegun_any _)
    rintro e w6 ⟨rfl, hb6⟩
    have HB6 := hide (below_trans HB5.out hb6)
    have HX6 := hide (belowRow hb6 HX5.out)
    have HO6 := hide (belowRow hb6 HO5.out)
    have HA6 := hide (HA5.out.below hb6)
    have x0 := cell_of_row _ _ 0 _ _ _ HX6.out
    have x1 := cell_of_row _ _ 1 _ _ _ HX6.out
    have x2 := cell_of_row _ _ 2 _ _ _ HX6.out
    have x3 := cell_of_row _ _ 3 _ _ _ HX6.out
    have x4 := cell_of_row _ _ 4 _ _ _ HX6.out
    clear hb6
    go_wp2_with (fail)
    go_fit (checkAutoR_any HA6.out)
    rintro e w7 ⟨rfl, hb7⟩
    rw [chkA_nodes (cnt_of HC.out) HM.out.1 HM.out.2.1 HM.out.2.2.1 HM.out.2.2.2.1 (HM.out.2.2.2.2 (afterT_nodup F))]
    have HB7 := hide (below_trans HB6.out hb7)
    have hx7 := belowRow hb7 HX6.out
    have HX7 := hide hx7
    have HO7 := hide (belowRow hb7 HO6.out)
    have HA7 := hide (HA6.out.below hb7)
    clear x0 x1 x2 x3 x4 hb7
    have x0 := cell_of_row _ _ 0 _ _ _ hx7
    have x1 := cell_of_row _ _ 1 _ _ _ hx7
    rw [HM.out.2.1] at x1
    have y0 := cell_of_row _ _ 0 _ _ _ HO7.out
    have y1 := cell_of_row _ _ 1 _ _ _ HO7.out
    clear hx7
    go_wp2_with (fail)
    go_fit (holds_any (HF.out.below HB7.out) (HH.out.below HB7.out) (HL.out.below HB7.out))
    rintro e w8 ⟨rfl, hb8⟩
    have hck : chkT F hs ls = chk hs ls 8 := by unfold chkT; rw [if_pos HC.out]
    rw [hck]
    have hhb : (if chk hs ls 8 = 0 then ((tabF F hs ls).getD (F.length - 1) []).getD 0 false else false) = holdB F hs ls := rfl
    rw [hhb]
    have HB8 := hide (below_trans HB7.out hb8)
    have hx8 := belowRow hb8 HX7.out
    have ho8 := belowRow hb8 HO7.out
    have HA8 := hide (HA7.out.below hb8)
    clear x0 x1 y0 y1 hb8 hck hhb
    have x0 := cell_of_row _ _ 0 _ _ _ hx8
    have x1 := cell_of_row _ _ 1 _ _ _ hx8
    have x2 := cell_of_row _ _ 2 _ _ _ hx8
    have x3 := cell_of_row _ _ 3 _ _ _ hx8
    have x4 := cell_of_row _ _ 4 _ _ _ hx8
    have y0 := cell_of_row _ _ 0 _ _ _ ho8
    have y1 := cell_of_row _ _ 1 _ _ _ ho8
    clear hx8 ho8
    go_wp2_with (fail)
    go_fit (takes_table HC.out HM.out.1 HM.out.2.1 HM.out.2.2.1 HM.out.2.2.2.1 HM.out.2.2.2.2 HA8.out (HH.out.below HB8.out) (HL.out.below HB8.out) (HT.out.below HB8.out))
    rintro e w9 ⟨rfl, hb9⟩
    have HB9 := hide (below_trans HB8.out hb9)
    clear x0 x1 x2 x3 x4 y0 y1 hb9
    generalize holdB F hs ls = bb
    generalize chk hs ls 8 = cc
    have hcc : (cc == cc) = true := by simp
    have hbb : (bb == bb) = true := by simp
    go_wp2
    go_ret
    exact ⟨rfl, HB9.out⟩
  · have hv0 := hT.bad hcF
    subst hv0
    have HC := hide hcF
    clear hT hcF
    have hb3 := below_new w2 (Obj.cells #[.int .i64 0, .int .i64 0, .slice none 0 0, .slice none 0 0, .slice none 0 0] 30)
    have ho3 := one_new w2 (Obj.cells #[.int .i64 0, .int .i64 0, .slice none 0 0, .slice none 0 0, .slice none 0 0] 30)
    go_wp2_with (fail)
    go_fit (checkFormula_any (HF.out.below (below_trans HB2.out hb3)))
    rintro e w4 ⟨rfl, hb4⟩
    have HB4 := hide (below_trans (below_trans HB2.out hb3) hb4)
    have HX4 := hide (belowRow hb4 ho3)
    clear hb3 ho3 hb4
    go_wp2_with (fail)
    go_fit (tableauBegun_any _ (HT.out.below HB4.out))
    rintro e w5 ⟨rfl, hb5⟩
    have HX5 := hide (belowRow hb5 HX4.out)
    have HB5 := hide (below_trans HB4.out hb5)
    clear hb5
    go_wp2_with (fail)
    go_fit (holdsBegun_any _)
    rintro e w6 ⟨rfl, hb6⟩
    have hx6 := belowRow hb6 HX5.out
    have x0 := cell_of_row _ _ 0 _ _ _ hx6
    have hne : (chkF F != 0) = true := by simpa using HC.out
    have heq : (chkF F != chkF F) = false := by simp
    have HB6 := hide (below_trans HB5.out hb6)
    clear hb6 hx6
    go_wp2
    go_ret
    exact ⟨rfl, HB6.out⟩

end Go.Proofs.YtpiacnnifdjlkaaGreatDoor

/-
  What a formula and a lasso among the arguments read as.
-/
namespace Go.Proofs.YtpiacnnifdjlkaaGreatDoor
open Go.ChangeShapes Go.WideShapes Go.ChangeAt Go.RowKit Go.Deep
set_option maxRecDepth 100000

theorem cellsIntE : Tryz.prog.cellsOf 3 = 1 := by kernel_rfl
theorem cellsNodeE : Tryz.prog.cellsOf 54 = 4 := by kernel_rfl

theorem plainE {W : World} {a : Addr} {v : Value} (h : W.cell? (a.add 0) = some v) : ∃ b off, a = ⟨b, off, none⟩ := by
  obtain ⟨b, off, spot⟩ := a
  simp only [Addr.add, if_true, World.cell?] at h
  split at h
  · cases spot with
    | none => exact ⟨b, off, rfl⟩
    | some s => simp at h
  · cases h

theorem intsE_of_trod {H : Type} {enc : TypeId × Value → H} {W : World} {n : Nat} {u : Value} {y : DataW H × List MemPlace} (h : DataW.trod enc Tryz.prog W 0 (fun _ => true) true n 24 [u] = some y) :
    ∃ zs, IntSl W u zs := by
  rcases open_ints Tryz.underlying24 Tryz.underlying3 cellsIntE h with ⟨hcs, _⟩ | ⟨a, len, cap, zs, hcs, _, hl, hm, hz, _, hcell, hwz⟩
  · simp only [List.cons.injEq, and_true] at hcs
    subst hcs
    exact ⟨[], .none, 0, rfl, by simp [maxLen], Or.inl rfl, fun _ => rfl, by simp⟩
  · simp only [List.cons.injEq, and_true] at hcs
    subst hcs
    have hz' : zs.length = cap := hz
    have hlen : (zs.take len).length = len := by rw [List.length_take]; omega
    refine ⟨zs.take len, some a, cap, by rw [hlen], by rw [hlen]; omega, ?_, fun e => (by cases e), by rw [hlen]; exact hl⟩
    by_cases h0 : len = 0
    · left
      rw [h0]
      rfl
    · right
      obtain ⟨b, off, rfl⟩ := plainE (hcell 0 (by omega))
      refine ⟨b, off, rfl, fun i hi => ?_⟩
      rw [hlen] at hi
      have ci := hcell i (by omega)
      rw [add_none] at ci
      rw [ci]
      congr 2
      simp [List.getD, hi]

theorem lassoE_of_trod {H : Type} {enc : TypeId × Value → H} {W : World} {r : Reach} {b0 : Nat} {v : Value} {d : DataW H} {p : List MemPlace} (hv : Value.okWide Tryz.prog W r b0 26 v) (h : DataW.Trod enc Tryz.prog W 0 (fun _ => true) true 26 v d p) :
    ∃ hv lv hs ls, v = .agg #[hv, lv] ∧ IntSl W hv hs ∧ IntSl W lv ls := by
  obtain ⟨v0, v1, y0, y1, n, rfl, _, _, t0, t1⟩ := Go.Joins.open_agg2 Tryz.underlying26 (by kernel_rfl) (by kernel_rfl) hv h
  obtain ⟨hs, i0⟩ := intsE_of_trod t0
  obtain ⟨ls, i1⟩ := intsE_of_trod t1
  exact ⟨v0, v1, hs, ls, rfl, i0, i1⟩

theorem intE {H : Type} {enc : TypeId × Value → H} {W : World} {n : Nat} {c : Value} {y : DataW H × List MemPlace} (h : DataW.trod enc Tryz.prog W 0 (fun _ => true) true n 3 [c] = some y) : ∃ z, c = .int .i64 z := by
  obtain ⟨z, hc, _, hw⟩ := DataW.trod_int Tryz.underlying3 h
  simp only [List.cons.injEq, and_true] at hc
  exact ⟨z, hc⟩

theorem four_of {cs : List Value} (h : cs.length = 4) : ∃ c0 c1 c2 c3, cs = [c0, c1, c2, c3] := by
  match cs, h with
  | [c0, c1, c2, c3], _ => exact ⟨c0, c1, c2, c3, rfl⟩

theorem nodeE_of_trod {H : Type} {enc : TypeId × Value → H} {W : World} {n : Nat} {cs : List Value} {y : DataW H × List MemPlace} (h : DataW.trod enc Tryz.prog W 0 (fun _ => true) true n 54 cs = some y) :
    ∃ s : Nd, cs = [.int .i64 s.k, .int .i64 s.a, .int .i64 s.b, .int .i64 s.n] := by
  obtain ⟨xs, m, _, _, hl, hlen, hfs⟩ := DataW.trod_struct Tryz.underlying54 h
  have hx : xs.length = 4 := hlen
  rw [cellsNodeE] at hl
  obtain ⟨c0, c1, c2, c3, rfl⟩ := four_of hl
  have key : ∀ i (hi : i < 4), xs[i]? = some (xs[i]'(by omega)) := fun i hi => List.getElem?_eq_getElem (by omega)
  have t0 : DataW.trod enc Tryz.prog W 0 (fun _ => true) true m 3 (List.take (Tryz.prog.cellsOf 3) (List.drop 0 [c0, c1, c2, c3])) = some (xs[0]'(by omega)) := (hfs 0 _ rfl).trans (key 0 (by omega))
  have t1 : DataW.trod enc Tryz.prog W 0 (fun _ => true) true m 3 (List.take (Tryz.prog.cellsOf 3) (List.drop 1 [c0, c1, c2, c3])) = some (xs[1]'(by omega)) := (hfs 1 _ rfl).trans (key 1 (by omega))
  have t2 : DataW.trod enc Tryz.prog W 0 (fun _ => true) true m 3 (List.take (Tryz.prog.cellsOf 3) (List.drop 2 [c0, c1, c2, c3])) = some (xs[2]'(by omega)) := (hfs 2 _ rfl).trans (key 2 (by omega))
  have t3 : DataW.trod enc Tryz.prog W 0 (fun _ => true) true m 3 (List.take (Tryz.prog.cellsOf 3) (List.drop 3 [c0, c1, c2, c3])) = some (xs[3]'(by omega)) := (hfs 3 _ rfl).trans (key 3 (by omega))
  rw [cellsIntE] at t0 t1 t2 t3
  obtain ⟨z0, rfl⟩ := intE t0
  obtain ⟨z1, rfl⟩ := intE t1
  obtain ⟨z2, rfl⟩ := intE t2
  obtain ⟨z3, rfl⟩ := intE t3
  exact ⟨⟨z0, z1, z2, z3⟩, rfl⟩

theorem nodesE_of_trod {H : Type} {enc : TypeId × Value → H} {W : World} {n : Nat} {u : Value} {y : DataW H × List MemPlace} (h : DataW.trod enc Tryz.prog W 0 (fun _ => true) true n 23 [u] = some y) :
    ∃ zs, NodeSl W u zs := by
  rcases open_slice Tryz.underlying23 h with ⟨hcs, _⟩ | ⟨a, len, cap, m, k, D, Pl, hcs, _, hl, hm, hmm, _, hel⟩
  · simp only [List.cons.injEq, and_true] at hcs
    subst hcs
    exact ⟨[], .none, 0, rfl, by simp [maxLen], Or.inl rfl, fun _ => rfl, by simp⟩
  · simp only [List.cons.injEq, and_true] at hcs
    subst hcs
    simp only [if_true] at hmm
    subst hmm
    rw [cellsNodeE] at hel
    have each : ∀ i, i < m → ∃ s : Nd, W.cell? ((a.add (i * 4)).add 0) = some (.int .i64 s.k) ∧ W.cell? ((a.add (i * 4)).add 1) = some (.int .i64 s.a) ∧ W.cell? ((a.add (i * 4)).add 2) = some (.int .i64 s.b) ∧ W.cell? ((a.add (i * 4)).add 3) = some (.int .i64 s.n) := by
      intro i hi
      obtain ⟨cs', hc, ht⟩ := hel i hi
      obtain ⟨s, rfl⟩ := nodeE_of_trod ht
      obtain ⟨_, _, hcell⟩ := World.cells?_some hc
      exact ⟨s, hcell 0 (by omega), hcell 1 (by omega), hcell 2 (by omega), hcell 3 (by omega)⟩
    obtain ⟨S, hS⟩ := @choose_lt Nd ⟨nd0⟩ _ _ each
    have hlen : ((List.range len).map S).length = len := by simp
    refine ⟨(List.range len).map S, some a, m, by rw [hlen], by rw [hlen]; omega, ?_, fun e => (by cases e), by rw [hlen]; exact hl⟩
    by_cases h0 : len = 0
    · left
      rw [h0]
      rfl
    · right
      have c0 := (hS 0 (by omega)).1
      rw [Nat.zero_mul] at c0
      have c00 : W.cell? (a.add 0) = some (.int .i64 (S 0).k) := c0
      obtain ⟨b, off, rfl⟩ := plainE c00
      refine ⟨b, off, rfl, fun i hi => ?_⟩
      rw [hlen] at hi
      obtain ⟨q0, q1, q2, q3⟩ := hS i (by omega)
      rw [add_none, add_none] at q0 q1 q2 q3
      have e : ((List.range len).map S).getD i nd0 = S i := by simp [List.getD, hi]
      rw [e]
      exact ⟨q0, q1, q2, q3⟩

theorem formulaE_of_trod {H : Type} {enc : TypeId × Value → H} {W : World} {r : Reach} {b0 : Nat} {v : Value} {d : DataW H} {p : List MemPlace} (hv : Value.okWide Tryz.prog W r b0 23 v) (h : DataW.Trod enc Tryz.prog W 0 (fun _ => true) true 23 v d p) :
    ∃ F, NodeSl W v F := by
  obtain ⟨a, len, cap, rfl⟩ := okWide_slice Tryz.underlying23 hv
  obtain ⟨fuel, hf⟩ := h
  exact nodesE_of_trod hf
end Go.Proofs.YtpiacnnifdjlkaaGreatDoor

/- WordTells holds: whatever lasso, number of letters and place are handed in, Check, Least and At of package word answer just what the document says, errors too; the table deBruijn64tab of math/bits is as the program's text lays it. -/
namespace Go.Proofs.YtpiacnnifdjlkaaGreatDoor
open Go.ChangeShapes Go.WideShapes Go.ChangeAt Go.RowKit Go.Deep
set_option maxRecDepth 100000

theorem gTab64Type : (Tryz.prog.globals[0]?).map (·.type) = some 156 := by kernel_rfl
theorem cellsTab64 : Tryz.prog.cellsOf 156 = 64 := by kernel_rfl
theorem cellsU8 : Tryz.prog.cellsOf 5 = 1 := by kernel_rfl

/-- A block with these integers in its cells. -/
def layInts (k : IntKind) (zs : List Int) : Obj → Obj
  | .cells _ t frozen => .cells (zs.map fun z => Value.int k z).toArray t frozen
  | o => o

/-- A world with the table laid as its initialiser lays it. -/
def layTab64 (W : World) : World := { W with heap := W.heap.modify 0 (layInts .u8 tab64) }

def wordTells_args : Array Value := #[.agg #[.slice .none 0 0, .slice .none 0 0], .int .i64 0, .int .i64 0]

end Go.Proofs.YtpiacnnifdjlkaaGreatDoor

namespace Go.Proofs.YtpiacnnifdjlkaaGreatDoor
open Go.ChangeShapes Go.WideShapes Go.ChangeAt Go.RowKit Go.Deep
set_option maxRecDepth 100000

theorem tableauTakes_table {W : World} (h : laidMetH Tryz.prog Rows.tableauTakesRow.laid W) : Lib.TabIs Tryz.prog W "math/bits.deBruijn64tab" .u8 tab64 :=
  Lib.tabIs_of_head (rest := []) gTab64 gTab64Type Tryz.underlying156 Tryz.underlying5 cellsU8 cellsTab64 h

theorem tableauTakes_contract (H : Type) (enc : TypeId × Value → H) (W : World) (base : Nat) (args : Array Value) (ds gs : List (DataW H)) (before : List MemPlace)
    (hval : ∀ (j : Nat) t v, Tryz.f3.params[j]? = some t → args[j]? = some v → Value.okWide Tryz.prog W .any base t v)
    (hW : DataW.Whole enc Tryz.prog Tryz.f3.params.toList Rows.tableauTakesSpec.vars false W args.toList ds gs before) (hL : laidMetH Tryz.prog Rows.tableauTakesRow.laid W) :
    Calls Tryz.prog 3 args W fun e W' => ∃ v, e = .returned v ∧ Rows.tableauTakesSpec.post enc Tryz.prog Tryz.f3 false true false false W args v W' := by
  have hW' := hW
  obtain ⟨p, q, hA0, hV, rfl, hfz, hnd⟩ := hW
  have hA : DataW.TrodAll enc Tryz.prog W 0 (fun _ => true) true Tryz.f3.params.toList args.toList ds p := hA0
  rw [Tryz.params3] at hA hval
  obtain ⟨v0, v1, d0, d1, p0, p1, rfl, rfl, rfl, h0, h1⟩ := trodAll_two hA
  obtain ⟨rfl, rfl⟩ := trodVars_none hV
  have h0k := h0
  have h1k := h1
  obtain ⟨F, hAut⟩ := formulaE_of_trod (hval 0 23 _ rfl rfl) h0
  obtain ⟨hv, lv, hs, ls, rfl, i0, i1⟩ := lasso_of_trod (hval 1 26 _ rfl rfl) h1
  clear hA0 hA
  simp only [List.append_nil] at hW' hfz
  have hlt0 : ∀ x ∈ p0, x.block < W.heap.size := fun x hx => by simpa using hW'.lt x (List.mem_append_left _ hx)
  have hlt1 : ∀ x ∈ p1, x.block < W.heap.size := fun x hx => by simpa using hW'.lt x (List.mem_append_right _ hx)
  refine (tableauTakes_any hAut i0 i1 (tab_of_is (tableauTakes_table hL))).mono fun e W' ⟨he, hb⟩ => ?_
  subst he
  exact ⟨_, rfl, _, _, _, [], _, [], hW', trodAll_mk1 (shut_bool Tryz.underlying4 _), trodAll_mk2 (Below.trod laidOut (by kernel_rfl) (of_decide_eq_true (by kernel_rfl)) h0k hb hlt0) (Below.trod laidOut (by kernel_rfl) (of_decide_eq_true (by kernel_rfl)) h1k hb hlt1), rfl, hb.frame _, fun h => by cases h⟩

def tableauTakes_args : Array Value := #[.slice .none 0 0, .agg #[.slice .none 0 0, .slice .none 0 0]]

theorem tableauTakes_met (os : Os) : laidMet Tryz.prog Rows.tableauTakesRow.laid ((layTab64 (World.holding Tryz.prog os ⟨#[], #[], []⟩)).forCall (fun _ _ => 0) ⟨#[], tableauTakes_args, []⟩).memory :=
  laidMet_of_run' 8 (by kernel_rfl) (by kernel_rfl)

theorem tableauTakes_reads (os : Os) {H : Type} (enc : TypeId × Value → H) : ∃ places, DataW.whole enc Tryz.prog ((layTab64 (World.holding Tryz.prog os ⟨#[], #[], []⟩)).forCall (fun _ _ => 0) ⟨#[], tableauTakes_args, []⟩).memory Tryz.f3.params.toList Rows.tableauTakesSpec.vars false tableauTakes_args.toList 8 = some ([.nil, .agg [.nil, .nil]], [], places) :=
  ⟨[], by kernel_rfl⟩

theorem tableauTakes_lifted (os : Os) (started : os.Started) (H : Type) (enc : TypeId × Value → H) (F : Stop.Interp) :
    ReturnsInHanded {} Tryz.checked os 3 .any ((OpenSpec.ofChange Rows.tableauTakesSpec).preRow enc Tryz.prog Tryz.f3 Rows.tableauTakesRow.domain false Rows.tableauTakesRow.laid) (((OpenSpec.ofChange Rows.tableauTakesSpec).at F).post enc Tryz.prog Tryz.f3 false true false false) := by
  obtain ⟨places, hx⟩ := tableauTakes_reads os enc
  refine returnsInHanded_of_row (C := Tryz.checked) (s := OpenSpec.ofChange Rows.tableauTakesSpec) own started (by kernel_rfl) Tryz.func3
    (witness_row_at (enc := enc) (C := Tryz.checked) false (layTab64 (World.holding Tryz.prog os ⟨#[], #[], []⟩)) tableauTakes_args rfl (by kernel_rfl) (by kernel_rfl) (by kernel_rfl)
      (OpenSpec.preRow_of_cond 8 hx (by kernel_rfl) (fun k hk => by cases hk) (by kernel_rfl) (tableauTakes_met os))) ?_
  intro W base args ds gs before hval hW _ _ _ hL _ _
  exact tableauTakes_contract H enc W base args ds gs before hval hW hL

theorem tableauTakes_said : Rows.TableauTakesSaid :=
  OpenClaim.holds_of_cond 3 Tryz.f3 rfl rfl rfl rfl rfl rfl rfl ⟨rfl, rfl, rfl, rfl, rfl⟩ rfl rfl rfl rfl rfl (by kernel_rfl) Tryz.func3 (by kernel_rfl)
    (of_decide_eq_true (by kernel_rfl)) (by unfold Func.isWrapper; first | (rw [if_pos (by decide +kernel)]; kernel_rfl) | (rw [if_neg (by decide +kernel)]; exact ⟨rfl, rfl⟩))
    (fun os started H enc _ F => by rw [OpenClaim.pre_eq_preRow]; exact tableauTakes_lifted os started H enc F)

theorem tableauTakes_plain (f : FuncId) (fn : Func) (hf : Tryz.pinned.checked.prog.funcNamed "lassowork/lassoworklaw.TableauTakes" = some f) (hfn : Tryz.pinned.checked.prog.funcs[f]? = some fn) :
    false = Tryz.pinned.checked.prog.looks [] ∧ ∀ (j : Nat) t, fn.params[j]? = some t → Tryz.pinned.checked.prog.wantsStandIn t = false := by
  obtain rfl : f = 3 := Option.some.inj ((show Tryz.prog.funcNamed "lassowork/lassoworklaw.TableauTakes" = some 3 by kernel_rfl).symm.trans hf) |>.symm
  obtain rfl : fn = Tryz.f3 := (Option.some.inj (Tryz.func3.symm.trans hfn)).symm
  refine ⟨by kernel_rfl, fun j t ht => ?_⟩
  rw [Tryz.params3] at ht
  have hm := Array.mem_of_getElem? ht
  simp only [List.mem_toArray, List.mem_cons, List.not_mem_nil, or_false] at hm
  rcases hm with rfl | rfl
  · exact (show Tryz.prog.wantsStandIn 23 = false by kernel_rfl)
  · exact (show Tryz.prog.wantsStandIn 26 = false by kernel_rfl)

theorem tableauTakes_card : Rows.TableauTakesCardSaid :=
  Claim7.holds_tied_plain_at .later [] _ _ _ _ tableauTakes_said (fun _ h => by cases h) (by kernel_rfl) (fun _ h => by cases h) tableauTakes_row_tie rfl ⟨rfl, rfl⟩ (by kernel_rfl) rfl tableauTakes_plain (by kernel_rfl)
end Go.Proofs.YtpiacnnifdjlkaaGreatDoor
