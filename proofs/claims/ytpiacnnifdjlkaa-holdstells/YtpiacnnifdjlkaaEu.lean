/-
  What must be in any case: holdsBegun is true.
-/
import Derived.Test.YtpiacnnifdjlkaaEo
namespace Go.Proofs.Ytpiacnnifdjlkaa
open Go.RowKit Go.Sort

def untilF : List Nd := [⟨2, 0, 0, 0⟩, ⟨2, 0, 0, 1⟩, ⟨7, 0, 1, 0⟩]

set_option maxHeartbeats 1000000 in
theorem until_any (w : World) :
    Calls Try.prog 17 #[] w fun e w' => ∃ g, e = .returned (.slice (some ⟨g, 0, none⟩) 3 3) ∧ NodeSl w' (.slice (some ⟨g, 0, none⟩) 3 3) untilF ∧ Below w.heap.size w w' := by
  go_enter Try.func17, Try.ntmps17
  go_wp2_with (fail)
  go_ret
  refine ⟨w.heap.size, rfl, ⟨_, _, rfl, by decide, Or.inr ⟨w.heap.size, 0, rfl, fun i hi => ?_⟩, (fun h => by cases h), by decide⟩, (by repeat (first | exact Below.refl _ _ | assumption | refine below_drewN ?_ _ | refine Below.drew ?_ | refine Below.alloc ?_ (by simp <;> omega) _ | refine below_trans ?_ (by assumption)))⟩
  have hb := heap_alloc_new w (Obj.cells #[.int .i64 2, .int .i64 0, .int .i64 0, .int .i64 0, .int .i64 2, .int .i64 0, .int .i64 0, .int .i64 1, .int .i64 7, .int .i64 0, .int .i64 1, .int .i64 0] 44)
  have h3 : i = 0 ∨ i = 1 ∨ i = 2 := by simp [untilF] at hi; omega
  rcases h3 with rfl | rfl | rfl
  · exact ⟨cell_of_row _ _ 0 _ _ _ hb, cell_of_row _ _ 1 _ _ _ hb, cell_of_row _ _ 2 _ _ _ hb, cell_of_row _ _ 3 _ _ _ hb⟩
  · exact ⟨cell_of_row _ _ 4 _ _ _ hb, cell_of_row _ _ 5 _ _ _ hb, cell_of_row _ _ 6 _ _ _ hb, cell_of_row _ _ 7 _ _ _ hb⟩
  · exact ⟨cell_of_row _ _ 8 _ _ _ hb, cell_of_row _ _ 9 _ _ _ hb, cell_of_row _ _ 10 _ _ _ hb, cell_of_row _ _ 11 _ _ _ hb⟩

theorem untilChk : chkT untilF [1, 2] [0] = 0 := by decide +kernel
theorem untilTab : tabF untilF [1, 2] [0] = [[true, false, false], [false, true, false], [true, true, false]] := by decide +kernel

theorem ints_cells {w : World} {g : Nat} {zs : List Int} (h : w.heap[g]? = some (.cells (zs.map (Value.int .i64)).toArray 3)) (hl : zs.length ≤ 100) : IntSl w (.slice (some ⟨g, 0, none⟩) zs.length zs.length) zs :=
  ⟨_, _, rfl, by unfold maxLen; omega, Or.inr ⟨g, 0, rfl, fun i hi => by rw [Nat.zero_add, cell_of_row w g i _ _ _ h]; simp [List.getD, hi]⟩, (fun h => by cases h), Nat.le_refl _⟩

/-- The rows of a table, all as long. -/
theorem GridSl.rows {w : World} {v : Value} {T : List (List Bool)} {N : Nat} (h : GridSl w v T) (hT : 0 < T.length) (hN : 0 < N) (hl : ∀ j, j < T.length → (T.getD j []).length = N) :
    ∃ R c, v = .slice (some ⟨R, 0, none⟩) T.length c ∧ ∀ j, j < T.length → ∃ b o c', w.cell? ⟨R, j, none⟩ = some (.slice (some ⟨b, o, none⟩) N c') ∧ ∀ p, p < N → w.cell? ⟨b, o + p, none⟩ = some (.bool ((T.getD j []).getD p false)) := by
  obtain ⟨ad, c, rfl, hm, hg⟩ := h
  rcases hg with hg | ⟨R, rfl, hc⟩
  · subst hg; simp at hT
  · refine ⟨R, c, rfl, fun j hj => ?_⟩
    obtain ⟨a, n, c', h1, h2⟩ := hc j hj
    have hlen := hl j hj
    obtain ⟨a', cap, he, _, hz, _⟩ := h2
    injection he with e1 e2 e3
    rcases hz with hz | ⟨b, o, e4, hcell⟩
    · rw [hz] at hlen; simp at hlen; omega
    · refine ⟨b, o, c', ?_, fun p hpp => hcell p (by omega)⟩
      rw [h1, e1, e4, e2, hlen]

set_option maxRecDepth 100000 in
set_option maxHeartbeats 4000000 in
theorem holdsBegun_any (w : World) :
    Calls Try.prog 8 #[] w fun e w' => e = .returned (.bool true) ∧ Below w.heap.size w w' := by
  have HH : Hid (∀ (W : World) (g h l : Nat), NodeSl W (.slice (some ⟨g, 0, none⟩) 3 3) untilF → W.heap[h]? = some (Obj.cells #[.int .i64 1, .int .i64 2] 3) → W.heap[l]? = some (Obj.cells #[.int .i64 0] 3) → Calls Try.prog 5 #[.slice (some ⟨g, 0, none⟩) 3 3, .agg #[.slice (some ⟨h, 0, none⟩) 2 2, .slice (some ⟨l, 0, none⟩) 1 1]] W fun e w' => e = .returned (.tuple #[.bool true, .int .i64 0]) ∧ Below W.heap.size W w') := by
    refine hide fun W g h l hn hh hl => ?_
    refine (holds_any (hs := [1, 2]) (ls := [0]) hn (ints_cells (zs := [1, 2]) hh (by decide)) (ints_cells (zs := [0]) hl (by decide))).mono ?_
    rintro e w' ⟨rfl, hb⟩
    rw [untilChk, untilTab]
    exact ⟨rfl, hb⟩
  have HT : Hid (∀ (W : World) (g h l : Nat), NodeSl W (.slice (some ⟨g, 0, none⟩) 3 3) untilF → W.heap[h]? = some (Obj.cells #[.int .i64 1, .int .i64 2] 3) → W.heap[l]? = some (Obj.cells #[.int .i64 0] 3) → Calls Try.prog 4 #[.slice (some ⟨g, 0, none⟩) 3 3, .agg #[.slice (some ⟨h, 0, none⟩) 2 2, .slice (some ⟨l, 0, none⟩) 1 1]] W fun e w' => ∃ R c b o c', e = .returned (.tuple #[.slice (some ⟨R, 0, none⟩) 3 c, .int .i64 0]) ∧ w'.cell? ⟨R, 2, none⟩ = some (.slice (some ⟨b, o, none⟩) 3 c') ∧ w'.cell? ⟨b, o, none⟩ = some (.bool true) ∧ w'.cell? ⟨b, o + 1, none⟩ = some (.bool true) ∧ w'.cell? ⟨b, o + 2, none⟩ = some (.bool false) ∧ Below W.heap.size W w') := by
    refine hide fun W g h l hn hh hl => ?_
    refine (table_any (hs := [1, 2]) (ls := [0]) hn (ints_cells (zs := [1, 2]) hh (by decide)) (ints_cells (zs := [0]) hl (by decide))).mono ?_
    rintro e w' ⟨v, rfl, hg, -, hb⟩
    rw [untilChk]
    have hg' := hg untilChk
    rw [untilTab] at hg'
    obtain ⟨R, c, rfl, hr⟩ := hg'.rows (N := 3) (by decide) (by decide) (by decide)
    obtain ⟨b, o, c', h1, h2⟩ := hr 2 (by decide)
    exact ⟨R, c, b, o, c', rfl, h1, h2 0 (by decide), h2 1 (by decide), h2 2 (by decide), hb⟩
  go_enter Try.func8, Try.ntmps8
  go_wp2_with (fail)
  obtain ⟨W0, hW0⟩ : ∃ W0, W0 = ((w.alloc (Obj.cells #[.int .i64 1, .int .i64 2] 3)).alloc (Obj.cells #[.int .i64 0] 3)).alloc (Obj.cells #[.slice (some ⟨w.heap.size, 0, none⟩) 2 2, .slice (some ⟨w.heap.size + 1, 0, none⟩) 1 1] 26) := ⟨_, rfl⟩
  have hbW : Below w.heap.size w W0 := by rw [hW0]; exact (by repeat (first | exact Below.refl _ _ | assumption | refine below_drewN ?_ _ | refine Below.drew ?_ | refine Below.alloc ?_ (by simp <;> omega) _ | refine below_trans ?_ (by assumption)))
  have x0 := heap_alloc_new w (Obj.cells #[.int .i64 1, .int .i64 2] 3)
  have x1 := heap_alloc_new (w.alloc (Obj.cells #[.int .i64 1, .int .i64 2] 3)) (Obj.cells #[.int .i64 0] 3)
  have x2 := heap_alloc_new ((w.alloc (Obj.cells #[.int .i64 1, .int .i64 2] 3)).alloc (Obj.cells #[.int .i64 0] 3)) (Obj.cells #[.slice (some ⟨w.heap.size, 0, none⟩) 2 2, .slice (some ⟨w.heap.size + 1, 0, none⟩) 1 1] 26)
  simp only [World.size_alloc] at x1 x2
  have x0 := heap_under (Obj.cells #[.slice (some ⟨w.heap.size, 0, none⟩) 2 2, .slice (some ⟨w.heap.size + 1, 0, none⟩) 1 1] 26) (heap_under (Obj.cells #[.int .i64 0] 3) x0)
  have x1 := heap_under (Obj.cells #[.slice (some ⟨w.heap.size, 0, none⟩) 2 2, .slice (some ⟨w.heap.size + 1, 0, none⟩) 1 1] 26) x1
  rw [← hW0] at x0 x1 x2 ⊢
  clear hW0
  have HB0 := hide hbW
  clear hbW
  generalize w.heap.size + 1 + 1 = P at *
  generalize w.heap.size + 1 = B at *
  generalize hA : w.heap.size = A at *
  have HA := hide hA
  clear hA
  have d0 : Hid (W0.heap[A]? = some (Obj.cells #[.int .i64 1, .int .i64 2] 3) ∧ W0.heap[B]? = some (Obj.cells #[.int .i64 0] 3)) := hide ⟨x0, x1⟩
  have s0 : W0.cell? ⟨P, 0, none⟩ = some (.slice (some ⟨A, 0, none⟩) 2 2) ∧ W0.cell? ⟨P, 1, none⟩ = some (.slice (some ⟨B, 0, none⟩) 1 1) := ⟨cell_of_row _ _ 0 _ _ _ x2, cell_of_row _ _ 1 _ _ _ x2⟩
  clear x0 x1 x2
  go_region_held3 (fun w' => w'.cell? ⟨P, 0, none⟩ = some (.slice (some ⟨A, 0, none⟩) 2 2) ∧ w'.cell? ⟨P, 1, none⟩ = some (.slice (some ⟨B, 0, none⟩) 1 1)) ((first | (with_reducible exact sw3) | (with_reducible exact sw2) | (with_reducible exact s0) | (exact s0))) (first | (go_at_call 17; refine (until_any _).mono ?_; rintro e w2 ⟨g2, rfl, hnw2, hbw2⟩; have dw2 : Hid (w2.heap[A]? = some (Obj.cells #[.int .i64 1, .int .i64 2] 3) ∧ w2.heap[B]? = some (Obj.cells #[.int .i64 0] 3)) := hide ⟨block_keep (heap_drew d0.out.1) hbw2, block_keep (heap_drew d0.out.2) hbw2⟩; have sw2 : w2.cell? ⟨P, 0, none⟩ = some (.slice (some ⟨A, 0, none⟩) 2 2) ∧ w2.cell? ⟨P, 1, none⟩ = some (.slice (some ⟨B, 0, none⟩) 1 1) := ⟨cell_keep (cell_drew s0.1) hbw2, cell_keep (cell_drew s0.2) hbw2⟩) | (go_at_call 5; refine (HH.out _ _ _ _ hnw2 dw2.out.1 dw2.out.2).mono ?_; rintro e w3 ⟨rfl, hbw3⟩; have dw3 : Hid (w3.heap[A]? = some (Obj.cells #[.int .i64 1, .int .i64 2] 3) ∧ w3.heap[B]? = some (Obj.cells #[.int .i64 0] 3)) := hide ⟨block_keep dw2.out.1 hbw3, block_keep dw2.out.2 hbw3⟩; have sw3 : w3.cell? ⟨P, 0, none⟩ = some (.slice (some ⟨A, 0, none⟩) 2 2) ∧ w3.cell? ⟨P, 1, none⟩ = some (.slice (some ⟨B, 0, none⟩) 1 1) := ⟨cell_keep sw2.1 hbw3, cell_keep sw2.2 hbw3⟩))
  have hb0 : Below w.heap.size w W0 := by rw [HA.out]; exact HB0.out
  have hB3 := below_trans hb0 (below_trans (below_trans (below_drawn W0 1) hbw2) hbw3)
  have HB3 := hide hB3
  clear hB3 hb0 hbw2 hbw3 hnw2 sw2 dw2 s0 d0
  go_wp2_with (fail)
  go_region_held3 (fun w' => w'.cell? ⟨P, 0, none⟩ = some (.slice (some ⟨A, 0, none⟩) 2 2) ∧ w'.cell? ⟨P, 1, none⟩ = some (.slice (some ⟨B, 0, none⟩) 1 1)) ((first | (with_reducible exact sw5) | (with_reducible exact sw4) | (with_reducible exact sw3) | (exact sw3))) (first | (go_at_call 17; refine (until_any _).mono ?_; rintro e w4 ⟨g4, rfl, hnw4, hbw4⟩; have dw4 : Hid (w4.heap[A]? = some (Obj.cells #[.int .i64 1, .int .i64 2] 3) ∧ w4.heap[B]? = some (Obj.cells #[.int .i64 0] 3)) := hide ⟨block_keep (heap_drew dw3.out.1) hbw4, block_keep (heap_drew dw3.out.2) hbw4⟩; have sw4 : w4.cell? ⟨P, 0, none⟩ = some (.slice (some ⟨A, 0, none⟩) 2 2) ∧ w4.cell? ⟨P, 1, none⟩ = some (.slice (some ⟨B, 0, none⟩) 1 1) := ⟨cell_keep (cell_drew sw3.1) hbw4, cell_keep (cell_drew sw3.2) hbw4⟩) | (go_at_call 4; refine (HT.out _ _ _ _ hnw4 dw4.out.1 dw4.out.2).mono ?_; rintro e w5 ⟨R, tc, rb, ro, rc, rfl, z0, z1, z2, z3, hbw5⟩; have dw5 : Hid (w5.heap[A]? = some (Obj.cells #[.int .i64 1, .int .i64 2] 3) ∧ w5.heap[B]? = some (Obj.cells #[.int .i64 0] 3)) := hide ⟨block_keep dw4.out.1 hbw5, block_keep dw4.out.2 hbw5⟩; have sw5 : w5.cell? ⟨P, 0, none⟩ = some (.slice (some ⟨A, 0, none⟩) 2 2) ∧ w5.cell? ⟨P, 1, none⟩ = some (.slice (some ⟨B, 0, none⟩) 1 1) := ⟨cell_keep sw4.1 hbw5, cell_keep sw4.2 hbw5⟩))
  have hB5 := below_trans HB3.out (below_trans (below_trans (below_drawn w3 1) hbw4) hbw5)
  clear hbw4 hbw5 hnw4 sw4 dw4 sw3 dw3
  go_wp2_with (fail)
  go_ret
  exact ⟨rfl, hB5⟩
end Go.Proofs.Ytpiacnnifdjlkaa
