/-
  What a formula and a lasso among the arguments read as.
-/
import Derived.Test.YtpiacnnifdjlkaaDoorEo
import Derived.Test.YtpiacnnifdjlkaaDoorHb
import Derived.Test.YtpiacnnifdjlkaaDoorAz
import Derived.WalkKit
import Derived.ProofKit
import Derived.OpenShut
import Derived.Carry
import Derived.Deep.DeepHandedRow
import Derived.Lib.SmallJoins
import Derived.Deep.Grids
import Derived.Deep.Strs
/-
  What must be in any case: holdsBegun is true.
-/
namespace Go.Proofs.YtpiacnnifdjlkaaDoor
open Go.RowKit Go.Sort

def untilF : List Nd := [⟨2, 0, 0, 0⟩, ⟨2, 0, 0, 1⟩, ⟨7, 0, 1, 0⟩]

set_option maxHeartbeats 1000000 in
theorem until_any (w : World) :
    Calls Tryd.prog 79 #[] w fun e w' => ∃ g, e = .returned (.slice (some ⟨g, 0, none⟩) 3 3) ∧ NodeSl w' (.slice (some ⟨g, 0, none⟩) 3 3) untilF ∧ Below w.heap.size w w' := by
  go_enter Tryd.func79, Tryd.ntmps79
  go_wp2_with (fail)
  go_ret
  refine ⟨w.heap.size, rfl, ⟨_, _, rfl, by decide, Or.inr ⟨w.heap.size, 0, rfl, fun i hi => ?_⟩, (fun h => by cases h), by decide⟩, (by repeat (first | exact Below.refl _ _ | assumption | refine below_drewN ?_ _ | refine Below.drew ?_ | refine Below.alloc ?_ (by simp <;> omega) _ | refine below_trans ?_ (by assumption)))⟩
  have hb := heap_alloc_new w (Obj.cells #[.int .i64 2, .int .i64 0, .int .i64 0, .int .i64 0, .int .i64 2, .int .i64 0, .int .i64 0, .int .i64 1, .int .i64 7, .int .i64 0, .int .i64 1, .int .i64 0] 74)
  have h3 : i = 0 ∨ i = 1 ∨ i = 2 := by simp [untilF] at hi; omega
  rcases h3 with rfl | rfl | rfl
  · exact ⟨cell_of_row _ _ 0 _ _ _ hb, cell_of_row _ _ 1 _ _ _ hb, cell_of_row _ _ 2 _ _ _ hb, cell_of_row _ _ 3 _ _ _ hb⟩
  · exact ⟨cell_of_row _ _ 4 _ _ _ hb, cell_of_row _ _ 5 _ _ _ hb, cell_of_row _ _ 6 _ _ _ hb, cell_of_row _ _ 7 _ _ _ hb⟩
  · exact ⟨cell_of_row _ _ 8 _ _ _ hb, cell_of_row _ _ 9 _ _ _ hb, cell_of_row _ _ 10 _ _ _ hb, cell_of_row _ _ 11 _ _ _ hb⟩

theorem untilChk : chkT untilF [1, 2] [0] = 0 := by decide +kernel
theorem untilTab : tabF untilF [1, 2] [0] = [[true, false, false], [false, true, false], [true, true, false]] := by decide +kernel

theorem ints_cells {w : World} {g : Nat} {zs : List Int} (h : w.heap[g]? = some (.cells (zs.map (Value.int .i64)).toArray 3)) (hl : zs.length ≤ 100) : IntSl w (.slice (some ⟨g, 0, none⟩) zs.length zs.length) zs :=
  ⟨_, _, rfl, by unfold maxLen; omega, Or.inr ⟨g, 0, rfl, fun i hi => by rw [Nat.zero_add, cell_of_row w g i _ _ _ h]; simp [List.getD, hi]⟩, (fun h => by cases h), Nat.le_refl _⟩

/-- The rows of a table, all as long. -/
theorem GridSl.rows {w : World} {v : Value} {T : List (List Bool)} {N : Nat} (h : GridSl w v T) (hT : 0 < T.length) (hN : 0 < N) (hl : ∀ j, j < T.length → (T.getD j []).length = N) :
    ∃ R c, v = .slice (some ⟨R, 0, none⟩) T.length c ∧ ∀ j, j < T.length → ∃ b o c', w.cell? ⟨R, j, none⟩ = some (.slice (some ⟨b, o, none⟩) N c') ∧ ∀ p, p < N → w.cell? ⟨b, o + p, none⟩ = some (.bool ((T.getD j []).getD p false)) := by
  obtain ⟨ad, c, rfl, hm, hg⟩ := h
  rcases hg with hg | ⟨R, rfl, hc⟩
  · subst hg; simp at hT
  · refine ⟨R, c, rfl, fun j hj => ?_⟩
    obtain ⟨a, n, c', h1, h2⟩ := hc j hj
    have hlen := hl j hj
    obtain ⟨a', cap, he, _, hz, _⟩ := h2
    injection he with e1 e2 e3
    rcases hz with hz | ⟨b, o, e4, hcell⟩
    · rw [hz] at hlen; simp at hlen; omega
    · refine ⟨b, o, c', ?_, fun p hpp => hcell p (by omega)⟩
      rw [h1, e1, e4, e2, hlen]

set_option maxRecDepth 100000 in
set_option maxHeartbeats 4000000 in
theorem holdsBegun_any (w : World) :
    Calls Tryd.prog 44 #[] w fun e w' => e = .returned (.bool true) ∧ Below w.heap.size w w' := by
  have HH : Hid (∀ (W : World) (g h l : Nat), NodeSl W (.slice (some ⟨g, 0, none⟩) 3 3) untilF → W.heap[h]? = some (Obj.cells #[.int .i64 1, .int .i64 2] 3) → W.heap[l]? = some (Obj.cells #[.int .i64 0] 3) → Calls Tryd.prog 46 #[.slice (some ⟨g, 0, none⟩) 3 3, .agg #[.slice (some ⟨h, 0, none⟩) 2 2, .slice (some ⟨l, 0, none⟩) 1 1]] W fun e w' => e = .returned (.tuple #[.bool true, .int .i64 0]) ∧ Below W.heap.size W w') := by
    refine hide fun W g h l hn hh hl => ?_
    refine (holds_any (hs := [1, 2]) (ls := [0]) hn (ints_cells (zs := [1, 2]) hh (by decide)) (ints_cells (zs := [0]) hl (by decide))).mono ?_
    rintro e w' ⟨rfl, hb⟩
    rw [untilChk, untilTab]
    exact ⟨rfl, hb⟩
  have HT : Hid (∀ (W : World) (g h l : Nat), NodeSl W (.slice (some ⟨g, 0, none⟩) 3 3) untilF → W.heap[h]? = some (Obj.cells #[.int .i64 1, .int .i64 2] 3) → W.heap[l]? = some (Obj.cells #[.int .i64 0] 3) → Calls Tryd.prog 45 #[.slice (some ⟨g, 0, none⟩) 3 3, .agg #[.slice (some ⟨h, 0, none⟩) 2 2, .slice (some ⟨l, 0, none⟩) 1 1]] W fun e w' => ∃ R c b o c', e = .returned (.tuple #[.slice (some ⟨R, 0, none⟩) 3 c, .int .i64 0]) ∧ w'.cell? ⟨R, 2, none⟩ = some (.slice (some ⟨b, o, none⟩) 3 c') ∧ w'.cell? ⟨b, o, none⟩ = some (.bool true) ∧ w'.cell? ⟨b, o + 1, none⟩ = some (.bool true) ∧ w'.cell? ⟨b, o + 2, none⟩ = some (.bool false) ∧ Below W.heap.size W w') := by
    refine hide fun W g h l hn hh hl => ?_
    refine (table_any (hs := [1, 2]) (ls := [0]) hn (ints_cells (zs := [1, 2]) hh (by decide)) (ints_cells (zs := [0]) hl (by decide))).mono ?_
    rintro e w' ⟨v, rfl, hg, -, hb⟩
    rw [untilChk]
    have hg' := hg untilChk
    rw [untilTab] at hg'
    obtain ⟨R, c, rfl, hr⟩ := hg'.rows (N := 3) (by decide) (by decide) (by decide)
    obtain ⟨b, o, c', h1, h2⟩ := hr 2 (by decide)
    exact ⟨R, c, b, o, c', rfl, h1, h2 0 (by decide), h2 1 (by decide), h2 2 (by decide), hb⟩
  go_enter Tryd.func44, Tryd.ntmps44
  go_wp2_with (fail)
  obtain ⟨W0, hW0⟩ : ∃ W0, W0 = ((w.alloc (Obj.cells #[.int .i64 1, .int .i64 2] 3)).alloc (Obj.cells #[.int .i64 0] 3)).alloc (Obj.cells #[.slice (some ⟨w.heap.size, 0, none⟩) 2 2, .slice (some ⟨w.heap.size + 1, 0, none⟩) 1 1] 44) := ⟨_, rfl⟩
  have hbW : Below w.heap.size w W0 := by rw [hW0]; exact (by repeat (first | exact Below.refl _ _ | assumption | refine below_drewN ?_ _ | refine Below.drew ?_ | refine Below.alloc ?_ (by simp <;> omega) _ | refine below_trans ?_ (by assumption)))
  have x0 := heap_alloc_new w (Obj.cells #[.int .i64 1, .int .i64 2] 3)
  have x1 := heap_alloc_new (w.alloc (Obj.cells #[.int .i64 1, .int .i64 2] 3)) (Obj.cells #[.int .i64 0] 3)
  have x2 := heap_alloc_new ((w.alloc (Obj.cells #[.int .i64 1, .int .i64 2] 3)).alloc (Obj.cells #[.int .i64 0] 3)) (Obj.cells #[.slice (some ⟨w.heap.size, 0, none⟩) 2 2, .slice (some ⟨w.heap.size + 1, 0, none⟩) 1 1] 44)
  simp only [World.size_alloc] at x1 x2
  have x0 := heap_under (Obj.cells #[.slice (some ⟨w.heap.size, 0, none⟩) 2 2, .slice (some ⟨w.heap.size + 1, 0, none⟩) 1 1] 44) (heap_under (Obj.cells #[.int .i64 0] 3) x0)
  have x1 := heap_under (Obj.cells #[.slice (some ⟨w.heap.size, 0, none⟩) 2 2, .slice (some ⟨w.heap.size + 1, 0, none⟩) 1 1] 44) x1
  rw [← hW0] at x0 x1 x2 ⊢
  clear hW0
  have HB0 := hide hbW
  clear hbW
  generalize w.heap.size + 1 + 1 = P at *
  generalize w.heap.size + 1 = B at *
  generalize hA : w.heap.size = A at *
  have HA := hide hA
  clear hA
  have d0 : Hid (W0.heap[A]? = some (Obj.cells #[.int .i64 1, .int .i64 2] 3) ∧ W0.heap[B]? = some (Obj.cells #[.int .i64 0] 3)) := hide ⟨x0, x1⟩
  have s0 : W0.cell? ⟨P, 0, none⟩ = some (.slice (some ⟨A, 0, none⟩) 2 2) ∧ W0.cell? ⟨P, 1, none⟩ = some (.slice (some ⟨B, 0, none⟩) 1 1) := ⟨cell_of_row _ _ 0 _ _ _ x2, cell_of_row _ _ 1 _ _ _ x2⟩
  clear x0 x1 x2
  go_region_held3 (fun w' => w'.cell? ⟨P, 0, none⟩ = some (.slice (some ⟨A, 0, none⟩) 2 2) ∧ w'.cell? ⟨P, 1, none⟩ = some (.slice (some ⟨B, 0, none⟩) 1 1)) ((first | (with_reducible exact sw3) | (with_reducible exact sw2) | (with_reducible exact s0) | (exact s0))) (first | (go_at_call 79; refine (until_any _).mono ?_; rintro e w2 ⟨g2, rfl, hnw2, hbw2⟩; have dw2 : Hid (w2.heap[A]? = some (Obj.cells #[.int .i64 1, .int .i64 2] 3) ∧ w2.heap[B]? = some (Obj.cells #[.int .i64 0] 3)) := hide ⟨block_keep (heap_drew d0.out.1) hbw2, block_keep (heap_drew d0.out.2) hbw2⟩; have sw2 : w2.cell? ⟨P, 0, none⟩ = some (.slice (some ⟨A, 0, none⟩) 2 2) ∧ w2.cell? ⟨P, 1, none⟩ = some (.slice (some ⟨B, 0, none⟩) 1 1) := ⟨cell_keep (cell_drew s0.1) hbw2, cell_keep (cell_drew s0.2) hbw2⟩) | (go_at_call 46; refine (HH.out _ _ _ _ hnw2 dw2.out.1 dw2.out.2).mono ?_; rintro e w3 ⟨rfl, hbw3⟩; have dw3 : Hid (w3.heap[A]? = some (Obj.cells #[.int .i64 1, .int .i64 2] 3) ∧ w3.heap[B]? = some (Obj.cells #[.int .i64 0] 3)) := hide ⟨block_keep dw2.out.1 hbw3, block_keep dw2.out.2 hbw3⟩; have sw3 : w3.cell? ⟨P, 0, none⟩ = some (.slice (some ⟨A, 0, none⟩) 2 2) ∧ w3.cell? ⟨P, 1, none⟩ = some (.slice (some ⟨B, 0, none⟩) 1 1) := ⟨cell_keep sw2.1 hbw3, cell_keep sw2.2 hbw3⟩))
  have hb0 : Below w.heap.size w W0 := by rw [HA.out]; exact HB0.out
  have hB3 := below_trans hb0 (below_trans (below_trans (below_drawn W0 1) hbw2) hbw3)
  have HB3 := hide hB3
  clear hB3 hb0 hbw2 hbw3 hnw2 sw2 dw2 s0 d0
  go_wp2_with (fail)
  go_region_held3 (fun w' => w'.cell? ⟨P, 0, none⟩ = some (.slice (some ⟨A, 0, none⟩) 2 2) ∧ w'.cell? ⟨P, 1, none⟩ = some (.slice (some ⟨B, 0, none⟩) 1 1)) ((first | (with_reducible exact sw5) | (with_reducible exact sw4) | (with_reducible exact sw3) | (exact sw3))) (first | (go_at_call 79; refine (until_any _).mono ?_; rintro e w4 ⟨g4, rfl, hnw4, hbw4⟩; have dw4 : Hid (w4.heap[A]? = some (Obj.cells #[.int .i64 1, .int .i64 2] 3) ∧ w4.heap[B]? = some (Obj.cells #[.int .i64 0] 3)) := hide ⟨block_keep (heap_drew dw3.out.1) hbw4, block_keep (heap_drew dw3.out.2) hbw4⟩; have sw4 : w4.cell? ⟨P, 0, none⟩ = some (.slice (some ⟨A, 0, none⟩) 2 2) ∧ w4.cell? ⟨P, 1, none⟩ = some (.slice (some ⟨B, 0, none⟩) 1 1) := ⟨cell_keep (cell_drew sw3.1) hbw4, cell_keep (cell_drew sw3.2) hbw4⟩) | (go_at_call 45; refine (HT.out _ _ _ _ hnw4 dw4.out.1 dw4.out.2).mono ?_; rintro e w5 ⟨R, tc, rb, ro, rc, rfl, z0, z1, z2, z3, hbw5⟩; have dw5 : Hid (w5.heap[A]? = some (Obj.cells #[.int .i64 1, .int .i64 2] 3) ∧ w5.heap[B]? = some (Obj.cells #[.int .i64 0] 3)) := hide ⟨block_keep dw4.out.1 hbw5, block_keep dw4.out.2 hbw5⟩; have sw5 : w5.cell? ⟨P, 0, none⟩ = some (.slice (some ⟨A, 0, none⟩) 2 2) ∧ w5.cell? ⟨P, 1, none⟩ = some (.slice (some ⟨B, 0, none⟩) 1 1) := ⟨cell_keep sw4.1 hbw5, cell_keep sw4.2 hbw5⟩))
  have hB5 := below_trans HB3.out (below_trans (below_trans (below_drawn w3 1) hbw4) hbw5)
  clear hbw4 hbw5 hnw4 sw4 dw4 sw3 dw3
  go_wp2_with (fail)
  go_ret
  exact ⟨rfl, hB5⟩
end Go.Proofs.YtpiacnnifdjlkaaDoor

/-
  formulaBegun answers true.
-/
namespace Go.Proofs.YtpiacnnifdjlkaaDoor
open Go.RowKit Go.Sort

def tOpp : List UInt8 := [40, 33, 112, 48, 32, 82, 32, 33, 112, 49, 41]

theorem u_chk : chkF untilF = 0 := by decide +kernel
theorem u_neg : chkNeg untilF = 0 := by decide +kernel
theorem u_prt : prt untilF = tUntil := by decide +kernel
theorem u_opp : prt (negF untilF) = tOpp := by decide +kernel
theorem u_chk2 : chkF (negF untilF) = 0 := by decide +kernel
theorem u_two : gTwo 7 (fun _ => [⟨2, 0, 0, 0⟩]) (fun _ => [⟨2, 0, 0, 1⟩]) 0 = untilF := rfl

set_option maxRecDepth 100000 in
set_option maxHeartbeats 4000000 in
theorem formulaBegun_any {w : World} (ht : Lib.TabBelow Tryd.prog w.heap.size w "internal/strconv.uint64pow10" .u64 Lib.pow10Tab) :
    Calls Tryd.prog 39 #[] w fun e w' => e = .returned (.bool true) ∧ Below w.heap.size w w' := by
  have HT := hide ht
  clear ht
  have HP : Hid (∀ W v, NodeSl W v untilF → Below w.heap.size w W → Calls Tryd.prog 34 #[v] W fun e w' => e = .returned (.tuple #[.string ⟨#[40, 112, 48, 32, 85, 32, 112, 49, 41]⟩, .int .i64 0]) ∧ Below W.heap.size W w') := hide fun W v hv hb => by
    have := print_any hv (tab_below HT.out hb)
    rw [u_prt, u_chk] at this
    exact this
  have HP2 : Hid (∀ W v, NodeSl W v (negF untilF) → Below w.heap.size w W → Calls Tryd.prog 34 #[v] W fun e w' => e = .returned (.tuple #[.string ⟨#[40, 33, 112, 48, 32, 82, 32, 33, 112, 49, 41]⟩, .int .i64 0]) ∧ Below W.heap.size W w') := hide fun W v hv hb => by
    have := print_any hv (tab_below HT.out hb)
    rw [u_opp, u_chk2] at this
    exact this
  have HR : Hid (∀ W, Calls Tryd.prog 42 #[.string ⟨#[40, 112, 48, 32, 85, 32, 112, 49, 41]⟩] W fun e w' => ∃ v, e = .returned (.tuple #[v, .int .i64 0, .int .i64 0]) ∧ NodeSl w' v untilF ∧ Below W.heap.size W w') := hide fun W => parse_ok (T := tUntil) node_until (by decide) (by rw [u_two]; decide) (by rw [u_two]; exact u_chk) W
  have HNg : Hid (∀ W v, NodeSl W v untilF → Calls Tryd.prog 35 #[v] W fun e w' => ∃ v', e = .returned (.tuple #[v', .int .i64 0]) ∧ NodeSl w' v' (negF untilF) ∧ Below W.heap.size W w') := hide fun W v hv => by
    refine (negate_any hv).mono ?_
    rintro e w' ⟨v', rfl, h1, _, h3⟩
    exact ⟨v', by rw [u_neg], h1 u_neg, h3⟩
  have HC : Hid (∀ W v, NodeSl W v untilF → Calls Tryd.prog 40 #[v] W fun e w' => e = .returned (.int .i64 0) ∧ Below W.heap.size W w') := hide fun W v hv => by
    have := formulaCheck_any hv
    rw [u_chk] at this
    exact this
  go_enter Tryd.func39, Tryd.ntmps39
  go_wp2_with (fail)
  refine (until_any _).mono ?_
  rintro e w1 ⟨g1, rfl, hn1, hb1⟩
  go_wp2_with (fail)
  refine (HP.out _ _ hn1 hb1).mono ?_
  rintro e w2 ⟨rfl, hb2⟩
  have HB2 := hide (below_trans hb1 hb2)
  clear hn1 hb1 hb2
  go_wp2_with (fail)
  refine (HR.out _).mono ?_
  rintro e w3 ⟨v3, rfl, hn3, hb3⟩
  have HB3 := hide (below_trans HB2.out hb3)
  have HN3 := hide hn3
  clear hn3 hb3 HR HB2
  go_wp2_with (fail)
  refine (until_any _).mono ?_
  rintro e w4 ⟨g4, rfl, hn4, hb4⟩
  have HN4 := hide (HN3.out.below hb4)
  have HB4 := hide (below_trans HB3.out hb4)
  clear hb4 HB3 HN3
  go_wp2_with (fail)
  refine (HNg.out _ _ hn4).mono ?_
  rintro e w5 ⟨v5, rfl, hn5, hb5⟩
  have HN5 := hide (HN4.out.below hb5)
  have HB5 := hide (below_trans HB4.out hb5)
  clear hb5 HB4 HN4 HNg hn4
  go_wp2_with (fail)
  refine (HP2.out _ _ hn5 HB5.out).mono ?_
  rintro e w6 ⟨rfl, hb6⟩
  have HN6 := hide (HN5.out.below hb6)
  have HB6 := hide (below_trans HB5.out hb6)
  clear hb6 HB5 HN5 hn5 HP HP2
  go_wp2_with (fail)
  refine (until_any _).mono ?_
  rintro e w7 ⟨g7, rfl, hn7, hb7⟩
  have HN7 := hide (HN6.out.below hb7)
  have HB7 := hide (below_trans HB6.out hb7)
  clear hb7 HB6 HN6
  go_wp2_with (fail)
  refine (HC.out _ _ hn7).mono ?_
  rintro e w8 ⟨rfl, hb8⟩
  have HN8 := hide (HN7.out.below hb8)
  have HB8 := hide (below_trans HB7.out hb8)
  clear hb8 HB7 HN7 hn7 HC
  go_wp2_with (fail)
  refine (until_any _).mono ?_
  rintro e w9 ⟨g9, rfl, hn9, hb9⟩
  have HN9 := hide (HN8.out.below hb9)
  have HB9 := hide (below_trans HB8.out hb9)
  clear hb9 HB8 HN8
  go_wp2_with (fail)
  refine (sameFormula_eq HN9.out hn9).mono ?_
  rintro e w10 ⟨rfl, n10, rfl⟩
  have HB10 := hide (below_drewN HB9.out n10)
  clear hn9 HN9
  go_wp2_with (fail)
  go_ret
  exact ⟨rfl, HB10.out⟩
end Go.Proofs.YtpiacnnifdjlkaaDoor

/-
  FormulaBack's walk.
-/
namespace Go.Proofs.YtpiacnnifdjlkaaDoor
open Go.RowKit Go.Sort

theorem str_neq (B : ByteArray) (W : World) : (binOp .neq 9 (.string B) (.string B)).run Tryd.prog W = .ok (.bool false) W := by
  simp [go_sem]

theorem str_eql (B : ByteArray) (W : World) : (binOp .eql 9 (.string B) (.string B)).run Tryd.prog W = .ok (.bool true) W := by
  simp [go_sem]

/-- What Parse answers on a text that Print wrote. -/
theorem parse_back {F : List Nd} (hq : chkF F = 0) (w : World) :
    Calls Tryd.prog 42 #[.string ⟨(prt F).toArray⟩] w fun e w' => Below w.heap.size w w' ∧ ((∃ v L, e = .returned (.tuple #[v, .int .i64 0, .int .i64 0]) ∧ NodeSl w' v L ∧ prt L = prt F ∧ chkF L = 0) ∨ (∃ q, e = .returned (.tuple #[.slice none 0 0, .int .i64 q, .int .i64 2]))) := by
  obtain ⟨hM0, -, hall⟩ := chkF_ok hq
  have hp : prt F = sh F (F.length - 1) := by unfold prt; rw [if_pos hq]
  rw [hp]
  refine (parse_gen (fun hT => comes_un hall (F.length - 1) (by omega) hT) w).mono ?_
  rintro e w' ⟨hb, ⟨-, v, L, rfl, hv, ⟨rfl, -⟩, hc⟩ | ⟨q, c, rfl, hc0, hwhy⟩⟩
  · refine ⟨hb, Or.inl ⟨v, _, rfl, hv, ?_, hc⟩⟩
    unfold prt
    rw [if_pos hc]
    exact sh_un0 hall (F.length - 1) (by omega)
  · refine ⟨hb, Or.inr ⟨q, ?_⟩⟩
    have : c = 2 := by
      rcases hwhy with h | h | ⟨L, n, ⟨-, hn⟩, hlt⟩ | ⟨L, ⟨rfl, -⟩, rfl⟩
      · exact h
      · exact h.elim
      · omega
      · rcases chk_un hall (F.length - 1) (by omega) with h | h
        · exact absurd h hc0
        · exact h
    rw [this]

/-- What Parse answers on any text. -/
theorem parse_text (S : List UInt8) (w : World) :
    Calls Tryd.prog 42 #[.string ⟨S.toArray⟩] w fun e w' => Below w.heap.size w w' ∧ ((∃ v L, e = .returned (.tuple #[v, .int .i64 0, .int .i64 0]) ∧ NodeSl w' v L ∧ prt L = S ∧ chkF L = 0) ∨ (∃ q c, e = .returned (.tuple #[.slice none 0 0, .int .i64 q, .int .i64 c]) ∧ c ≠ 0)) := by
  refine (parse_gen (fun hT => comes_any hT) w).mono ?_
  rintro e w' ⟨hb, ⟨-, v, L, rfl, hv, hp, hc⟩ | ⟨q, c, rfl, hc0, -⟩⟩
  · exact ⟨hb, Or.inl ⟨v, L, rfl, hv, ppg_prt hp hc, hc⟩⟩
  · exact ⟨hb, Or.inr ⟨q, c, rfl, hc0⟩⟩

set_option maxRecDepth 100000 in
set_option maxHeartbeats 8000000 in
theorem formulaBack_any {w : World} {fv : Value} {F : List Nd} {S : List UInt8} (hF : NodeSl w fv F) (ht : Lib.TabBelow Tryd.prog w.heap.size w "internal/strconv.uint64pow10" .u64 Lib.pow10Tab) :
    Calls Tryd.prog 11 #[fv, .string ⟨S.toArray⟩] w fun e w' => e = .returned (.bool true) ∧ Below w.heap.size w w' := by
  have HFB : Hid (∀ W, Below w.heap.size w W → Calls Tryd.prog 39 #[] W fun e w' => e = .returned (.bool true) ∧ Below W.heap.size W w') := hide fun W hb => formulaBegun_any (tab_below ht hb)
  have HPr : Hid (∀ W v G, Below w.heap.size w W → NodeSl W v G → Calls Tryd.prog 34 #[v] W fun e w' => e = .returned (.tuple #[.string ⟨(prt G).toArray⟩, .int .i64 (chkF G)]) ∧ Below W.heap.size W w') := hide fun W v G hb hG => print_any hG (tab_below ht hb)
  have HBk : Hid (chkF F = 0 → ∀ W, Calls Tryd.prog 42 #[.string ⟨(prt F).toArray⟩] W fun e w' => Below W.heap.size W w' ∧ ((∃ v L, e = .returned (.tuple #[v, .int .i64 0, .int .i64 0]) ∧ NodeSl w' v L ∧ prt L = prt F ∧ chkF L = 0) ∨ (∃ q, e = .returned (.tuple #[.slice none 0 0, .int .i64 q, .int .i64 2])))) := hide fun hq W => parse_back hq W
  have HTx : Hid (∀ W, Calls Tryd.prog 42 #[.string ⟨S.toArray⟩] W fun e w' => Below W.heap.size W w' ∧ ((∃ v L, e = .returned (.tuple #[v, .int .i64 0, .int .i64 0]) ∧ NodeSl w' v L ∧ prt L = S ∧ chkF L = 0) ∨ (∃ q c, e = .returned (.tuple #[.slice none 0 0, .int .i64 q, .int .i64 c]) ∧ c ≠ 0))) := hide fun W => parse_text S W
  have HF := hide hF
  clear ht
  obtain ⟨a, cap, rfl, hm, -⟩ := hF
  have sn := str_neq
  have se := str_eql
  go_enter Tryd.func11, Tryd.ntmps11
  go_wp2_with (fail)
  refine (HFB.out _ (Below.refl _ _)).mono ?_
  rintro e w1 ⟨rfl, hb1⟩
  have HB1 := hide hb1
  have HF1 := hide (HF.out.below hb1)
  clear hb1 HFB
  go_wp2_with (fail)
  refine (HPr.out _ _ F HB1.out HF1.out).mono ?_
  rintro e w2 ⟨rfl, hb2⟩
  have HB2 := hide (below_trans HB1.out hb2)
  clear hb2 HB1 HF1
  by_cases hq : chkF F = 0
  · have HBk := hide (HBk.out hq)
    rw [hq]
    clear hq
    go_wp2_with (fail)
    refine (HBk.out _).mono ?_
    rintro e w3 ⟨hb3, ⟨v3, L3, rfl, hv3, hp3, hc3⟩ | ⟨q3, rfl⟩⟩
    · have HB3 := hide (below_trans HB2.out hb3)
      have HPu := hide (HPr.out _ _ L3 HB3.out hv3)
      rw [hp3, hc3] at HPu
      obtain ⟨a3, cap3, rfl, hm3, -⟩ := hv3
      clear hb3 hp3 hc3 HB2 HBk
      go_wp2_with (fail)
      refine HPu.out.mono ?_
      rintro e w4 ⟨rfl, hb4⟩
      have HB4 := hide (below_trans HB3.out hb4)
      clear hb4 HB3 HPu
      go_wp2_with (fail)
      refine (HTx.out _).mono ?_
      rintro e w5 ⟨hb5, ⟨v5, L5, rfl, hv5, hp5, hc5⟩ | ⟨q5, c5, rfl, hc5⟩⟩
      · have HB5 := hide (below_trans HB4.out hb5)
        have HPv := hide (HPr.out _ _ L5 HB5.out hv5)
        rw [hp5, hc5] at HPv
        obtain ⟨a5, cap5, rfl, hm5, -⟩ := hv5
        clear hb5 hp5 hc5 HB4 HTx
        go_wp2_with (fail)
        refine HPv.out.mono ?_
        rintro e w6 ⟨rfl, hb6⟩
        have HB6 := hide (below_trans HB5.out hb6)
        clear hb6 HB5 HPv
        go_wp2_with (fail)
        go_ret
        exact ⟨rfl, HB6.out⟩
      · have HB5 := hide (below_trans HB4.out hb5)
        have bc : (c5 != 0) = true := by simpa using hc5
        clear hb5 hc5 HB4 HTx
        go_wp2_with (fail)
        go_ret
        exact ⟨rfl, HB5.out⟩
    · have HB4 := hide (below_trans HB2.out hb3)
      clear hb3 HB2 HBk
      go_wp2_with (fail)
      refine (HTx.out _).mono ?_
      rintro e w5 ⟨hb5, ⟨v5, L5, rfl, hv5, hp5, hc5⟩ | ⟨q5, c5, rfl, hc5⟩⟩
      · have HB5 := hide (below_trans HB4.out hb5)
        have HPv := hide (HPr.out _ _ L5 HB5.out hv5)
        rw [hp5, hc5] at HPv
        obtain ⟨a5, cap5, rfl, hm5, -⟩ := hv5
        clear hb5 hp5 hc5 HB4 HTx
        go_wp2_with (fail)
        refine HPv.out.mono ?_
        rintro e w6 ⟨rfl, hb6⟩
        have HB6 := hide (below_trans HB5.out hb6)
        clear hb6 HB5 HPv
        go_wp2_with (fail)
        go_ret
        exact ⟨rfl, HB6.out⟩
      · have HB5 := hide (below_trans HB4.out hb5)
        have bc : (c5 != 0) = true := by simpa using hc5
        clear hb5 hc5 HB4 HTx
        go_wp2_with (fail)
        go_ret
        exact ⟨rfl, HB5.out⟩
  · have bq : (chkF F == 0) = false := by simpa using hq
    generalize chkF F = cF at *
    have HB4 := hide HB2.out
    clear hq HB2 HBk
    go_wp2_with (fail)
    refine (HTx.out _).mono ?_
    rintro e w5 ⟨hb5, ⟨v5, L5, rfl, hv5, hp5, hc5⟩ | ⟨q5, c5, rfl, hc5⟩⟩
    · have HB5 := hide (below_trans HB4.out hb5)
      have HPv := hide (HPr.out _ _ L5 HB5.out hv5)
      rw [hp5, hc5] at HPv
      obtain ⟨a5, cap5, rfl, hm5, -⟩ := hv5
      clear hb5 hp5 hc5 HB4 HTx
      go_wp2_with (fail)
      refine HPv.out.mono ?_
      rintro e w6 ⟨rfl, hb6⟩
      have HB6 := hide (below_trans HB5.out hb6)
      clear hb6 HB5 HPv
      go_wp2_with (fail)
      go_ret
      exact ⟨rfl, HB6.out⟩
    · have HB5 := hide (below_trans HB4.out hb5)
      have bc : (c5 != 0) = true := by simpa using hc5
      clear hb5 hc5 HB4 HTx
      go_wp2_with (fail)
      go_ret
      exact ⟨rfl, HB5.out⟩
end Go.Proofs.YtpiacnnifdjlkaaDoor

namespace Go.Proofs.YtpiacnnifdjlkaaDoor
open Go.ChangeShapes Go.WideShapes Go.ChangeAt Go.RowKit Go.Deep
set_option maxRecDepth 100000

theorem cellsIntE : Tryd.prog.cellsOf 3 = 1 := by kernel_rfl
theorem cellsNodeE : Tryd.prog.cellsOf 74 = 4 := by kernel_rfl

theorem plainE {W : World} {a : Addr} {v : Value} (h : W.cell? (a.add 0) = some v) : ∃ b off, a = ⟨b, off, none⟩ := by
  obtain ⟨b, off, spot⟩ := a
  simp only [Addr.add, if_true, World.cell?] at h
  split at h
  · cases spot with
    | none => exact ⟨b, off, rfl⟩
    | some s => simp at h
  · cases h

theorem intsE_of_trod {H : Type} {enc : TypeId × Value → H} {W : World} {n : Nat} {u : Value} {y : DataW H × List MemPlace} (h : DataW.trod enc Tryd.prog W 0 (fun _ => true) true n 22 [u] = some y) :
    ∃ zs, IntSl W u zs := by
  rcases open_ints Tryd.underlying22 Tryd.underlying3 cellsIntE h with ⟨hcs, _⟩ | ⟨a, len, cap, zs, hcs, _, hl, hm, hz, _, hcell, hwz⟩
  · simp only [List.cons.injEq, and_true] at hcs
    subst hcs
    exact ⟨[], .none, 0, rfl, by simp [maxLen], Or.inl rfl, fun _ => rfl, by simp⟩
  · simp only [List.cons.injEq, and_true] at hcs
    subst hcs
    have hz' : zs.length = cap := hz
    have hlen : (zs.take len).length = len := by rw [List.length_take]; omega
    refine ⟨zs.take len, some a, cap, by rw [hlen], by rw [hlen]; omega, ?_, fun e => (by cases e), by rw [hlen]; exact hl⟩
    by_cases h0 : len = 0
    · left
      rw [h0]
      rfl
    · right
      obtain ⟨b, off, rfl⟩ := plainE (hcell 0 (by omega))
      refine ⟨b, off, rfl, fun i hi => ?_⟩
      rw [hlen] at hi
      have ci := hcell i (by omega)
      rw [add_none] at ci
      rw [ci]
      congr 2
      simp [List.getD, hi]

theorem lassoE_of_trod {H : Type} {enc : TypeId × Value → H} {W : World} {r : Reach} {b0 : Nat} {v : Value} {d : DataW H} {p : List MemPlace} (hv : Value.okWide Tryd.prog W r b0 44 v) (h : DataW.Trod enc Tryd.prog W 0 (fun _ => true) true 44 v d p) :
    ∃ hv lv hs ls, v = .agg #[hv, lv] ∧ IntSl W hv hs ∧ IntSl W lv ls := by
  obtain ⟨v0, v1, y0, y1, n, rfl, _, _, t0, t1⟩ := Go.Joins.open_agg2 Tryd.underlying44 (by kernel_rfl) (by kernel_rfl) hv h
  obtain ⟨hs, i0⟩ := intsE_of_trod t0
  obtain ⟨ls, i1⟩ := intsE_of_trod t1
  exact ⟨v0, v1, hs, ls, rfl, i0, i1⟩

theorem intE {H : Type} {enc : TypeId × Value → H} {W : World} {n : Nat} {c : Value} {y : DataW H × List MemPlace} (h : DataW.trod enc Tryd.prog W 0 (fun _ => true) true n 3 [c] = some y) : ∃ z, c = .int .i64 z := by
  obtain ⟨z, hc, _, hw⟩ := DataW.trod_int Tryd.underlying3 h
  simp only [List.cons.injEq, and_true] at hc
  exact ⟨z, hc⟩

theorem four_of {cs : List Value} (h : cs.length = 4) : ∃ c0 c1 c2 c3, cs = [c0, c1, c2, c3] := by
  match cs, h with
  | [c0, c1, c2, c3], _ => exact ⟨c0, c1, c2, c3, rfl⟩

theorem nodeE_of_trod {H : Type} {enc : TypeId × Value → H} {W : World} {n : Nat} {cs : List Value} {y : DataW H × List MemPlace} (h : DataW.trod enc Tryd.prog W 0 (fun _ => true) true n 74 cs = some y) :
    ∃ s : Nd, cs = [.int .i64 s.k, .int .i64 s.a, .int .i64 s.b, .int .i64 s.n] := by
  obtain ⟨xs, m, _, _, hl, hlen, hfs⟩ := DataW.trod_struct Tryd.underlying74 h
  have hx : xs.length = 4 := hlen
  rw [cellsNodeE] at hl
  obtain ⟨c0, c1, c2, c3, rfl⟩ := four_of hl
  have key : ∀ i (hi : i < 4), xs[i]? = some (xs[i]'(by omega)) := fun i hi => List.getElem?_eq_getElem (by omega)
  have t0 : DataW.trod enc Tryd.prog W 0 (fun _ => true) true m 3 (List.take (Tryd.prog.cellsOf 3) (List.drop 0 [c0, c1, c2, c3])) = some (xs[0]'(by omega)) := (hfs 0 _ rfl).trans (key 0 (by omega))
  have t1 : DataW.trod enc Tryd.prog W 0 (fun _ => true) true m 3 (List.take (Tryd.prog.cellsOf 3) (List.drop 1 [c0, c1, c2, c3])) = some (xs[1]'(by omega)) := (hfs 1 _ rfl).trans (key 1 (by omega))
  have t2 : DataW.trod enc Tryd.prog W 0 (fun _ => true) true m 3 (List.take (Tryd.prog.cellsOf 3) (List.drop 2 [c0, c1, c2, c3])) = some (xs[2]'(by omega)) := (hfs 2 _ rfl).trans (key 2 (by omega))
  have t3 : DataW.trod enc Tryd.prog W 0 (fun _ => true) true m 3 (List.take (Tryd.prog.cellsOf 3) (List.drop 3 [c0, c1, c2, c3])) = some (xs[3]'(by omega)) := (hfs 3 _ rfl).trans (key 3 (by omega))
  rw [cellsIntE] at t0 t1 t2 t3
  obtain ⟨z0, rfl⟩ := intE t0
  obtain ⟨z1, rfl⟩ := intE t1
  obtain ⟨z2, rfl⟩ := intE t2
  obtain ⟨z3, rfl⟩ := intE t3
  exact ⟨⟨z0, z1, z2, z3⟩, rfl⟩

theorem nodesE_of_trod {H : Type} {enc : TypeId × Value → H} {W : World} {n : Nat} {u : Value} {y : DataW H × List MemPlace} (h : DataW.trod enc Tryd.prog W 0 (fun _ => true) true n 59 [u] = some y) :
    ∃ zs, NodeSl W u zs := by
  rcases open_slice Tryd.underlying59 h with ⟨hcs, _⟩ | ⟨a, len, cap, m, k, D, Pl, hcs, _, hl, hm, hmm, _, hel⟩
  · simp only [List.cons.injEq, and_true] at hcs
    subst hcs
    exact ⟨[], .none, 0, rfl, by simp [maxLen], Or.inl rfl, fun _ => rfl, by simp⟩
  · simp only [List.cons.injEq, and_true] at hcs
    subst hcs
    simp only [if_true] at hmm
    subst hmm
    rw [cellsNodeE] at hel
    have each : ∀ i, i < m → ∃ s : Nd, W.cell? ((a.add (i * 4)).add 0) = some (.int .i64 s.k) ∧ W.cell? ((a.add (i * 4)).add 1) = some (.int .i64 s.a) ∧ W.cell? ((a.add (i * 4)).add 2) = some (.int .i64 s.b) ∧ W.cell? ((a.add (i * 4)).add 3) = some (.int .i64 s.n) := by
      intro i hi
      obtain ⟨cs', hc, ht⟩ := hel i hi
      obtain ⟨s, rfl⟩ := nodeE_of_trod ht
      obtain ⟨_, _, hcell⟩ := World.cells?_some hc
      exact ⟨s, hcell 0 (by omega), hcell 1 (by omega), hcell 2 (by omega), hcell 3 (by omega)⟩
    obtain ⟨S, hS⟩ := @choose_lt Nd ⟨nd0⟩ _ _ each
    have hlen : ((List.range len).map S).length = len := by simp
    refine ⟨(List.range len).map S, some a, m, by rw [hlen], by rw [hlen]; omega, ?_, fun e => (by cases e), by rw [hlen]; exact hl⟩
    by_cases h0 : len = 0
    · left
      rw [h0]
      rfl
    · right
      have c0 := (hS 0 (by omega)).1
      rw [Nat.zero_mul] at c0
      have c00 : W.cell? (a.add 0) = some (.int .i64 (S 0).k) := c0
      obtain ⟨b, off, rfl⟩ := plainE c00
      refine ⟨b, off, rfl, fun i hi => ?_⟩
      rw [hlen] at hi
      obtain ⟨q0, q1, q2, q3⟩ := hS i (by omega)
      rw [add_none, add_none] at q0 q1 q2 q3
      have e : ((List.range len).map S).getD i nd0 = S i := by simp [List.getD, hi]
      rw [e]
      exact ⟨q0, q1, q2, q3⟩

theorem formulaE_of_trod {H : Type} {enc : TypeId × Value → H} {W : World} {r : Reach} {b0 : Nat} {v : Value} {d : DataW H} {p : List MemPlace} (hv : Value.okWide Tryd.prog W r b0 59 v) (h : DataW.Trod enc Tryd.prog W 0 (fun _ => true) true 59 v d p) :
    ∃ F, NodeSl W v F := by
  obtain ⟨a, len, cap, rfl⟩ := okWide_slice Tryd.underlying59 hv
  obtain ⟨fuel, hf⟩ := h
  exact nodesE_of_trod hf
end Go.Proofs.YtpiacnnifdjlkaaDoor
