/-
  What a formula and a lasso among the arguments read as.
-/
import Derived.Test.YtpiacnnifdjlkaaDoorEo
import Derived.Test.YtpiacnnifdjlkaaDoorGf
import Derived.Test.YtpiacnnifdjlkaaDoorAz
import Derived.WalkKit
import Derived.ProofKit
import Derived.OpenShut
import Derived.Carry
import Derived.Deep.DeepHandedRow
import Derived.Lib.SmallJoins
import Derived.Deep.Grids
import Derived.Deep.Strs
/-
  What must be in any case: holdsBegun is true.
-/
namespace Go.Proofs.YtpiacnnifdjlkaaDoor
open Go.RowKit Go.Sort

def untilF : List Nd := [⟨2, 0, 0, 0⟩, ⟨2, 0, 0, 1⟩, ⟨7, 0, 1, 0⟩]

set_option maxHeartbeats 1000000 in
theorem until_any (w : World) :
    Calls Tryd.prog 79 #[] w fun e w' => ∃ g, e = .returned (.slice (some ⟨g, 0, none⟩) 3 3) ∧ NodeSl w' (.slice (some ⟨g, 0, none⟩) 3 3) untilF ∧ Below w.heap.size w w' := by
  go_enter Tryd.func79, Tryd.ntmps79
  go_wp2_with (fail)
  go_ret
  refine ⟨w.heap.size, rfl, ⟨_, _, rfl, by decide, Or.inr ⟨w.heap.size, 0, rfl, fun i hi => ?_⟩, (fun h => by cases h), by decide⟩, (by repeat (first | exact Below.refl _ _ | assumption | refine below_drewN ?_ _ | refine Below.drew ?_ | refine Below.alloc ?_ (by simp <;> omega) _ | refine below_trans ?_ (by assumption)))⟩
  have hb := heap_alloc_new w (Obj.cells #[.int .i64 2, .int .i64 0, .int .i64 0, .int .i64 0, .int .i64 2, .int .i64 0, .int .i64 0, .int .i64 1, .int .i64 7, .int .i64 0, .int .i64 1, .int .i64 0] 74)
  have h3 : i = 0 ∨ i = 1 ∨ i = 2 := by simp [untilF] at hi; omega
  rcases h3 with rfl | rfl | rfl
  · exact ⟨cell_of_row _ _ 0 _ _ _ hb, cell_of_row _ _ 1 _ _ _ hb, cell_of_row _ _ 2 _ _ _ hb, cell_of_row _ _ 3 _ _ _ hb⟩
  · exact ⟨cell_of_row _ _ 4 _ _ _ hb, cell_of_row _ _ 5 _ _ _ hb, cell_of_row _ _ 6 _ _ _ hb, cell_of_row _ _ 7 _ _ _ hb⟩
  · exact ⟨cell_of_row _ _ 8 _ _ _ hb, cell_of_row _ _ 9 _ _ _ hb, cell_of_row _ _ 10 _ _ _ hb, cell_of_row _ _ 11 _ _ _ hb⟩

theorem untilChk : chkT untilF [1, 2] [0] = 0 := by decide +kernel
theorem untilTab : tabF untilF [1, 2] [0] = [[true, false, false], [false, true, false], [true, true, false]] := by decide +kernel

theorem ints_cells {w : World} {g : Nat} {zs : List Int} (h : w.heap[g]? = some (.cells (zs.map (Value.int .i64)).toArray 3)) (hl : zs.length ≤ 100) : IntSl w (.slice (some ⟨g, 0, none⟩) zs.length zs.length) zs :=
  ⟨_, _, rfl, by unfold maxLen; omega, Or.inr ⟨g, 0, rfl, fun i hi => by rw [Nat.zero_add, cell_of_row w g i _ _ _ h]; simp [List.getD, hi]⟩, (fun h => by cases h), Nat.le_refl _⟩

/-- The rows of a table, all as long. -/
theorem GridSl.rows {w : World} {v : Value} {T : List (List Bool)} {N : Nat} (h : GridSl w v T) (hT : 0 < T.length) (hN : 0 < N) (hl : ∀ j, j < T.length → (T.getD j []).length = N) :
    ∃ R c, v = .slice (some ⟨R, 0, none⟩) T.length c ∧ ∀ j, j < T.length → ∃ b o c', w.cell? ⟨R, j, none⟩ = some (.slice (some ⟨b, o, none⟩) N c') ∧ ∀ p, p < N → w.cell? ⟨b, o + p, none⟩ = some (.bool ((T.getD j []).getD p false)) := by
  obtain ⟨ad, c, rfl, hm, hg⟩ := h
  rcases hg with hg | ⟨R, rfl, hc⟩
  · subst hg; simp at hT
  · refine ⟨R, c, rfl, fun j hj => ?_⟩
    obtain ⟨a, n, c', h1, h2⟩ := hc j hj
    have hlen := hl j hj
    obtain ⟨a', cap, he, _, hz, _⟩ := h2
    injection he with e1 e2 e3
    rcases hz with hz | ⟨b, o, e4, hcell⟩
    · rw [hz] at hlen; simp at hlen; omega
    · refine ⟨b, o, c', ?_, fun p hpp => hcell p (by omega)⟩
      rw [h1, e1, e4, e2, hlen]

set_option maxRecDepth 100000 in
set_option maxHeartbeats 4000000 in
theorem holdsBegun_any (w : World) :
    Calls Tryd.prog 44 #[] w fun e w' => e = .returned (.bool true) ∧ Below w.heap.size w w' := by
  have HH : Hid (∀ (W : World) (g h l : Nat), NodeSl W (.slice (some ⟨g, 0, none⟩) 3 3) untilF → W.heap[h]? = some (Obj.cells #[.int .i64 1, .int .i64 2] 3) → W.heap[l]? = some (Obj.cells #[.int .i64 0] 3) → Calls Tryd.prog 46 #[.slice (some ⟨g, 0, none⟩) 3 3, .agg #[.slice (some ⟨h, 0, none⟩) 2 2, .slice (some ⟨l, 0, none⟩) 1 1]] W fun e w' => e = .returned (.tuple #[.bool true, .int .i64 0]) ∧ Below W.heap.size W w') := by
    refine hide fun W g h l hn hh hl => ?_
    refine (holds_any (hs := [1, 2]) (ls := [0]) hn (ints_cells (zs := [1, 2]) hh (by decide)) (ints_cells (zs := [0]) hl (by decide))).mono ?_
    rintro e w' ⟨rfl, hb⟩
    rw [untilChk, untilTab]
    exact ⟨rfl, hb⟩
  have HT : Hid (∀ (W : World) (g h l : Nat), NodeSl W (.slice (some ⟨g, 0, none⟩) 3 3) untilF → W.heap[h]? = some (Obj.cells #[.int .i64 1, .int .i64 2] 3) → W.heap[l]? = some (Obj.cells #[.int .i64 0] 3) → Calls Tryd.prog 45 #[.slice (some ⟨g, 0, none⟩) 3 3, .agg #[.slice (some ⟨h, 0, none⟩) 2 2, .slice (some ⟨l, 0, none⟩) 1 1]] W fun e w' => ∃ R c b o c', e = .returned (.tuple #[.slice (some ⟨R, 0, none⟩) 3 c, .int .i64 0]) ∧ w'.cell? ⟨R, 2, none⟩ = some (.slice (some ⟨b, o, none⟩) 3 c') ∧ w'.cell? ⟨b, o, none⟩ = some (.bool true) ∧ w'.cell? ⟨b, o + 1, none⟩ = some (.bool true) ∧ w'.cell? ⟨b, o + 2, none⟩ = some (.bool false) ∧ Below W.heap.size W w') := by
    refine hide fun W g h l hn hh hl => ?_
    refine (table_any (hs := [1, 2]) (ls := [0]) hn (ints_cells (zs := [1, 2]) hh (by decide)) (ints_cells (zs := [0]) hl (by decide))).mono ?_
    rintro e w' ⟨v, rfl, hg, -, hb⟩
    rw [untilChk]
    have hg' := hg untilChk
    rw [untilTab] at hg'
    obtain ⟨R, c, rfl, hr⟩ := hg'.rows (N := 3) (by decide) (by decide) (by decide)
    obtain ⟨b, o, c', h1, h2⟩ := hr 2 (by decide)
    exact ⟨R, c, b, o, c', rfl, h1, h2 0 (by decide), h2 1 (by decide), h2 2 (by decide), hb⟩
  go_enter Tryd.func44, Tryd.ntmps44
  go_wp2_with (fail)
  obtain ⟨W0, hW0⟩ : ∃ W0, W0 = ((w.alloc (Obj.cells #[.int .i64 1, .int .i64 2] 3)).alloc (Obj.cells #[.int .i64 0] 3)).alloc (Obj.cells #[.slice (some ⟨w.heap.size, 0, none⟩) 2 2, .slice (some ⟨w.heap.size + 1, 0, none⟩) 1 1] 44) := ⟨_, rfl⟩
  have hbW : Below w.heap.size w W0 := by rw [hW0]; exact (by repeat (first | exact Below.refl _ _ | assumption | refine below_drewN ?_ _ | refine Below.drew ?_ | refine Below.alloc ?_ (by simp <;> omega) _ | refine below_trans ?_ (by assumption)))
  have x0 := heap_alloc_new w (Obj.cells #[.int .i64 1, .int .i64 2] 3)
  have x1 := heap_alloc_new (w.alloc (Obj.cells #[.int .i64 1, .int .i64 2] 3)) (Obj.cells #[.int .i64 0] 3)
  have x2 := heap_alloc_new ((w.alloc (Obj.cells #[.int .i64 1, .int .i64 2] 3)).alloc (Obj.cells #[.int .i64 0] 3)) (Obj.cells #[.slice (some ⟨w.heap.size, 0, none⟩) 2 2, .slice (some ⟨w.heap.size + 1, 0, none⟩) 1 1] 44)
  simp only [World.size_alloc] at x1 x2
  have x0 := heap_under (Obj.cells #[.slice (some ⟨w.heap.size, 0, none⟩) 2 2, .slice (some ⟨w.heap.size + 1, 0, none⟩) 1 1] 44) (heap_under (Obj.cells #[.int .i64 0] 3) x0)
  have x1 := heap_under (Obj.cells #[.slice (some ⟨w.heap.size, 0, none⟩) 2 2, .slice (some ⟨w.heap.size + 1, 0, none⟩) 1 1] 44) x1
  rw [← hW0] at x0 x1 x2 ⊢
  clear hW0
  have HB0 := hide hbW
  clear hbW
  generalize w.heap.size + 1 + 1 = P at *
  generalize w.heap.size + 1 = B at *
  generalize hA : w.heap.size = A at *
  have HA := hide hA
  clear hA
  have d0 : Hid (W0.heap[A]? = some (Obj.cells #[.int .i64 1, .int .i64 2] 3) ∧ W0.heap[B]? = some (Obj.cells #[.int .i64 0] 3)) := hide ⟨x0, x1⟩
  have s0 : W0.cell? ⟨P, 0, none⟩ = some (.slice (some ⟨A, 0, none⟩) 2 2) ∧ W0.cell? ⟨P, 1, none⟩ = some (.slice (some ⟨B, 0, none⟩) 1 1) := ⟨cell_of_row _ _ 0 _ _ _ x2, cell_of_row _ _ 1 _ _ _ x2⟩
  clear x0 x1 x2
  go_region_held3 (fun w' => w'.cell? ⟨P, 0, none⟩ = some (.slice (some ⟨A, 0, none⟩) 2 2) ∧ w'.cell? ⟨P, 1, none⟩ = some (.slice (some ⟨B, 0, none⟩) 1 1)) ((first | (with_reducible exact sw3) | (with_reducible exact sw2) | (with_reducible exact s0) | (exact s0))) (first | (go_at_call 79; refine (until_any _).mono ?_; rintro e w2 ⟨g2, rfl, hnw2, hbw2⟩; have dw2 : Hid (w2.heap[A]? = some (Obj.cells #[.int .i64 1, .int .i64 2] 3) ∧ w2.heap[B]? = some (Obj.cells #[.int .i64 0] 3)) := hide ⟨block_keep (heap_drew d0.out.1) hbw2, block_keep (heap_drew d0.out.2) hbw2⟩; have sw2 : w2.cell? ⟨P, 0, none⟩ = some (.slice (some ⟨A, 0, none⟩) 2 2) ∧ w2.cell? ⟨P, 1, none⟩ = some (.slice (some ⟨B, 0, none⟩) 1 1) := ⟨cell_keep (cell_drew s0.1) hbw2, cell_keep (cell_drew s0.2) hbw2⟩) | (go_at_call 46; refine (HH.out _ _ _ _ hnw2 dw2.out.1 dw2.out.2).mono ?_; rintro e w3 ⟨rfl, hbw3⟩; have dw3 : Hid (w3.heap[A]? = some (Obj.cells #[.int .i64 1, .int .i64 2] 3) ∧ w3.heap[B]? = some (Obj.cells #[.int .i64 0] 3)) := hide ⟨block_keep dw2.out.1 hbw3, block_keep dw2.out.2 hbw3⟩; have sw3 : w3.cell? ⟨P, 0, none⟩ = some (.slice (some ⟨A, 0, none⟩) 2 2) ∧ w3.cell? ⟨P, 1, none⟩ = some (.slice (some ⟨B, 0, none⟩) 1 1) := ⟨cell_keep sw2.1 hbw3, cell_keep sw2.2 hbw3⟩))
  have hb0 : Below w.heap.size w W0 := by rw [HA.out]; exact HB0.out
  have hB3 := below_trans hb0 (below_trans (below_trans (below_drawn W0 1) hbw2) hbw3)
  have HB3 := hide hB3
  clear hB3 hb0 hbw2 hbw3 hnw2 sw2 dw2 s0 d0
  go_wp2_with (fail)
  go_region_held3 (fun w' => w'.cell? ⟨P, 0, none⟩ = some (.slice (some ⟨A, 0, none⟩) 2 2) ∧ w'.cell? ⟨P, 1, none⟩ = some (.slice (some ⟨B, 0, none⟩) 1 1)) ((first | (with_reducible exact sw5) | (with_reducible exact sw4) | (with_reducible exact sw3) | (exact sw3))) (first | (go_at_call 79; refine (until_any _).mono ?_; rintro e w4 ⟨g4, rfl, hnw4, hbw4⟩; have dw4 : Hid (w4.heap[A]? = some (Obj.cells #[.int .i64 1, .int .i64 2] 3) ∧ w4.heap[B]? = some (Obj.cells #[.int .i64 0] 3)) := hide ⟨block_keep (heap_drew dw3.out.1) hbw4, block_keep (heap_drew dw3.out.2) hbw4⟩; have sw4 : w4.cell? ⟨P, 0, none⟩ = some (.slice (some ⟨A, 0, none⟩) 2 2) ∧ w4.cell? ⟨P, 1, none⟩ = some (.slice (some ⟨B, 0, none⟩) 1 1) := ⟨cell_keep (cell_drew sw3.1) hbw4, cell_keep (cell_drew sw3.2) hbw4⟩) | (go_at_call 45; refine (HT.out _ _ _ _ hnw4 dw4.out.1 dw4.out.2).mono ?_; rintro e w5 ⟨R, tc, rb, ro, rc, rfl, z0, z1, z2, z3, hbw5⟩; have dw5 : Hid (w5.heap[A]? = some (Obj.cells #[.int .i64 1, .int .i64 2] 3) ∧ w5.heap[B]? = some (Obj.cells #[.int .i64 0] 3)) := hide ⟨block_keep dw4.out.1 hbw5, block_keep dw4.out.2 hbw5⟩; have sw5 : w5.cell? ⟨P, 0, none⟩ = some (.slice (some ⟨A, 0, none⟩) 2 2) ∧ w5.cell? ⟨P, 1, none⟩ = some (.slice (some ⟨B, 0, none⟩) 1 1) := ⟨cell_keep sw4.1 hbw5, cell_keep sw4.2 hbw5⟩))
  have hB5 := below_trans HB3.out (below_trans (below_trans (below_drawn w3 1) hbw4) hbw5)
  clear hbw4 hbw5 hnw4 sw4 dw4 sw3 dw3
  go_wp2_with (fail)
  go_ret
  exact ⟨rfl, hB5⟩
end Go.Proofs.YtpiacnnifdjlkaaDoor

/-
  formulaBegun answers true.
-/
namespace Go.Proofs.YtpiacnnifdjlkaaDoor
open Go.RowKit Go.Sort

def tOpp : List UInt8 := [40, 33, 112, 48, 32, 82, 32, 33, 112, 49, 41]

theorem u_chk : chkF untilF = 0 := by decide +kernel
theorem u_neg : chkNeg untilF = 0 := by decide +kernel
theorem u_prt : prt untilF = tUntil := by decide +kernel
theorem u_opp : prt (negF untilF) = tOpp := by decide +kernel
theorem u_chk2 : chkF (negF untilF) = 0 := by decide +kernel
theorem u_two : gTwo 7 (fun _ => [⟨2, 0, 0, 0⟩]) (fun _ => [⟨2, 0, 0, 1⟩]) 0 = untilF := rfl

set_option maxRecDepth 100000 in
set_option maxHeartbeats 4000000 in
theorem formulaBegun_any {w : World} (ht : Lib.TabBelow Tryd.prog w.heap.size w "internal/strconv.uint64pow10" .u64 Lib.pow10Tab) :
    Calls Tryd.prog 39 #[] w fun e w' => e = .returned (.bool true) ∧ Below w.heap.size w w' := by
  have HT := hide ht
  clear ht
  have HP : Hid (∀ W v, NodeSl W v untilF → Below w.heap.size w W → Calls Tryd.prog 34 #[v] W fun e w' => e = .returned (.tuple #[.string ⟨#[40, 112, 48, 32, 85, 32, 112, 49, 41]⟩, .int .i64 0]) ∧ Below W.heap.size W w') := hide fun W v hv hb => by
    have := print_any hv (tab_below HT.out hb)
    rw [u_prt, u_chk] at this
    exact this
  have HP2 : Hid (∀ W v, NodeSl W v (negF untilF) → Below w.heap.size w W → Calls Tryd.prog 34 #[v] W fun e w' => e = .returned (.tuple #[.string ⟨#[40, 33, 112, 48, 32, 82, 32, 33, 112, 49, 41]⟩, .int .i64 0]) ∧ Below W.heap.size W w') := hide fun W v hv hb => by
    have := print_any hv (tab_below HT.out hb)
    rw [u_opp, u_chk2] at this
    exact this
  have HR : Hid (∀ W, Calls Tryd.prog 42 #[.string ⟨#[40, 112, 48, 32, 85, 32, 112, 49, 41]⟩] W fun e w' => ∃ v, e = .returned (.tuple #[v, .int .i64 0, .int .i64 0]) ∧ NodeSl w' v untilF ∧ Below W.heap.size W w') := hide fun W => parse_ok (T := tUntil) node_until (by decide) (by rw [u_two]; decide) (by rw [u_two]; exact u_chk) W
  have HNg : Hid (∀ W v, NodeSl W v untilF → Calls Tryd.prog 35 #[v] W fun e w' => ∃ v', e = .returned (.tuple #[v', .int .i64 0]) ∧ NodeSl w' v' (negF untilF) ∧ Below W.heap.size W w') := hide fun W v hv => by
    refine (negate_any hv).mono ?_
    rintro e w' ⟨v', rfl, h1, _, h3⟩
    exact ⟨v', by rw [u_neg], h1 u_neg, h3⟩
  have HC : Hid (∀ W v, NodeSl W v untilF → Calls Tryd.prog 40 #[v] W fun e w' => e = .returned (.int .i64 0) ∧ Below W.heap.size W w') := hide fun W v hv => by
    have := formulaCheck_any hv
    rw [u_chk] at this
    exact this
  go_enter Tryd.func39, Tryd.ntmps39
  go_wp2_with (fail)
  refine (until_any _).mono ?_
  rintro e w1 ⟨g1, rfl, hn1, hb1⟩
  go_wp2_with (fail)
  refine (HP.out _ _ hn1 hb1).mono ?_
  rintro e w2 ⟨rfl, hb2⟩
  have HB2 := hide (below_trans hb1 hb2)
  clear hn1 hb1 hb2
  go_wp2_with (fail)
  refine (HR.out _).mono ?_
  rintro e w3 ⟨v3, rfl, hn3, hb3⟩
  have HB3 := hide (below_trans HB2.out hb3)
  have HN3 := hide hn3
  clear hn3 hb3 HR HB2
  go_wp2_with (fail)
  refine (until_any _).mono ?_
  rintro e w4 ⟨g4, rfl, hn4, hb4⟩
  have HN4 := hide (HN3.out.below hb4)
  have HB4 := hide (below_trans HB3.out hb4)
  clear hb4 HB3 HN3
  go_wp2_with (fail)
  refine (HNg.out _ _ hn4).mono ?_
  rintro e w5 ⟨v5, rfl, hn5, hb5⟩
  have HN5 := hide (HN4.out.below hb5)
  have HB5 := hide (below_trans HB4.out hb5)
  clear hb5 HB4 HN4 HNg hn4
  go_wp2_with (fail)
  refine (HP2.out _ _ hn5 HB5.out).mono ?_
  rintro e w6 ⟨rfl, hb6⟩
  have HN6 := hide (HN5.out.below hb6)
  have HB6 := hide (below_trans HB5.out hb6)
  clear hb6 HB5 HN5 hn5 HP HP2
  go_wp2_with (fail)
  refine (until_any _).mono ?_
  rintro e w7 ⟨g7, rfl, hn7, hb7⟩
  have HN7 := hide (HN6.out.below hb7)
  have HB7 := hide (below_trans HB6.out hb7)
  clear hb7 HB6 HN6
  go_wp2_with (fail)
  refine (HC.out _ _ hn7).mono ?_
  rintro e w8 ⟨rfl, hb8⟩
  have HN8 := hide (HN7.out.below hb8)
  have HB8 := hide (below_trans HB7.out hb8)
  clear hb8 HB7 HN7 hn7 HC
  go_wp2_with (fail)
  refine (until_any _).mono ?_
  rintro e w9 ⟨g9, rfl, hn9, hb9⟩
  have HN9 := hide (HN8.out.below hb9)
  have HB9 := hide (below_trans HB8.out hb9)
  clear hb9 HB8 HN8
  go_wp2_with (fail)
  refine (sameFormula_eq HN9.out hn9).mono ?_
  rintro e w10 ⟨rfl, n10, rfl⟩
  have HB10 := hide (below_drewN HB9.out n10)
  clear hn9 HN9
  go_wp2_with (fail)
  go_ret
  exact ⟨rfl, HB10.out⟩
end Go.Proofs.YtpiacnnifdjlkaaDoor

/-
  What the reference's NegateOf answers; FormulaTells' walk.
-/
namespace Go.Proofs.YtpiacnnifdjlkaaDoor
open Go.RowKit Go.Sort

theorem chkFrom_well {F : List Nd} (hF : AllOk F) : ∀ d m, m + d = F.length → chkFrom (F.drop m) m = 0
  | 0, m, h => chkFrom_end F m (by omega)
  | d + 1, m, h => by
    rw [chkFrom_drop F m (by omega), if_pos (hF m (by omega))]
    exact chkFrom_well hF d (m + 1) (by omega)

/-- Whether the opposite is too great. -/
def negBig (F : List Nd) : Bool := decide (12 < (negF F).length ∨ 4 < cntT (negF F))

theorem chk_neg {F : List Nd} (hF : AllOk F) (hn : 0 < F.length) : chkF (negF F) = if negBig F = true then 2 else 0 := by
  have hok : AllOk (negF F) := fun d hd => by
    have := fl_right hF (F.length - 1) (by omega) true 0 d hd
    rwa [Nat.zero_add] at this
  have hp : 0 < (negF F).length := (fl_len hF (F.length - 1) (by omega) true 0).2.1
  have hr := chkFrom_well hok (negF F).length 0 (by omega)
  unfold chkF negBig
  rw [if_neg (by omega)]
  by_cases h : 12 < (negF F).length ∨ 4 < cntT (negF F)
  · rw [if_pos h, if_pos (decide_eq_true h)]
  · rw [if_neg h, if_neg (by simpa using h)]
    exact hr

/-- What NegateOf leaves. -/
def NegOf (F : List Nd) (big : Bool) (w : World) (e : Ending) (w' : World) : Prop := ∃ v', e = .returned (.tuple #[v', .int .i64 (if big = true then 2 else 0)]) ∧ (big = false → NodeSl w' v' (negF F)) ∧ (big = true → v' = .slice none 0 0) ∧ Below w.heap.size w w'

set_option maxRecDepth 100000 in
set_option maxHeartbeats 4000000 in
theorem negateOf_any {w : World} {v : Value} {F : List Nd} (hv : NodeSl w v F) (hq : chkF F = 0) :
    Calls Tryd.prog 38 #[v] w fun e w' => NegOf F (negBig F) w e w' := by
  obtain ⟨hM0, h12, hall⟩ := chkF_ok hq
  have HV := hide hv
  have hlen := nt_len hall (F.length - 1) (by omega) true
  have hpw : 2 ^ (F.length - 1) ≤ 2 ^ 11 := Nat.pow_le_pow_right (by decide) (by omega)
  have hT : (nt F (F.length - 1) true).length ≤ 30000 := by omega
  have HN : Hid (NegOk F (F.length - 1) true) := hide (neg_any hall h12 (F.length - 1) (by omega) true)
  have hfl := (fl_len hall (F.length - 1) (by omega) true 0).2.2
  have hpw2 : 2 ^ (F.length - 1 + 2) ≤ 2 ^ 13 := Nat.pow_le_pow_right (by decide) (by omega)
  have HR : Hid (∀ W, Calls Tryd.prog 77 #[.slice none 0 0, .string ⟨(nt F (F.length - 1) true).toArray⟩, .int .i64 0] W fun e w' => ∃ a' c', e = .returned (.tuple #[.slice a' (negF F).length c', .int .i64 (nt F (F.length - 1) true).length, .bool true]) ∧ NodeSl w' (.slice a' (negF F).length c') (negF F) ∧ Below W.heap.size W w') := hide fun W => by
    have hr := ref_fl hall hT (F.length - 1) (by omega) true 0 (fun j hj => by rw [Nat.zero_add])
    have := hr W W.heap.size none 0 [] (World.ownsRow_nil _ _ _ _) (Nat.le_refl _) (by show 0 + (fl F (F.length - 1) true 0).length ≤ 100000; omega)
    refine this.mono ?_
    rintro e w' ⟨a', c', rfl, ho, hb⟩
    refine ⟨a', c', ?_, nodeSl_of_owns ho, hb⟩
    rw [Nat.zero_add]
    rfl
  have HTM : Hid (∀ W v, NodeSl W v (negF F) → Calls Tryd.prog 74 #[v] W fun e w' => e = .returned (.bool (negBig F)) ∧ Below W.heap.size W w') := hide fun W v h => tooMany_any h
  have hi0 : ((F.length - 1 : Nat) : Int) = (F.length : Int) - 1 := by omega
  unfold NegOk at HN
  rw [hi0] at HN
  obtain ⟨a, cap, rfl, hm, -⟩ := hv
  generalize nt F (F.length - 1) true = T at *
  generalize negBig F = big at *
  clear hi0 hpw hlen hfl hpw2 hall hT hq
  go_enter Tryd.func38, Tryd.ntmps38
  go_wp2_with (fail)
  refine (HN.out _ _ HV.out).mono ?_
  rintro e w1 ⟨rfl, hb1⟩
  have HB1 := hide hb1
  clear hb1 HN
  go_wp2_with (fail)
  refine (HR.out _).mono ?_
  rintro e w2 ⟨a2, c2, rfl, hn2, hb2⟩
  have HB2 := hide (below_trans HB1.out hb2)
  have HN2 := hide hn2
  clear hb2 hn2 HB1 HR
  go_wp2_with (fail)
  refine (HTM.out _ _ HN2.out).mono ?_
  rintro e w3 ⟨rfl, hb3⟩
  have HB3 := hide (below_trans HB2.out hb3)
  have HN3 := hide (HN2.out.below hb3)
  clear hb3 HTM HB2 HN2
  cases big
  · go_wp2_with (fail)
    go_ret2
    exact ⟨_, rfl, fun _ => HN3.out, fun h => (by cases h), HB3.out⟩
  · go_wp2_with (fail)
    go_ret2
    exact ⟨_, rfl, fun h => (by cases h), fun _ => rfl, HB3.out⟩

theorem nodeSl_nil (w : World) : NodeSl w (.slice none 0 0) [] := ⟨none, 0, rfl, by simp [maxLen], Or.inl rfl, fun _ => rfl, by simp⟩

set_option maxRecDepth 100000 in
set_option maxHeartbeats 2000000 in
theorem formulaTells_any {w : World} {fv : Value} {F : List Nd} (hF : NodeSl w fv F) (ht : Lib.TabBelow Tryd.prog w.heap.size w "internal/strconv.uint64pow10" .u64 Lib.pow10Tab) :
    Calls Tryd.prog 9 #[fv] w fun e w' => e = .returned (.bool true) ∧ Below w.heap.size w w' := by
  have HFB : Hid (∀ W, Below w.heap.size w W → Calls Tryd.prog 39 #[] W fun e w' => e = .returned (.bool true) ∧ Below W.heap.size W w') := hide fun W hb => formulaBegun_any (tab_below ht hb)
  have HPr : Hid (∀ W, Below w.heap.size w W → Calls Tryd.prog 34 #[fv] W fun e w' => e = .returned (.tuple #[.string ⟨(prt F).toArray⟩, .int .i64 (chkF F)]) ∧ Below W.heap.size W w') := hide fun W hb => print_any (hF.below hb) (tab_below ht hb)
  have HNg : Hid (∀ W, Below w.heap.size w W → Calls Tryd.prog 35 #[fv] W fun e w' => ∃ v, e = .returned (.tuple #[v, .int .i64 (chkNeg F)]) ∧ (chkNeg F = 0 → NodeSl w' v (negF F)) ∧ (chkNeg F ≠ 0 → v = .slice none 0 0) ∧ Below W.heap.size W w') := hide fun W hb => negate_any (hF.below hb)
  have HRc : Hid (∀ W, Below w.heap.size w W → Calls Tryd.prog 36 #[fv] W fun e w' => e = .returned (.int .i64 (chkF F)) ∧ Below W.heap.size W w') := hide fun W hb => checkFormula_any (hF.below hb)
  have HCk : Hid (∀ W, Below w.heap.size w W → Calls Tryd.prog 40 #[fv] W fun e w' => e = .returned (.int .i64 (chkF F)) ∧ Below W.heap.size W w') := hide fun W hb => formulaCheck_any (hF.below hb)
  have HSh : Hid (chkF F = 0 → ∀ W, Below w.heap.size w W → Calls Tryd.prog 37 #[fv, .int .i64 ((F.length : Int) - 1)] W fun e w' => e = .returned (.string ⟨(prt F).toArray⟩) ∧ Below W.heap.size W w') := hide fun hq W hb => by
    obtain ⟨hM0, h12, hall⟩ := chkF_ok hq
    have := show_any hall h12 (F.length - 1) (by omega) W fv (hF.below hb)
    rw [show ((F.length - 1 : Nat) : Int) = (F.length : Int) - 1 by omega] at this
    unfold prt
    rw [if_pos hq]
    exact this
  have HNo : Hid (chkF F = 0 → ∀ W, Below w.heap.size w W → Calls Tryd.prog 38 #[fv] W fun e w' => NegOf F (negBig F) W e w') := hide fun hq W hb => negateOf_any (hF.below hb) hq
  have hcn : chkF F = 0 → chkNeg F = if negBig F = true then 2 else 0 := fun hq => by
    obtain ⟨hM0, -, hall⟩ := chkF_ok hq
    unfold chkNeg
    rw [if_pos hq]
    exact chk_neg hall hM0
  have hcn' : chkF F ≠ 0 → chkNeg F = chkF F := fun hq => by unfold chkNeg; rw [if_neg hq]
  have hpn : chkF F ≠ 0 → prt F = [] := fun hq => by unfold prt; rw [if_neg hq]
  have se : ∀ (B : ByteArray) (W : World), (binOp .eql 9 (.string B) (.string B)).run Tryd.prog W = .ok (.bool true) W := fun B W => by simp [go_sem]
  clear ht
  obtain ⟨a, cap, rfl, hm, -⟩ := hF
  go_enter Tryd.func9, Tryd.ntmps9
  go_wp2_with (fail)
  refine (HPr.out _ (Below.refl _ _)).mono ?_
  rintro e w1 ⟨rfl, hb1⟩
  have HB1 := hide hb1
  clear hb1 HPr
  go_wp2_with (fail)
  refine (HNg.out _ HB1.out).mono ?_
  rintro e w2 ⟨v2, rfl, hn2, hn2', hb2⟩
  have HB2 := hide (below_trans HB1.out hb2)
  have H2 := hide (And.intro hn2 hn2')
  clear hb2 hn2 hn2' HB1 HNg
  go_wp2_with (fail)
  refine (HRc.out _ HB2.out).mono ?_
  rintro e w3 ⟨rfl, hb3⟩
  have HB3 := hide (below_trans HB2.out hb3)
  have HD3 := hide hb3
  clear hb3 HRc HB2
  by_cases hq : chkF F = 0
  · obtain ⟨hM0, h12, -⟩ := chkF_ok hq
    have HSh := hide (HSh.out hq)
    have HNo := hide (HNo.out hq)
    have hcn := hcn hq
    rw [hq] at HCk ⊢
    rw [hcn] at H2 ⊢
    clear hcn hcn' hpn hq
    generalize negBig F = big at *
    cases big with
    | false =>
      rw [show (if false = true then (2 : Int) else 0) = 0 from rfl] at H2 ⊢
      have HN2 := hide (H2.out.1 rfl)
      clear H2
      go_wp2_with (fail)
      refine (HSh.out _ HB3.out).mono ?_
      rintro e w4 ⟨rfl, hb4⟩
      have HB4 := hide (below_trans HB3.out hb4)
      have HD4 := hide (below_trans HD3.out hb4)
      clear hb4 HSh HB3 HD3
      go_wp2_with (fail)
      refine (HNo.out _ HB4.out).mono ?_
      rintro e w5 ⟨v5, rfl, hn5, hn5', hb5⟩
      have HB5 := hide (below_trans HB4.out hb5)
      have HD5 := hide (below_trans HD4.out hb5)
      have HN5 := hide (hn5 rfl)
      clear hb5 HNo HB4 HD4 hn5 hn5'
      go_wp2_with (fail)
      refine (HFB.out _ HB5.out).mono ?_
      rintro e w6 ⟨rfl, hb6⟩
      have HB6 := hide (below_trans HB5.out hb6)
      clear HFB
      go_wp2_with (fail)
      refine (HCk.out _ HB6.out).mono ?_
      rintro e w7 ⟨rfl, hb7⟩
      have HB7 := hide (below_trans HB6.out hb7)
      have HD7 := hide (below_trans HD5.out (below_trans hb6 hb7))
      have HE7 := hide (below_trans hb6 hb7)
      clear hb6 hb7 HB5 HB6 HD5 HCk
      have HS := hide (sameFormula_eq (w := w7) (HN2.out.below HD7.out) (HN5.out.below HE7.out))
      clear HN2 HN5 HD7 HE7
      go_wp2_with (fail)
      refine HS.out.mono ?_
      rintro e w8 ⟨rfl, n8, rfl⟩
      go_wp2_with (fail)
      go_ret
      exact ⟨rfl, below_drewN HB7.out n8⟩
    | true =>
      rw [show (if true = true then (2 : Int) else 0) = 2 from rfl] at H2 ⊢
      obtain rfl := H2.out.2 (by decide)
      clear H2
      go_wp2_with (fail)
      refine (HSh.out _ HB3.out).mono ?_
      rintro e w4 ⟨rfl, hb4⟩
      have HB4 := hide (below_trans HB3.out hb4)
      have HD4 := hide (below_trans HD3.out hb4)
      clear hb4 HSh HB3 HD3
      go_wp2_with (fail)
      refine (HNo.out _ HB4.out).mono ?_
      rintro e w5 ⟨v5, rfl, hn5, hn5', hb5⟩
      have HB5 := hide (below_trans HB4.out hb5)
      have HD5 := hide (below_trans HD4.out hb5)
      obtain rfl := hn5' rfl
      clear hb5 HNo HB4 HD4 hn5 hn5'
      go_wp2_with (fail)
      refine (HFB.out _ HB5.out).mono ?_
      rintro e w6 ⟨rfl, hb6⟩
      have HB6 := hide (below_trans HB5.out hb6)
      clear HFB
      go_wp2_with (fail)
      refine (HCk.out _ HB6.out).mono ?_
      rintro e w7 ⟨rfl, hb7⟩
      have HB7 := hide (below_trans HB6.out hb7)
      have HD7 := hide (below_trans HD5.out (below_trans hb6 hb7))
      have HE7 := hide (below_trans hb6 hb7)
      clear hb6 hb7 HB5 HB6 HD5 HCk
      have HS := hide (sameFormula_eq (w := w7) (nodeSl_nil w7) (nodeSl_nil w7))
      clear HD7 HE7
      go_wp2_with (fail)
      refine HS.out.mono ?_
      rintro e w8 ⟨rfl, n8, rfl⟩
      go_wp2_with (fail)
      go_ret
      exact ⟨rfl, below_drewN HB7.out n8⟩
  · have hcn' := hcn' hq
    have hpn := hpn hq
    rw [hcn'] at H2 ⊢
    rw [hpn]
    obtain rfl := H2.out.2 hq
    have bq : (chkF F == 0) = false := by simpa using hq
    have be : (chkF F == chkF F) = true := by simp
    clear hcn hcn' hpn hq H2 HSh HNo HD3
    generalize chkF F = cF at *
    go_wp2_with (fail)
    refine (HFB.out _ HB3.out).mono ?_
    rintro e w6 ⟨rfl, hb6⟩
    have HB6 := hide (below_trans HB3.out hb6)
    clear HFB hb6 HB3
    go_wp2_with (fail)
    refine (HCk.out _ HB6.out).mono ?_
    rintro e w7 ⟨rfl, hb7⟩
    have HB7 := hide (below_trans HB6.out hb7)
    have HS := hide (sameFormula_eq (w := w7) (nodeSl_nil w7) (nodeSl_nil w7))
    clear hb7 HB6 HCk
    go_wp2_with (fail)
    refine HS.out.mono ?_
    rintro e w8 ⟨rfl, n8, rfl⟩
    go_wp2_with (fail)
    go_ret
    exact ⟨rfl, below_drewN HB7.out n8⟩
end Go.Proofs.YtpiacnnifdjlkaaDoor

namespace Go.Proofs.YtpiacnnifdjlkaaDoor
open Go.ChangeShapes Go.WideShapes Go.ChangeAt Go.RowKit Go.Deep
set_option maxRecDepth 100000

theorem cellsIntE : Tryd.prog.cellsOf 3 = 1 := by kernel_rfl
theorem cellsNodeE : Tryd.prog.cellsOf 74 = 4 := by kernel_rfl

theorem plainE {W : World} {a : Addr} {v : Value} (h : W.cell? (a.add 0) = some v) : ∃ b off, a = ⟨b, off, none⟩ := by
  obtain ⟨b, off, spot⟩ := a
  simp only [Addr.add, if_true, World.cell?] at h
  split at h
  · cases spot with
    | none => exact ⟨b, off, rfl⟩
    | some s => simp at h
  · cases h

theorem intsE_of_trod {H : Type} {enc : TypeId × Value → H} {W : World} {n : Nat} {u : Value} {y : DataW H × List MemPlace} (h : DataW.trod enc Tryd.prog W 0 (fun _ => true) true n 22 [u] = some y) :
    ∃ zs, IntSl W u zs := by
  rcases open_ints Tryd.underlying22 Tryd.underlying3 cellsIntE h with ⟨hcs, _⟩ | ⟨a, len, cap, zs, hcs, _, hl, hm, hz, _, hcell, hwz⟩
  · simp only [List.cons.injEq, and_true] at hcs
    subst hcs
    exact ⟨[], .none, 0, rfl, by simp [maxLen], Or.inl rfl, fun _ => rfl, by simp⟩
  · simp only [List.cons.injEq, and_true] at hcs
    subst hcs
    have hz' : zs.length = cap := hz
    have hlen : (zs.take len).length = len := by rw [List.length_take]; omega
    refine ⟨zs.take len, some a, cap, by rw [hlen], by rw [hlen]; omega, ?_, fun e => (by cases e), by rw [hlen]; exact hl⟩
    by_cases h0 : len = 0
    · left
      rw [h0]
      rfl
    · right
      obtain ⟨b, off, rfl⟩ := plainE (hcell 0 (by omega))
      refine ⟨b, off, rfl, fun i hi => ?_⟩
      rw [hlen] at hi
      have ci := hcell i (by omega)
      rw [add_none] at ci
      rw [ci]
      congr 2
      simp [List.getD, hi]

theorem lassoE_of_trod {H : Type} {enc : TypeId × Value → H} {W : World} {r : Reach} {b0 : Nat} {v : Value} {d : DataW H} {p : List MemPlace} (hv : Value.okWide Tryd.prog W r b0 44 v) (h : DataW.Trod enc Tryd.prog W 0 (fun _ => true) true 44 v d p) :
    ∃ hv lv hs ls, v = .agg #[hv, lv] ∧ IntSl W hv hs ∧ IntSl W lv ls := by
  obtain ⟨v0, v1, y0, y1, n, rfl, _, _, t0, t1⟩ := Go.Joins.open_agg2 Tryd.underlying44 (by kernel_rfl) (by kernel_rfl) hv h
  obtain ⟨hs, i0⟩ := intsE_of_trod t0
  obtain ⟨ls, i1⟩ := intsE_of_trod t1
  exact ⟨v0, v1, hs, ls, rfl, i0, i1⟩

theorem intE {H : Type} {enc : TypeId × Value → H} {W : World} {n : Nat} {c : Value} {y : DataW H × List MemPlace} (h : DataW.trod enc Tryd.prog W 0 (fun _ => true) true n 3 [c] = some y) : ∃ z, c = .int .i64 z := by
  obtain ⟨z, hc, _, hw⟩ := DataW.trod_int Tryd.underlying3 h
  simp only [List.cons.injEq, and_true] at hc
  exact ⟨z, hc⟩

theorem four_of {cs : List Value} (h : cs.length = 4) : ∃ c0 c1 c2 c3, cs = [c0, c1, c2, c3] := by
  match cs, h with
  | [c0, c1, c2, c3], _ => exact ⟨c0, c1, c2, c3, rfl⟩

theorem nodeE_of_trod {H : Type} {enc : TypeId × Value → H} {W : World} {n : Nat} {cs : List Value} {y : DataW H × List MemPlace} (h : DataW.trod enc Tryd.prog W 0 (fun _ => true) true n 74 cs = some y) :
    ∃ s : Nd, cs = [.int .i64 s.k, .int .i64 s.a, .int .i64 s.b, .int .i64 s.n] := by
  obtain ⟨xs, m, _, _, hl, hlen, hfs⟩ := DataW.trod_struct Tryd.underlying74 h
  have hx : xs.length = 4 := hlen
  rw [cellsNodeE] at hl
  obtain ⟨c0, c1, c2, c3, rfl⟩ := four_of hl
  have key : ∀ i (hi : i < 4), xs[i]? = some (xs[i]'(by omega)) := fun i hi => List.getElem?_eq_getElem (by omega)
  have t0 : DataW.trod enc Tryd.prog W 0 (fun _ => true) true m 3 (List.take (Tryd.prog.cellsOf 3) (List.drop 0 [c0, c1, c2, c3])) = some (xs[0]'(by omega)) := (hfs 0 _ rfl).trans (key 0 (by omega))
  have t1 : DataW.trod enc Tryd.prog W 0 (fun _ => true) true m 3 (List.take (Tryd.prog.cellsOf 3) (List.drop 1 [c0, c1, c2, c3])) = some (xs[1]'(by omega)) := (hfs 1 _ rfl).trans (key 1 (by omega))
  have t2 : DataW.trod enc Tryd.prog W 0 (fun _ => true) true m 3 (List.take (Tryd.prog.cellsOf 3) (List.drop 2 [c0, c1, c2, c3])) = some (xs[2]'(by omega)) := (hfs 2 _ rfl).trans (key 2 (by omega))
  have t3 : DataW.trod enc Tryd.prog W 0 (fun _ => true) true m 3 (List.take (Tryd.prog.cellsOf 3) (List.drop 3 [c0, c1, c2, c3])) = some (xs[3]'(by omega)) := (hfs 3 _ rfl).trans (key 3 (by omega))
  rw [cellsIntE] at t0 t1 t2 t3
  obtain ⟨z0, rfl⟩ := intE t0
  obtain ⟨z1, rfl⟩ := intE t1
  obtain ⟨z2, rfl⟩ := intE t2
  obtain ⟨z3, rfl⟩ := intE t3
  exact ⟨⟨z0, z1, z2, z3⟩, rfl⟩

theorem nodesE_of_trod {H : Type} {enc : TypeId × Value → H} {W : World} {n : Nat} {u : Value} {y : DataW H × List MemPlace} (h : DataW.trod enc Tryd.prog W 0 (fun _ => true) true n 59 [u] = some y) :
    ∃ zs, NodeSl W u zs := by
  rcases open_slice Tryd.underlying59 h with ⟨hcs, _⟩ | ⟨a, len, cap, m, k, D, Pl, hcs, _, hl, hm, hmm, _, hel⟩
  · simp only [List.cons.injEq, and_true] at hcs
    subst hcs
    exact ⟨[], .none, 0, rfl, by simp [maxLen], Or.inl rfl, fun _ => rfl, by simp⟩
  · simp only [List.cons.injEq, and_true] at hcs
    subst hcs
    simp only [if_true] at hmm
    subst hmm
    rw [cellsNodeE] at hel
    have each : ∀ i, i < m → ∃ s : Nd, W.cell? ((a.add (i * 4)).add 0) = some (.int .i64 s.k) ∧ W.cell? ((a.add (i * 4)).add 1) = some (.int .i64 s.a) ∧ W.cell? ((a.add (i * 4)).add 2) = some (.int .i64 s.b) ∧ W.cell? ((a.add (i * 4)).add 3) = some (.int .i64 s.n) := by
      intro i hi
      obtain ⟨cs', hc, ht⟩ := hel i hi
      obtain ⟨s, rfl⟩ := nodeE_of_trod ht
      obtain ⟨_, _, hcell⟩ := World.cells?_some hc
      exact ⟨s, hcell 0 (by omega), hcell 1 (by omega), hcell 2 (by omega), hcell 3 (by omega)⟩
    obtain ⟨S, hS⟩ := @choose_lt Nd ⟨nd0⟩ _ _ each
    have hlen : ((List.range len).map S).length = len := by simp
    refine ⟨(List.range len).map S, some a, m, by rw [hlen], by rw [hlen]; omega, ?_, fun e => (by cases e), by rw [hlen]; exact hl⟩
    by_cases h0 : len = 0
    · left
      rw [h0]
      rfl
    · right
      have c0 := (hS 0 (by omega)).1
      rw [Nat.zero_mul] at c0
      have c00 : W.cell? (a.add 0) = some (.int .i64 (S 0).k) := c0
      obtain ⟨b, off, rfl⟩ := plainE c00
      refine ⟨b, off, rfl, fun i hi => ?_⟩
      rw [hlen] at hi
      obtain ⟨q0, q1, q2, q3⟩ := hS i (by omega)
      rw [add_none, add_none] at q0 q1 q2 q3
      have e : ((List.range len).map S).getD i nd0 = S i := by simp [List.getD, hi]
      rw [e]
      exact ⟨q0, q1, q2, q3⟩

theorem formulaE_of_trod {H : Type} {enc : TypeId × Value → H} {W : World} {r : Reach} {b0 : Nat} {v : Value} {d : DataW H} {p : List MemPlace} (hv : Value.okWide Tryd.prog W r b0 59 v) (h : DataW.Trod enc Tryd.prog W 0 (fun _ => true) true 59 v d p) :
    ∃ F, NodeSl W v F := by
  obtain ⟨a, len, cap, rfl⟩ := okWide_slice Tryd.underlying59 hv
  obtain ⟨fuel, hf⟩ := h
  exact nodesE_of_trod hf
end Go.Proofs.YtpiacnnifdjlkaaDoor
