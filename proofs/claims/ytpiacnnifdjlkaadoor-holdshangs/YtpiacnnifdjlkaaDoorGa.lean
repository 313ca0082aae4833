/-
  A formula holds just where its opposite does not; and what holds at a place hangs on what holds at the next one: plain mathematics.
-/
import Derived.Test.YtpiacnnifdjlkaaDoorEo
import Derived.Test.YtpiacnnifdjlkaaDoorGm
import Derived.Test.YtpiacnnifdjlkaaDoorGf
import Derived.Test.YtpiacnnifdjlkaaDoorAz
/-
  What must be in any case: holdsBegun is true.
-/
namespace Go.Proofs.YtpiacnnifdjlkaaDoor
open Go.RowKit Go.Sort

def untilF : List Nd := [⟨2, 0, 0, 0⟩, ⟨2, 0, 0, 1⟩, ⟨7, 0, 1, 0⟩]

set_option maxHeartbeats 1000000 in
theorem until_any (w : World) :
    Calls Tryd.prog 79 #[] w fun e w' => ∃ g, e = .returned (.slice (some ⟨g, 0, none⟩) 3 3) ∧ NodeSl w' (.slice (some ⟨g, 0, none⟩) 3 3) untilF ∧ Below w.heap.size w w' := by
  go_enter Tryd.func79, Tryd.ntmps79
  go_wp2_with (fail)
  go_ret
  refine ⟨w.heap.size, rfl, ⟨_, _, rfl, by decide, Or.inr ⟨w.heap.size, 0, rfl, fun i hi => ?_⟩, (fun h => by cases h), by decide⟩, (by repeat (first | exact Below.refl _ _ | assumption | refine below_drewN ?_ _ | refine Below.drew ?_ | refine Below.alloc ?_ (by simp <;> omega) _ | refine below_trans ?_ (by assumption)))⟩
  have hb := heap_alloc_new w (Obj.cells #[.int .i64 2, .int .i64 0, .int .i64 0, .int .i64 0, .int .i64 2, .int .i64 0, .int .i64 0, .int .i64 1, .int .i64 7, .int .i64 0, .int .i64 1, .int .i64 0] 74)
  have h3 : i = 0 ∨ i = 1 ∨ i = 2 := by simp [untilF] at hi; omega
  rcases h3 with rfl | rfl | rfl
  · exact ⟨cell_of_row _ _ 0 _ _ _ hb, cell_of_row _ _ 1 _ _ _ hb, cell_of_row _ _ 2 _ _ _ hb, cell_of_row _ _ 3 _ _ _ hb⟩
  · exact ⟨cell_of_row _ _ 4 _ _ _ hb, cell_of_row _ _ 5 _ _ _ hb, cell_of_row _ _ 6 _ _ _ hb, cell_of_row _ _ 7 _ _ _ hb⟩
  · exact ⟨cell_of_row _ _ 8 _ _ _ hb, cell_of_row _ _ 9 _ _ _ hb, cell_of_row _ _ 10 _ _ _ hb, cell_of_row _ _ 11 _ _ _ hb⟩

theorem untilChk : chkT untilF [1, 2] [0] = 0 := by decide +kernel
theorem untilTab : tabF untilF [1, 2] [0] = [[true, false, false], [false, true, false], [true, true, false]] := by decide +kernel

theorem ints_cells {w : World} {g : Nat} {zs : List Int} (h : w.heap[g]? = some (.cells (zs.map (Value.int .i64)).toArray 3)) (hl : zs.length ≤ 100) : IntSl w (.slice (some ⟨g, 0, none⟩) zs.length zs.length) zs :=
  ⟨_, _, rfl, by unfold maxLen; omega, Or.inr ⟨g, 0, rfl, fun i hi => by rw [Nat.zero_add, cell_of_row w g i _ _ _ h]; simp [List.getD, hi]⟩, (fun h => by cases h), Nat.le_refl _⟩

/-- The rows of a table, all as long. -/
theorem GridSl.rows {w : World} {v : Value} {T : List (List Bool)} {N : Nat} (h : GridSl w v T) (hT : 0 < T.length) (hN : 0 < N) (hl : ∀ j, j < T.length → (T.getD j []).length = N) :
    ∃ R c, v = .slice (some ⟨R, 0, none⟩) T.length c ∧ ∀ j, j < T.length → ∃ b o c', w.cell? ⟨R, j, none⟩ = some (.slice (some ⟨b, o, none⟩) N c') ∧ ∀ p, p < N → w.cell? ⟨b, o + p, none⟩ = some (.bool ((T.getD j []).getD p false)) := by
  obtain ⟨ad, c, rfl, hm, hg⟩ := h
  rcases hg with hg | ⟨R, rfl, hc⟩
  · subst hg; simp at hT
  · refine ⟨R, c, rfl, fun j hj => ?_⟩
    obtain ⟨a, n, c', h1, h2⟩ := hc j hj
    have hlen := hl j hj
    obtain ⟨a', cap, he, _, hz, _⟩ := h2
    injection he with e1 e2 e3
    rcases hz with hz | ⟨b, o, e4, hcell⟩
    · rw [hz] at hlen; simp at hlen; omega
    · refine ⟨b, o, c', ?_, fun p hpp => hcell p (by omega)⟩
      rw [h1, e1, e4, e2, hlen]

set_option maxRecDepth 100000 in
set_option maxHeartbeats 4000000 in
theorem holdsBegun_any (w : World) :
    Calls Tryd.prog 44 #[] w fun e w' => e = .returned (.bool true) ∧ Below w.heap.size w w' := by
  have HH : Hid (∀ (W : World) (g h l : Nat), NodeSl W (.slice (some ⟨g, 0, none⟩) 3 3) untilF → W.heap[h]? = some (Obj.cells #[.int .i64 1, .int .i64 2] 3) → W.heap[l]? = some (Obj.cells #[.int .i64 0] 3) → Calls Tryd.prog 46 #[.slice (some ⟨g, 0, none⟩) 3 3, .agg #[.slice (some ⟨h, 0, none⟩) 2 2, .slice (some ⟨l, 0, none⟩) 1 1]] W fun e w' => e = .returned (.tuple #[.bool true, .int .i64 0]) ∧ Below W.heap.size W w') := by
    refine hide fun W g h l hn hh hl => ?_
    refine (holds_any (hs := [1, 2]) (ls := [0]) hn (ints_cells (zs := [1, 2]) hh (by decide)) (ints_cells (zs := [0]) hl (by decide))).mono ?_
    rintro e w' ⟨rfl, hb⟩
    rw [untilChk, untilTab]
    exact ⟨rfl, hb⟩
  have HT : Hid (∀ (W : World) (g h l : Nat), NodeSl W (.slice (some ⟨g, 0, none⟩) 3 3) untilF → W.heap[h]? = some (Obj.cells #[.int .i64 1, .int .i64 2] 3) → W.heap[l]? = some (Obj.cells #[.int .i64 0] 3) → Calls Tryd.prog 45 #[.slice (some ⟨g, 0, none⟩) 3 3, .agg #[.slice (some ⟨h, 0, none⟩) 2 2, .slice (some ⟨l, 0, none⟩) 1 1]] W fun e w' => ∃ R c b o c', e = .returned (.tuple #[.slice (some ⟨R, 0, none⟩) 3 c, .int .i64 0]) ∧ w'.cell? ⟨R, 2, none⟩ = some (.slice (some ⟨b, o, none⟩) 3 c') ∧ w'.cell? ⟨b, o, none⟩ = some (.bool true) ∧ w'.cell? ⟨b, o + 1, none⟩ = some (.bool true) ∧ w'.cell? ⟨b, o + 2, none⟩ = some (.bool false) ∧ Below W.heap.size W w') := by
    refine hide fun W g h l hn hh hl => ?_
    refine (table_any (hs := [1, 2]) (ls := [0]) hn (ints_cells (zs := [1, 2]) hh (by decide)) (ints_cells (zs := [0]) hl (by decide))).mono ?_
    rintro e w' ⟨v, rfl, hg, -, hb⟩
    rw [untilChk]
    have hg' := hg untilChk
    rw [untilTab] at hg'
    obtain ⟨R, c, rfl, hr⟩ := hg'.rows (N := 3) (by decide) (by decide) (by decide)
    obtain ⟨b, o, c', h1, h2⟩ := hr 2 (by decide)
    exact ⟨R, c, b, o, c', rfl, h1, h2 0 (by decide), h2 1 (by decide), h2 2 (by decide), hb⟩
  go_enter Tryd.func44, Tryd.ntmps44
  go_wp2_with (fail)
  obtain ⟨W0, hW0⟩ : ∃ W0, W0 = ((w.alloc (Obj.cells #[.int .i64 1, .int .i64 2] 3)).alloc (Obj.cells #[.int .i64 0] 3)).alloc (Obj.cells #[.slice (some ⟨w.heap.size, 0, none⟩) 2 2, .slice (some ⟨w.heap.size + 1, 0, none⟩) 1 1] 44) := ⟨_, rfl⟩
  have hbW : Below w.heap.size w W0 := by rw [hW0]; exact (by repeat (first | exact Below.refl _ _ | assumption | refine below_drewN ?_ _ | refine Below.drew ?_ | refine Below.alloc ?_ (by simp <;> omega) _ | refine below_trans ?_ (by assumption)))
  have x0 := heap_alloc_new w (Obj.cells #[.int .i64 1, .int .i64 2] 3)
  have x1 := heap_alloc_new (w.alloc (Obj.cells #[.int .i64 1, .int .i64 2] 3)) (Obj.cells #[.int .i64 0] 3)
  have x2 := heap_alloc_new ((w.alloc (Obj.cells #[.int .i64 1, .int .i64 2] 3)).alloc (Obj.cells #[.int .i64 0] 3)) (Obj.cells #[.slice (some ⟨w.heap.size, 0, none⟩) 2 2, .slice (some ⟨w.heap.size + 1, 0, none⟩) 1 1] 44)
  simp only [World.size_alloc] at x1 x2
  have x0 := heap_under (Obj.cells #[.slice (some ⟨w.heap.size, 0, none⟩) 2 2, .slice (some ⟨w.heap.size + 1, 0, none⟩) 1 1] 44) (heap_under (Obj.cells #[.int .i64 0] 3) x0)
  have x1 := heap_under (Obj.cells #[.slice (some ⟨w.heap.size, 0, none⟩) 2 2, .slice (some ⟨w.heap.size + 1, 0, none⟩) 1 1] 44) x1
  rw [← hW0] at x0 x1 x2 ⊢
  clear hW0
  have HB0 := hide hbW
  clear hbW
  generalize w.heap.size + 1 + 1 = P at *
  generalize w.heap.size + 1 = B at *
  generalize hA : w.heap.size = A at *
  have HA := hide hA
  clear hA
  have d0 : Hid (W0.heap[A]? = some (Obj.cells #[.int .i64 1, .int .i64 2] 3) ∧ W0.heap[B]? = some (Obj.cells #[.int .i64 0] 3)) := hide ⟨x0, x1⟩
  have s0 : W0.cell? ⟨P, 0, none⟩ = some (.slice (some ⟨A, 0, none⟩) 2 2) ∧ W0.cell? ⟨P, 1, none⟩ = some (.slice (some ⟨B, 0, none⟩) 1 1) := ⟨cell_of_row _ _ 0 _ _ _ x2, cell_of_row _ _ 1 _ _ _ x2⟩
  clear x0 x1 x2
  go_region_held3 (fun w' => w'.cell? ⟨P, 0, none⟩ = some (.slice (some ⟨A, 0, none⟩) 2 2) ∧ w'.cell? ⟨P, 1, none⟩ = some (.slice (some ⟨B, 0, none⟩) 1 1)) ((first | (with_reducible exact sw3) | (with_reducible exact sw2) | (with_reducible exact s0) | (exact s0))) (first | (go_at_call 79; refine (until_any _).mono ?_; rintro e w2 ⟨g2, rfl, hnw2, hbw2⟩; have dw2 : Hid (w2.heap[A]? = some (Obj.cells #[.int .i64 1, .int .i64 2] 3) ∧ w2.heap[B]? = some (Obj.cells #[.int .i64 0] 3)) := hide ⟨block_keep (heap_drew d0.out.1) hbw2, block_keep (heap_drew d0.out.2) hbw2⟩; have sw2 : w2.cell? ⟨P, 0, none⟩ = some (.slice (some ⟨A, 0, none⟩) 2 2) ∧ w2.cell? ⟨P, 1, none⟩ = some (.slice (some ⟨B, 0, none⟩) 1 1) := ⟨cell_keep (cell_drew s0.1) hbw2, cell_keep (cell_drew s0.2) hbw2⟩) | (go_at_call 46; refine (HH.out _ _ _ _ hnw2 dw2.out.1 dw2.out.2).mono ?_; rintro e w3 ⟨rfl, hbw3⟩; have dw3 : Hid (w3.heap[A]? = some (Obj.cells #[.int .i64 1, .int .i64 2] 3) ∧ w3.heap[B]? = some (Obj.cells #[.int .i64 0] 3)) := hide ⟨block_keep dw2.out.1 hbw3, block_keep dw2.out.2 hbw3⟩; have sw3 : w3.cell? ⟨P, 0, none⟩ = some (.slice (some ⟨A, 0, none⟩) 2 2) ∧ w3.cell? ⟨P, 1, none⟩ = some (.slice (some ⟨B, 0, none⟩) 1 1) := ⟨cell_keep sw2.1 hbw3, cell_keep sw2.2 hbw3⟩))
  have hb0 : Below w.heap.size w W0 := by rw [HA.out]; exact HB0.out
  have hB3 := below_trans hb0 (below_trans (below_trans (below_drawn W0 1) hbw2) hbw3)
  have HB3 := hide hB3
  clear hB3 hb0 hbw2 hbw3 hnw2 sw2 dw2 s0 d0
  go_wp2_with (fail)
  go_region_held3 (fun w' => w'.cell? ⟨P, 0, none⟩ = some (.slice (some ⟨A, 0, none⟩) 2 2) ∧ w'.cell? ⟨P, 1, none⟩ = some (.slice (some ⟨B, 0, none⟩) 1 1)) ((first | (with_reducible exact sw5) | (with_reducible exact sw4) | (with_reducible exact sw3) | (exact sw3))) (first | (go_at_call 79; refine (until_any _).mono ?_; rintro e w4 ⟨g4, rfl, hnw4, hbw4⟩; have dw4 : Hid (w4.heap[A]? = some (Obj.cells #[.int .i64 1, .int .i64 2] 3) ∧ w4.heap[B]? = some (Obj.cells #[.int .i64 0] 3)) := hide ⟨block_keep (heap_drew dw3.out.1) hbw4, block_keep (heap_drew dw3.out.2) hbw4⟩; have sw4 : w4.cell? ⟨P, 0, none⟩ = some (.slice (some ⟨A, 0, none⟩) 2 2) ∧ w4.cell? ⟨P, 1, none⟩ = some (.slice (some ⟨B, 0, none⟩) 1 1) := ⟨cell_keep (cell_drew sw3.1) hbw4, cell_keep (cell_drew sw3.2) hbw4⟩) | (go_at_call 45; refine (HT.out _ _ _ _ hnw4 dw4.out.1 dw4.out.2).mono ?_; rintro e w5 ⟨R, tc, rb, ro, rc, rfl, z0, z1, z2, z3, hbw5⟩; have dw5 : Hid (w5.heap[A]? = some (Obj.cells #[.int .i64 1, .int .i64 2] 3) ∧ w5.heap[B]? = some (Obj.cells #[.int .i64 0] 3)) := hide ⟨block_keep dw4.out.1 hbw5, block_keep dw4.out.2 hbw5⟩; have sw5 : w5.cell? ⟨P, 0, none⟩ = some (.slice (some ⟨A, 0, none⟩) 2 2) ∧ w5.cell? ⟨P, 1, none⟩ = some (.slice (some ⟨B, 0, none⟩) 1 1) := ⟨cell_keep sw4.1 hbw5, cell_keep sw4.2 hbw5⟩))
  have hB5 := below_trans HB3.out (below_trans (below_trans (below_drawn w3 1) hbw4) hbw5)
  clear hbw4 hbw5 hnw4 sw4 dw4 sw3 dw3
  go_wp2_with (fail)
  go_ret
  exact ⟨rfl, hB5⟩
end Go.Proofs.YtpiacnnifdjlkaaDoor

/-
  formulaBegun answers true.
-/
namespace Go.Proofs.YtpiacnnifdjlkaaDoor
open Go.RowKit Go.Sort

def tOpp : List UInt8 := [40, 33, 112, 48, 32, 82, 32, 33, 112, 49, 41]

theorem u_chk : chkF untilF = 0 := by decide +kernel
theorem u_neg : chkNeg untilF = 0 := by decide +kernel
theorem u_prt : prt untilF = tUntil := by decide +kernel
theorem u_opp : prt (negF untilF) = tOpp := by decide +kernel
theorem u_chk2 : chkF (negF untilF) = 0 := by decide +kernel
theorem u_two : gTwo 7 (fun _ => [⟨2, 0, 0, 0⟩]) (fun _ => [⟨2, 0, 0, 1⟩]) 0 = untilF := rfl

set_option maxRecDepth 100000 in
set_option maxHeartbeats 4000000 in
theorem formulaBegun_any {w : World} (ht : Lib.TabBelow Tryd.prog w.heap.size w "internal/strconv.uint64pow10" .u64 Lib.pow10Tab) :
    Calls Tryd.prog 39 #[] w fun e w' => e = .returned (.bool true) ∧ Below w.heap.size w w' := by
  have HT := hide ht
  clear ht
  have HP : Hid (∀ W v, NodeSl W v untilF → Below w.heap.size w W → Calls Tryd.prog 34 #[v] W fun e w' => e = .returned (.tuple #[.string ⟨#[40, 112, 48, 32, 85, 32, 112, 49, 41]⟩, .int .i64 0]) ∧ Below W.heap.size W w') := hide fun W v hv hb => by
    have := print_any hv (tab_below HT.out hb)
    rw [u_prt, u_chk] at this
    exact this
  have HP2 : Hid (∀ W v, NodeSl W v (negF untilF) → Below w.heap.size w W → Calls Tryd.prog 34 #[v] W fun e w' => e = .returned (.tuple #[.string ⟨#[40, 33, 112, 48, 32, 82, 32, 33, 112, 49, 41]⟩, .int .i64 0]) ∧ Below W.heap.size W w') := hide fun W v hv hb => by
    have := print_any hv (tab_below HT.out hb)
    rw [u_opp, u_chk2] at this
    exact this
  have HR : Hid (∀ W, Calls Tryd.prog 42 #[.string ⟨#[40, 112, 48, 32, 85, 32, 112, 49, 41]⟩] W fun e w' => ∃ v, e = .returned (.tuple #[v, .int .i64 0, .int .i64 0]) ∧ NodeSl w' v untilF ∧ Below W.heap.size W w') := hide fun W => parse_ok (T := tUntil) node_until (by decide) (by rw [u_two]; decide) (by rw [u_two]; exact u_chk) W
  have HNg : Hid (∀ W v, NodeSl W v untilF → Calls Tryd.prog 35 #[v] W fun e w' => ∃ v', e = .returned (.tuple #[v', .int .i64 0]) ∧ NodeSl w' v' (negF untilF) ∧ Below W.heap.size W w') := hide fun W v hv => by
    refine (negate_any hv).mono ?_
    rintro e w' ⟨v', rfl, h1, _, h3⟩
    exact ⟨v', by rw [u_neg], h1 u_neg, h3⟩
  have HC : Hid (∀ W v, NodeSl W v untilF → Calls Tryd.prog 40 #[v] W fun e w' => e = .returned (.int .i64 0) ∧ Below W.heap.size W w') := hide fun W v hv => by
    have := formulaCheck_any hv
    rw [u_chk] at this
    exact this
  go_enter Tryd.func39, Tryd.ntmps39
  go_wp2_with (fail)
  refine (until_any _).mono ?_
  rintro e w1 ⟨g1, rfl, hn1, hb1⟩
  go_wp2_with (fail)
  refine (HP.out _ _ hn1 hb1).mono ?_
  rintro e w2 ⟨rfl, hb2⟩
  have HB2 := hide (below_trans hb1 hb2)
  clear hn1 hb1 hb2
  go_wp2_with (fail)
  refine (HR.out _).mono ?_
  rintro e w3 ⟨v3, rfl, hn3, hb3⟩
  have HB3 := hide (below_trans HB2.out hb3)
  have HN3 := hide hn3
  clear hn3 hb3 HR HB2
  go_wp2_with (fail)
  refine (until_any _).mono ?_
  rintro e w4 ⟨g4, rfl, hn4, hb4⟩
  have HN4 := hide (HN3.out.below hb4)
  have HB4 := hide (below_trans HB3.out hb4)
  clear hb4 HB3 HN3
  go_wp2_with (fail)
  refine (HNg.out _ _ hn4).mono ?_
  rintro e w5 ⟨v5, rfl, hn5, hb5⟩
  have HN5 := hide (HN4.out.below hb5)
  have HB5 := hide (below_trans HB4.out hb5)
  clear hb5 HB4 HN4 HNg hn4
  go_wp2_with (fail)
  refine (HP2.out _ _ hn5 HB5.out).mono ?_
  rintro e w6 ⟨rfl, hb6⟩
  have HN6 := hide (HN5.out.below hb6)
  have HB6 := hide (below_trans HB5.out hb6)
  clear hb6 HB5 HN5 hn5 HP HP2
  go_wp2_with (fail)
  refine (until_any _).mono ?_
  rintro e w7 ⟨g7, rfl, hn7, hb7⟩
  have HN7 := hide (HN6.out.below hb7)
  have HB7 := hide (below_trans HB6.out hb7)
  clear hb7 HB6 HN6
  go_wp2_with (fail)
  refine (HC.out _ _ hn7).mono ?_
  rintro e w8 ⟨rfl, hb8⟩
  have HN8 := hide (HN7.out.below hb8)
  have HB8 := hide (below_trans HB7.out hb8)
  clear hb8 HB7 HN7 hn7 HC
  go_wp2_with (fail)
  refine (until_any _).mono ?_
  rintro e w9 ⟨g9, rfl, hn9, hb9⟩
  have HN9 := hide (HN8.out.below hb9)
  have HB9 := hide (below_trans HB8.out hb9)
  clear hb9 HB8 HN8
  go_wp2_with (fail)
  refine (sameFormula_eq HN9.out hn9).mono ?_
  rintro e w10 ⟨rfl, n10, rfl⟩
  have HB10 := hide (below_drewN HB9.out n10)
  clear hn9 HN9
  go_wp2_with (fail)
  go_ret
  exact ⟨rfl, HB10.out⟩
end Go.Proofs.YtpiacnnifdjlkaaDoor

namespace Go.Proofs.YtpiacnnifdjlkaaDoor

theorem look_neg (r : Nat → Bool → Bool) (e : Bool) : ∀ m i, look (fun k x => !(r k (!x))) (!e) m i = !(look r e m i)
  | 0, _ => rfl
  | m + 1, i => by
    show (!(r i (!(look (fun k x => !(r k (!x))) (!e) m (i + 1))))) = !(r i (look r e m (i + 1)))
    rw [look_neg r e m (i + 1), Bool.not_not]

/-- What holds of node i at a place. -/
def vF (F : List Nd) (h p : Nat) (L : Nat → Int) (i j : Nat) : Bool := valB (tabN F h p L i) h p L (F.getD i nd0) j

theorem tab_vF (F : List Nd) (h p : Nat) (L : Nat → Int) (m i j : Nat) (hi : i < m) (hj : j < h + p) : ((tabN F h p L m).getD i []).getD j false = vF F h p L i j := by
  rw [tabN_get F h p L i m hi, rowV_get _ _ _ _ _ _ hj]
  rfl

theorem bt_vF (F : List Nd) (h p : Nat) (L : Nat → Int) (m : Nat) (a : Int) (j : Nat) (hi : a.toNat < m) (hj : j < h + p) : bt (tabN F h p L m) a j = vF F h p L a.toNat j := tab_vF F h p L m a.toNat j hi hj

def ruleV (va vb : Nat → Bool) (h p : Nat) (L : Nat → Int) (x : Nd) (i : Nat) (nx : Bool) : Bool :=
  if x.k = 2 then decide (L i / 2 ^ x.n.toNat % 2 = 1)
  else if x.k = 3 then !va i
  else if x.k = 4 then va i && vb i
  else if x.k = 5 then va i || vb i
  else if x.k = 6 then va (nxp h p i)
  else if x.k = 7 then vb i || va i && nx
  else if x.k = 8 then vb i && (va i || nx)
  else true

theorem nxp_lt {h p i : Nat} (hp : 0 < p) (hi : i < h + p) : nxp h p i < h + p := by unfold nxp; split <;> omega

theorem ruleB_V {T : List (List Bool)} {h p : Nat} {L : Nat → Int} {x : Nd} {va vb : Nat → Bool} {i : Nat} {nx : Bool} (hp : 0 < p) (hi : i < h + p) (ha : 3 ≤ x.k → ∀ j, j < h + p → bt T x.a j = va j) (hb : x.k = 4 ∨ x.k = 5 ∨ x.k = 7 ∨ x.k = 8 → ∀ j, j < h + p → bt T x.b j = vb j) : ruleB T h p L x i nx = ruleV va vb h p L x i nx := by
  unfold ruleB ruleV
  by_cases h2 : x.k = 2
  · simp only [if_pos h2]
  by_cases h3 : x.k = 3
  · simp only [if_neg h2, if_pos h3, ha (by omega) i hi]
  by_cases h4 : x.k = 4
  · simp only [if_neg h2, if_neg h3, if_pos h4, ha (by omega) i hi, hb (by omega) i hi]
  by_cases h5 : x.k = 5
  · simp only [if_neg h2, if_neg h3, if_neg h4, if_pos h5, ha (by omega) i hi, hb (by omega) i hi]
  by_cases h6 : x.k = 6
  · simp only [if_neg h2, if_neg h3, if_neg h4, if_neg h5, if_pos h6, ha (by omega) _ (nxp_lt hp hi)]
  by_cases h7 : x.k = 7
  · simp only [if_neg h2, if_neg h3, if_neg h4, if_neg h5, if_neg h6, if_pos h7, ha (by omega) i hi, hb (by omega) i hi]
  by_cases h8 : x.k = 8
  · simp only [if_neg h2, if_neg h3, if_neg h4, if_neg h5, if_neg h6, if_neg h7, if_pos h8, ha (by omega) i hi, hb (by omega) i hi]
  simp only [if_neg h2, if_neg h3, if_neg h4, if_neg h5, if_neg h6, if_neg h7, if_neg h8]

theorem vF_V {F : List Nd} {h p : Nat} {L : Nat → Int} {i j : Nat} {x : Nd} {va vb : Nat → Bool} (hp : 0 < p) (hx : F.getD i nd0 = x) (ha : 3 ≤ x.k → ∀ j, j < h + p → bt (tabN F h p L i) x.a j = va j) (hb : x.k = 4 ∨ x.k = 5 ∨ x.k = 7 ∨ x.k = 8 → ∀ j, j < h + p → bt (tabN F h p L i) x.b j = vb j) :
    vF F h p L i j = look (fun k => ruleV va vb h p L x (plc h p k)) (decide (x.k = 8)) (h + p) j := by
  unfold vF valB
  rw [hx]
  refine look_congr _ _ _ _ _ fun k _ _ => ?_
  funext nx
  exact ruleB_V hp (plc_lt h p k hp) ha hb

theorem vF_ok {F : List Nd} (hF : AllOk F) {h p : Nat} {L : Nat → Int} {i : Nat} (hp : 0 < p) (hi : i < F.length) (j : Nat) :
    vF F h p L i j = look (fun k => ruleV (vF F h p L (F.getD i nd0).a.toNat) (vF F h p L (F.getD i nd0).b.toNat) h p L (F.getD i nd0) (plc h p k)) (decide ((F.getD i nd0).k = 8)) (h + p) j := by
  obtain ⟨hk, ⟨a0, a1, _⟩, ⟨b0, b1, _⟩, _⟩ := node_ok (hF i hi)
  refine vF_V hp rfl (fun h3 j hj => ?_) (fun h3 j hj => ?_)
  · have := a1 h3
    exact bt_vF F h p L i _ j (by omega) hj
  · have := b1 h3
    exact bt_vF F h p L i _ j (by omega) hj

theorem look_flat {va vb : Nat → Bool} {h p : Nat} {L : Nat → Int} {x : Nd} {j : Nat} (hp : 0 < p) (hj : j < h + p) (h7 : x.k ≠ 7) (h8 : x.k ≠ 8) (e : Bool) : look (fun k => ruleV va vb h p L x (plc h p k)) e (h + p) j = ruleV va vb h p L x j false := by
  obtain ⟨m, hm⟩ : ∃ m, h + p = m + 1 := ⟨h + p - 1, by omega⟩
  have e1 : look (fun k => ruleV va vb h p L x (plc h p k)) e (h + p) j = ruleV va vb h p L x (plc h p j) (look (fun k => ruleV va vb h p L x (plc h p k)) e m (j + 1)) := by rw [hm]; rfl
  rw [e1, plc_small hj]
  simp only [ruleV, if_neg h7, if_neg h8]

/-- The opposite's rows are the opposite; a part's are the part's. -/
theorem opp {F : List Nd} (hF : AllOk F) {h p : Nat} {L : Nat → Int} (hp : 0 < p) : ∀ i, i < F.length → ∀ (o : Bool) (m : Nat) (G : List Nd), (∀ d, d < (fl F i o m).length → G.getD (m + d) nd0 = (fl F i o m).getD d nd0) → ∀ j, j < h + p → vF G h p L (m + (fl F i o m).length - 1) j = (o ^^ vF F h p L i j) := by
  intro i
  induction i using Nat.strongRecOn with
  | ind i ih =>
    intro hi o m G hG j hj
    obtain ⟨hk, ⟨a0, a1, _⟩, ⟨b0, b1, _⟩, _⟩ := node_ok (hF i hi)
    rw [vF_ok hF hp hi j]
    have hE := fl_eq hF i hi o m
    rw [hE] at hG ⊢
    clear hE
    generalize F.getD i nd0 = x at *
    unfold flS at hG ⊢
    by_cases h12 : x.k = 1 ∨ x.k = 2
    · rw [if_pos h12] at hG ⊢
      rw [look_flat hp hj (by omega) (by omega)]
      have key : G.getD m nd0 = ⟨x.k, 0, 0, x.n⟩ → ∀ j, j < h + p → vF G h p L m j = ruleV (vF F h p L x.a.toNat) (vF F h p L x.b.toNat) h p L x j false := by
        intro hg j hj
        rw [vF_V hp hg (va := fun _ => false) (vb := fun _ => false) (fun h => absurd h (by show ¬ 3 ≤ x.k; omega)) (fun h => absurd h (by show ¬ (x.k = 4 ∨ x.k = 5 ∨ x.k = 7 ∨ x.k = 8); omega)), look_flat hp hj (by show x.k ≠ 7; omega) (by show x.k ≠ 8; omega)]
        unfold ruleV
        rcases h12 with h1 | h2
        · simp [h1]
        · simp [h2]
      cases o with
      | false =>
        simp only [Bool.false_eq_true, if_false] at hG ⊢
        have g0 := hG 0 (by simp)
        simp only [Nat.add_zero] at g0
        show vF G h p L (m + 1 - 1) j = _
        rw [Nat.add_sub_cancel, key g0 j hj, Bool.false_xor]
      | true =>
        simp only [if_true] at hG ⊢
        have g0 := hG 0 (by simp)
        have g1 := hG 1 (by simp)
        simp only [Nat.add_zero] at g0
        show vF G h p L (m + 2 - 1) j = _
        rw [show m + 2 - 1 = m + 1 by omega, vF_V hp g1 (va := vF G h p L m) (vb := fun _ => false) (fun _ j hj => bt_vF G h p L (m + 1) (m : Nat) j (by simp) hj) (fun h => absurd h (by show ¬ ((3 : Int) = 4 ∨ (3 : Int) = 5 ∨ (3 : Int) = 7 ∨ (3 : Int) = 8); omega)), look_flat hp hj (by show (3 : Int) ≠ 7; omega) (by show (3 : Int) ≠ 8; omega)]
        show (!(vF G h p L m j)) = _
        rw [key g0 j hj, Bool.true_xor]
    rw [if_neg h12] at hG ⊢
    have ha := a1 (by omega)
    by_cases h3 : x.k = 3
    · rw [if_pos h3] at hG ⊢
      rw [look_flat hp hj (by omega) (by omega), ih x.a.toNat (by omega) (by omega) (!o) m G hG j hj]
      have : ruleV (vF F h p L x.a.toNat) (vF F h p L x.b.toNat) h p L x j false = !(vF F h p L x.a.toNat j) := by simp [ruleV, h3]
      rw [this]
      cases o <;> simp
    rw [if_neg h3] at hG ⊢
    have hAl := (fl_len hF x.a.toNat (by omega) o m).2.1
    have iha := ih x.a.toNat (by omega) (by omega) o m G
    generalize fl F x.a.toNat o m = A at *
    by_cases h6 : x.k = 6
    · rw [if_pos h6] at hG ⊢
      rw [look_flat hp hj (by omega) (by omega)]
      have hA := iha fun d hd => by
        rw [hG d (by simp <;> omega)]
        simp [List.getD, List.getElem?_append, hd]
      have g1 := hG A.length (by simp)
      have g1' : G.getD (m + A.length) nd0 = ⟨6, (m + A.length - 1 : Nat), 0, 0⟩ := by rw [g1]; simp [List.getD]
      rw [show m + (A ++ [(⟨6, (m + A.length - 1 : Nat), 0, 0⟩ : Nd)]).length - 1 = m + A.length by simp <;> omega, vF_V hp g1' (va := vF G h p L (m + A.length - 1)) (vb := fun _ => false) (fun _ j hj => bt_vF G h p L (m + A.length) (m + A.length - 1 : Nat) j (by simp <;> omega) hj) (fun h => absurd h (by show ¬ ((6 : Int) = 4 ∨ (6 : Int) = 5 ∨ (6 : Int) = 7 ∨ (6 : Int) = 8); omega)), look_flat hp hj (by show (6 : Int) ≠ 7; omega) (by show (6 : Int) ≠ 8; omega)]
      show vF G h p L (m + A.length - 1) (nxp h p j) = _
      rw [hA _ (nxp_lt hp hj)]
      simp [ruleV, h6]
    rw [if_neg h6] at hG ⊢
    have hb := b1 (by omega)
    have hBl := (fl_len hF x.b.toNat (by omega) o (m + A.length)).2.1
    have ihb := ih x.b.toNat (by omega) (by omega) o (m + A.length) G
    generalize fl F x.b.toNat o (m + A.length) = B at *
    have hA := iha fun d hd => by
      rw [hG d (by simp <;> omega)]
      simp [List.getD, List.getElem?_append, hd]
    have hB := ihb fun d hd => by
      rw [Nat.add_assoc, hG (A.length + d) (by simp <;> omega)]
      simp [List.getD, List.getElem?_append, hd, show ¬ (A.length + d < A.length) by omega]
    have g1 := hG (A.length + B.length) (by simp <;> omega)
    have g1' : G.getD (m + A.length + B.length) nd0 = ⟨if o = true then oppK x.k else x.k, (m + A.length - 1 : Nat), (m + A.length + B.length - 1 : Nat), 0⟩ := by rw [Nat.add_assoc, g1]; simp [List.getD, Nat.add_assoc]
    clear g1 hG iha ihb
    have hz : m + (A ++ (B ++ [(⟨if o = true then oppK x.k else x.k, (m + A.length - 1 : Nat), (m + A.length + B.length - 1 : Nat), 0⟩ : Nd)])).length - 1 = m + A.length + B.length := by simp <;> omega
    rw [hz, vF_V hp g1' (va := fun j => o ^^ vF F h p L x.a.toNat j) (vb := fun j => o ^^ vF F h p L x.b.toNat j) (fun _ j hj => (bt_vF G h p L (m + A.length + B.length) (m + A.length - 1 : Nat) j (by simp <;> omega) hj).trans (by simpa using hA j hj)) (fun _ j hj => (bt_vF G h p L (m + A.length + B.length) (m + A.length + B.length - 1 : Nat) j (by simp <;> omega) hj).trans (by simpa using hB j hj))]
    clear hz g1' hA hB
    generalize vF F h p L x.a.toNat = va
    generalize vF F h p L x.b.toNat = vb
    generalize ((m + A.length - 1 : Nat) : Int) = y1
    generalize ((m + A.length + B.length - 1 : Nat) : Int) = y2
    cases o with
    | false =>
      rw [Bool.false_xor]
      simp only [Bool.false_eq_true, if_false, Bool.false_xor]
      refine look_congr _ _ _ _ _ fun k _ _ => ?_
      funext nx
      rcases (show x.k = 4 ∨ x.k = 5 ∨ x.k = 7 ∨ x.k = 8 by omega) with e | e | e | e <;> simp [ruleV, e]
    | true =>
      rw [Bool.true_xor, ← look_neg]
      have he : (decide ((if true = true then oppK x.k else x.k) = 8)) = !(decide (x.k = 8)) ∨ (x.k = 4 ∨ x.k = 5) := by
        rcases (show x.k = 4 ∨ x.k = 5 ∨ x.k = 7 ∨ x.k = 8 by omega) with e | e | e | e <;> simp [oppK, e]
      rcases he with he | he
      · show look _ (decide ((if true = true then oppK x.k else x.k) = 8)) _ _ = _
        rw [he]
        refine look_congr _ _ _ _ _ fun k _ _ => ?_
        funext nx
        rcases (show x.k = 4 ∨ x.k = 5 ∨ x.k = 7 ∨ x.k = 8 by omega) with e | e | e | e <;> simp [ruleV, e, oppK]
      · rw [look_neg, look_flat hp hj (by show (if true = true then oppK x.k else x.k) ≠ 7; rcases he with e | e <;> simp [oppK, e]) (by show (if true = true then oppK x.k else x.k) ≠ 8; rcases he with e | e <;> simp [oppK, e]), look_flat hp hj (by omega) (by omega)]
        rcases he with e | e <;> simp [ruleV, e, oppK]

/-- What holds at a place hangs on what holds at the next one. -/
theorem vF_next {F : List Nd} (hF : AllOk F) {h p : Nat} {L : Nat → Int} {i j : Nat} (hp : 0 < p) (hi : i < F.length) (hj : j < h + p) :
    vF F h p L i j = ruleV (vF F h p L (F.getD i nd0).a.toNat) (vF F h p L (F.getD i nd0).b.toNat) h p L (F.getD i nd0) j (vF F h p L i (nxp h p j)) := by
  have hm : Mono (ruleB (tabN F h p L i) h p L (F.getD i nd0)) := rule_mono _ _ _ _ _
  have hmr : Mono (fun k => ruleB (tabN F h p L i) h p L (F.getD i nd0) (plc h p k)) := fun i => hm _
  have hper : ∀ k, h ≤ k → (fun k => ruleB (tabN F h p L i) h p L (F.getD i nd0) (plc h p k)) (k + p) = (fun k => ruleB (tabN F h p L i) h p L (F.getD i nd0) (plc h p k)) k := fun k hk => by
    show ruleB _ _ _ _ _ (plc h p (k + p)) = ruleB _ _ _ _ _ (plc h p k)
    rw [plc_add h p k hk]
  have e1 : vF F h p L i j = look (fun k => ruleB (tabN F h p L i) h p L (F.getD i nd0) (plc h p k)) (decide ((F.getD i nd0).k = 8)) (h + p + 1) j := by
    unfold vF valB
    exact (look_stab _ _ h p (h + p) (h + p + 1) j hmr hp (by omega) (by omega) hper (by omega)).symm
  have e2 : look (fun k => ruleB (tabN F h p L i) h p L (F.getD i nd0) (plc h p k)) (decide ((F.getD i nd0).k = 8)) (h + p) (j + 1) = vF F h p L i (nxp h p j) := by
    unfold vF valB nxp
    split
    · rename_i e
      rw [e, look_shift _ _ p (h + p) h hper]
    · rfl
  rw [e1]
  show ruleB (tabN F h p L i) h p L (F.getD i nd0) (plc h p j) (look (fun k => ruleB (tabN F h p L i) h p L (F.getD i nd0) (plc h p k)) (decide ((F.getD i nd0).k = 8)) (h + p) (j + 1)) = _
  rw [e2, plc_small hj]
  obtain ⟨hk, ⟨a0, a1, _⟩, ⟨b0, b1, _⟩, _⟩ := node_ok (hF i hi)
  refine ruleB_V hp hj (fun h3 j hj => ?_) (fun h3 j hj => ?_)
  · have := a1 h3
    exact bt_vF F h p L i _ j (by omega) hj
  · have := b1 h3
    exact bt_vF F h p L i _ j (by omega) hj

theorem neg_holds {F : List Nd} (hF : AllOk F) (hn : 0 < F.length) {h p : Nat} {L : Nat → Int} (hp : 0 < p) (j : Nat) (hj : j < h + p) : vF (negF F) h p L ((negF F).length - 1) j = !(vF F h p L (F.length - 1) j) := by
  have := opp hF (L := L) hp (F.length - 1) (by omega) true 0 (negF F) (fun d hd => by rw [Nat.zero_add]; rfl) j hj
  rw [Nat.zero_add, Bool.true_xor] at this
  exact this
end Go.Proofs.YtpiacnnifdjlkaaDoor
