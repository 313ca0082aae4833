/-
  Rows of bools as they lie in memory; what the rules of nodes answer.
-/
import Derived.Test.YtpiacnnifdjlkaaDoorEe
/-
  What the reference's NamesA, NamesB, TooMany and CheckFormula answer.
-/
namespace Go.Proofs.YtpiacnnifdjlkaaDoor
open Go.RowKit Go.Sort

def btw (a b c : Int) : Bool := decide (b ≤ a ∧ a ≤ c)
def nB (k : Int) : Bool := decide (k = 4 ∨ k = 5 ∨ k = 7 ∨ k = 8)

theorem between_b (a b c : Int) (w : World) : Calls Tryd.prog 50 #[.int .i64 a, .int .i64 b, .int .i64 c] w fun e w' => e = .returned (.bool (btw a b c)) ∧ w' = w := between_any a b c w

theorem ret_bool {a b : Bool} (h : a = b) : Ending.returned (.bool a) = .returned (.bool b) := by rw [h]

set_option maxHeartbeats 400000 in
theorem namesA_any (k : Int) (w : World) : Calls Tryd.prog 75 #[.int .i64 k] w fun e w' => e = .returned (.bool (btw k 3 8)) ∧ w' = w := by
  go_enter Tryd.func75, Tryd.ntmps75
  go_wp2_with (fail)
  refine (between_b k 3 8 _).mono ?_
  rintro e w' ⟨rfl, rfl⟩
  go_wp2_with (fail)
  go_ret
  exact ⟨rfl, rfl⟩

set_option maxHeartbeats 400000 in
theorem namesB_any (k : Int) (w : World) : Calls Tryd.prog 76 #[.int .i64 k] w fun e w' => e = .returned (.bool (nB k)) ∧ w' = w := by
  by_cases h4 : k = 4
  · subst h4
    go_enter Tryd.func76, Tryd.ntmps76
    go_wp2_with (fail)
    go_ret
    exact ⟨rfl, rfl⟩
  by_cases h5 : k = 5
  · subst h5
    go_enter Tryd.func76, Tryd.ntmps76
    go_wp2_with (fail)
    go_ret
    exact ⟨rfl, rfl⟩
  by_cases h7 : k = 7
  · subst h7
    go_enter Tryd.func76, Tryd.ntmps76
    go_wp2_with (fail)
    go_ret
    exact ⟨rfl, rfl⟩
  have b4 : (k == 4) = false := by simpa using h4
  have b5 : (k == 5) = false := by simpa using h5
  have b7 : (k == 7) = false := by simpa using h7
  by_cases h8 : k = 8
  · subst h8
    go_enter Tryd.func76, Tryd.ntmps76
    go_wp2_with (fail)
    go_ret
    exact ⟨rfl, rfl⟩
  have b8 : (k == 8) = false := by simpa using h8
  have e : nB k = false := by simp [nB, h4, h5, h7, h8]
  rw [e]
  clear h4 h5 h7 h8 e
  go_enter Tryd.func76, Tryd.ntmps76
  go_wp2_with (fail)
  go_ret
  exact ⟨rfl, rfl⟩

set_option maxRecDepth 100000 in
set_option maxHeartbeats 1000000 in
theorem tooMany_any {w : World} {v : Value} {F : List Nd} (hv : NodeSl w v F) :
    Calls Tryd.prog 74 #[v] w fun e w' => e = .returned (.bool (decide (12 < F.length ∨ 4 < cntT F))) ∧ Below w.heap.size w w' := by
  obtain ⟨a, cap, rfl, hm, hc, -⟩ := hv
  unfold maxLen at hm
  go_enter Tryd.func74, Tryd.ntmps74
  go_wp2_with (fail)
  go_loopw [3, 4] (fun c i wr => ∃ m : Nat, m ≤ F.length ∧ i = .int .i64 m ∧ c = .int .i64 (cntT (F.take m)) ∧ wr = w) (fun _ i _ => F.length - (intOf i).toNat)
  case atStart => exact ⟨0, Nat.zero_le _, rfl, rfl, rfl⟩
  case round =>
    obtain ⟨m, hml, rfl, rfl, rfl⟩ := hrel
    by_cases hlt : m < F.length
    · rcases hc with hc | ⟨b, off, rfl, hc⟩
      · subst hc; simp at hlt
      obtain ⟨c0, c1, c2, c3⟩ := hc m hlt
      have hs := cntT_snoc F m hlt
      have hl1 := cntT_le (F.take m)
      have hl2 : (F.take m).length ≤ m := List.length_take_le _ _
      generalize hx : F.getD m nd0 = x at *
      clear hc hx
      obtain ⟨k, xa, xb, xn⟩ := x
      dsimp only at *
      have Hs : Hid _ := hs
      clear hs
      generalize hct : cntT (F.take m) = c at *
      have Hct : Hid (cntT (F.take m) = c) := hct
      clear hct
      have ht' : tmpB k = btw k 6 8 := rfl
      have Ht' : Hid _ := ht'
      clear ht'
      cases ht : tmpB k with
      | true =>
        rw [ht] at Hs Ht'
        clear ht
        go_wp2_with (fail)
        refine (between_b k 6 8 _).mono ?_
        rintro e w' ⟨rfl, rfl⟩
        rw [← Ht'.out]
        go_wp2_with (fail)
        go_roundw
        case rel => exact ⟨m + 1, by omega, by go_num, by rw [Hs.out]; rfl, by first | rfl | trivial⟩
        case measure => simp [intOf]; omega
      | false =>
        rw [ht] at Hs Ht'
        clear ht
        go_wp2_with (fail)
        refine (between_b k 6 8 _).mono ?_
        rintro e w' ⟨rfl, rfl⟩
        rw [← Ht'.out]
        go_wp2_with (fail)
        go_roundw
        case rel => exact ⟨m + 1, by omega, by go_num, by rw [Hs.out]; rfl, by first | rfl | trivial⟩
        case measure => simp [intOf]; omega
    · have hx : F.take m = F := List.take_of_length_le (by omega)
      have Hx : Hid (cntT (F.take m) = cntT F) := by rw [hx]; exact hide rfl
      clear hx
      by_cases h12 : 12 < F.length
      · go_wp2_with (fail)
        go_ret
        exact ⟨ret_bool (by simp), Below.refl _ _⟩
      · have h13 : F.length ≤ 12 := by omega
        have Hn : Hid (¬ 12 < F.length) := h12
        clear h12
        go_wp2_with (fail)
        go_ret
        exact ⟨ret_bool (by rw [Hx.out, Bool.eq_iff_iff]; have := Hn.out; simp; omega), Below.refl _ _⟩

/-- The ways of a node's check. -/
theorem nodeWays (x : Nd) (i : Int) :
    (btw x.k 1 8 = false ∧ nodeErr x i = 7) ∨
    (btw x.k 1 8 = true ∧ btw x.k 3 8 = true ∧ btw x.a 0 (i - 1) = false ∧ nodeErr x i = 5) ∨
    (btw x.k 1 8 = true ∧ btw x.k 3 8 = true ∧ btw x.a 0 (i - 1) = true ∧ nB x.k = true ∧ btw x.b 0 (i - 1) = false ∧ nodeErr x i = 5) ∨
    (btw x.k 1 8 = true ∧ btw x.k 3 8 = true ∧ btw x.a 0 (i - 1) = true ∧ nB x.k = true ∧ btw x.b 0 (i - 1) = true ∧ (x.k == 2) = false ∧ (x.k != 2) = true ∧ (x.n != 0) = true ∧ nodeErr x i = 1) ∨
    (btw x.k 1 8 = true ∧ btw x.k 3 8 = true ∧ btw x.a 0 (i - 1) = true ∧ nB x.k = true ∧ btw x.b 0 (i - 1) = true ∧ (x.k == 2) = false ∧ (x.k != 2) = true ∧ (x.n != 0) = false ∧ nodeErr x i = 0) ∨
    (btw x.k 1 8 = true ∧ btw x.k 3 8 = true ∧ btw x.a 0 (i - 1) = true ∧ nB x.k = false ∧ (x.k == 2) = false ∧ (x.b != 0) = true ∧ nodeErr x i = 1) ∨
    (btw x.k 1 8 = true ∧ btw x.k 3 8 = true ∧ btw x.a 0 (i - 1) = true ∧ nB x.k = false ∧ (x.k == 2) = false ∧ (x.b != 0) = false ∧ (x.k != 2) = true ∧ (x.n != 0) = true ∧ nodeErr x i = 1) ∨
    (btw x.k 1 8 = true ∧ btw x.k 3 8 = true ∧ btw x.a 0 (i - 1) = true ∧ nB x.k = false ∧ (x.k == 2) = false ∧ (x.b != 0) = false ∧ (x.k != 2) = true ∧ (x.n != 0) = false ∧ nodeErr x i = 0) ∨
    (btw x.k 1 8 = true ∧ btw x.k 3 8 = false ∧ nB x.k = false ∧ (x.k == 2) = false ∧ (x.a != 0) = true ∧ nodeErr x i = 1) ∨
    (btw x.k 1 8 = true ∧ btw x.k 3 8 = false ∧ nB x.k = false ∧ (x.k == 2) = false ∧ (x.a != 0) = false ∧ (x.b != 0) = true ∧ nodeErr x i = 1) ∨
    (btw x.k 1 8 = true ∧ btw x.k 3 8 = false ∧ nB x.k = false ∧ (x.k == 2) = false ∧ (x.a != 0) = false ∧ (x.b != 0) = false ∧ (x.k != 2) = true ∧ (x.n != 0) = true ∧ nodeErr x i = 1) ∨
    (btw x.k 1 8 = true ∧ btw x.k 3 8 = false ∧ nB x.k = false ∧ (x.k == 2) = false ∧ (x.a != 0) = false ∧ (x.b != 0) = false ∧ (x.k != 2) = true ∧ (x.n != 0) = false ∧ nodeErr x i = 0) ∨
    (btw x.k 1 8 = true ∧ btw x.k 3 8 = false ∧ nB x.k = false ∧ (x.k == 2) = true ∧ btw x.n 0 2 = false ∧ nodeErr x i = 3) ∨
    (btw x.k 1 8 = true ∧ btw x.k 3 8 = false ∧ nB x.k = false ∧ (x.k == 2) = true ∧ btw x.n 0 2 = true ∧ (x.a != 0) = true ∧ nodeErr x i = 1) ∨
    (btw x.k 1 8 = true ∧ btw x.k 3 8 = false ∧ nB x.k = false ∧ (x.k == 2) = true ∧ btw x.n 0 2 = true ∧ (x.a != 0) = false ∧ (x.b != 0) = true ∧ nodeErr x i = 1) ∨
    (btw x.k 1 8 = true ∧ btw x.k 3 8 = false ∧ nB x.k = false ∧ (x.k == 2) = true ∧ btw x.n 0 2 = true ∧ (x.a != 0) = false ∧ (x.b != 0) = false ∧ (x.k != 2) = false ∧ nodeErr x i = 0) := by
  obtain ⟨k, a, b, n⟩ := x
  simp only [btw, nB, nodeErr, chkN, decide_eq_true_eq, decide_eq_false_iff_not, beq_iff_eq, beq_eq_false_iff_ne, bne_iff_ne, bne_eq_false_iff_eq, ne_eq]
  by_cases h1 : 1 ≤ k ∧ k ≤ 8
  · rw [if_pos h1]
    by_cases hA : 3 ≤ k ∧ k ≤ 8
    · have h2 : ¬ k = 2 := by omega
      by_cases hDA : 0 ≤ a ∧ a ≤ i - 1
      · have hDA' : 0 ≤ a ∧ a < i := by omega
        by_cases hB : k = 4 ∨ k = 5 ∨ k = 7 ∨ k = 8
        · by_cases hDB : 0 ≤ b ∧ b ≤ i - 1
          · have hDB' : 0 ≤ b ∧ b < i := by omega
            by_cases hN : n = 0 <;> simp [h1, hA, hDA, hDA', hB, hDB, hDB', h2, hN]
          · have hDB' : ¬ (0 ≤ b ∧ b < i) := by omega
            simp [h1, hA, hDA, hDA', hB, hDB, hDB', h2]
        · by_cases hb : b = 0
          · by_cases hN : n = 0 <;> simp [h1, hA, hDA, hDA', hB, h2, hb, hN]
          · simp [h1, hA, hDA, hDA', hB, h2, hb]
      · have hDA' : ¬ (0 ≤ a ∧ a < i) := by omega
        simp [h1, hA, hDA, hDA', h2]
    · by_cases h2 : k = 2
      · subst h2
        by_cases hDN : 0 ≤ n ∧ n ≤ 2
        · by_cases ha : a = 0
          · by_cases hb : b = 0 <;> simp [hDN, ha, hb]
          · simp [hDN, ha]
        · simp [hDN]
      · have h3 : k = 1 := by omega
        subst h3
        by_cases ha : a = 0
        · by_cases hb : b = 0
          · by_cases hN : n = 0 <;> simp [ha, hb, hN]
          · simp [ha, hb]
        · simp [ha]
  · simp [h1]

set_option maxRecDepth 100000 in
set_option maxHeartbeats 4000000 in
theorem checkFormula_loop {w : World} {F : List Nd} {a : Option Addr} {cap : Nat} (hle : F.length ≤ 12) (hv : NodeSl w (.slice a F.length cap) F) (h8 : ((F.length : Int) == 0) = false) (ht : decide (12 < F.length ∨ 4 < cntT F) = false) (q : Int) (hq : chkFrom F 0 = q) :
    Calls Tryd.prog 36 #[.slice a F.length cap] w fun e w' => e = .returned (.int .i64 q) ∧ Below w.heap.size w w' := by
  have HT := hide (tooMany_any hv)
  have HQ : Hid _ := hide hq
  obtain ⟨a', cap', he, hm, hc, -⟩ := hv
  cases he
  unfold maxLen at hm
  clear hq
  go_enter Tryd.func36, Tryd.ntmps36
  go_wp2_with (fail)
  refine HT.out.mono ?_
  rintro e w1 ⟨rfl, hb⟩
  rw [ht]
  clear ht HT
  go_wp2_with (fail)
  go_loopw [3] (fun i wr => ∃ m : Nat, m ≤ F.length ∧ i = .int .i64 m ∧ chkFrom F 0 = chkFrom (F.drop m) m ∧ Below w1.heap.size w1 wr) (fun i _ => F.length - (intOf i).toNat)
  case atStart => exact ⟨0, Nat.zero_le _, rfl, rfl, Below.refl _ _⟩
  case round =>
    obtain ⟨m, hml, rfl, hfr, hbw⟩ := hrel
    have Hfr : Hid _ := hfr
    clear hfr
    by_cases hlt : m < F.length
    · rcases hc with hc | ⟨b, off, rfl, hc⟩
      · subst hc; simp at hlt
      have hbw0 := below_trans hb hbw
      obtain ⟨c0, c1, c2, c3⟩ := hc m hlt
      rw [← hbw0.cell (World.block_lt_of_cell? w _ c0)] at c0
      rw [← hbw0.cell (World.block_lt_of_cell? w _ c1)] at c1
      rw [← hbw0.cell (World.block_lt_of_cell? w _ c2)] at c2
      rw [← hbw0.cell (World.block_lt_of_cell? w _ c3)] at c3
      have hd := chkFrom_drop F m hlt
      rw [← Hfr.out, HQ.out] at hd
      have Hd : Hid _ := hd
      clear hd hc
      generalize F.getD m nd0 = x at *
      have hbn : Below w.heap.size w (wr.alloc (Obj.cells #[.int .i64 x.k, .int .i64 x.a, .int .i64 x.b, .int .i64 x.n] 74)) := below_trans hbw0 (below_new wr _)
      have hbr : Below w1.heap.size w1 (wr.alloc (Obj.cells #[.int .i64 x.k, .int .i64 x.a, .int .i64 x.b, .int .i64 x.n] 74)) := below_trans hbw (below_new wr _)
      have HN := hide hbn
      have HR := hide hbr
      clear hbn hbr
      have hways := nodeWays x m
      obtain ⟨k, xa, xb, xn⟩ := x
      dsimp only at *
      rcases hways with hw | hw | hw | hw | hw | hw | hw | hw | hw | hw | hw | hw | hw | hw | hw | hw
      · obtain ⟨g0, hne⟩ := hw
        rw [hne] at Hd
        clear hne
        go_wp2_with (first | (go_at_call 50; refine (between_b _ _ _ _).mono ?_; rintro e w' ⟨rfl, rfl⟩) | (go_at_call 75; refine (namesA_any _ _).mono ?_; rintro e w' ⟨rfl, rfl⟩) | (go_at_call 76; refine (namesB_any _ _).mono ?_; rintro e w' ⟨rfl, rfl⟩))
        go_ret
        exact ⟨ret_eq (by rw [Hd.out]; rfl), HN.out⟩
      · obtain ⟨g0, g1, g2, hne⟩ := hw
        rw [hne] at Hd
        clear hne
        go_wp2_with (first | (go_at_call 50; refine (between_b _ _ _ _).mono ?_; rintro e w' ⟨rfl, rfl⟩) | (go_at_call 75; refine (namesA_any _ _).mono ?_; rintro e w' ⟨rfl, rfl⟩) | (go_at_call 76; refine (namesB_any _ _).mono ?_; rintro e w' ⟨rfl, rfl⟩))
        go_ret
        exact ⟨ret_eq (by rw [Hd.out]; rfl), HN.out⟩
      · obtain ⟨g0, g1, g2, g3, g4, hne⟩ := hw
        rw [hne] at Hd
        clear hne
        go_wp2_with (first | (go_at_call 50; refine (between_b _ _ _ _).mono ?_; rintro e w' ⟨rfl, rfl⟩) | (go_at_call 75; refine (namesA_any _ _).mono ?_; rintro e w' ⟨rfl, rfl⟩) | (go_at_call 76; refine (namesB_any _ _).mono ?_; rintro e w' ⟨rfl, rfl⟩))
        go_ret
        exact ⟨ret_eq (by rw [Hd.out]; rfl), HN.out⟩
      · obtain ⟨g0, g1, g2, g3, g4, g5, g6, g7, hne⟩ := hw
        rw [hne] at Hd
        clear hne
        go_wp2_with (first | (go_at_call 50; refine (between_b _ _ _ _).mono ?_; rintro e w' ⟨rfl, rfl⟩) | (go_at_call 75; refine (namesA_any _ _).mono ?_; rintro e w' ⟨rfl, rfl⟩) | (go_at_call 76; refine (namesB_any _ _).mono ?_; rintro e w' ⟨rfl, rfl⟩))
        go_ret
        exact ⟨ret_eq (by rw [Hd.out]; rfl), HN.out⟩
      · obtain ⟨g0, g1, g2, g3, g4, g5, g6, g7, hne⟩ := hw
        rw [hne] at Hd
        clear hne
        go_wp2_with (first | (go_at_call 50; refine (between_b _ _ _ _).mono ?_; rintro e w' ⟨rfl, rfl⟩) | (go_at_call 75; refine (namesA_any _ _).mono ?_; rintro e w' ⟨rfl, rfl⟩) | (go_at_call 76; refine (namesB_any _ _).mono ?_; rintro e w' ⟨rfl, rfl⟩))
        go_roundw
        case rel => exact ⟨m + 1, by omega, by go_num, (by rw [HQ.out, Hd.out]; rfl), HR.out⟩
        case measure => simp [intOf]; omega
      · obtain ⟨g0, g1, g2, g3, g4, g5, hne⟩ := hw
        rw [hne] at Hd
        clear hne
        go_wp2_with (first | (go_at_call 50; refine (between_b _ _ _ _).mono ?_; rintro e w' ⟨rfl, rfl⟩) | (go_at_call 75; refine (namesA_any _ _).mono ?_; rintro e w' ⟨rfl, rfl⟩) | (go_at_call 76; refine (namesB_any _ _).mono ?_; rintro e w' ⟨rfl, rfl⟩))
        go_ret
        exact ⟨ret_eq (by rw [Hd.out]; rfl), HN.out⟩
      · obtain ⟨g0, g1, g2, g3, g4, g5, g6, g7, hne⟩ := hw
        rw [hne] at Hd
        clear hne
        go_wp2_with (first | (go_at_call 50; refine (between_b _ _ _ _).mono ?_; rintro e w' ⟨rfl, rfl⟩) | (go_at_call 75; refine (namesA_any _ _).mono ?_; rintro e w' ⟨rfl, rfl⟩) | (go_at_call 76; refine (namesB_any _ _).mono ?_; rintro e w' ⟨rfl, rfl⟩))
        go_ret
        exact ⟨ret_eq (by rw [Hd.out]; rfl), HN.out⟩
      · obtain ⟨g0, g1, g2, g3, g4, g5, g6, g7, hne⟩ := hw
        rw [hne] at Hd
        clear hne
        go_wp2_with (first | (go_at_call 50; refine (between_b _ _ _ _).mono ?_; rintro e w' ⟨rfl, rfl⟩) | (go_at_call 75; refine (namesA_any _ _).mono ?_; rintro e w' ⟨rfl, rfl⟩) | (go_at_call 76; refine (namesB_any _ _).mono ?_; rintro e w' ⟨rfl, rfl⟩))
        go_roundw
        case rel => exact ⟨m + 1, by omega, by go_num, (by rw [HQ.out, Hd.out]; rfl), HR.out⟩
        case measure => simp [intOf]; omega
      · obtain ⟨g0, g1, g2, g3, g4, hne⟩ := hw
        rw [hne] at Hd
        clear hne
        go_wp2_with (first | (go_at_call 50; refine (between_b _ _ _ _).mono ?_; rintro e w' ⟨rfl, rfl⟩) | (go_at_call 75; refine (namesA_any _ _).mono ?_; rintro e w' ⟨rfl, rfl⟩) | (go_at_call 76; refine (namesB_any _ _).mono ?_; rintro e w' ⟨rfl, rfl⟩))
        go_ret
        exact ⟨ret_eq (by rw [Hd.out]; rfl), HN.out⟩
      · obtain ⟨g0, g1, g2, g3, g4, g5, hne⟩ := hw
        rw [hne] at Hd
        clear hne
        go_wp2_with (first | (go_at_call 50; refine (between_b _ _ _ _).mono ?_; rintro e w' ⟨rfl, rfl⟩) | (go_at_call 75; refine (namesA_any _ _).mono ?_; rintro e w' ⟨rfl, rfl⟩) | (go_at_call 76; refine (namesB_any _ _).mono ?_; rintro e w' ⟨rfl, rfl⟩))
        go_ret
        exact ⟨ret_eq (by rw [Hd.out]; rfl), HN.out⟩
      · obtain ⟨g0, g1, g2, g3, g4, g5, g6, g7, hne⟩ := hw
        rw [hne] at Hd
        clear hne
        go_wp2_with (first | (go_at_call 50; refine (between_b _ _ _ _).mono ?_; rintro e w' ⟨rfl, rfl⟩) | (go_at_call 75; refine (namesA_any _ _).mono ?_; rintro e w' ⟨rfl, rfl⟩) | (go_at_call 76; refine (namesB_any _ _).mono ?_; rintro e w' ⟨rfl, rfl⟩))
        go_ret
        exact ⟨ret_eq (by rw [Hd.out]; rfl), HN.out⟩
      · obtain ⟨g0, g1, g2, g3, g4, g5, g6, g7, hne⟩ := hw
        rw [hne] at Hd
        clear hne
        go_wp2_with (first | (go_at_call 50; refine (between_b _ _ _ _).mono ?_; rintro e w' ⟨rfl, rfl⟩) | (go_at_call 75; refine (namesA_any _ _).mono ?_; rintro e w' ⟨rfl, rfl⟩) | (go_at_call 76; refine (namesB_any _ _).mono ?_; rintro e w' ⟨rfl, rfl⟩))
        go_roundw
        case rel => exact ⟨m + 1, by omega, by go_num, (by rw [HQ.out, Hd.out]; rfl), HR.out⟩
        case measure => simp [intOf]; omega
      · obtain ⟨g0, g1, g2, g3, g4, hne⟩ := hw
        rw [hne] at Hd
        clear hne
        go_wp2_with (first | (go_at_call 50; refine (between_b _ _ _ _).mono ?_; rintro e w' ⟨rfl, rfl⟩) | (go_at_call 75; refine (namesA_any _ _).mono ?_; rintro e w' ⟨rfl, rfl⟩) | (go_at_call 76; refine (namesB_any _ _).mono ?_; rintro e w' ⟨rfl, rfl⟩))
        go_ret
        exact ⟨ret_eq (by rw [Hd.out]; rfl), HN.out⟩
      · obtain ⟨g0, g1, g2, g3, g4, g5, hne⟩ := hw
        rw [hne] at Hd
        clear hne
        go_wp2_with (first | (go_at_call 50; refine (between_b _ _ _ _).mono ?_; rintro e w' ⟨rfl, rfl⟩) | (go_at_call 75; refine (namesA_any _ _).mono ?_; rintro e w' ⟨rfl, rfl⟩) | (go_at_call 76; refine (namesB_any _ _).mono ?_; rintro e w' ⟨rfl, rfl⟩))
        go_ret
        exact ⟨ret_eq (by rw [Hd.out]; rfl), HN.out⟩
      · obtain ⟨g0, g1, g2, g3, g4, g5, g6, hne⟩ := hw
        rw [hne] at Hd
        clear hne
        go_wp2_with (first | (go_at_call 50; refine (between_b _ _ _ _).mono ?_; rintro e w' ⟨rfl, rfl⟩) | (go_at_call 75; refine (namesA_any _ _).mono ?_; rintro e w' ⟨rfl, rfl⟩) | (go_at_call 76; refine (namesB_any _ _).mono ?_; rintro e w' ⟨rfl, rfl⟩))
        go_ret
        exact ⟨ret_eq (by rw [Hd.out]; rfl), HN.out⟩
      · obtain ⟨g0, g1, g2, g3, g4, g5, g6, g7, hne⟩ := hw
        rw [hne] at Hd
        clear hne
        go_wp2_with (first | (go_at_call 50; refine (between_b _ _ _ _).mono ?_; rintro e w' ⟨rfl, rfl⟩) | (go_at_call 75; refine (namesA_any _ _).mono ?_; rintro e w' ⟨rfl, rfl⟩) | (go_at_call 76; refine (namesB_any _ _).mono ?_; rintro e w' ⟨rfl, rfl⟩))
        go_roundw
        case rel => exact ⟨m + 1, by omega, by go_num, (by rw [HQ.out, Hd.out]; rfl), HR.out⟩
        case measure => simp [intOf]; omega
    · go_wp2_with (fail)
      go_ret
      exact ⟨ret_eq (by rw [← HQ.out, Hfr.out, chkFrom_end F m (by omega)]), below_trans hb hbw⟩

set_option maxHeartbeats 1000000 in
theorem checkFormula_any {w : World} {v : Value} {F : List Nd} (hv : NodeSl w v F) :
    Calls Tryd.prog 36 #[v] w fun e w' => e = .returned (.int .i64 (chkF F)) ∧ Below w.heap.size w w' := by
  have HT := hide (tooMany_any hv)
  have HV := hide hv
  obtain ⟨a, cap, rfl, hm, -, -⟩ := hv
  unfold maxLen at hm
  by_cases h0 : F.length = 0
  · have e : chkF F = 1 := by simp [chkF, h0]
    rw [e]
    have h8 : ((F.length : Int) == 0) = true := by simpa using h0
    clear e h0
    go_enter Tryd.func36, Tryd.ntmps36
    go_wp2_with (fail)
    go_ret
    exact ⟨rfl, (by repeat (first | exact Below.refl _ _ | assumption | refine below_drewN ?_ _ | refine Below.drew ?_ | refine Below.alloc ?_ (by simp <;> omega) _ | refine below_trans ?_ (by assumption)))⟩
  have h8 : ((F.length : Int) == 0) = false := by rw [beq_eq_false_iff_ne]; omega
  by_cases h12 : 12 < F.length ∨ 4 < cntT F
  · have e : chkF F = 2 := by simp [chkF, h0, h12]
    rw [e]
    have ht : decide (12 < F.length ∨ 4 < cntT F) = true := by simp [h12]
    clear e h0 h12
    go_enter Tryd.func36, Tryd.ntmps36
    go_wp2_with (fail)
    refine HT.out.mono ?_
    rintro e w1 ⟨rfl, hb⟩
    rw [ht]
    clear ht HT
    go_wp2_with (fail)
    go_ret
    exact ⟨rfl, hb⟩
  have e : chkF F = chkFrom F 0 := by simp only [chkF, h0, h12, if_false]
  exact checkFormula_loop (by omega) HV.out h8 (by simpa using h12) _ e.symm
end Go.Proofs.YtpiacnnifdjlkaaDoor

namespace Go.Proofs.YtpiacnnifdjlkaaDoor
open Go.RowKit Go.Sort

/-- A slice of bools that reads as this list. -/
def RowSl (w : World) (v : Value) (zs : List Bool) : Prop :=
  ∃ a cap, v = .slice a zs.length cap ∧ zs.length ≤ maxLen ∧ (zs = [] ∨ ∃ b off, a = some ⟨b, off, none⟩ ∧ ∀ i, i < zs.length → w.cell? ⟨b, off + i, none⟩ = some (.bool (zs.getD i false))) ∧ (a = none → cap = 0) ∧ zs.length ≤ cap

theorem RowSl.below {w w' : World} {v : Value} {zs : List Bool} (h : RowSl w v zs) (hb : Below w.heap.size w w') : RowSl w' v zs := by
  obtain ⟨a, cap, rfl, hm, h, hn⟩ := h
  refine ⟨a, cap, rfl, hm, ?_, hn⟩
  rcases h with h | ⟨b, off, rfl, hc⟩
  · exact Or.inl h
  · refine Or.inr ⟨b, off, rfl, fun i hi => ?_⟩
    have := hc i hi
    rw [hb.cell (World.block_lt_of_cell? w _ this)]; exact this

theorem RowSl.at {w : World} {v : Value} {zs : List Bool} (h : RowSl w v zs) (i : Nat) (hi : i < zs.length) : ∃ b off cap, v = .slice (some ⟨b, off, none⟩) zs.length cap ∧ w.cell? ⟨b, off + i, none⟩ = some (.bool (zs.getD i false)) ∧ zs.length ≤ 9223372036854775807 := by
  obtain ⟨a, cap, rfl, hm, h, hn⟩ := h
  rcases h with h | ⟨b, off, rfl, hc⟩
  · subst h; simp at hi
  · exact ⟨b, off, cap, rfl, hc i hi, by unfold maxLen at hm; omega⟩

theorem IntSl.at {w : World} {v : Value} {zs : List Int} (h : IntSl w v zs) (i : Nat) (hi : i < zs.length) : ∃ b off cap, v = .slice (some ⟨b, off, none⟩) zs.length cap ∧ w.cell? ⟨b, off + i, none⟩ = some (.int .i64 (zs.getD i 0)) ∧ zs.length ≤ 9223372036854775807 := by
  obtain ⟨a, cap, rfl, hm, h, hn⟩ := h
  rcases h with h | ⟨b, off, rfl, hc⟩
  · subst h; simp at hi
  · exact ⟨b, off, cap, rfl, hc i hi, by unfold maxLen at hm; omega⟩

set_option maxHeartbeats 400000 in
theorem rule2_any {w : World} {av : Value} {A : List Bool} (i : Nat) (nx : Bool) (pa : Nat) (ha : w.cell? ⟨pa, 0, none⟩ = some av) (hA : RowSl w av A) (hi : i < A.length) :
    Calls Tryd.prog 138 #[.int .i64 i, .bool nx, .pointer (some ⟨pa, 0, none⟩)] w fun e w' => e = .returned (.bool (!A.getD i false)) ∧ w' = w := by
  obtain ⟨b, off, cap, rfl, hc, hm⟩ := hA.at i hi
  clear hA
  generalize A.getD i false = x at *
  go_enter Tryd.func138, Tryd.ntmps138
  go_wp2_with (fail)
  go_ret
  exact ⟨rfl, rfl⟩

set_option maxHeartbeats 400000 in
theorem rule8_any {w : World} (i : Int) (nx : Bool) :
    Calls Tryd.prog 145 #[.int .i64 i, .bool nx] w fun e w' => e = .returned (.bool true) ∧ w' = w := by
  go_enter Tryd.func145, Tryd.ntmps145
  go_wp2_with (fail)
  go_ret
  exact ⟨rfl, rfl⟩

set_option maxHeartbeats 400000 in
theorem rule3_any {w : World} {av bv : Value} {A B : List Bool} (i : Nat) (nx : Bool) (pa pb : Nat) (ha : w.cell? ⟨pa, 0, none⟩ = some av) (hA : RowSl w av A) (hi : i < A.length) (hb : w.cell? ⟨pb, 0, none⟩ = some bv) (hB : RowSl w bv B) (hj : i < B.length) :
    Calls Tryd.prog 139 #[.int .i64 i, .bool nx, .pointer (some ⟨pa, 0, none⟩), .pointer (some ⟨pb, 0, none⟩)] w fun e w' => e = .returned (.bool (A.getD i false && B.getD i false)) ∧ w' = w := by
  obtain ⟨b, off, cap, rfl, hc, hm⟩ := hA.at i hi
  obtain ⟨b', off', cap', rfl, hc', hm'⟩ := hB.at i hj
  clear hA hB
  generalize A.getD i false = x at *
  generalize B.getD i false = y at *
  cases x <;> cases y <;> (
    go_enter Tryd.func139, Tryd.ntmps139
    go_wp2_with (fail)
    go_ret
    exact ⟨by first | rfl | (cases nx <;> rfl), rfl⟩)

set_option maxHeartbeats 400000 in
theorem rule4_any {w : World} {av bv : Value} {A B : List Bool} (i : Nat) (nx : Bool) (pa pb : Nat) (ha : w.cell? ⟨pa, 0, none⟩ = some av) (hA : RowSl w av A) (hi : i < A.length) (hb : w.cell? ⟨pb, 0, none⟩ = some bv) (hB : RowSl w bv B) (hj : i < B.length) :
    Calls Tryd.prog 140 #[.int .i64 i, .bool nx, .pointer (some ⟨pa, 0, none⟩), .pointer (some ⟨pb, 0, none⟩)] w fun e w' => e = .returned (.bool (A.getD i false || B.getD i false)) ∧ w' = w := by
  obtain ⟨b, off, cap, rfl, hc, hm⟩ := hA.at i hi
  obtain ⟨b', off', cap', rfl, hc', hm'⟩ := hB.at i hj
  clear hA hB
  generalize A.getD i false = x at *
  generalize B.getD i false = y at *
  cases x <;> cases y <;> (
    go_enter Tryd.func140, Tryd.ntmps140
    go_wp2_with (fail)
    go_ret
    exact ⟨by first | rfl | (cases nx <;> rfl), rfl⟩)

set_option maxHeartbeats 400000 in
theorem rule6_any {w : World} {av bv : Value} {A B : List Bool} (i : Nat) (nx : Bool) (pa pb : Nat) (ha : w.cell? ⟨pa, 0, none⟩ = some av) (hA : RowSl w av A) (hi : i < A.length) (hb : w.cell? ⟨pb, 0, none⟩ = some bv) (hB : RowSl w bv B) (hj : i < B.length) :
    Calls Tryd.prog 143 #[.int .i64 i, .bool nx, .pointer (some ⟨pb, 0, none⟩), .pointer (some ⟨pa, 0, none⟩)] w fun e w' => e = .returned (.bool (B.getD i false || A.getD i false && nx)) ∧ w' = w := by
  obtain ⟨b, off, cap, rfl, hc, hm⟩ := hA.at i hi
  obtain ⟨b', off', cap', rfl, hc', hm'⟩ := hB.at i hj
  clear hA hB
  generalize A.getD i false = x at *
  generalize B.getD i false = y at *
  cases x <;> cases y <;> (
    go_enter Tryd.func143, Tryd.ntmps143
    go_wp2_with (fail)
    go_ret
    exact ⟨by first | rfl | (cases nx <;> rfl), rfl⟩)

set_option maxHeartbeats 400000 in
theorem rule7_any {w : World} {av bv : Value} {A B : List Bool} (i : Nat) (nx : Bool) (pa pb : Nat) (ha : w.cell? ⟨pa, 0, none⟩ = some av) (hA : RowSl w av A) (hi : i < A.length) (hb : w.cell? ⟨pb, 0, none⟩ = some bv) (hB : RowSl w bv B) (hj : i < B.length) :
    Calls Tryd.prog 144 #[.int .i64 i, .bool nx, .pointer (some ⟨pb, 0, none⟩), .pointer (some ⟨pa, 0, none⟩)] w fun e w' => e = .returned (.bool (B.getD i false && (A.getD i false || nx))) ∧ w' = w := by
  obtain ⟨b, off, cap, rfl, hc, hm⟩ := hA.at i hi
  obtain ⟨b', off', cap', rfl, hc', hm'⟩ := hB.at i hj
  clear hA hB
  generalize A.getD i false = x at *
  generalize B.getD i false = y at *
  cases x <;> cases y <;> (
    go_enter Tryd.func144, Tryd.ntmps144
    go_wp2_with (fail)
    go_ret
    exact ⟨by first | rfl | (cases nx <;> rfl), rfl⟩)

set_option maxHeartbeats 400000 in
theorem next_place {w : World} {a : Option Addr} {N c : Nat} (h i : Nat) (rv : Value) (hN : N ≤ 9223372036854775807) (hi : i < N) :
    Calls Tryd.prog 142 #[.agg #[.slice a N c, .int .i64 h, rv], .int .i64 i] w fun e w' => e = .returned (.int .i64 (if i + 1 = N then h else i + 1 : Nat)) ∧ Below w.heap.size w w' := by
  by_cases e : i + 1 = N
  · have hb : ((i : Int) + 1 == N) = true := by rw [beq_iff_eq]; omega
    rw [if_pos e]
    clear e
    go_enter Tryd.func142, Tryd.ntmps142
    go_wp2_with (fail)
    go_ret
    exact ⟨rfl, (by repeat (first | exact Below.refl _ _ | assumption | refine below_drewN ?_ _ | refine Below.drew ?_ | refine Below.alloc ?_ (by simp <;> omega) _ | refine below_trans ?_ (by assumption)))⟩
  · have hb : ((i : Int) + 1 == N) = false := by rw [beq_eq_false_iff_ne]; omega
    rw [if_neg e]
    clear e
    go_enter Tryd.func142, Tryd.ntmps142
    go_wp2_with (fail)
    go_ret
    exact ⟨by go_num, (by repeat (first | exact Below.refl _ _ | assumption | refine below_drewN ?_ _ | refine Below.drew ?_ | refine Below.alloc ?_ (by simp <;> omega) _ | refine below_trans ?_ (by assumption)))⟩

theorem bit_and (x n : Int) (h0 : 0 ≤ x) (h7 : x ≤ 7) (n0 : 0 ≤ n) (n2 : n ≤ 2) : (bits BinOp.and IntKind.i64 (x / 2 ^ n.toNat) 1 != 0) = decide (x / 2 ^ n.toNat % 2 = 1) := by
  have hx : x = 0 ∨ x = 1 ∨ x = 2 ∨ x = 3 ∨ x = 4 ∨ x = 5 ∨ x = 6 ∨ x = 7 := by omega
  have hn : n = 0 ∨ n = 1 ∨ n = 2 := by omega
  rcases hx with rfl | rfl | rfl | rfl | rfl | rfl | rfl | rfl <;> rcases hn with rfl | rfl | rfl <;> decide +kernel

set_option maxHeartbeats 1000000 in
theorem rule1_any {w : World} {lv : Value} {Ls : List Int} (i : Nat) (nx : Bool) (pt pn : Nat) (n : Int) (h0 : w.cell? ⟨pt, 0, none⟩ = some lv) (hL : IntSl w lv Ls) (hi : i < Ls.length) (hx : 0 ≤ Ls.getD i 0 ∧ Ls.getD i 0 ≤ 7) (hn : 0 ≤ n ∧ n ≤ 2)
    (h3 : w.cell? ⟨pn, 3, none⟩ = some (.int .i64 n)) :
    Calls Tryd.prog 137 #[.int .i64 i, .bool nx, .pointer (some ⟨pt, 0, none⟩), .pointer (some ⟨pn, 0, none⟩)] w fun e w' => e = .returned (.bool (decide (Ls.getD i 0 / 2 ^ n.toNat % 2 = 1))) ∧ ∃ m, w' = w.drewN m := by
  obtain ⟨b', off, cap, rfl, hc, hm⟩ := hL.at i hi
  clear hL
  generalize Ls.getD i 0 = x at *
  obtain ⟨hx0, hx7⟩ := hx
  obtain ⟨hn0, hn2⟩ := hn
  go_enter Tryd.func137, Tryd.ntmps137
  go_wp2_with (fail)
  (refine wp_region_quiet_lit (by kernel_rfl) (by kernel_rfl) ?_; (repeat (go_big_quiet_step (fail))); refine wpQuiet_nil ?_; intro _ hw'; obtain ⟨nq, hw''⟩ := hw'; subst hw'')
  go_wp2_with (fail)
  go_ret
  exact ⟨ret_bool (bit_and x n hx0 hx7 hn0 hn2), nq, rfl⟩
end Go.Proofs.YtpiacnnifdjlkaaDoor
