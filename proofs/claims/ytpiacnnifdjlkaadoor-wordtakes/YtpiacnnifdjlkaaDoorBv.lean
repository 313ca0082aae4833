/-
  What the innermost function of takes answers.
-/
import Derived.Test.YtpiacnnifdjlkaaDoorBu
namespace Go.Proofs.YtpiacnnifdjlkaaDoor
open Go.RowKit Go.Sort

/-- A run's cells, as they lie in a variable. -/
def RunAt (w : World) (B : Nat) (R : Rn) : Prop := w.heap[B]? = some (.cells #[Value.int .i64 R.n, .int .i64 R.m, .slice R.a1 R.l1 R.c1, .slice R.a2 R.l2 R.c2, .slice R.a3 R.l3 R.c3, .slice R.a4 R.hs.length R.c4, .slice R.a5 R.ls.length R.c5, .slice (some ⟨R.g, 0, none⟩) R.N R.N] 101)
def SpotAt (w : World) (B : Nat) (x : Spot) : Prop := w.heap[B]? = some (.cells #[Value.int .i64 x.1, .int .i64 x.2] 151)

theorem RunAt.lt {w : World} {B : Nat} {R : Rn} (h : RunAt w B R) : B < w.heap.size := (Array.getElem?_eq_some_iff.1 h).1
theorem SpotAt.lt {w : World} {B : Nat} {x : Spot} (h : SpotAt w B x) : B < w.heap.size := (Array.getElem?_eq_some_iff.1 h).1
theorem RunAt.below {w w' : World} {B : Nat} {R : Rn} (h : RunAt w B R) (hb : Below w.heap.size w w') : RunAt w' B R := (hb.block B h.lt).trans h
theorem SpotAt.below {w w' : World} {B : Nat} {x : Spot} (h : SpotAt w B x) (hb : Below w.heap.size w w') : SpotAt w' B x := (hb.block B h.lt).trans h
theorem RunAt.fr {w w' : World} {B : Nat} {R : Rn} {L : List Nat} (h : RunAt w B R) (hb : Fr L w w') (hn : B ∉ L) : RunAt w' B R := (hb.block B h.lt hn).trans h
theorem SpotAt.fr {w w' : World} {B : Nat} {x : Spot} {L : List Nat} (h : SpotAt w B x) (hb : Fr L w w') (hn : B ∉ L) : SpotAt w' B x := (hb.block B h.lt hn).trans h

/-- Does a step lead from a spot to another one? -/
def edgeB (R : Rn) (D : Nat → Nat → Nat → Nat) (x y : Spot) : Bool := decide (nextOf R x.1 = y.1) && inB (D x.2 (lat R.hs R.ls x.1).toNat) y.2

theorem edgeB_iff (R : Rn) (D : Nat → Nat → Nat → Nat) (x y : Spot) : edgeB R D x y = true ↔ Edge R D x y := by
  unfold edgeB Edge
  rw [Bool.and_eq_true, decide_eq_true_iff]
  exact ⟨fun ⟨a, b⟩ => ⟨a.symm, b⟩, fun ⟨a, b⟩ => ⟨a.symm, b⟩⟩

set_option maxRecDepth 100000 in
set_option maxHeartbeats 2000000 in
theorem inner_any {w : World} (R : Rn) (D : Nat → Nat → Nat → Nat) (x seed : Spot) (B1 B3 : Nat) (hb1 : RunAt w B1 R) (hb3 : SpotAt w B3 seed) (hR : RnOk w R D) (hx : InR R x) (hs : seed.2 < 300) :
    Calls Tryd.prog 102 #[.agg #[.int .i64 x.1, .int .i64 x.2], .pointer (some ⟨B1, 0, none⟩), .pointer (some ⟨B3, 0, none⟩)] w fun e w' => e = .returned (.bool (edgeB R D x seed)) ∧ Below w.heap.size w w' := by
  obtain ⟨p, s⟩ := x
  obtain ⟨p1, s1⟩ := seed
  dsimp only at hs ⊢
  have hp : p ≤ 100000 := by have := hx.1; have := hR.hlen; have := hR.llen; dsimp only at *; omega
  have HN := hide (fun w1 => next_any R p w1 hR.hlen hR.llen hp)
  have HA := hide (fun w1 (hb : Below w.heap.size w w1) => after_any R D p s w1 (hR.below hb) hp hx.2)
  have HS := hide (fun w1 => has_any (D s (lat R.hs R.ls p).toNat) s1 w1 hs (hR.words _ _))
  unfold RunAt at hb1
  unfold SpotAt at hb3
  unfold edgeB
  dsimp only at hb3 ⊢
  clear hR hx hp
  generalize inB (D s (lat R.hs R.ls p).toNat) s1 = b at *
  generalize D s (lat R.hs R.ls p).toNat = B at *
  generalize nextOf R p = p' at *
  unfold rnV at HN HA
  unfold stV at HA
  generalize hW1 : w.alloc (Obj.cells #[Value.int .i64 p, .int .i64 s] 151) = W1
  have hbW : Below w.heap.size w W1 := by rw [← hW1]; exact below_new _ _
  have hl1 := (Array.getElem?_eq_some_iff.1 hb1).1
  have hl3 := (Array.getElem?_eq_some_iff.1 hb3).1
  have e1 := (hbW.block _ hl1).trans hb1
  have e3 := (hbW.block _ hl3).trans hb3
  have k0 := cell_regrown (cell_of_row W1 B1 0 _ _ _ e1)
  have k1 := cell_regrown (cell_of_row W1 B1 1 _ _ _ e1)
  have k2 := cell_regrown (cell_of_row W1 B1 2 _ _ _ e1)
  have k3 := cell_regrown (cell_of_row W1 B1 3 _ _ _ e1)
  have k4 := cell_regrown (cell_of_row W1 B1 4 _ _ _ e1)
  have k5 := cell_regrown (cell_of_row W1 B1 5 _ _ _ e1)
  have k6 := cell_regrown (cell_of_row W1 B1 6 _ _ _ e1)
  have k7 := cell_regrown (cell_of_row W1 B1 7 _ _ _ e1)
  have j0 := cell_regrown (cell_of_row W1 B3 0 _ _ _ e3)
  have j1 := cell_regrown (cell_of_row W1 B3 1 _ _ _ e3)
  have i0 := cell_regrown (w := W1) (a := ⟨w.heap.size, 0, none⟩) (v := .int .i64 p) (by rw [← hW1]; simp)
  have i1 := cell_regrown (w := W1) (a := ⟨w.heap.size, 1, none⟩) (v := .int .i64 s) (by rw [← hW1]; simp)
  have CN := hide (fun d os => Calls.regrown_of (HN.out (grow (redrawn W1 d) os)))
  have CA := hide (fun d os => Calls.regrown_of (HA.out (grow (redrawn W1 d) os) (below_trans hbW (below_regrown W1 d os))))
  have CS := hide (fun d os => Calls.regrown_of (HS.out (grow (redrawn W1 d) os)))
  clear hb1 hb3 e1 e3 HN HA HS hl1 hl3
  by_cases hpp : p' = p1
  · have hd : ((p' : Int) == (p1 : Int)) = true := by rw [beq_iff_eq]; omega
    rw [decide_eq_true hpp, Bool.true_and]
    clear hpp
    go_enter Tryd.func102, Tryd.ntmps102
    go_wp2_with (fail)
    try rw [hW1]
    clear hW1
    refine wp_region_quiet_below (by kernel_rfl) (by kernel_rfl) ?_
    (repeat (go_big_quiet_step (first | exact CN.out _ _ | exact CA.out _ _ | exact CS.out _ _)))
    refine wpQuiet_nil ?_
    intro _ hw'
    obtain ⟨⟨dq, osq⟩, hw''⟩ := hw'
    subst hw''
    have hbq := below_trans hbW (below_regrown W1 dq osq)
    clear k0 k1 k2 k3 k4 k5 k6 k7 j0 j1 i0 i1 CN CA CS
    go_wp2
    go_ret
    exact ⟨rfl, hbq⟩
  · have hd : ((p' : Int) == (p1 : Int)) = false := by rw [beq_eq_false_iff_ne]; omega
    rw [decide_eq_false hpp, Bool.false_and]
    clear hpp
    go_enter Tryd.func102, Tryd.ntmps102
    go_wp2_with (fail)
    try rw [hW1]
    clear hW1
    refine wp_region_quiet_below (by kernel_rfl) (by kernel_rfl) ?_
    (repeat (go_big_quiet_step (first | exact CN.out _ _ | exact CA.out _ _ | exact CS.out _ _)))
    refine wpQuiet_nil ?_
    intro _ hw'
    obtain ⟨⟨dq, osq⟩, hw''⟩ := hw'
    subst hw''
    have hbq := below_trans hbW (below_regrown W1 dq osq)
    clear k0 k1 k2 k3 k4 k5 k6 k7 j0 j1 i0 i1 CN CA CS
    go_wp2
    go_ret
    exact ⟨rfl, hbq⟩
end Go.Proofs.YtpiacnnifdjlkaaDoor
