/-
  both.beside and both.Either at the statements' own automata.
-/
import Derived.Test.YtpiacnnifdjlkabDoorVn
import Derived.Test.YtpiacnnifdjlkabDoorBe
namespace Go.Proofs.YtpiacnnifdjlkabDoor
open Go.RowKit Go.Sort

def noneA : Aut := ⟨1, 2, [], [false], []⟩
def besideA : Aut := ⟨2, 2, [0], [true, false], [⟨0, 0, 0⟩]⟩

theorem wp_store5 {o : Oper} {ka kv : Nat} {a : Act} {w : World} {K : Act → World → Prop} {Q : Exit → Act → World → Prop} (ho : o.op = .store 26 (.tmp ka) (.tmp kv)) (hd : o.dst = none) {y : Nat} {n0 n1 : Int} {p2 p3 p4 : Option Addr} {l2 l3 l4 k2 k3 k4 : Nat} {u0 u1 u2 u3 u4 : Value} (ha : a.tmps[ka]?.getD undef = .pointer (some ⟨y, 0, none⟩)) (hv : a.tmps[kv]?.getD undef = .agg #[.int .i64 n0, .int .i64 n1, .slice p2 l2 k2, .slice p3 l3 k3, .slice p4 l4 k4]) (y0 : w.cell? ⟨y, 0, none⟩ = some u0) (y1 : w.cell? ⟨y, 1, none⟩ = some u1) (y2 : w.cell? ⟨y, 2, none⟩ = some u2) (y3 : w.cell? ⟨y, 3, none⟩ = some u3) (y4 : w.cell? ⟨y, 4, none⟩ = some u4) (z : ∀ k, w.frozen? ⟨y, k, none⟩ = false) (h : K a (fivePut w y (.int .i64 n0) (.int .i64 n1) (.slice p2 l2 k2) (.slice p3 l3 k3) (.slice p4 l4 k4))) : o.wp Tryd.prog a w K Q := by
  unfold Oper.wp execOp
  simp [ho, go_sem, ha, hv, y0, y1, y2, y3, y4, z]
  rw [hd]
  exact h

theorem bl_apart {W : World} {y : Nat} {n0 n1 : Int} {p2 p3 p4 : Option Addr} {l2 l3 l4 k2 k3 k4 : Nat} {v : Value} {zs : List Bool} (hy : W.heap[y]? = some (.cells #[.int .i64 n0, .int .i64 n1, .slice p2 l2 k2, .slice p3 l3 k3, .slice p4 l4 k4] 26)) (h : BoolSl W v zs) {b off k c : Nat} (e : v = .slice (some ⟨b, off, none⟩) k c) (hne : zs ≠ []) : b ≠ y := fun eb => by
  obtain ⟨a', cap', e2, _, hz, _⟩ := h
  rcases hz with h8 | ⟨b', off', e3, hc⟩
  · exact absurd h8 hne
  · rw [e2, e3] at e
    cases e
    have h7 := hc 0 (List.length_pos_iff.2 hne)
    rw [eb] at h7
    obtain ⟨c', t', fr, hb', hcc⟩ := cells_of_cell? h7
    rw [hy] at hb'
    cases hb'
    match off, hcc with
    | 0, hcc => simp at hcc
    | 1, hcc => simp at hcc
    | 2, hcc => simp at hcc
    | 3, hcc => simp at hcc
    | 4, hcc => simp at hcc
    | n + 5, hcc => simp at hcc

theorem stepX_val {P : Program} {ops : Array Oper} {Q : Exit → Act → World → Prop} {V : Bool → World → Prop} {R : Nat → Value → World → Prop} {a0 : Act} {i : Nat} {o : Oper} (hV : ∀ w, V false w → V true w) (h : ∀ (a : Act) (w : World) (vs : Nat → Value), V false w → (∀ t, free ops i t = true → a.eval (.tmp t) = a0.eval (.tmp t)) → (∀ j, dep o j = true → R j (vs j) w ∧ ∀ d, dstAt ops j = some d → a.eval (.tmp d) = vs j) → ∃ v, (execOp a.eval o).run P w = .ok (.value v) w ∧ R i v w) : StepX P ops Q V R a0 i o := by
  intro a w vs hW he hd
  obtain ⟨v, hr, hR⟩ := h a w vs hW he hd
  unfold Oper.wp
  rw [hr]
  exact ⟨v, rfl, hV w hW, hR, fun _ _ _ h => h⟩

theorem wp_region_store5 {ops : Array Oper} {Q : Exit → Act → World → Prop} {a0 : Act} {id : Nat} {w : World} (L X : Nat) (ds : List (Nat × Tmp)) (V : Bool → World → Prop) (R : Nat → Value → World → Prop) (ka kv : Nat) (hds : dstList ops (List.range L) = ds) (hm : Tryd.prog.follows .mixedOrders = true) (h : orderly ops a0.tmps.size = true) (hh : hung ops = true) (hsz : ops.size = L + 1) (hop : ops[L]?.map (fun o => (o.op, o.dst)) = some (.store 26 (.tmp ka) (.tmp kv), none)) (hXL : X < L)
    (h0 : V false { w with drawn := w.drawn + 1 }) (hstep : ∀ i o, i < L → i ≠ X → ops[i]? = some o → ∀ b, StepOk Tryd.prog ops Q (V b) R a0 i o) (hX : ∀ o, ops[X]? = some o → StepX Tryd.prog ops Q V R a0 X o)
    (hend : ∀ (vs : Nat → Value) (w : World), V true w → (∀ i, i < L → R i (vs i) w) → ∃ (y : Nat) (n0 n1 : Int) (p2 p3 p4 : Option Addr) (l2 l3 l4 k2 k3 k4 : Nat) (u0 u1 u2 u3 u4 : Value), (putPairs vs ds a0.tmps)[ka]?.getD undef = .pointer (some ⟨y, 0, none⟩) ∧ (putPairs vs ds a0.tmps)[kv]?.getD undef = .agg #[.int .i64 n0, .int .i64 n1, .slice p2 l2 k2, .slice p3 l3 k3, .slice p4 l4 k4] ∧ w.heap[y]? = some (.cells #[u0, u1, u2, u3, u4] 26) ∧ Q .normal { a0 with tmps := putPairs vs ds a0.tmps } (fivePut w y (.int .i64 n0) (.int .i64 n1) (.slice p2 l2 k2) (.slice p3 l3 k3) (.slice p4 l4 k4))) : (Code.region id ops true).wp Tryd.prog Q a0 w := by
  cases ho : ops[L]? with
  | none => rw [ho] at hop; cases hop
  | some oL =>
    rw [ho] at hop
    injection hop with hop
    injection hop with hop1 hop2
    refine wp_region_last L X oL ds V R hds hm h hh hsz ho hXL h0 hstep hX fun vs W hW hR => ?_
    obtain ⟨y, n0, n1, p2, p3, p4, l2, l3, l4, k2, k3, k4, u0, u1, u2, u3, u4, e1, e2, hy, hq⟩ := hend vs W hW hR
    exact wp_store5 hop1 hop2 e1 e2 (cell_of_row _ _ 0 _ _ _ hy) (cell_of_row _ _ 1 _ _ _ hy) (cell_of_row _ _ 2 _ _ _ hy) (cell_of_row _ _ 3 _ _ _ hy) (cell_of_row _ _ 4 _ _ _ hy) (fun k => frozen_of_row W y k _ _ hy) hq

/-- What both.beside makes of one and none. -/
def BesideV (w : World) (v : Value) : Prop := ∃ a1 c1 a2 c2 a3 c3 b1 b3, v = .agg #[.int .i64 2, .int .i64 2, .slice a1 1 c1, .slice a2 2 c2, .slice a3 1 c3] ∧ w.ownsRow b1 3 1 (.slice a1 1 c1) 1 [.int .i64 0] ∧ BoolSl w (.slice a2 2 c2) [true, false] ∧ w.ownsRow b3 49 3 (.slice a3 1 c3) 1 (stepCells [⟨0, 0, 0⟩])

theorem BesideV.aut {w : World} {v : Value} (h : BesideV w v) : AutV w v besideA := by
  obtain ⟨a1, c1, a2, c2, a3, c3, b1, b3, rfl, h1, h2, h3⟩ := h
  exact ⟨_, _, _, rfl, intSl_of_owns (zs := [0]) h1, h2, stepSl_of_owns h3⟩

theorem BesideV.five {w : World} {v : Value} (h : BesideV w v) {y : Nat} {n0 n1 : Int} {p2 p3 p4 : Option Addr} {l2 l3 l4 k2 k3 k4 : Nat} (hy : w.heap[y]? = some (.cells #[.int .i64 n0, .int .i64 n1, .slice p2 l2 k2, .slice p3 l3 k3, .slice p4 l4 k4] 26)) (v0 v1 v2 v3 v4 : Value) : BesideV (fivePut w y v0 v1 v2 v3 v4) v := by
  have hot2 : ∀ k, k ≠ y → (fivePut w y v0 v1 v2 v3 v4).heap[k]? = w.heap[k]? := fun k hk => fivePut_other w k _ hk _ _ _ _ _
  obtain ⟨a1, c1, a2, c2, a3, c3, b1, b3, rfl, h1, h2, h3⟩ := h
  exact ⟨a1, c1, a2, c2, a3, c3, b1, b3, rfl, owns_kept h1 (fun r hr => hot2 r (row_apart h1 hy (by decide) r hr)), h2.of_block (fun b off k c e h9 => hot2 b (bl_apart hy h2 e h9)), owns_kept h3 (fun r hr => hot2 r (row_apart h3 hy (by decide) r hr))⟩

theorem BesideV.below {w w' : World} {v : Value} (h : BesideV w v) (hb : Below w.heap.size w w') : BesideV w' v := by
  obtain ⟨a1, c1, a2, c2, a3, c3, b1, b3, rfl, h1, h2, h3⟩ := h
  exact ⟨a1, c1, a2, c2, a3, c3, b1, b3, rfl, owns_below h1 hb, h2.below hb, owns_below h3 hb⟩

set_option maxRecDepth 100000 in
set_option maxHeartbeats 4000000 in
theorem beside_one {w : World} {f1 o1 fc g1 o2 gc s1 o3 sc g2 o4 gd : Nat} (hf : w.cell? ⟨f1, o1, none⟩ = some (.int .i64 0)) (hfc : 1 ≤ fc) (hg : w.cell? ⟨g1, o2, none⟩ = some (.bool true)) (hgc : 1 ≤ gc) (hs0 : w.cell? ⟨s1, o3, none⟩ = some (.int .i64 0)) (hs1 : w.cell? ⟨s1, o3 + 1, none⟩ = some (.int .i64 0)) (hs2 : w.cell? ⟨s1, o3 + 2, none⟩ = some (.int .i64 0)) (hg2 : w.cell? ⟨g2, o4, none⟩ = some (.bool false)) (hgd : 1 ≤ gd) :
    Calls Tryd.prog 20 #[.agg #[.int .i64 1, .int .i64 2, .slice (some ⟨f1, o1, none⟩) 1 fc, .slice (some ⟨g1, o2, none⟩) 1 gc, .slice (some ⟨s1, o3, none⟩) 1 sc], .agg #[.int .i64 1, .int .i64 2, .slice none 0 0, .slice (some ⟨g2, o4, none⟩) 1 gd, .slice none 0 0]] w fun e w' => ∃ v, e = .returned v ∧ BesideV w' v ∧ Below w.heap.size w w' := by
  obtain ⟨r0, r1, r2⟩ := three_alloc w (Obj.cells #[Value.int .i64 1, .int .i64 2, .slice (some ⟨f1, o1, none⟩) 1 fc, .slice (some ⟨g1, o2, none⟩) 1 gc, .slice (some ⟨s1, o3, none⟩) 1 sc] 26) (Obj.cells #[Value.int .i64 1, .int .i64 2, .slice none 0 0, .slice (some ⟨g2, o4, none⟩) 1 gd, .slice none 0 0] 26) (Obj.cells #[Value.int .i64 0, .int .i64 0, .slice none 0 0, .slice none 0 0, .slice none 0 0] 26)
  have hb3 : Below w.heap.size w (((w.alloc (Obj.cells #[Value.int .i64 1, .int .i64 2, .slice (some ⟨f1, o1, none⟩) 1 fc, .slice (some ⟨g1, o2, none⟩) 1 gc, .slice (some ⟨s1, o3, none⟩) 1 sc] 26)).alloc (Obj.cells #[Value.int .i64 1, .int .i64 2, .slice none 0 0, .slice (some ⟨g2, o4, none⟩) 1 gd, .slice none 0 0] 26)).alloc (Obj.cells #[Value.int .i64 0, .int .i64 0, .slice none 0 0, .slice none 0 0, .slice none 0 0] 26)) := (by repeat (first | exact Below.refl _ _ | assumption | refine below_drewN ?_ _ | refine Below.drew ?_ | refine Below.alloc ?_ (by simp <;> omega) _ | refine below_trans ?_ (by assumption)))
  have hsz3 : (((w.alloc (Obj.cells #[Value.int .i64 1, .int .i64 2, .slice (some ⟨f1, o1, none⟩) 1 fc, .slice (some ⟨g1, o2, none⟩) 1 gc, .slice (some ⟨s1, o3, none⟩) 1 sc] 26)).alloc (Obj.cells #[Value.int .i64 1, .int .i64 2, .slice none 0 0, .slice (some ⟨g2, o4, none⟩) 1 gd, .slice none 0 0] 26)).alloc (Obj.cells #[Value.int .i64 0, .int .i64 0, .slice none 0 0, .slice none 0 0, .slice none 0 0] 26)).heap.size = w.heap.size + 1 + 1 + 1 := by simp
  have one_int : ∀ (W : World) (b o c : Nat) (z : Int), W.cell? ⟨b, o, none⟩ = some (.int .i64 z) → 1 ≤ c → IntSl W (.slice (some ⟨b, o, none⟩) 1 c) [z] := fun W b o c z h hc => ⟨_, _, rfl, by simp [maxLen], Or.inr ⟨b, o, rfl, fun i hi => by
    have : i = 0 := by simpa using hi
    subst this
    exact h⟩, fun e => (by cases e), by simpa using hc⟩
  have one_bool : ∀ (W : World) (b o c : Nat) (z : Bool), W.cell? ⟨b, o, none⟩ = some (.bool z) → 1 ≤ c → BoolSl W (.slice (some ⟨b, o, none⟩) 1 c) [z] := fun W b o c z h hc => ⟨_, _, rfl, by simp [maxLen], Or.inr ⟨b, o, rfl, fun i hi => by
    have : i = 0 := by simpa using hi
    subst this
    exact h⟩, fun e => (by cases e), by simpa using hc⟩
  have HI := hide (And.intro ((one_int w f1 o1 fc 0 hf hfc).below hb3) (And.intro ((one_bool w g1 o2 gc true hg hgc).below hb3) (And.intro ((one_bool w g2 o4 gd false hg2 hgd).below hb3) (And.intro (cell_keepB hs0 hb3) (And.intro (cell_keepB hs1 hb3) (cell_keepB hs2 hb3))))))
  clear hf hfc hg hgc hs0 hs1 hs2 hg2 hgd one_int one_bool
  go_enter Tryd.func20, Tryd.ntmps20
  go_wp2_with (fail)
  generalize ((w.alloc (Obj.cells #[Value.int .i64 1, .int .i64 2, .slice (some ⟨f1, o1, none⟩) 1 fc, .slice (some ⟨g1, o2, none⟩) 1 gc, .slice (some ⟨s1, o3, none⟩) 1 sc] 26)).alloc (Obj.cells #[Value.int .i64 1, .int .i64 2, .slice none 0 0, .slice (some ⟨g2, o4, none⟩) 1 gd, .slice none 0 0] 26)).alloc (Obj.cells #[Value.int .i64 0, .int .i64 0, .slice none 0 0, .slice none 0 0, .slice none 0 0] 26) = W3 at *
  have HRA := hide r0
  have HRB := hide r1
  have HRO := hide r2
  have HB3 := hide hb3
  have HLE := hide (show w.heap.size ≤ W3.heap.size by omega)
  have HStab := hide (show ∀ (W W' : World), Below W.heap.size W W' → ∀ j x, (fun (j : Nat) (v : Value) (W : World) => match j with | 0 => v = .pointer (some ⟨w.heap.size, 0, none⟩) | 1 => v = .int .i64 1 | 2 => v = .pointer (some ⟨w.heap.size + 1, 0, none⟩) | 3 => v = .int .i64 1 | 4 => v = .int .i64 2 | 5 => v = .pointer (some ⟨w.heap.size, 1, none⟩) | 6 => v = .int .i64 2 | 7 => v = .pointer (some ⟨w.heap.size, 2, none⟩) | 8 => v = .slice (some ⟨f1, o1, none⟩) 1 fc | 10 => v = .pointer (some ⟨w.heap.size, 3, none⟩) | 11 => v = .slice (some ⟨g1, o2, none⟩) 1 gc | 12 => v = .pointer (some ⟨w.heap.size + 1, 3, none⟩) | 13 => v = .slice (some ⟨g2, o4, none⟩) 1 gd | 16 => v = .pointer (some ⟨w.heap.size, 4, none⟩) | 17 => v = .slice (some ⟨s1, o3, none⟩) 1 sc | 9 => W.ownsRow w.heap.size 3 1 v 1 [.int .i64 0] | 14 => ∃ B, v = .slice (some ⟨B, 0, none⟩) 2 2 ∧ W.cell? ⟨B, 0, none⟩ = some (.slice (some ⟨g1, o2, none⟩) 1 gc) ∧ W.cell? ⟨B, 1, none⟩ = some (.slice (some ⟨g2, o4, none⟩) 1 gd) | 15 => ∃ g lc, v = .slice (some ⟨g, 0, none⟩) 2 lc ∧ BoolSl W v [true, false] | 18 => W.ownsRow w.heap.size 49 3 v 1 (stepCells [⟨0, 0, 0⟩]) | 19 => ∃ a1 c1 a2 c2 a3 c3, v = .agg #[.int .i64 2, .int .i64 2, .slice a1 1 c1, .slice a2 2 c2, .slice a3 1 c3] ∧ W.ownsRow w.heap.size 3 1 (.slice a1 1 c1) 1 [.int .i64 0] ∧ BoolSl W (.slice a2 2 c2) [true, false] ∧ W.ownsRow w.heap.size 49 3 (.slice a3 1 c3) 1 (stepCells [⟨0, 0, 0⟩]) | 20 => ∃ y, v = .pointer (some ⟨y, 0, none⟩) ∧ W3.heap.size ≤ y ∧ W.heap[y]? = some (Obj.cells #[Value.int .i64 0, .int .i64 0, .slice none 0 0, .slice none 0 0, .slice none 0 0] 26) | _ => True) j x W → (fun (j : Nat) (v : Value) (W : World) => match j with | 0 => v = .pointer (some ⟨w.heap.size, 0, none⟩) | 1 => v = .int .i64 1 | 2 => v = .pointer (some ⟨w.heap.size + 1, 0, none⟩) | 3 => v = .int .i64 1 | 4 => v = .int .i64 2 | 5 => v = .pointer (some ⟨w.heap.size, 1, none⟩) | 6 => v = .int .i64 2 | 7 => v = .pointer (some ⟨w.heap.size, 2, none⟩) | 8 => v = .slice (some ⟨f1, o1, none⟩) 1 fc | 10 => v = .pointer (some ⟨w.heap.size, 3, none⟩) | 11 => v = .slice (some ⟨g1, o2, none⟩) 1 gc | 12 => v = .pointer (some ⟨w.heap.size + 1, 3, none⟩) | 13 => v = .slice (some ⟨g2, o4, none⟩) 1 gd | 16 => v = .pointer (some ⟨w.heap.size, 4, none⟩) | 17 => v = .slice (some ⟨s1, o3, none⟩) 1 sc | 9 => W.ownsRow w.heap.size 3 1 v 1 [.int .i64 0] | 14 => ∃ B, v = .slice (some ⟨B, 0, none⟩) 2 2 ∧ W.cell? ⟨B, 0, none⟩ = some (.slice (some ⟨g1, o2, none⟩) 1 gc) ∧ W.cell? ⟨B, 1, none⟩ = some (.slice (some ⟨g2, o4, none⟩) 1 gd) | 15 => ∃ g lc, v = .slice (some ⟨g, 0, none⟩) 2 lc ∧ BoolSl W v [true, false] | 18 => W.ownsRow w.heap.size 49 3 v 1 (stepCells [⟨0, 0, 0⟩]) | 19 => ∃ a1 c1 a2 c2 a3 c3, v = .agg #[.int .i64 2, .int .i64 2, .slice a1 1 c1, .slice a2 2 c2, .slice a3 1 c3] ∧ W.ownsRow w.heap.size 3 1 (.slice a1 1 c1) 1 [.int .i64 0] ∧ BoolSl W (.slice a2 2 c2) [true, false] ∧ W.ownsRow w.heap.size 49 3 (.slice a3 1 c3) 1 (stepCells [⟨0, 0, 0⟩]) | 20 => ∃ y, v = .pointer (some ⟨y, 0, none⟩) ∧ W3.heap.size ≤ y ∧ W.heap[y]? = some (Obj.cells #[Value.int .i64 0, .int .i64 0, .slice none 0 0, .slice none 0 0, .slice none 0 0] 26) | _ => True) j x W' from fun W W' hb j x h => by
    match j, h with
    | 0, h => exact h
    | 1, h => exact h
    | 2, h => exact h
    | 3, h => exact h
    | 4, h => exact h
    | 5, h => exact h
    | 6, h => exact h
    | 7, h => exact h
    | 8, h => exact h
    | 9, h => exact owns_kept h (fun r hr => hb.block r (h.lt r hr).2)
    | 10, h => exact h
    | 11, h => exact h
    | 12, h => exact h
    | 13, h => exact h
    | 14, ⟨B, h1, h2, h3⟩ => exact ⟨B, h1, cell_keepB h2 hb, cell_keepB h3 hb⟩
    | 15, ⟨g, lc, h1, h2⟩ => exact ⟨g, lc, h1, h2.below hb⟩
    | 16, h => exact h
    | 17, h => exact h
    | 18, h => exact owns_kept h (fun r hr => hb.block r (h.lt r hr).2)
    | 19, ⟨a1, c1, a2, c2, a3, c3, h1, h2, h3, h4⟩ => exact ⟨a1, c1, a2, c2, a3, c3, h1, owns_kept h2 (fun r hr => hb.block r (h2.lt r hr).2), h3.below hb, owns_kept h4 (fun r hr => hb.block r (h4.lt r hr).2)⟩
    | 20, ⟨y, h1, h2, h3⟩ => exact ⟨y, h1, h2, belowRow hb h3⟩
    | j + 21, _ => trivial)
  clear r0 r1 r2 hb3
  rename_i K hK
  refine wp_region_store5 21 0 [(0, 10), (1, 11), (2, 12), (3, 13), (4, 14), (5, 15), (6, 16), (7, 17), (8, 18), (9, 19), (10, 20), (11, 21), (12, 22), (13, 23), (14, 24), (15, 25), (16, 26), (17, 27), (18, 28), (19, 29), (20, 5)] (fun _ W => Below W3.heap.size W3 W) (fun (j : Nat) (v : Value) (W : World) => match j with | 0 => v = .pointer (some ⟨w.heap.size, 0, none⟩) | 1 => v = .int .i64 1 | 2 => v = .pointer (some ⟨w.heap.size + 1, 0, none⟩) | 3 => v = .int .i64 1 | 4 => v = .int .i64 2 | 5 => v = .pointer (some ⟨w.heap.size, 1, none⟩) | 6 => v = .int .i64 2 | 7 => v = .pointer (some ⟨w.heap.size, 2, none⟩) | 8 => v = .slice (some ⟨f1, o1, none⟩) 1 fc | 10 => v = .pointer (some ⟨w.heap.size, 3, none⟩) | 11 => v = .slice (some ⟨g1, o2, none⟩) 1 gc | 12 => v = .pointer (some ⟨w.heap.size + 1, 3, none⟩) | 13 => v = .slice (some ⟨g2, o4, none⟩) 1 gd | 16 => v = .pointer (some ⟨w.heap.size, 4, none⟩) | 17 => v = .slice (some ⟨s1, o3, none⟩) 1 sc | 9 => W.ownsRow w.heap.size 3 1 v 1 [.int .i64 0] | 14 => ∃ B, v = .slice (some ⟨B, 0, none⟩) 2 2 ∧ W.cell? ⟨B, 0, none⟩ = some (.slice (some ⟨g1, o2, none⟩) 1 gc) ∧ W.cell? ⟨B, 1, none⟩ = some (.slice (some ⟨g2, o4, none⟩) 1 gd) | 15 => ∃ g lc, v = .slice (some ⟨g, 0, none⟩) 2 lc ∧ BoolSl W v [true, false] | 18 => W.ownsRow w.heap.size 49 3 v 1 (stepCells [⟨0, 0, 0⟩]) | 19 => ∃ a1 c1 a2 c2 a3 c3, v = .agg #[.int .i64 2, .int .i64 2, .slice a1 1 c1, .slice a2 2 c2, .slice a3 1 c3] ∧ W.ownsRow w.heap.size 3 1 (.slice a1 1 c1) 1 [.int .i64 0] ∧ BoolSl W (.slice a2 2 c2) [true, false] ∧ W.ownsRow w.heap.size 49 3 (.slice a3 1 c3) 1 (stepCells [⟨0, 0, 0⟩]) | 20 => ∃ y, v = .pointer (some ⟨y, 0, none⟩) ∧ W3.heap.size ≤ y ∧ W.heap[y]? = some (Obj.cells #[Value.int .i64 0, .int .i64 0, .slice none 0 0, .slice none 0 0, .slice none 0 0] 26) | _ => True) 5 29 (by kernel_rfl) (by kernel_rfl) (by kernel_rfl) (by kernel_rfl) rfl (by kernel_rfl) (by decide) ((Below.refl _ _).drew) ?hstep ?hX ?hend
  case hstep =>
    intro i o hi hne ho _
    match i, ho, hi with
    | 0, _, _ => exact absurd rfl hne
    | 1, ho, _ =>
      obtain rfl := Option.some.inj ho
      refine stepOk_val fun a W vs hW he hd => ?_
      have e0 : a.tmps[10]?.getD undef = .pointer (some ⟨w.heap.size, 0, none⟩) := (eval_tmp a 10).symm.trans (((hd 0 (by kernel_rfl)).2 10 (by kernel_rfl)).trans (hd 0 (by kernel_rfl)).1)
      have hA := belowRow hW HRA.out
      have c0 := cell_of_row _ _ 0 _ _ _ hA
      exact ⟨_, by simp [execOp, go_sem, e0, c0], rfl⟩
    | 2, ho, _ =>
      obtain rfl := Option.some.inj ho
      refine stepOk_val fun a W vs hW he hd => ?_
      have f3 : a.tmps[3]?.getD undef = .pointer (some ⟨w.heap.size + 1, 0, none⟩) := free_val he 3 (by kernel_rfl)
      exact ⟨_, by simp [execOp, go_sem, f3], rfl⟩
    | 3, ho, _ =>
      obtain rfl := Option.some.inj ho
      refine stepOk_val fun a W vs hW he hd => ?_
      have e2 : a.tmps[12]?.getD undef = .pointer (some ⟨w.heap.size + 1, 0, none⟩) := (eval_tmp a 12).symm.trans (((hd 2 (by kernel_rfl)).2 12 (by kernel_rfl)).trans (hd 2 (by kernel_rfl)).1)
      have hB := belowRow hW HRB.out
      have c0 := cell_of_row _ _ 0 _ _ _ hB
      exact ⟨_, by simp [execOp, go_sem, e2, c0], rfl⟩
    | 4, ho, _ =>
      obtain rfl := Option.some.inj ho
      refine stepOk_val fun a W vs hW he hd => ?_
      have e1 : a.tmps[11]?.getD undef = .int .i64 1 := (eval_tmp a 11).symm.trans (((hd 1 (by kernel_rfl)).2 11 (by kernel_rfl)).trans (hd 1 (by kernel_rfl)).1)
      have e3 : a.tmps[13]?.getD undef = .int .i64 1 := (eval_tmp a 13).symm.trans (((hd 3 (by kernel_rfl)).2 13 (by kernel_rfl)).trans (hd 3 (by kernel_rfl)).1)
      exact ⟨.int .i64 2, by simp [execOp, go_sem, e1, e3]; rfl, rfl⟩
    | 5, ho, _ =>
      obtain rfl := Option.some.inj ho
      refine stepOk_val fun a W vs hW he hd => ?_
      have f2 : a.tmps[2]?.getD undef = .pointer (some ⟨w.heap.size, 0, none⟩) := free_val he 2 (by kernel_rfl)
      exact ⟨_, by simp [execOp, go_sem, f2], rfl⟩
    | 6, ho, _ =>
      obtain rfl := Option.some.inj ho
      refine stepOk_val fun a W vs hW he hd => ?_
      have e5 : a.tmps[15]?.getD undef = .pointer (some ⟨w.heap.size, 1, none⟩) := (eval_tmp a 15).symm.trans (((hd 5 (by kernel_rfl)).2 15 (by kernel_rfl)).trans (hd 5 (by kernel_rfl)).1)
      have hA := belowRow hW HRA.out
      have c1 := cell_of_row _ _ 1 _ _ _ hA
      exact ⟨_, by simp [execOp, go_sem, e5, c1], rfl⟩
    | 7, ho, _ =>
      obtain rfl := Option.some.inj ho
      refine stepOk_val fun a W vs hW he hd => ?_
      have f2 : a.tmps[2]?.getD undef = .pointer (some ⟨w.heap.size, 0, none⟩) := free_val he 2 (by kernel_rfl)
      exact ⟨_, by simp [execOp, go_sem, f2], rfl⟩
    | 8, ho, _ =>
      obtain rfl := Option.some.inj ho
      refine stepOk_val fun a W vs hW he hd => ?_
      have e7 : a.tmps[17]?.getD undef = .pointer (some ⟨w.heap.size, 2, none⟩) := (eval_tmp a 17).symm.trans (((hd 7 (by kernel_rfl)).2 17 (by kernel_rfl)).trans (hd 7 (by kernel_rfl)).1)
      have hA := belowRow hW HRA.out
      have c2 := cell_of_row _ _ 2 _ _ _ hA
      exact ⟨_, by simp [execOp, go_sem, e7, c2], rfl⟩
    | 9, ho, _ =>
      obtain rfl := Option.some.inj ho
      refine stepOk_call fun a W vs hW he hd => ?_
      have e8 : a.tmps[18]?.getD undef = .slice (some ⟨f1, o1, none⟩) 1 fc := (eval_tmp a 18).symm.trans (((hd 8 (by kernel_rfl)).2 18 (by kernel_rfl)).trans (hd 8 (by kernel_rfl)).1)
      refine ⟨37, #[.slice (some ⟨f1, o1, none⟩) 1 fc], by simp [execOp, go_sem, e8], (clone_any (HI.out.1.below hW) (by decide)).mono ?_⟩
      rintro e W' ⟨v, rfl, ho, hb⟩
      exact ⟨v, rfl, below_trans hW hb, owns_lower ho (Nat.le_trans HLE.out hW.size), fun j x h => HStab.out W W' hb j x h⟩
    | 10, ho, _ =>
      obtain rfl := Option.some.inj ho
      refine stepOk_val fun a W vs hW he hd => ?_
      have f2 : a.tmps[2]?.getD undef = .pointer (some ⟨w.heap.size, 0, none⟩) := free_val he 2 (by kernel_rfl)
      exact ⟨_, by simp [execOp, go_sem, f2], rfl⟩
    | 11, ho, _ =>
      obtain rfl := Option.some.inj ho
      refine stepOk_val fun a W vs hW he hd => ?_
      have e10 : a.tmps[20]?.getD undef = .pointer (some ⟨w.heap.size, 3, none⟩) := (eval_tmp a 20).symm.trans (((hd 10 (by kernel_rfl)).2 20 (by kernel_rfl)).trans (hd 10 (by kernel_rfl)).1)
      have hA := belowRow hW HRA.out
      have c3 := cell_of_row _ _ 3 _ _ _ hA
      exact ⟨_, by simp [execOp, go_sem, e10, c3], rfl⟩
    | 12, ho, _ =>
      obtain rfl := Option.some.inj ho
      refine stepOk_val fun a W vs hW he hd => ?_
      have f3 : a.tmps[3]?.getD undef = .pointer (some ⟨w.heap.size + 1, 0, none⟩) := free_val he 3 (by kernel_rfl)
      exact ⟨_, by simp [execOp, go_sem, f3], rfl⟩
    | 13, ho, _ =>
      obtain rfl := Option.some.inj ho
      refine stepOk_val fun a W vs hW he hd => ?_
      have e12 : a.tmps[22]?.getD undef = .pointer (some ⟨w.heap.size + 1, 3, none⟩) := (eval_tmp a 22).symm.trans (((hd 12 (by kernel_rfl)).2 22 (by kernel_rfl)).trans (hd 12 (by kernel_rfl)).1)
      have hB := belowRow hW HRB.out
      have c3 := cell_of_row _ _ 3 _ _ _ hB
      exact ⟨_, by simp [execOp, go_sem, e12, c3], rfl⟩
    | 14, ho, _ =>
      obtain rfl := Option.some.inj ho
      refine stepOk_new fun a W vs hW he hd => ?_
      have e11 : a.tmps[21]?.getD undef = .slice (some ⟨g1, o2, none⟩) 1 gc := (eval_tmp a 21).symm.trans (((hd 11 (by kernel_rfl)).2 21 (by kernel_rfl)).trans (hd 11 (by kernel_rfl)).1)
      have e13 : a.tmps[23]?.getD undef = .slice (some ⟨g2, o4, none⟩) 1 gd := (eval_tmp a 23).symm.trans (((hd 13 (by kernel_rfl)).2 23 (by kernel_rfl)).trans (hd 13 (by kernel_rfl)).1)
      have hb := below_new W (Obj.cells #[.slice (some ⟨g1, o2, none⟩) 1 gc, .slice (some ⟨g2, o4, none⟩) 1 gd] 23 (0, 0))
      have hn := one_new W (Obj.cells #[.slice (some ⟨g1, o2, none⟩) 1 gc, .slice (some ⟨g2, o4, none⟩) 1 gd] 23 (0, 0))
      exact ⟨.slice (some ⟨W.heap.size, 0, none⟩) 2 2, W.alloc (Obj.cells #[.slice (some ⟨g1, o2, none⟩) 1 gc, .slice (some ⟨g2, o4, none⟩) 1 gd] 23 (0, 0)), by simp [execOp, go_sem, e11, e13], below_trans hW hb, ⟨W.heap.size, rfl, cell_of_row _ _ 0 _ _ _ hn, cell_of_row _ _ 1 _ _ _ hn⟩, fun j x h => HStab.out _ _ hb j x h⟩
    | 15, ho, _ =>
      obtain rfl := Option.some.inj ho
      refine stepOk_call fun a W vs hW he hd => ?_
      have e14 : a.tmps[24]?.getD undef = vs 14 := (eval_tmp a 24).symm.trans ((hd 14 (by kernel_rfl)).2 24 (by kernel_rfl))
      have q14 := (hd 14 (by kernel_rfl)).1
      obtain ⟨B, hB, k0, k1⟩ := q14
      rw [hB] at e14
      refine ⟨38, #[.slice (some ⟨B, 0, none⟩) 2 2], by simp [execOp, go_sem, e14], (concatB_any (hs := [true]) (ls := [false]) (HI.out.2.1.below hW) (HI.out.2.2.1.below hW) k0 k1 (by decide) (by decide) (by decide)).mono ?_⟩
      rintro e W' ⟨g, lc, rfl, ho, _, hb⟩
      exact ⟨_, rfl, below_trans hW hb, ⟨g, lc, rfl, ho⟩, fun j x h => HStab.out W W' hb j x h⟩
    | 16, ho, _ =>
      obtain rfl := Option.some.inj ho
      refine stepOk_val fun a W vs hW he hd => ?_
      have f2 : a.tmps[2]?.getD undef = .pointer (some ⟨w.heap.size, 0, none⟩) := free_val he 2 (by kernel_rfl)
      exact ⟨_, by simp [execOp, go_sem, f2], rfl⟩
    | 17, ho, _ =>
      obtain rfl := Option.some.inj ho
      refine stepOk_val fun a W vs hW he hd => ?_
      have e16 : a.tmps[26]?.getD undef = .pointer (some ⟨w.heap.size, 4, none⟩) := (eval_tmp a 26).symm.trans (((hd 16 (by kernel_rfl)).2 26 (by kernel_rfl)).trans (hd 16 (by kernel_rfl)).1)
      have hA := belowRow hW HRA.out
      have c4 := cell_of_row _ _ 4 _ _ _ hA
      exact ⟨_, by simp [execOp, go_sem, e16, c4], rfl⟩
    | 18, ho, _ =>
      obtain rfl := Option.some.inj ho
      refine stepOk_call fun a W vs hW he hd => ?_
      have e17 : a.tmps[27]?.getD undef = .slice (some ⟨s1, o3, none⟩) 1 sc := (eval_tmp a 27).symm.trans (((hd 17 (by kernel_rfl)).2 27 (by kernel_rfl)).trans (hd 17 (by kernel_rfl)).1)
      refine ⟨39, #[.slice (some ⟨s1, o3, none⟩) 1 sc], by simp [execOp, go_sem, e17], (cloneSteps_one (s := ⟨0, 0, 0⟩) (cell_keepB HI.out.2.2.2.1 hW) (cell_keepB HI.out.2.2.2.2.1 hW) (cell_keepB HI.out.2.2.2.2.2 hW)).mono ?_⟩
      rintro e W' ⟨v, rfl, ho, hb⟩
      exact ⟨v, rfl, below_trans hW hb, owns_lower ho (Nat.le_trans HLE.out hW.size), fun j x h => HStab.out W W' hb j x h⟩
    | 19, ho, _ =>
      obtain rfl := Option.some.inj ho
      refine stepOk_val fun a W vs hW he hd => ?_
      have e4 : a.tmps[14]?.getD undef = .int .i64 2 := (eval_tmp a 14).symm.trans (((hd 4 (by kernel_rfl)).2 14 (by kernel_rfl)).trans (hd 4 (by kernel_rfl)).1)
      have e6 : a.tmps[16]?.getD undef = .int .i64 2 := (eval_tmp a 16).symm.trans (((hd 6 (by kernel_rfl)).2 16 (by kernel_rfl)).trans (hd 6 (by kernel_rfl)).1)
      have e9 : a.tmps[19]?.getD undef = vs 9 := (eval_tmp a 19).symm.trans ((hd 9 (by kernel_rfl)).2 19 (by kernel_rfl))
      have q9 := (hd 9 (by kernel_rfl)).1
      have e15 : a.tmps[25]?.getD undef = vs 15 := (eval_tmp a 25).symm.trans ((hd 15 (by kernel_rfl)).2 25 (by kernel_rfl))
      have q15 := (hd 15 (by kernel_rfl)).1
      have e18 : a.tmps[28]?.getD undef = vs 18 := (eval_tmp a 28).symm.trans ((hd 18 (by kernel_rfl)).2 28 (by kernel_rfl))
      have q18 := (hd 18 (by kernel_rfl)).1
      obtain ⟨g, lc, h15, k15⟩ := q15
      obtain ⟨a9, c9, h9⟩ := owns_form q9
      obtain ⟨a8, c8, h8⟩ := owns_form q18
      have k9 : W.ownsRow _ _ 1 (vs 9) 1 _ := q9
      have k8 : W.ownsRow _ _ 3 (vs 18) 1 _ := q18
      rw [h9] at e9 k9
      rw [h8] at e18 k8
      rw [h15] at e15 k15
      exact ⟨_, by simp [execOp, go_sem, e4, e6, e9, e15, e18], _, _, _, _, _, _, rfl, k9, k15, k8⟩
    | 20, ho, _ =>
      obtain rfl := Option.some.inj ho
      refine stepOk_new fun a W vs hW he hd => ?_
      have hb := below_new W (Obj.cells #[Value.int .i64 0, .int .i64 0, .slice none 0 0, .slice none 0 0, .slice none 0 0] 26)
      exact ⟨.pointer (some ⟨W.heap.size, 0, none⟩), W.alloc (Obj.cells #[Value.int .i64 0, .int .i64 0, .slice none 0 0, .slice none 0 0, .slice none 0 0] 26), by simp [execOp, go_sem], below_trans hW hb, ⟨W.heap.size, rfl, hW.size, one_new W _⟩, fun j x h => HStab.out _ _ hb j x h⟩
    | i + 21, _, hi => exact absurd hi (by omega)
  case hX =>
    intro o ho
    obtain rfl := Option.some.inj ho
    refine stepX_val (fun W h => h) fun a W vs hW he hd => ?_
    have f2 : a.tmps[2]?.getD undef = .pointer (some ⟨w.heap.size, 0, none⟩) := free_val he 2 (by kernel_rfl)
    exact ⟨_, by simp [execOp, go_sem, f2], rfl⟩
  case hend =>
    intro vs W4 hW hRR
    have h19 := hRR 19 (by omega)
    have h20 := hRR 20 (by omega)
    have h0 := hRR 0 (by omega)
    have h1 := hRR 1 (by omega)
    have h2 := hRR 2 (by omega)
    have h3 := hRR 3 (by omega)
    have h4 := hRR 4 (by omega)
    have h5 := hRR 5 (by omega)
    have h6 := hRR 6 (by omega)
    have h7 := hRR 7 (by omega)
    have h8 := hRR 8 (by omega)
    have h10 := hRR 10 (by omega)
    have h11 := hRR 11 (by omega)
    have h12 := hRR 12 (by omega)
    have h13 := hRR 13 (by omega)
    have h16 := hRR 16 (by omega)
    have h17 := hRR 17 (by omega)
    replace h0 : vs 0 = .pointer (some ⟨w.heap.size, 0, none⟩) := h0
    replace h1 : vs 1 = .int .i64 1 := h1
    replace h2 : vs 2 = .pointer (some ⟨w.heap.size + 1, 0, none⟩) := h2
    replace h3 : vs 3 = .int .i64 1 := h3
    replace h4 : vs 4 = .int .i64 2 := h4
    replace h5 : vs 5 = .pointer (some ⟨w.heap.size, 1, none⟩) := h5
    replace h6 : vs 6 = .int .i64 2 := h6
    replace h7 : vs 7 = .pointer (some ⟨w.heap.size, 2, none⟩) := h7
    replace h8 : vs 8 = .slice (some ⟨f1, o1, none⟩) 1 fc := h8
    replace h10 : vs 10 = .pointer (some ⟨w.heap.size, 3, none⟩) := h10
    replace h11 : vs 11 = .slice (some ⟨g1, o2, none⟩) 1 gc := h11
    replace h12 : vs 12 = .pointer (some ⟨w.heap.size + 1, 3, none⟩) := h12
    replace h13 : vs 13 = .slice (some ⟨g2, o4, none⟩) 1 gd := h13
    replace h16 : vs 16 = .pointer (some ⟨w.heap.size, 4, none⟩) := h16
    replace h17 : vs 17 = .slice (some ⟨s1, o3, none⟩) 1 sc := h17
    replace h19 : ∃ a1 c1 a2 c2 a3 c3, vs 19 = .agg #[.int .i64 2, .int .i64 2, .slice a1 1 c1, .slice a2 2 c2, .slice a3 1 c3] ∧ W4.ownsRow w.heap.size 3 1 (.slice a1 1 c1) 1 [.int .i64 0] ∧ BoolSl W4 (.slice a2 2 c2) [true, false] ∧ W4.ownsRow w.heap.size 49 3 (.slice a3 1 c3) 1 (stepCells [⟨0, 0, 0⟩]) := h19
    replace h20 : ∃ y, vs 20 = .pointer (some ⟨y, 0, none⟩) ∧ W3.heap.size ≤ y ∧ W4.heap[y]? = some (Obj.cells #[Value.int .i64 0, .int .i64 0, .slice none 0 0, .slice none 0 0, .slice none 0 0] 26) := h20
    clear hRR
    obtain ⟨a1, c1, a2, c2, a3, c3, e19, i1, i2, i3⟩ := h19
    obtain ⟨y, e20, hy0, hy⟩ := h20
    refine ⟨y, 2, 2, a1, a2, a3, 1, 2, 1, c1, c2, c3, _, _, _, _, _, ?_, ?_, hy, ?_⟩
    · simp only [putPairs, List.setIfInBounds_toArray, List.set_cons_succ, List.set_cons_zero]
      exact e20
    · simp only [putPairs, List.setIfInBounds_toArray, List.set_cons_succ, List.set_cons_zero]
      exact e19
    · refine hK _ _ ?_
      simp only [putPairs, List.setIfInBounds_toArray, List.set_cons_succ, List.set_cons_zero]
      rw [h0, h1, h2, h3, h4, h5, h6, h7, h8, h10, h11, h12, h13, h16, h17, e19, e20]
      have hF := fivePut_box hy (.int .i64 2) (.int .i64 2) (.slice a1 1 c1) (.slice a2 2 c2) (.slice a3 1 c3)
      have hoth : ∀ k, k ≠ y → (fivePut W4 y (.int .i64 2) (.int .i64 2) (.slice a1 1 c1) (.slice a2 2 c2) (.slice a3 1 c3)).heap[k]? = W4.heap[k]? := fun k hk => fivePut_other W4 k y hk _ _ _ _ _
      have hbw4 : Below w.heap.size w W4 := HB3.out.trans (hW.mono HLE.out)
      have hbw5 := fivePut_below hbw4 (show w.heap.size ≤ y by have := HLE.out; omega) (.int .i64 2) (.int .i64 2) (.slice a1 1 c1) (.slice a2 2 c2) (.slice a3 1 c3)
      have hB5 := (hoth (w.heap.size + 1) (by omega)).trans (belowRow hW HRB.out)
      have hR5 := (hoth (w.heap.size + 1 + 1) (by omega)).trans (belowRow hW HRO.out)
      have k1 := owns_kept i1 (fun r hr => hoth r (row_apart i1 hy (by decide) r hr))
      have k3 := owns_kept i3 (fun r hr => hoth r (row_apart i3 hy (by decide) r hr))
      have k2 : BoolSl (fivePut W4 y (.int .i64 2) (.int .i64 2) (.slice a1 1 c1) (.slice a2 2 c2) (.slice a3 1 c3)) (.slice a2 2 c2) [true, false] := i2.of_block fun b off k c e h9 => hoth b (bl_apart hy i2 e h9)
      generalize fivePut W4 y (.int .i64 2) (.int .i64 2) (.slice a1 1 c1) (.slice a2 2 c2) (.slice a3 1 c3) = W5 at *
      have hlw : y ≠ w.heap.size + 1 + 1 := by omega
      have HK := hide (And.intro k1 (And.intro k2 k3))
      have HBW := hide hbw5
      have b2 := cell_of_row _ _ 2 _ _ _ hB5
      have b4 := cell_of_row _ _ 4 _ _ _ hB5
      have x0 := cell_of_row _ _ 0 _ _ _ hF
      have x1 := cell_of_row _ _ 1 _ _ _ hF
      have x2 := cell_of_row _ _ 2 _ _ _ hF
      have x3 := cell_of_row _ _ 3 _ _ _ hF
      have x4 := cell_of_row _ _ 4 _ _ _ hF
      have HR5 := hide hR5
      clear hoth hbw4 hbw5 hB5 hR5 k1 k2 k3 hF i1 i2 i3 hy e19 e20 h0 h1 h2 h3 h4 h5 h6 h7 h8 h10 h11 h12 h13 h16 h17 hW HStab HI HRA HRB HRO HB3
      go_wp2_with (fail)
      refine wp_loop_rounds 1 ?_
      rw [rounds_succ]
      go_wp2_with (fail)
      refine wp_loop_rounds 1 ?_
      rw [rounds_succ]
      have y0 := cell_of_row _ _ 0 _ _ _ HR5.out
      have y1 := cell_of_row _ _ 1 _ _ _ HR5.out
      have y2 := cell_of_row _ _ 2 _ _ _ HR5.out
      have y3 := cell_of_row _ _ 3 _ _ _ HR5.out
      have y4 := cell_of_row _ _ 4 _ _ _ HR5.out
      have z0 := frozen_of_row _ _ 0 _ _ HR5.out
      have z1 := frozen_of_row _ _ 1 _ _ HR5.out
      have z2 := frozen_of_row _ _ 2 _ _ HR5.out
      have z3 := frozen_of_row _ _ 3 _ _ HR5.out
      have z4 := frozen_of_row _ _ 4 _ _ HR5.out
      go_wp2
      have hG := fivePut_box HR5.out (.int .i64 2) (.int .i64 2) (.slice a1 1 c1) (.slice a2 2 c2) (.slice a3 1 c3)
      have f0 := cell_of_row _ _ 0 _ _ _ hG
      have f1 := cell_of_row _ _ 1 _ _ _ hG
      have f2 := cell_of_row _ _ 2 _ _ _ hG
      have f3 := cell_of_row _ _ 3 _ _ _ hG
      have f4 := cell_of_row _ _ 4 _ _ _ hG
      have HBF := fivePut_below HBW.out (show w.heap.size ≤ w.heap.size + 1 + 1 by omega) (.int .i64 2) (.int .i64 2) (.slice a1 1 c1) (.slice a2 2 c2) (.slice a3 1 c3)
      have hot2 : ∀ k, k ≠ w.heap.size + 1 + 1 → (fivePut W5 (w.heap.size + 1 + 1) (.int .i64 2) (.int .i64 2) (.slice a1 1 c1) (.slice a2 2 c2) (.slice a3 1 c3)).heap[k]? = W5.heap[k]? := fun k hk => fivePut_other W5 k _ hk _ _ _ _ _
      have j1 := (owns_kept HK.out.1 (fun r hr => hot2 r (row_apart HK.out.1 HR5.out (by decide) r hr)))
      have j3 := (owns_kept HK.out.2.2 (fun r hr => hot2 r (row_apart HK.out.2.2 HR5.out (by decide) r hr)))
      have j2 := HK.out.2.1.of_block (fun b off k c e h9 => hot2 b (bl_apart HR5.out HK.out.2.1 e h9))
      refine bodyPost_ret (v := .agg #[.int .i64 2, .int .i64 2, .slice a1 1 c1, .slice a2 2 c2, .slice a3 1 c3]) ?_ rfl ⟨_, rfl, ⟨_, _, _, _, _, _, _, _, rfl, j1, j2, j3⟩, HBF⟩
      unfold fivePut at f0 f1 f2 f3 f4
      simp [results, Tryd.results20, go_sem, f0, f1, f2, f3, f4]

end Go.Proofs.YtpiacnnifdjlkabDoor
