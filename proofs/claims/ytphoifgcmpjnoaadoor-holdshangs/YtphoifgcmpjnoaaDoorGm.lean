/-
  What formula.read and formula.Parse answer where all of a text is a formula.
-/
import Derived.Test.YtphoifgcmpjnoaaDoorGl
namespace Go.Proofs.YtphoifgcmpjnoaaDoor
open Go.RowKit Go.Sort

theorem below_set {w w3 : World} (hb : Below w.heap.size w w3) (nb o : Nat) (v : Value) (hnb : w.heap.size ≤ nb) : Below w.heap.size w (w3.setCell ⟨nb, o, none⟩ v) :=
  ⟨hb.os, hb.tape, hb.output, by simp only [World.setCell, Array.size_modify]; exact hb.size, fun k hk => (set_far w3 _ _ k (by show k ≠ nb; omega)).trans (hb.block k hk)⟩

theorem own_far {w : World} {base e size n : Nat} {v : Value} {xs : List Value} (h : w.ownsRow base e size v n xs) (nb o : Nat) (x : Value) (hrow : some nb ≠ v.ownBlock) : (w.setCell ⟨nb, o, none⟩ x).ownsRow base e size v n xs :=
  h.kept (row := some nb) ⟨rfl, rfl, rfl, by simp [World.setCell], fun k hk hne => set_far w _ _ k (fun e => hne (by rw [e]))⟩ (Or.inr fun e => hrow e.symm)

theorem rd_begin {w : World} {r : Nat} (hs : SgMap w r) (T : List UInt8) (ty : Nat) : RD (w.alloc (.cells #[.map (some r), .string ⟨T.toArray⟩, .int .i64 0, .slice none 0 0] ty)) w.heap.size r (w.heap.size + 1) T 0 none 0 [] := by
  have hb : Below w.heap.size w (w.alloc (.cells #[.map (some r), .string ⟨T.toArray⟩, .int .i64 0, .slice none 0 0] ty)) := below_new _ _
  have hrl := hs.lt
  refine ⟨?_, ?_, ?_, ?_, fun o => World.frozen?_alloc_new _ _ _ _, hs.below hb, ⟨rfl, Or.inl ⟨rfl, rfl⟩⟩, by simp, by omega, by omega, by omega⟩
  all_goals exact cell_top _ _ _ _ _ _ rfl rfl

set_option maxRecDepth 100000 in
set_option maxHeartbeats 4000000 in
theorem read_ok {T : List UInt8} {g : Nat → List Nd} (hN : NodeAt T 0 T.length g) (hg : (g 0).length ≤ 1000) (w : World) :
    Calls Tryd.prog 82 #[.string ⟨T.toArray⟩] w fun e w' => ∃ v, e = .returned (.tuple #[v, .int .i64 0, .bool true]) ∧ NodeSl w' v (g 0) ∧ Below w.heap.size w w' := by
  have hmf : ∀ (fn : Fn) (first cap : Array Value) (w : World), (Instr.makeFunc fn first cap).run Tryd.prog w = .ok (.func fn first cap) w := fun _ _ _ _ => rfl
  have HN := hide hN
  clear hN
  go_enter_defers Tryd.func82, Tryd.ntmps82
  go_wp2_with (fail)
  refine (signs_any _).mono ?_
  rintro e w1 ⟨r, rfl, hr, hr0, hb1⟩
  obtain ⟨W0, hW0⟩ : ∃ W0, W0 = ((w.alloc (Obj.cells #[.slice none 0 0] 59)).alloc (Obj.cells #[.int .i64 0] 3)).alloc (Obj.cells #[.bool false] 4) := ⟨_, rfl⟩
  rw [← hW0] at hb1
  have h00 : W0.heap.size = w.heap.size + 3 := by rw [hW0]; simp
  have hbw0 : Below w.heap.size w W0 := by rw [hW0]; exact (by repeat (first | exact Below.refl _ _ | assumption | refine below_drewN ?_ _ | refine Below.drew ?_ | refine Below.alloc ?_ (by simp <;> omega) _ | refine below_trans ?_ (by assumption)))
  have y0 : W0.heap[w.heap.size]? = some (Obj.cells #[.slice none 0 0] 59) := by
    rw [hW0]
    rw [heap_alloc_old _ _ (by simp <;> omega), heap_alloc_old _ _ (by simp <;> omega)]
    exact heap_alloc_new _ _
  have y1 : W0.heap[w.heap.size + 1]? = some (Obj.cells #[.int .i64 0] 3) := by
    rw [hW0]
    rw [heap_alloc_old _ _ (by simp <;> omega)]
    have := heap_alloc_new (w.alloc (Obj.cells #[.slice none 0 0] 59)) (Obj.cells #[.int .i64 0] 3)
    simpa using this
  have y2 : W0.heap[w.heap.size + 2]? = some (Obj.cells #[.bool false] 4) := by
    rw [hW0]
    have := heap_alloc_new ((w.alloc (Obj.cells #[.slice none 0 0] 59)).alloc (Obj.cells #[.int .i64 0] 3)) (Obj.cells #[.bool false] 4)
    simpa using this
  have hs1 := hb1.size
  clear hW0
  go_wp2_with (fail)
  have hR2 := rd_begin (w := w1) (r := r) hr T 162
  refine (HN.out _ _ _ _ _ _ _ hR2 (by simp; omega)).mono ?_
  rintro e w3 ⟨rfl, a3, c3, hrs3⟩
  have hrs3 : RS (w1.alloc (.cells #[.map (some r), .string ⟨T.toArray⟩, .int .i64 0, .slice none 0 0] 162)) w3 w1.heap.size r (w1.heap.size + 1) T T.length none a3 c3 (g 0) := hrs3
  have hz : ∀ k o, k < W0.heap.size → W0.heap[k]? = some o → w3.heap[k]? = some o := fun k o hk ho => by
    rw [hrs3.gt.block k (by simp; omega) (by omega) (by simp [rowOf, Value.ownBlock]), heap_alloc_old _ _ (by omega), hb1.block k hk]
    exact ho
  have y0 := hz _ _ (by omega) y0
  have y1 := hz _ _ (by omega) y1
  have y2 := hz _ _ (by omega) y2
  have z0 := box_cell (i := 0) y0 rfl
  have z1 := box_cell (i := 0) y1 rfl
  have z2 := box_cell (i := 0) y2 rfl
  have x0 := frozen_of_row _ _ 0 _ _ y0
  have x1 := frozen_of_row _ _ 0 _ _ y1
  have x2 := frozen_of_row _ _ 0 _ _ y2
  have k2 := hrs3.rd.c2
  have k3 := hrs3.rd.c3
  have HB3 := hide (neg_below hbw0 hb1 (show GT w1.heap.size none _ w3 from hrs3.gt))
  have HO3 := hide hrs3.rd.own
  have HW := hide h00
  have HS1 := hide hs1
  clear hrs3 hz y0 y1 y2 hR2 hr hr0 hb1 hbw0 HN h00 hs1
  go_wp2_with (fail)
  obtain ⟨w4, hw4⟩ : ∃ w4, w4 = ((w3.setCell ⟨w.heap.size, 0, none⟩ (.slice a3 (g 0).length c3)).setCell ⟨w.heap.size + 1, 0, none⟩ (.int .i64 0)).setCell ⟨w.heap.size + 1 + 1, 0, none⟩ (.bool true) := ⟨_, rfl⟩
  rw [← hw4]
  have q0 : w4.cell? ⟨w.heap.size, 0, none⟩ = some (.slice a3 (g 0).length c3) := by rw [hw4]; exact cell_set_ne (by omega) (cell_set_ne (by omega) (cell_set_eq z0))
  have q1 : w4.cell? ⟨w.heap.size + 1, 0, none⟩ = some (.int .i64 0) := by rw [hw4]; exact cell_set_ne (by omega) (cell_set_eq (cell_set_ne (by omega) z1))
  have q2 : w4.cell? ⟨w.heap.size + 1 + 1, 0, none⟩ = some (.bool true) := by rw [hw4]; exact cell_set_eq (cell_set_ne (by omega) (cell_set_ne (by omega) z2))
  have HB4 : Hid (Below w.heap.size w w4) := hide (by rw [hw4]; exact below_set (below_set (below_set HB3.out _ _ _ (by omega)) _ _ _ (by omega)) _ _ _ (by omega))
  have hrow : ∀ nb, nb < w1.heap.size + 1 → some nb ≠ (Value.slice a3 (g 0).length c3).ownBlock := fun nb hnb e => by
    have := (HO3.out.lt nb e.symm).1
    omega
  have HO4 : Hid (NodeSl w4 (.slice a3 (g 0).length c3) (g 0)) := hide (by
    have e1 := HW.out
    have e2 := HS1.out
    rw [hw4]
    exact nodeSl_of_owns (own_far (own_far (own_far HO3.out _ _ _ (hrow _ (by omega))) _ _ _ (hrow _ (by omega))) _ _ _ (hrow _ (by omega))))
  clear hw4 hrow z0 z1 z2 x0 x1 x2 k2 k3
  refine leaves_cons (f := 109) (args := #[.pointer (some ⟨w.heap.size, 0, none⟩), .pointer (some ⟨w.heap.size + 1, 0, none⟩), .pointer (some ⟨w.heap.size + 1 + 1, 0, none⟩)]) (by simp) (by simp [go_sem]) ?_
  refine (read_idle _ _ _ _).mono ?_
  rintro e u' w'' ⟨rfl, rfl, rfl⟩
  simp [Leaves, settle, results, Tryd.results82, go_sem, q0, q1, q2]
  exact ⟨HO4.out, HB4.out⟩

set_option maxRecDepth 100000 in
set_option maxHeartbeats 2000000 in
theorem parse_ok {T : List UInt8} {g : Nat → List Nd} (hN : NodeAt T 0 T.length g) (hT : T.length ≤ 2000) (hg : (g 0).length ≤ 1000) (hc : chkF (g 0) = 0) (w : World) :
    Calls Tryd.prog 42 #[.string ⟨T.toArray⟩] w fun e w' => ∃ v, e = .returned (.tuple #[v, .int .i64 0, .int .i64 0]) ∧ NodeSl w' v (g 0) ∧ Below w.heap.size w w' := by
  have HR := hide (read_ok hN hg w)
  have HC := hide hc
  clear hN hc
  have hlt : ¬ (2000 < (T.length : Int)) := by omega
  have hsz : (⟨T.toArray⟩ : ByteArray).size = T.length := by simp [ByteArray.size]
  go_enter Tryd.func42, Tryd.ntmps42
  go_wp2_with (fail)
  refine HR.out.mono ?_
  rintro e w1 ⟨v, rfl, hv, hb1⟩
  have HV := hide hv
  have HB1 := hide hb1
  clear hb1 HR
  obtain ⟨fa, fc, rfl, hm, -⟩ := hv
  go_wp2_with (fail)
  refine (formulaCheck_any HV.out).mono ?_
  rintro e w2 ⟨rfl, hb2⟩
  rw [HC.out]
  go_wp2_with (fail)
  go_ret3
  exact ⟨_, rfl, HV.out.below hb2, below_trans HB1.out hb2⟩
end Go.Proofs.YtphoifgcmpjnoaaDoor
