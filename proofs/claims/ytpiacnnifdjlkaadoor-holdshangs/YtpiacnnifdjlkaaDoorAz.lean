/-
  append of one element of one cell to a slice of the call's own.
-/
import Derived.Test.YtpiacnnifdjlkaaDoorFg
import Derived.Test.YtpiacnnifdjlkaaDoorFc
import Derived.Test.YtpiacnnifdjlkaaDoorEb
/-
  What (turner).turn answers of a node of two parts; and of whatever node.
-/
namespace Go.Proofs.YtpiacnnifdjlkaaDoor
open Go.RowKit Go.Sort

set_option maxRecDepth 100000 in
set_option maxHeartbeats 4000000 in
theorem turn_two {F : List Nd} (hF : AllOk F) (i : Nat) (hi : i < F.length) (hk : (F.getD i nd0).k = 4 ∨ (F.getD i nd0).k = 5 ∨ (F.getD i nd0).k = 7 ∨ (F.getD i nd0).k = 8) (ih : TurnOk F (F.getD i nd0).a.toNat) (ihb : TurnOk F (F.getD i nd0).b.toNat) : TurnOk F i := by
  intro w tb r base fv a c out o h hlen
  have hfl : fl F i o out.length = fl F (F.getD i nd0).a.toNat o out.length ++ (fl F (F.getD i nd0).b.toNat o (out.length + (fl F (F.getD i nd0).a.toNat o out.length).length) ++ [⟨if o = true then oppK (F.getD i nd0).k else (F.getD i nd0).k, (out.length + (fl F (F.getD i nd0).a.toNat o out.length).length - 1 : Nat), (out.length + (fl F (F.getD i nd0).a.toNat o out.length).length + (fl F (F.getD i nd0).b.toNat o (out.length + (fl F (F.getD i nd0).a.toNat o out.length).length)).length - 1 : Nat), 0⟩]) := by
    rw [fl_eq hF i hi]
    unfold flS
    rw [if_neg (by omega), if_neg (by omega), if_neg (by omega)]
  rw [hfl]
  clear hfl
  have HT := hide h
  obtain ⟨_, ⟨xa0, xa1, _⟩, ⟨xb0, xb1, xb2⟩, _⟩ := node_ok (hF i hi)
  have xa3 := xa1 (by omega)
  have hpw : 2 ^ ((F.getD i nd0).a.toNat + 2) ≤ 2 ^ (i + 1) := Nat.pow_le_pow_right (by decide) (by omega)
  have hp2 : 2 ^ (i + 2) = 2 * 2 ^ (i + 1) := by rw [Nat.pow_succ]; omega
  have hol : out.length ≤ 100000 := by omega
  obtain ⟨fa, fc, hfv, hfm, hc, -⟩ := h.nodes
  subst hfv
  rcases hc with hc | ⟨b, off, rfl, hc⟩
  · rw [hc] at hi; simp at hi
  obtain ⟨d0, d1, d2, d3⟩ := hc i hi
  have hlk0 := (run_lookup_sign (w := (w.alloc (Obj.cells #[.int .i64 (F.getD i nd0).k, .int .i64 (F.getD i nd0).a, .int .i64 (F.getD i nd0).b, .int .i64 (F.getD i nd0).n] 74)).drew) (h.sg.below (Below.drew (below_new w _))) (F.getD i nd0).k).1
  have hlk1 := (run_lookup_sign (w := ((w.alloc (Obj.cells #[.int .i64 (F.getD i nd0).k, .int .i64 (F.getD i nd0).a, .int .i64 (F.getD i nd0).b, .int .i64 (F.getD i nd0).n] 74)).alloc (Obj.cells #[.string ⟨#[]⟩, .int .i64 0, .bool false, .bool false, .int .i64 0] 119)).drew) (h.sg.below (Below.drew (Below.alloc (below_new w _) (by simp) _))) (F.getD i nd0).k).1
  have hsg : ∃ st tp, (sgOf (F.getD i nd0).k).getD sg0 = ⟨st, 2, false, tp, oppK (F.getD i nd0).k⟩ := by
    rcases hk with hk | hk | hk | hk <;> rw [hk] <;> exact ⟨_, _, rfl⟩
  obtain ⟨st, tp, hsg⟩ := hsg
  rw [hsg] at hlk0 hlk1
  unfold sgV at hlk0 hlk1
  have c0 := h.c0
  have c1 := h.c1
  have htb := World.block_lt_of_cell? w _ c0
  dsimp only at htb
  have xb3 := xb1 hk
  have hpwb : 2 ^ ((F.getD i nd0).b.toNat + 2) ≤ 2 ^ (i + 1) := Nat.pow_le_pow_right (by decide) (by omega)
  have hxn := node_n0 (hF i hi) (by omega)
  have hll := (fl_len hF (F.getD i nd0).a.toNat (by omega) o out.length).2
  have hllb := (fl_len hF (F.getD i nd0).b.toNat (by omega) o (out.length + (fl F (F.getD i nd0).a.toNat o out.length).length)).2
  have HI : Hid (∀ W, Below w.heap.size w W → _) := hide fun W hb => ih W tb r base (.slice (some ⟨b, off, none⟩) F.length fc) a c out o (h.below hb) (by omega)
  have HIb : Hid (∀ W a2 c2, TN W tb r base (.slice (some ⟨b, off, none⟩) F.length fc) F a2 c2 (out ++ fl F (F.getD i nd0).a.toNat o out.length) → _) := hide fun W a2 c2 ht => ihb W tb r base (.slice (some ⟨b, off, none⟩) F.length fc) a2 c2 (out ++ fl F (F.getD i nd0).a.toNat o out.length) o ht (by rw [List.length_append]; omega)
  have ea : ((F.getD i nd0).a.toNat : Int) = (F.getD i nd0).a := by omega
  have eb : ((F.getD i nd0).b.toNat : Int) = (F.getD i nd0).b := by omega
  rw [ea] at HI
  rw [eb] at HIb
  simp only [List.length_append] at HIb
  have hLb : out.length + (fl F (F.getD i nd0).a.toNat o out.length).length + (fl F (F.getD i nd0).b.toNat o (out.length + (fl F (F.getD i nd0).a.toNat o out.length).length)).length ≤ 200000 := by omega
  generalize fl F (F.getD i nd0).b.toNat o (out.length + (fl F (F.getD i nd0).a.toNat o out.length).length) = M at *
  generalize fl F (F.getD i nd0).a.toNat o out.length = L at *
  obtain ⟨hL0, _⟩ := hll
  obtain ⟨hM0, _⟩ := hllb
  have HB := hide (fun j hj => boxes_fresh h j hj)
  have hk3 : ((F.getD i nd0).k == 3) = false := by rw [beq_eq_false_iff_ne]; omega
  clear hc hlen hsg h ea eb ih ihb hpw hpwb hp2 xa0 xa1 xa3 xb0 xb1 xb2 xb3 hk
  generalize F.getD i nd0 = x at *
  obtain ⟨k, xa, xb, xn⟩ := x
  dsimp only at *
  subst hxn
  generalize oppK k = kk at *
  have z1 : tb < w.heap.size + 1 := by omega
  have z2 : tb < w.heap.size + 1 + 1 := by omega
  cases o
  · go_enter Tryd.func73, Tryd.ntmps73
    go_wp2_with (fail)
    go_region
    all_goals
      go_wp2_with (fail)
      refine (HI.out _ ?_).mono ?_
      · exact (by repeat (first | exact Below.refl _ _ | assumption | refine below_drewN ?_ _ | refine Below.drew ?_ | refine Below.alloc ?_ (by simp <;> omega) _ | refine below_trans ?_ (by assumption)))
      rintro e w2 ⟨rfl, a2, c2, ht2, hg2, hr2⟩
      have n0 := hg2.cell (b := w.heap.size) (o := 0) (v := .int .i64 k) (by (repeat (first | ((with_reducible refine cell_top _ _ _ _ _ _ ?_ ?_); (focus (first | rfl | (simp; done))); exact rfl) | (with_reducible refine cell_drew ?_) | (with_reducible refine cell_under _ _ ?_)))) (HB.out _ (by omega)).2.1 (HB.out _ (by omega)).1
      have n1 := hg2.cell (b := w.heap.size) (o := 1) (v := .int .i64 xa) (by (repeat (first | ((with_reducible refine cell_top _ _ _ _ _ _ ?_ ?_); (focus (first | rfl | (simp; done))); exact rfl) | (with_reducible refine cell_drew ?_) | (with_reducible refine cell_under _ _ ?_)))) (HB.out _ (by omega)).2.1 (HB.out _ (by omega)).1
      have n2 := hg2.cell (b := w.heap.size) (o := 2) (v := .int .i64 xb) (by (repeat (first | ((with_reducible refine cell_top _ _ _ _ _ _ ?_ ?_); (focus (first | rfl | (simp; done))); exact rfl) | (with_reducible refine cell_drew ?_) | (with_reducible refine cell_under _ _ ?_)))) (HB.out _ (by omega)).2.1 (HB.out _ (by omega)).1
      have n3 := hg2.cell (b := w.heap.size) (o := 3) (v := .int .i64 0) (by (repeat (first | ((with_reducible refine cell_top _ _ _ _ _ _ ?_ ?_); (focus (first | rfl | (simp; done))); exact rfl) | (with_reducible refine cell_drew ?_) | (with_reducible refine cell_under _ _ ?_)))) (HB.out _ (by omega)).2.1 (HB.out _ (by omega)).1
      have m1 := hg2.cell (b := w.heap.size + 1) (o := 1) (v := .int .i64 2) (by (repeat (first | ((with_reducible refine cell_top _ _ _ _ _ _ ?_ ?_); (focus (first | rfl | (simp; done))); exact rfl) | (with_reducible refine cell_drew ?_) | (with_reducible refine cell_under _ _ ?_)))) (HB.out _ (by omega)).2.1 (HB.out _ (by omega)).1
      have nf : ∀ o, w2.frozen? ⟨w.heap.size, o, none⟩ = false := fun o => (hg2.frozen (b := w.heap.size) (o := o) (by simp <;> omega) (HB.out _ (by omega)).2.1 (HB.out _ (by omega)).1).trans (frozen_of_row _ _ _ _ _ (by (repeat (first | ((with_reducible refine heap_top _ _ _ ?_); (focus (first | rfl | (simp; done)))) | (with_reducible refine heap_drew ?_) | (with_reducible refine heap_under _ ?_)))))
      have hne2 := row_ne_new hr2 (j := w.heap.size) (HB.out _ (by omega)).1 (by simp <;> omega)
      have hne2' := row_ne_new hr2 (j := w.heap.size + 1) (HB.out _ (by omega)).1 (by simp <;> omega)
      have hgw := GTf.trans (GTf.of_below (tb := tb) (row := rowOf a) (w := w) (by repeat (first | exact Below.refl _ _ | assumption | refine below_drewN ?_ _ | refine Below.drew ?_ | refine Below.alloc ?_ (by simp <;> omega) _ | refine below_trans ?_ (by assumption)))) hg2 (Or.inl rfl)
      have hrw : RowNew w (rowOf a) (rowOf a2) := RowNew.trans (Or.inl rfl) (by simp <;> omega) hr2
      have ht3 := ht2.far w.heap.size 1 (.int .i64 (out.length + L.length - 1 : Nat)) (HB.out _ (by omega)).2.2 hne2
      have hg3 := hgw.set w.heap.size 1 (.int .i64 (out.length + L.length - 1 : Nat)) (Nat.le_refl _)
      obtain ⟨w3, hw3⟩ : ∃ w3, w3 = w2.setCell ⟨w.heap.size, 1, none⟩ (.int .i64 (out.length + L.length - 1 : Nat)) := ⟨_, rfl⟩
      have p0 : w3.cell? ⟨w.heap.size, 0, none⟩ = some (.int .i64 k) := by rw [hw3]; exact cell_set_off (by decide) n0
      have p1 : w3.cell? ⟨w.heap.size, 1, none⟩ = some (.int .i64 (out.length + L.length - 1 : Nat)) := by rw [hw3]; exact cell_set_eq n1
      have p2 : w3.cell? ⟨w.heap.size, 2, none⟩ = some (.int .i64 xb) := by rw [hw3]; exact cell_set_off (by decide) n2
      have p3 : w3.cell? ⟨w.heap.size, 3, none⟩ = some (.int .i64 0) := by rw [hw3]; exact cell_set_off (by decide) n3
      have pf : ∀ o, w3.frozen? ⟨w.heap.size, o, none⟩ = false := fun o => by rw [hw3, World.frozen?_setCell]; exact nf o
      have nf1 := nf 1
      rw [← hw3] at ht3 hg3
      have hwb : w.heap.size < w3.heap.size := World.block_lt_of_cell? w3 _ p0
      have HI2 := hide (HIb.out w3 a2 c2 ht3)
      have HH3 := hide (And.intro hg3 (And.intro hrw hne2))
      clear ht2 hg2 hr2 hgw hrw ht3 hg3 HI HIb hlk0 hlk1 hne2 hne2' n0 n3 nf
      go_wp2_with (fail)
      rw [← hw3]
      clear hw3 n1 n2 m1 nf1
      refine HI2.out.mono ?_
      rintro e w4 ⟨rfl, a4, c4, ht4, hg4, hr4⟩
      have o0 := hg4.cell p0 (HB.out _ (by omega)).2.1 HH3.out.2.2
      have o1 := hg4.cell p1 (HB.out _ (by omega)).2.1 HH3.out.2.2
      have o2 := hg4.cell p2 (HB.out _ (by omega)).2.1 HH3.out.2.2
      have o3 := hg4.cell p3 (HB.out _ (by omega)).2.1 HH3.out.2.2
      have of2 : w4.frozen? ⟨w.heap.size, 2, none⟩ = false := (hg4.frozen hwb (HB.out _ (by omega)).2.1 HH3.out.2.2).trans (pf 2)
      have hne4 := row_ne_new hr4 (j := w.heap.size) HH3.out.2.2 hwb
      have hgw := GTf.trans HH3.out.1 hg4 HH3.out.2.1
      have hrw := RowNew.trans HH3.out.2.1 HH3.out.1.size hr4
      have ht5 := ht4.far w.heap.size 2 (.int .i64 (out.length + L.length + M.length - 1 : Nat)) (HB.out _ (by omega)).2.2 hne4
      have hg5 := hgw.set w.heap.size 2 (.int .i64 (out.length + L.length + M.length - 1 : Nat)) (Nat.le_refl _)
      obtain ⟨w5, hw5⟩ : ∃ w5, w5 = w4.setCell ⟨w.heap.size, 2, none⟩ (.int .i64 (out.length + L.length + M.length - 1 : Nat)) := ⟨_, rfl⟩
      have s5 : w5.cell? ⟨w.heap.size, 0, none⟩ = some (.int .i64 k) ∧ w5.cell? ⟨w.heap.size, 1, none⟩ = some (.int .i64 (out.length + L.length - 1 : Nat)) ∧ w5.cell? ⟨w.heap.size, 2, none⟩ = some (.int .i64 (out.length + L.length + M.length - 1 : Nat)) ∧ w5.cell? ⟨w.heap.size, 3, none⟩ = some (.int .i64 0) := by
        rw [hw5]
        exact ⟨cell_set_off (by decide) o0, cell_set_off (by decide) o1, cell_set_eq o2, cell_set_off (by decide) o3⟩
      rw [← hw5] at ht5 hg5
      have HGr := hide (fun W hb => growT (ht5.below (w' := W) hb) ⟨k, (out.length + L.length - 1 : Nat), (out.length + L.length + M.length - 1 : Nat), 0⟩ (by simp; omega))
      have HH5 := hide (And.intro hg5 (And.intro hrw hne4))
      clear ht4 hg4 hr4 hgw hrw ht5 hg5 HI2 hne4 o0 o1 o3 p0 p1 p2 p3 pf HH3
      go_wp2_with (fail)
      rw [← hw5]
      clear hw5 o2 of2
      go_region_held3 (fun w' => w'.cell? ⟨w.heap.size, 0, none⟩ = some (.int .i64 k) ∧ w'.cell? ⟨w.heap.size, 1, none⟩ = some (.int .i64 (out.length + L.length - 1 : Nat)) ∧ w'.cell? ⟨w.heap.size, 2, none⟩ = some (.int .i64 (out.length + L.length + M.length - 1 : Nat)) ∧ w'.cell? ⟨w.heap.size, 3, none⟩ = some (.int .i64 0)) (first | (with_reducible exact s6) | (exact ⟨cell_drew s5.1, cell_drew s5.2.1, cell_drew s5.2.2.1, cell_drew s5.2.2.2⟩) | (exact s5)) (first | (go_at_call 107; refine (HGr.out _ ?_).mono ?_; (focus (exact Below.drew (Below.refl _ _))); rintro e w6 ⟨rfl, a6, c6, ht6, hg6, hr6⟩; rw [row_eq] at hg6 hr6; rw [row_eq] at hr6; have s6 : w6.cell? ⟨w.heap.size, 0, none⟩ = some (.int .i64 k) ∧ w6.cell? ⟨w.heap.size, 1, none⟩ = some (.int .i64 (out.length + L.length - 1 : Nat)) ∧ w6.cell? ⟨w.heap.size, 2, none⟩ = some (.int .i64 (out.length + L.length + M.length - 1 : Nat)) ∧ w6.cell? ⟨w.heap.size, 3, none⟩ = some (.int .i64 0) := ⟨hg6.cell (cell_drew s5.1) (HB.out _ (by omega)).2.1 HH5.out.2.2, hg6.cell (cell_drew s5.2.1) (HB.out _ (by omega)).2.1 HH5.out.2.2, hg6.cell (cell_drew s5.2.2.1) (HB.out _ (by omega)).2.1 HH5.out.2.2, hg6.cell (cell_drew s5.2.2.2) (HB.out _ (by omega)).2.1 HH5.out.2.2⟩; have hg7 := GTf.trans (GTf.of_below (tb := tb) (row := rowOf a4) (w := w5) (Below.drew (Below.refl _ _))) hg6 (Or.inl rfl); have hgw := GTf.trans HH5.out.1 hg7 HH5.out.2.1; have hrw := RowNew.trans HH5.out.2.1 HH5.out.1.size hr6))
      rw [List.append_assoc, List.append_assoc] at ht6
      have HF := hide (And.intro ht6 (And.intro hgw hrw))
      clear ht6 hgw hrw hg6 hg7 hr6 s6 s5 HGr
      go_wp2_with (fail)
      go_ret
      exact ⟨ret_eq (by first | rfl | omega | (simp; done) | (simp; omega)), a6, ⟨c6, HF.out.1⟩, HF.out.2⟩
  · go_enter Tryd.func73, Tryd.ntmps73
    go_wp2_with (fail)
    go_region
    all_goals
      go_wp2_with (fail)
      refine (HI.out _ ?_).mono ?_
      · exact (by repeat (first | exact Below.refl _ _ | assumption | refine below_drewN ?_ _ | refine Below.drew ?_ | refine Below.alloc ?_ (by simp <;> omega) _ | refine below_trans ?_ (by assumption)))
      rintro e w2 ⟨rfl, a2, c2, ht2, hg2, hr2⟩
      have n0 := hg2.cell (b := w.heap.size) (o := 0) (v := .int .i64 kk) (by (repeat (first | ((with_reducible refine cell_top _ _ _ _ _ _ ?_ ?_); (focus (first | rfl | (simp; done))); exact rfl) | (with_reducible refine cell_drew ?_) | (with_reducible refine cell_under _ _ ?_)))) (HB.out _ (by omega)).2.1 (HB.out _ (by omega)).1
      have n1 := hg2.cell (b := w.heap.size) (o := 1) (v := .int .i64 xa) (by (repeat (first | ((with_reducible refine cell_top _ _ _ _ _ _ ?_ ?_); (focus (first | rfl | (simp; done))); exact rfl) | (with_reducible refine cell_drew ?_) | (with_reducible refine cell_under _ _ ?_)))) (HB.out _ (by omega)).2.1 (HB.out _ (by omega)).1
      have n2 := hg2.cell (b := w.heap.size) (o := 2) (v := .int .i64 xb) (by (repeat (first | ((with_reducible refine cell_top _ _ _ _ _ _ ?_ ?_); (focus (first | rfl | (simp; done))); exact rfl) | (with_reducible refine cell_drew ?_) | (with_reducible refine cell_under _ _ ?_)))) (HB.out _ (by omega)).2.1 (HB.out _ (by omega)).1
      have n3 := hg2.cell (b := w.heap.size) (o := 3) (v := .int .i64 0) (by (repeat (first | ((with_reducible refine cell_top _ _ _ _ _ _ ?_ ?_); (focus (first | rfl | (simp; done))); exact rfl) | (with_reducible refine cell_drew ?_) | (with_reducible refine cell_under _ _ ?_)))) (HB.out _ (by omega)).2.1 (HB.out _ (by omega)).1
      have m1 := hg2.cell (b := w.heap.size + 1) (o := 1) (v := .int .i64 2) (by (repeat (first | ((with_reducible refine cell_top _ _ _ _ _ _ ?_ ?_); (focus (first | rfl | (simp; done))); exact rfl) | (with_reducible refine cell_drew ?_) | (with_reducible refine cell_under _ _ ?_)))) (HB.out _ (by omega)).2.1 (HB.out _ (by omega)).1
      have nf : ∀ o, w2.frozen? ⟨w.heap.size, o, none⟩ = false := fun o => (hg2.frozen (b := w.heap.size) (o := o) (by simp <;> omega) (HB.out _ (by omega)).2.1 (HB.out _ (by omega)).1).trans (frozen_of_row _ _ _ _ _ (by (repeat (first | ((with_reducible refine heap_top _ _ _ ?_); (focus (first | rfl | (simp; done)))) | (with_reducible refine heap_drew ?_) | (with_reducible refine heap_under _ ?_)))))
      have hne2 := row_ne_new hr2 (j := w.heap.size) (HB.out _ (by omega)).1 (by simp <;> omega)
      have hne2' := row_ne_new hr2 (j := w.heap.size + 1) (HB.out _ (by omega)).1 (by simp <;> omega)
      have hgw := GTf.trans (GTf.of_below (tb := tb) (row := rowOf a) (w := w) (by repeat (first | exact Below.refl _ _ | assumption | refine below_drewN ?_ _ | refine Below.drew ?_ | refine Below.alloc ?_ (by simp <;> omega) _ | refine below_trans ?_ (by assumption)))) hg2 (Or.inl rfl)
      have hrw : RowNew w (rowOf a) (rowOf a2) := RowNew.trans (Or.inl rfl) (by simp <;> omega) hr2
      have ht3 := ht2.far w.heap.size 1 (.int .i64 (out.length + L.length - 1 : Nat)) (HB.out _ (by omega)).2.2 hne2
      have hg3 := hgw.set w.heap.size 1 (.int .i64 (out.length + L.length - 1 : Nat)) (Nat.le_refl _)
      obtain ⟨w3, hw3⟩ : ∃ w3, w3 = w2.setCell ⟨w.heap.size, 1, none⟩ (.int .i64 (out.length + L.length - 1 : Nat)) := ⟨_, rfl⟩
      have p0 : w3.cell? ⟨w.heap.size, 0, none⟩ = some (.int .i64 kk) := by rw [hw3]; exact cell_set_off (by decide) n0
      have p1 : w3.cell? ⟨w.heap.size, 1, none⟩ = some (.int .i64 (out.length + L.length - 1 : Nat)) := by rw [hw3]; exact cell_set_eq n1
      have p2 : w3.cell? ⟨w.heap.size, 2, none⟩ = some (.int .i64 xb) := by rw [hw3]; exact cell_set_off (by decide) n2
      have p3 : w3.cell? ⟨w.heap.size, 3, none⟩ = some (.int .i64 0) := by rw [hw3]; exact cell_set_off (by decide) n3
      have pf : ∀ o, w3.frozen? ⟨w.heap.size, o, none⟩ = false := fun o => by rw [hw3, World.frozen?_setCell]; exact nf o
      have nf1 := nf 1
      rw [← hw3] at ht3 hg3
      have hwb : w.heap.size < w3.heap.size := World.block_lt_of_cell? w3 _ p0
      have HI2 := hide (HIb.out w3 a2 c2 ht3)
      have HH3 := hide (And.intro hg3 (And.intro hrw hne2))
      clear ht2 hg2 hr2 hgw hrw ht3 hg3 HI HIb hlk0 hlk1 hne2 hne2' n0 n3 nf
      go_wp2_with (fail)
      rw [← hw3]
      clear hw3 n1 n2 m1 nf1
      refine HI2.out.mono ?_
      rintro e w4 ⟨rfl, a4, c4, ht4, hg4, hr4⟩
      have o0 := hg4.cell p0 (HB.out _ (by omega)).2.1 HH3.out.2.2
      have o1 := hg4.cell p1 (HB.out _ (by omega)).2.1 HH3.out.2.2
      have o2 := hg4.cell p2 (HB.out _ (by omega)).2.1 HH3.out.2.2
      have o3 := hg4.cell p3 (HB.out _ (by omega)).2.1 HH3.out.2.2
      have of2 : w4.frozen? ⟨w.heap.size, 2, none⟩ = false := (hg4.frozen hwb (HB.out _ (by omega)).2.1 HH3.out.2.2).trans (pf 2)
      have hne4 := row_ne_new hr4 (j := w.heap.size) HH3.out.2.2 hwb
      have hgw := GTf.trans HH3.out.1 hg4 HH3.out.2.1
      have hrw := RowNew.trans HH3.out.2.1 HH3.out.1.size hr4
      have ht5 := ht4.far w.heap.size 2 (.int .i64 (out.length + L.length + M.length - 1 : Nat)) (HB.out _ (by omega)).2.2 hne4
      have hg5 := hgw.set w.heap.size 2 (.int .i64 (out.length + L.length + M.length - 1 : Nat)) (Nat.le_refl _)
      obtain ⟨w5, hw5⟩ : ∃ w5, w5 = w4.setCell ⟨w.heap.size, 2, none⟩ (.int .i64 (out.length + L.length + M.length - 1 : Nat)) := ⟨_, rfl⟩
      have s5 : w5.cell? ⟨w.heap.size, 0, none⟩ = some (.int .i64 kk) ∧ w5.cell? ⟨w.heap.size, 1, none⟩ = some (.int .i64 (out.length + L.length - 1 : Nat)) ∧ w5.cell? ⟨w.heap.size, 2, none⟩ = some (.int .i64 (out.length + L.length + M.length - 1 : Nat)) ∧ w5.cell? ⟨w.heap.size, 3, none⟩ = some (.int .i64 0) := by
        rw [hw5]
        exact ⟨cell_set_off (by decide) o0, cell_set_off (by decide) o1, cell_set_eq o2, cell_set_off (by decide) o3⟩
      rw [← hw5] at ht5 hg5
      have HGr := hide (fun W hb => growT (ht5.below (w' := W) hb) ⟨kk, (out.length + L.length - 1 : Nat), (out.length + L.length + M.length - 1 : Nat), 0⟩ (by simp; omega))
      have HH5 := hide (And.intro hg5 (And.intro hrw hne4))
      clear ht4 hg4 hr4 hgw hrw ht5 hg5 HI2 hne4 o0 o1 o3 p0 p1 p2 p3 pf HH3
      go_wp2_with (fail)
      rw [← hw5]
      clear hw5 o2 of2
      go_region_held3 (fun w' => w'.cell? ⟨w.heap.size, 0, none⟩ = some (.int .i64 kk) ∧ w'.cell? ⟨w.heap.size, 1, none⟩ = some (.int .i64 (out.length + L.length - 1 : Nat)) ∧ w'.cell? ⟨w.heap.size, 2, none⟩ = some (.int .i64 (out.length + L.length + M.length - 1 : Nat)) ∧ w'.cell? ⟨w.heap.size, 3, none⟩ = some (.int .i64 0)) (first | (with_reducible exact s6) | (exact ⟨cell_drew s5.1, cell_drew s5.2.1, cell_drew s5.2.2.1, cell_drew s5.2.2.2⟩) | (exact s5)) (first | (go_at_call 107; refine (HGr.out _ ?_).mono ?_; (focus (exact Below.drew (Below.refl _ _))); rintro e w6 ⟨rfl, a6, c6, ht6, hg6, hr6⟩; rw [row_eq] at hg6 hr6; rw [row_eq] at hr6; have s6 : w6.cell? ⟨w.heap.size, 0, none⟩ = some (.int .i64 kk) ∧ w6.cell? ⟨w.heap.size, 1, none⟩ = some (.int .i64 (out.length + L.length - 1 : Nat)) ∧ w6.cell? ⟨w.heap.size, 2, none⟩ = some (.int .i64 (out.length + L.length + M.length - 1 : Nat)) ∧ w6.cell? ⟨w.heap.size, 3, none⟩ = some (.int .i64 0) := ⟨hg6.cell (cell_drew s5.1) (HB.out _ (by omega)).2.1 HH5.out.2.2, hg6.cell (cell_drew s5.2.1) (HB.out _ (by omega)).2.1 HH5.out.2.2, hg6.cell (cell_drew s5.2.2.1) (HB.out _ (by omega)).2.1 HH5.out.2.2, hg6.cell (cell_drew s5.2.2.2) (HB.out _ (by omega)).2.1 HH5.out.2.2⟩; have hg7 := GTf.trans (GTf.of_below (tb := tb) (row := rowOf a4) (w := w5) (Below.drew (Below.refl _ _))) hg6 (Or.inl rfl); have hgw := GTf.trans HH5.out.1 hg7 HH5.out.2.1; have hrw := RowNew.trans HH5.out.2.1 HH5.out.1.size hr6))
      rw [List.append_assoc, List.append_assoc] at ht6
      have HF := hide (And.intro ht6 (And.intro hgw hrw))
      clear ht6 hgw hrw hg6 hg7 hr6 s6 s5 HGr
      go_wp2_with (fail)
      go_ret
      exact ⟨ret_eq (by first | rfl | omega | (simp; done) | (simp; omega)), a6, ⟨c6, HF.out.1⟩, HF.out.2⟩

theorem turn_any {F : List Nd} (hF : AllOk F) : ∀ i, i < F.length → TurnOk F i := by
  intro i
  induction i using Nat.strongRecOn with
  | ind i ih =>
    intro hi
    obtain ⟨hk, ⟨xa0, xa1, _⟩, ⟨xb0, xb1, _⟩, _⟩ := node_ok (hF i hi)
    by_cases h1 : (F.getD i nd0).k = 1 ∨ (F.getD i nd0).k = 2
    · exact turn_leaf hF i hi h1
    have ha := xa1 (by omega)
    have iha := ih (F.getD i nd0).a.toNat (by omega) (by omega)
    by_cases h3 : (F.getD i nd0).k = 3
    · exact turn_not hF i hi h3 iha
    by_cases h6 : (F.getD i nd0).k = 6
    · exact turn_next hF i hi h6 iha
    have hb := xb1 (by omega)
    exact turn_two hF i hi (by omega) iha (ih (F.getD i nd0).b.toNat (by omega) (by omega))
end Go.Proofs.YtpiacnnifdjlkaaDoor

/-
  What formula.Negate answers.
-/
namespace Go.Proofs.YtpiacnnifdjlkaaDoor
open Go.RowKit Go.Sort

theorem ndCells_get : ∀ (F : List Nd) (i j : Nat), i < F.length → j < 4 → (ndCells F)[i * 4 + j]? = [Value.int .i64 (F.getD i nd0).k, .int .i64 (F.getD i nd0).a, .int .i64 (F.getD i nd0).b, .int .i64 (F.getD i nd0).n][j]?
  | [], i, j, hi, hj => by simp at hi
  | x :: F, 0, j, hi, hj => by
    show ([Value.int .i64 x.k, .int .i64 x.a, .int .i64 x.b, .int .i64 x.n] ++ ndCells F)[0 * 4 + j]? = _
    rw [Nat.zero_mul, Nat.zero_add, List.getElem?_append_left (by simpa using hj)]
    rfl
  | x :: F, i + 1, j, hi, hj => by
    show ([Value.int .i64 x.k, .int .i64 x.a, .int .i64 x.b, .int .i64 x.n] ++ ndCells F)[(i + 1) * 4 + j]? = _
    rw [List.getElem?_append_right (by simp; omega)]
    have := ndCells_get F i j (by simpa using hi) hj
    have e : (i + 1) * 4 + j - [Value.int .i64 x.k, .int .i64 x.a, .int .i64 x.b, .int .i64 x.n].length = i * 4 + j := by simp; omega
    rw [e, this]
    simp [List.getD]

theorem nodeSl_of_owns {w : World} {base : Nat} {v : Value} {F : List Nd} (h : w.ownsRow base 74 4 v F.length (ndCells F)) : NodeSl w v F := by
  rcases h.2 with ⟨rfl, h0⟩ | ⟨g, cap, cur, rfl, hb, hg, hnc, hcm, hcs, htake⟩
  · have : F = [] := List.eq_nil_of_length_eq_zero h0
    subst this
    exact ⟨none, 0, rfl, by simp [maxLen], Or.inl rfl, fun _ => rfl, Nat.le_refl _⟩
  · refine ⟨some ⟨g, 0, none⟩, cap, rfl, by omega, Or.inr ⟨g, 0, rfl, fun i hi => ?_⟩, (fun h => by cases h), hnc⟩
    have c0 := h.cells (g := g) rfl (i * 4 + 0) _ (ndCells_get F i 0 hi (by decide))
    have c1 := h.cells (g := g) rfl (i * 4 + 1) _ (ndCells_get F i 1 hi (by decide))
    have c2 := h.cells (g := g) rfl (i * 4 + 2) _ (ndCells_get F i 2 hi (by decide))
    have c3 := h.cells (g := g) rfl (i * 4 + 3) _ (ndCells_get F i 3 hi (by decide))
    rw [add_none] at c0 c1 c2 c3
    exact ⟨c0, by rw [Nat.add_assoc]; exact c1, by rw [Nat.add_assoc]; exact c2, by rw [Nat.add_assoc]; exact c3⟩

/-- The opposite's nodes. -/
def negF (F : List Nd) : List Nd := fl F (F.length - 1) true 0

/-- What Negate tells. -/
def chkNeg (F : List Nd) : Int := if chkF F = 0 then chkF (negF F) else chkF F

end Go.Proofs.YtpiacnnifdjlkaaDoor

/-
  What formula.Negate answers.
-/
namespace Go.Proofs.YtpiacnnifdjlkaaDoor
open Go.RowKit Go.Sort

theorem NodeSl.block_lt {w : World} {v : Value} {F : List Nd} (h : NodeSl w v F) (hne : F ≠ []) : ∀ b, v.ownBlock = some b → b < w.heap.size := by
  obtain ⟨a, cap, rfl, hm, h, hn⟩ := h
  rcases h with h | ⟨b, off, rfl, hc⟩
  · exact absurd h hne
  · intro k hk
    have e : b = k := by simpa [Value.ownBlock] using hk
    subst e
    exact World.block_lt_of_cell? w _ (hc 0 (List.length_pos_iff.2 hne)).1

theorem tn_begin {w : World} {r : Nat} {fv : Value} {F : List Nd} (hs : SgMap w r) (hn : NodeSl w fv F) (hne : F ≠ []) (ty : Nat) : TN (w.alloc (.cells #[.map (some r), fv, .slice none 0 0] ty)) w.heap.size r (w.heap.size + 1) fv F none 0 [] := by
  have hb : Below w.heap.size w (w.alloc (.cells #[.map (some r), fv, .slice none 0 0] ty)) := below_new _ _
  have hrl := hs.lt
  refine ⟨?_, ?_, ?_, ?_, hs.below hb, hn.below hb, ⟨rfl, Or.inl ⟨rfl, rfl⟩⟩, ?_, by omega, by omega, by omega, fun b h => ?_⟩
  · exact cell_top _ _ _ _ _ _ rfl rfl
  · exact cell_top _ _ _ _ _ _ rfl rfl
  · exact cell_top _ _ _ _ _ _ rfl rfl
  · exact World.frozen?_alloc_new _ _ _ _
  · simp
  · have := hn.block_lt hne b h
    omega

theorem neg_below {w w1 w2 w3 : World} {o : Obj} (hb1 : Below w.heap.size w w1) (hb2 : Below w1.heap.size w1 w2) (h : GTf w2.heap.size none (w2.alloc o) w3) : Below w.heap.size w w3 := by
  have hb := below_trans (below_trans hb1 hb2) (below_new w2 o)
  have h1 := hb1.size
  have h2 := hb2.size
  refine ⟨h.os.trans hb.os, h.tape.trans hb.tape, h.output.trans hb.output, Nat.le_trans hb.size h.size, fun k hk => ?_⟩
  exact (h.block k (Nat.lt_of_lt_of_le hk hb.size) (by omega) (fun e => by cases e)).trans (hb.block k hk)

set_option maxRecDepth 100000 in
set_option maxHeartbeats 2000000 in
theorem negate_any {w : World} {fv : Value} {F : List Nd} (hF : NodeSl w fv F) :
    Calls Tryd.prog 35 #[fv] w fun e w' => ∃ v, e = .returned (.tuple #[v, .int .i64 (chkNeg F)]) ∧ (chkNeg F = 0 → NodeSl w' v (negF F)) ∧ (chkNeg F ≠ 0 → v = .slice none 0 0) ∧ Below w.heap.size w w' := by
  have HC : Hid (∀ W v G, NodeSl W v G → Calls Tryd.prog 40 #[v] W fun e w' => e = .returned (.int .i64 (chkF G)) ∧ Below W.heap.size W w') := hide fun W v G h => formulaCheck_any h
  have HV := hide hF
  obtain ⟨fa, fc, rfl, hm, -⟩ := hF
  by_cases hq : chkF F = 0
  · have bq : (chkF F != 0) = false := by simpa using hq
    obtain ⟨hM0, h12, hall⟩ := chkF_ok hq
    have hcn : chkNeg F = chkF (negF F) := by unfold chkNeg; rw [if_pos hq]
    rw [hcn]
    have hpw : 2 ^ (F.length - 1 + 2) ≤ 2 ^ 13 := Nat.pow_le_pow_right (by decide) (by omega)
    have hi0 : (F.length : Int) - 1 = (F.length - 1 : Nat) := by omega
    have HTurn := hide (turn_any hall (F.length - 1) (by omega))
    clear hcn
    generalize hcq : chkF (negF F) = s at *
    have HS := hide hcq
    clear hcq
    go_enter Tryd.func35, Tryd.ntmps35
    go_wp2_with (fail)
    refine (HC.out _ _ F HV.out).mono ?_
    rintro e w1 ⟨rfl, hb1⟩
    go_wp2_with (fail)
    refine (signs_any _).mono ?_
    rintro e w2 ⟨r, rfl, hr, hr0, hb2⟩
    have hrl := (Array.getElem?_eq_some_iff.1 hr).1
    go_wp2_with (fail)
    have hne : F ≠ [] := fun h => by rw [h] at hM0; simp at hM0
    have hT0 := tn_begin (w := w2) (r := r) (F := F) hr ((HV.out.below hb1).below hb2) hne 111
    refine (HTurn.out _ _ _ _ _ _ _ _ true hT0 (by simp; omega)).mono ?_
    rintro e w3 ⟨rfl, a3, c3, ht3, hg3, hn3⟩
    have ht3' : TN w3 w2.heap.size r (w2.heap.size + 1) (.slice fa F.length fc) F a3 c3 (negF F) := ht3
    have htc : w3.cell? ⟨w2.heap.size, 2, none⟩ = some (.slice a3 (negF F).length c3) := ht3'.c2
    have HT3 := hide ht3'
    have HB3 : Hid (Below w.heap.size w w3) := hide (neg_below hb1 hb2 hg3)
    clear ht3 ht3' hT0 hn3 hg3 hi0 hpw
    by_cases hs0 : s = 0
    · subst hs0
      go_wp2_with (fail)
      refine (HC.out _ _ (negF F) (nodeSl_of_owns HT3.out.own)).mono ?_
      rintro e w4 ⟨rfl, hb4⟩
      rw [HS.out]
      have htc4 := cell_keep htc hb4
      go_wp2_with (fail)
      go_ret2
      exact ⟨.slice a3 (negF F).length c3, rfl, (nodeSl_of_owns HT3.out.own).below hb4, below_trans HB3.out hb4⟩
    · have bs : (s != 0) = true := by simpa using hs0
      go_wp2_with (fail)
      refine (HC.out _ _ (negF F) (nodeSl_of_owns HT3.out.own)).mono ?_
      rintro e w4 ⟨rfl, hb4⟩
      rw [HS.out]
      go_wp2_with (fail)
      go_ret2
      exact ⟨.slice none 0 0, rfl, fun h => absurd h hs0, fun _ => rfl, below_trans HB3.out hb4⟩
  · have bq : (chkF F != 0) = true := by simpa using hq
    have hcn : chkNeg F = chkF F := by unfold chkNeg; rw [if_neg hq]
    rw [hcn]
    have HQ := hide hq
    clear hcn hq
    generalize hcq : chkF F = s at *
    have HS := hide hcq
    clear hcq
    go_enter Tryd.func35, Tryd.ntmps35
    go_wp2_with (fail)
    refine (HC.out _ _ F HV.out).mono ?_
    rintro e w1 ⟨rfl, hb1⟩
    rw [HS.out]
    go_wp2_with (fail)
    go_ret2
    exact ⟨_, rfl, fun h => absurd h HQ.out, fun _ => rfl, hb1⟩
end Go.Proofs.YtpiacnnifdjlkaaDoor

/-
  The reference's SameFormula at two rows of the same nodes.
-/
namespace Go.Proofs.YtpiacnnifdjlkaaDoor
open Go.RowKit Go.Sort

set_option maxRecDepth 100000 in
set_option maxHeartbeats 1000000 in
theorem sameFormula_eq {w : World} {u v : Value} {F : List Nd} (hu : NodeSl w u F) (hv : NodeSl w v F) :
    Calls Tryd.prog 41 #[u, v] w fun e w' => e = .returned (.bool true) ∧ ∃ n, w' = w.drewN n := by
  obtain ⟨a, cap, rfl, hm, hc, -⟩ := hu
  obtain ⟨a', cap', rfl, -, hd, -⟩ := hv
  unfold maxLen at hm
  have hne : ((F.length : Int) != F.length) = false := by simp
  go_enter Tryd.func41, Tryd.ntmps41
  go_wp2_with (fail)
  go_loopw [5] (fun i wr => ∃ m : Nat, m ≤ F.length ∧ i = .int .i64 m ∧ ∃ n, wr = w.drewN n) (fun i _ => F.length - (intOf i).toNat)
  case atStart => exact ⟨0, Nat.zero_le _, rfl, 0, rfl⟩
  case round =>
    obtain ⟨m, hml, rfl, n, rfl⟩ := hrel
    by_cases hlt : m < F.length
    · rcases hc with hc | ⟨b, off, rfl, hc⟩
      · subst hc; simp at hlt
      rcases hd with hd | ⟨b', off', rfl, hd⟩
      · subst hd; simp at hlt
      obtain ⟨c0, c1, c2, c3⟩ := hc m hlt
      obtain ⟨d0, d1, d2, d3⟩ := hd m hlt
      generalize hx : F.getD m nd0 = x at *
      clear hc hd hx
      obtain ⟨k, xa, xb, xn⟩ := x
      dsimp only at *
      go_wp2_with (fail)
      refine wp_region_quiet_lit (by kernel_rfl) (by kernel_rfl) ?_
      repeat (go_big_quiet_step (fail))
      refine wpQuiet_nil ?_
      intro _ hw'; obtain ⟨nq, hw''⟩ := hw'; subst hw''
      go_wp2_with (fail)
      go_roundw
      case rel => exact ⟨m + 1, by omega, by go_num, n + nq, rfl⟩
      case measure => simp [intOf]; omega
    · go_wp2_with (fail)
      go_ret
      exact ⟨rfl, n, rfl⟩
end Go.Proofs.YtpiacnnifdjlkaaDoor

/-
  The text of a formula's part.
-/
namespace Go.Proofs.YtpiacnnifdjlkaaDoor

def signB (k : Int) : UInt8 := if k = 4 then 38 else if k = 5 then 124 else if k = 7 then 85 else 82

/-- One step: g is what the parts come to. -/
def shS (x : Nd) (g : Nat → List UInt8) : List UInt8 :=
  if x.k = 1 then [116, 114, 117, 101]
  else if x.k = 2 then [112, UInt8.ofNat (48 + x.n.toNat)]
  else if x.k = 3 then 33 :: g x.a.toNat
  else if x.k = 6 then 88 :: g x.a.toNat
  else 40 :: (g x.a.toNat ++ (32 :: signB x.k :: 32 :: (g x.b.toNat ++ [41])))

def shN (F : List Nd) : Nat → Nat → List UInt8
  | 0, _ => []
  | f + 1, i => shS (F.getD i nd0) (shN F f)

theorem shS_congr {x : Nd} {g g' : Nat → List UInt8} (ha : 3 ≤ x.k → g x.a.toNat = g' x.a.toNat) (hb : x.k = 4 ∨ x.k = 5 ∨ x.k = 7 ∨ x.k = 8 → g x.b.toNat = g' x.b.toNat) (hk : 1 ≤ x.k ∧ x.k ≤ 8) : shS x g = shS x g' := by
  unfold shS
  by_cases h1 : x.k = 1
  · rw [if_pos h1, if_pos h1]
  by_cases h2 : x.k = 2
  · rw [if_neg h1, if_pos h2, if_neg h1, if_pos h2]
  rw [if_neg h1, if_neg h1, if_neg h2, if_neg h2, ha (by omega)]
  by_cases h3 : x.k = 3
  · rw [if_pos h3, if_pos h3]
  rw [if_neg h3, if_neg h3]
  by_cases h6 : x.k = 6
  · rw [if_pos h6, if_pos h6]
  rw [if_neg h6, if_neg h6, hb (by omega)]

theorem shN_fuel {F : List Nd} (hF : AllOk F) : ∀ i f, i < F.length → i < f → shN F f i = shN F (i + 1) i := by
  intro i
  induction i using Nat.strongRecOn with
  | ind i ih =>
    intro f hi hf
    obtain ⟨g, rfl⟩ : ∃ g, f = g + 1 := ⟨f - 1, by omega⟩
    obtain ⟨hk, ⟨a0, a1, _⟩, ⟨b0, b1, _⟩, _⟩ := node_ok (hF i hi)
    show shS (F.getD i nd0) (shN F g) = shS (F.getD i nd0) (shN F i)
    refine shS_congr (fun h3 => ?_) (fun h3 => ?_) hk
    · have := a1 h3
      rw [ih _ (by omega) g (by omega) (by omega), ih _ (by omega) i (by omega) (by omega)]
    · have := b1 h3
      rw [ih _ (by omega) g (by omega) (by omega), ih _ (by omega) i (by omega) (by omega)]

/-- The text of node i. -/
def sh (F : List Nd) (i : Nat) : List UInt8 := shN F (i + 1) i

theorem sh_eq {F : List Nd} (hF : AllOk F) (i : Nat) (hi : i < F.length) : sh F i = shS (F.getD i nd0) (sh F) := by
  obtain ⟨hk, ⟨a0, a1, _⟩, ⟨b0, b1, _⟩, _⟩ := node_ok (hF i hi)
  show shS (F.getD i nd0) (shN F i) = _
  refine shS_congr (fun h3 => ?_) (fun h3 => ?_) hk
  · have := a1 h3
    rw [shN_fuel hF _ i (by omega) (by omega)]
    rfl
  · have := b1 h3
    rw [shN_fuel hF _ i (by omega) (by omega)]
    rfl

theorem sh_len {F : List Nd} (hF : AllOk F) : ∀ i, i < F.length → (sh F i).length + 5 ≤ 5 * 2 ^ (i + 1) := by
  intro i
  induction i using Nat.strongRecOn with
  | ind i ih =>
    intro hi
    obtain ⟨hk, ⟨a0, a1, _⟩, ⟨b0, b1, _⟩, _⟩ := node_ok (hF i hi)
    rw [sh_eq hF i hi]
    have h2i : ∀ j, j < i → 2 ^ (j + 1) ≤ 2 ^ i := fun j hj => Nat.pow_le_pow_right (by decide) (by omega)
    have h2 : 2 ^ (i + 1) = 2 * 2 ^ i := by rw [Nat.pow_succ]; omega
    have hp := Nat.one_le_two_pow (n := i)
    generalize F.getD i nd0 = x at *
    unfold shS
    by_cases h1 : x.k = 1
    · rw [if_pos h1]; simp; omega
    rw [if_neg h1]
    by_cases h2 : x.k = 2
    · rw [if_pos h2]; simp; omega
    rw [if_neg h2]
    have ha := a1 (by omega)
    have ja := h2i x.a.toNat (by omega)
    have ia := ih x.a.toNat (by omega) (by omega)
    by_cases h3 : x.k = 3
    · rw [if_pos h3]; simp only [List.length_cons]; omega
    rw [if_neg h3]
    by_cases h6 : x.k = 6
    · rw [if_pos h6]; simp only [List.length_cons]; omega
    rw [if_neg h6]
    have hb := b1 (by omega)
    have jb := h2i x.b.toNat (by omega)
    have ib := ih x.b.toNat (by omega) (by omega)
    simp only [List.length_append, List.length_cons, List.length_nil]
    omega

/-- A text of bytes, as a string's value. -/
def strVF (l : List UInt8) : Value := .string ⟨l.toArray⟩

theorem str_app (l m : List UInt8) : (⟨l.toArray⟩ : ByteArray) ++ ⟨m.toArray⟩ = ⟨(l ++ m).toArray⟩ := by
  apply ByteArray.ext
  simp
end Go.Proofs.YtpiacnnifdjlkaaDoor

namespace Go.Proofs.YtpiacnnifdjlkaaDoor
open Go.RowKit Go.Sort

/-- What is known of an element's type. -/
structure ElK (t e : TypeId) (by_ : Nat) : Prop where
  under : Tryd.prog.underlying t = some (.slice e)
  info : ∃ i z, Tryd.prog.info? e = some i ∧ i.zero = some z ∧ z.cells.size = 1 ∧ i.size = 1 ∧ i.bytes = by_
  few : by_ ≤ 64

/-- append of one element of one cell, onto a slice of the call's own. -/
theorem run_app1 (w : World) (ty t e base n by_ : Nat) (hT : ElK t e by_) (v : Value) (xs : List Value) (hown : w.ownsRow base e 1 v n xs) (B c : Nat) (u : Value) (hc : w.cell? ⟨B, 0, none⟩ = some u) (h1 : u.oneCell' = true) (hn : n ≤ 900000) (hbase : base ≤ w.heap.size) :
    ∃ v' w', (Builtin.append_ #[t, t] ty #[v, .slice (some ⟨B, 0, none⟩) 1 c]).run Tryd.prog w = .ok v' w' ∧ w'.ownsRow base e 1 v' (n + 1) (xs ++ [u]) ∧ w.grownBy w' v.ownBlock := by
  obtain ⟨i, z, hi, hz, hzs, his, hib⟩ := hT.info
  have hf := hT.few
  obtain ⟨v', w', hr, h2, h3, _, h5⟩ := run_append_own_at (P := Tryd.prog) w base t ty e i z 1 by_ hT.under hi hz his hib hzs (by decide) v n xs hown ⟨B, 0, none⟩ 1 c [u] rfl (fun j x hx => by
    cases j with
    | zero => rw [add_none]; simp at hx; rw [← hx]; exact hc
    | succ j => simp at hx) (fun x hx => by simp at hx; rw [hx]; exact h1) (by unfold maxLen; omega) (by have : (n + 1) * by_ ≤ 900001 * 64 := Nat.mul_le_mul (by omega) hf; omega) hbase
  exact ⟨v', w', hr, h2, h3⟩

end Go.Proofs.YtpiacnnifdjlkaaDoor
