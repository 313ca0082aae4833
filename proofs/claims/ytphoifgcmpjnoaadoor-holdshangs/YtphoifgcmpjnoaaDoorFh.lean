/-
  What (turner).turn answers of a node of two parts; and of whatever node.
-/
import Derived.Test.YtphoifgcmpjnoaaDoorFg
namespace Go.Proofs.YtphoifgcmpjnoaaDoor
open Go.RowKit Go.Sort

set_option maxRecDepth 100000 in
set_option maxHeartbeats 4000000 in
theorem turn_two {F : List Nd} (hF : AllOk F) (i : Nat) (hi : i < F.length) (hk : (F.getD i nd0).k = 4 ∨ (F.getD i nd0).k = 5 ∨ (F.getD i nd0).k = 7 ∨ (F.getD i nd0).k = 8) (ih : TurnOk F (F.getD i nd0).a.toNat) (ihb : TurnOk F (F.getD i nd0).b.toNat) : TurnOk F i := by
  intro w tb r base fv a c out o h hlen
  have hfl : fl F i o out.length = fl F (F.getD i nd0).a.toNat o out.length ++ (fl F (F.getD i nd0).b.toNat o (out.length + (fl F (F.getD i nd0).a.toNat o out.length).length) ++ [⟨if o = true then oppK (F.getD i nd0).k else (F.getD i nd0).k, (out.length + (fl F (F.getD i nd0).a.toNat o out.length).length - 1 : Nat), (out.length + (fl F (F.getD i nd0).a.toNat o out.length).length + (fl F (F.getD i nd0).b.toNat o (out.length + (fl F (F.getD i nd0).a.toNat o out.length).length)).length - 1 : Nat), 0⟩]) := by
    rw [fl_eq hF i hi]
    unfold flS
    rw [if_neg (by omega), if_neg (by omega), if_neg (by omega)]
  rw [hfl]
  clear hfl
  have HT := hide h
  obtain ⟨_, ⟨xa0, xa1, _⟩, ⟨xb0, xb1, xb2⟩, _⟩ := node_ok (hF i hi)
  have xa3 := xa1 (by omega)
  have hpw : 2 ^ ((F.getD i nd0).a.toNat + 2) ≤ 2 ^ (i + 1) := Nat.pow_le_pow_right (by decide) (by omega)
  have hp2 : 2 ^ (i + 2) = 2 * 2 ^ (i + 1) := by rw [Nat.pow_succ]; omega
  have hol : out.length ≤ 100000 := by omega
  obtain ⟨fa, fc, hfv, hfm, hc, -⟩ := h.nodes
  subst hfv
  rcases hc with hc | ⟨b, off, rfl, hc⟩
  · rw [hc] at hi; simp at hi
  obtain ⟨d0, d1, d2, d3⟩ := hc i hi
  have hlk0 := (run_lookup_sign (w := (w.alloc (Obj.cells #[.int .i64 (F.getD i nd0).k, .int .i64 (F.getD i nd0).a, .int .i64 (F.getD i nd0).b, .int .i64 (F.getD i nd0).n] 74)).drew) (h.sg.below (Below.drew (below_new w _))) (F.getD i nd0).k).1
  have hlk1 := (run_lookup_sign (w := ((w.alloc (Obj.cells #[.int .i64 (F.getD i nd0).k, .int .i64 (F.getD i nd0).a, .int .i64 (F.getD i nd0).b, .int .i64 (F.getD i nd0).n] 74)).alloc (Obj.cells #[.string ⟨#[]⟩, .int .i64 0, .bool false, .bool false, .int .i64 0] 119)).drew) (h.sg.below (Below.drew (Below.alloc (below_new w _) (by simp) _))) (F.getD i nd0).k).1
  have hsg : ∃ st tp, (sgOf (F.getD i nd0).k).getD sg0 = ⟨st, 2, false, tp, oppK (F.getD i nd0).k⟩ := by
    rcases hk with hk | hk | hk | hk <;> rw [hk] <;> exact ⟨_, _, rfl⟩
  obtain ⟨st, tp, hsg⟩ := hsg
  rw [hsg] at hlk0 hlk1
  unfold sgV at hlk0 hlk1
  have c0 := h.c0
  have c1 := h.c1
  have htb := World.block_lt_of_cell? w _ c0
  dsimp only at htb
  have xb3 := xb1 hk
  have hpwb : 2 ^ ((F.getD i nd0).b.toNat + 2) ≤ 2 ^ (i + 1) := Nat.pow_le_pow_right (by decide) (by omega)
  have hxn := node_n0 (hF i hi) (by omega)
  have hll := (fl_len hF (F.getD i nd0).a.toNat (by omega) o out.length).2
  have hllb := (fl_len hF (F.getD i nd0).b.toNat (by omega) o (out.length + (fl F (F.getD i nd0).a.toNat o out.length).length)).2
  have HI : Hid (∀ W, Below w.heap.size w W → _) := hide fun W hb => ih W tb r base (.slice (some ⟨b, off, none⟩) F.length fc) a c out o (h.below hb) (by omega)
  have HIb : Hid (∀ W a2 c2, TN W tb r base (.slice (some ⟨b, off, none⟩) F.length fc) F a2 c2 (out ++ fl F (F.getD i nd0).a.toNat o out.length) → _) := hide fun W a2 c2 ht => ihb W tb r base (.slice (some ⟨b, off, none⟩) F.length fc) a2 c2 (out ++ fl F (F.getD i nd0).a.toNat o out.length) o ht (by rw [List.length_append]; omega)
  have ea : ((F.getD i nd0).a.toNat : Int) = (F.getD i nd0).a := by omega
  have eb : ((F.getD i nd0).b.toNat : Int) = (F.getD i nd0).b := by omega
  rw [ea] at HI
  rw [eb] at HIb
  simp only [List.length_append] at HIb
  have hLb : out.length + (fl F (F.getD i nd0).a.toNat o out.length).length + (fl F (F.getD i nd0).b.toNat o (out.length + (fl F (F.getD i nd0).a.toNat o out.length).length)).length ≤ 200000 := by omega
  generalize fl F (F.getD i nd0).b.toNat o (out.length + (fl F (F.getD i nd0).a.toNat o out.length).length) = M at *
  generalize fl F (F.getD i nd0).a.toNat o out.length = L at *
  obtain ⟨hL0, _⟩ := hll
  obtain ⟨hM0, _⟩ := hllb
  have HB := hide (fun j hj => boxes_fresh h j hj)
  have hk3 : ((F.getD i nd0).k == 3) = false := by rw [beq_eq_false_iff_ne]; omega
  clear hc hlen hsg h ea eb ih ihb hpw hpwb hp2 xa0 xa1 xa3 xb0 xb1 xb2 xb3 hk
  generalize F.getD i nd0 = x at *
  obtain ⟨k, xa, xb, xn⟩ := x
  dsimp only at *
  subst hxn
  generalize oppK k = kk at *
  have z1 : tb < w.heap.size + 1 := by omega
  have z2 : tb < w.heap.size + 1 + 1 := by omega
  cases o
  · go_enter Tryd.func73, Tryd.ntmps73
    go_wp2_with (fail)
    go_region
    all_goals
      go_wp2_with (fail)
      refine (HI.out _ ?_).mono ?_
      · exact (by repeat (first | exact Below.refl _ _ | assumption | refine below_drewN ?_ _ | refine Below.drew ?_ | refine Below.alloc ?_ (by simp <;> omega) _ | refine below_trans ?_ (by assumption)))
      rintro e w2 ⟨rfl, a2, c2, ht2, hg2, hr2⟩
      have n0 := hg2.cell (b := w.heap.size) (o := 0) (v := .int .i64 k) (by (repeat (first | ((with_reducible refine cell_top _ _ _ _ _ _ ?_ ?_); (focus (first | rfl | (simp; done))); exact rfl) | (with_reducible refine cell_drew ?_) | (with_reducible refine cell_under _ _ ?_)))) (HB.out _ (by omega)).2.1 (HB.out _ (by omega)).1
      have n1 := hg2.cell (b := w.heap.size) (o := 1) (v := .int .i64 xa) (by (repeat (first | ((with_reducible refine cell_top _ _ _ _ _ _ ?_ ?_); (focus (first | rfl | (simp; done))); exact rfl) | (with_reducible refine cell_drew ?_) | (with_reducible refine cell_under _ _ ?_)))) (HB.out _ (by omega)).2.1 (HB.out _ (by omega)).1
      have n2 := hg2.cell (b := w.heap.size) (o := 2) (v := .int .i64 xb) (by (repeat (first | ((with_reducible refine cell_top _ _ _ _ _ _ ?_ ?_); (focus (first | rfl | (simp; done))); exact rfl) | (with_reducible refine cell_drew ?_) | (with_reducible refine cell_under _ _ ?_)))) (HB.out _ (by omega)).2.1 (HB.out _ (by omega)).1
      have n3 := hg2.cell (b := w.heap.size) (o := 3) (v := .int .i64 0) (by (repeat (first | ((with_reducible refine cell_top _ _ _ _ _ _ ?_ ?_); (focus (first | rfl | (simp; done))); exact rfl) | (with_reducible refine cell_drew ?_) | (with_reducible refine cell_under _ _ ?_)))) (HB.out _ (by omega)).2.1 (HB.out _ (by omega)).1
      have m1 := hg2.cell (b := w.heap.size + 1) (o := 1) (v := .int .i64 2) (by (repeat (first | ((with_reducible refine cell_top _ _ _ _ _ _ ?_ ?_); (focus (first | rfl | (simp; done))); exact rfl) | (with_reducible refine cell_drew ?_) | (with_reducible refine cell_under _ _ ?_)))) (HB.out _ (by omega)).2.1 (HB.out _ (by omega)).1
      have nf : ∀ o, w2.frozen? ⟨w.heap.size, o, none⟩ = false := fun o => (hg2.frozen (b := w.heap.size) (o := o) (by simp <;> omega) (HB.out _ (by omega)).2.1 (HB.out _ (by omega)).1).trans (frozen_of_row _ _ _ _ _ (by (repeat (first | ((with_reducible refine heap_top _ _ _ ?_); (focus (first | rfl | (simp; done)))) | (with_reducible refine heap_drew ?_) | (with_reducible refine heap_under _ ?_)))))
      have hne2 := row_ne_new hr2 (j := w.heap.size) (HB.out _ (by omega)).1 (by simp <;> omega)
      have hne2' := row_ne_new hr2 (j := w.heap.size + 1) (HB.out _ (by omega)).1 (by simp <;> omega)
      have hgw := GT.trans (GT.of_below (tb := tb) (row := rowOf a) (w := w) (by repeat (first | exact Below.refl _ _ | assumption | refine below_drewN ?_ _ | refine Below.drew ?_ | refine Below.alloc ?_ (by simp <;> omega) _ | refine below_trans ?_ (by assumption)))) hg2 (Or.inl rfl)
      have hrw : RowNew w (rowOf a) (rowOf a2) := RowNew.trans (Or.inl rfl) (by simp <;> omega) hr2
      have ht3 := ht2.far w.heap.size 1 (.int .i64 (out.length + L.length - 1 : Nat)) (HB.out _ (by omega)).2.2 hne2
      have hg3 := hgw.set w.heap.size 1 (.int .i64 (out.length + L.length - 1 : Nat)) (Nat.le_refl _)
      obtain ⟨w3, hw3⟩ : ∃ w3, w3 = w2.setCell ⟨w.heap.size, 1, none⟩ (.int .i64 (out.length + L.length - 1 : Nat)) := ⟨_, rfl⟩
      have p0 : w3.cell? ⟨w.heap.size, 0, none⟩ = some (.int .i64 k) := by rw [hw3]; exact cell_set_off (by decide) n0
      have p1 : w3.cell? ⟨w.heap.size, 1, none⟩ = some (.int .i64 (out.length + L.length - 1 : Nat)) := by rw [hw3]; exact cell_set_eq n1
      have p2 : w3.cell? ⟨w.heap.size, 2, none⟩ = some (.int .i64 xb) := by rw [hw3]; exact cell_set_off (by decide) n2
      have p3 : w3.cell? ⟨w.heap.size, 3, none⟩ = some (.int .i64 0) := by rw [hw3]; exact cell_set_off (by decide) n3
      have pf : ∀ o, w3.frozen? ⟨w.heap.size, o, none⟩ = false := fun o => by rw [hw3, World.frozen?_setCell]; exact nf o
      have nf1 := nf 1
      rw [← hw3] at ht3 hg3
      have hwb : w.heap.size < w3.heap.size := World.block_lt_of_cell? w3 _ p0
      have HI2 := hide (HIb.out w3 a2 c2 ht3)
      have HH3 := hide (And.intro hg3 (And.intro hrw hne2))
      clear ht2 hg2 hr2 hgw hrw ht3 hg3 HI HIb hlk0 hlk1 hne2 hne2' n0 n3 nf
      go_wp2_with (fail)
      rw [← hw3]
      clear hw3 n1 n2 m1 nf1
      refine HI2.out.mono ?_
      rintro e w4 ⟨rfl, a4, c4, ht4, hg4, hr4⟩
      have o0 := hg4.cell p0 (HB.out _ (by omega)).2.1 HH3.out.2.2
      have o1 := hg4.cell p1 (HB.out _ (by omega)).2.1 HH3.out.2.2
      have o2 := hg4.cell p2 (HB.out _ (by omega)).2.1 HH3.out.2.2
      have o3 := hg4.cell p3 (HB.out _ (by omega)).2.1 HH3.out.2.2
      have of2 : w4.frozen? ⟨w.heap.size, 2, none⟩ = false := (hg4.frozen hwb (HB.out _ (by omega)).2.1 HH3.out.2.2).trans (pf 2)
      have hne4 := row_ne_new hr4 (j := w.heap.size) HH3.out.2.2 hwb
      have hgw := GT.trans HH3.out.1 hg4 HH3.out.2.1
      have hrw := RowNew.trans HH3.out.2.1 HH3.out.1.size hr4
      have ht5 := ht4.far w.heap.size 2 (.int .i64 (out.length + L.length + M.length - 1 : Nat)) (HB.out _ (by omega)).2.2 hne4
      have hg5 := hgw.set w.heap.size 2 (.int .i64 (out.length + L.length + M.length - 1 : Nat)) (Nat.le_refl _)
      obtain ⟨w5, hw5⟩ : ∃ w5, w5 = w4.setCell ⟨w.heap.size, 2, none⟩ (.int .i64 (out.length + L.length + M.length - 1 : Nat)) := ⟨_, rfl⟩
      have s5 : w5.cell? ⟨w.heap.size, 0, none⟩ = some (.int .i64 k) ∧ w5.cell? ⟨w.heap.size, 1, none⟩ = some (.int .i64 (out.length + L.length - 1 : Nat)) ∧ w5.cell? ⟨w.heap.size, 2, none⟩ = some (.int .i64 (out.length + L.length + M.length - 1 : Nat)) ∧ w5.cell? ⟨w.heap.size, 3, none⟩ = some (.int .i64 0) := by
        rw [hw5]
        exact ⟨cell_set_off (by decide) o0, cell_set_off (by decide) o1, cell_set_eq o2, cell_set_off (by decide) o3⟩
      rw [← hw5] at ht5 hg5
      have HGr := hide (fun W hb => growT (ht5.below (w' := W) hb) ⟨k, (out.length + L.length - 1 : Nat), (out.length + L.length + M.length - 1 : Nat), 0⟩ (by simp; omega))
      have HH5 := hide (And.intro hg5 (And.intro hrw hne4))
      clear ht4 hg4 hr4 hgw hrw ht5 hg5 HI2 hne4 o0 o1 o3 p0 p1 p2 p3 pf HH3
      go_wp2_with (fail)
      rw [← hw5]
      clear hw5 o2 of2
      go_region_held3 (fun w' => w'.cell? ⟨w.heap.size, 0, none⟩ = some (.int .i64 k) ∧ w'.cell? ⟨w.heap.size, 1, none⟩ = some (.int .i64 (out.length + L.length - 1 : Nat)) ∧ w'.cell? ⟨w.heap.size, 2, none⟩ = some (.int .i64 (out.length + L.length + M.length - 1 : Nat)) ∧ w'.cell? ⟨w.heap.size, 3, none⟩ = some (.int .i64 0)) (first | (with_reducible exact s6) | (exact ⟨cell_drew s5.1, cell_drew s5.2.1, cell_drew s5.2.2.1, cell_drew s5.2.2.2⟩) | (exact s5)) (first | (go_at_call 107; refine (HGr.out _ ?_).mono ?_; (focus (exact Below.drew (Below.refl _ _))); rintro e w6 ⟨rfl, a6, c6, ht6, hg6, hr6⟩; rw [row_eq] at hg6 hr6; rw [row_eq] at hr6; have s6 : w6.cell? ⟨w.heap.size, 0, none⟩ = some (.int .i64 k) ∧ w6.cell? ⟨w.heap.size, 1, none⟩ = some (.int .i64 (out.length + L.length - 1 : Nat)) ∧ w6.cell? ⟨w.heap.size, 2, none⟩ = some (.int .i64 (out.length + L.length + M.length - 1 : Nat)) ∧ w6.cell? ⟨w.heap.size, 3, none⟩ = some (.int .i64 0) := ⟨hg6.cell (cell_drew s5.1) (HB.out _ (by omega)).2.1 HH5.out.2.2, hg6.cell (cell_drew s5.2.1) (HB.out _ (by omega)).2.1 HH5.out.2.2, hg6.cell (cell_drew s5.2.2.1) (HB.out _ (by omega)).2.1 HH5.out.2.2, hg6.cell (cell_drew s5.2.2.2) (HB.out _ (by omega)).2.1 HH5.out.2.2⟩; have hg7 := GT.trans (GT.of_below (tb := tb) (row := rowOf a4) (w := w5) (Below.drew (Below.refl _ _))) hg6 (Or.inl rfl); have hgw := GT.trans HH5.out.1 hg7 HH5.out.2.1; have hrw := RowNew.trans HH5.out.2.1 HH5.out.1.size hr6))
      rw [List.append_assoc, List.append_assoc] at ht6
      have HF := hide (And.intro ht6 (And.intro hgw hrw))
      clear ht6 hgw hrw hg6 hg7 hr6 s6 s5 HGr
      go_wp2_with (fail)
      go_ret
      exact ⟨ret_eq (by first | rfl | omega | (simp; done) | (simp; omega)), a6, ⟨c6, HF.out.1⟩, HF.out.2⟩
  · go_enter Tryd.func73, Tryd.ntmps73
    go_wp2_with (fail)
    go_region
    all_goals
      go_wp2_with (fail)
      refine (HI.out _ ?_).mono ?_
      · exact (by repeat (first | exact Below.refl _ _ | assumption | refine below_drewN ?_ _ | refine Below.drew ?_ | refine Below.alloc ?_ (by simp <;> omega) _ | refine below_trans ?_ (by assumption)))
      rintro e w2 ⟨rfl, a2, c2, ht2, hg2, hr2⟩
      have n0 := hg2.cell (b := w.heap.size) (o := 0) (v := .int .i64 kk) (by (repeat (first | ((with_reducible refine cell_top _ _ _ _ _ _ ?_ ?_); (focus (first | rfl | (simp; done))); exact rfl) | (with_reducible refine cell_drew ?_) | (with_reducible refine cell_under _ _ ?_)))) (HB.out _ (by omega)).2.1 (HB.out _ (by omega)).1
      have n1 := hg2.cell (b := w.heap.size) (o := 1) (v := .int .i64 xa) (by (repeat (first | ((with_reducible refine cell_top _ _ _ _ _ _ ?_ ?_); (focus (first | rfl | (simp; done))); exact rfl) | (with_reducible refine cell_drew ?_) | (with_reducible refine cell_under _ _ ?_)))) (HB.out _ (by omega)).2.1 (HB.out _ (by omega)).1
      have n2 := hg2.cell (b := w.heap.size) (o := 2) (v := .int .i64 xb) (by (repeat (first | ((with_reducible refine cell_top _ _ _ _ _ _ ?_ ?_); (focus (first | rfl | (simp; done))); exact rfl) | (with_reducible refine cell_drew ?_) | (with_reducible refine cell_under _ _ ?_)))) (HB.out _ (by omega)).2.1 (HB.out _ (by omega)).1
      have n3 := hg2.cell (b := w.heap.size) (o := 3) (v := .int .i64 0) (by (repeat (first | ((with_reducible refine cell_top _ _ _ _ _ _ ?_ ?_); (focus (first | rfl | (simp; done))); exact rfl) | (with_reducible refine cell_drew ?_) | (with_reducible refine cell_under _ _ ?_)))) (HB.out _ (by omega)).2.1 (HB.out _ (by omega)).1
      have m1 := hg2.cell (b := w.heap.size + 1) (o := 1) (v := .int .i64 2) (by (repeat (first | ((with_reducible refine cell_top _ _ _ _ _ _ ?_ ?_); (focus (first | rfl | (simp; done))); exact rfl) | (with_reducible refine cell_drew ?_) | (with_reducible refine cell_under _ _ ?_)))) (HB.out _ (by omega)).2.1 (HB.out _ (by omega)).1
      have nf : ∀ o, w2.frozen? ⟨w.heap.size, o, none⟩ = false := fun o => (hg2.frozen (b := w.heap.size) (o := o) (by simp <;> omega) (HB.out _ (by omega)).2.1 (HB.out _ (by omega)).1).trans (frozen_of_row _ _ _ _ _ (by (repeat (first | ((with_reducible refine heap_top _ _ _ ?_); (focus (first | rfl | (simp; done)))) | (with_reducible refine heap_drew ?_) | (with_reducible refine heap_under _ ?_)))))
      have hne2 := row_ne_new hr2 (j := w.heap.size) (HB.out _ (by omega)).1 (by simp <;> omega)
      have hne2' := row_ne_new hr2 (j := w.heap.size + 1) (HB.out _ (by omega)).1 (by simp <;> omega)
      have hgw := GT.trans (GT.of_below (tb := tb) (row := rowOf a) (w := w) (by repeat (first | exact Below.refl _ _ | assumption | refine below_drewN ?_ _ | refine Below.drew ?_ | refine Below.alloc ?_ (by simp <;> omega) _ | refine below_trans ?_ (by assumption)))) hg2 (Or.inl rfl)
      have hrw : RowNew w (rowOf a) (rowOf a2) := RowNew.trans (Or.inl rfl) (by simp <;> omega) hr2
      have ht3 := ht2.far w.heap.size 1 (.int .i64 (out.length + L.length - 1 : Nat)) (HB.out _ (by omega)).2.2 hne2
      have hg3 := hgw.set w.heap.size 1 (.int .i64 (out.length + L.length - 1 : Nat)) (Nat.le_refl _)
      obtain ⟨w3, hw3⟩ : ∃ w3, w3 = w2.setCell ⟨w.heap.size, 1, none⟩ (.int .i64 (out.length + L.length - 1 : Nat)) := ⟨_, rfl⟩
      have p0 : w3.cell? ⟨w.heap.size, 0, none⟩ = some (.int .i64 kk) := by rw [hw3]; exact cell_set_off (by decide) n0
      have p1 : w3.cell? ⟨w.heap.size, 1, none⟩ = some (.int .i64 (out.length + L.length - 1 : Nat)) := by rw [hw3]; exact cell_set_eq n1
      have p2 : w3.cell? ⟨w.heap.size, 2, none⟩ = some (.int .i64 xb) := by rw [hw3]; exact cell_set_off (by decide) n2
      have p3 : w3.cell? ⟨w.heap.size, 3, none⟩ = some (.int .i64 0) := by rw [hw3]; exact cell_set_off (by decide) n3
      have pf : ∀ o, w3.frozen? ⟨w.heap.size, o, none⟩ = false := fun o => by rw [hw3, World.frozen?_setCell]; exact nf o
      have nf1 := nf 1
      rw [← hw3] at ht3 hg3
      have hwb : w.heap.size < w3.heap.size := World.block_lt_of_cell? w3 _ p0
      have HI2 := hide (HIb.out w3 a2 c2 ht3)
      have HH3 := hide (And.intro hg3 (And.intro hrw hne2))
      clear ht2 hg2 hr2 hgw hrw ht3 hg3 HI HIb hlk0 hlk1 hne2 hne2' n0 n3 nf
      go_wp2_with (fail)
      rw [← hw3]
      clear hw3 n1 n2 m1 nf1
      refine HI2.out.mono ?_
      rintro e w4 ⟨rfl, a4, c4, ht4, hg4, hr4⟩
      have o0 := hg4.cell p0 (HB.out _ (by omega)).2.1 HH3.out.2.2
      have o1 := hg4.cell p1 (HB.out _ (by omega)).2.1 HH3.out.2.2
      have o2 := hg4.cell p2 (HB.out _ (by omega)).2.1 HH3.out.2.2
      have o3 := hg4.cell p3 (HB.out _ (by omega)).2.1 HH3.out.2.2
      have of2 : w4.frozen? ⟨w.heap.size, 2, none⟩ = false := (hg4.frozen hwb (HB.out _ (by omega)).2.1 HH3.out.2.2).trans (pf 2)
      have hne4 := row_ne_new hr4 (j := w.heap.size) HH3.out.2.2 hwb
      have hgw := GT.trans HH3.out.1 hg4 HH3.out.2.1
      have hrw := RowNew.trans HH3.out.2.1 HH3.out.1.size hr4
      have ht5 := ht4.far w.heap.size 2 (.int .i64 (out.length + L.length + M.length - 1 : Nat)) (HB.out _ (by omega)).2.2 hne4
      have hg5 := hgw.set w.heap.size 2 (.int .i64 (out.length + L.length + M.length - 1 : Nat)) (Nat.le_refl _)
      obtain ⟨w5, hw5⟩ : ∃ w5, w5 = w4.setCell ⟨w.heap.size, 2, none⟩ (.int .i64 (out.length + L.length + M.length - 1 : Nat)) := ⟨_, rfl⟩
      have s5 : w5.cell? ⟨w.heap.size, 0, none⟩ = some (.int .i64 kk) ∧ w5.cell? ⟨w.heap.size, 1, none⟩ = some (.int .i64 (out.length + L.length - 1 : Nat)) ∧ w5.cell? ⟨w.heap.size, 2, none⟩ = some (.int .i64 (out.length + L.length + M.length - 1 : Nat)) ∧ w5.cell? ⟨w.heap.size, 3, none⟩ = some (.int .i64 0) := by
        rw [hw5]
        exact ⟨cell_set_off (by decide) o0, cell_set_off (by decide) o1, cell_set_eq o2, cell_set_off (by decide) o3⟩
      rw [← hw5] at ht5 hg5
      have HGr := hide (fun W hb => growT (ht5.below (w' := W) hb) ⟨kk, (out.length + L.length - 1 : Nat), (out.length + L.length + M.length - 1 : Nat), 0⟩ (by simp; omega))
      have HH5 := hide (And.intro hg5 (And.intro hrw hne4))
      clear ht4 hg4 hr4 hgw hrw ht5 hg5 HI2 hne4 o0 o1 o3 p0 p1 p2 p3 pf HH3
      go_wp2_with (fail)
      rw [← hw5]
      clear hw5 o2 of2
      go_region_held3 (fun w' => w'.cell? ⟨w.heap.size, 0, none⟩ = some (.int .i64 kk) ∧ w'.cell? ⟨w.heap.size, 1, none⟩ = some (.int .i64 (out.length + L.length - 1 : Nat)) ∧ w'.cell? ⟨w.heap.size, 2, none⟩ = some (.int .i64 (out.length + L.length + M.length - 1 : Nat)) ∧ w'.cell? ⟨w.heap.size, 3, none⟩ = some (.int .i64 0)) (first | (with_reducible exact s6) | (exact ⟨cell_drew s5.1, cell_drew s5.2.1, cell_drew s5.2.2.1, cell_drew s5.2.2.2⟩) | (exact s5)) (first | (go_at_call 107; refine (HGr.out _ ?_).mono ?_; (focus (exact Below.drew (Below.refl _ _))); rintro e w6 ⟨rfl, a6, c6, ht6, hg6, hr6⟩; rw [row_eq] at hg6 hr6; rw [row_eq] at hr6; have s6 : w6.cell? ⟨w.heap.size, 0, none⟩ = some (.int .i64 kk) ∧ w6.cell? ⟨w.heap.size, 1, none⟩ = some (.int .i64 (out.length + L.length - 1 : Nat)) ∧ w6.cell? ⟨w.heap.size, 2, none⟩ = some (.int .i64 (out.length + L.length + M.length - 1 : Nat)) ∧ w6.cell? ⟨w.heap.size, 3, none⟩ = some (.int .i64 0) := ⟨hg6.cell (cell_drew s5.1) (HB.out _ (by omega)).2.1 HH5.out.2.2, hg6.cell (cell_drew s5.2.1) (HB.out _ (by omega)).2.1 HH5.out.2.2, hg6.cell (cell_drew s5.2.2.1) (HB.out _ (by omega)).2.1 HH5.out.2.2, hg6.cell (cell_drew s5.2.2.2) (HB.out _ (by omega)).2.1 HH5.out.2.2⟩; have hg7 := GT.trans (GT.of_below (tb := tb) (row := rowOf a4) (w := w5) (Below.drew (Below.refl _ _))) hg6 (Or.inl rfl); have hgw := GT.trans HH5.out.1 hg7 HH5.out.2.1; have hrw := RowNew.trans HH5.out.2.1 HH5.out.1.size hr6))
      rw [List.append_assoc, List.append_assoc] at ht6
      have HF := hide (And.intro ht6 (And.intro hgw hrw))
      clear ht6 hgw hrw hg6 hg7 hr6 s6 s5 HGr
      go_wp2_with (fail)
      go_ret
      exact ⟨ret_eq (by first | rfl | omega | (simp; done) | (simp; omega)), a6, ⟨c6, HF.out.1⟩, HF.out.2⟩

theorem turn_any {F : List Nd} (hF : AllOk F) : ∀ i, i < F.length → TurnOk F i := by
  intro i
  induction i using Nat.strongRecOn with
  | ind i ih =>
    intro hi
    obtain ⟨hk, ⟨xa0, xa1, _⟩, ⟨xb0, xb1, _⟩, _⟩ := node_ok (hF i hi)
    by_cases h1 : (F.getD i nd0).k = 1 ∨ (F.getD i nd0).k = 2
    · exact turn_leaf hF i hi h1
    have ha := xa1 (by omega)
    have iha := ih (F.getD i nd0).a.toNat (by omega) (by omega)
    by_cases h3 : (F.getD i nd0).k = 3
    · exact turn_not hF i hi h3 iha
    by_cases h6 : (F.getD i nd0).k = 6
    · exact turn_next hF i hi h6 iha
    have hb := xb1 (by omega)
    exact turn_two hF i hi (by omega) iha (ih (F.getD i nd0).b.toNat (by omega) (by omega))
end Go.Proofs.YtphoifgcmpjnoaaDoor
