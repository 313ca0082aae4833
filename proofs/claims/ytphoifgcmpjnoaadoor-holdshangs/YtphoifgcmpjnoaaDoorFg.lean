/-
  What (turner).turn answers of a Next.
-/
import Derived.Test.YtphoifgcmpjnoaaDoorFf
namespace Go.Proofs.YtphoifgcmpjnoaaDoor
open Go.RowKit Go.Sort

theorem node_n0 {x : Nd} {m : Nat} (h : nodeErr x m = 0) (hk : x.k ≠ 2) : x.n = 0 := by
  unfold nodeErr at h
  by_cases h1 : 1 ≤ x.k ∧ x.k ≤ 8
  · rw [if_pos h1] at h
    unfold chkN at h
    split at h
    · omega
    · split at h
      · omega
      · split at h
        · omega
        · omega
  · rw [if_neg h1] at h; omega

theorem row_ne_new {w : World} {row row' : Option Nat} {j : Nat} (h : RowNew w row row') (h1 : some j ≠ row) (h2 : j < w.heap.size) : some j ≠ row' := by
  rcases h with h | h
  · rw [h]; exact h1
  · intro e
    have := h j e.symm
    omega

theorem boxes_fresh {w : World} {tb r base : Nat} {fv : Value} {F : List Nd} {a : Option Addr} {c : Nat} {out : List Nd} (h : TN w tb r base fv F a c out) (j : Nat) (hj : w.heap.size ≤ j) : some j ≠ rowOf a ∧ j ≠ tb ∧ base ≤ j := by
  refine ⟨fun e => ?_, ?_, Nat.le_trans h.hb hj⟩
  · rw [← row_eq a out.length c] at e
    have := (h.own.lt _ e.symm).2
    omega
  · have := h.lt1
    have := h.hb
    omega

set_option maxRecDepth 100000 in
set_option maxHeartbeats 4000000 in
theorem turn_next {F : List Nd} (hF : AllOk F) (i : Nat) (hi : i < F.length) (hk : (F.getD i nd0).k = 6) (ih : TurnOk F (F.getD i nd0).a.toNat) : TurnOk F i := by
  intro w tb r base fv a c out o h hlen
  have hfl : fl F i o out.length = fl F (F.getD i nd0).a.toNat o out.length ++ [⟨6, (out.length + (fl F (F.getD i nd0).a.toNat o out.length).length - 1 : Nat), 0, 0⟩] := by
    rw [fl_eq hF i hi]
    unfold flS
    rw [if_neg (by omega), if_neg (by omega), if_pos hk]
  rw [hfl]
  clear hfl
  have HT := hide h
  obtain ⟨_, ⟨xa0, xa1, _⟩, ⟨xb0, xb1, xb2⟩, _⟩ := node_ok (hF i hi)
  have xa3 := xa1 (by omega)
  have hpw : 2 ^ ((F.getD i nd0).a.toNat + 2) ≤ 2 ^ (i + 1) := Nat.pow_le_pow_right (by decide) (by omega)
  have hp2 : 2 ^ (i + 2) = 2 * 2 ^ (i + 1) := by rw [Nat.pow_succ]; omega
  have hol : out.length ≤ 100000 := by omega
  obtain ⟨fa, fc, hfv, hfm, hc, -⟩ := h.nodes
  subst hfv
  rcases hc with hc | ⟨b, off, rfl, hc⟩
  · rw [hc] at hi; simp at hi
  obtain ⟨d0, d1, d2, d3⟩ := hc i hi
  have hlk0 := (run_lookup_sign (w := (w.alloc (Obj.cells #[.int .i64 (F.getD i nd0).k, .int .i64 (F.getD i nd0).a, .int .i64 (F.getD i nd0).b, .int .i64 (F.getD i nd0).n] 74)).drew) (h.sg.below (Below.drew (below_new w _))) (F.getD i nd0).k).1
  have hlk1 := (run_lookup_sign (w := ((w.alloc (Obj.cells #[.int .i64 (F.getD i nd0).k, .int .i64 (F.getD i nd0).a, .int .i64 (F.getD i nd0).b, .int .i64 (F.getD i nd0).n] 74)).alloc (Obj.cells #[.string ⟨#[]⟩, .int .i64 0, .bool false, .bool false, .int .i64 0] 119)).drew) (h.sg.below (Below.drew (Below.alloc (below_new w _) (by simp) _))) (F.getD i nd0).k).1
  have hsg : (sgOf (F.getD i nd0).k).getD sg0 = ⟨[88], 1, false, true, 6⟩ := by
    rw [hk]; rfl
  rw [hsg] at hlk0 hlk1
  unfold sgV at hlk0 hlk1
  have c0 := h.c0
  have c1 := h.c1
  have htb := World.block_lt_of_cell? w _ c0
  dsimp only at htb
  have hxb := xb2 (by omega)
  have hxn := node_n0 (hF i hi) (by omega)
  have hll := (fl_len hF (F.getD i nd0).a.toNat (by omega) o out.length).2
  have HI : Hid (∀ W, Below w.heap.size w W → _) := hide fun W hb => ih W tb r base (.slice (some ⟨b, off, none⟩) F.length fc) a c out o (h.below hb) (by omega)
  have ea : ((F.getD i nd0).a.toNat : Int) = (F.getD i nd0).a := by omega
  rw [ea] at HI
  have hLb : out.length + (fl F (F.getD i nd0).a.toNat o out.length).length ≤ 200000 := by omega
  generalize fl F (F.getD i nd0).a.toNat o out.length = L at *
  obtain ⟨hL0, _⟩ := hll
  have HB := hide (fun j hj => boxes_fresh h j hj)
  clear hc hlen hsg h ea ih hpw hp2 xa0 xa1 xa3 xb0 xb1 xb2
  generalize F.getD i nd0 = x at *
  obtain ⟨k, xa, xb, xn⟩ := x
  dsimp only at *
  subst hk
  subst hxb
  subst hxn
  have z1 : tb < w.heap.size + 1 := by omega
  have z2 : tb < w.heap.size + 1 + 1 := by omega
  cases o
  · go_enter Tryd.func73, Tryd.ntmps73
    go_wp2_with (fail)
    go_region
    all_goals
      go_wp2_with (fail)
      refine (HI.out _ ?_).mono ?_
      · exact (by repeat (first | exact Below.refl _ _ | assumption | refine below_drewN ?_ _ | refine Below.drew ?_ | refine Below.alloc ?_ (by simp <;> omega) _ | refine below_trans ?_ (by assumption)))
      rintro e w2 ⟨rfl, a2, c2, ht2, hg2, hr2⟩
      have n0 := hg2.cell (b := w.heap.size) (o := 0) (v := .int .i64 6) (by (repeat (first | ((with_reducible refine cell_top _ _ _ _ _ _ ?_ ?_); (focus (first | rfl | (simp; done))); exact rfl) | (with_reducible refine cell_drew ?_) | (with_reducible refine cell_under _ _ ?_)))) (HB.out _ (by omega)).2.1 (HB.out _ (by omega)).1
      have n1 := hg2.cell (b := w.heap.size) (o := 1) (v := .int .i64 xa) (by (repeat (first | ((with_reducible refine cell_top _ _ _ _ _ _ ?_ ?_); (focus (first | rfl | (simp; done))); exact rfl) | (with_reducible refine cell_drew ?_) | (with_reducible refine cell_under _ _ ?_)))) (HB.out _ (by omega)).2.1 (HB.out _ (by omega)).1
      have n2 := hg2.cell (b := w.heap.size) (o := 2) (v := .int .i64 0) (by (repeat (first | ((with_reducible refine cell_top _ _ _ _ _ _ ?_ ?_); (focus (first | rfl | (simp; done))); exact rfl) | (with_reducible refine cell_drew ?_) | (with_reducible refine cell_under _ _ ?_)))) (HB.out _ (by omega)).2.1 (HB.out _ (by omega)).1
      have n3 := hg2.cell (b := w.heap.size) (o := 3) (v := .int .i64 0) (by (repeat (first | ((with_reducible refine cell_top _ _ _ _ _ _ ?_ ?_); (focus (first | rfl | (simp; done))); exact rfl) | (with_reducible refine cell_drew ?_) | (with_reducible refine cell_under _ _ ?_)))) (HB.out _ (by omega)).2.1 (HB.out _ (by omega)).1
      have m1 := hg2.cell (b := w.heap.size + 1) (o := 1) (v := .int .i64 1) (by (repeat (first | ((with_reducible refine cell_top _ _ _ _ _ _ ?_ ?_); (focus (first | rfl | (simp; done))); exact rfl) | (with_reducible refine cell_drew ?_) | (with_reducible refine cell_under _ _ ?_)))) (HB.out _ (by omega)).2.1 (HB.out _ (by omega)).1
      have nf : w2.frozen? ⟨w.heap.size, 1, none⟩ = false := (hg2.frozen (b := w.heap.size) (o := 1) (by simp <;> omega) (HB.out _ (by omega)).2.1 (HB.out _ (by omega)).1).trans (frozen_of_row _ _ _ _ _ (by (repeat (first | ((with_reducible refine heap_top _ _ _ ?_); (focus (first | rfl | (simp; done)))) | (with_reducible refine heap_drew ?_) | (with_reducible refine heap_under _ ?_)))))
      have hne2 := row_ne_new hr2 (j := w.heap.size) (HB.out _ (by omega)).1 (by simp <;> omega)
      have hgw := GT.trans (GT.of_below (tb := tb) (row := rowOf a) (w := w) (by repeat (first | exact Below.refl _ _ | assumption | refine below_drewN ?_ _ | refine Below.drew ?_ | refine Below.alloc ?_ (by simp <;> omega) _ | refine below_trans ?_ (by assumption)))) hg2 (Or.inl rfl)
      have hrw : RowNew w (rowOf a) (rowOf a2) := RowNew.trans (Or.inl rfl) (by simp <;> omega) hr2
      have ht3 := ht2.far w.heap.size 1 (.int .i64 (out.length + L.length - 1 : Nat)) (HB.out _ (by omega)).2.2 hne2
      have hg3 := hgw.set w.heap.size 1 (.int .i64 (out.length + L.length - 1 : Nat)) (Nat.le_refl _)
      obtain ⟨w3, hw3⟩ : ∃ w3, w3 = w2.setCell ⟨w.heap.size, 1, none⟩ (.int .i64 (out.length + L.length - 1 : Nat)) := ⟨_, rfl⟩
      have s3 : w3.cell? ⟨w.heap.size, 0, none⟩ = some (.int .i64 6) ∧ w3.cell? ⟨w.heap.size, 1, none⟩ = some (.int .i64 (out.length + L.length - 1 : Nat)) ∧ w3.cell? ⟨w.heap.size, 2, none⟩ = some (.int .i64 0) ∧ w3.cell? ⟨w.heap.size, 3, none⟩ = some (.int .i64 0) := by
        rw [hw3]
        exact ⟨cell_set_off (by decide) n0, cell_set_eq n1, cell_set_off (by decide) n2, cell_set_off (by decide) n3⟩
      rw [← hw3] at ht3 hg3
      have hwb : w.heap.size < w3.heap.size := World.block_lt_of_cell? w3 _ s3.1
      have HGr := hide (fun W hb => growT (ht3.below (w' := W) hb) ⟨6, (out.length + L.length - 1 : Nat), 0, 0⟩ (by simp; omega))
      have HH3 := hide (And.intro hg3 (And.intro hrw hne2))
      clear ht2 hg2 hr2 hgw hrw ht3 hg3 HI hlk0 hlk1 hne2 n0 n2 n3
      go_wp2_with (fail)
      rw [← hw3]
      clear hw3 n1 m1 nf
      go_region_held3 (fun w' => w'.cell? ⟨w.heap.size, 0, none⟩ = some (.int .i64 6) ∧ w'.cell? ⟨w.heap.size, 1, none⟩ = some (.int .i64 (out.length + L.length - 1 : Nat)) ∧ w'.cell? ⟨w.heap.size, 2, none⟩ = some (.int .i64 0) ∧ w'.cell? ⟨w.heap.size, 3, none⟩ = some (.int .i64 0)) (first | (with_reducible exact s4) | (exact ⟨cell_drew s3.1, cell_drew s3.2.1, cell_drew s3.2.2.1, cell_drew s3.2.2.2⟩) | (exact s3)) (first | (go_at_call 107; refine (HGr.out _ ?_).mono ?_; (focus (exact Below.drew (Below.refl _ _))); rintro e w4 ⟨rfl, a4, c4, ht4, hg4, hr4⟩; rw [row_eq] at hg4 hr4; rw [row_eq] at hr4; have s4 : w4.cell? ⟨w.heap.size, 0, none⟩ = some (.int .i64 6) ∧ w4.cell? ⟨w.heap.size, 1, none⟩ = some (.int .i64 (out.length + L.length - 1 : Nat)) ∧ w4.cell? ⟨w.heap.size, 2, none⟩ = some (.int .i64 0) ∧ w4.cell? ⟨w.heap.size, 3, none⟩ = some (.int .i64 0) := ⟨hg4.cell (cell_drew s3.1) (HB.out _ (by omega)).2.1 HH3.out.2.2, hg4.cell (cell_drew s3.2.1) (HB.out _ (by omega)).2.1 HH3.out.2.2, hg4.cell (cell_drew s3.2.2.1) (HB.out _ (by omega)).2.1 HH3.out.2.2, hg4.cell (cell_drew s3.2.2.2) (HB.out _ (by omega)).2.1 HH3.out.2.2⟩; have hg5 := GT.trans (GT.of_below (tb := tb) (row := rowOf a2) (w := w3) (Below.drew (Below.refl _ _))) hg4 (Or.inl rfl); have hgw := GT.trans HH3.out.1 hg5 HH3.out.2.1; have hrw := RowNew.trans HH3.out.2.1 HH3.out.1.size hr4))
      rw [List.append_assoc] at ht4
      have HF := hide (And.intro ht4 (And.intro hgw hrw))
      clear ht4 hgw hrw hg4 hg5 hr4 s4 s3 HGr
      go_wp2_with (fail)
      go_ret
      exact ⟨ret_eq (by simp), a4, c4, HF.out⟩
  · go_enter Tryd.func73, Tryd.ntmps73
    go_wp2_with (fail)
    go_region
    all_goals
      go_wp2_with (fail)
      refine (HI.out _ ?_).mono ?_
      · exact (by repeat (first | exact Below.refl _ _ | assumption | refine below_drewN ?_ _ | refine Below.drew ?_ | refine Below.alloc ?_ (by simp <;> omega) _ | refine below_trans ?_ (by assumption)))
      rintro e w2 ⟨rfl, a2, c2, ht2, hg2, hr2⟩
      have n0 := hg2.cell (b := w.heap.size) (o := 0) (v := .int .i64 6) (by (repeat (first | ((with_reducible refine cell_top _ _ _ _ _ _ ?_ ?_); (focus (first | rfl | (simp; done))); exact rfl) | (with_reducible refine cell_drew ?_) | (with_reducible refine cell_under _ _ ?_)))) (HB.out _ (by omega)).2.1 (HB.out _ (by omega)).1
      have n1 := hg2.cell (b := w.heap.size) (o := 1) (v := .int .i64 xa) (by (repeat (first | ((with_reducible refine cell_top _ _ _ _ _ _ ?_ ?_); (focus (first | rfl | (simp; done))); exact rfl) | (with_reducible refine cell_drew ?_) | (with_reducible refine cell_under _ _ ?_)))) (HB.out _ (by omega)).2.1 (HB.out _ (by omega)).1
      have n2 := hg2.cell (b := w.heap.size) (o := 2) (v := .int .i64 0) (by (repeat (first | ((with_reducible refine cell_top _ _ _ _ _ _ ?_ ?_); (focus (first | rfl | (simp; done))); exact rfl) | (with_reducible refine cell_drew ?_) | (with_reducible refine cell_under _ _ ?_)))) (HB.out _ (by omega)).2.1 (HB.out _ (by omega)).1
      have n3 := hg2.cell (b := w.heap.size) (o := 3) (v := .int .i64 0) (by (repeat (first | ((with_reducible refine cell_top _ _ _ _ _ _ ?_ ?_); (focus (first | rfl | (simp; done))); exact rfl) | (with_reducible refine cell_drew ?_) | (with_reducible refine cell_under _ _ ?_)))) (HB.out _ (by omega)).2.1 (HB.out _ (by omega)).1
      have m1 := hg2.cell (b := w.heap.size + 1) (o := 1) (v := .int .i64 1) (by (repeat (first | ((with_reducible refine cell_top _ _ _ _ _ _ ?_ ?_); (focus (first | rfl | (simp; done))); exact rfl) | (with_reducible refine cell_drew ?_) | (with_reducible refine cell_under _ _ ?_)))) (HB.out _ (by omega)).2.1 (HB.out _ (by omega)).1
      have nf : w2.frozen? ⟨w.heap.size, 1, none⟩ = false := (hg2.frozen (b := w.heap.size) (o := 1) (by simp <;> omega) (HB.out _ (by omega)).2.1 (HB.out _ (by omega)).1).trans (frozen_of_row _ _ _ _ _ (by (repeat (first | ((with_reducible refine heap_top _ _ _ ?_); (focus (first | rfl | (simp; done)))) | (with_reducible refine heap_drew ?_) | (with_reducible refine heap_under _ ?_)))))
      have hne2 := row_ne_new hr2 (j := w.heap.size) (HB.out _ (by omega)).1 (by simp <;> omega)
      have hgw := GT.trans (GT.of_below (tb := tb) (row := rowOf a) (w := w) (by repeat (first | exact Below.refl _ _ | assumption | refine below_drewN ?_ _ | refine Below.drew ?_ | refine Below.alloc ?_ (by simp <;> omega) _ | refine below_trans ?_ (by assumption)))) hg2 (Or.inl rfl)
      have hrw : RowNew w (rowOf a) (rowOf a2) := RowNew.trans (Or.inl rfl) (by simp <;> omega) hr2
      have ht3 := ht2.far w.heap.size 1 (.int .i64 (out.length + L.length - 1 : Nat)) (HB.out _ (by omega)).2.2 hne2
      have hg3 := hgw.set w.heap.size 1 (.int .i64 (out.length + L.length - 1 : Nat)) (Nat.le_refl _)
      obtain ⟨w3, hw3⟩ : ∃ w3, w3 = w2.setCell ⟨w.heap.size, 1, none⟩ (.int .i64 (out.length + L.length - 1 : Nat)) := ⟨_, rfl⟩
      have s3 : w3.cell? ⟨w.heap.size, 0, none⟩ = some (.int .i64 6) ∧ w3.cell? ⟨w.heap.size, 1, none⟩ = some (.int .i64 (out.length + L.length - 1 : Nat)) ∧ w3.cell? ⟨w.heap.size, 2, none⟩ = some (.int .i64 0) ∧ w3.cell? ⟨w.heap.size, 3, none⟩ = some (.int .i64 0) := by
        rw [hw3]
        exact ⟨cell_set_off (by decide) n0, cell_set_eq n1, cell_set_off (by decide) n2, cell_set_off (by decide) n3⟩
      rw [← hw3] at ht3 hg3
      have hwb : w.heap.size < w3.heap.size := World.block_lt_of_cell? w3 _ s3.1
      have HGr := hide (fun W hb => growT (ht3.below (w' := W) hb) ⟨6, (out.length + L.length - 1 : Nat), 0, 0⟩ (by simp; omega))
      have HH3 := hide (And.intro hg3 (And.intro hrw hne2))
      clear ht2 hg2 hr2 hgw hrw ht3 hg3 HI hlk0 hlk1 hne2 n0 n2 n3
      go_wp2_with (fail)
      rw [← hw3]
      clear hw3 n1 m1 nf
      go_region_held3 (fun w' => w'.cell? ⟨w.heap.size, 0, none⟩ = some (.int .i64 6) ∧ w'.cell? ⟨w.heap.size, 1, none⟩ = some (.int .i64 (out.length + L.length - 1 : Nat)) ∧ w'.cell? ⟨w.heap.size, 2, none⟩ = some (.int .i64 0) ∧ w'.cell? ⟨w.heap.size, 3, none⟩ = some (.int .i64 0)) (first | (with_reducible exact s4) | (exact ⟨cell_drew s3.1, cell_drew s3.2.1, cell_drew s3.2.2.1, cell_drew s3.2.2.2⟩) | (exact s3)) (first | (go_at_call 107; refine (HGr.out _ ?_).mono ?_; (focus (exact Below.drew (Below.refl _ _))); rintro e w4 ⟨rfl, a4, c4, ht4, hg4, hr4⟩; rw [row_eq] at hg4 hr4; rw [row_eq] at hr4; have s4 : w4.cell? ⟨w.heap.size, 0, none⟩ = some (.int .i64 6) ∧ w4.cell? ⟨w.heap.size, 1, none⟩ = some (.int .i64 (out.length + L.length - 1 : Nat)) ∧ w4.cell? ⟨w.heap.size, 2, none⟩ = some (.int .i64 0) ∧ w4.cell? ⟨w.heap.size, 3, none⟩ = some (.int .i64 0) := ⟨hg4.cell (cell_drew s3.1) (HB.out _ (by omega)).2.1 HH3.out.2.2, hg4.cell (cell_drew s3.2.1) (HB.out _ (by omega)).2.1 HH3.out.2.2, hg4.cell (cell_drew s3.2.2.1) (HB.out _ (by omega)).2.1 HH3.out.2.2, hg4.cell (cell_drew s3.2.2.2) (HB.out _ (by omega)).2.1 HH3.out.2.2⟩; have hg5 := GT.trans (GT.of_below (tb := tb) (row := rowOf a2) (w := w3) (Below.drew (Below.refl _ _))) hg4 (Or.inl rfl); have hgw := GT.trans HH3.out.1 hg5 HH3.out.2.1; have hrw := RowNew.trans HH3.out.2.1 HH3.out.1.size hr4))
      rw [List.append_assoc] at ht4
      have HF := hide (And.intro ht4 (And.intro hgw hrw))
      clear ht4 hgw hrw hg4 hg5 hr4 s4 s3 HGr
      go_wp2_with (fail)
      go_ret
      exact ⟨ret_eq (by simp), a4, c4, HF.out⟩
end Go.Proofs.YtphoifgcmpjnoaaDoor
