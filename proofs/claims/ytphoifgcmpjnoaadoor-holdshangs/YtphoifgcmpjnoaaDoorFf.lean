/-
  What (turner).turn answers of a Not, of a Next.
-/
import Derived.Test.YtphoifgcmpjnoaaDoorFe
namespace Go.Proofs.YtphoifgcmpjnoaaDoor
open Go.RowKit Go.Sort

set_option maxRecDepth 100000 in
set_option maxHeartbeats 4000000 in
theorem turn_not {F : List Nd} (hF : AllOk F) (i : Nat) (hi : i < F.length) (hk : (F.getD i nd0).k = 3) (ih : TurnOk F (F.getD i nd0).a.toNat) : TurnOk F i := by
  intro w tb r base fv a c out o h hlen
  have hfl : fl F i o out.length = fl F (F.getD i nd0).a.toNat (!o) out.length := by
    rw [fl_eq hF i hi]
    unfold flS
    rw [if_neg (by omega), if_pos hk]
  rw [hfl]
  clear hfl
  have HT := hide h
  obtain ⟨_, ⟨xa0, xa1, _⟩, ⟨xb0, xb1, xb2⟩, _⟩ := node_ok (hF i hi)
  have xa3 := xa1 (by omega)
  have hpw : 2 ^ ((F.getD i nd0).a.toNat + 2) ≤ 2 ^ (i + 1) := Nat.pow_le_pow_right (by decide) (by omega)
  have hp2 : 2 ^ (i + 2) = 2 * 2 ^ (i + 1) := by rw [Nat.pow_succ]; omega
  have hol : out.length ≤ 100000 := by omega
  obtain ⟨fa, fc, hfv, hfm, hc, -⟩ := h.nodes
  subst hfv
  rcases hc with hc | ⟨b, off, rfl, hc⟩
  · rw [hc] at hi; simp at hi
  obtain ⟨d0, d1, d2, d3⟩ := hc i hi
  have hlk0 := (run_lookup_sign (w := (w.alloc (Obj.cells #[.int .i64 (F.getD i nd0).k, .int .i64 (F.getD i nd0).a, .int .i64 (F.getD i nd0).b, .int .i64 (F.getD i nd0).n] 74)).drew) (h.sg.below (Below.drew (below_new w _))) (F.getD i nd0).k).1
  have hlk1 := (run_lookup_sign (w := ((w.alloc (Obj.cells #[.int .i64 (F.getD i nd0).k, .int .i64 (F.getD i nd0).a, .int .i64 (F.getD i nd0).b, .int .i64 (F.getD i nd0).n] 74)).alloc (Obj.cells #[.string ⟨#[]⟩, .int .i64 0, .bool false, .bool false, .int .i64 0] 119)).drew) (h.sg.below (Below.drew (Below.alloc (below_new w _) (by simp) _))) (F.getD i nd0).k).1
  have hsg : (sgOf (F.getD i nd0).k).getD sg0 = ⟨[33], 1, false, false, 0⟩ := by
    rw [hk]; rfl
  rw [hsg] at hlk0 hlk1
  unfold sgV at hlk0 hlk1
  have c0 := h.c0
  have c1 := h.c1
  have htb := World.block_lt_of_cell? w _ c0
  dsimp only at htb
  have HI : Hid (∀ W, Below w.heap.size w W → _) := hide fun W hb => ih W tb r base (.slice (some ⟨b, off, none⟩) F.length fc) a c out (!o) (h.below hb) (by omega)
  have ea : ((F.getD i nd0).a.toNat : Int) = (F.getD i nd0).a := by omega
  rw [ea] at HI
  generalize fl F (F.getD i nd0).a.toNat (!o) out.length = L at *
  have HN := hide hlen
  clear hc hlen hsg h ea ih hpw hp2 xa0 xa1 xa3 xb0 xb1 xb2
  generalize F.getD i nd0 = x at *
  obtain ⟨k, xa, xb, xn⟩ := x
  dsimp only at *
  subst hk
  have z1 : tb < w.heap.size + 1 := by omega
  have z2 : tb < w.heap.size + 1 + 1 := by omega
  go_enter Tryd.func73, Tryd.ntmps73
  go_wp2_with (fail)
  go_region
  all_goals
    go_wp2_with (fail)
    refine (HI.out _ ?_).mono ?_
    · exact (by repeat (first | exact Below.refl _ _ | assumption | refine below_drewN ?_ _ | refine Below.drew ?_ | refine Below.alloc ?_ (by simp <;> omega) _ | refine below_trans ?_ (by assumption)))
    rintro e w2 ⟨rfl, a2, c2, ht2, hg2, hr2⟩
    have hgw := GT.trans (GT.of_below (tb := tb) (row := rowOf a) (w := w) (by repeat (first | exact Below.refl _ _ | assumption | refine below_drewN ?_ _ | refine Below.drew ?_ | refine Below.alloc ?_ (by simp <;> omega) _ | refine below_trans ?_ (by assumption)))) hg2 (Or.inl rfl)
    have hrw : RowNew w (rowOf a) (rowOf a2) := RowNew.trans (Or.inl rfl) (by simp <;> omega) hr2
    have HF := hide (And.intro ht2 (And.intro hgw hrw))
    clear ht2 hgw hrw hg2 hr2 HI hlk0 hlk1
    go_wp2_with (fail)
    go_ret
    exact ⟨rfl, a2, c2, HF.out⟩

end Go.Proofs.YtphoifgcmpjnoaaDoor
