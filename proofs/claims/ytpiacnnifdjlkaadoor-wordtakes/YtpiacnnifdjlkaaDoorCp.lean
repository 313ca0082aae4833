/-
  WordTakes of the statements: true, whatever it is handed.
-/
import Derived.Test.YtpiacnnifdjlkaaDoorCo
namespace Go.Proofs.YtpiacnnifdjlkaaDoor
open Go.RowKit Go.Sort

theorem takesOf2 {w : World} {v hv lv : Value} {A : Aut} {hs ls : List Int} (hA : AutV w v A) (hh : IntSl w hv hs) (hl : IntSl w lv ls) (hc : chkA A = 0) (hk : chk hs ls A.m = 0) :
    Calls Tryd.prog 33 #[v, .agg #[hv, lv]] w fun e w' => ∃ b : Bool, e = .returned (.bool b) ∧ (b = true ↔ TakesA A hs ls) ∧ Below w.heap.size w w' := by
  have hR := right_of hc
  obtain ⟨N, hN⟩ := Int.eq_ofNat_of_zero_le (show 0 ≤ A.n from by have := hR.n1; omega)
  have hlen := chk_lens hk
  have hL : 0 < ls.length := List.length_pos_iff.2 hlen.2.2
  obtain ⟨fv, gv, sv, rfl, h1, h2, h3⟩ := hA
  have k1 := h1
  have k2 := h2
  have k3 := h3
  have k4 := hh
  have k5 := hl
  obtain ⟨a1, c1, rfl, hm1, -⟩ := h1
  obtain ⟨a2, c2, rfl, -⟩ := h2
  obtain ⟨a3, c3, rfl, -⟩ := h3
  obtain ⟨a4, c4, rfl, -⟩ := hh
  obtain ⟨a5, c5, rfl, -⟩ := hl
  have hgl : A.good.length = N := by have := hR.good; omega
  rw [hN, hgl]
  rw [hgl] at k2
  refine (takesOf_any N A.m a1 a2 a3 a4 a5 c1 c2 c3 c4 c5 (by have := hR.n3; omega) k1 (fun x hx => by have := hR.first x hx; omega) k2 hgl k3 hR.few (fun s hs' => by have := hR.steps s hs'; omega) k4 hlen.1 k5 hlen.2.1 hm1).mono ?_
  rintro e w' ⟨K, rfl, hK, hb⟩
  exact ⟨_, rfl, takes_iff hR hL hN.symm hK, hb⟩

set_option maxRecDepth 100000 in
set_option maxHeartbeats 2000000 in
theorem wordTakes_any {w : World} {v hv lv : Value} {A : Aut} {hs ls : List Int} (hA : AutV w v A) (hh : IntSl w hv hs) (hl : IntSl w lv ls) (ht : Tab w) :
    Calls Tryd.prog 7 #[v, .agg #[hv, lv]] w fun e w' => e = .returned (.bool true) ∧ Below w.heap.size w w' := by
  have Ht := hide ht
  have H1 := hide (fun w1 (hb : Below w.heap.size w w1) => takes_any (hA.below hb) (hh.below hb) (hl.below hb) (ht.below hb))
  have H2 := hide (fun w1 (hb : Below w.heap.size w w1) => checkAutoR_any (hA.below hb))
  have H3 := hide (fun w1 (hb : Below w.heap.size w w1) => checkLasso_any A.m (hh.below hb) (hl.below hb))
  have H4 := hide (fun (hc : chkA A = 0) (hk : chk hs ls A.m = 0) w1 (hb : Below w.heap.size w w1) => takesOf2 (hA.below hb) (hh.below hb) (hl.below hb) hc hk)
  obtain ⟨fv, gv, sv, rfl, h1, h2, h3⟩ := hA
  obtain ⟨a1, c1, rfl, -⟩ := h1
  obtain ⟨a2, c2, rfl, -⟩ := h2
  obtain ⟨a3, c3, rfl, -⟩ := h3
  obtain ⟨a4, c4, rfl, -⟩ := hh
  obtain ⟨a5, c5, rfl, -⟩ := hl
  clear ht
  have HT := hide (show tkE A hs ls = if chkA A ≠ 0 then chkA A else chk hs ls A.m from rfl)
  generalize tkE A hs ls = te at *
  generalize hca : chkA A = ca at *
  generalize hck : chk hs ls A.m = ck at *
  have Hca := hide hca
  have Hck := hide hck
  clear hca hck
  generalize A.m = m at *
  generalize A.n = n at *
  generalize A.first.length = L1 at *
  generalize A.good.length = L2 at *
  generalize A.steps.length = L3 at *
  generalize hs.length = L4 at *
  generalize ls.length = L5 at *
  go_enter Tryd.func7, Tryd.ntmps7
  go_wp2_with (fail)
  have qz := two_alloc w (Obj.cells #[Value.int .i64 n, .int .i64 m, .slice a1 L1 c1, .slice a2 L2 c2, .slice a3 L3 c3] 26) (Obj.cells #[Value.slice a4 L4 c4, .slice a5 L5 c5] 44)
  have B0 : Below w.heap.size w ((w.alloc (Obj.cells #[Value.int .i64 n, .int .i64 m, .slice a1 L1 c1, .slice a2 L2 c2, .slice a3 L3 c3] 26)).alloc (Obj.cells #[Value.slice a4 L4 c4, .slice a5 L5 c5] 44)) := (by repeat (first | exact Below.refl _ _ | assumption | refine below_drewN ?_ _ | refine Below.drew ?_ | refine Below.alloc ?_ (by simp <;> omega) _ | refine below_trans ?_ (by assumption)))
  refine (H1.out _ B0).mono ?_
  rintro e w1 ⟨b, rfl, hb, hb1⟩
  have Hb := hide hb
  have B1 := below_trans B0 hb1
  have e0 := belowRow hb1 qz.1
  have e1 := belowRow hb1 qz.2
  clear qz B0 hb hb1
  have p0 := cell_of_row w1 _ 0 _ _ _ e0
  have p1 := cell_of_row w1 _ 1 _ _ _ e0
  have p2 := cell_of_row w1 _ 2 _ _ _ e0
  have p3 := cell_of_row w1 _ 3 _ _ _ e0
  have p4 := cell_of_row w1 _ 4 _ _ _ e0
  go_wp2_with (fail)
  clear p0 p1 p2 p3 p4
  refine (H2.out _ B1).mono ?_
  rintro e w2 ⟨rfl, hb2⟩
  have B2 := below_trans B1 hb2
  have e0 := belowRow hb2 e0
  have e1 := belowRow hb2 e1
  clear hb2 B1
  have p0 := cell_of_row w2 _ 0 _ _ _ e0
  have p1 := cell_of_row w2 _ 1 _ _ _ e0
  have p2 := cell_of_row w2 _ 2 _ _ _ e0
  have p3 := cell_of_row w2 _ 3 _ _ _ e0
  have p4 := cell_of_row w2 _ 4 _ _ _ e0
  have p5 := cell_of_row w2 _ 0 _ _ _ e1
  have p6 := cell_of_row w2 _ 1 _ _ _ e1
  by_cases hz : ca = 0
  · subst hz
    have ete : te = ck := by rw [HT.out]; simp
    subst ete
    go_wp2_with (fail)
    clear p0 p1 p2 p3 p4 p5 p6
    refine (H3.out _ B2).mono ?_
    rintro e w3 ⟨rfl, hb3⟩
    have B3 := below_trans B2 hb3
    have e0 := belowRow hb3 e0
    have e1 := belowRow hb3 e1
    clear hb3 B2
    have p0 := cell_of_row w3 _ 0 _ _ _ e0
    have p1 := cell_of_row w3 _ 1 _ _ _ e0
    have p2 := cell_of_row w3 _ 2 _ _ _ e0
    have p3 := cell_of_row w3 _ 3 _ _ _ e0
    have p4 := cell_of_row w3 _ 4 _ _ _ e0
    have p5 := cell_of_row w3 _ 0 _ _ _ e1
    have p6 := cell_of_row w3 _ 1 _ _ _ e1
    by_cases hy : te = 0
    · subst hy
      go_wp2_with (fail)
      clear p0 p1 p2 p3 p4 p5 p6
      refine (H4.out (by first | trivial | exact Hca.out) (by first | trivial | exact Hck.out) _ B3).mono ?_
      rintro e w4 ⟨b', rfl, hb', hb4⟩
      have B4 := below_trans B3 hb4
      have ebb : b' = b := by
        have h1 := Hb.out
        rw [Bool.eq_iff_iff, hb', h1]
        simp
      subst ebb
      clear hb' hb4 B3
      go_wp2_with (fail)
      refine (wordBegun_any (Ht.out.below B4)).mono ?_
      rintro e w5 ⟨rfl, hb5⟩
      have B5 := below_trans B4 hb5
      clear hb5 B4
      go_wp2
      go_ret
      exact ⟨by simp, B5⟩
    · have hd : (te == 0) = false := by simpa using hy
      have ebb : b = false := by
        cases b with
        | false => rfl
        | true => exact absurd (Hb.out.1 rfl).1 hy
      subst ebb
      go_wp2_with (fail)
      clear p0 p1 p2 p3 p4 p5 p6
      refine (wordBegun_any (Ht.out.below B3)).mono ?_
      rintro e w5 ⟨rfl, hb5⟩
      have B5 := below_trans B3 hb5
      clear hb5 B3
      go_wp2
      go_ret
      exact ⟨by simp, B5⟩
  · have hd : (ca == 0) = false := by simpa using hz
    have ete : te = ca := by rw [HT.out]; simp [hz]
    subst ete
    have ebb : b = false := by
      cases b with
      | false => rfl
      | true => exact absurd (Hb.out.1 rfl).1 hz
    subst ebb
    go_wp2_with (fail)
    clear p0 p1 p2 p3 p4 p5 p6
    refine (wordBegun_any (Ht.out.below B2)).mono ?_
    rintro e w5 ⟨rfl, hb5⟩
    have B5 := below_trans B2 hb5
    clear hb5 B2
    go_wp2
    go_ret
    exact ⟨by simp, B5⟩
end Go.Proofs.YtpiacnnifdjlkaaDoor
