/-
  What Trim of package auto answers.
-/
import Derived.Test.YtpiacnnifdjlkaaDoorJj
namespace Go.Proofs.YtpiacnnifdjlkaaDoor
open Go.RowKit Go.Sort

/-- What Trim leaves. -/
def Trimmed (A : Aut) (w : World) (e : Ending) (w' : World) : Prop := ∃ v T, e = .returned (.tuple #[v, .int .i64 (chkA A)]) ∧ AutO w' w.heap.size v T ∧ (chkA A = 0 → TrimR A T) ∧ (chkA A ≠ 0 → T = zeroA) ∧ Below w.heap.size w w'

theorem onlyA_trim {A : Aut} {N : Nat} {f : Nat → Bool} (hN : (N : Int) = A.n) (h0 : A.first ≠ []) (hf : ∀ q, q < N → (f q = true ↔ ReachA A q)) : TrimR A (onlyA f N A) := by
  have e : A.n.toNat = N := by omega
  exact Or.inr ⟨h0, f, by rw [e]; exact hf, by rw [e]⟩

theorem reach_first {A : Aut} {N : Nat} {f : Nat → Bool} (hA : Right A) (hN : (N : Int) = A.n) (hf : ∀ q, q < N → (f q = true ↔ ReachA A q)) : ∀ x ∈ A.first, f x.toNat = true := by
  intro x hx
  have hb := hA.first x hx
  obtain ⟨i, hi, rfl⟩ := List.mem_iff_getElem.1 hx
  refine (hf _ (by omega)).2 ⟨i, hi, 0, ?_⟩
  show (A.first.getD i 0).toNat = _
  simp [List.getD, hi]

theorem reach_steps {A : Aut} {N : Nat} {f : Nat → Bool} (hA : Right A) (hN : (N : Int) = A.n) (hf : ∀ q, q < N → (f q = true ↔ ReachA A q)) : ∀ s ∈ A.steps, f s.f.toNat = true → f s.t.toNat = true := by
  intro s hs h
  have hb := hA.steps s hs
  exact (hf _ (by omega)).2 (((hf _ (by omega)).1 h).step ⟨s, hs, by omega, by omega⟩)

theorem setCell_size (w : World) (p : Addr) (v : Value) : (w.setCell p v).heap.size = w.heap.size := by simp [World.setCell]

theorem fivePut_size (w : World) (b : Nat) (v0 v1 v2 v3 v4 : Value) : (fivePut w b v0 v1 v2 v3 v4).heap.size = w.heap.size := by
  unfold fivePut
  rw [setCell_size, setCell_size, setCell_size, setCell_size, setCell_size]

set_option maxRecDepth 100000 in
set_option maxHeartbeats 2000000 in
theorem trim_any {w : World} {v : Value} {A : Aut} (hv : AutV w v A) : Calls Tryd.prog 14 #[v] w fun e w' => Trimmed A w e w' := by
  have HV := hide hv
  obtain ⟨fv, gv, sv, rfl, hF, hG, hS⟩ := hv
  have HF := hide hF
  have HG := hide hG
  have HS := hide hS
  obtain ⟨a1, c1, rfl, hm1, -⟩ := hF
  obtain ⟨a2, c2, rfl, hm2, -⟩ := hG
  obtain ⟨a3, c3, rfl, hm3, -⟩ := hS
  unfold maxLen at hm1 hm2 hm3
  have HC : Hid (∀ W, Below w.heap.size w W → Calls Tryd.prog 19 #[.agg #[.int .i64 A.n, .int .i64 A.m, .slice a1 A.first.length c1, .slice a2 A.good.length c2, .slice a3 A.steps.length c3]] W fun e w' => e = .returned (.int .i64 (chkA A)) ∧ Below W.heap.size W w') := fun W hb => autoCheck_any (HV.out.below hb)
  have q := two_alloc w (Obj.cells #[.int .i64 A.n, .int .i64 A.m, .slice a1 A.first.length c1, .slice a2 A.good.length c2, .slice a3 A.steps.length c3] 26) (Obj.cells noA 26)
  have HB : Hid (Below w.heap.size w ((w.alloc (Obj.cells #[.int .i64 A.n, .int .i64 A.m, .slice a1 A.first.length c1, .slice a2 A.good.length c2, .slice a3 A.steps.length c3] 26)).alloc (Obj.cells noA 26))) := (by repeat (first | exact Below.refl _ _ | assumption | refine below_drewN ?_ _ | refine Below.drew ?_ | refine Below.alloc ?_ (by simp <;> omega) _ | refine below_trans ?_ (by assumption)))
  have HQ := hide q
  clear q
  go_enter Tryd.func14, Tryd.ntmps14
  go_wp2_with (fail)
  refine (HC.out _ HB.out).mono ?_
  rintro e w1 ⟨rfl, hb1⟩
  have hbx := belowRow hb1 HQ.out.1
  have hres := belowRow hb1 HQ.out.2
  have HB1 := hide (below_trans HB.out hb1)
  unfold noA at hres
  have y0 := cell_of_row _ _ 0 _ _ _ hres
  have y1 := cell_of_row _ _ 1 _ _ _ hres
  have y2 := cell_of_row _ _ 2 _ _ _ hres
  have y3 := cell_of_row _ _ 3 _ _ _ hres
  have y4 := cell_of_row _ _ 4 _ _ _ hres
  have z0 := frozen_of_row _ _ 0 _ _ hres
  have z1 := frozen_of_row _ _ 1 _ _ hres
  have z2 := frozen_of_row _ _ 2 _ _ hres
  have z3 := frozen_of_row _ _ 3 _ _ hres
  have z4 := frozen_of_row _ _ 4 _ _ hres
  clear hb1 HQ HB
  by_cases hc : chkA A = 0
  · have hA := right_of hc
    have HFew := hide (first_few hc)
    have HCk := hide hc
    rw [hc]
    clear hc
    have x0 := cell_of_row _ _ 0 _ _ _ hbx
    have x1 := cell_of_row _ _ 1 _ _ _ hbx
    have x2 := cell_of_row _ _ 2 _ _ _ hbx
    have x3 := cell_of_row _ _ 3 _ _ _ hbx
    have x4 := cell_of_row _ _ 4 _ _ _ hbx
    by_cases h0 : A.first = []
    · have hd : ((A.first.length : Int) == 0) = true := by rw [h0]; rfl
      have HT := hide (show TrimR A ⟨1, A.m, [], [false], []⟩ from Or.inl ⟨h0, rfl⟩)
      have hlt1 : w.heap.size + 1 < w1.heap.size := (Array.getElem?_eq_some_iff.1 hres).1
      have hF := fivePut_box hres (.int .i64 1) (.int .i64 A.m) (.slice none 0 0) (.slice (some ⟨w1.heap.size, 0, none⟩) 1 1) (.slice none 0 0)
      have HBF := hide ((fivePut_below HB1.out (show w.heap.size ≤ w.heap.size + 1 by omega) (.int .i64 1) (.int .i64 A.m) (.slice none 0 0) (.slice (some ⟨w1.heap.size, 0, none⟩) 1 1) (.slice none 0 0)).alloc (by rw [fivePut_size]; omega) (Obj.cells #[.bool false] 4))
      have HN := hide (one_new (fivePut w1 (w.heap.size + 1) (.int .i64 1) (.int .i64 A.m) (.slice none 0 0) (.slice (some ⟨w1.heap.size, 0, none⟩) 1 1) (.slice none 0 0)) (Obj.cells #[.bool false] 4))
      have hsz5 : (fivePut w1 (w.heap.size + 1) (.int .i64 1) (.int .i64 A.m) (.slice none 0 0) (.slice (some ⟨w1.heap.size, 0, none⟩) 1 1) (.slice none 0 0)).heap.size = w1.heap.size := fivePut_size _ _ _ _ _ _ _
      have HN2 := HN.out
      rw [hsz5] at HN2
      have HOw := hide (show ((fivePut w1 (w.heap.size + 1) (.int .i64 1) (.int .i64 A.m) (.slice none 0 0) (.slice (some ⟨w1.heap.size, 0, none⟩) 1 1) (.slice none 0 0)).alloc (Obj.cells #[.bool false] 4)).ownsRow w.heap.size 4 1 (.slice (some ⟨w1.heap.size, 0, none⟩) 1 1) 1 [.bool false] from ⟨rfl, Or.inr ⟨w1.heap.size, 1, #[.bool false], rfl, by omega, HN2, Nat.le_refl _, by unfold maxLen; omega, rfl, rfl⟩⟩)
      have f0 := cell_of_row _ _ 0 _ _ _ hF
      have f1 := cell_of_row _ _ 1 _ _ _ hF
      have f2 := cell_of_row _ _ 2 _ _ _ hF
      have f3 := cell_of_row _ _ 3 _ _ _ hF
      have f4 := cell_of_row _ _ 4 _ _ _ hF
      unfold fivePut at f0 f1 f2 f3 f4 HBF HOw
      clear hF hres hbx h0 HN hsz5 HN2
      go_wp2_with (fail)
      refine bodyPost_ret (v := .tuple #[.agg #[.int .i64 1, .int .i64 A.m, .slice none 0 0, .slice (some ⟨w1.heap.size, 0, none⟩) 1 1, .slice none 0 0], .int .i64 0]) (by simp [results, Tryd.results14, go_sem, f0, f1, f2, f3, f4, hlt1]) rfl ⟨.agg #[.int .i64 1, .int .i64 A.m, .slice none 0 0, .slice (some ⟨w1.heap.size, 0, none⟩) 1 1, .slice none 0 0], ⟨1, A.m, [], [false], []⟩, ?_, ?_, fun _ => HT.out, fun h => absurd HCk.out h, HBF.out⟩
      · rw [HCk.out]
      · exact ⟨_, _, _, rfl, World.ownsRow_nil _ _ _ _, HOw.out, World.ownsRow_nil _ _ _ _⟩
    · have hd : ((A.first.length : Int) == 0) = false := by rw [beq_eq_false_iff_ne]; have := List.length_pos_iff.2 h0; omega
      obtain ⟨N, hN⟩ := Int.eq_ofNat_of_zero_le (show 0 ≤ A.n by have := hA.n1; omega)
      have HN := hide hN.symm
      have HRe : Hid (∀ W, Below w.heap.size w W → Calls Tryd.prog 49 #[.agg #[.int .i64 N, .int .i64 A.m, .slice a1 A.first.length c1, .slice a2 A.good.length c2, .slice a3 A.steps.length c3]] W fun e w' => ∃ g f, e = .returned (.slice (some ⟨g, 0, none⟩) N N) ∧ BR w' g N f ∧ (∀ q, q < N → (f q = true ↔ ReachA A q)) ∧ Below W.heap.size W w') := fun W hb => reached_any N A.m a1 a3 _ c1 c3 hA HN.out (HF.out.below hb) (HS.out.below hb) ⟨_, _, _, rfl⟩
      have HOn : Hid (∀ W g f, Below w.heap.size w W → BR W g N f → (∀ q, q < N → (f q = true ↔ ReachA A q)) → Calls Tryd.prog 48 #[.agg #[.int .i64 N, .int .i64 A.m, .slice a1 A.first.length c1, .slice a2 A.good.length c2, .slice a3 A.steps.length c3], .slice (some ⟨g, 0, none⟩) N N] W fun e w' => ∃ v, e = .returned v ∧ AutO w' W.heap.size v (onlyA f N A) ∧ Below W.heap.size W w') := fun W g f hb hBR hf => only_any (HF.out.below hb) (HG.out.below hb) (HS.out.below hb) hA HN.out hBR HFew.out (reach_first hA HN.out hf) (reach_steps hA HN.out hf)
      rw [hN] at hbx x0 x1 x2 x3 x4 ⊢
      clear hA
      go_wp2_with (fail)
      have HNe := hide h0
      clear h0 hd
      refine wp_region_orders [[0, 1, 2, 3, 4, 5], [1, 0, 2, 3, 4, 5], [1, 2, 0, 3, 4, 5]] (by kernel_rfl) (by kernel_rfl) ?_
      simp only [List.forall_mem_cons, List.filterMap_cons, List.filterMap_nil, List.getElem?_cons_succ, List.getElem?_cons_zero, List.not_mem_nil, false_implies, implies_true, and_true]
      refine ⟨?_, ?_, ?_⟩
      all_goals
        go_wp2_with (fail)
        refine (HRe.out _ (HB1.out.drew)).mono ?_
        rintro e w2 ⟨g, f, rfl, hBR, hf, hb2⟩
        have hb2' := below_trans (Below.drew (Below.refl w1.heap.size w1)) hb2
        have hbx2 := belowRow hb2' hbx
        have hres2 := belowRow hb2' hres
        have HB2 := hide (below_trans HB1.out hb2')
        clear hb2 hb2' x0 x1 x2 x3 x4 y0 y1 y2 y3 y4 z0 z1 z2 z3 z4
        have x0 := cell_of_row _ _ 0 _ _ _ hbx2
        have x1 := cell_of_row _ _ 1 _ _ _ hbx2
        have x2 := cell_of_row _ _ 2 _ _ _ hbx2
        have x3 := cell_of_row _ _ 3 _ _ _ hbx2
        have x4 := cell_of_row _ _ 4 _ _ _ hbx2
        go_wp2_with (fail)
        clear x0 x1 x2 x3 x4 hbx2
        refine (HOn.out w2 g f HB2.out hBR hf).mono ?_
        rintro e w3 ⟨v3, rfl, hO, hb3⟩
        have HO := hide hO
        have HT := hide (onlyA_trim HN.out HNe.out hf)
        have hlt2 : w.heap.size + 1 < w2.heap.size := (Array.getElem?_eq_some_iff.1 hres2).1
        have hres3 := belowRow hb3 hres2
        have HB3 := hide (below_trans HB2.out hb3)
        have y0 := cell_of_row _ _ 0 _ _ _ hres3
        have y1 := cell_of_row _ _ 1 _ _ _ hres3
        have y2 := cell_of_row _ _ 2 _ _ _ hres3
        have y3 := cell_of_row _ _ 3 _ _ _ hres3
        have y4 := cell_of_row _ _ 4 _ _ _ hres3
        have z0 := frozen_of_row _ _ 0 _ _ hres3
        have z1 := frozen_of_row _ _ 1 _ _ hres3
        have z2 := frozen_of_row _ _ 2 _ _ hres3
        have z3 := frozen_of_row _ _ 3 _ _ hres3
        have z4 := frozen_of_row _ _ 4 _ _ hres3
        clear hb3 hf hBR hres2
        generalize onlyA f N A = O at *
        obtain ⟨fv3, gv3, sv3, rfl, o1, o2, o3⟩ := hO
        obtain ⟨b1, e1, rfl, -⟩ := intSl_of_owns o1
        obtain ⟨b2, e2, rfl, -⟩ := boolSl_of_owns o2
        obtain ⟨b3, e3, rfl, -⟩ := stepSl_of_owns o3
        clear o1 o2 o3
        have hF := fivePut_box hres3 (.int .i64 O.n) (.int .i64 O.m) (.slice b1 O.first.length e1) (.slice b2 O.good.length e2) (.slice b3 O.steps.length e3)
        have HAV := hide (HO.out.five hres3 (.int .i64 O.n) (.int .i64 O.m) (.slice b1 O.first.length e1) (.slice b2 O.good.length e2) (.slice b3 O.steps.length e3))
        have HBF := hide (fivePut_below HB3.out (show w.heap.size ≤ w.heap.size + 1 by omega) (.int .i64 O.n) (.int .i64 O.m) (.slice b1 O.first.length e1) (.slice b2 O.good.length e2) (.slice b3 O.steps.length e3))
        have f0 := cell_of_row _ _ 0 _ _ _ hF
        have f1 := cell_of_row _ _ 1 _ _ _ hF
        have f2 := cell_of_row _ _ 2 _ _ _ hF
        have f3 := cell_of_row _ _ 3 _ _ _ hF
        have f4 := cell_of_row _ _ 4 _ _ _ hF
        unfold fivePut at f0 f1 f2 f3 f4 HAV HBF
        clear hF hres3
        go_wp2_with (fail)
        refine bodyPost_ret (v := .tuple #[.agg #[.int .i64 O.n, .int .i64 O.m, .slice b1 O.first.length e1, .slice b2 O.good.length e2, .slice b3 O.steps.length e3], .int .i64 0]) (by simp [results, Tryd.results14, go_sem, f0, f1, f2, f3, f4]) rfl ⟨.agg #[.int .i64 O.n, .int .i64 O.m, .slice b1 O.first.length e1, .slice b2 O.good.length e2, .slice b3 O.steps.length e3], O, ?_, ?_, fun _ => HT.out, fun h => absurd HCk.out h, HBF.out⟩
        · rw [HCk.out]
        · exact HAV.out.lower (by omega)
  · have hd : (chkA A != 0) = true := by simpa using hc
    have HCk := hide hc
    generalize hck : chkA A = c at *
    have HCe := hide hck
    clear hck hbx
    have hF := fivePut_box hres (.int .i64 0) (.int .i64 0) (.slice none 0 0) (.slice none 0 0) (.slice none 0 0)
    have HBF := hide (fivePut_below HB1.out (show w.heap.size ≤ w.heap.size + 1 by omega) (.int .i64 0) (.int .i64 0) (.slice none 0 0) (.slice none 0 0) (.slice none 0 0))
    have f0 := cell_of_row _ _ 0 _ _ _ hF
    have f1 := cell_of_row _ _ 1 _ _ _ hF
    have f2 := cell_of_row _ _ 2 _ _ _ hF
    have f3 := cell_of_row _ _ 3 _ _ _ hF
    have f4 := cell_of_row _ _ 4 _ _ _ hF
    unfold fivePut at f0 f1 f2 f3 f4 HBF
    clear hF hres hc
    go_wp2_with (fail)
    refine bodyPost_ret (v := .tuple #[.agg #[.int .i64 0, .int .i64 0, .slice none 0 0, .slice none 0 0, .slice none 0 0], .int .i64 c]) (by simp [results, Tryd.results14, go_sem, f0, f1, f2, f3, f4]) rfl ⟨.agg #[.int .i64 0, .int .i64 0, .slice none 0 0, .slice none 0 0, .slice none 0 0], zeroA, ?_, autO_zero _ _, fun h => absurd (HCe.out.symm.trans h) HCk.out, fun _ => rfl, HBF.out⟩
    rw [HCe.out]
end Go.Proofs.YtpiacnnifdjlkaaDoor
