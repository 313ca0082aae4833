/-
  What ReadAuto of the reference needs.
-/
import Derived.Test.YtpiacnnifdjlkaaDoorJj
import Derived.Test.YtpiacnnifdjlkaaDoorJv
/-
  What Trim of package auto answers.
-/
namespace Go.Proofs.YtpiacnnifdjlkaaDoor
open Go.RowKit Go.Sort

/-- What Trim leaves. -/
def Trimmed (A : Aut) (w : World) (e : Ending) (w' : World) : Prop := ∃ v T, e = .returned (.tuple #[v, .int .i64 (chkA A)]) ∧ AutO w' w.heap.size v T ∧ (chkA A = 0 → TrimR A T) ∧ (chkA A ≠ 0 → T = zeroA) ∧ Below w.heap.size w w'

theorem onlyA_trim {A : Aut} {N : Nat} {f : Nat → Bool} (hN : (N : Int) = A.n) (h0 : A.first ≠ []) (hf : ∀ q, q < N → (f q = true ↔ ReachA A q)) : TrimR A (onlyA f N A) := by
  have e : A.n.toNat = N := by omega
  exact Or.inr ⟨h0, f, by rw [e]; exact hf, by rw [e]⟩

theorem reach_first {A : Aut} {N : Nat} {f : Nat → Bool} (hA : Right A) (hN : (N : Int) = A.n) (hf : ∀ q, q < N → (f q = true ↔ ReachA A q)) : ∀ x ∈ A.first, f x.toNat = true := by
  intro x hx
  have hb := hA.first x hx
  obtain ⟨i, hi, rfl⟩ := List.mem_iff_getElem.1 hx
  refine (hf _ (by omega)).2 ⟨i, hi, 0, ?_⟩
  show (A.first.getD i 0).toNat = _
  simp [List.getD, hi]

theorem reach_steps {A : Aut} {N : Nat} {f : Nat → Bool} (hA : Right A) (hN : (N : Int) = A.n) (hf : ∀ q, q < N → (f q = true ↔ ReachA A q)) : ∀ s ∈ A.steps, f s.f.toNat = true → f s.t.toNat = true := by
  intro s hs h
  have hb := hA.steps s hs
  exact (hf _ (by omega)).2 (((hf _ (by omega)).1 h).step ⟨s, hs, by omega, by omega⟩)

theorem setCell_size (w : World) (p : Addr) (v : Value) : (w.setCell p v).heap.size = w.heap.size := by simp [World.setCell]

theorem fivePut_size (w : World) (b : Nat) (v0 v1 v2 v3 v4 : Value) : (fivePut w b v0 v1 v2 v3 v4).heap.size = w.heap.size := by
  unfold fivePut
  rw [setCell_size, setCell_size, setCell_size, setCell_size, setCell_size]

set_option maxRecDepth 100000 in
set_option maxHeartbeats 2000000 in
theorem trim_any {w : World} {v : Value} {A : Aut} (hv : AutV w v A) : Calls Tryd.prog 14 #[v] w fun e w' => Trimmed A w e w' := by
  have HV := hide hv
  obtain ⟨fv, gv, sv, rfl, hF, hG, hS⟩ := hv
  have HF := hide hF
  have HG := hide hG
  have HS := hide hS
  obtain ⟨a1, c1, rfl, hm1, -⟩ := hF
  obtain ⟨a2, c2, rfl, hm2, -⟩ := hG
  obtain ⟨a3, c3, rfl, hm3, -⟩ := hS
  unfold maxLen at hm1 hm2 hm3
  have HC : Hid (∀ W, Below w.heap.size w W → Calls Tryd.prog 19 #[.agg #[.int .i64 A.n, .int .i64 A.m, .slice a1 A.first.length c1, .slice a2 A.good.length c2, .slice a3 A.steps.length c3]] W fun e w' => e = .returned (.int .i64 (chkA A)) ∧ Below W.heap.size W w') := fun W hb => autoCheck_any (HV.out.below hb)
  have q := two_alloc w (Obj.cells #[.int .i64 A.n, .int .i64 A.m, .slice a1 A.first.length c1, .slice a2 A.good.length c2, .slice a3 A.steps.length c3] 26) (Obj.cells noA 26)
  have HB : Hid (Below w.heap.size w ((w.alloc (Obj.cells #[.int .i64 A.n, .int .i64 A.m, .slice a1 A.first.length c1, .slice a2 A.good.length c2, .slice a3 A.steps.length c3] 26)).alloc (Obj.cells noA 26))) := (by repeat (first | exact Below.refl _ _ | assumption | refine below_drewN ?_ _ | refine Below.drew ?_ | refine Below.alloc ?_ (by simp <;> omega) _ | refine below_trans ?_ (by assumption)))
  have HQ := hide q
  clear q
  go_enter Tryd.func14, Tryd.ntmps14
  go_wp2_with (fail)
  refine (HC.out _ HB.out).mono ?_
  rintro e w1 ⟨rfl, hb1⟩
  have hbx := belowRow hb1 HQ.out.1
  have hres := belowRow hb1 HQ.out.2
  have HB1 := hide (below_trans HB.out hb1)
  unfold noA at hres
  have y0 := cell_of_row _ _ 0 _ _ _ hres
  have y1 := cell_of_row _ _ 1 _ _ _ hres
  have y2 := cell_of_row _ _ 2 _ _ _ hres
  have y3 := cell_of_row _ _ 3 _ _ _ hres
  have y4 := cell_of_row _ _ 4 _ _ _ hres
  have z0 := frozen_of_row _ _ 0 _ _ hres
  have z1 := frozen_of_row _ _ 1 _ _ hres
  have z2 := frozen_of_row _ _ 2 _ _ hres
  have z3 := frozen_of_row _ _ 3 _ _ hres
  have z4 := frozen_of_row _ _ 4 _ _ hres
  clear hb1 HQ HB
  by_cases hc : chkA A = 0
  · have hA := right_of hc
    have HFew := hide (first_few hc)
    have HCk := hide hc
    rw [hc]
    clear hc
    have x0 := cell_of_row _ _ 0 _ _ _ hbx
    have x1 := cell_of_row _ _ 1 _ _ _ hbx
    have x2 := cell_of_row _ _ 2 _ _ _ hbx
    have x3 := cell_of_row _ _ 3 _ _ _ hbx
    have x4 := cell_of_row _ _ 4 _ _ _ hbx
    by_cases h0 : A.first = []
    · have hd : ((A.first.length : Int) == 0) = true := by rw [h0]; rfl
      have HT := hide (show TrimR A ⟨1, A.m, [], [false], []⟩ from Or.inl ⟨h0, rfl⟩)
      have hlt1 : w.heap.size + 1 < w1.heap.size := (Array.getElem?_eq_some_iff.1 hres).1
      have hF := fivePut_box hres (.int .i64 1) (.int .i64 A.m) (.slice none 0 0) (.slice (some ⟨w1.heap.size, 0, none⟩) 1 1) (.slice none 0 0)
      have HBF := hide ((fivePut_below HB1.out (show w.heap.size ≤ w.heap.size + 1 by omega) (.int .i64 1) (.int .i64 A.m) (.slice none 0 0) (.slice (some ⟨w1.heap.size, 0, none⟩) 1 1) (.slice none 0 0)).alloc (by rw [fivePut_size]; omega) (Obj.cells #[.bool false] 4))
      have HN := hide (one_new (fivePut w1 (w.heap.size + 1) (.int .i64 1) (.int .i64 A.m) (.slice none 0 0) (.slice (some ⟨w1.heap.size, 0, none⟩) 1 1) (.slice none 0 0)) (Obj.cells #[.bool false] 4))
      have hsz5 : (fivePut w1 (w.heap.size + 1) (.int .i64 1) (.int .i64 A.m) (.slice none 0 0) (.slice (some ⟨w1.heap.size, 0, none⟩) 1 1) (.slice none 0 0)).heap.size = w1.heap.size := fivePut_size _ _ _ _ _ _ _
      have HN2 := HN.out
      rw [hsz5] at HN2
      have HOw := hide (show ((fivePut w1 (w.heap.size + 1) (.int .i64 1) (.int .i64 A.m) (.slice none 0 0) (.slice (some ⟨w1.heap.size, 0, none⟩) 1 1) (.slice none 0 0)).alloc (Obj.cells #[.bool false] 4)).ownsRow w.heap.size 4 1 (.slice (some ⟨w1.heap.size, 0, none⟩) 1 1) 1 [.bool false] from ⟨rfl, Or.inr ⟨w1.heap.size, 1, #[.bool false], rfl, by omega, HN2, Nat.le_refl _, by unfold maxLen; omega, rfl, rfl⟩⟩)
      have f0 := cell_of_row _ _ 0 _ _ _ hF
      have f1 := cell_of_row _ _ 1 _ _ _ hF
      have f2 := cell_of_row _ _ 2 _ _ _ hF
      have f3 := cell_of_row _ _ 3 _ _ _ hF
      have f4 := cell_of_row _ _ 4 _ _ _ hF
      unfold fivePut at f0 f1 f2 f3 f4 HBF HOw
      clear hF hres hbx h0 HN hsz5 HN2
      go_wp2_with (fail)
      refine bodyPost_ret (v := .tuple #[.agg #[.int .i64 1, .int .i64 A.m, .slice none 0 0, .slice (some ⟨w1.heap.size, 0, none⟩) 1 1, .slice none 0 0], .int .i64 0]) (by simp [results, Tryd.results14, go_sem, f0, f1, f2, f3, f4, hlt1]) rfl ⟨.agg #[.int .i64 1, .int .i64 A.m, .slice none 0 0, .slice (some ⟨w1.heap.size, 0, none⟩) 1 1, .slice none 0 0], ⟨1, A.m, [], [false], []⟩, ?_, ?_, fun _ => HT.out, fun h => absurd HCk.out h, HBF.out⟩
      · rw [HCk.out]
      · exact ⟨_, _, _, rfl, World.ownsRow_nil _ _ _ _, HOw.out, World.ownsRow_nil _ _ _ _⟩
    · have hd : ((A.first.length : Int) == 0) = false := by rw [beq_eq_false_iff_ne]; have := List.length_pos_iff.2 h0; omega
      obtain ⟨N, hN⟩ := Int.eq_ofNat_of_zero_le (show 0 ≤ A.n by have := hA.n1; omega)
      have HN := hide hN.symm
      have HRe : Hid (∀ W, Below w.heap.size w W → Calls Tryd.prog 49 #[.agg #[.int .i64 N, .int .i64 A.m, .slice a1 A.first.length c1, .slice a2 A.good.length c2, .slice a3 A.steps.length c3]] W fun e w' => ∃ g f, e = .returned (.slice (some ⟨g, 0, none⟩) N N) ∧ BR w' g N f ∧ (∀ q, q < N → (f q = true ↔ ReachA A q)) ∧ Below W.heap.size W w') := fun W hb => reached_any N A.m a1 a3 _ c1 c3 hA HN.out (HF.out.below hb) (HS.out.below hb) ⟨_, _, _, rfl⟩
      have HOn : Hid (∀ W g f, Below w.heap.size w W → BR W g N f → (∀ q, q < N → (f q = true ↔ ReachA A q)) → Calls Tryd.prog 48 #[.agg #[.int .i64 N, .int .i64 A.m, .slice a1 A.first.length c1, .slice a2 A.good.length c2, .slice a3 A.steps.length c3], .slice (some ⟨g, 0, none⟩) N N] W fun e w' => ∃ v, e = .returned v ∧ AutO w' W.heap.size v (onlyA f N A) ∧ Below W.heap.size W w') := fun W g f hb hBR hf => only_any (HF.out.below hb) (HG.out.below hb) (HS.out.below hb) hA HN.out hBR HFew.out (reach_first hA HN.out hf) (reach_steps hA HN.out hf)
      rw [hN] at hbx x0 x1 x2 x3 x4 ⊢
      clear hA
      go_wp2_with (fail)
      have HNe := hide h0
      clear h0 hd
      refine wp_region_orders [[0, 1, 2, 3, 4, 5], [1, 0, 2, 3, 4, 5], [1, 2, 0, 3, 4, 5]] (by kernel_rfl) (by kernel_rfl) ?_
      simp only [List.forall_mem_cons, List.filterMap_cons, List.filterMap_nil, List.getElem?_cons_succ, List.getElem?_cons_zero, List.not_mem_nil, false_implies, implies_true, and_true]
      refine ⟨?_, ?_, ?_⟩
      all_goals
        go_wp2_with (fail)
        refine (HRe.out _ (HB1.out.drew)).mono ?_
        rintro e w2 ⟨g, f, rfl, hBR, hf, hb2⟩
        have hb2' := below_trans (Below.drew (Below.refl w1.heap.size w1)) hb2
        have hbx2 := belowRow hb2' hbx
        have hres2 := belowRow hb2' hres
        have HB2 := hide (below_trans HB1.out hb2')
        clear hb2 hb2' x0 x1 x2 x3 x4 y0 y1 y2 y3 y4 z0 z1 z2 z3 z4
        have x0 := cell_of_row _ _ 0 _ _ _ hbx2
        have x1 := cell_of_row _ _ 1 _ _ _ hbx2
        have x2 := cell_of_row _ _ 2 _ _ _ hbx2
        have x3 := cell_of_row _ _ 3 _ _ _ hbx2
        have x4 := cell_of_row _ _ 4 _ _ _ hbx2
        go_wp2_with (fail)
        clear x0 x1 x2 x3 x4 hbx2
        refine (HOn.out w2 g f HB2.out hBR hf).mono ?_
        rintro e w3 ⟨v3, rfl, hO, hb3⟩
        have HO := hide hO
        have HT := hide (onlyA_trim HN.out HNe.out hf)
        have hlt2 : w.heap.size + 1 < w2.heap.size := (Array.getElem?_eq_some_iff.1 hres2).1
        have hres3 := belowRow hb3 hres2
        have HB3 := hide (below_trans HB2.out hb3)
        have y0 := cell_of_row _ _ 0 _ _ _ hres3
        have y1 := cell_of_row _ _ 1 _ _ _ hres3
        have y2 := cell_of_row _ _ 2 _ _ _ hres3
        have y3 := cell_of_row _ _ 3 _ _ _ hres3
        have y4 := cell_of_row _ _ 4 _ _ _ hres3
        have z0 := frozen_of_row _ _ 0 _ _ hres3
        have z1 := frozen_of_row _ _ 1 _ _ hres3
        have z2 := frozen_of_row _ _ 2 _ _ hres3
        have z3 := frozen_of_row _ _ 3 _ _ hres3
        have z4 := frozen_of_row _ _ 4 _ _ hres3
        clear hb3 hf hBR hres2
        generalize onlyA f N A = O at *
        obtain ⟨fv3, gv3, sv3, rfl, o1, o2, o3⟩ := hO
        obtain ⟨b1, e1, rfl, -⟩ := intSl_of_owns o1
        obtain ⟨b2, e2, rfl, -⟩ := boolSl_of_owns o2
        obtain ⟨b3, e3, rfl, -⟩ := stepSl_of_owns o3
        clear o1 o2 o3
        have hF := fivePut_box hres3 (.int .i64 O.n) (.int .i64 O.m) (.slice b1 O.first.length e1) (.slice b2 O.good.length e2) (.slice b3 O.steps.length e3)
        have HAV := hide (HO.out.five hres3 (.int .i64 O.n) (.int .i64 O.m) (.slice b1 O.first.length e1) (.slice b2 O.good.length e2) (.slice b3 O.steps.length e3))
        have HBF := hide (fivePut_below HB3.out (show w.heap.size ≤ w.heap.size + 1 by omega) (.int .i64 O.n) (.int .i64 O.m) (.slice b1 O.first.length e1) (.slice b2 O.good.length e2) (.slice b3 O.steps.length e3))
        have f0 := cell_of_row _ _ 0 _ _ _ hF
        have f1 := cell_of_row _ _ 1 _ _ _ hF
        have f2 := cell_of_row _ _ 2 _ _ _ hF
        have f3 := cell_of_row _ _ 3 _ _ _ hF
        have f4 := cell_of_row _ _ 4 _ _ _ hF
        unfold fivePut at f0 f1 f2 f3 f4 HAV HBF
        clear hF hres3
        go_wp2_with (fail)
        refine bodyPost_ret (v := .tuple #[.agg #[.int .i64 O.n, .int .i64 O.m, .slice b1 O.first.length e1, .slice b2 O.good.length e2, .slice b3 O.steps.length e3], .int .i64 0]) (by simp [results, Tryd.results14, go_sem, f0, f1, f2, f3, f4]) rfl ⟨.agg #[.int .i64 O.n, .int .i64 O.m, .slice b1 O.first.length e1, .slice b2 O.good.length e2, .slice b3 O.steps.length e3], O, ?_, ?_, fun _ => HT.out, fun h => absurd HCk.out h, HBF.out⟩
        · rw [HCk.out]
        · exact HAV.out.lower (by omega)
  · have hd : (chkA A != 0) = true := by simpa using hc
    have HCk := hide hc
    generalize hck : chkA A = c at *
    have HCe := hide hck
    clear hck hbx
    have hF := fivePut_box hres (.int .i64 0) (.int .i64 0) (.slice none 0 0) (.slice none 0 0) (.slice none 0 0)
    have HBF := hide (fivePut_below HB1.out (show w.heap.size ≤ w.heap.size + 1 by omega) (.int .i64 0) (.int .i64 0) (.slice none 0 0) (.slice none 0 0) (.slice none 0 0))
    have f0 := cell_of_row _ _ 0 _ _ _ hF
    have f1 := cell_of_row _ _ 1 _ _ _ hF
    have f2 := cell_of_row _ _ 2 _ _ _ hF
    have f3 := cell_of_row _ _ 3 _ _ _ hF
    have f4 := cell_of_row _ _ 4 _ _ _ hF
    unfold fivePut at f0 f1 f2 f3 f4 HBF
    clear hF hres hc
    go_wp2_with (fail)
    refine bodyPost_ret (v := .tuple #[.agg #[.int .i64 0, .int .i64 0, .slice none 0 0, .slice none 0 0, .slice none 0 0], .int .i64 c]) (by simp [results, Tryd.results14, go_sem, f0, f1, f2, f3, f4]) rfl ⟨.agg #[.int .i64 0, .int .i64 0, .slice none 0 0, .slice none 0 0, .slice none 0 0], zeroA, ?_, autO_zero _ _, fun h => absurd (HCe.out.symm.trans h) HCk.out, fun _ => rfl, HBF.out⟩
    rw [HCe.out]
end Go.Proofs.YtpiacnnifdjlkaaDoor

/-
  What autoBegun of the statements needs.
-/
namespace Go.Proofs.YtpiacnnifdjlkaaDoor
open Go.RowKit Go.Sort

theorem one_aut (w : World) : Calls Tryd.prog 53 #[] w fun e w' => ∃ v, e = .returned v ∧ AutV w' v oneA ∧ Below w.heap.size w w' := by
  refine (one_any w).mono ?_
  rintro e w' ⟨g1, g2, g3, rfl, h1, h2, h3, h4, h5, hb⟩
  exact ⟨_, rfl, autV_one h1 h2 h3 h4 h5, hb⟩

theorem chk_one : chkA oneA = 0 := by decide

theorem itoa_dig {z : Int} (h0 : 0 ≤ z) (h1 : z < 10) : Lib.itoa z = [UInt8.ofNat (48 + z.toNat)] := by
  rw [itoa_nat h0, Lib.decDigits_one (by omega)]

def textOne : List UInt8 := [115, 116, 97, 116, 101, 115, 32, 49, 32, 108, 101, 116, 116, 101, 114, 115, 32, 50, 10, 102, 105, 114, 115, 116, 32, 48, 10, 103, 111, 111, 100, 32, 48, 10, 48, 32, 48, 32, 48, 10]

theorem prt_one : prtA oneA = textOne := by
  have i0 : Lib.itoa 0 = [48] := itoa_dig (by omega) (by omega)
  have i1 : Lib.itoa 1 = [49] := itoa_dig (by omega) (by omega)
  have i2 : Lib.itoa 2 = [50] := itoa_dig (by omega) (by omega)
  have hg : goods oneA.good oneA.good.length = [0] := rfl
  unfold prtA
  rw [hg]
  simp [headT, oneA, numsT, stepT, i0, i1, i2, textOne]

theorem prs_one : prsE textOne = 0 ∧ prsN textOne = 0 ∧ prsA textOne = oneA := by
  have h : readT textOne = (oneA, 0) := by rw [← prt_one]; exact readT_prt (right_of chk_one)
  have e1 : prsE textOne = 0 := by
    unfold prsE
    rw [if_neg (by decide), h]
    exact chk_one
  refine ⟨e1, ?_, ?_⟩
  · unfold prsN
    rw [if_neg (by decide), h]
  · unfold prsA
    rw [if_pos e1, h]

theorem trim_one {T : Aut} (h : TrimR oneA T) : T = oneA := by
  rcases h with ⟨h, _⟩ | ⟨_, f, hf, rfl⟩
  · cases h
  · have h0 : f 0 = true := (hf 0 (by decide)).2 ⟨0, by decide, 0, rfl⟩
    have hn : oneA.n.toNat = 1 := rfl
    rw [hn]
    have r0 : rk f 0 = 0 := rfl
    have r1 : rk f 1 = 1 := by rw [show (1 : Nat) = 0 + 1 from rfl, rk_succ, if_pos h0, r0]
    have k1 : keptGood f oneA.good 1 = [true] := by rw [show (1 : Nat) = 0 + 1 from rfl, keptGood_succ, if_pos h0]; rfl
    unfold onlyA
    rw [r1, k1]
    simp [keptFirst, keptSteps, keptStep, oneA, h0, r0]
end Go.Proofs.YtpiacnnifdjlkaaDoor

/-
  What autoBegun of the statements answers: true.
-/
namespace Go.Proofs.YtpiacnnifdjlkaaDoor
open Go.RowKit Go.Sort

theorem textOne_beq : (textOne == [115, 116, 97, 116, 101, 115, 32, 49, 32, 108, 101, 116, 116, 101, 114, 115, 32, 50, 10, 102, 105, 114, 115, 116, 32, 48, 10, 103, 111, 111, 100, 32, 48, 10, 48, 32, 48, 32, 48, 10]) = true := by decide

set_option maxRecDepth 100000 in
set_option maxHeartbeats 2000000 in
theorem autoBegun_any {w : World} {m : Int} (ht : Lib.TabBelow Tryd.prog w.heap.size w "internal/strconv.uint64pow10" .u64 Lib.pow10Tab) (hm : w.cell? maxG = some (.int .i64 m)) :
    Calls Tryd.prog 18 #[] w fun e w' => e = .returned (.bool true) ∧ Below w.heap.size w w' := by
  have HT : Hid (∀ W, Below w.heap.size w W → Lib.TabIs Tryd.prog W "internal/strconv.uint64pow10" .u64 Lib.pow10Tab) := hide ht
  have HM := hide hm
  have hml := World.block_lt_of_cell? w _ hm
  clear ht hm
  go_enter Tryd.func18, Tryd.ntmps18
  go_wp2_with (fail)
  go_fit (one_aut w)
  rintro e w1 ⟨v1, rfl, hv1, hb1⟩
  go_wp2_with (fail)
  go_fit (autoPrint_any hv1 (fun W hb => HT.out W (below_trans hb1 hb)))
  rw [chk_one, if_pos rfl, prt_one]
  rintro e w2 ⟨rfl, hb2⟩
  have B2 := below_trans hb1 hb2
  go_wp2_with (fail)
  go_fit (parse_any textOne m ((B2.cell hml).trans HM.out))
  rintro e w3 ⟨v3, rfl, hv3, hb3⟩
  obtain ⟨p1, p2, p3⟩ := prs_one
  rw [p3] at hv3
  rw [p1, p2]
  have B3 := below_trans B2 hb3
  have H3 := hide hv3.aut
  obtain ⟨f3, g3, s3, rfl, i1, i2, i3⟩ := hv3.aut
  obtain ⟨a1, c1, rfl, -⟩ := i1
  obtain ⟨a2, c2, rfl, -⟩ := i2
  obtain ⟨a3, c3, rfl, -⟩ := i3
  have Hx := hide (one_new w3 (Obj.cells #[.int .i64 oneA.n, .int .i64 oneA.m, .slice a1 oneA.first.length c1, .slice a2 oneA.good.length c2, .slice a3 oneA.steps.length c3] 26))
  have HB4 := hide (below_trans B3 (below_new w3 (Obj.cells #[.int .i64 oneA.n, .int .i64 oneA.m, .slice a1 oneA.first.length c1, .slice a2 oneA.good.length c2, .slice a3 oneA.steps.length c3] 26)))
  have H4 := hide (H3.out.below (below_new w3 (Obj.cells #[.int .i64 oneA.n, .int .i64 oneA.m, .slice a1 oneA.first.length c1, .slice a2 oneA.good.length c2, .slice a3 oneA.steps.length c3] 26)))
  clear hv3 hb3 hb2 hb1 hv1 B2 B3 p1 p2 p3
  generalize hO : oneA.n = on at *
  generalize hO1 : oneA.m = om at *
  generalize hO2 : oneA.first.length = o1 at *
  generalize hO3 : oneA.good.length = o2 at *
  generalize hO4 : oneA.steps.length = o3 at *
  clear hO hO1 hO2 hO3 hO4
  go_wp2_with (fail)
  generalize w3.alloc (Obj.cells #[.int .i64 on, .int .i64 om, .slice a1 o1 c1, .slice a2 o2 c2, .slice a3 o3 c3] 26) = w4 at *
  go_fit (one_aut w4)
  rintro e w5 ⟨v5, rfl, hv5, hb5⟩
  go_wp2_with (fail)
  go_fit (trim_any hv5)
  rintro e w6 ⟨v6, T6, rfl, hv6, ht6, -, hb6⟩
  obtain rfl := trim_one (ht6 chk_one)
  have B6 := below_trans hb5 hb6
  have HB6 := hide (below_trans HB4.out B6)
  have H6 := hide hv6.aut
  obtain ⟨f6, g6, s6, rfl, i1, i2, i3⟩ := hv6.aut
  obtain ⟨b1, e1, rfl, -⟩ := i1
  obtain ⟨b2, e2, rfl, -⟩ := i2
  obtain ⟨b3, e3, rfl, -⟩ := i3
  have hb7 := below_new w6 (Obj.cells #[.int .i64 oneA.n, .int .i64 oneA.m, .slice b1 oneA.first.length e1, .slice b2 oneA.good.length e2, .slice b3 oneA.steps.length e3] 26)
  have hX7 := belowRow (below_trans B6 hb7) Hx.out
  have hY7 := one_new w6 (Obj.cells #[.int .i64 oneA.n, .int .i64 oneA.m, .slice b1 oneA.first.length e1, .slice b2 oneA.good.length e2, .slice b3 oneA.steps.length e3] 26)
  have HB7 := hide (below_trans HB6.out hb7)
  have HA7 := hide ((H4.out.below B6).below hb7)
  have HC7 := hide (H6.out.below hb7)
  rw [chk_one]
  clear hv6 ht6 hb6 hv5 hb5 B6 hb7 H3 H4 H6 HT HM Hx HB4 HB6
  have tb := textOne_beq
  generalize hO : oneA.n = pn at *
  generalize hO1 : oneA.m = pm at *
  generalize hO2 : oneA.first.length = p1 at *
  generalize hO3 : oneA.good.length = p2 at *
  generalize hO4 : oneA.steps.length = p3 at *
  clear hO hO1 hO2 hO3 hO4
  go_wp2_with (fail)
  generalize w6.alloc (Obj.cells #[.int .i64 pn, .int .i64 pm, .slice b1 p1 e1, .slice b2 p2 e2, .slice b3 p3 e3] 26) = w7 at *
  generalize w3.heap.size = xb at *
  generalize w6.heap.size = yb at *
  refine wp_region_orders [[0, 1, 2, 3, 4, 5, 6, 7, 8, 9, 10, 11, 12, 13, 14, 15, 16, 17, 18, 19, 20, 21, 22, 23, 24, 25, 26, 27, 28, 29], [0, 1, 2, 3, 4, 5, 6, 7, 8, 9, 10, 11, 12, 13, 14, 15, 16, 17, 18, 19, 20, 21, 22, 23, 24, 26, 25, 27, 28, 29], [0, 1, 2, 3, 4, 5, 6, 7, 8, 9, 10, 11, 12, 13, 14, 15, 16, 17, 18, 19, 21, 20, 22, 23, 24, 25, 26, 27, 28, 29], [0, 1, 2, 3, 4, 5, 6, 7, 8, 9, 10, 11, 12, 13, 14, 15, 16, 17, 18, 19, 21, 20, 22, 23, 24, 26, 25, 27, 28, 29]] (by kernel_rfl) (by kernel_rfl) ?_
  simp only [List.forall_mem_cons, List.filterMap_cons, List.filterMap_nil, List.getElem?_cons_succ, List.getElem?_cons_zero, List.not_mem_nil, false_implies, implies_true, and_true]
  refine ⟨?_, ?_, ?_, ?_⟩
  all_goals
    go_wp2_with (fail)
    go_fit (one_aut _)
    rintro e w8 ⟨v8, rfl, hv8, hb8⟩
    have B8 := below_trans (Below.drew (Below.refl w7.heap.size w7)) hb8
    clear hb8
    go_wp2_with (fail)
    go_fit (autoCheck_any hv8)
    rintro e w9 ⟨rfl, hb9⟩
    rw [chk_one]
    have B9 := below_trans B8 hb9
    have hX9 := belowRow B9 hX7
    have x0 := cell_of_row _ _ 0 _ _ _ hX9
    have x1 := cell_of_row _ _ 1 _ _ _ hX9
    have x2 := cell_of_row _ _ 2 _ _ _ hX9
    have x3 := cell_of_row _ _ 3 _ _ _ hX9
    have x4 := cell_of_row _ _ 4 _ _ _ hX9
    clear hb9 B8 hv8
    go_wp2_with (fail)
    go_fit (one_aut _)
    rintro e w10 ⟨v10, rfl, hv10, hb10⟩
    have B10 := below_trans B9 hb10
    have hX10 := belowRow B10 hX7
    clear x0 x1 x2 x3 x4
    have x0 := cell_of_row _ _ 0 _ _ _ hX10
    have x1 := cell_of_row _ _ 1 _ _ _ hX10
    have x2 := cell_of_row _ _ 2 _ _ _ hX10
    have x3 := cell_of_row _ _ 3 _ _ _ hX10
    have x4 := cell_of_row _ _ 4 _ _ _ hX10
    clear hb10 B9 hX9
    go_wp2_with (fail)
    go_fit (sameAuto_same (HA7.out.below B10) hv10)
    rintro e w11 ⟨rfl, hb11⟩
    have B11 := below_trans B10 hb11
    have hY11 := belowRow B11 hY7
    clear x0 x1 x2 x3 x4
    have y0 := cell_of_row _ _ 0 _ _ _ hY11
    have y1 := cell_of_row _ _ 1 _ _ _ hY11
    have y2 := cell_of_row _ _ 2 _ _ _ hY11
    have y3 := cell_of_row _ _ 3 _ _ _ hY11
    have y4 := cell_of_row _ _ 4 _ _ _ hY11
    clear hb11 B10 hX10 hv10
    go_wp2_with (fail)
    go_fit (one_aut _)
    rintro e w12 ⟨v12, rfl, hv12, hb12⟩
    have B12 := below_trans B11 hb12
    have hY12 := belowRow B12 hY7
    clear y0 y1 y2 y3 y4
    have y0 := cell_of_row _ _ 0 _ _ _ hY12
    have y1 := cell_of_row _ _ 1 _ _ _ hY12
    have y2 := cell_of_row _ _ 2 _ _ _ hY12
    have y3 := cell_of_row _ _ 3 _ _ _ hY12
    have y4 := cell_of_row _ _ 4 _ _ _ hY12
    clear hb12 B11 hY11
    go_wp2_with (fail)
    go_fit (sameAuto_same (HC7.out.below B12) hv12)
    rintro e w13 ⟨rfl, hb13⟩
    have B13 := below_trans HB7.out (below_trans B12 hb13)
    clear y0 y1 y2 y3 y4 hb13 B12 hY12 hv12
    go_wp2_with (fail)
    go_ret
    exact ⟨rfl, B13⟩
end Go.Proofs.YtpiacnnifdjlkaaDoor

/-
  AutoBack of the statements: true.
-/
namespace Go.Proofs.YtpiacnnifdjlkaaDoor
open Go.RowKit Go.Sort

theorem prs_prt {A : Aut} (hc : chkA A = 0) (hl : (prtA A).length ≤ 100000) : prsE (prtA A) = 0 ∧ prsA (prtA A) = A := by
  have h : readT (prtA A) = (A, 0) := readT_prt (right_of hc)
  have e1 : prsE (prtA A) = 0 := by
    unfold prsE
    rw [if_neg (by omega), h]
    exact hc
  refine ⟨e1, ?_⟩
  unfold prsA
  rw [if_pos e1, h]

theorem prs_ok {S : List UInt8} (h : prsE S = 0) : chkA (prsA S) = 0 ∧ prtA (prsA S) = S := by
  have ha : prsA S = (readT S).1 := by unfold prsA; rw [if_pos h]
  unfold prsE at h
  split at h
  · cases h
  · split at h
    · cases h
    · next h2 =>
      rw [ha]
      refine ⟨h, readT_back ?_⟩
      have : (readT S).2 = 0 := by omega
      rw [← this]

theorem prs_zero {S : List UInt8} (h : prsE S ≠ 0) : prsA S = zeroA := by
  unfold prsA
  rw [if_neg h]

set_option maxRecDepth 100000 in
set_option maxHeartbeats 4000000 in
theorem autoBack_any {w : World} {v : Value} {A : Aut} {S : List UInt8} {m : Int} (hv : AutV w v A) (ht : Lib.TabBelow Tryd.prog w.heap.size w "internal/strconv.uint64pow10" .u64 Lib.pow10Tab) (hm : w.cell? maxG = some (.int .i64 m)) :
    Calls Tryd.prog 5 #[v, .string ⟨S.toArray⟩] w fun e w' => e = .returned (.bool true) ∧ Below w.heap.size w w' := by
  have HT : Hid (∀ W, Below w.heap.size w W → Lib.TabIs Tryd.prog W "internal/strconv.uint64pow10" .u64 Lib.pow10Tab) := hide ht
  have HM := hide hm
  have hml := World.block_lt_of_cell? w _ hm
  have HV := hide hv
  obtain ⟨fv, gv, sv, rfl, i1, i2, i3⟩ := hv
  obtain ⟨a1, c1, rfl, -⟩ := i1
  obtain ⟨a2, c2, rfl, -⟩ := i2
  obtain ⟨a3, c3, rfl, -⟩ := i3
  clear ht hm
  have hbA := below_new w (Obj.cells #[.int .i64 A.n, .int .i64 A.m, .slice a1 A.first.length c1, .slice a2 A.good.length c2, .slice a3 A.steps.length c3] 26)
  have hxA := one_new w (Obj.cells #[.int .i64 A.n, .int .i64 A.m, .slice a1 A.first.length c1, .slice a2 A.good.length c2, .slice a3 A.steps.length c3] 26)
  have HbA := hide hbA
  have HxA := hide hxA
  clear hxA
  go_enter Tryd.func5, Tryd.ntmps5
  go_wp2_with (fail)
  go_fit (autoBegun_any (m := m) (fun W hb => HT.out W (below_trans HbA.out hb)) ((hbA.cell hml).trans HM.out))
  rintro e w1 ⟨rfl, hb1⟩
  have B1 := below_trans HbA.out hb1
  have hx1 := belowRow hb1 HxA.out
  have x0 := cell_of_row _ _ 0 _ _ _ hx1
  have x1 := cell_of_row _ _ 1 _ _ _ hx1
  have x2 := cell_of_row _ _ 2 _ _ _ hx1
  have x3 := cell_of_row _ _ 3 _ _ _ hx1
  have x4 := cell_of_row _ _ 4 _ _ _ hx1
  have HX1 := hide hx1
  have HV1 := hide (HV.out.below B1)
  clear hb1 hbA hx1
  go_wp2_with (fail)
  go_fit (autoPrint_any HV1.out (fun W hb => HT.out W (below_trans B1 hb)))
  rintro e w2 ⟨rfl, hb2⟩
  have B2 := below_trans B1 hb2
  have hx2 := belowRow hb2 HX1.out
  clear x0 x1 x2 x3 x4
  by_cases hc : chkA A = 0
  · rw [hc, if_pos rfl]
    have hsz : (⟨(prtA A).toArray⟩ : ByteArray).size = (prtA A).length := by simp [ByteArray.size]
    by_cases hl : (prtA A).length ≤ 100000
    · obtain ⟨r1, r2⟩ := prs_prt hc hl
      have hg : decide (((prtA A).length : Int) ≤ 100000) = true := decide_eq_true (by omega)
      have HP1 := hide (parse_any (w := w2) (prtA A) m ((B2.cell hml).trans HM.out))
      have HR1 := hide r1
      have HR2 := hide r2
      have HX2 := hide hx2
      have HV2 := hide (HV1.out.below hb2)
      generalize prtA A = T at *
      generalize T.length = TL at *
      clear hl r1 r2 hc hx2 hb2
      go_wp2_with (fail)
      go_fit HP1.out
      rintro e w3 ⟨v3, rfl, hv3, hb3⟩
      rw [HR1.out]
      rw [HR2.out] at hv3
      have B3 := below_trans B2 hb3
      have H3 := hide hv3.aut
      obtain ⟨f3, g3, s3, rfl, i1, i2, i3⟩ := hv3.aut
      obtain ⟨b1, e1, rfl, -⟩ := i1
      obtain ⟨b2, e2, rfl, -⟩ := i2
      obtain ⟨b3, e3, rfl, -⟩ := i3
      have hbn := below_new w3 (Obj.cells #[.int .i64 A.n, .int .i64 A.m, .slice b1 A.first.length e1, .slice b2 A.good.length e2, .slice b3 A.steps.length e3] 26)
      have hx3 := belowRow (below_trans hb3 hbn) HX2.out
      have hy3 := one_new w3 (Obj.cells #[.int .i64 A.n, .int .i64 A.m, .slice b1 A.first.length e1, .slice b2 A.good.length e2, .slice b3 A.steps.length e3] 26)
      have B4 := below_trans B3 hbn
      have HS := hide (sameAuto_same ((HV2.out.below hb3).below hbn) (H3.out.below hbn))
      have x0 := cell_of_row _ _ 0 _ _ _ hx3
      have x1 := cell_of_row _ _ 1 _ _ _ hx3
      have x2 := cell_of_row _ _ 2 _ _ _ hx3
      have x3 := cell_of_row _ _ 3 _ _ _ hx3
      have x4 := cell_of_row _ _ 4 _ _ _ hx3
      have y0 := cell_of_row _ _ 0 _ _ _ hy3
      have y1 := cell_of_row _ _ 1 _ _ _ hy3
      have y2 := cell_of_row _ _ 2 _ _ _ hy3
      have y3 := cell_of_row _ _ 3 _ _ _ hy3
      have y4 := cell_of_row _ _ 4 _ _ _ hy3
      clear hv3 hb3 hbn hx3 hy3 HR1 HR2 HP1
      go_wp2_with (fail)
      go_fit HS.out
      rintro e w5 ⟨rfl, hb5⟩
      have B5 := below_trans B4 hb5
      clear x0 x1 x2 x3 x4 y0 y1 y2 y3 y4 hb5 B4 HS
      go_wp2_with (fail)
      go_fit (parse_any S m ((B5.cell hml).trans HM.out))
      rintro e wp ⟨vp, rfl, hvp, hbp⟩
      have BP := below_trans B5 hbp
      have HP := hide hvp.aut
      obtain ⟨fp, gp, sp, rfl, i1, i2, i3⟩ := hvp.aut
      obtain ⟨p1, d1, rfl, -⟩ := i1
      obtain ⟨p2, d2, rfl, -⟩ := i2
      obtain ⟨p3, d3, rfl, -⟩ := i3
      have hbq := below_new wp (Obj.cells #[.int .i64 (prsA S).n, .int .i64 (prsA S).m, .slice p1 (prsA S).first.length d1, .slice p2 (prsA S).good.length d2, .slice p3 (prsA S).steps.length d3] 26)
      have HBQ := hide (below_trans BP hbq)
      have HPQ := hide (HP.out.below hbq)
      clear hvp hbp BP hbq
      by_cases he : prsE S = 0
      · obtain ⟨r1, r2⟩ := prs_ok he
        rw [he]
        have HR1 := hide r1
        have HR2 := hide r2
        clear he r1 r2
        go_wp2_with (fail)
        go_fit (autoPrint_any HPQ.out (fun W hb => HT.out W (below_trans HBQ.out hb)))
        rw [HR1.out, if_pos rfl, HR2.out]
        rintro e wt ⟨rfl, hbt⟩
        have BT := below_trans HBQ.out hbt
        have hss : (S == S) = true := by simp
        clear hbt
        go_wp2_with (fail)
        go_ret
        exact ⟨by first | rfl | (rw [hss]), BT⟩
      · have hz := prs_zero he
        have hn0 : (prsA S).n = 0 := by rw [hz]; rfl
        have hne : (prsE S != 0) = true := by simpa using he
        rw [hn0]
        generalize prsE S = pe at *
        generalize (prsA S).m = pm at *
        generalize (prsA S).first.length = l1 at *
        generalize (prsA S).good.length = l2 at *
        generalize (prsA S).steps.length = l3 at *
        rw [hn0] at HBQ
        clear hz hn0 he HPQ HP
        go_wp2_with (fail)
        go_ret
        exact ⟨rfl, HBQ.out⟩
    · have hg : decide (((prtA A).length : Int) ≤ 100000) = false := decide_eq_false (by omega)
      generalize prtA A = T at *
      generalize T.length = TL at *
      clear hl hc hx2 hb2
      go_wp2_with (fail)
      go_fit (parse_any S m ((B2.cell hml).trans HM.out))
      rintro e wp ⟨vp, rfl, hvp, hbp⟩
      have BP := below_trans B2 hbp
      have HP := hide hvp.aut
      obtain ⟨fp, gp, sp, rfl, i1, i2, i3⟩ := hvp.aut
      obtain ⟨p1, d1, rfl, -⟩ := i1
      obtain ⟨p2, d2, rfl, -⟩ := i2
      obtain ⟨p3, d3, rfl, -⟩ := i3
      have hbq := below_new wp (Obj.cells #[.int .i64 (prsA S).n, .int .i64 (prsA S).m, .slice p1 (prsA S).first.length d1, .slice p2 (prsA S).good.length d2, .slice p3 (prsA S).steps.length d3] 26)
      have HBQ := hide (below_trans BP hbq)
      have HPQ := hide (HP.out.below hbq)
      clear hvp hbp BP hbq
      by_cases he : prsE S = 0
      · obtain ⟨r1, r2⟩ := prs_ok he
        rw [he]
        have HR1 := hide r1
        have HR2 := hide r2
        clear he r1 r2
        go_wp2_with (fail)
        go_fit (autoPrint_any HPQ.out (fun W hb => HT.out W (below_trans HBQ.out hb)))
        rw [HR1.out, if_pos rfl, HR2.out]
        rintro e wt ⟨rfl, hbt⟩
        have BT := below_trans HBQ.out hbt
        have hss : (S == S) = true := by simp
        clear hbt
        go_wp2_with (fail)
        go_ret
        exact ⟨by first | rfl | (rw [hss]), BT⟩
      · have hz := prs_zero he
        have hn0 : (prsA S).n = 0 := by rw [hz]; rfl
        have hne : (prsE S != 0) = true := by simpa using he
        rw [hn0]
        generalize prsE S = pe at *
        generalize (prsA S).m = pm at *
        generalize (prsA S).first.length = l1 at *
        generalize (prsA S).good.length = l2 at *
        generalize (prsA S).steps.length = l3 at *
        rw [hn0] at HBQ
        clear hz hn0 he HPQ HP
        go_wp2_with (fail)
        go_ret
        exact ⟨rfl, HBQ.out⟩
  · rw [if_neg hc]
    have hd : (chkA A == 0) = false := by rw [beq_eq_false_iff_ne]; exact hc
    generalize chkA A = c at *
    clear hc hx2 hb2
    go_wp2_with (fail)
    go_fit (parse_any S m ((B2.cell hml).trans HM.out))
    rintro e wp ⟨vp, rfl, hvp, hbp⟩
    have BP := below_trans B2 hbp
    have HP := hide hvp.aut
    obtain ⟨fp, gp, sp, rfl, i1, i2, i3⟩ := hvp.aut
    obtain ⟨p1, d1, rfl, -⟩ := i1
    obtain ⟨p2, d2, rfl, -⟩ := i2
    obtain ⟨p3, d3, rfl, -⟩ := i3
    have hbq := below_new wp (Obj.cells #[.int .i64 (prsA S).n, .int .i64 (prsA S).m, .slice p1 (prsA S).first.length d1, .slice p2 (prsA S).good.length d2, .slice p3 (prsA S).steps.length d3] 26)
    have HBQ := hide (below_trans BP hbq)
    have HPQ := hide (HP.out.below hbq)
    clear hvp hbp BP hbq
    by_cases he : prsE S = 0
    · obtain ⟨r1, r2⟩ := prs_ok he
      rw [he]
      have HR1 := hide r1
      have HR2 := hide r2
      clear he r1 r2
      go_wp2_with (fail)
      go_fit (autoPrint_any HPQ.out (fun W hb => HT.out W (below_trans HBQ.out hb)))
      rw [HR1.out, if_pos rfl, HR2.out]
      rintro e wt ⟨rfl, hbt⟩
      have BT := below_trans HBQ.out hbt
      have hss : (S == S) = true := by simp
      clear hbt
      go_wp2_with (fail)
      go_ret
      exact ⟨by first | rfl | (rw [hss]), BT⟩
    · have hz := prs_zero he
      have hn0 : (prsA S).n = 0 := by rw [hz]; rfl
      have hne : (prsE S != 0) = true := by simpa using he
      rw [hn0]
      generalize prsE S = pe at *
      generalize (prsA S).m = pm at *
      generalize (prsA S).first.length = l1 at *
      generalize (prsA S).good.length = l2 at *
      generalize (prsA S).steps.length = l3 at *
      rw [hn0] at HBQ
      clear hz hn0 he HPQ HP
      go_wp2_with (fail)
      go_ret
      exact ⟨rfl, HBQ.out⟩
end Go.Proofs.YtpiacnnifdjlkaaDoor

namespace Go.Proofs.YtpiacnnifdjlkaaDoor
open Go.RowKit Go.Sort

/-- The automaton as the reference has it ahead of line i: marks are laid with the size. -/
def refA (i : Nat) (A : Aut) : Aut := if i = 1 ∨ i = 2 then { A with good := markL A.n.toNat [] } else A

theorem cut32_any (l : List UInt8) (hl : l.length ≤ 100000) (w : World) : Calls Tryd.prog 57 #[.string ⟨l.toArray⟩, .int .u8 32] w fun e w' => ∃ v, e = .returned v ∧ StrSl w' v (spl 32 l) ∧ Below w.heap.size w w' := cutR_any l 32 hl w
theorem cut10_any (l : List UInt8) (hl : l.length ≤ 100000) (w : World) : Calls Tryd.prog 57 #[.string ⟨l.toArray⟩, .int .u8 10] w fun e w' => ∃ v, e = .returned v ∧ StrSl w' v (spl 10 l) ∧ Below w.heap.size w w' := cutR_any l 10 hl w

theorem parsed_err {S : List UInt8} {i : Nat} (hS : S.length ≤ 100000) (h : (zeroA, i + 1) = readT S) : prsE S = 1 ∧ prsN S = i + 1 ∧ prsA S = zeroA := by
  have e1 : prsE S = 1 := by
    unfold prsE
    rw [if_neg (by omega), ← h, if_pos (by simp)]
  refine ⟨e1, ?_, ?_⟩
  · unfold prsN
    rw [if_neg (by omega), ← h]
  · unfold prsA
    rw [e1]
    rfl

theorem parsed_end {S : List UInt8} {A : Aut} (hS : S.length ≤ 100000) (h : (A, 0) = readT S) : prsE S = chkA A ∧ prsN S = 0 ∧ (chkA A = 0 → prsA S = A) ∧ (chkA A ≠ 0 → prsA S = zeroA) := by
  have e1 : prsE S = chkA A := by
    unfold prsE
    rw [if_neg (by omega), ← h, if_neg (by simp)]
  refine ⟨e1, ?_, fun hc => ?_, fun hc => ?_⟩
  · unfold prsN
    rw [if_neg (by omega), ← h]
  · unfold prsA
    rw [e1, if_pos hc, ← h]
  · unfold prsA
    rw [e1, if_neg hc]

theorem drop_last {Ls : List (List UInt8)} {i : Nat} (h : i + 1 = Ls.length) : Ls.drop i = [Ls.getD i []] := by
  rw [List.drop_eq_getElem_cons (by omega), List.drop_of_length_le (by omega)]
  simp [List.getD, show i < Ls.length by omega]

theorem drop_more {Ls : List (List UInt8)} {i : Nat} (h : i + 1 < Ls.length) : Ls.drop i = Ls.getD i [] :: Ls.getD (i + 1) [] :: Ls.drop (i + 2) := by
  rw [List.drop_eq_getElem_cons (by omega), List.drop_eq_getElem_cons h]
  simp [List.getD, h, show i < Ls.length by omega]

theorem readL_more {Ls : List (List UInt8)} {i : Nat} {A : Aut} (h : i + 1 < Ls.length) : readL i A (Ls.drop i) = if lineB i (spl 32 (Ls.getD i [])) A = true then readL (i + 1) (lineA i (spl 32 (Ls.getD i [])) A) (Ls.drop (i + 1)) else (zeroA, i + 1) := by
  have e : Ls.drop (i + 1) = Ls.getD (i + 1) [] :: Ls.drop (i + 2) := by
    rw [List.drop_eq_getElem_cons h]
    simp [List.getD, h]
  rw [drop_more h, readL, e]

theorem readL_one {Ls : List (List UInt8)} {i : Nat} {A : Aut} (h : i + 1 = Ls.length) : readL i A (Ls.drop i) = if 3 ≤ i ∧ Ls.getD i [] = [] then (A, 0) else (zeroA, i + 1) := by
  rw [drop_last h, readL]

theorem strSl_get {w : World} {b off cap n : Nat} {Ts : List (List UInt8)} (h : StrSl w (.slice (some ⟨b, off, none⟩) n cap) Ts) {i : Nat} (hi : i < Ts.length) : w.cell? ⟨b, off + i, none⟩ = some (.string ⟨(Ts.getD i []).toArray⟩) := by
  obtain ⟨a', cap', e, _, hzz, _⟩ := h
  injection e with e1 e2 e3
  subst e1
  rcases hzz with hzz | ⟨b', off', e, hcell⟩
  · rw [hzz] at hi; simp at hi
  · injection e with e
    injection e with e1 e2
    subst e1
    subst e2
    exact hcell i hi

theorem cell_kept' {B : Nat} {w w' : World} {b o : Nat} {v : Value} (h : w.cell? ⟨b, o, none⟩ = some v) (hb : Below B w w') (hB : b < B) : w'.cell? ⟨b, o, none⟩ = some v := (hb.cell (p := ⟨b, o, none⟩) hB).trans h

/-- The size is laid, and the marks. -/
theorem RA.sized {w : World} {base pb N : Nat} {m : Int} {cs : Array Value} (h : w.heap[pb]? = some (.cells cs 26)) (hcs : cs.size = 5) (hb : base ≤ pb) (hN : N ≤ 300) :
    RA ((fivePut w pb (.int .i64 (N : Nat)) (.int .i64 m) (.slice none 0 0) (.slice (some ⟨w.heap.size, 0, none⟩) N N) (.slice none 0 0)).alloc (.cells (falses N) 4)) base pb (.slice none 0 0) (.slice (some ⟨w.heap.size, 0, none⟩) N N) (.slice none 0 0) ⟨(N : Nat), m, [], markL N [], []⟩ := by
  obtain ⟨z0, z1, z2, z3, z4, rfl⟩ := five_of hcs
  have hlt : pb < w.heap.size := (Array.getElem?_eq_some_iff.1 h).1
  have hsz := fivePut_size w pb (.int .i64 (N : Nat)) (.int .i64 m) (.slice none 0 0) (.slice (some ⟨w.heap.size, 0, none⟩) N N) (.slice none 0 0)
  have hf := fivePut_box h (.int .i64 (N : Nat)) (.int .i64 m) (.slice none 0 0) (.slice (some ⟨w.heap.size, 0, none⟩) N N) (.slice none 0 0)
  have hn := one_new (fivePut w pb (.int .i64 (N : Nat)) (.int .i64 m) (.slice none 0 0) (.slice (some ⟨w.heap.size, 0, none⟩) N N) (.slice none 0 0)) (.cells (falses N) 4)
  rw [hsz] at hn
  refine ⟨(heap_alloc_old _ _ (by rw [hsz]; exact hlt)).trans hf, World.ownsRow_nil _ _ _ _, ?_, World.ownsRow_nil _ _ _ _, hb⟩
  rw [markL_nil]
  exact ⟨by simp, Or.inr ⟨w.heap.size, N, falses N, by simp, by omega, hn, by simp, by unfold maxLen; omega, by simp [falses], by simp [falses]⟩⟩
end Go.Proofs.YtpiacnnifdjlkaaDoor
