/-
  WordSame of the statements: true.
-/
import Derived.Test.YtpiacnnifdjlkaaDoorJj
import Derived.Test.YtpiacnnifdjlkaaDoorIj
import Derived.Test.YtpiacnnifdjlkaaDoorCg
/-
  What Trim of package auto answers.
-/
namespace Go.Proofs.YtpiacnnifdjlkaaDoor
open Go.RowKit Go.Sort

/-- What Trim leaves. -/
def Trimmed (A : Aut) (w : World) (e : Ending) (w' : World) : Prop := ∃ v T, e = .returned (.tuple #[v, .int .i64 (chkA A)]) ∧ AutO w' w.heap.size v T ∧ (chkA A = 0 → TrimR A T) ∧ (chkA A ≠ 0 → T = zeroA) ∧ Below w.heap.size w w'

theorem onlyA_trim {A : Aut} {N : Nat} {f : Nat → Bool} (hN : (N : Int) = A.n) (h0 : A.first ≠ []) (hf : ∀ q, q < N → (f q = true ↔ ReachA A q)) : TrimR A (onlyA f N A) := by
  have e : A.n.toNat = N := by omega
  exact Or.inr ⟨h0, f, by rw [e]; exact hf, by rw [e]⟩

theorem reach_first {A : Aut} {N : Nat} {f : Nat → Bool} (hA : Right A) (hN : (N : Int) = A.n) (hf : ∀ q, q < N → (f q = true ↔ ReachA A q)) : ∀ x ∈ A.first, f x.toNat = true := by
  intro x hx
  have hb := hA.first x hx
  obtain ⟨i, hi, rfl⟩ := List.mem_iff_getElem.1 hx
  refine (hf _ (by omega)).2 ⟨i, hi, 0, ?_⟩
  show (A.first.getD i 0).toNat = _
  simp [List.getD, hi]

theorem reach_steps {A : Aut} {N : Nat} {f : Nat → Bool} (hA : Right A) (hN : (N : Int) = A.n) (hf : ∀ q, q < N → (f q = true ↔ ReachA A q)) : ∀ s ∈ A.steps, f s.f.toNat = true → f s.t.toNat = true := by
  intro s hs h
  have hb := hA.steps s hs
  exact (hf _ (by omega)).2 (((hf _ (by omega)).1 h).step ⟨s, hs, by omega, by omega⟩)

theorem setCell_size (w : World) (p : Addr) (v : Value) : (w.setCell p v).heap.size = w.heap.size := by simp [World.setCell]

theorem fivePut_size (w : World) (b : Nat) (v0 v1 v2 v3 v4 : Value) : (fivePut w b v0 v1 v2 v3 v4).heap.size = w.heap.size := by
  unfold fivePut
  rw [setCell_size, setCell_size, setCell_size, setCell_size, setCell_size]

set_option maxRecDepth 100000 in
set_option maxHeartbeats 2000000 in
theorem trim_any {w : World} {v : Value} {A : Aut} (hv : AutV w v A) : Calls Tryd.prog 14 #[v] w fun e w' => Trimmed A w e w' := by
  have HV := hide hv
  obtain ⟨fv, gv, sv, rfl, hF, hG, hS⟩ := hv
  have HF := hide hF
  have HG := hide hG
  have HS := hide hS
  obtain ⟨a1, c1, rfl, hm1, -⟩ := hF
  obtain ⟨a2, c2, rfl, hm2, -⟩ := hG
  obtain ⟨a3, c3, rfl, hm3, -⟩ := hS
  unfold maxLen at hm1 hm2 hm3
  have HC : Hid (∀ W, Below w.heap.size w W → Calls Tryd.prog 19 #[.agg #[.int .i64 A.n, .int .i64 A.m, .slice a1 A.first.length c1, .slice a2 A.good.length c2, .slice a3 A.steps.length c3]] W fun e w' => e = .returned (.int .i64 (chkA A)) ∧ Below W.heap.size W w') := fun W hb => autoCheck_any (HV.out.below hb)
  have q := two_alloc w (Obj.cells #[.int .i64 A.n, .int .i64 A.m, .slice a1 A.first.length c1, .slice a2 A.good.length c2, .slice a3 A.steps.length c3] 26) (Obj.cells noA 26)
  have HB : Hid (Below w.heap.size w ((w.alloc (Obj.cells #[.int .i64 A.n, .int .i64 A.m, .slice a1 A.first.length c1, .slice a2 A.good.length c2, .slice a3 A.steps.length c3] 26)).alloc (Obj.cells noA 26))) := (by repeat (first | exact Below.refl _ _ | assumption | refine below_drewN ?_ _ | refine Below.drew ?_ | refine Below.alloc ?_ (by simp <;> omega) _ | refine below_trans ?_ (by assumption)))
  have HQ := hide q
  clear q
  go_enter Tryd.func14, Tryd.ntmps14
  go_wp2_with (fail)
  refine (HC.out _ HB.out).mono ?_
  rintro e w1 ⟨rfl, hb1⟩
  have hbx := belowRow hb1 HQ.out.1
  have hres := belowRow hb1 HQ.out.2
  have HB1 := hide (below_trans HB.out hb1)
  unfold noA at hres
  have y0 := cell_of_row _ _ 0 _ _ _ hres
  have y1 := cell_of_row _ _ 1 _ _ _ hres
  have y2 := cell_of_row _ _ 2 _ _ _ hres
  have y3 := cell_of_row _ _ 3 _ _ _ hres
  have y4 := cell_of_row _ _ 4 _ _ _ hres
  have z0 := frozen_of_row _ _ 0 _ _ hres
  have z1 := frozen_of_row _ _ 1 _ _ hres
  have z2 := frozen_of_row _ _ 2 _ _ hres
  have z3 := frozen_of_row _ _ 3 _ _ hres
  have z4 := frozen_of_row _ _ 4 _ _ hres
  clear hb1 HQ HB
  by_cases hc : chkA A = 0
  · have hA := right_of hc
    have HFew := hide (first_few hc)
    have HCk := hide hc
    rw [hc]
    clear hc
    have x0 := cell_of_row _ _ 0 _ _ _ hbx
    have x1 := cell_of_row _ _ 1 _ _ _ hbx
    have x2 := cell_of_row _ _ 2 _ _ _ hbx
    have x3 := cell_of_row _ _ 3 _ _ _ hbx
    have x4 := cell_of_row _ _ 4 _ _ _ hbx
    by_cases h0 : A.first = []
    · have hd : ((A.first.length : Int) == 0) = true := by rw [h0]; rfl
      have HT := hide (show TrimR A ⟨1, A.m, [], [false], []⟩ from Or.inl ⟨h0, rfl⟩)
      have hlt1 : w.heap.size + 1 < w1.heap.size := (Array.getElem?_eq_some_iff.1 hres).1
      have hF := fivePut_box hres (.int .i64 1) (.int .i64 A.m) (.slice none 0 0) (.slice (some ⟨w1.heap.size, 0, none⟩) 1 1) (.slice none 0 0)
      have HBF := hide ((fivePut_below HB1.out (show w.heap.size ≤ w.heap.size + 1 by omega) (.int .i64 1) (.int .i64 A.m) (.slice none 0 0) (.slice (some ⟨w1.heap.size, 0, none⟩) 1 1) (.slice none 0 0)).alloc (by rw [fivePut_size]; omega) (Obj.cells #[.bool false] 4))
      have HN := hide (one_new (fivePut w1 (w.heap.size + 1) (.int .i64 1) (.int .i64 A.m) (.slice none 0 0) (.slice (some ⟨w1.heap.size, 0, none⟩) 1 1) (.slice none 0 0)) (Obj.cells #[.bool false] 4))
      have hsz5 : (fivePut w1 (w.heap.size + 1) (.int .i64 1) (.int .i64 A.m) (.slice none 0 0) (.slice (some ⟨w1.heap.size, 0, none⟩) 1 1) (.slice none 0 0)).heap.size = w1.heap.size := fivePut_size _ _ _ _ _ _ _
      have HN2 := HN.out
      rw [hsz5] at HN2
      have HOw := hide (show ((fivePut w1 (w.heap.size + 1) (.int .i64 1) (.int .i64 A.m) (.slice none 0 0) (.slice (some ⟨w1.heap.size, 0, none⟩) 1 1) (.slice none 0 0)).alloc (Obj.cells #[.bool false] 4)).ownsRow w.heap.size 4 1 (.slice (some ⟨w1.heap.size, 0, none⟩) 1 1) 1 [.bool false] from ⟨rfl, Or.inr ⟨w1.heap.size, 1, #[.bool false], rfl, by omega, HN2, Nat.le_refl _, by unfold maxLen; omega, rfl, rfl⟩⟩)
      have f0 := cell_of_row _ _ 0 _ _ _ hF
      have f1 := cell_of_row _ _ 1 _ _ _ hF
      have f2 := cell_of_row _ _ 2 _ _ _ hF
      have f3 := cell_of_row _ _ 3 _ _ _ hF
      have f4 := cell_of_row _ _ 4 _ _ _ hF
      unfold fivePut at f0 f1 f2 f3 f4 HBF HOw
      clear hF hres hbx h0 HN hsz5 HN2
      go_wp2_with (fail)
      refine bodyPost_ret (v := .tuple #[.agg #[.int .i64 1, .int .i64 A.m, .slice none 0 0, .slice (some ⟨w1.heap.size, 0, none⟩) 1 1, .slice none 0 0], .int .i64 0]) (by simp [results, Tryd.results14, go_sem, f0, f1, f2, f3, f4, hlt1]) rfl ⟨.agg #[.int .i64 1, .int .i64 A.m, .slice none 0 0, .slice (some ⟨w1.heap.size, 0, none⟩) 1 1, .slice none 0 0], ⟨1, A.m, [], [false], []⟩, ?_, ?_, fun _ => HT.out, fun h => absurd HCk.out h, HBF.out⟩
      · rw [HCk.out]
      · exact ⟨_, _, _, rfl, World.ownsRow_nil _ _ _ _, HOw.out, World.ownsRow_nil _ _ _ _⟩
    · have hd : ((A.first.length : Int) == 0) = false := by rw [beq_eq_false_iff_ne]; have := List.length_pos_iff.2 h0; omega
      obtain ⟨N, hN⟩ := Int.eq_ofNat_of_zero_le (show 0 ≤ A.n by have := hA.n1; omega)
      have HN := hide hN.symm
      have HRe : Hid (∀ W, Below w.heap.size w W → Calls Tryd.prog 49 #[.agg #[.int .i64 N, .int .i64 A.m, .slice a1 A.first.length c1, .slice a2 A.good.length c2, .slice a3 A.steps.length c3]] W fun e w' => ∃ g f, e = .returned (.slice (some ⟨g, 0, none⟩) N N) ∧ BR w' g N f ∧ (∀ q, q < N → (f q = true ↔ ReachA A q)) ∧ Below W.heap.size W w') := fun W hb => reached_any N A.m a1 a3 _ c1 c3 hA HN.out (HF.out.below hb) (HS.out.below hb) ⟨_, _, _, rfl⟩
      have HOn : Hid (∀ W g f, Below w.heap.size w W → BR W g N f → (∀ q, q < N → (f q = true ↔ ReachA A q)) → Calls Tryd.prog 48 #[.agg #[.int .i64 N, .int .i64 A.m, .slice a1 A.first.length c1, .slice a2 A.good.length c2, .slice a3 A.steps.length c3], .slice (some ⟨g, 0, none⟩) N N] W fun e w' => ∃ v, e = .returned v ∧ AutO w' W.heap.size v (onlyA f N A) ∧ Below W.heap.size W w') := fun W g f hb hBR hf => only_any (HF.out.below hb) (HG.out.below hb) (HS.out.below hb) hA HN.out hBR HFew.out (reach_first hA HN.out hf) (reach_steps hA HN.out hf)
      rw [hN] at hbx x0 x1 x2 x3 x4 ⊢
      clear hA
      go_wp2_with (fail)
      have HNe := hide h0
      clear h0 hd
      refine wp_region_orders [[0, 1, 2, 3, 4, 5], [1, 0, 2, 3, 4, 5], [1, 2, 0, 3, 4, 5]] (by kernel_rfl) (by kernel_rfl) ?_
      simp only [List.forall_mem_cons, List.filterMap_cons, List.filterMap_nil, List.getElem?_cons_succ, List.getElem?_cons_zero, List.not_mem_nil, false_implies, implies_true, and_true]
      refine ⟨?_, ?_, ?_⟩
      all_goals
        go_wp2_with (fail)
        refine (HRe.out _ (HB1.out.drew)).mono ?_
        rintro e w2 ⟨g, f, rfl, hBR, hf, hb2⟩
        have hb2' := below_trans (Below.drew (Below.refl w1.heap.size w1)) hb2
        have hbx2 := belowRow hb2' hbx
        have hres2 := belowRow hb2' hres
        have HB2 := hide (below_trans HB1.out hb2')
        clear hb2 hb2' x0 x1 x2 x3 x4 y0 y1 y2 y3 y4 z0 z1 z2 z3 z4
        have x0 := cell_of_row _ _ 0 _ _ _ hbx2
        have x1 := cell_of_row _ _ 1 _ _ _ hbx2
        have x2 := cell_of_row _ _ 2 _ _ _ hbx2
        have x3 := cell_of_row _ _ 3 _ _ _ hbx2
        have x4 := cell_of_row _ _ 4 _ _ _ hbx2
        go_wp2_with (fail)
        clear x0 x1 x2 x3 x4 hbx2
        refine (HOn.out w2 g f HB2.out hBR hf).mono ?_
        rintro e w3 ⟨v3, rfl, hO, hb3⟩
        have HO := hide hO
        have HT := hide (onlyA_trim HN.out HNe.out hf)
        have hlt2 : w.heap.size + 1 < w2.heap.size := (Array.getElem?_eq_some_iff.1 hres2).1
        have hres3 := belowRow hb3 hres2
        have HB3 := hide (below_trans HB2.out hb3)
        have y0 := cell_of_row _ _ 0 _ _ _ hres3
        have y1 := cell_of_row _ _ 1 _ _ _ hres3
        have y2 := cell_of_row _ _ 2 _ _ _ hres3
        have y3 := cell_of_row _ _ 3 _ _ _ hres3
        have y4 := cell_of_row _ _ 4 _ _ _ hres3
        have z0 := frozen_of_row _ _ 0 _ _ hres3
        have z1 := frozen_of_row _ _ 1 _ _ hres3
        have z2 := frozen_of_row _ _ 2 _ _ hres3
        have z3 := frozen_of_row _ _ 3 _ _ hres3
        have z4 := frozen_of_row _ _ 4 _ _ hres3
        clear hb3 hf hBR hres2
        generalize onlyA f N A = O at *
        obtain ⟨fv3, gv3, sv3, rfl, o1, o2, o3⟩ := hO
        obtain ⟨b1, e1, rfl, -⟩ := intSl_of_owns o1
        obtain ⟨b2, e2, rfl, -⟩ := boolSl_of_owns o2
        obtain ⟨b3, e3, rfl, -⟩ := stepSl_of_owns o3
        clear o1 o2 o3
        have hF := fivePut_box hres3 (.int .i64 O.n) (.int .i64 O.m) (.slice b1 O.first.length e1) (.slice b2 O.good.length e2) (.slice b3 O.steps.length e3)
        have HAV := hide (HO.out.five hres3 (.int .i64 O.n) (.int .i64 O.m) (.slice b1 O.first.length e1) (.slice b2 O.good.length e2) (.slice b3 O.steps.length e3))
        have HBF := hide (fivePut_below HB3.out (show w.heap.size ≤ w.heap.size + 1 by omega) (.int .i64 O.n) (.int .i64 O.m) (.slice b1 O.first.length e1) (.slice b2 O.good.length e2) (.slice b3 O.steps.length e3))
        have f0 := cell_of_row _ _ 0 _ _ _ hF
        have f1 := cell_of_row _ _ 1 _ _ _ hF
        have f2 := cell_of_row _ _ 2 _ _ _ hF
        have f3 := cell_of_row _ _ 3 _ _ _ hF
        have f4 := cell_of_row _ _ 4 _ _ _ hF
        unfold fivePut at f0 f1 f2 f3 f4 HAV HBF
        clear hF hres3
        go_wp2_with (fail)
        refine bodyPost_ret (v := .tuple #[.agg #[.int .i64 O.n, .int .i64 O.m, .slice b1 O.first.length e1, .slice b2 O.good.length e2, .slice b3 O.steps.length e3], .int .i64 0]) (by simp [results, Tryd.results14, go_sem, f0, f1, f2, f3, f4]) rfl ⟨.agg #[.int .i64 O.n, .int .i64 O.m, .slice b1 O.first.length e1, .slice b2 O.good.length e2, .slice b3 O.steps.length e3], O, ?_, ?_, fun _ => HT.out, fun h => absurd HCk.out h, HBF.out⟩
        · rw [HCk.out]
        · exact HAV.out.lower (by omega)
  · have hd : (chkA A != 0) = true := by simpa using hc
    have HCk := hide hc
    generalize hck : chkA A = c at *
    have HCe := hide hck
    clear hck hbx
    have hF := fivePut_box hres (.int .i64 0) (.int .i64 0) (.slice none 0 0) (.slice none 0 0) (.slice none 0 0)
    have HBF := hide (fivePut_below HB1.out (show w.heap.size ≤ w.heap.size + 1 by omega) (.int .i64 0) (.int .i64 0) (.slice none 0 0) (.slice none 0 0) (.slice none 0 0))
    have f0 := cell_of_row _ _ 0 _ _ _ hF
    have f1 := cell_of_row _ _ 1 _ _ _ hF
    have f2 := cell_of_row _ _ 2 _ _ _ hF
    have f3 := cell_of_row _ _ 3 _ _ _ hF
    have f4 := cell_of_row _ _ 4 _ _ _ hF
    unfold fivePut at f0 f1 f2 f3 f4 HBF
    clear hF hres hc
    go_wp2_with (fail)
    refine bodyPost_ret (v := .tuple #[.agg #[.int .i64 0, .int .i64 0, .slice none 0 0, .slice none 0 0, .slice none 0 0], .int .i64 c]) (by simp [results, Tryd.results14, go_sem, f0, f1, f2, f3, f4]) rfl ⟨.agg #[.int .i64 0, .int .i64 0, .slice none 0 0, .slice none 0 0, .slice none 0 0], zeroA, ?_, autO_zero _ _, fun h => absurd (HCe.out.symm.trans h) HCk.out, fun _ => rfl, HBF.out⟩
    rw [HCe.out]
end Go.Proofs.YtpiacnnifdjlkaaDoor

/-
  What autoBegun of the statements needs.
-/
namespace Go.Proofs.YtpiacnnifdjlkaaDoor
open Go.RowKit Go.Sort

theorem one_aut (w : World) : Calls Tryd.prog 53 #[] w fun e w' => ∃ v, e = .returned v ∧ AutV w' v oneA ∧ Below w.heap.size w w' := by
  refine (one_any w).mono ?_
  rintro e w' ⟨g1, g2, g3, rfl, h1, h2, h3, h4, h5, hb⟩
  exact ⟨_, rfl, autV_one h1 h2 h3 h4 h5, hb⟩

theorem chk_one : chkA oneA = 0 := by decide

theorem itoa_dig {z : Int} (h0 : 0 ≤ z) (h1 : z < 10) : Lib.itoa z = [UInt8.ofNat (48 + z.toNat)] := by
  rw [itoa_nat h0, Lib.decDigits_one (by omega)]

def textOne : List UInt8 := [115, 116, 97, 116, 101, 115, 32, 49, 32, 108, 101, 116, 116, 101, 114, 115, 32, 50, 10, 102, 105, 114, 115, 116, 32, 48, 10, 103, 111, 111, 100, 32, 48, 10, 48, 32, 48, 32, 48, 10]

theorem prt_one : prtA oneA = textOne := by
  have i0 : Lib.itoa 0 = [48] := itoa_dig (by omega) (by omega)
  have i1 : Lib.itoa 1 = [49] := itoa_dig (by omega) (by omega)
  have i2 : Lib.itoa 2 = [50] := itoa_dig (by omega) (by omega)
  have hg : goods oneA.good oneA.good.length = [0] := rfl
  unfold prtA
  rw [hg]
  simp [headT, oneA, numsT, stepT, i0, i1, i2, textOne]

theorem prs_one : prsE textOne = 0 ∧ prsN textOne = 0 ∧ prsA textOne = oneA := by
  have h : readT textOne = (oneA, 0) := by rw [← prt_one]; exact readT_prt (right_of chk_one)
  have e1 : prsE textOne = 0 := by
    unfold prsE
    rw [if_neg (by decide), h]
    exact chk_one
  refine ⟨e1, ?_, ?_⟩
  · unfold prsN
    rw [if_neg (by decide), h]
  · unfold prsA
    rw [if_pos e1, h]

theorem trim_one {T : Aut} (h : TrimR oneA T) : T = oneA := by
  rcases h with ⟨h, _⟩ | ⟨_, f, hf, rfl⟩
  · cases h
  · have h0 : f 0 = true := (hf 0 (by decide)).2 ⟨0, by decide, 0, rfl⟩
    have hn : oneA.n.toNat = 1 := rfl
    rw [hn]
    have r0 : rk f 0 = 0 := rfl
    have r1 : rk f 1 = 1 := by rw [show (1 : Nat) = 0 + 1 from rfl, rk_succ, if_pos h0, r0]
    have k1 : keptGood f oneA.good 1 = [true] := by rw [show (1 : Nat) = 0 + 1 from rfl, keptGood_succ, if_pos h0]; rfl
    unfold onlyA
    rw [r1, k1]
    simp [keptFirst, keptSteps, keptStep, oneA, h0, r0]
end Go.Proofs.YtpiacnnifdjlkaaDoor

/-
  What autoBegun of the statements answers: true.
-/
namespace Go.Proofs.YtpiacnnifdjlkaaDoor
open Go.RowKit Go.Sort

theorem textOne_beq : (textOne == [115, 116, 97, 116, 101, 115, 32, 49, 32, 108, 101, 116, 116, 101, 114, 115, 32, 50, 10, 102, 105, 114, 115, 116, 32, 48, 10, 103, 111, 111, 100, 32, 48, 10, 48, 32, 48, 32, 48, 10]) = true := by decide

set_option maxRecDepth 100000 in
set_option maxHeartbeats 2000000 in
theorem autoBegun_any {w : World} {m : Int} (ht : Lib.TabBelow Tryd.prog w.heap.size w "internal/strconv.uint64pow10" .u64 Lib.pow10Tab) (hm : w.cell? maxG = some (.int .i64 m)) :
    Calls Tryd.prog 18 #[] w fun e w' => e = .returned (.bool true) ∧ Below w.heap.size w w' := by
  have HT : Hid (∀ W, Below w.heap.size w W → Lib.TabIs Tryd.prog W "internal/strconv.uint64pow10" .u64 Lib.pow10Tab) := hide ht
  have HM := hide hm
  have hml := World.block_lt_of_cell? w _ hm
  clear ht hm
  go_enter Tryd.func18, Tryd.ntmps18
  go_wp2_with (fail)
  go_fit (one_aut w)
  rintro e w1 ⟨v1, rfl, hv1, hb1⟩
  go_wp2_with (fail)
  go_fit (autoPrint_any hv1 (fun W hb => HT.out W (below_trans hb1 hb)))
  rw [chk_one, if_pos rfl, prt_one]
  rintro e w2 ⟨rfl, hb2⟩
  have B2 := below_trans hb1 hb2
  go_wp2_with (fail)
  go_fit (parse_any textOne m ((B2.cell hml).trans HM.out))
  rintro e w3 ⟨v3, rfl, hv3, hb3⟩
  obtain ⟨p1, p2, p3⟩ := prs_one
  rw [p3] at hv3
  rw [p1, p2]
  have B3 := below_trans B2 hb3
  have H3 := hide hv3.aut
  obtain ⟨f3, g3, s3, rfl, i1, i2, i3⟩ := hv3.aut
  obtain ⟨a1, c1, rfl, -⟩ := i1
  obtain ⟨a2, c2, rfl, -⟩ := i2
  obtain ⟨a3, c3, rfl, -⟩ := i3
  have Hx := hide (one_new w3 (Obj.cells #[.int .i64 oneA.n, .int .i64 oneA.m, .slice a1 oneA.first.length c1, .slice a2 oneA.good.length c2, .slice a3 oneA.steps.length c3] 26))
  have HB4 := hide (below_trans B3 (below_new w3 (Obj.cells #[.int .i64 oneA.n, .int .i64 oneA.m, .slice a1 oneA.first.length c1, .slice a2 oneA.good.length c2, .slice a3 oneA.steps.length c3] 26)))
  have H4 := hide (H3.out.below (below_new w3 (Obj.cells #[.int .i64 oneA.n, .int .i64 oneA.m, .slice a1 oneA.first.length c1, .slice a2 oneA.good.length c2, .slice a3 oneA.steps.length c3] 26)))
  clear hv3 hb3 hb2 hb1 hv1 B2 B3 p1 p2 p3
  generalize hO : oneA.n = on at *
  generalize hO1 : oneA.m = om at *
  generalize hO2 : oneA.first.length = o1 at *
  generalize hO3 : oneA.good.length = o2 at *
  generalize hO4 : oneA.steps.length = o3 at *
  clear hO hO1 hO2 hO3 hO4
  go_wp2_with (fail)
  generalize w3.alloc (Obj.cells #[.int .i64 on, .int .i64 om, .slice a1 o1 c1, .slice a2 o2 c2, .slice a3 o3 c3] 26) = w4 at *
  go_fit (one_aut w4)
  rintro e w5 ⟨v5, rfl, hv5, hb5⟩
  go_wp2_with (fail)
  go_fit (trim_any hv5)
  rintro e w6 ⟨v6, T6, rfl, hv6, ht6, -, hb6⟩
  obtain rfl := trim_one (ht6 chk_one)
  have B6 := below_trans hb5 hb6
  have HB6 := hide (below_trans HB4.out B6)
  have H6 := hide hv6.aut
  obtain ⟨f6, g6, s6, rfl, i1, i2, i3⟩ := hv6.aut
  obtain ⟨b1, e1, rfl, -⟩ := i1
  obtain ⟨b2, e2, rfl, -⟩ := i2
  obtain ⟨b3, e3, rfl, -⟩ := i3
  have hb7 := below_new w6 (Obj.cells #[.int .i64 oneA.n, .int .i64 oneA.m, .slice b1 oneA.first.length e1, .slice b2 oneA.good.length e2, .slice b3 oneA.steps.length e3] 26)
  have hX7 := belowRow (below_trans B6 hb7) Hx.out
  have hY7 := one_new w6 (Obj.cells #[.int .i64 oneA.n, .int .i64 oneA.m, .slice b1 oneA.first.length e1, .slice b2 oneA.good.length e2, .slice b3 oneA.steps.length e3] 26)
  have HB7 := hide (below_trans HB6.out hb7)
  have HA7 := hide ((H4.out.below B6).below hb7)
  have HC7 := hide (H6.out.below hb7)
  rw [chk_one]
  clear hv6 ht6 hb6 hv5 hb5 B6 hb7 H3 H4 H6 HT HM Hx HB4 HB6
  have tb := textOne_beq
  generalize hO : oneA.n = pn at *
  generalize hO1 : oneA.m = pm at *
  generalize hO2 : oneA.first.length = p1 at *
  generalize hO3 : oneA.good.length = p2 at *
  generalize hO4 : oneA.steps.length = p3 at *
  clear hO hO1 hO2 hO3 hO4
  go_wp2_with (fail)
  generalize w6.alloc (Obj.cells #[.int .i64 pn, .int .i64 pm, .slice b1 p1 e1, .slice b2 p2 e2, .slice b3 p3 e3] 26) = w7 at *
  generalize w3.heap.size = xb at *
  generalize w6.heap.size = yb at *
  refine wp_region_orders [[0, 1, 2, 3, 4, 5, 6, 7, 8, 9, 10, 11, 12, 13, 14, 15, 16, 17, 18, 19, 20, 21, 22, 23, 24, 25, 26, 27, 28, 29], [0, 1, 2, 3, 4, 5, 6, 7, 8, 9, 10, 11, 12, 13, 14, 15, 16, 17, 18, 19, 20, 21, 22, 23, 24, 26, 25, 27, 28, 29], [0, 1, 2, 3, 4, 5, 6, 7, 8, 9, 10, 11, 12, 13, 14, 15, 16, 17, 18, 19, 21, 20, 22, 23, 24, 25, 26, 27, 28, 29], [0, 1, 2, 3, 4, 5, 6, 7, 8, 9, 10, 11, 12, 13, 14, 15, 16, 17, 18, 19, 21, 20, 22, 23, 24, 26, 25, 27, 28, 29]] (by kernel_rfl) (by kernel_rfl) ?_
  simp only [List.forall_mem_cons, List.filterMap_cons, List.filterMap_nil, List.getElem?_cons_succ, List.getElem?_cons_zero, List.not_mem_nil, false_implies, implies_true, and_true]
  refine ⟨?_, ?_, ?_, ?_⟩
  all_goals
    go_wp2_with (fail)
    go_fit (one_aut _)
    rintro e w8 ⟨v8, rfl, hv8, hb8⟩
    have B8 := below_trans (Below.drew (Below.refl w7.heap.size w7)) hb8
    clear hb8
    go_wp2_with (fail)
    go_fit (autoCheck_any hv8)
    rintro e w9 ⟨rfl, hb9⟩
    rw [chk_one]
    have B9 := below_trans B8 hb9
    have hX9 := belowRow B9 hX7
    have x0 := cell_of_row _ _ 0 _ _ _ hX9
    have x1 := cell_of_row _ _ 1 _ _ _ hX9
    have x2 := cell_of_row _ _ 2 _ _ _ hX9
    have x3 := cell_of_row _ _ 3 _ _ _ hX9
    have x4 := cell_of_row _ _ 4 _ _ _ hX9
    clear hb9 B8 hv8
    go_wp2_with (fail)
    go_fit (one_aut _)
    rintro e w10 ⟨v10, rfl, hv10, hb10⟩
    have B10 := below_trans B9 hb10
    have hX10 := belowRow B10 hX7
    clear x0 x1 x2 x3 x4
    have x0 := cell_of_row _ _ 0 _ _ _ hX10
    have x1 := cell_of_row _ _ 1 _ _ _ hX10
    have x2 := cell_of_row _ _ 2 _ _ _ hX10
    have x3 := cell_of_row _ _ 3 _ _ _ hX10
    have x4 := cell_of_row _ _ 4 _ _ _ hX10
    clear hb10 B9 hX9
    go_wp2_with (fail)
    go_fit (sameAuto_same (HA7.out.below B10) hv10)
    rintro e w11 ⟨rfl, hb11⟩
    have B11 := below_trans B10 hb11
    have hY11 := belowRow B11 hY7
    clear x0 x1 x2 x3 x4
    have y0 := cell_of_row _ _ 0 _ _ _ hY11
    have y1 := cell_of_row _ _ 1 _ _ _ hY11
    have y2 := cell_of_row _ _ 2 _ _ _ hY11
    have y3 := cell_of_row _ _ 3 _ _ _ hY11
    have y4 := cell_of_row _ _ 4 _ _ _ hY11
    clear hb11 B10 hX10 hv10
    go_wp2_with (fail)
    go_fit (one_aut _)
    rintro e w12 ⟨v12, rfl, hv12, hb12⟩
    have B12 := below_trans B11 hb12
    have hY12 := belowRow B12 hY7
    clear y0 y1 y2 y3 y4
    have y0 := cell_of_row _ _ 0 _ _ _ hY12
    have y1 := cell_of_row _ _ 1 _ _ _ hY12
    have y2 := cell_of_row _ _ 2 _ _ _ hY12
    have y3 := cell_of_row _ _ 3 _ _ _ hY12
    have y4 := cell_of_row _ _ 4 _ _ _ hY12
    clear hb12 B11 hY11
    go_wp2_with (fail)
    go_fit (sameAuto_same (HC7.out.below B12) hv12)
    rintro e w13 ⟨rfl, hb13⟩
    have B13 := below_trans HB7.out (below_trans B12 hb13)
    clear y0 y1 y2 y3 y4 hb13 B12 hY12 hv12
    go_wp2_with (fail)
    go_ret
    exact ⟨rfl, B13⟩
end Go.Proofs.YtpiacnnifdjlkaaDoor

namespace Go.Proofs.YtpiacnnifdjlkaaDoor
open Go.RowKit Go.Sort

def atE (i : Int) : Int := if i < 0 then 3 else 0
def atV (u : Nat → Int) (i : Int) : Int := if i < 0 then 0 else u i.toNat

theorem at_tell {w : World} {hv lv : Value} {hs ls : List Int} (hh : IntSl w hv hs) (hl : IntSl w lv ls) (n i : Int) (h : chk hs ls n = 0) (hi' : i ≤ 9223372036854775807) :
    Calls Tryd.prog 25 #[.agg #[hv, lv], .int .i64 n, .int .i64 i] w fun e w' => e = .returned (.tuple #[.int .i64 (atV (lat hs ls) i), .int .i64 (atE i)]) ∧ Below w.heap.size w w' := by
  by_cases hi : i < 0
  · have := at_neg hh hl n i h hi
    unfold atV atE
    rw [if_pos hi, if_pos hi]
    exact this
  · have := at_good hh hl (List.length_pos_iff.1 (chk_zero h).2.2.1) n i h (by omega) hi'
    unfold atV atE
    rw [if_neg hi, if_neg hi]
    exact this

set_option maxRecDepth 100000 in
set_option maxHeartbeats 4000000 in
theorem wordSame_any {w : World} {v hv lv : Value} {A : Aut} {hs ls : List Int} {m i : Int} (hAut : AutV w v A) (hh : IntSl w hv hs) (hl : IntSl w lv ls) (hi' : i ≤ 9223372036854775807) (htb : Tab w) (ht : Lib.TabBelow Tryd.prog w.heap.size w "internal/strconv.uint64pow10" .u64 Lib.pow10Tab) (hm : w.cell? maxG = some (.int .i64 m)) :
    Calls Tryd.prog 8 #[v, .agg #[hv, lv], .int .i64 i] w fun e w' => e = .returned (.bool true) ∧ Below w.heap.size w w' := by
  have HT : Hid (∀ W, Below w.heap.size w W → Lib.TabIs Tryd.prog W "internal/strconv.uint64pow10" .u64 Lib.pow10Tab) := hide ht
  have HM := hide hm
  have HTb := hide htb
  have hml := World.block_lt_of_cell? w _ hm
  have HV := hide hAut
  have HH := hide hh
  have HL := hide hl
  obtain ⟨fv, gv, sv, rfl, i1, i2, i3⟩ := hAut
  obtain ⟨a1, c1, rfl, -⟩ := i1
  obtain ⟨a2, c2, rfl, -⟩ := i2
  obtain ⟨a3, c3, rfl, -⟩ := i3
  obtain ⟨h1, h2, rfl, hmh, -⟩ := hh
  obtain ⟨l1, l2, rfl, hmll, -⟩ := hl
  unfold maxLen at hmh hmll
  clear ht hm htb
  have q := two_alloc w (Obj.cells #[.int .i64 A.n, .int .i64 A.m, .slice a1 A.first.length c1, .slice a2 A.good.length c2, .slice a3 A.steps.length c3] 26) (Obj.cells #[.slice h1 hs.length h2, .slice l1 ls.length l2] 44)
  have B0 : Below w.heap.size w ((w.alloc (Obj.cells #[.int .i64 A.n, .int .i64 A.m, .slice a1 A.first.length c1, .slice a2 A.good.length c2, .slice a3 A.steps.length c3] 26)).alloc (Obj.cells #[.slice h1 hs.length h2, .slice l1 ls.length l2] 44)) := (by repeat (first | exact Below.refl _ _ | assumption | refine below_drewN ?_ _ | refine Below.drew ?_ | refine Below.alloc ?_ (by simp <;> omega) _ | refine below_trans ?_ (by assumption)))
  go_enter Tryd.func8, Tryd.ntmps8
  go_wp2_with (fail)
  generalize (w.alloc (Obj.cells #[.int .i64 A.n, .int .i64 A.m, .slice a1 A.first.length c1, .slice a2 A.good.length c2, .slice a3 A.steps.length c3] 26)).alloc (Obj.cells #[.slice h1 hs.length h2, .slice l1 ls.length l2] 44) = w0 at *
  go_fit (wordBegun_any (HTb.out.below B0))
  rintro e w1 ⟨rfl, hb1⟩
  have B1 := below_trans B0 hb1
  go_wp2_with (fail)
  go_fit (autoBegun_any (m := m) (fun W hb => HT.out W (below_trans B1 hb)) ((B1.cell hml).trans HM.out))
  rintro e w2 ⟨rfl, hb2⟩
  have B2 := below_trans B1 hb2
  have b02 := below_trans hb1 hb2
  have HA2 := hide (belowRow b02 q.1)
  have HL2 := hide (belowRow b02 q.2)
  have ca0 := cell_of_row _ _ 0 _ _ _ HA2.out
  have ca1 := cell_of_row _ _ 1 _ _ _ HA2.out
  have ca2 := cell_of_row _ _ 2 _ _ _ HA2.out
  have ca3 := cell_of_row _ _ 3 _ _ _ HA2.out
  have ca4 := cell_of_row _ _ 4 _ _ _ HA2.out
  have cl0 := cell_of_row _ _ 0 _ _ _ HL2.out
  have cl1 := cell_of_row _ _ 1 _ _ _ HL2.out
  clear hb1 hb2 b02 q B0 B1
  by_cases hc : chk hs ls A.m = 0
  · go_wp2_with (fail)
    go_fit (least_good (HH.out.below B2) (HL.out.below B2) A.m hc)
    rintro e w3 ⟨v1, v2, p, k, rfl, hp, hk, hx1, hx2, hb3⟩
    have HCx := hide (least_chk hc hp hk)
    have HLt := hide (funext (least_lat hp hk))
    have Hag := hide (fun p2 k2 => least_again (p2 := p2) (k2 := k2) hp hk (chk_zero hc).2.2.1)
    have Hle := hide (show (pieceOf hs ls 0 k).length ≤ hs.length ∧ (pieceOf hs ls k p).length ≤ ls.length ∧ 0 < (pieceOf hs ls k p).length by rw [pieceOf_length, pieceOf_length]; exact ⟨hk.1, hp.1.2.1, hp.1.1⟩)
    generalize pieceOf hs ls 0 k = xs at *
    generalize pieceOf hs ls k p = ys at *
    have HX1 := hide hx1
    have HX2 := hide hx2
    obtain ⟨d1, e1, rfl, hm1, -⟩ := hx1
    obtain ⟨d2, e2, rfl, hm2, -⟩ := hx2
    unfold maxLen at hm1 hm2
    have B3 := below_trans B2 hb3
    have hbn := below_new w3 (Obj.cells #[.slice d1 xs.length e1, .slice d2 ys.length e2] 44)
    have b24 := below_trans hb3 hbn
    have HA4 := hide (belowRow b24 HA2.out)
    have HL4 := hide (belowRow b24 HL2.out)
    have HX4 := hide (one_new w3 (Obj.cells #[.slice d1 xs.length e1, .slice d2 ys.length e2] 44))
    have B4 := below_trans B3 hbn
    have HX1' := hide (HX1.out.below hbn)
    have HX2' := hide (HX2.out.below hbn)
    clear ca0 ca1 ca2 ca3 ca4 cl0 cl1
    have ca0 := cell_of_row _ _ 0 _ _ _ HA4.out
    have ca1 := cell_of_row _ _ 1 _ _ _ HA4.out
    have ca2 := cell_of_row _ _ 2 _ _ _ HA4.out
    have ca3 := cell_of_row _ _ 3 _ _ _ HA4.out
    have ca4 := cell_of_row _ _ 4 _ _ _ HA4.out
    have cx0 := cell_of_row _ _ 0 _ _ _ HX4.out
    have cx1 := cell_of_row _ _ 1 _ _ _ HX4.out
    clear hb3 hbn b24 B2 B3 HX1 HX2
    go_wp2_with (fail)
    generalize w3.alloc (Obj.cells #[.slice d1 xs.length e1, .slice d2 ys.length e2] 44) = w4 at *
    generalize w3.heap.size = xb at *
    go_fit (least_good HX1'.out HX2'.out A.m HCx.out)
    rintro e w5 ⟨v3, v4, p2, k2, rfl, hp2, hk2, hy1, hy2, hb5⟩
    obtain ⟨g1, g2⟩ := Hag.out p2 k2 hp2 hk2
    rw [g1] at hy1
    rw [g2] at hy2
    have HY1 := hide hy1
    have HY2 := hide hy2
    obtain ⟨d3, e3, rfl, -⟩ := hy1
    obtain ⟨d4, e4, rfl, -⟩ := hy2
    have hbn := below_new w5 (Obj.cells #[.slice d3 xs.length e3, .slice d4 ys.length e4] 44)
    have b46 := below_trans hb5 hbn
    have B6 := below_trans B4 b46
    have HA6 := hide (belowRow b46 HA4.out)
    have HL6 := hide (belowRow b46 HL4.out)
    have HX6 := hide (belowRow b46 HX4.out)
    have HY6 := hide (one_new w5 (Obj.cells #[.slice d3 xs.length e3, .slice d4 ys.length e4] 44))
    have HSm := hide (show Calls Tryd.prog 31 #[.agg #[.slice d1 xs.length e1, .slice d2 ys.length e2], .agg #[.slice d3 xs.length e3, .slice d4 ys.length e4]] (w5.alloc (Obj.cells #[.slice d3 xs.length e3, .slice d4 ys.length e4] 44)) fun e w' => e = .returned (.bool true) ∧ Below (w5.alloc (Obj.cells #[.slice d3 xs.length e3, .slice d4 ys.length e4] 44)).heap.size (w5.alloc (Obj.cells #[.slice d3 xs.length e3, .slice d4 ys.length e4] 44)) w' by
      have := sameLasso_any (HX1'.out.below b46) (HX2'.out.below b46) (HY1.out.below hbn) (HY2.out.below hbn)
      rwa [decide_eq_true (show xs = xs ∧ ys = ys from ⟨rfl, rfl⟩)] at this)
    have HX1a := hide (HX1'.out.below b46)
    have HX2a := hide (HX2'.out.below b46)
    clear ca0 ca1 ca2 ca3 ca4 cx0 cx1
    clear hb5 hbn b46 B4 HY1 HY2 g1 g2 hp2 hk2 HA4 HL4 HX4 Hag
    have hle1 : ¬ ((ls.length : Int) < (ys.length : Int)) := by have := Hle.out; omega
    have hle2 : ¬ ((hs.length : Int) < (xs.length : Int)) := by have := Hle.out; omega
    have cx0 := cell_of_row _ _ 0 _ _ _ HX6.out
    have cx1 := cell_of_row _ _ 1 _ _ _ HX6.out
    have cl0 := cell_of_row _ _ 0 _ _ _ HL6.out
    have cl1 := cell_of_row _ _ 1 _ _ _ HL6.out
    have cy0 := cell_of_row _ _ 0 _ _ _ HY6.out
    have cy1 := cell_of_row _ _ 1 _ _ _ HY6.out
    go_wp2_with (fail)
    generalize w5.alloc (Obj.cells #[.slice d3 xs.length e3, .slice d4 ys.length e4] 44) = w6 at *
    generalize w5.heap.size = yb at *
    go_fit HSm.out
    rintro e w7 ⟨rfl, hb7⟩
    have B7 := below_trans B6 hb7
    have HA7 := hide (belowRow hb7 HA6.out)
    have HL7 := hide (belowRow hb7 HL6.out)
    have HX7 := hide (belowRow hb7 HX6.out)
    have HX1b := hide (HX1a.out.below hb7)
    have HX2b := hide (HX2a.out.below hb7)
    clear cx0 cx1 cy0 cy1 hb7 B6 HA6 HL6 HX6 HY6 HX1a HX2a HSm
    have ca0 := cell_of_row _ _ 0 _ _ _ HA7.out
    have ca1 := cell_of_row _ _ 1 _ _ _ HA7.out
    have ca2 := cell_of_row _ _ 2 _ _ _ HA7.out
    have ca3 := cell_of_row _ _ 3 _ _ _ HA7.out
    have ca4 := cell_of_row _ _ 4 _ _ _ HA7.out
    have cl0 := cell_of_row _ _ 0 _ _ _ HL7.out
    have cl1 := cell_of_row _ _ 1 _ _ _ HL7.out
    have cx0 := cell_of_row _ _ 0 _ _ _ HX7.out
    have cx1 := cell_of_row _ _ 1 _ _ _ HX7.out
    go_wp2_with (fail)
    go_fit (at_tell (HH.out.below B7) (HL.out.below B7) A.m i hc hi')
    rintro e w8 ⟨rfl, hb8⟩
    have B8 := below_trans B7 hb8
    have HA8 := hide (belowRow hb8 HA7.out)
    have HL8 := hide (belowRow hb8 HL7.out)
    have HX8 := hide (belowRow hb8 HX7.out)
    have HX1c := hide (HX1b.out.below hb8)
    have HX2c := hide (HX2b.out.below hb8)
    clear ca0 ca1 ca2 ca3 ca4 cl0 cl1 cx0 cx1 hb8 B7 HA7 HL7 HX7 HX1b HX2b
    have ca0 := cell_of_row _ _ 0 _ _ _ HA8.out
    have ca1 := cell_of_row _ _ 1 _ _ _ HA8.out
    have ca2 := cell_of_row _ _ 2 _ _ _ HA8.out
    have ca3 := cell_of_row _ _ 3 _ _ _ HA8.out
    have ca4 := cell_of_row _ _ 4 _ _ _ HA8.out
    have cx0 := cell_of_row _ _ 0 _ _ _ HX8.out
    have cx1 := cell_of_row _ _ 1 _ _ _ HX8.out
    go_wp2_with (fail)
    go_fit (at_tell HX1c.out HX2c.out A.m i HCx.out hi')
    rw [HLt.out]
    rintro e w9 ⟨rfl, hb9⟩
    have B9 := below_trans B8 hb9
    have HA9 := hide (belowRow hb9 HA8.out)
    have HL9 := hide (belowRow hb9 HL8.out)
    have HX9 := hide (belowRow hb9 HX8.out)
    have HX1d := hide (HX1c.out.below hb9)
    have HX2d := hide (HX2c.out.below hb9)
    clear ca0 ca1 ca2 ca3 ca4 cx0 cx1 hb9 B8 HA8 HL8 HX8 HX1c HX2c
    generalize atV (lat hs ls) i = an at *
    generalize atE i = ae at *
    have hn1 : (an != an) = false := by simp
    have hn2 : (ae != ae) = false := by simp
    have ca0 := cell_of_row _ _ 0 _ _ _ HA9.out
    have ca1 := cell_of_row _ _ 1 _ _ _ HA9.out
    have ca2 := cell_of_row _ _ 2 _ _ _ HA9.out
    have ca3 := cell_of_row _ _ 3 _ _ _ HA9.out
    have ca4 := cell_of_row _ _ 4 _ _ _ HA9.out
    have cl0 := cell_of_row _ _ 0 _ _ _ HL9.out
    have cl1 := cell_of_row _ _ 1 _ _ _ HL9.out
    go_wp2_with (fail)
    go_fit (takes_any (HV.out.below B9) (HH.out.below B9) (HL.out.below B9) (HTb.out.below B9))
    rintro e w10 ⟨p1, rfl, hp1, hb10⟩
    have B10 := below_trans B9 hb10
    have HA10 := hide (belowRow hb10 HA9.out)
    have HL10 := hide (belowRow hb10 HL9.out)
    have HX10 := hide (belowRow hb10 HX9.out)
    have HX1e := hide (HX1d.out.below hb10)
    have HX2e := hide (HX2d.out.below hb10)
    have Hp1 := hide hp1
    clear ca0 ca1 ca2 ca3 ca4 cl0 cl1 hb10 B9 HA9 HL9 HX9 HX1d HX2d hp1 hn1 hn2
    have ca0 := cell_of_row _ _ 0 _ _ _ HA10.out
    have ca1 := cell_of_row _ _ 1 _ _ _ HA10.out
    have ca2 := cell_of_row _ _ 2 _ _ _ HA10.out
    have ca3 := cell_of_row _ _ 3 _ _ _ HA10.out
    have ca4 := cell_of_row _ _ 4 _ _ _ HA10.out
    have cx0 := cell_of_row _ _ 0 _ _ _ HX10.out
    have cx1 := cell_of_row _ _ 1 _ _ _ HX10.out
    go_wp2_with (fail)
    go_fit (takes_any (HV.out.below B10) HX1e.out HX2e.out (HTb.out.below B10))
    rintro e w11 ⟨q1, rfl, hq1, hb11⟩
    have B11 := below_trans B10 hb11
    have HA11 := hide (belowRow hb11 HA10.out)
    have HL11 := hide (belowRow hb11 HL10.out)
    have HTk := hide (takes_same (A := A) (hs := xs) (ls := ys) (hs' := hs) (ls' := ls) Hle.out.2.2 (chk_zero hc).2.2.1 (fun t => congrFun HLt.out t))
    have Hq1 := hide hq1
    have htk1 : tkE A hs ls = chkA A := by unfold tkE; by_cases e : chkA A = 0 <;> simp [e, hc]
    have htk2 : tkE A xs ys = chkA A := by unfold tkE; by_cases e : chkA A = 0 <;> simp [e, HCx.out]
    rw [htk1, htk2]
    rw [htk1] at Hp1
    rw [htk2] at Hq1
    clear ca0 ca1 ca2 ca3 ca4 cx0 cx1 hb11 B10 HA10 HL10 HX10 HX1e HX2e hq1 htk1 htk2
    have ca0 := cell_of_row _ _ 0 _ _ _ HA11.out
    have ca1 := cell_of_row _ _ 1 _ _ _ HA11.out
    have ca2 := cell_of_row _ _ 2 _ _ _ HA11.out
    have ca3 := cell_of_row _ _ 3 _ _ _ HA11.out
    have ca4 := cell_of_row _ _ 4 _ _ _ HA11.out
    go_wp2_with (fail)
    go_fit (trim_any (HV.out.below B11))
    rintro e w12 ⟨v12, T, rfl, hT, hT0, hT1, hb12⟩
    have B12 := below_trans B11 hb12
    have HTa := hide hT.aut
    obtain ⟨fv, gv, sv, rfl, i1, i2, i3⟩ := hT.aut
    obtain ⟨t1, s1, rfl, -⟩ := i1
    obtain ⟨t2, s2, rfl, -⟩ := i2
    obtain ⟨t3, s3, rfl, -⟩ := i3
    have hbn := below_new w12 (Obj.cells #[.int .i64 T.n, .int .i64 T.m, .slice t1 T.first.length s1, .slice t2 T.good.length s2, .slice t3 T.steps.length s3] 26)
    have B13 := below_trans B12 hbn
    have HL13 := hide (belowRow (below_trans hb12 hbn) HL11.out)
    have HT13 := hide (HTa.out.below hbn)
    have HTr := hide hT0
    have Hnew := hide (one_new w12 (Obj.cells #[.int .i64 T.n, .int .i64 T.m, .slice t1 T.first.length s1, .slice t2 T.good.length s2, .slice t3 T.steps.length s3] 26))
    clear ca0 ca1 ca2 ca3 ca4 hT hT0 hT1 hb12 hbn B11 B12 HA11 HL11 HTa
    by_cases hca : chkA A = 0
    · obtain ⟨r1, r2⟩ := trim_right hca (HTr.out hca)
      have hct : tkE T hs ls = 0 := by unfold tkE; rw [r1, r2]; simp [hc]
      have HTT := hide (trim_takes (hs := hs) (ls := ls) (right_of hca) (HTr.out hca))
      have HK := hide (takes_any HT13.out (HH.out.below B13) (HL.out.below B13) (HTb.out.below B13))
      rw [hct] at HK
      rw [hca] at Hp1 Hq1 ⊢
      have cl0 := cell_of_row _ _ 0 _ _ _ HL13.out
      have cl1 := cell_of_row _ _ 1 _ _ _ HL13.out
      have ct0 := cell_of_row _ _ 0 _ _ _ Hnew.out
      have ct1 := cell_of_row _ _ 1 _ _ _ Hnew.out
      have ct2 := cell_of_row _ _ 2 _ _ _ Hnew.out
      have ct3 := cell_of_row _ _ 3 _ _ _ Hnew.out
      have ct4 := cell_of_row _ _ 4 _ _ _ Hnew.out
      clear r1 r2 hct hca HTr
      go_wp2_with (fail)
      generalize w12.alloc (Obj.cells #[.int .i64 T.n, .int .i64 T.m, .slice t1 T.first.length s1, .slice t2 T.good.length s2, .slice t3 T.steps.length s3] 26) = w13 at *
      go_fit HK.out
      rintro e w14 ⟨r1, rfl, hr1, hb14⟩
      have B14 := below_trans B13 hb14
      have e1 : q1 = p1 := by
        rw [Bool.eq_iff_iff, Hp1.out, Hq1.out, HTk.out]
      have e2 : r1 = p1 := by
        rw [Bool.eq_iff_iff, Hp1.out, hr1, HTT.out]
      subst e1
      subst e2
      have hbb : (r1 == r1) = true := by simp
      clear hr1 Hp1 Hq1 hb14 B13
      go_wp2_with (fail)
      go_ret
      exact ⟨by first | rfl | (simp), B14⟩
    · have hd : (chkA A != 0) = true := by simpa using hca
      have hee : (chkA A == chkA A) = true := by simp
      generalize chkA A = c at *
      clear hca HTr HT13
      go_wp2_with (fail)
      go_ret
      exact ⟨rfl, B13⟩
  · have hd : (chk hs ls A.m != 0) = true := by simpa using hc
    go_wp2_with (fail)
    go_fit (least_bad (HH.out.below B2) (HL.out.below B2) A.m hd)
    rintro e w3 ⟨rfl, hb3⟩
    have B3 := below_trans B2 hb3
    generalize chk hs ls A.m = c at *
    clear hc hb3 B2
    go_wp2_with (fail)
    go_ret
    exact ⟨rfl, below_trans B3 (below_new _ _)⟩
end Go.Proofs.YtpiacnnifdjlkaaDoor
