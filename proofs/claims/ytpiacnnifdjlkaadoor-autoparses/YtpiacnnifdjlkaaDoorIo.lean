/-
  What trimming an automaton leaves: plain mathematics.
-/
import Derived.Test.YtpiacnnifdjlkaaDoorJe
import Derived.Test.YtpiacnnifdjlkaaDoorIh
/-
  What read of package auto reads.
-/
namespace Go.Proofs.YtpiacnnifdjlkaaDoor
open Go.RowKit Go.Sort

def maxG : Addr := ⟨0, 0, none⟩

theorem splitW_any (x : List UInt8) (hx : x.length ≤ 100000) (m : Int) (w : World) (hm : w.cell? maxG = some (.int .i64 m)) :
    Calls Tryd.prog 95 #[.string ⟨x.toArray⟩, .string ⟨#[32]⟩] w fun e w' => ∃ o, e = .returned (.slice (some ⟨w.heap.size, 0, none⟩) (spl 32 x).length (spl 32 x).length) ∧ w' = w.alloc o ∧ StrSl w' (.slice (some ⟨w.heap.size, 0, none⟩) (spl 32 x).length (spl 32 x).length) (spl 32 x) := by
  have hsz : (⟨x.toArray⟩ : ByteArray).size = x.length := by simp [ByteArray.size]
  refine (split_any ⟨x.toArray⟩ ⟨#[32]⟩ m w (by rw [hsz]; omega) hm (by decide)).mono ?_
  rintro e w' ⟨rfl, rfl⟩
  have h1 : Lib.countB ⟨x.toArray⟩ ⟨#[32]⟩ + 1 = (spl 32 x).length := count_spl 32 x
  have h2 : (Lib.splitB ⟨#[32]⟩ 0 (Lib.countB ⟨x.toArray⟩ ⟨#[32]⟩) ⟨x.toArray⟩).map (·.data.toList) = spl 32 x := splitB_spl 32 ⟨x.toArray⟩
  rw [h1]
  refine ⟨_, rfl, rfl, _, _, rfl, ?_, Or.inr ⟨w.heap.size, 0, rfl, fun i hi => ?_⟩, (fun h => by cases h), Nat.le_refl _⟩
  · have := spl_len 32 x
    unfold maxLen
    omega
  · rw [cell_of_row _ _ (0 + i) _ _ _ (one_new w _), Nat.zero_add]
    generalize Lib.splitB ⟨#[32]⟩ 0 (Lib.countB ⟨x.toArray⟩ ⟨#[32]⟩) ⟨x.toArray⟩ = bs at h2
    rw [← h2] at hi ⊢
    have hb : i < bs.length := by simpa using hi
    simp [List.getD, hb]

theorem cutL_none {T : List UInt8} (hT : T.length ≤ 100000) (h : (10 : UInt8) ∉ T) (m : Int) (w : World) (hm : w.cell? maxG = some (.int .i64 m)) :
    Calls Tryd.prog 93 #[.string ⟨T.toArray⟩, .string ⟨#[10]⟩] w fun e w' => e = .returned (.tuple #[.string ⟨T.toArray⟩, .string ⟨#[]⟩, .bool false]) ∧ Below w.heap.size w w' := by
  have hsz : (⟨T.toArray⟩ : ByteArray).size = T.length := by simp [ByteArray.size]
  refine (cut_any ⟨T.toArray⟩ ⟨#[10]⟩ m w (by rw [hsz]; omega) hm).mono ?_
  rintro e w' ⟨rfl, nd, rfl⟩
  have h2 := below_drawn w nd
  have e1 : Lib.cut T [10] = (T, [], false) := cut_none h
  refine ⟨?_, h2⟩
  show Ending.returned (.tuple #[.string ⟨(Lib.cut T [10]).1.toArray⟩, .string ⟨(Lib.cut T [10]).2.1.toArray⟩, .bool (Lib.cut T [10]).2.2]) = _
  rw [e1]

theorem cutL_line {x r : List UInt8} (hT : (x ++ 10 :: r).length ≤ 100000) (h : (10 : UInt8) ∉ x) (m : Int) (w : World) (hm : w.cell? maxG = some (.int .i64 m)) :
    Calls Tryd.prog 93 #[.string ⟨(x ++ 10 :: r).toArray⟩, .string ⟨#[10]⟩] w fun e w' => e = .returned (.tuple #[.string ⟨x.toArray⟩, .string ⟨r.toArray⟩, .bool true]) ∧ Below w.heap.size w w' := by
  have hsz : (⟨(x ++ 10 :: r).toArray⟩ : ByteArray).size = (x ++ 10 :: r).length := by simp [ByteArray.size]
  refine (cut_any ⟨(x ++ 10 :: r).toArray⟩ ⟨#[10]⟩ m w (by rw [hsz]; omega) hm).mono ?_
  rintro e w' ⟨rfl, nd, rfl⟩
  have h2 := below_drawn w nd
  have e1 : Lib.cut (x ++ 10 :: r) [10] = (x, r, true) := cut_app r h
  refine ⟨?_, h2⟩
  show Ending.returned (.tuple #[.string ⟨(Lib.cut (x ++ 10 :: r) [10]).1.toArray⟩, .string ⟨(Lib.cut (x ++ 10 :: r) [10]).2.1.toArray⟩, .bool (Lib.cut (x ++ 10 :: r) [10]).2.2]) = _
  rw [e1]

theorem Ahead.next {i : Nat} {A : Aut} {ws : List (List UInt8)} (h : Ahead i A) (hb : lineB i ws A = true) : Ahead (i + 1) (lineA i ws A) := by
  obtain ⟨h1, h2, h3⟩ := h
  refine ⟨fun e => by omega, fun _ => ?_, ?_⟩
  · by_cases i0 : i = 0
    · subst i0
      have hb : sizeB ws = true := hb
      unfold sizeB at hb
      simp only [Bool.and_eq_true, decide_eq_true_eq] at hb
      unfold lineA
      rw [if_pos rfl]
      dsimp only
      omega
    · have := h2 (by omega)
      unfold lineA
      rw [if_neg i0]
      split
      · exact this
      · split <;> exact this
  · unfold lineA
    split
    · simp
    · split
      · dsimp only; omega
      · split
        · dsimp only; omega
        · simp; omega

theorem readL_last {i : Nat} {A : Aut} {T : List UInt8} (h : ¬ (3 ≤ i ∧ T = [])) (hT : (10 : UInt8) ∉ T) : readL i A (spl 10 T) = (zeroA, i + 1) := by
  rw [spl_none hT, readL, if_neg h]

theorem readL_end {i : Nat} {A : Aut} (h : 3 ≤ i) : readL i A (spl 10 []) = (A, 0) := by
  rw [spl_none (by simp), readL, if_pos ⟨h, rfl⟩]

theorem readL_line {i : Nat} {A : Aut} {x r : List UInt8} (hx : (10 : UInt8) ∉ x) : readL i A (spl 10 (x ++ 10 :: r)) = if lineB i (spl 32 x) A = true then readL (i + 1) (lineA i (spl 32 x) A) (spl 10 r) else (zeroA, i + 1) := by
  rw [spl_app r hx]
  obtain ⟨l2, ls, hls⟩ := List.exists_cons_of_ne_nil (spl_ne 10 r)
  rw [hls, readL]

theorem RA.new {w : World} {base pb : Nat} (h : w.heap[pb]? = some (.cells #[.int .i64 0, .int .i64 0, .slice none 0 0, .slice none 0 0, .slice none 0 0] 26)) (hb : base ≤ pb) : RA w base pb (.slice none 0 0) (.slice none 0 0) (.slice none 0 0) zeroA :=
  ⟨h, World.ownsRow_nil _ _ _ _, World.ownsRow_nil _ _ _ _, World.ownsRow_nil _ _ _ _, hb⟩

/-- An automaton whose rows are the call's own. -/
def AutO (w : World) (base : Nat) (v : Value) (A : Aut) : Prop := ∃ fv gv sv, v = .agg #[.int .i64 A.n, .int .i64 A.m, fv, gv, sv] ∧ w.ownsRow base 3 1 fv A.first.length (A.first.map (.int .i64)) ∧ w.ownsRow base 4 1 gv A.good.length (A.good.map .bool) ∧ w.ownsRow base 81 3 sv A.steps.length (stepCells A.steps)

theorem AutO.aut {w : World} {base : Nat} {v : Value} {A : Aut} (h : AutO w base v A) : AutV w v A := by
  obtain ⟨fv, gv, sv, rfl, h1, h2, h3⟩ := h
  exact ⟨fv, gv, sv, rfl, intSl_of_owns h1, boolSl_of_owns h2, stepSl_of_owns h3⟩

theorem AutO.below {w w' : World} {base : Nat} {v : Value} {A : Aut} (h : AutO w base v A) (hb : Below w.heap.size w w') : AutO w' base v A := by
  obtain ⟨fv, gv, sv, rfl, h1, h2, h3⟩ := h
  exact ⟨fv, gv, sv, rfl, owns_below h1 hb, owns_below h2 hb, owns_below h3 hb⟩

theorem AutO.lower {w : World} {base base' : Nat} {v : Value} {A : Aut} (h : AutO w base' v A) (hb : base ≤ base') : AutO w base v A := by
  obtain ⟨fv, gv, sv, rfl, h1, h2, h3⟩ := h
  exact ⟨fv, gv, sv, rfl, owns_lower h1 hb, owns_lower h2 hb, owns_lower h3 hb⟩

theorem AutO.put {w : World} {base rb : Nat} {v : Value} {A : Aut} {c : Array Value} (h : AutO w base v A) (hr : w.heap[rb]? = some (.cells c 26)) (k : Nat) (u : Value) : AutO (w.setCell ⟨rb, k, none⟩ u) base v A := by
  obtain ⟨fv, gv, sv, rfl, h1, h2, h3⟩ := h
  exact ⟨fv, gv, sv, rfl, owns_set h1 hr (by decide) _ _, owns_set h2 hr (by decide) _ _, owns_set h3 hr (by decide) _ _⟩

theorem autO_zero (w : World) (base : Nat) : AutO w base (.agg #[.int .i64 0, .int .i64 0, .slice none 0 0, .slice none 0 0, .slice none 0 0]) zeroA := ⟨_, _, _, rfl, World.ownsRow_nil _ _ _ _, World.ownsRow_nil _ _ _ _, World.ownsRow_nil _ _ _ _⟩

theorem RA.own {w : World} {base pb : Nat} {fv gv sv : Value} {A : Aut} (h : RA w base pb fv gv sv A) : AutO w base (.agg #[.int .i64 A.n, .int .i64 A.m, fv, gv, sv]) A := ⟨fv, gv, sv, rfl, h.f, h.g, h.s⟩

/-- A cell of another box is written. -/
theorem RA.other {w : World} {base pb rb : Nat} {fv gv sv : Value} {A : Aut} {c : Array Value} (h : RA w base pb fv gv sv A) (hr : w.heap[rb]? = some (.cells c 26)) (hne : pb ≠ rb) (k : Nat) (v : Value) : RA (w.setCell ⟨rb, k, none⟩ v) base pb fv gv sv A :=
  ⟨(heap_setCell_other w _ _ pb hne).trans h.box, owns_set h.f hr (by decide) _ _, owns_set h.g hr (by decide) _ _, owns_set h.s hr (by decide) _ _, h.hb⟩

def fivePut (w : World) (b : Nat) (v0 v1 v2 v3 v4 : Value) : World := ((((w.setCell ⟨b, 0, none⟩ v0).setCell ⟨b, 1, none⟩ v1).setCell ⟨b, 2, none⟩ v2).setCell ⟨b, 3, none⟩ v3).setCell ⟨b, 4, none⟩ v4

theorem fivePut_box {w : World} {b : Nat} {z0 z1 z2 z3 z4 : Value} {t : TypeId} (h : w.heap[b]? = some (.cells #[z0, z1, z2, z3, z4] t)) (v0 v1 v2 v3 v4 : Value) : (fivePut w b v0 v1 v2 v3 v4).heap[b]? = some (.cells #[v0, v1, v2, v3, v4] t) :=
  box_set (box_set (box_set (box_set (box_set h 0 v0) 1 v1) 2 v2) 3 v3) 4 v4

theorem fivePut_below {base : Nat} {w w' : World} (h : Below base w w') {b : Nat} (hb : base ≤ b) (v0 v1 v2 v3 v4 : Value) : Below base w (fivePut w' b v0 v1 v2 v3 v4) :=
  below_set (below_set (below_set (below_set (below_set h hb 0 v0) hb 1 v1) hb 2 v2) hb 3 v3) hb 4 v4

theorem RA.five {w : World} {base pb rb : Nat} {fv gv sv : Value} {A : Aut} {c : Array Value} (h : RA w base pb fv gv sv A) (hr : w.heap[rb]? = some (.cells c 26)) (hne : pb ≠ rb) (v0 v1 v2 v3 v4 : Value) : RA (fivePut w rb v0 v1 v2 v3 v4) base pb fv gv sv A := by
  have h1 := h.other hr hne 0 v0
  have r1 := box_set hr 0 v0
  have h2 := h1.other r1 hne 1 v1
  have r2 := box_set r1 1 v1
  have h3 := h2.other r2 hne 2 v2
  have r3 := box_set r2 2 v2
  have h4 := h3.other r3 hne 3 v3
  have r4 := box_set r3 3 v3
  exact h4.other r4 hne 4 v4

theorem AutO.five {w : World} {base rb : Nat} {v : Value} {A : Aut} {c : Array Value} (h : AutO w base v A) (hr : w.heap[rb]? = some (.cells c 26)) (v0 v1 v2 v3 v4 : Value) : AutO (fivePut w rb v0 v1 v2 v3 v4) base v A := by
  have h1 := h.put hr 0 v0
  have r1 := box_set hr 0 v0
  have h2 := h1.put r1 1 v1
  have r2 := box_set r1 1 v1
  have h3 := h2.put r2 2 v2
  have r3 := box_set r2 2 v2
  have h4 := h3.put r3 3 v3
  have r4 := box_set r3 3 v3
  exact h4.put r4 4 v4

theorem RA.slices {w : World} {base pb : Nat} {fv gv sv : Value} {A : Aut} (h : RA w base pb fv gv sv A) : ∃ a1 c1 a2 c2 a3 c3, fv = .slice a1 A.first.length c1 ∧ gv = .slice a2 A.good.length c2 ∧ sv = .slice a3 A.steps.length c3 := by
  obtain ⟨a1, c1, h1, -⟩ := intSl_of_owns h.f
  obtain ⟨a2, c2, h2, -⟩ := boolSl_of_owns h.g
  obtain ⟨a3, c3, h3, -⟩ := stepSl_of_owns h.s
  exact ⟨a1, c1, a2, c2, a3, c3, h1, h2, h3⟩

set_option maxRecDepth 100000 in
set_option maxHeartbeats 2000000 in
theorem read_any {w : World} (s : List UInt8) (hs : s.length ≤ 100000) (m : Int) (hm : w.cell? maxG = some (.int .i64 m)) :
    Calls Tryd.prog 56 #[.string ⟨s.toArray⟩] w fun e w' => ∃ v, e = .returned (.tuple #[v, .int .i64 ((readT s).2 : Nat)]) ∧ AutO w' w.heap.size v (readT s).1 ∧ Below w.heap.size w w' := by
  have hml := World.block_lt_of_cell? w _ hm
  have q := two_alloc w (Obj.cells #[.int .i64 0, .int .i64 0, .slice none 0 0, .slice none 0 0, .slice none 0 0] 26) (Obj.cells #[.int .i64 0, .int .i64 0, .slice none 0 0, .slice none 0 0, .slice none 0 0] 26)
  have HQ := hide q
  have HM := hide hm
  clear q hm
  go_enter Tryd.func56, Tryd.ntmps56
  go_wp2_with (fail)
  go_loopw [0, 5] (fun s0 s5 wr => ∃ (i : Nat) (T : List UInt8) (A : Aut) (fv gv sv : Value), s0 = .string ⟨T.toArray⟩ ∧ s5 = .int .i64 ((i : Int) + 1) ∧ T.length + i ≤ s.length ∧ Hid (readL i A (spl 10 T) = readT s) ∧ Hid (RA wr (w.heap.size + 1) (w.heap.size + 1) fv gv sv A) ∧ Hid (wr.heap[w.heap.size]? = some (.cells #[.int .i64 0, .int .i64 0, .slice none 0 0, .slice none 0 0, .slice none 0 0] 26)) ∧ Hid (Below w.heap.size w wr) ∧ Hid (Ahead i A)) (fun _ s5 _ => s.length + 2 - (intOf s5).toNat)
  case atStart => exact ⟨0, s, zeroA, _, _, _, rfl, rfl, by omega, hide rfl, hide (RA.new HQ.out.2 (Nat.le_refl _)), hide HQ.out.1, hide (by repeat (first | exact Below.refl _ _ | assumption | refine below_drewN ?_ _ | refine Below.drew ?_ | refine Below.alloc ?_ (by simp <;> omega) _ | refine below_trans ?_ (by assumption))), hide ⟨fun _ => rfl, fun h => by omega, by simp [zeroA]⟩⟩
  case round =>
    obtain ⟨i, T, A, fv, gv, sv, rfl, rfl, hlen, hrd, hRA, hres, hbl, hah⟩ := hrel
    have hm' : wr.cell? maxG = some (.int .i64 m) := (hbl.out.cell hml).trans HM.out
    have hsz := hbl.out.size
    by_cases hend : 3 ≤ i ∧ T = []
    · obtain ⟨h3, rfl⟩ := hend
      have g1 : decide ((i : Int) + 1 ≤ 3) = false := decide_eq_false (by omega)
      have HE := hide ((readL_end h3).symm.trans hrd.out)
      obtain ⟨a1, c1, a2, c2, a3, c3, rfl, rfl, rfl⟩ := hRA.out.slices
      have x0 := cell_of_row _ _ 0 _ _ _ hRA.out.box
      have x1 := cell_of_row _ _ 1 _ _ _ hRA.out.box
      have x2 := cell_of_row _ _ 2 _ _ _ hRA.out.box
      have x3 := cell_of_row _ _ 3 _ _ _ hRA.out.box
      have x4 := cell_of_row _ _ 4 _ _ _ hRA.out.box
      have y0 := cell_of_row _ _ 0 _ _ _ hres.out
      have y1 := cell_of_row _ _ 1 _ _ _ hres.out
      have y2 := cell_of_row _ _ 2 _ _ _ hres.out
      have y3 := cell_of_row _ _ 3 _ _ _ hres.out
      have y4 := cell_of_row _ _ 4 _ _ _ hres.out
      have z0 := frozen_of_row _ _ 0 _ _ hres.out
      have z1 := frozen_of_row _ _ 1 _ _ hres.out
      have z2 := frozen_of_row _ _ 2 _ _ hres.out
      have z3 := frozen_of_row _ _ 3 _ _ hres.out
      have z4 := frozen_of_row _ _ 4 _ _ hres.out
      have hF := fivePut_box hres.out (.int .i64 A.n) (.int .i64 A.m) (.slice a1 A.first.length c1) (.slice a2 A.good.length c2) (.slice a3 A.steps.length c3)
      have HAV := hide (hRA.out.five hres.out (by omega) (.int .i64 A.n) (.int .i64 A.m) (.slice a1 A.first.length c1) (.slice a2 A.good.length c2) (.slice a3 A.steps.length c3)).own
      have HBF := hide (fivePut_below hbl.out (Nat.le_refl _) (.int .i64 A.n) (.int .i64 A.m) (.slice a1 A.first.length c1) (.slice a2 A.good.length c2) (.slice a3 A.steps.length c3))
      have f0 := cell_of_row _ _ 0 _ _ _ hF
      have f1 := cell_of_row _ _ 1 _ _ _ hF
      have f2 := cell_of_row _ _ 2 _ _ _ hF
      have f3 := cell_of_row _ _ 3 _ _ _ hF
      have f4 := cell_of_row _ _ 4 _ _ _ hF
      unfold fivePut at f0 f1 f2 f3 f4 HAV HBF
      clear hF hRA
      go_wp2_with (fail)
      refine bodyPost_ret (v := .tuple #[.agg #[.int .i64 A.n, .int .i64 A.m, .slice a1 A.first.length c1, .slice a2 A.good.length c2, .slice a3 A.steps.length c3], .int .i64 0]) (by simp [results, Tryd.results56, go_sem, f0, f1, f2, f3, f4]) rfl ⟨.agg #[.int .i64 A.n, .int .i64 A.m, .slice a1 A.first.length c1, .slice a2 A.good.length c2, .slice a3 A.steps.length c3], ?_, ?_, HBF.out⟩
      · rw [← HE.out]; rfl
      · rw [← HE.out]; exact HAV.out.lower (by omega)
    · rcases spl_cases 10 T with hT | ⟨x, r, hx, rfl⟩
      · have HE := hide ((readL_last hend hT).symm.trans hrd.out)
        have HC := hide (cutL_none (by omega) hT m wr hm')
        have HEnd := hide hend
        clear hend hT hm'
        by_cases h3 : (i : Int) + 1 ≤ 3
        case' neg =>
          have g1 : decide ((i : Int) + 1 ≤ 3) = false := decide_eq_false h3
          have g2 : T.isEmpty = false := by
            have := HEnd.out
            cases T with
            | nil => exact absurd ⟨by omega, rfl⟩ this
            | cons b l => rfl
        case' pos => have g1 : decide ((i : Int) + 1 ≤ 3) = true := decide_eq_true h3
        all_goals
          clear h3
          go_wp2_with (fail)
          refine HC.out.mono ?_
          rintro e w2 ⟨rfl, hb2⟩
          have hres2 := (hb2.block w.heap.size (Array.getElem?_eq_some_iff.1 hres.out).1).trans hres.out
          have y0 := cell_of_row _ _ 0 _ _ _ hres2
          have y1 := cell_of_row _ _ 1 _ _ _ hres2
          have y2 := cell_of_row _ _ 2 _ _ _ hres2
          have y3 := cell_of_row _ _ 3 _ _ _ hres2
          have y4 := cell_of_row _ _ 4 _ _ _ hres2
          have z0 := frozen_of_row _ _ 0 _ _ hres2
          have z1 := frozen_of_row _ _ 1 _ _ hres2
          have z2 := frozen_of_row _ _ 2 _ _ hres2
          have z3 := frozen_of_row _ _ 3 _ _ hres2
          have z4 := frozen_of_row _ _ 4 _ _ hres2
          have hF := fivePut_box hres2 (.int .i64 0) (.int .i64 0) (.slice none 0 0) (.slice none 0 0) (.slice none 0 0)
          have HBF := hide (fivePut_below (below_trans hbl.out (hb2.mono (Nat.le_refl _))) (Nat.le_refl _) (.int .i64 0) (.int .i64 0) (.slice none 0 0) (.slice none 0 0) (.slice none 0 0))
          have f0 := cell_of_row _ _ 0 _ _ _ hF
          have f1 := cell_of_row _ _ 1 _ _ _ hF
          have f2 := cell_of_row _ _ 2 _ _ _ hF
          have f3 := cell_of_row _ _ 3 _ _ _ hF
          have f4 := cell_of_row _ _ 4 _ _ _ hF
          unfold fivePut at f0 f1 f2 f3 f4 HBF
          clear hF hres2 hb2
          go_wp2_with (fail)
          refine bodyPost_ret (v := .tuple #[.agg #[.int .i64 0, .int .i64 0, .slice none 0 0, .slice none 0 0, .slice none 0 0], .int .i64 ((i : Int) + 1)]) (by simp [results, Tryd.results56, go_sem, f0, f1, f2, f3, f4]) rfl ⟨.agg #[.int .i64 0, .int .i64 0, .slice none 0 0, .slice none 0 0, .slice none 0 0], ?_, ?_, HBF.out⟩
          · rw [← HE.out]; rfl
          · rw [← HE.out]; exact autO_zero _ _
      · have HC := hide (cutL_line (r := r) (by omega) hx m wr hm')
        have HLn := hide (readL_line (i := i) (A := A) (r := r) hx)
        rw [hrd.out] at HLn
        have hlen2 : x.length + 1 + r.length + i ≤ s.length := by simp at hlen; omega
        have g2 : (x ++ 10 :: r).isEmpty = false := by cases x <;> rfl
        generalize x ++ 10 :: r = T at *
        clear hend hx hm' hlen
        by_cases h3 : (i : Int) + 1 ≤ 3
        case' neg => have g1 : decide ((i : Int) + 1 ≤ 3) = false := decide_eq_false h3
        case' pos => have g1 : decide ((i : Int) + 1 ≤ 3) = true := decide_eq_true h3
        all_goals
          clear h3
          go_wp2_with (fail)
          refine HC.out.mono ?_
          rintro e w2 ⟨rfl, hb2⟩
          have HS := hide (splitW_any x (by omega) m w2 ((hb2.cell (by have := hbl.out.size; exact Nat.lt_of_lt_of_le hml this)).trans ((hbl.out.cell hml).trans HM.out)))
          have HR2 := hide (hRA.out.below hb2)
          have Hres2 := hide ((hb2.block w.heap.size (Array.getElem?_eq_some_iff.1 hres.out).1).trans hres.out)
          have Hb2 := hide (below_trans hbl.out hb2)
          clear hb2
          go_wp2_with (fail)
          refine HS.out.mono ?_
          rintro e w3 ⟨o, rfl, rfl, hst⟩
          have hpl : w.heap.size + 1 < w2.heap.size := (Array.getElem?_eq_some_iff.1 HR2.out.box).1
          have HLk := hide (show ∀ k, (Value.slice (some ⟨w2.heap.size, 0, none⟩) (spl 32 x).length (spl 32 x).length).ownBlock = some k → k ≠ w.heap.size + 1 from fun k hk e => by
            have : w2.heap.size = k := by simpa [Value.ownBlock] using hk
            omega)
          have HL := hide (readLine_any (HR2.out.below (below_new w2 o)) hst (by have := spl_ne 32 x; exact List.length_pos_iff.2 this) (by have := spl_len 32 x; omega) HLk.out hah.out (by omega))
          clear hst
          go_wp2_with (fail)
          refine HL.out.mono ?_
          rintro e w4 ⟨rfl, h4, h5⟩
          have hres4 := (h4.block w.heap.size (by omega)).trans ((heap_alloc_old w2 o (Array.getElem?_eq_some_iff.1 Hres2.out).1).trans Hres2.out)
          have HB4 := hide ((Hb2.out.alloc (by omega) o).trans (h4.mono (by omega)))
          cases hlb : lineB i (spl 32 x) A with
          | true =>
            rw [hlb] at HLn
            obtain ⟨fv', gv', sv', h6⟩ := h5 hlb
            have H6 := hide h6
            have HN := hide (hah.out.next hlb)
            have Hres4 := hide hres4
            clear hlb h4 h5 h6 hres4
            go_wp2_with (fail)
            go_roundw
            case rel => exact ⟨i + 1, r, _, fv', gv', sv', rfl, by go_num, by omega, hide (by simpa using HLn.out.symm), H6, Hres4, HB4, HN⟩
            case measure => simp [intOf]; omega
          | false =>
            rw [hlb] at HLn
            have HE := hide (show (zeroA, i + 1) = readT s by simpa using HLn.out.symm)
            have y0 := cell_of_row _ _ 0 _ _ _ hres4
            have y1 := cell_of_row _ _ 1 _ _ _ hres4
            have y2 := cell_of_row _ _ 2 _ _ _ hres4
            have y3 := cell_of_row _ _ 3 _ _ _ hres4
            have y4 := cell_of_row _ _ 4 _ _ _ hres4
            have z0 := frozen_of_row _ _ 0 _ _ hres4
            have z1 := frozen_of_row _ _ 1 _ _ hres4
            have z2 := frozen_of_row _ _ 2 _ _ hres4
            have z3 := frozen_of_row _ _ 3 _ _ hres4
            have z4 := frozen_of_row _ _ 4 _ _ hres4
            have hF := fivePut_box hres4 (.int .i64 0) (.int .i64 0) (.slice none 0 0) (.slice none 0 0) (.slice none 0 0)
            have HBF := hide (fivePut_below HB4.out (Nat.le_refl _) (.int .i64 0) (.int .i64 0) (.slice none 0 0) (.slice none 0 0) (.slice none 0 0))
            have f0 := cell_of_row _ _ 0 _ _ _ hF
            have f1 := cell_of_row _ _ 1 _ _ _ hF
            have f2 := cell_of_row _ _ 2 _ _ _ hF
            have f3 := cell_of_row _ _ 3 _ _ _ hF
            have f4 := cell_of_row _ _ 4 _ _ _ hF
            unfold fivePut at f0 f1 f2 f3 f4 HBF
            clear hF hres4 h4 h5 hlb
            go_wp2_with (fail)
            refine bodyPost_ret (v := .tuple #[.agg #[.int .i64 0, .int .i64 0, .slice none 0 0, .slice none 0 0, .slice none 0 0], .int .i64 ((i : Int) + 1)]) (by simp [results, Tryd.results56, go_sem, f0, f1, f2, f3, f4]) rfl ⟨.agg #[.int .i64 0, .int .i64 0, .slice none 0 0, .slice none 0 0, .slice none 0 0], ?_, ?_, HBF.out⟩
            · rw [← HE.out]; rfl
            · rw [← HE.out]; exact autO_zero _ _
end Go.Proofs.YtpiacnnifdjlkaaDoor

/-
  What Parse of package auto answers.
-/
namespace Go.Proofs.YtpiacnnifdjlkaaDoor
open Go.RowKit Go.Sort

def prsE (s : List UInt8) : Int := if 100000 < s.length then 2 else if (readT s).2 ≠ 0 then 1 else chkA (readT s).1
def prsN (s : List UInt8) : Nat := if 100000 < s.length then 0 else (readT s).2
def prsA (s : List UInt8) : Aut := if prsE s = 0 then (readT s).1 else zeroA

/-- What Parse leaves. -/
def Parsed (s : List UInt8) (w : World) (e : Ending) (w' : World) : Prop := ∃ v, e = .returned (.tuple #[v, .int .i64 (prsN s : Nat), .int .i64 (prsE s)]) ∧ AutO w' w.heap.size v (prsA s) ∧ Below w.heap.size w w'

set_option maxRecDepth 100000 in
set_option maxHeartbeats 2000000 in
theorem parse_any {w : World} (s : List UInt8) (m : Int) (hm : w.cell? maxG = some (.int .i64 m)) :
    Calls Tryd.prog 21 #[.string ⟨s.toArray⟩] w fun e w' => Parsed s w e w' := by
  have hml := World.block_lt_of_cell? w _ hm
  have HM := hide hm
  have hr := one_new w (Obj.cells #[.int .i64 0, .int .i64 0, .slice none 0 0, .slice none 0 0, .slice none 0 0] 26)
  have HBn := hide (below_new w (Obj.cells #[.int .i64 0, .int .i64 0, .slice none 0 0, .slice none 0 0, .slice none 0 0] 26))
  have Hr := hide hr
  clear hm hr
  have hsz : (⟨s.toArray⟩ : ByteArray).size = s.length := by simp [ByteArray.size]
  by_cases hl : 100000 < s.length
  · have hg : decide ((100000 : Int) < (s.length : Int)) = true := decide_eq_true (by omega)
    have HE := hide (show prsE s = 2 by unfold prsE; rw [if_pos hl])
    have HN := hide (show prsN s = 0 by unfold prsN; rw [if_pos hl])
    have HA := hide (show prsA s = zeroA by unfold prsA; rw [HE.out]; rfl)
    clear hl
    go_enter Tryd.func21, Tryd.ntmps21
    go_wp2_with (fail)
    refine bodyPost_ret (v := .tuple #[.agg #[.int .i64 0, .int .i64 0, .slice none 0 0, .slice none 0 0, .slice none 0 0], .int .i64 0, .int .i64 2]) (by simp [results, Tryd.results21, go_sem]) rfl ⟨.agg #[.int .i64 0, .int .i64 0, .slice none 0 0, .slice none 0 0, .slice none 0 0], ?_, ?_, ?_⟩
    · rw [HE.out, HN.out]; rfl
    · rw [HA.out]; exact autO_zero _ _
    · exact (by repeat (first | exact Below.refl _ _ | assumption | refine below_drewN ?_ _ | refine Below.drew ?_ | refine Below.alloc ?_ (by simp <;> omega) _ | refine below_trans ?_ (by assumption)))
  · have hg : ¬ ((100000 : Int) < (s.length : Int)) := by omega
    have HE := hide (show prsE s = if (readT s).2 ≠ 0 then 1 else chkA (readT s).1 by unfold prsE; rw [if_neg hl])
    have HN := hide (show prsN s = (readT s).2 by unfold prsN; rw [if_neg hl])
    have HC := hide (read_any (w := w.alloc (Obj.cells #[.int .i64 0, .int .i64 0, .slice none 0 0, .slice none 0 0, .slice none 0 0] 26)) s (by omega) m ((HBn.out.cell hml).trans HM.out))
    generalize hrt : readT s = rt at *
    have HRT := hide hrt
    clear hl hrt
    obtain ⟨A, k⟩ := rt
    dsimp only at *
    go_enter Tryd.func21, Tryd.ntmps21
    go_wp2_with (fail)
    refine HC.out.mono ?_
    rintro e w2 ⟨v, rfl, hAV, hb2⟩
    have hlt0 : w.heap.size < (w.alloc (Obj.cells #[.int .i64 0, .int .i64 0, .slice none 0 0, .slice none 0 0, .slice none 0 0] 26)).heap.size := by simp
    have hlt : w.heap.size < w2.heap.size := Nat.lt_of_lt_of_le hlt0 hb2.size
    have hres2 := (hb2.block w.heap.size hlt0).trans Hr.out
    have HB2 := hide (below_trans HBn.out hb2)
    have HAV := hide hAV
    obtain ⟨fv, gv, sv, rfl, i1, i2, i3⟩ := hAV.aut
    obtain ⟨a1, c1, rfl, -⟩ := i1
    obtain ⟨a2, c2, rfl, -⟩ := i2
    obtain ⟨a3, c3, rfl, -⟩ := i3
    clear hAV
    clear hb2 HC hlt0
    by_cases hk : k = 0
    · subst hk
      rw [if_neg (by decide)] at HE
      have Hres2 := hide hres2
      clear hres2
      have HBx := hide (HB2.out.alloc (by omega) (Obj.cells #[.int .i64 A.n, .int .i64 A.m, .slice a1 A.first.length c1, .slice a2 A.good.length c2, .slice a3 A.steps.length c3] 26))
      have HCk := hide (autoCheck_any (HAV.out.aut.below (below_new w2 (Obj.cells #[.int .i64 A.n, .int .i64 A.m, .slice a1 A.first.length c1, .slice a2 A.good.length c2, .slice a3 A.steps.length c3] 26))))
      have HAx := hide (HAV.out.below (below_new w2 (Obj.cells #[.int .i64 A.n, .int .i64 A.m, .slice a1 A.first.length c1, .slice a2 A.good.length c2, .slice a3 A.steps.length c3] 26)))
      have Hbx := hide (one_new w2 (Obj.cells #[.int .i64 A.n, .int .i64 A.m, .slice a1 A.first.length c1, .slice a2 A.good.length c2, .slice a3 A.steps.length c3] 26))
      have Hrx := hide ((heap_alloc_old w2 (Obj.cells #[.int .i64 A.n, .int .i64 A.m, .slice a1 A.first.length c1, .slice a2 A.good.length c2, .slice a3 A.steps.length c3] 26) hlt).trans Hres2.out)
      go_wp2_with (fail)
      refine HCk.out.mono ?_
      rintro e w4 ⟨rfl, hb4⟩
      have hlt4 : w2.heap.size < w4.heap.size := by have := hb4.size; simp at this; omega
      have hres4 := (hb4.block w.heap.size (by simp; omega)).trans Hrx.out
      have hbx4 := (hb4.block w2.heap.size (by simp)).trans Hbx.out
      have HB4 := hide (below_trans HBx.out hb4)
      have HA4 := hide (HAx.out.below hb4)
      have y0 := cell_of_row _ _ 0 _ _ _ hres4
      have y1 := cell_of_row _ _ 1 _ _ _ hres4
      have y2 := cell_of_row _ _ 2 _ _ _ hres4
      have y3 := cell_of_row _ _ 3 _ _ _ hres4
      have y4 := cell_of_row _ _ 4 _ _ _ hres4
      have z0 := frozen_of_row _ _ 0 _ _ hres4
      have z1 := frozen_of_row _ _ 1 _ _ hres4
      have z2 := frozen_of_row _ _ 2 _ _ hres4
      have z3 := frozen_of_row _ _ 3 _ _ hres4
      have z4 := frozen_of_row _ _ 4 _ _ hres4
      by_cases hc : chkA A = 0
      · rw [hc]
        have x0 := cell_of_row _ _ 0 _ _ _ hbx4
        have x1 := cell_of_row _ _ 1 _ _ _ hbx4
        have x2 := cell_of_row _ _ 2 _ _ _ hbx4
        have x3 := cell_of_row _ _ 3 _ _ _ hbx4
        have x4 := cell_of_row _ _ 4 _ _ _ hbx4
        have HPA := hide (show prsA s = A by unfold prsA; rw [HE.out, if_pos hc, HRT.out])
        have hF := fivePut_box hres4 (.int .i64 A.n) (.int .i64 A.m) (.slice a1 A.first.length c1) (.slice a2 A.good.length c2) (.slice a3 A.steps.length c3)
        have HBF := hide (fivePut_below HB4.out (Nat.le_refl _) (.int .i64 A.n) (.int .i64 A.m) (.slice a1 A.first.length c1) (.slice a2 A.good.length c2) (.slice a3 A.steps.length c3))
        have HAF := hide (HA4.out.five hres4 (.int .i64 A.n) (.int .i64 A.m) (.slice a1 A.first.length c1) (.slice a2 A.good.length c2) (.slice a3 A.steps.length c3))
        rw [hc] at HE
        have f0 := cell_of_row _ _ 0 _ _ _ hF
        have f1 := cell_of_row _ _ 1 _ _ _ hF
        have f2 := cell_of_row _ _ 2 _ _ _ hF
        have f3 := cell_of_row _ _ 3 _ _ _ hF
        have f4 := cell_of_row _ _ 4 _ _ _ hF
        unfold fivePut at f0 f1 f2 f3 f4 HBF HAF
        clear hF hres4 hbx4 hb4 hc
        go_wp2_with (fail)
        refine bodyPost_ret (v := .tuple #[.agg #[.int .i64 A.n, .int .i64 A.m, .slice a1 A.first.length c1, .slice a2 A.good.length c2, .slice a3 A.steps.length c3], .int .i64 0, .int .i64 0]) (by simp [results, Tryd.results21, go_sem, f0, f1, f2, f3, f4]) rfl ⟨.agg #[.int .i64 A.n, .int .i64 A.m, .slice a1 A.first.length c1, .slice a2 A.good.length c2, .slice a3 A.steps.length c3], ?_, ?_, HBF.out⟩
        · rw [HE.out, HN.out]; rfl
        · rw [HPA.out]; exact HAF.out.lower (by simp)
      · have hd : (chkA A != 0) = true := by simpa using hc
        have HPA := hide (show prsA s = zeroA by unfold prsA; rw [HE.out, if_neg hc])
        have hF := fivePut_box hres4 (.int .i64 0) (.int .i64 0) (.slice none 0 0) (.slice none 0 0) (.slice none 0 0)
        have HBF := hide (fivePut_below HB4.out (Nat.le_refl _) (.int .i64 0) (.int .i64 0) (.slice none 0 0) (.slice none 0 0) (.slice none 0 0))
        have f0 := cell_of_row _ _ 0 _ _ _ hF
        have f1 := cell_of_row _ _ 1 _ _ _ hF
        have f2 := cell_of_row _ _ 2 _ _ _ hF
        have f3 := cell_of_row _ _ 3 _ _ _ hF
        have f4 := cell_of_row _ _ 4 _ _ _ hF
        unfold fivePut at f0 f1 f2 f3 f4 HBF
        clear hF hres4 hbx4 hb4 hc
        go_wp2_with (fail)
        refine bodyPost_ret (v := .tuple #[.agg #[.int .i64 0, .int .i64 0, .slice none 0 0, .slice none 0 0, .slice none 0 0], .int .i64 0, .int .i64 (chkA A)]) (by simp [results, Tryd.results21, go_sem, f0, f1, f2, f3, f4]) rfl ⟨.agg #[.int .i64 0, .int .i64 0, .slice none 0 0, .slice none 0 0, .slice none 0 0], ?_, ?_, HBF.out⟩
        · rw [HE.out, HN.out]; rfl
        · rw [HPA.out]; exact autO_zero _ _
    · have hd : ((k : Int) != 0) = true := by simp; omega
      rw [if_pos hk] at HE
      have HPA := hide (show prsA s = zeroA by unfold prsA; rw [HE.out]; rfl)
      have y0 := cell_of_row _ _ 0 _ _ _ hres2
      have y1 := cell_of_row _ _ 1 _ _ _ hres2
      have y2 := cell_of_row _ _ 2 _ _ _ hres2
      have y3 := cell_of_row _ _ 3 _ _ _ hres2
      have y4 := cell_of_row _ _ 4 _ _ _ hres2
      have z0 := frozen_of_row _ _ 0 _ _ hres2
      have z1 := frozen_of_row _ _ 1 _ _ hres2
      have z2 := frozen_of_row _ _ 2 _ _ hres2
      have z3 := frozen_of_row _ _ 3 _ _ hres2
      have z4 := frozen_of_row _ _ 4 _ _ hres2
      have hF := fivePut_box hres2 (.int .i64 0) (.int .i64 0) (.slice none 0 0) (.slice none 0 0) (.slice none 0 0)
      have HBF := hide (fivePut_below HB2.out (Nat.le_refl _) (.int .i64 0) (.int .i64 0) (.slice none 0 0) (.slice none 0 0) (.slice none 0 0))
      have f0 := cell_of_row _ _ 0 _ _ _ hF
      have f1 := cell_of_row _ _ 1 _ _ _ hF
      have f2 := cell_of_row _ _ 2 _ _ _ hF
      have f3 := cell_of_row _ _ 3 _ _ _ hF
      have f4 := cell_of_row _ _ 4 _ _ _ hF
      unfold fivePut at f0 f1 f2 f3 f4 HBF
      clear hF hres2 hk
      go_wp2_with (fail)
      refine bodyPost_ret (v := .tuple #[.agg #[.int .i64 0, .int .i64 0, .slice none 0 0, .slice none 0 0, .slice none 0 0], .int .i64 k, .int .i64 1]) (by simp [results, Tryd.results21, go_sem, f0, f1, f2, f3, f4, hlt]) rfl ⟨.agg #[.int .i64 0, .int .i64 0, .slice none 0 0, .slice none 0 0, .slice none 0 0], ?_, ?_, ?_⟩
      · rw [HE.out, HN.out]
      · rw [HPA.out]; exact autO_zero _ _
      · exact HBF.out.alloc (by simp [World.setCell] <;> omega) _
end Go.Proofs.YtpiacnnifdjlkaaDoor

namespace Go.Proofs.YtpiacnnifdjlkaaDoor

/-- What TrimOf keeps of the states that it has marked. -/
structure TF (A : Aut) (f : Nat → Bool) : Prop where
  sound : ∀ q, f q = true → ReachA A q
  first : ∀ x ∈ A.first, f x.toNat = true

theorem TF.add {A : Aut} {f : Nat → Bool} (h : TF A f) {s : Nat} (hs : ReachA A s) : TF A (addF f s) := by
  refine ⟨fun q hq => ?_, fun x hx => by unfold addF; rw [h.first x hx]; rfl⟩
  unfold addF at hq
  rcases (Bool.or_eq_true _ _).mp hq with hq | hq
  · exact h.sound q hq
  · rw [of_decide_eq_true hq]; exact hs

theorem TF.all {A : Aut} {f : Nat → Bool} (h : TF A f) (hc : ∀ s ∈ A.steps, f s.f.toNat = true → f s.t.toNat = true) (q : Nat) : f q = true ↔ ReachA A q := by
  refine ⟨h.sound q, ?_⟩
  rintro ⟨i, hi, n, hn⟩
  induction n generalizing q with
  | zero =>
    have e : (A.first.getD i 0).toNat = q := hn
    rw [← e]
    exact h.first _ (by simp [List.getD, hi])
  | succ n ih =>
    obtain ⟨z, hz, s, hs, e1, e2⟩ := hn
    have := hc s hs (by rw [e1, Int.toNat_natCast]; exact ih z hz)
    rwa [e2, Int.toNat_natCast] at this

theorem rk_congr {f g : Nat → Bool} {s : Nat} (h : ∀ q, q < s → f q = g q) : rk f s = rk g s := by
  unfold rk
  rw [List.filter_congr fun q hq => h q (List.mem_range.1 hq)]

theorem onlyA_congr {A : Aut} (hA : Right A) {N : Nat} (hN : (N : Int) = A.n) {f g : Nat → Bool} (h : ∀ q, q < N → f q = g q) : onlyA f N A = onlyA g N A := by
  have hst : keptSteps f A.steps = keptSteps g A.steps := by
    unfold keptSteps
    have e1 : A.steps.filter (fun s => f s.f.toNat) = A.steps.filter (fun s => g s.f.toNat) := List.filter_congr fun s hs => h _ (by have := hA.steps s hs; omega)
    rw [e1]
    refine List.map_congr_left fun s hs => ?_
    have := hA.steps s (List.mem_filter.1 hs).1
    unfold keptStep
    rw [rk_congr (g := g) (fun q hq => h q (by omega)), rk_congr (s := s.t.toNat) (g := g) (fun q hq => h q (by omega))]
  have hf : keptFirst f A.first = keptFirst g A.first := by
    unfold keptFirst
    refine List.map_congr_left fun x hx => ?_
    have := hA.first x hx
    rw [rk_congr (g := g) (fun q hq => h q (by omega))]
  have hg : keptGood f A.good N = keptGood g A.good N := by
    unfold keptGood
    rw [List.filter_congr fun q hq => h q (List.mem_range.1 hq)]
  unfold onlyA
  rw [hst, hf, hg, rk_congr h]

/-- What trimming an automaton leaves. -/
def TrimR (A T : Aut) : Prop := (A.first = [] ∧ T = ⟨1, A.m, [], [false], []⟩) ∨ (A.first ≠ [] ∧ ∃ f, (∀ q, q < A.n.toNat → (f q = true ↔ ReachA A q)) ∧ T = onlyA f A.n.toNat A)

theorem TrimR.unique {A T T' : Aut} (hA : Right A) (h : TrimR A T) (h' : TrimR A T') : T' = T := by
  rcases h with ⟨h0, rfl⟩ | ⟨h0, f, hf, rfl⟩
  · rcases h' with ⟨_, rfl⟩ | ⟨h1, _⟩
    · rfl
    · exact absurd h0 h1
  · rcases h' with ⟨h1, _⟩ | ⟨_, g, hg, rfl⟩
    · exact absurd h1 h0
    · refine onlyA_congr hA (by have := hA.n1; omega) fun q hq => ?_
      rw [Bool.eq_iff_iff, hf q hq, hg q hq]

theorem rk_pos {f : Nat → Bool} {N q : Nat} (hq : q < N) (h : f q = true) : 1 ≤ rk f N := by
  have := rk_lt f hq h
  omega

theorem rk_zero {f : Nat → Bool} {N : Nat} (h : ∀ q, q < N → f q = false) : rk f N = 0 := by
  unfold rk
  rw [List.filter_eq_nil_iff.2 fun q hq => by rw [h q (List.mem_range.1 hq)]; decide]
  rfl

/-- Steps of which both ends are kept are those whose beginning is. -/
theorem kept_both {A : Aut} {f : Nat → Bool} (hc : ∀ s ∈ A.steps, f s.f.toNat = true → f s.t.toNat = true) {s : Stp} (hs : s ∈ A.steps) : (f s.f.toNat && f s.t.toNat) = f s.f.toNat := by
  cases h : f s.f.toNat with
  | false => rfl
  | true => rw [hc s hs h]; rfl
end Go.Proofs.YtpiacnnifdjlkaaDoor
