/-
  What TakesOf of the reference answers.
-/
import Derived.Test.YtpiacnnifdjlkaaDoorCl
import Derived.Deep.LoopGhost
namespace Go.Proofs.YtpiacnnifdjlkaaDoor
open Go.RowKit Go.Sort

/-- A set of states, letters on; loops on; all that loops lead to, fewer than k. -/
def mvsL (ss : List Stp) (ls : List Int) (f : Nat → Bool) : Nat → Bool := ls.foldl (fun f l => mvL ss l f) f
def itL (ss : List Stp) (ls : List Int) (f : Nat → Bool) : Nat → Nat → Bool
  | 0 => f
  | k + 1 => mvsL ss ls (itL ss ls f k)
def unB (ss : List Stp) (ls : List Int) (f : Nat → Bool) (k q : Nat) : Bool := (List.range k).any fun j => itL ss ls f j q
def firstF (fs : List Int) (q : Nat) : Bool := fs.any fun x => decide (x = (q : Int))

theorem mvsL_take (ss : List Stp) (ls : List Int) (f : Nat → Bool) (i : Nat) (h : i < ls.length) : mvsL ss (ls.take (i + 1)) f = mvL ss (ls.getD i 0) (mvsL ss (ls.take i) f) := by
  unfold mvsL
  rw [List.take_add_one, List.getElem?_eq_getElem h, List.foldl_append]
  simp [List.getD, h]

theorem unB_succ (ss : List Stp) (ls : List Int) (f : Nat → Bool) (k q : Nat) : unB ss ls f (k + 1) q = (unB ss ls f k q || itL ss ls f k q) := by
  unfold unB
  rw [List.range_succ, List.any_append]
  simp

theorem firstF_take (fs : List Int) (i q : Nat) (h : i < fs.length) : firstF (fs.take (i + 1)) q = (firstF (fs.take i) q || decide (fs.getD i 0 = (q : Int))) := by
  unfold firstF
  rw [List.take_add_one, List.getElem?_eq_getElem h, List.any_append]
  simp [List.getD, h]

/-- How many states are not among them. -/
def left (p : Nat → Bool) (N : Nat) : Nat := (List.range N).countP fun q => !p q

theorem left_lt {p p' : Nat → Bool} (N : Nat) (hle : ∀ q, p q = true → p' q = true) (q : Nat) (hq : q < N) (h1 : p q = false) (h2 : p' q = true) : left p' N < left p N := by
  unfold left
  induction N with
  | zero => omega
  | succ N ih =>
    have mono : (List.range N).countP (fun q => !p' q) ≤ (List.range N).countP (fun q => !p q) := by
      refine List.countP_mono_left ?_
      intro x _ hx
      cases hp : p x with
      | false => rfl
      | true => rw [hle x hp] at hx; cases hx
    rw [List.range_succ, List.countP_append, List.countP_append, List.countP_singleton, List.countP_singleton]
    by_cases e : q = N
    · subst e
      rw [h1, h2]
      simp
      omega
    · have := ih (by omega)
      cases hp : p N with
      | false => cases hp' : p' N <;> simp <;> omega
      | true =>
        rw [hle N hp]
        simp
        omega

set_option maxRecDepth 100000 in
set_option maxHeartbeats 8000000 in
theorem takesOf_any {w : World} {gd : List Bool} {ss : List Stp} {fs hs ls : List Int} (N : Nat) (m : Int) (a1 a2 a3 a4 a5 : Option Addr) (c1 c2 c3 c4 c5 : Nat) (hN : N ≤ 300) (hF : IntSl w (.slice a1 fs.length c1) fs) (hfs : ∀ x ∈ fs, 0 ≤ x ∧ x < N) (hG : BoolSl w (.slice a2 N c2) gd) (hgl : gd.length = N) (hS : StepSl w (.slice a3 ss.length c3) ss) (hlen : ss.length ≤ 6000)
    (hst : ∀ s ∈ ss, 0 ≤ s.f ∧ s.f < N ∧ 0 ≤ s.t ∧ s.t < N) (hh : IntSl w (.slice a4 hs.length c4) hs) (hl4 : hs.length ≤ 4000) (hl : IntSl w (.slice a5 ls.length c5) ls) (hl5 : ls.length ≤ 4000) (hl1 : fs.length ≤ maxLen) :
    Calls Tryd.prog 33 #[.agg #[.int .i64 (N : Nat), .int .i64 m, .slice a1 fs.length c1, .slice a2 N c2, .slice a3 ss.length c3], .agg #[.slice a4 hs.length c4, .slice a5 ls.length c5]] w fun e w' =>
      ∃ k, e = .returned (.bool ((List.range N).any fun q => unB ss ls (mvsL ss hs (firstF fs)) k q && circB ss gd ls N q)) ∧ (∀ q, q < N → itL ss ls (mvsL ss hs (firstF fs)) k q = true → unB ss ls (mvsL ss hs (firstF fs)) k q = true) ∧ Below w.heap.size w w' := by
  unfold maxLen at hl1
  have hmk := make_bools N (by omega)
  have HM := hide (fun (w1 : World) (hb : Below w.heap.size w w1) (l : Int) (g1 g2 : Nat) (f h : Nat → Bool) (hf : BR w1 g1 N f) (hh : BR w1 g2 N h) => moved_any N m l (.slice a1 fs.length c1) a2 a3 c2 c3 g1 g2 f h hN (hG.below hb) hgl (hS.below hb) hlen hst hf hh)
  have HC := hide (fun (w1 : World) (hb : Below w.heap.size w w1) (q : Nat) (hq : q < N) => circles_any N m (.slice a1 fs.length c1) a2 a3 a5 c2 c3 c5 q hN hq (hG.below hb) hgl (hS.below hb) hlen hst (hl.below hb) hl5)
  have HF := hide hF
  have Hh := hide hh
  have Hl := hide hl
  have Hfs := hide hfs
  clear hG hgl hS hst hl hlen hF hh hfs
  generalize ss.length = L at *
  generalize hL1 : fs.length = L1 at *
  generalize hL4 : hs.length = L4 at *
  generalize hL5 : ls.length = L5 at *
  have HL1 := hide hL1
  have HL4 := hide hL4
  have HL5 := hide hL5
  clear hL1 hL4 hL5
  generalize hX0 : mvsL ss hs (firstF fs) = X0
  have HX0 := hide hX0
  clear hX0
  go_enter Tryd.func33, Tryd.ntmps33
  go_wp2_with (fail)
  have hq3 := three_alloc w (Obj.cells #[Value.int .i64 (N : Nat), .int .i64 m, .slice a1 L1 c1, .slice a2 N c2, .slice a3 L c3] 26) (Obj.cells #[Value.slice a4 L4 c4, .slice a5 L5 c5] 44) (Obj.cells (falses N) 4)
  have HB0 := hide (show Below (w.heap.size + 2) ((w.alloc (Obj.cells #[Value.int .i64 (N : Nat), .int .i64 m, .slice a1 L1 c1, .slice a2 N c2, .slice a3 L c3] 26)).alloc (Obj.cells #[Value.slice a4 L4 c4, .slice a5 L5 c5] 44)) (((w.alloc (Obj.cells #[Value.int .i64 (N : Nat), .int .i64 m, .slice a1 L1 c1, .slice a2 N c2, .slice a3 L c3] 26)).alloc (Obj.cells #[Value.slice a4 L4 c4, .slice a5 L5 c5] 44)).alloc (Obj.cells (falses N) 4)) from (Below.refl _ _).alloc (by simp) _)
  have HN0 := hide (BR.new hq3.2.2)
  clear hq3
  go_loopw [6] (fun s6 wr => ∃ i : Nat, s6 = .int .i64 i ∧ i ≤ L1 ∧ BR wr (w.heap.size + 1 + 1) N (firstF (fs.take i)) ∧ Below (w.heap.size + 2) ((w.alloc (Obj.cells #[Value.int .i64 (N : Nat), .int .i64 m, .slice a1 L1 c1, .slice a2 N c2, .slice a3 L c3] 26)).alloc (Obj.cells #[Value.slice a4 L4 c4, .slice a5 L5 c5] 44)) wr) (fun s6 _ => L1 - (intOf s6).toNat)
  case atStart => exact ⟨0, rfl, Nat.zero_le _, HN0.out, HB0.out⟩
  case round =>
    obtain ⟨i, rfl, hi, hx, hb⟩ := hrel
    have Hb := hide hb
    have HX := hide hx
    have qz := two_alloc w (Obj.cells #[Value.int .i64 (N : Nat), .int .i64 m, .slice a1 L1 c1, .slice a2 N c2, .slice a3 L c3] 26) (Obj.cells #[Value.slice a4 L4 c4, .slice a5 L5 c5] 44)
    have e0 : wr.heap[w.heap.size]? = some (Obj.cells #[Value.int .i64 (N : Nat), .int .i64 m, .slice a1 L1 c1, .slice a2 N c2, .slice a3 L c3] 26) := (hb.block w.heap.size (by omega)).trans qz.1
    have hwl := (Array.getElem?_eq_some_iff.1 e0).1
    have p2 := cell_of_row wr _ 2 _ _ _ e0
    have hbw : Below w.heap.size w wr := below_trans (show Below w.heap.size w ((w.alloc (Obj.cells #[Value.int .i64 (N : Nat), .int .i64 m, .slice a1 L1 c1, .slice a2 N c2, .slice a3 L c3] 26)).alloc (Obj.cells #[Value.slice a4 L4 c4, .slice a5 L5 c5] 44)) from (by repeat (first | exact Below.refl _ _ | assumption | refine below_drewN ?_ _ | refine Below.drew ?_ | refine Below.alloc ?_ (by simp <;> omega) _ | refine below_trans ?_ (by assumption)))) (hb.mono (by simp))
    have hxl := hx.lt
    clear hb hx qz
    by_cases hil : i < L1
    · have hls : i < fs.length := by rw [HL1.out]; exact hil
      obtain ⟨a', cap', e, _, hz, _⟩ := HF.out
      injection e with e1 e2 e3
      subst e1
      rcases hz with hz | ⟨b5, o5, e, hc⟩
      · rw [hz] at hls; simp at hls
      subst e
      have d0 := hc i hls
      have hb5 : b5 < w.heap.size := World.block_lt_of_cell? w _ d0
      have d0 := (hbw.cell (p := ⟨b5, _, none⟩) hb5).trans d0
      have hr := Hfs.out (fs.getD i 0) (by simp [List.getD, hls])
      have HT := hide (fun q => firstF_take fs i q hls)
      generalize fs.getD i 0 = z at *
      obtain ⟨zn, rfl⟩ := Int.eq_ofNat_of_zero_le hr.1
      have hzn : zn < N := by omega
      have x1 := HX.out.cell zn hzn
      have x2 := HX.out.soft
      clear hc e2 e3 e0
      go_wp2
      go_roundw
      case rel => exact ⟨i + 1, by go_num, by omega, (HX.out.set zn hzn).congr (fun q _ => by rw [HT.out]; congr 1; rw [decide_eq_decide]; omega), Hb.out.setCell (by show w.heap.size + 2 ≤ w.heap.size + 1 + 1; omega) _⟩
      case measure => simp [intOf]; omega
    · obtain rfl : L1 = i := by omega
      have e1 : fs.take L1 = fs := by rw [← HL1.out]; exact List.take_length
      have hX := HX.out
      rw [e1] at hX
      have HX1 := hide hX
      clear hX HX e1 hi hil e0
      go_wp2_with (fail)
      go_loopw [5, 7] (fun s5 s7 wr => ∃ (j g : Nat), s5 = .slice (some ⟨g, 0, none⟩) N N ∧ s7 = .int .i64 j ∧ j ≤ L4 ∧ BR wr g N (mvsL ss (hs.take j) (firstF fs)) ∧ Below (w.heap.size + 2) ((w.alloc (Obj.cells #[Value.int .i64 (N : Nat), .int .i64 m, .slice a1 L1 c1, .slice a2 N c2, .slice a3 L c3] 26)).alloc (Obj.cells #[Value.slice a4 L4 c4, .slice a5 L5 c5] 44)) wr) (fun _ s7 _ => L4 - (intOf s7).toNat)
      case atStart => exact ⟨0, _, rfl, rfl, Nat.zero_le _, HX1.out, Hb.out⟩
      case round =>
        obtain ⟨j, g, rfl, rfl, hj, hx, hb⟩ := hrel
        have Hb := hide hb
        have HX := hide hx
        have qz := two_alloc w (Obj.cells #[Value.int .i64 (N : Nat), .int .i64 m, .slice a1 L1 c1, .slice a2 N c2, .slice a3 L c3] 26) (Obj.cells #[Value.slice a4 L4 c4, .slice a5 L5 c5] 44)
        have e0 : wr.heap[w.heap.size]? = some (Obj.cells #[Value.int .i64 (N : Nat), .int .i64 m, .slice a1 L1 c1, .slice a2 N c2, .slice a3 L c3] 26) := (hb.block w.heap.size (by omega)).trans qz.1
        have e1 : wr.heap[w.heap.size + 1]? = some (Obj.cells #[Value.slice a4 L4 c4, .slice a5 L5 c5] 44) := (hb.block (w.heap.size + 1) (by omega)).trans qz.2
        have hwl := (Array.getElem?_eq_some_iff.1 e1).1
        have hwl0 := (Array.getElem?_eq_some_iff.1 e0).1
        have hbw : Below w.heap.size w wr := below_trans (show Below w.heap.size w ((w.alloc (Obj.cells #[Value.int .i64 (N : Nat), .int .i64 m, .slice a1 L1 c1, .slice a2 N c2, .slice a3 L c3] 26)).alloc (Obj.cells #[Value.slice a4 L4 c4, .slice a5 L5 c5] 44)) from (by repeat (first | exact Below.refl _ _ | assumption | refine below_drewN ?_ _ | refine Below.drew ?_ | refine Below.alloc ?_ (by simp <;> omega) _ | refine below_trans ?_ (by assumption)))) (hb.mono (by simp))
        have p0 := cell_of_row wr _ 0 _ _ _ e0
        have p1 := cell_of_row wr _ 1 _ _ _ e0
        have p2 := cell_of_row wr _ 2 _ _ _ e0
        have p3 := cell_of_row wr _ 3 _ _ _ e0
        have p4 := cell_of_row wr _ 4 _ _ _ e0
        have p5 := cell_of_row wr _ 0 _ _ _ e1
        have p6 := cell_of_row wr _ 1 _ _ _ e1
        clear qz e0 e1
        have hxl := hx.lt
        clear hb hx
        by_cases hjl : j < L4
        · have hls : j < hs.length := by rw [HL4.out]; exact hjl
          obtain ⟨a', cap', e, _, hz, _⟩ := Hh.out
          injection e with e1' e2' e3'
          subst e1'
          rcases hz with hz | ⟨b5, o5, e, hc⟩
          · rw [hz] at hls; simp at hls
          subst e
          have d0 := hc j hls
          have hb5 : b5 < w.heap.size := World.block_lt_of_cell? w _ d0
          have d0 := (hbw.cell (p := ⟨b5, _, none⟩) hb5).trans d0
          have hb5r : b5 < wr.heap.size := by omega
          have HT := hide (mvsL_take ss hs (firstF fs) j hls)
          generalize hs.getD j 0 = z at *
          generalize mvsL ss (hs.take j) (firstF fs) = pr at *
          have hbn : Below wr.heap.size wr (wr.drew.alloc (Obj.cells (falses N) 4)) := (Below.drew (Below.refl _ _)).alloc (Nat.le_refl _) _
          have HCM := hide (HM.out _ (below_trans hbw hbn) z g wr.heap.size pr (fun _ => false) (HX.out.old hbn) (BR.new (one_new wr.drew _)))
          have HBn := hide hbn
          clear hc e2' e3' hbn
          go_wp2_with (fail)
          go_region_held3 (fun w' => w'.cell? ⟨w.heap.size, 0, none⟩ = some (.int .i64 (N : Nat)) ∧ w'.cell? ⟨w.heap.size, 1, none⟩ = some (.int .i64 m) ∧ w'.cell? ⟨w.heap.size, 2, none⟩ = some (.slice a1 L1 c1) ∧ w'.cell? ⟨w.heap.size, 3, none⟩ = some (.slice a2 N c2) ∧ w'.cell? ⟨w.heap.size, 4, none⟩ = some (.slice a3 L c3) ∧ w'.cell? ⟨w.heap.size + 1, 0, none⟩ = some (.slice (some ⟨b5, o5, none⟩) L4 c4) ∧ w'.cell? ⟨b5, o5 + j, none⟩ = some (.int .i64 z)) (go_keep) (first | (go_at_call 69; refine HCM.out.mono ?_; rintro e w1 ⟨gx2, gy2, rfl, hx2, hy2, hb1, hfr⟩; have HX2 := hide hx2; clear hx2 hy2; have hbb := below_trans HBn.out hb1; have t0 := hbb.cell (p := ⟨w.heap.size, 0, none⟩) hwl0; have t1 := hbb.cell (p := ⟨w.heap.size, 1, none⟩) hwl0; have t2 := hbb.cell (p := ⟨w.heap.size, 2, none⟩) hwl0; have t3 := hbb.cell (p := ⟨w.heap.size, 3, none⟩) hwl0; have t4 := hbb.cell (p := ⟨w.heap.size, 4, none⟩) hwl0; have t5 := hbb.cell (p := ⟨w.heap.size + 1, 0, none⟩) hwl; have t6 := hbb.cell (p := ⟨b5, o5 + j, none⟩) hb5r; clear hb1))
          have hfr2 : wr.heap.size < gx2 := by have h2 : (wr.drew.alloc (Obj.cells (falses N) 4)).heap.size = wr.heap.size + 1 := by simp
                                               omega
          have HB3 := hide (Hb.out.trans (hbb.mono (show w.heap.size + 2 ≤ wr.heap.size by omega)))
          have Hbb := hide hbb
          clear t0 t1 t2 t3 t4 t5 t6 p0 p1 p2 p3 p4 p5 p6 d0 hbb hfr
          go_wp2
          go_roundw
          case rel => exact ⟨j + 1, gx2, rfl, by go_num, by omega, by rw [HT.out]; exact HX2.out, HB3.out⟩
          case measure => simp [intOf]; omega
        · obtain rfl : L4 = j := by omega
          have e1 : hs.take L4 = hs := by rw [← HL4.out]; exact List.take_length
          have hX := HX.out
          rw [e1, HX0.out] at hX
          have HX2 := hide hX
          clear hX HX e1 hj hjl
          go_wp2_with (fail)
          have HA := hide (BR.new (one_new wr (Obj.cells (falses N) 4)))
          have HBA := hide (Hb.out.trans ((below_new wr (Obj.cells (falses N) 4)).mono (show w.heap.size + 2 ≤ wr.heap.size by omega)))
          have HXA := hide (HX2.out.old (below_new wr (Obj.cells (falses N) 4)))
          have hgne : g ≠ wr.heap.size := by omega
          have hgA2 : w.heap.size + 2 ≤ wr.heap.size := by omega
          clear p0 p1 p2 p3 p4 p5 p6 hwl hwl0 hbw Hb HX2 hxl HX1
          generalize hgA : wr.heap.size = gA at *
          clear hgA
          go_loopg [5] (left (unB ss ls X0 0) N) (fun gk s5 wr => ∃ (k g : Nat), gk = left (unB ss ls X0 k) N ∧ s5 = .slice (some ⟨g, 0, none⟩) N N ∧ BR wr g N (itL ss ls X0 k) ∧ BR wr gA N (unB ss ls X0 k) ∧ g ≠ gA ∧ Below (w.heap.size + 2) ((w.alloc (Obj.cells #[Value.int .i64 (N : Nat), .int .i64 m, .slice a1 L1 c1, .slice a2 N c2, .slice a3 L c3] 26)).alloc (Obj.cells #[Value.slice a4 L4 c4, .slice a5 L5 c5] 44)) wr)
          case atStart => exact ⟨0, g, rfl, rfl, HXA.out, HA.out, hgne, HBA.out⟩
          case round =>
            obtain ⟨k, g, rfl, rfl, hx, hA, hgne, hb⟩ := hrel
            have Hb := hide hb
            have HX := hide hx
            have HA := hide hA
            clear hb hx hA HXA HBA
            go_wp2_with (fail)
            go_loopw [9, 10] (fun s9 s10 wr => ∃ i : Nat, s9 = .bool ((List.range i).any fun q => itL ss ls X0 k q && !unB ss ls X0 k q) ∧ s10 = .int .i64 i ∧ i ≤ N ∧ BR wr g N (itL ss ls X0 k) ∧ BR wr gA N (fun q => unB ss ls X0 k q || (decide (q < i) && itL ss ls X0 k q)) ∧ Below (w.heap.size + 2) ((w.alloc (Obj.cells #[Value.int .i64 (N : Nat), .int .i64 m, .slice a1 L1 c1, .slice a2 N c2, .slice a3 L c3] 26)).alloc (Obj.cells #[Value.slice a4 L4 c4, .slice a5 L5 c5] 44)) wr) (fun _ s10 _ => N - (intOf s10).toNat)
            case atStart => exact ⟨0, rfl, rfl, Nat.zero_le _, HX.out, HA.out.congr (fun q _ => by simp), Hb.out⟩
            case round =>
              obtain ⟨i, rfl, rfl, hi, hx, hA, hb⟩ := hrel
              have Hb := hide hb
              have HX := hide hx
              have HA := hide hA
              have qz := two_alloc w (Obj.cells #[Value.int .i64 (N : Nat), .int .i64 m, .slice a1 L1 c1, .slice a2 N c2, .slice a3 L c3] 26) (Obj.cells #[Value.slice a4 L4 c4, .slice a5 L5 c5] 44)
              have e0 : wr.heap[w.heap.size]? = some (Obj.cells #[Value.int .i64 (N : Nat), .int .i64 m, .slice a1 L1 c1, .slice a2 N c2, .slice a3 L c3] 26) := (hb.block w.heap.size (by omega)).trans qz.1
              have e1 : wr.heap[w.heap.size + 1]? = some (Obj.cells #[Value.slice a4 L4 c4, .slice a5 L5 c5] 44) := (hb.block (w.heap.size + 1) (by omega)).trans qz.2
              have hwl := (Array.getElem?_eq_some_iff.1 e1).1
              have hwl0 := (Array.getElem?_eq_some_iff.1 e0).1
              have hbw : Below w.heap.size w wr := below_trans (show Below w.heap.size w ((w.alloc (Obj.cells #[Value.int .i64 (N : Nat), .int .i64 m, .slice a1 L1 c1, .slice a2 N c2, .slice a3 L c3] 26)).alloc (Obj.cells #[Value.slice a4 L4 c4, .slice a5 L5 c5] 44)) from (by repeat (first | exact Below.refl _ _ | assumption | refine below_drewN ?_ _ | refine Below.drew ?_ | refine Below.alloc ?_ (by simp <;> omega) _ | refine below_trans ?_ (by assumption)))) (hb.mono (by simp))
              have p0 := cell_of_row wr _ 0 _ _ _ e0
              have p1 := cell_of_row wr _ 1 _ _ _ e0
              have p2 := cell_of_row wr _ 2 _ _ _ e0
              have p3 := cell_of_row wr _ 3 _ _ _ e0
              have p4 := cell_of_row wr _ 4 _ _ _ e0
              have p5 := cell_of_row wr _ 0 _ _ _ e1
              have p6 := cell_of_row wr _ 1 _ _ _ e1
              clear qz e0 e1
              clear hb
              by_cases hil : i < N
              · have x1 := hx.cell i hil
                have y1 := hA.cell i hil
                have y2 := hA.soft
                have hxl := hx.lt
                have hAl := hA.lt
                have ey : (unB ss ls X0 k i || (decide (i < i) && itL ss ls X0 k i)) = unB ss ls X0 k i := by simp
                rw [ey] at y1
                have HR := hide (show ((List.range (i + 1)).any fun q => itL ss ls X0 k q && !unB ss ls X0 k q) = (((List.range i).any fun q => itL ss ls X0 k q && !unB ss ls X0 k q) || (itL ss ls X0 k i && !unB ss ls X0 k i)) by rw [List.range_succ, List.any_append]; simp)
                generalize ((List.range i).any fun q => itL ss ls X0 k q && !unB ss ls X0 k q) = mo at *
                generalize hbi : itL ss ls X0 k i = bi at *
                generalize hbu : unB ss ls X0 k i = bu at *
                have Hbi := hide hbi
                have Hbu := hide hbu
                have hgne' : ¬ gA = g := fun e => hgne e.symm
                clear ey hx hA hbi hbu p1 p2 p3 p4 p5 p6
                cases bi
                · go_wp2
                  go_roundw
                  case rel =>
                    refine ⟨i + 1, by rw [HR.out]; simp, by go_num, by omega, HX.out, HA.out.congr (fun q _ => ?_), Hb.out⟩
                    by_cases e : q = i
                    · subst e; rw [Hbi.out]; simp
                    · have : decide (q < i + 1) = decide (q < i) := by rw [decide_eq_decide]; omega
                      rw [this]
                  case measure => simp [intOf]; omega
                · cases bu
                  · go_wp2
                    go_roundw
                    case rel =>
                      refine ⟨i + 1, by rw [HR.out]; simp, by go_num, by omega, HX.out.far _ _ hgne, (HA.out.set i hil).congr (fun q _ => ?_), Hb.out.setCell (by show w.heap.size + 2 ≤ gA; omega) _⟩
                      by_cases e : q = i
                      · subst e; rw [Hbi.out]; simp
                      · have : decide (q < i + 1) = decide (q < i) := by rw [decide_eq_decide]; omega
                        rw [this]; simp [e]
                    case measure => simp [intOf]; omega
                  · go_wp2
                    go_roundw
                    case rel =>
                      refine ⟨i + 1, by rw [HR.out]; simp, by go_num, by omega, HX.out, HA.out.congr (fun q _ => ?_), Hb.out⟩
                      by_cases e : q = i
                      · subst e; rw [Hbu.out]; simp
                      · have : decide (q < i + 1) = decide (q < i) := by rw [decide_eq_decide]; omega
                        rw [this]
                    case measure => simp [intOf]; omega
              · obtain rfl : N = i := by omega
                have HA2 := hide (hA.congr (f' := unB ss ls X0 (k + 1)) (fun q hq => by rw [unB_succ]; simp [hq]))
                clear hx hA HA p1 p2 p3 p4 p5 p6 hi hil
                generalize hmo : ((List.range N).any fun q => itL ss ls X0 k q && !unB ss ls X0 k q) = mo at *
                have Hmo := hide hmo
                clear hmo
                cases mo
                · have HK := hide (show ∀ q, q < N → itL ss ls X0 k q = true → unB ss ls X0 k q = true from fun q hq hit => by
                    have := List.any_eq_false.1 Hmo.out q (by simpa using hq)
                    rw [hit] at this
                    simpa using this)
                  have HA3 := hide (HA2.out.congr (f' := unB ss ls X0 k) (fun q hq => by
                    rw [unB_succ]
                    cases hit : itL ss ls X0 k q with
                    | false => simp
                    | true => rw [HK.out q hq hit]; rfl))
                  clear HA2 Hmo
                  go_wp2_with (fail)
                  clear p0 hwl hwl0 hbw
                  go_loopw [12] (fun s12 wr => ∃ i : Nat, s12 = .int .i64 i ∧ i ≤ N ∧ BR wr gA N (unB ss ls X0 k) ∧ Below (w.heap.size + 2) ((w.alloc (Obj.cells #[Value.int .i64 (N : Nat), .int .i64 m, .slice a1 L1 c1, .slice a2 N c2, .slice a3 L c3] 26)).alloc (Obj.cells #[Value.slice a4 L4 c4, .slice a5 L5 c5] 44)) wr ∧ ∀ q, q < i → (unB ss ls X0 k q && circB ss gd ls N q) = false) (fun s12 _ => N - (intOf s12).toNat)
                  case atStart => exact ⟨0, rfl, Nat.zero_le _, HA3.out, Hb.out, fun q hq => by omega⟩
                  case round =>
                    obtain ⟨i, rfl, hi, hA, hb, hno⟩ := hrel
                    have Hb := hide hb
                    have HA := hide hA
                    have Hno := hide hno
                    have qz := two_alloc w (Obj.cells #[Value.int .i64 (N : Nat), .int .i64 m, .slice a1 L1 c1, .slice a2 N c2, .slice a3 L c3] 26) (Obj.cells #[Value.slice a4 L4 c4, .slice a5 L5 c5] 44)
                    have e0 : wr.heap[w.heap.size]? = some (Obj.cells #[Value.int .i64 (N : Nat), .int .i64 m, .slice a1 L1 c1, .slice a2 N c2, .slice a3 L c3] 26) := (hb.block w.heap.size (by omega)).trans qz.1
                    have e1 : wr.heap[w.heap.size + 1]? = some (Obj.cells #[Value.slice a4 L4 c4, .slice a5 L5 c5] 44) := (hb.block (w.heap.size + 1) (by omega)).trans qz.2
                    have hwl := (Array.getElem?_eq_some_iff.1 e1).1
                    have hwl0 := (Array.getElem?_eq_some_iff.1 e0).1
                    have hbw : Below w.heap.size w wr := below_trans (show Below w.heap.size w ((w.alloc (Obj.cells #[Value.int .i64 (N : Nat), .int .i64 m, .slice a1 L1 c1, .slice a2 N c2, .slice a3 L c3] 26)).alloc (Obj.cells #[Value.slice a4 L4 c4, .slice a5 L5 c5] 44)) from (by repeat (first | exact Below.refl _ _ | assumption | refine below_drewN ?_ _ | refine Below.drew ?_ | refine Below.alloc ?_ (by simp <;> omega) _ | refine below_trans ?_ (by assumption)))) (hb.mono (by simp))
                    have p0 := cell_of_row wr _ 0 _ _ _ e0
                    have p1 := cell_of_row wr _ 1 _ _ _ e0
                    have p2 := cell_of_row wr _ 2 _ _ _ e0
                    have p3 := cell_of_row wr _ 3 _ _ _ e0
                    have p4 := cell_of_row wr _ 4 _ _ _ e0
                    have p5 := cell_of_row wr _ 0 _ _ _ e1
                    have p6 := cell_of_row wr _ 1 _ _ _ e1
                    clear qz e0 e1
                    clear hb hno
                    by_cases hil : i < N
                    · have y1 := hA.cell i hil
                      have hAl := hA.lt
                      generalize hbu : unB ss ls X0 k i = bu at *
                      have Hbu := hide hbu
                      clear hbu hA
                      cases bu
                      · go_wp2
                        go_roundw
                        case rel =>
                          refine ⟨i + 1, by go_num, by omega, HA.out, Hb.out, fun q hq => ?_⟩
                          by_cases e : q = i
                          · rw [e, Hbu.out]; rfl
                          · exact Hno.out q (by omega)
                        case measure => simp [intOf]; omega
                      · go_wp2_with (fail)
                        clear p0 p1 p2 p3 p4 p5 p6 y1
                        refine (HC.out wr hbw i hil).mono ?_
                        rintro e w1 ⟨rfl, hb1⟩
                        generalize hbc : circB ss gd ls N i = bc at *
                        have Hbc := hide hbc
                        clear hbc
                        have HB3 := hide (Hb.out.trans (hb1.mono (show w.heap.size + 2 ≤ wr.heap.size by omega)))
                        have HA4 := hide (HA.out.old hb1)
                        have HBw := hide (below_trans hbw hb1)
                        clear hb1
                        cases bc
                        · go_wp2
                          go_roundw
                          case rel =>
                            refine ⟨i + 1, by go_num, by omega, HA4.out, HB3.out, fun q hq => ?_⟩
                            by_cases e : q = i
                            · rw [e, Hbc.out, Bool.and_false]
                            · exact Hno.out q (by omega)
                          case measure => simp [intOf]; omega
                        · have hr : ((List.range N).any fun q => unB ss ls X0 k q && circB ss gd ls N q) = true := by
                            rw [List.any_eq_true]
                            exact ⟨i, by simpa using hil, by rw [Hbu.out, Hbc.out]; rfl⟩
                          have Hr := hide hr
                          clear hr
                          go_wp2
                          go_ret
                          exact ⟨k, by rw [Hr.out]; rfl, HK.out, HBw.out⟩
                    · obtain rfl : N = i := by omega
                      have hr : ((List.range N).any fun q => unB ss ls X0 k q && circB ss gd ls N q) = false := by
                        rw [List.any_eq_false]
                        intro q hq
                        rw [Hno.out q (by simpa using hq)]
                        simp
                      have Hr := hide hr
                      clear hr
                      go_wp2
                      go_ret
                      exact ⟨k, by rw [Hr.out]; rfl, HK.out, hbw⟩
                · go_wp2_with (fail)
                  clear p0
                  go_loopw [5, 11] (fun s5 s11 wr => ∃ (j g : Nat), s5 = .slice (some ⟨g, 0, none⟩) N N ∧ s11 = .int .i64 j ∧ j ≤ L5 ∧ BR wr g N (mvsL ss (ls.take j) (itL ss ls X0 k)) ∧ BR wr gA N (unB ss ls X0 (k + 1)) ∧ g ≠ gA ∧ Below (w.heap.size + 2) ((w.alloc (Obj.cells #[Value.int .i64 (N : Nat), .int .i64 m, .slice a1 L1 c1, .slice a2 N c2, .slice a3 L c3] 26)).alloc (Obj.cells #[Value.slice a4 L4 c4, .slice a5 L5 c5] 44)) wr) (fun _ s11 _ => L5 - (intOf s11).toNat)
                  case atStart => exact ⟨0, g, rfl, rfl, Nat.zero_le _, HX.out, HA2.out, hgne, Hb.out⟩
                  case round =>
                    obtain ⟨j, g, rfl, rfl, hj, hx, hA, hgne, hb⟩ := hrel
                    have Hb := hide hb
                    have HX := hide hx
                    have HA := hide hA
                    have qz := two_alloc w (Obj.cells #[Value.int .i64 (N : Nat), .int .i64 m, .slice a1 L1 c1, .slice a2 N c2, .slice a3 L c3] 26) (Obj.cells #[Value.slice a4 L4 c4, .slice a5 L5 c5] 44)
                    have e0 : wr.heap[w.heap.size]? = some (Obj.cells #[Value.int .i64 (N : Nat), .int .i64 m, .slice a1 L1 c1, .slice a2 N c2, .slice a3 L c3] 26) := (hb.block w.heap.size (by omega)).trans qz.1
                    have e1 : wr.heap[w.heap.size + 1]? = some (Obj.cells #[Value.slice a4 L4 c4, .slice a5 L5 c5] 44) := (hb.block (w.heap.size + 1) (by omega)).trans qz.2
                    have hwl := (Array.getElem?_eq_some_iff.1 e1).1
                    have hwl0 := (Array.getElem?_eq_some_iff.1 e0).1
                    have hbw : Below w.heap.size w wr := below_trans (show Below w.heap.size w ((w.alloc (Obj.cells #[Value.int .i64 (N : Nat), .int .i64 m, .slice a1 L1 c1, .slice a2 N c2, .slice a3 L c3] 26)).alloc (Obj.cells #[Value.slice a4 L4 c4, .slice a5 L5 c5] 44)) from (by repeat (first | exact Below.refl _ _ | assumption | refine below_drewN ?_ _ | refine Below.drew ?_ | refine Below.alloc ?_ (by simp <;> omega) _ | refine below_trans ?_ (by assumption)))) (hb.mono (by simp))
                    have p0 := cell_of_row wr _ 0 _ _ _ e0
                    have p1 := cell_of_row wr _ 1 _ _ _ e0
                    have p2 := cell_of_row wr _ 2 _ _ _ e0
                    have p3 := cell_of_row wr _ 3 _ _ _ e0
                    have p4 := cell_of_row wr _ 4 _ _ _ e0
                    have p5 := cell_of_row wr _ 0 _ _ _ e1
                    have p6 := cell_of_row wr _ 1 _ _ _ e1
                    clear qz e0 e1
                    have hxl := hx.lt
                    have hAl := hA.lt
                    clear hb hx hA
                    by_cases hjl : j < L5
                    · have hls : j < ls.length := by rw [HL5.out]; exact hjl
                      obtain ⟨a', cap', e, _, hz, _⟩ := Hl.out
                      injection e with e1' e2' e3'
                      subst e1'
                      rcases hz with hz | ⟨b5, o5, e, hc⟩
                      · rw [hz] at hls; simp at hls
                      subst e
                      have d0 := hc j hls
                      have hb5 : b5 < w.heap.size := World.block_lt_of_cell? w _ d0
                      have d0 := (hbw.cell (p := ⟨b5, _, none⟩) hb5).trans d0
                      have hb5r : b5 < wr.heap.size := by omega
                      have HT := hide (mvsL_take ss ls (itL ss ls X0 k) j hls)
                      generalize ls.getD j 0 = z at *
                      generalize mvsL ss (ls.take j) (itL ss ls X0 k) = pr at *
                      have hbn : Below wr.heap.size wr (wr.drew.alloc (Obj.cells (falses N) 4)) := (Below.drew (Below.refl _ _)).alloc (Nat.le_refl _) _
                      have HCM := hide (HM.out _ (below_trans hbw hbn) z g wr.heap.size pr (fun _ => false) (HX.out.old hbn) (BR.new (one_new wr.drew _)))
                      have HBn := hide hbn
                      clear hc e2' e3' hbn
                      go_wp2_with (fail)
                      go_region_held3 (fun w' => w'.cell? ⟨w.heap.size, 0, none⟩ = some (.int .i64 (N : Nat)) ∧ w'.cell? ⟨w.heap.size, 1, none⟩ = some (.int .i64 m) ∧ w'.cell? ⟨w.heap.size, 2, none⟩ = some (.slice a1 L1 c1) ∧ w'.cell? ⟨w.heap.size, 3, none⟩ = some (.slice a2 N c2) ∧ w'.cell? ⟨w.heap.size, 4, none⟩ = some (.slice a3 L c3) ∧ w'.cell? ⟨w.heap.size + 1, 1, none⟩ = some (.slice (some ⟨b5, o5, none⟩) L5 c5) ∧ w'.cell? ⟨b5, o5 + j, none⟩ = some (.int .i64 z)) (go_keep) (first | (go_at_call 69; refine HCM.out.mono ?_; rintro e w1 ⟨gx2, gy2, rfl, hx2, hy2, hb1, hfr⟩; have HX2 := hide hx2; clear hx2 hy2; have hbb := below_trans HBn.out hb1; have t0 := hbb.cell (p := ⟨w.heap.size, 0, none⟩) hwl0; have t1 := hbb.cell (p := ⟨w.heap.size, 1, none⟩) hwl0; have t2 := hbb.cell (p := ⟨w.heap.size, 2, none⟩) hwl0; have t3 := hbb.cell (p := ⟨w.heap.size, 3, none⟩) hwl0; have t4 := hbb.cell (p := ⟨w.heap.size, 4, none⟩) hwl0; have t5 := hbb.cell (p := ⟨w.heap.size + 1, 1, none⟩) hwl; have t6 := hbb.cell (p := ⟨b5, o5 + j, none⟩) hb5r; clear hb1))
                      have hfr2 : wr.heap.size < gx2 := by have h2 : (wr.drew.alloc (Obj.cells (falses N) 4)).heap.size = wr.heap.size + 1 := by simp
                                                           omega
                      have HB3 := hide (Hb.out.trans (hbb.mono (show w.heap.size + 2 ≤ wr.heap.size by omega)))
                      have Hbb := hide hbb
                      clear t0 t1 t2 t3 t4 t5 t6 p0 p1 p2 p3 p4 p5 p6 d0 hbb hfr
                      go_wp2
                      go_roundw
                      case rel => exact ⟨j + 1, gx2, rfl, by go_num, by omega, by rw [HT.out]; exact HX2.out, HA.out.old Hbb.out, by omega, HB3.out⟩
                      case measure => simp [intOf]; omega
                    · obtain rfl : L5 = j := by omega
                      have e1 : ls.take L5 = ls := by rw [← HL5.out]; exact List.take_length
                      have hX := HX.out
                      rw [e1] at hX
                      have HX2 := hide (show BR wr g N (itL ss ls X0 (k + 1)) from hX)
                      clear hX HX e1 hj hjl p0 p1 p2 p3 p4 p5
                      go_wp2
                      go_roundg (left (unB ss ls X0 (k + 1)) N)
                      case measure =>
                        obtain ⟨q, hq, hqq⟩ := List.any_eq_true.1 Hmo.out
                        rw [Bool.and_eq_true, Bool.not_eq_true'] at hqq
                        exact left_lt N (fun q h => by rw [unB_succ, h]; rfl) q (by simpa using hq) hqq.2 (by rw [unB_succ, hqq.1]; simp)
                      case rel => exact ⟨k + 1, g, rfl, rfl, HX2.out, HA.out, hgne, Hb.out⟩
end Go.Proofs.YtpiacnnifdjlkaaDoor
