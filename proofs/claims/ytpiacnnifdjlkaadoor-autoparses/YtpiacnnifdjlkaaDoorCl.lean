/-
  What circles of the reference answers.
-/
import Derived.Test.YtpiacnnifdjlkaaDoorCh
import Derived.Test.YtpiacnnifdjlkaaDoorCards
import Derived.Test.YtpiacnnifdjlkaaDoorTie
import Derived.WalkKit
import Derived.ProofKit
import Derived.OpenShut
import Derived.Carry
import Derived.Deep.DeepHandedRow
import Derived.Lib.LaidTab
import Derived.Lib.SmallJoins
import Derived.Deep.RegionWith
/-
  What arguments read as: lists of integers in memory; the table of package math/bits.
-/
namespace Go.Proofs.YtpiacnnifdjlkaaDoor
open Go.ChangeShapes Go.WideShapes Go.ChangeAt Go.RowKit Go.Deep

theorem laidOut : laidOutB Tryd.prog = true := by kernel_rfl
theorem own : ownKnob Tryd.prog.godebug = none := by kernel_rfl
theorem cellsInt : Tryd.prog.cellsOf 3 = 1 := by kernel_rfl
theorem gTab64 : Tryd.prog.globalNamed "math/bits.deBruijn64tab" = some 2 := by kernel_rfl

def tab64 : List Int := Lib.deBruijn64tab.map (fun n : Nat => (n : Int))

theorem intSl_of_trod {H : Type} {enc : TypeId × Value → H} {W : World} {n : Nat} {u : Value} {y : DataW H × List MemPlace} (h : DataW.trod enc Tryd.prog W 0 (fun _ => true) true n 22 [u] = some y) :
    ∃ zs, IntSl W u zs ∧ ∀ z ∈ zs, (Lit.int .i64 z).wf = true := by
  rcases open_ints Tryd.underlying22 Tryd.underlying3 cellsInt h with ⟨hcs, _⟩ | ⟨a, len, cap, zs, hcs, _, hl, hm, hz, _, hcell, hwz⟩
  · simp only [List.cons.injEq, and_true] at hcs
    subst hcs
    exact ⟨[], intSl_nil W, fun z hz => by cases hz⟩
  · simp only [List.cons.injEq, and_true] at hcs
    subst hcs
    have hz' : zs.length = cap := hz
    have hlen : (zs.take len).length = len := by rw [List.length_take]; omega
    refine ⟨zs.take len, ⟨some a, cap, by rw [hlen], by rw [hlen]; omega, ?_, fun e => (by cases e), by rw [hlen]; exact hl⟩, fun z hz2 => hwz z (List.mem_of_mem_take hz2)⟩
    by_cases h0 : len = 0
    · left
      rw [h0]
      rfl
    · right
      obtain ⟨b, off, spot⟩ := a
      have c0 := hcell 0 (by omega)
      have hs : spot = none := by
        simp only [Addr.add, if_true, World.cell?] at c0
        split at c0
        · cases spot with
          | none => rfl
          | some s => simp at c0
        · cases c0
      subst hs
      refine ⟨b, off, rfl, fun i hi => ?_⟩
      rw [hlen] at hi
      have ci := hcell i (by omega)
      rw [add_none] at ci
      rw [ci]
      congr 2
      simp [List.getD, hi]

set_option maxRecDepth 100000 in
theorem lasso_of_trod {H : Type} {enc : TypeId × Value → H} {W : World} {r : Reach} {b0 : Nat} {v : Value} {d : DataW H} {p : List MemPlace} (hv : Value.okWide Tryd.prog W r b0 44 v) (h : DataW.Trod enc Tryd.prog W 0 (fun _ => true) true 44 v d p) :
    ∃ hv lv hs ls, v = .agg #[hv, lv] ∧ IntSl W hv hs ∧ IntSl W lv ls := by
  obtain ⟨v0, v1, y0, y1, n, rfl, _, _, t0, t1⟩ := Go.Joins.open_agg2 Tryd.underlying44 (by kernel_rfl) (by kernel_rfl) hv h
  obtain ⟨hs, i0, _⟩ := intSl_of_trod t0
  obtain ⟨ls, i1, _⟩ := intSl_of_trod t1
  exact ⟨v0, v1, hs, ls, rfl, i0, i1⟩

theorem tab_of_is {W : World} (h : Lib.TabIs Tryd.prog W "math/bits.deBruijn64tab" .u8 tab64) : Tab W := by
  intro i hi
  have := h.cell gTab64 i (by simpa [tab64, Lib.deBruijn64tab] using hi)
  rw [this]
  congr 2
  unfold tab64
  rw [List.getD_eq_getElem?_getD, List.getElem?_map, List.getD_eq_getElem?_getD]
  have : i < Lib.deBruijn64tab.length := hi
  rw [List.getElem?_eq_getElem this]
  rfl
end Go.Proofs.YtpiacnnifdjlkaaDoor

/-
  Sets of states as the reference has them: lists of bools. What its moved answers.
-/
namespace Go.Proofs.YtpiacnnifdjlkaaDoor
open Go.RowKit Go.Sort

def falses (c : Nat) : Array Value := Array.replicate c (.bool false)

theorem boolInfo : Tryd.prog.info? 4 = some Tryd.t4 := by kernel_rfl

theorem make_bools (c : Nat) (h : c ≤ 1000000) (w : World) : (Instr.makeSlice 23 (.int .i64 c) (.int .i64 c)).run Tryd.prog w = .ok (.slice (some ⟨w.heap.size, 0, none⟩) c c) (w.alloc (.cells (falses c) 4)) := by
  have hz : Tryd.t4.zero = some (.bool false) := by kernel_rfl
  have hb : Tryd.t4.bytes = 1 := by kernel_rfl
  have hs : Tryd.t4.size = 1 := by kernel_rfl
  rw [run_make w 23 4 Tryd.t4 (.bool false) Tryd.underlying23 boolInfo hz .i64 .i64 c c (by omega) (by omega) (by rw [hb]; omega) (by omega)]
  have e : madeCells (Value.cells (.bool false)) (c * 1) = falses c := by
    apply Array.ext
    · simp [size_madeCells, falses]
    · intro i h1 h2
      simp [madeCells, falses, Value.cells, Nat.mod_one]
  rw [hs, Int.toNat_natCast, e]

/-- A block of N bools. -/
structure BR (W : World) (g N : Nat) (f : Nat → Bool) : Prop where
  cell : ∀ i, i < N → W.cell? ⟨g, i, none⟩ = some (.bool (f i))
  soft : ∀ o, W.frozen? ⟨g, o, none⟩ = false
  lt : g < W.heap.size

theorem BR.of_block {W W' : World} {g N : Nat} {f : Nat → Bool} (h : BR W g N f) (hb : W'.heap[g]? = W.heap[g]?) : BR W' g N f :=
  ⟨fun i hi => (World.cell?_of_block (a := ⟨g, i, none⟩) hb).trans (h.cell i hi), fun o => (World.frozen?_of_block (a := ⟨g, o, none⟩) hb).trans (h.soft o), by
    have := h.lt
    have h2 : W.heap[g]? = some W.heap[g] := by simp [this]
    rw [h2] at hb
    exact (Array.getElem?_eq_some_iff.1 hb).1⟩

theorem BR.below {W W' : World} {g N B : Nat} {f : Nat → Bool} (h : BR W g N f) (hb : Below B W W') (hg : g < B) : BR W' g N f := h.of_block (hb.block g hg)

theorem BR.old {W W' : World} {g N : Nat} {f : Nat → Bool} (h : BR W g N f) (hb : Below W.heap.size W W') : BR W' g N f := h.of_block (hb.block g h.lt)

theorem BR.new {W : World} {g N : Nat} (h : W.heap[g]? = some (.cells (falses N) 4)) : BR W g N (fun _ => false) :=
  ⟨fun i hi => by rw [cell_of_row W g i _ _ _ h]; simp [falses, hi], fun o => by simp [World.frozen?, h], (Array.getElem?_eq_some_iff.1 h).1⟩

theorem BR.set {W : World} {g N : Nat} {f : Nat → Bool} (h : BR W g N f) (t : Nat) (ht : t < N) : BR (W.setCell ⟨g, t, none⟩ (.bool true)) g N (fun i => f i || decide (i = t)) := by
  refine ⟨fun i hi => ?_, fun o => by rw [World.frozen?_setCell]; exact h.soft o, by simpa [World.setCell] using h.lt⟩
  by_cases e : i = t
  · subst e
    rw [World.cell?_setCell_same _ _ _ (h.cell i hi)]
    simp
  · rw [World.cell?_setCell_other _ _ _ _ (fun e' => e (congrArg Addr.off e').symm), h.cell i hi]
    simp [e]

theorem BR.far {W : World} {g g' N : Nat} {f : Nat → Bool} (h : BR W g N f) (o : Nat) (v : Value) (hne : g ≠ g') : BR (W.setCell ⟨g', o, none⟩ v) g N f := h.of_block (heap_setCell_other W _ _ g hne)

theorem BR.congr {W : World} {g N : Nat} {f f' : Nat → Bool} (h : BR W g N f) (e : ∀ i, i < N → f i = f' i) : BR W g N f' := ⟨fun i hi => by rw [h.cell i hi, e i hi], h.soft, h.lt⟩

/-- Where steps of a letter lead from a set; and where by a good state. -/
def mvL (ss : List Stp) (l : Int) (f : Nat → Bool) (t : Nat) : Bool := ss.any fun s => decide (s.l = l) && f s.f.toNat && decide (s.t = (t : Int))
def mvG (ss : List Stp) (gd : List Bool) (l : Int) (f h : Nat → Bool) (t : Nat) : Bool := ss.any fun s => decide (s.l = l) && f s.f.toNat && (h s.f.toNat || gd.getD t false) && decide (s.t = (t : Int))

theorem any_take (ss : List Stp) (p : Stp → Bool) (i : Nat) (h : i < ss.length) : (ss.take (i + 1)).any p = ((ss.take i).any p || p (ss.getD i stp0)) := by
  rw [List.take_add_one, List.getElem?_eq_getElem h, List.any_append, stp_getD _ _ h]
  simp

theorem mvL_step {ss : List Stp} {i fn tn : Nat} {sl l : Int} {f : Nat → Bool} (h : i < ss.length) (hs : ss.getD i stp0 = ⟨fn, sl, tn⟩) (t : Nat) : mvL (ss.take (i + 1)) l f t = (mvL (ss.take i) l f t || (decide (sl = l) && f fn && decide (t = tn))) := by
  unfold mvL
  rw [any_take _ _ _ h, hs]
  congr 2
  rw [decide_eq_decide]
  dsimp only
  omega

theorem mvG_step {ss : List Stp} {i fn tn : Nat} {sl l : Int} {f g : Nat → Bool} {gd : List Bool} (h : i < ss.length) (hs : ss.getD i stp0 = ⟨fn, sl, tn⟩) (t : Nat) : mvG (ss.take (i + 1)) gd l f g t = (mvG (ss.take i) gd l f g t || (decide (sl = l) && f fn && (g fn || gd.getD tn false) && decide (t = tn))) := by
  unfold mvG
  rw [any_take _ _ _ h, hs]
  congr 1
  dsimp only
  by_cases e : t = tn
  · subst e; simp
  · have e2 : ¬ ((tn : Int) = (t : Int)) := by omega
    simp [e, e2]

set_option maxRecDepth 100000 in
set_option maxHeartbeats 4000000 in
theorem moved_any {w : World} {gd : List Bool} {ss : List Stp} (N : Nat) (m l : Int) (fv : Value) (a2 a3 : Option Addr) (c2 c3 g1 g2 : Nat) (f h : Nat → Bool) (hN : N ≤ 300) (hG : BoolSl w (.slice a2 N c2) gd) (hgl : gd.length = N) (hS : StepSl w (.slice a3 ss.length c3) ss) (hlen : ss.length ≤ 6000)
    (hst : ∀ s ∈ ss, 0 ≤ s.f ∧ s.f < N ∧ 0 ≤ s.t ∧ s.t < N) (hf : BR w g1 N f) (hh : BR w g2 N h) :
    Calls Tryd.prog 69 #[.agg #[.int .i64 (N : Nat), .int .i64 m, fv, .slice a2 N c2, .slice a3 ss.length c3], .slice (some ⟨g1, 0, none⟩) N N, .slice (some ⟨g2, 0, none⟩) N N, .int .i64 l] w fun e w' =>
      ∃ gx gy, e = .returned (.tuple #[.slice (some ⟨gx, 0, none⟩) N N, .slice (some ⟨gy, 0, none⟩) N N]) ∧ BR w' gx N (mvL ss l f) ∧ BR w' gy N (mvG ss gd l f h) ∧ Below w.heap.size w w' ∧ w.heap.size ≤ gx := by
  have hmk := make_bools N (by omega)
  have Hall := hide (And.intro hG (And.intro hgl (And.intro hS (And.intro hst (And.intro hf hh)))))
  clear hG hgl hS hst hf hh
  generalize hL : ss.length = L at *
  have HL := hide hL
  clear hL
  go_enter Tryd.func69, Tryd.ntmps69
  go_wp2_with (fail)
  rename_i K hK
  have key : ∀ (gx gy : Nat) (W : World), Below (w.heap.size + 1) (w.alloc (Obj.cells #[Value.int .i64 (N : Nat), .int .i64 m, fv, .slice a2 N c2, .slice a3 L c3] 26)) W → BR W gx N (fun _ => false) → BR W gy N (fun _ => false) → w.heap.size < gx → w.heap.size < gy → gx ≠ gy → K { tmps := #[.agg #[.int .i64 (N : Nat), .int .i64 m, fv, .slice a2 N c2, .slice a3 L c3], .slice (some ⟨g1, 0, none⟩) N N, .slice (some ⟨g2, 0, none⟩) N N, .int .i64 l, .pointer (some ⟨w.heap.size, 0, none⟩), undef, undef, undef, .slice none 0 0, .slice none 0 0, .slice (some ⟨gx, 0, none⟩) N N, .slice (some ⟨gy, 0, none⟩) N N, undef, undef, .pointer (some ⟨w.heap.size, 0, none⟩), .int .i64 (N : Nat), .slice (some ⟨gx, 0, none⟩) N N, .pointer (some ⟨w.heap.size, 0, none⟩), .int .i64 (N : Nat), .slice (some ⟨gy, 0, none⟩) N N, undef, undef, undef, undef, undef, undef, undef, undef, undef, undef, undef, undef, undef, undef, undef, undef, undef, undef, undef, undef, undef, undef, undef, undef, undef, undef, undef, undef, undef, undef, undef, undef, undef, undef, undef, undef, undef, undef, undef, undef, undef, undef, undef, undef, undef, undef, undef], defers := [] } W := by
    intro gx gy W hbW hx hy hgx hgy hxy
    refine hK _ _ ?_
    clear hK hmk
    have HbW := hide hbW
    have Hx := hide hx
    have Hy := hide hy
    clear hbW hx hy
    go_wp2_with (fail)
    go_loopw [12] (fun iv wr => ∃ i : Nat, iv = .int .i64 i ∧ i ≤ L ∧ Below (w.heap.size + 1) (w.alloc (Obj.cells #[Value.int .i64 (N : Nat), .int .i64 m, fv, .slice a2 N c2, .slice a3 L c3] 26)) wr ∧ BR wr gx N (mvL (ss.take i) l f) ∧ BR wr gy N (mvG (ss.take i) gd l f h)) (fun iv _ => L - (intOf iv).toNat)
    case atStart => exact ⟨0, rfl, Nat.zero_le _, HbW.out, Hx.out, Hy.out⟩
    case round =>
      obtain ⟨i, rfl, hi, hb, hx, hy⟩ := hrel
      have Hb := hide hb
      have Hx' := hide hx
      have Hy' := hide hy
      have e0 : wr.heap[w.heap.size]? = some (Obj.cells #[Value.int .i64 (N : Nat), .int .i64 m, fv, .slice a2 N c2, .slice a3 L c3] 26) := (hb.block w.heap.size (by omega)).trans (one_new w _)
      have hwl := (Array.getElem?_eq_some_iff.1 e0).1
      have p0 := cell_of_row wr _ 0 _ _ _ e0
      have p1 := cell_of_row wr _ 1 _ _ _ e0
      have p2 := cell_of_row wr _ 2 _ _ _ e0
      have p3 := cell_of_row wr _ 3 _ _ _ e0
      have p4 := cell_of_row wr _ 4 _ _ _ e0
      clear e0 hb hx hy
      by_cases hlt : i < L
      · obtain ⟨hG, hgl, hS, hst, hf, hh⟩ := Hall.out
        have hls : i < ss.length := by rw [HL.out]; exact hlt
        have hmem : ss.getD i stp0 ∈ ss := by rw [stp_getD _ _ hls]; exact List.getElem_mem _
        have hrg := hst _ hmem
        have hbw : Below w.heap.size w wr := below_trans (below_new w _) (Hb.out.mono (by simp))
        obtain ⟨a', cap', e, _, hz, _⟩ := hS
        injection e with e1 e2 e3
        subst e1
        rcases hz with hz | ⟨b3, o3, e, hc⟩
        · rw [hz] at hls; simp at hls
        subst e
        obtain ⟨d0, d1, d2⟩ := hc i hls
        have hb3 : b3 < w.heap.size := World.block_lt_of_cell? w _ d0
        have d0 := (hbw.cell (p := ⟨b3, _, none⟩) hb3).trans d0
        have d1 := (hbw.cell (p := ⟨b3, _, none⟩) hb3).trans d1
        have d2 := (hbw.cell (p := ⟨b3, _, none⟩) hb3).trans d2
        clear hc e2 e3
        obtain ⟨a', cap', e, _, hz, _⟩ := hG
        injection e with e1 e2 e3
        subst e1
        rcases hz with hz | ⟨b2, o2, e, hcg⟩
        · rw [hz] at hgl; simp at hgl; omega
        subst e
        clear e2 e3
        generalize hsx : ss.getD i stp0 = sx at *
        obtain ⟨sf, sl, st⟩ := sx
        dsimp only at d0 d1 d2 hrg
        obtain ⟨fn, rfl⟩ := Int.eq_ofNat_of_zero_le hrg.1
        obtain ⟨tn, rfl⟩ := Int.eq_ofNat_of_zero_le hrg.2.2.1
        have hfn : fn < N := by omega
        have htn : tn < N := by omega
        have q1 := (hf.old hbw).cell fn hfn
        have q2 := (hh.old hbw).cell fn hfn
        have q3 := hcg tn (by omega)
        have hb2 : b2 < w.heap.size := World.block_lt_of_cell? w _ q3
        have q3 := (hbw.cell (p := ⟨b2, _, none⟩) hb2).trans q3
        have hg1 := hf.lt
        have hg2 := hh.lt
        have hws := hbw.size
        have n1 : g1 < wr.heap.size := by omega
        have n2 : g2 < wr.heap.size := by omega
        have n3 : b2 < wr.heap.size := by omega
        have n4 : b3 < wr.heap.size := by omega
        have n5 := Hx'.out.lt
        have n6 := Hy'.out.lt
        have x1 := Hx'.out.cell tn htn
        have x2 := Hx'.out.soft
        have y1 := Hy'.out.cell tn htn
        have y2 := Hy'.out.soft
        have m1 : ¬ gx = g2 := by omega
        have m2 : ¬ gx = b2 := by omega
        have m3 : ¬ gx = w.heap.size := by omega
        have m4 : ¬ gx = wr.heap.size := by omega
        have m5 : ¬ gy = wr.heap.size := by omega
        have m6 : ¬ gy = gx := fun e => hxy e.symm
        have HsX := hide (fun t => mvL_step (l := l) (f := f) hls hsx t)
        have HsG := hide (fun t => mvG_step (l := l) (f := f) (g := h) (gd := gd) hls hsx t)
        have hba := below_new wr (Obj.cells #[Value.int .i64 (fn : Nat), .int .i64 sl, .int .i64 (tn : Nat)] 81)
        have HB1 := hide (Hb.out.trans (hba.mono (show w.heap.size + 1 ≤ wr.heap.size by omega)))
        have HX1 := hide (Hx'.out.old hba)
        have HY1 := hide (Hy'.out.old hba)
        clear hf hh hbw hcg hgl hst hmem hsx hba hrg
        generalize mvL (ss.take i) l f = fx at *
        generalize mvG (ss.take i) gd l f h = fy at *
        generalize gd.getD tn false = bg at *
        generalize hbf : f fn = bf at *
        generalize hbh : h fn = bh at *
        clear hbf hbh
        by_cases hsl : sl = l
        · subst hsl
          have hd : (sl != sl) = false := by simp
          cases bf
          · go_wp2
            go_roundw
            case rel => exact ⟨i + 1, by go_num, by omega, HB1.out, HX1.out.congr (fun t _ => by rw [HsX.out]; simp), HY1.out.congr (fun t _ => by rw [HsG.out]; simp)⟩
            case measure => simp [intOf]; omega
          · cases bh
            · cases bg
              · go_wp2
                go_roundw
                case rel => exact ⟨i + 1, by go_num, by omega, (Hb.out.setCell (by show w.heap.size + 1 ≤ gx; omega) _).trans ((below_new _ _).mono (by simp [World.setCell]; omega)), ((Hx'.out.set tn htn).old (below_new _ _)).congr (fun t _ => by rw [HsX.out]; simp), ((Hy'.out.far _ _ (fun e => hxy e.symm)).old (below_new _ _)).congr (fun t _ => by rw [HsG.out]; simp)⟩
                case measure => simp [intOf]; omega
              · go_wp2
                go_roundw
                case rel => exact ⟨i + 1, by go_num, by omega, ((Hb.out.setCell (by show w.heap.size + 1 ≤ gx; omega) _).setCell (by show w.heap.size + 1 ≤ gy; omega) _).trans ((below_new _ _).mono (by simp [World.setCell]; omega)), (((Hx'.out.set tn htn).far _ _ hxy).old (below_new _ _)).congr (fun t _ => by rw [HsX.out]; simp), (((Hy'.out.far _ _ (fun e => hxy e.symm)).set tn htn).old (below_new _ _)).congr (fun t _ => by rw [HsG.out]; simp)⟩
                case measure => simp [intOf]; omega
            · go_wp2
              go_roundw
              case rel => exact ⟨i + 1, by go_num, by omega, ((Hb.out.setCell (by show w.heap.size + 1 ≤ gx; omega) _).setCell (by show w.heap.size + 1 ≤ gy; omega) _).trans ((below_new _ _).mono (by simp [World.setCell]; omega)), (((Hx'.out.set tn htn).far _ _ hxy).old (below_new _ _)).congr (fun t _ => by rw [HsX.out]; simp), (((Hy'.out.far _ _ (fun e => hxy e.symm)).set tn htn).old (below_new _ _)).congr (fun t _ => by rw [HsG.out]; simp)⟩
              case measure => simp [intOf]; omega
        · have hd : (sl != l) = true := by simp [hsl]
          go_wp2
          go_roundw
          case rel => exact ⟨i + 1, by go_num, by omega, HB1.out, HX1.out.congr (fun t _ => by rw [HsX.out]; simp [hsl]), HY1.out.congr (fun t _ => by rw [HsG.out]; simp [hsl])⟩
          case measure => simp [intOf]; omega
      · have hiL : i = L := by omega
        subst hiL
        go_wp2
        refine bodyPost_ret (results_tmp2 rfl _ _ _) rfl ?_
        have e1 : ss.take i = ss := by rw [← HL.out]; exact List.take_length
        have hx := Hx'.out
        have hy := Hy'.out
        rw [e1] at hx hy
        exact ⟨gx, gy, rfl, hx, hy, below_trans (below_new w _) (Hb.out.mono (by simp)), by omega⟩
  clear hK
  go_region
  · obtain ⟨_, h1, h2⟩ := three_alloc w (Obj.cells #[Value.int .i64 (N : Nat), .int .i64 m, fv, .slice a2 N c2, .slice a3 L c3] 26) (.cells (falses N) 4) (.cells (falses N) 4)
    exact key (w.heap.size + 1) (w.heap.size + 1 + 1) _ (by repeat (first | exact Below.refl _ _ | refine Below.drew ?_ | refine Below.alloc ?_ (by simp) _)) (BR.new h1) (BR.new h2) (by omega) (by omega) (by omega)
  · obtain ⟨_, h1, h2⟩ := three_alloc w (Obj.cells #[Value.int .i64 (N : Nat), .int .i64 m, fv, .slice a2 N c2, .slice a3 L c3] 26) (.cells (falses N) 4) (.cells (falses N) 4)
    exact key (w.heap.size + 1 + 1) (w.heap.size + 1) _ (by repeat (first | exact Below.refl _ _ | refine Below.drew ?_ | refine Below.alloc ?_ (by simp) _)) (BR.new h2) (BR.new h1) (by omega) (by omega) (by omega)
end Go.Proofs.YtpiacnnifdjlkaaDoor

namespace Go.Proofs.YtpiacnnifdjlkaaDoor
open Go.RowKit Go.Sort

abbrev Pr := (Nat → Bool) × (Nat → Bool)

/-- Both sets, a letter on; a list of letters on; loops on. -/
def stepP (ss : List Stp) (gd : List Bool) (p : Pr) (l : Int) : Pr := (mvL ss l p.1, mvG ss gd l p.1 p.2)
def runP (ss : List Stp) (gd : List Bool) (ls : List Int) (p : Pr) : Pr := ls.foldl (stepP ss gd) p
def loopsP (ss : List Stp) (gd : List Bool) (ls : List Int) : Nat → Pr → Pr
  | 0, p => p
  | n + 1, p => runP ss gd ls (loopsP ss gd ls n p)

def startP (q : Nat) : Pr := (fun i => decide (i = q), fun _ => false)

/-- Do loops lead from a state to itself by a good state? -/
def circB (ss : List Stp) (gd : List Bool) (ls : List Int) (N q : Nat) : Bool := (List.range (2 * N)).any fun n => (loopsP ss gd ls (n + 1) (startP q)).2 q

theorem runP_take (ss : List Stp) (gd : List Bool) (ls : List Int) (p : Pr) (i : Nat) (h : i < ls.length) : runP ss gd (ls.take (i + 1)) p = stepP ss gd (runP ss gd (ls.take i) p) (ls.getD i 0) := by
  unfold runP
  rw [List.take_add_one, List.getElem?_eq_getElem h, List.foldl_append]
  simp [List.getD, h]

set_option maxRecDepth 100000 in
set_option maxHeartbeats 4000000 in
theorem circles_any {w : World} {gd : List Bool} {ss : List Stp} {ls : List Int} (N : Nat) (m : Int) (fv : Value) (a2 a3 a5 : Option Addr) (c2 c3 c5 at_ : Nat) (hN : N ≤ 300) (hat : at_ < N) (hG : BoolSl w (.slice a2 N c2) gd) (hgl : gd.length = N) (hS : StepSl w (.slice a3 ss.length c3) ss) (hlen : ss.length ≤ 6000)
    (hst : ∀ s ∈ ss, 0 ≤ s.f ∧ s.f < N ∧ 0 ≤ s.t ∧ s.t < N) (hl : IntSl w (.slice a5 ls.length c5) ls) (hl5 : ls.length ≤ 4000) :
    Calls Tryd.prog 70 #[.agg #[.int .i64 (N : Nat), .int .i64 m, fv, .slice a2 N c2, .slice a3 ss.length c3], .slice a5 ls.length c5, .int .i64 (at_ : Nat)] w fun e w' =>
      e = .returned (.bool (circB ss gd ls N at_)) ∧ Below w.heap.size w w' := by
  have hmk := make_bools N (by omega)
  have HM := hide (fun (w1 : World) (hb : Below w.heap.size w w1) (l : Int) (g1 g2 : Nat) (f h : Nat → Bool) (hf : BR w1 g1 N f) (hh : BR w1 g2 N h) => moved_any N m l fv a2 a3 c2 c3 g1 g2 f h hN (hG.below hb) hgl (hS.below hb) hlen hst hf hh)
  have Hl := hide hl
  clear hG hgl hS hst hl hlen
  generalize ss.length = L at *
  generalize hL5 : ls.length = L5 at *
  have HL5 := hide hL5
  clear hL5
  generalize hcb : circB ss gd ls N at_ = cb
  have Hcb := hide hcb
  clear hcb
  go_enter Tryd.func70, Tryd.ntmps70
  go_wp2_with (fail)
  rename_i K hK
  have key : ∀ (gx gy : Nat) (W : World), Below (w.heap.size + 1) (w.alloc (Obj.cells #[Value.int .i64 (N : Nat), .int .i64 m, fv, .slice a2 N c2, .slice a3 L c3] 26)) W → BR W gx N (fun _ => false) → BR W gy N (fun _ => false) → w.heap.size < gx → w.heap.size < gy → gx ≠ gy → K { tmps := #[.agg #[.int .i64 (N : Nat), .int .i64 m, fv, .slice a2 N c2, .slice a3 L c3], .slice a5 L5 c5, .int .i64 (at_ : Nat), .pointer (some ⟨w.heap.size, 0, none⟩), undef, undef, .bool false, .slice (some ⟨gx, 0, none⟩) N N, .slice (some ⟨gy, 0, none⟩) N N, undef, undef, .pointer (some ⟨w.heap.size, 0, none⟩), .int .i64 (N : Nat), .slice (some ⟨gx, 0, none⟩) N N, .pointer (some ⟨w.heap.size, 0, none⟩), .int .i64 (N : Nat), .slice (some ⟨gy, 0, none⟩) N N, undef, undef, undef, undef, undef, undef, undef, undef, undef, undef, undef, undef, undef, undef, undef, undef, undef, undef, undef, undef, undef, undef, undef, undef, undef, undef, undef, undef, undef, undef, undef], defers := [] } W := by
    intro gx gy W hbW hx hy hgx hgy hxy
    refine hK _ _ ?_
    clear hK hmk
    have HbW := hide hbW
    have Hx := hide hx
    have Hy := hide hy
    have x1 := hx.cell at_ hat
    have x2 := hx.soft
    have hlx := hx.lt
    clear hbW hx hy
    go_wp2_with (fail)
    have HbS := hide (HbW.out.setCell (p := ⟨gx, at_, none⟩) (by show w.heap.size + 1 ≤ gx; omega) (.bool true))
    have HxS := hide (Hx.out.set at_ hat)
    have HyS := hide (Hy.out.far (g' := gx) at_ (.bool true) (fun e => hxy e.symm))
    clear x1 x2
    go_loopw [7, 8, 9] (fun s7 s8 s9 wr => ∃ (n g1 g2 : Nat), s7 = .slice (some ⟨g1, 0, none⟩) N N ∧ s8 = .slice (some ⟨g2, 0, none⟩) N N ∧ s9 = .int .i64 n ∧ n ≤ 2 * N ∧ BR wr g1 N (loopsP ss gd ls n (startP at_)).1 ∧ BR wr g2 N (loopsP ss gd ls n (startP at_)).2 ∧ Below (w.heap.size + 1) (w.alloc (Obj.cells #[Value.int .i64 (N : Nat), .int .i64 m, fv, .slice a2 N c2, .slice a3 L c3] 26)) wr ∧ ∀ k, k < n → (loopsP ss gd ls (k + 1) (startP at_)).2 at_ = false) (fun _ _ s9 _ => 2 * N - (intOf s9).toNat)
    case atStart => exact ⟨0, gx, gy, rfl, rfl, rfl, Nat.zero_le _, HxS.out.congr (fun i _ => by simp [loopsP, startP]), HyS.out, HbS.out, fun k hk => by omega⟩
    case round =>
      obtain ⟨n, g1, g2, rfl, rfl, rfl, hn, hx, hy, hb, hno⟩ := hrel
      have Hb := hide hb
      have HX := hide hx
      have HY := hide hy
      have Hno := hide hno
      have e0 : wr.heap[w.heap.size]? = some (Obj.cells #[Value.int .i64 (N : Nat), .int .i64 m, fv, .slice a2 N c2, .slice a3 L c3] 26) := (hb.block w.heap.size (by omega)).trans (one_new w _)
      have hwl := (Array.getElem?_eq_some_iff.1 e0).1
      have p0 := cell_of_row wr _ 0 _ _ _ e0
      clear e0 hb hx hy hno
      by_cases hlt : n < 2 * N
      · have hlt2 : (n : Int) < 2 * (N : Int) := by omega
        go_wp2_with (fail)
        clear p0
        generalize hpn : loopsP ss gd ls n (startP at_) = pn at *
        go_loopw [7, 8, 10] (fun s7 s8 s10 wr => ∃ (i g1 g2 : Nat), s7 = .slice (some ⟨g1, 0, none⟩) N N ∧ s8 = .slice (some ⟨g2, 0, none⟩) N N ∧ s10 = .int .i64 i ∧ i ≤ L5 ∧ BR wr g1 N (runP ss gd (ls.take i) pn).1 ∧ BR wr g2 N (runP ss gd (ls.take i) pn).2 ∧ Below (w.heap.size + 1) (w.alloc (Obj.cells #[Value.int .i64 (N : Nat), .int .i64 m, fv, .slice a2 N c2, .slice a3 L c3] 26)) wr) (fun _ _ s10 _ => L5 - (intOf s10).toNat)
        case atStart => exact ⟨0, g1, g2, rfl, rfl, rfl, Nat.zero_le _, HX.out, HY.out, Hb.out⟩
        case round =>
          obtain ⟨i, g1, g2, rfl, rfl, rfl, hi, hx, hy, hb⟩ := hrel
          have Hb := hide hb
          have HX := hide hx
          have HY := hide hy
          have e0 : wr.heap[w.heap.size]? = some (Obj.cells #[Value.int .i64 (N : Nat), .int .i64 m, fv, .slice a2 N c2, .slice a3 L c3] 26) := (hb.block w.heap.size (by omega)).trans (one_new w _)
          have hwl := (Array.getElem?_eq_some_iff.1 e0).1
          have hbw : Below w.heap.size w wr := below_trans (below_new w _) (hb.mono (by simp))
          have hx1 := hx.lt
          have hy1 := hy.lt
          clear hb hx hy
          by_cases hil : i < L5
          · have hls : i < ls.length := by rw [HL5.out]; exact hil
            have p0 := cell_of_row wr _ 0 _ _ _ e0
            have p1 := cell_of_row wr _ 1 _ _ _ e0
            have p2 := cell_of_row wr _ 2 _ _ _ e0
            have p3 := cell_of_row wr _ 3 _ _ _ e0
            have p4 := cell_of_row wr _ 4 _ _ _ e0
            obtain ⟨a', cap', e, _, hz, _⟩ := Hl.out
            injection e with e1 e2 e3
            subst e1
            rcases hz with hz | ⟨b5, o5, e, hc⟩
            · rw [hz] at hls; simp at hls
            subst e
            have d0 := hc i hls
            have hb5 : b5 < w.heap.size := World.block_lt_of_cell? w _ d0
            have d0 := (hbw.cell (p := ⟨b5, _, none⟩) hb5).trans d0
            have HT := hide (runP_take ss gd ls pn i hls)
            generalize ls.getD i 0 = z at *
            generalize runP ss gd (ls.take i) pn = pr at *
            have hbD : Below w.heap.size w wr.drew := hbw.drew
            have hxD : BR wr.drew g1 N pr.1 := HX.out.of_block rfl
            have hyD : BR wr.drew g2 N pr.2 := HY.out.of_block rfl
            have HC := hide (HM.out wr.drew hbD z g1 g2 pr.1 pr.2 hxD hyD)
            clear hc e2 e3 hbD hxD hyD e0
            go_wp2_with (fail)
            go_region_with (go_at_call 69; refine HC.out.mono ?_; rintro e w1 ⟨gx2, gy2, rfl, hx2, hy2, hb1, -⟩; have HX2 := hide hx2; have HY2 := hide hy2; clear hx2 hy2)
            all_goals
              have HB3 := hide (Hb.out.trans ((below_trans (Below.drew (Below.refl _ _)) hb1).mono (show w.heap.size + 1 ≤ wr.heap.size by omega)))
              clear hb1
              go_wp2
              go_roundw
              case rel => exact ⟨i + 1, gx2, gy2, rfl, rfl, by go_num, by omega, by rw [HT.out]; exact HX2.out, by rw [HT.out]; exact HY2.out, HB3.out⟩
              case measure => simp [intOf]; omega
          · have hiL : i = L5 := by omega
            subst hiL
            have e1 : ls.take i = ls := by rw [← HL5.out]; exact List.take_length
            have y1 := HY.out.cell at_ hat
            have hX := HX.out
            have hY := HY.out
            rw [e1] at y1 hX hY
            have HX3 := hide hX
            have HY3 := hide hY
            have eL : runP ss gd ls pn = loopsP ss gd ls (n + 1) (startP at_) := by rw [← hpn]; rfl
            rw [eL] at y1 HX3 HY3
            have HpN := hide hpn
            clear hX hY e1 eL HX HY hpn e0
            generalize hbl : (loopsP ss gd ls (n + 1) (startP at_)).2 at_ = bl at *
            have Hbl := hide hbl
            clear hbl
            cases bl
            · go_wp2
              go_roundw
              case rel =>
                refine ⟨n + 1, g1, g2, rfl, rfl, by go_num, by omega, HX3.out, HY3.out, Hb.out, fun k hk => ?_⟩
                by_cases e : k = n
                · rw [e]; exact Hbl.out
                · exact Hno.out k (by omega)
              case measure => simp [intOf]; omega
            · have hr : cb = true := by
                rw [← Hcb.out]
                unfold circB
                rw [List.any_eq_true]
                exact ⟨n, by simpa using hlt, Hbl.out⟩
              subst hr
              go_wp2
              go_ret
              exact ⟨rfl, hbw⟩
      · have hn2 : n = 2 * N := by omega
        have hlt2 : ¬ (n : Int) < 2 * (N : Int) := by omega
        have hr : cb = false := by
          rw [← Hcb.out]
          unfold circB
          rw [List.any_eq_false]
          intro k hk
          rw [Hno.out k (by simpa [hn2] using hk)]
          simp
        subst hr
        have hB : Below w.heap.size w wr := below_trans (below_new w _) (Hb.out.mono (by simp))
        go_wp2
        go_ret
        exact ⟨rfl, hB⟩
  clear hK
  go_region
  · obtain ⟨_, h1, h2⟩ := three_alloc w (Obj.cells #[Value.int .i64 (N : Nat), .int .i64 m, fv, .slice a2 N c2, .slice a3 L c3] 26) (.cells (falses N) 4) (.cells (falses N) 4)
    exact key (w.heap.size + 1) (w.heap.size + 1 + 1) _ (by repeat (first | exact Below.refl _ _ | refine Below.drew ?_ | refine Below.alloc ?_ (by simp) _)) (BR.new h1) (BR.new h2) (by omega) (by omega) (by omega)
  · obtain ⟨_, h1, h2⟩ := three_alloc w (Obj.cells #[Value.int .i64 (N : Nat), .int .i64 m, fv, .slice a2 N c2, .slice a3 L c3] 26) (.cells (falses N) 4) (.cells (falses N) 4)
    exact key (w.heap.size + 1 + 1) (w.heap.size + 1) _ (by repeat (first | exact Below.refl _ _ | refine Below.drew ?_ | refine Below.alloc ?_ (by simp) _)) (BR.new h2) (BR.new h1) (by omega) (by omega) (by omega)
end Go.Proofs.YtpiacnnifdjlkaaDoor
