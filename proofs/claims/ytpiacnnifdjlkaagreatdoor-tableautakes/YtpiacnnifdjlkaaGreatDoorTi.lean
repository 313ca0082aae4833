/-
  What newReader answers.
-/
import Derived.Test.YtpiacnnifdjlkaaGreatDoorRe
import Derived.Deep.DeepFit
import Derived.Test.YtpiacnnifdjlkaaGreatDoorTh
/-
  An automaton in a box, its rows of the call's own: what appending to them leaves.
-/
namespace Go.Proofs.YtpiacnnifdjlkaaGreatDoor
open Go.RowKit Go.Sort

def stepCells (ss : List Stp) : List Value := ss.flatMap fun s => [.int .i64 s.f, .int .i64 s.l, .int .i64 s.t]

theorem stepCells_len (ss : List Stp) : (stepCells ss).length = ss.length * 3 := by
  induction ss with
  | nil => rfl
  | cons s ss ih => simp [stepCells] at ih ⊢; omega

theorem stepCells_snoc (ss : List Stp) (s : Stp) : stepCells (ss ++ [s]) = stepCells ss ++ [.int .i64 s.f, .int .i64 s.l, .int .i64 s.t] := by simp [stepCells]

theorem stepCells_get (ss : List Stp) : ∀ i, i < ss.length → (stepCells ss)[i * 3]? = some (.int .i64 (ss.getD i stp0).f) ∧ (stepCells ss)[i * 3 + 1]? = some (.int .i64 (ss.getD i stp0).l) ∧ (stepCells ss)[i * 3 + 2]? = some (.int .i64 (ss.getD i stp0).t) := by
  induction ss with
  | nil => intro i hi; simp at hi
  | cons s ss ih =>
    intro i hi
    have e : stepCells (s :: ss) = .int .i64 s.f :: .int .i64 s.l :: .int .i64 s.t :: stepCells ss := by simp [stepCells]
    rw [e]
    cases i with
    | zero => simp
    | succ i =>
      have := ih i (by simpa using hi)
      rw [show (i + 1) * 3 = i * 3 + 1 + 1 + 1 by omega]
      simpa using this

theorem boolSl_of_owns {w : World} {base : Nat} {v : Value} {zs : List Bool} {n : Nat} (h : w.ownsRow base 4 1 v n (zs.map .bool)) : BoolSl w v zs := by
  obtain ⟨hl, h⟩ := h
  have hn : zs.length = n := by simpa using hl
  rcases h with ⟨rfl, h0⟩ | ⟨g, cap, cur, rfl, hb, hg, h1, h2, hs, ht⟩
  · obtain rfl : zs = [] := List.eq_nil_of_length_eq_zero (by omega)
    exact boolSl_nil w
  · subst hn
    refine ⟨_, cap, rfl, by omega, Or.inr ⟨g, 0, rfl, fun i hi => ?_⟩, (fun e => by cases e), h1⟩
    have hc := cell_of_row w g (0 + i) _ _ _ hg
    rw [hc, Nat.zero_add]
    have : cur.toList[i]? = some (.bool (zs.getD i false)) := by
      have h3 : (cur.toList.take (zs.length * 1))[i]? = some (.bool (zs.getD i false)) := by rw [ht]; simp [List.getD, hi]
      rw [List.getElem?_take] at h3
      split at h3
      · exact h3
      · cases h3
    simpa using this

theorem stepSl_of_owns {w : World} {base : Nat} {v : Value} {zs : List Stp} {n : Nat} (h : w.ownsRow base 62 3 v n (stepCells zs)) : StepSl w v zs := by
  obtain ⟨hl, h⟩ := h
  have hn : zs.length = n := by rw [stepCells_len] at hl; omega
  rcases h with ⟨rfl, h0⟩ | ⟨g, cap, cur, rfl, hb, hg, h1, h2, hs, ht⟩
  · obtain rfl : zs = [] := List.eq_nil_of_length_eq_zero (by omega)
    exact stepSl_nil w
  · subst hn
    have hc : ∀ k u, (stepCells zs)[k]? = some u → w.cell? ⟨g, 0 + k, none⟩ = some u := fun k u hu => by
      rw [cell_of_row w g (0 + k) _ _ _ hg, Nat.zero_add]
      rw [← ht, List.getElem?_take] at hu
      split at hu
      · simpa using hu
      · cases hu
    refine ⟨_, cap, rfl, by omega, Or.inr ⟨g, 0, rfl, fun i hi => ?_⟩, (fun e => by cases e), h1⟩
    obtain ⟨k1, k2, k3⟩ := stepCells_get zs i hi
    exact ⟨hc _ _ k1, hc _ _ k2, hc _ _ k3⟩

/-- An automaton in a box, its rows of the call's own. -/
structure RA (w : World) (base pb : Nat) (fv gv sv : Value) (A : Aut) : Prop where
  box : w.heap[pb]? = some (.cells #[.int .i64 A.n, .int .i64 A.m, fv, gv, sv] 30)
  f : w.ownsRow base 3 1 fv A.first.length (A.first.map (.int .i64))
  g : w.ownsRow base 4 1 gv A.good.length (A.good.map .bool)
  s : w.ownsRow base 62 3 sv A.steps.length (stepCells A.steps)
  hb : base ≤ pb

/-- A row of elements that are no automata does not lie in the box. -/
theorem row_apart {w : World} {base e sz n pb : Nat} {v : Value} {xs : List Value} {c : Array Value} {t : TypeId} (h : w.ownsRow base e sz v n xs) (hp : w.heap[pb]? = some (.cells c t)) (hne : e ≠ t) : ∀ r, v.ownBlock = some r → r ≠ pb := by
  intro r hr e1
  obtain ⟨c', fz, hc⟩ := owns_cells h r hr
  rw [e1, hp] at hc
  injection hc with hc
  injection hc with _ h2
  exact hne h2.symm

theorem box_set {w : World} {pb : Nat} {c : Array Value} {t : TypeId} (h : w.heap[pb]? = some (.cells c t)) (k : Nat) (v : Value) : (w.setCell ⟨pb, k, none⟩ v).heap[pb]? = some (.cells (c.setIfInBounds k v) t) := by
  rw [setCell_eq_setRow w pb k c t _ v h]
  exact setRow_heap w pb c _ t _ h

theorem owns_set {w : World} {base e sz n pb : Nat} {v : Value} {xs : List Value} {c : Array Value} {t : TypeId} (h : w.ownsRow base e sz v n xs) (hp : w.heap[pb]? = some (.cells c t)) (hne : e ≠ t) (k : Nat) (u : Value) : (w.setCell ⟨pb, k, none⟩ u).ownsRow base e sz v n xs :=
  owns_kept h fun r hr => heap_setCell_other w _ _ r (row_apart h hp hne r hr)

theorem below_set {base : Nat} {w w' : World} (h : Below base w w') {pb : Nat} (hb : base ≤ pb) (k : Nat) (u : Value) : Below base w (w'.setCell ⟨pb, k, none⟩ u) := h.setCell hb u

theorem RA.below {w w' : World} {base pb : Nat} {fv gv sv : Value} {A : Aut} (h : RA w base pb fv gv sv A) (hb : Below w.heap.size w w') : RA w' base pb fv gv sv A :=
  ⟨(hb.block pb (Array.getElem?_eq_some_iff.1 h.box).1).trans h.box, owns_below h.f hb, owns_below h.g hb, owns_below h.s hb, h.hb⟩

theorem RA.aut {w : World} {base pb : Nat} {fv gv sv : Value} {A : Aut} (h : RA w base pb fv gv sv A) : AutV w (.agg #[.int .i64 A.n, .int .i64 A.m, fv, gv, sv]) A :=
  ⟨fv, gv, sv, rfl, intSl_of_owns h.f, boolSl_of_owns h.g, stepSl_of_owns h.s⟩

theorem RA.hb0 {w : World} {base pb : Nat} {fv gv sv : Value} {A : Aut} (h : RA w base pb fv gv sv A) : base ≤ w.heap.size := Nat.le_trans h.hb (Nat.le_of_lt (Array.getElem?_eq_some_iff.1 h.box).1)

/-- Rows of unlike elements lie apart, told of both blocks. -/
theorem rows_far {w : World} {base base' e e' sz sz' n n' : Nat} {v v' : Value} {xs xs' : List Value} (h : w.ownsRow base e sz v n xs) (h' : w.ownsRow base' e' sz' v' n' xs') (hne : e ≠ e') : ∀ r, v.ownBlock = some r → some r ≠ v'.ownBlock := fun _ hr e => rows_apart h h' hne hr e.symm

theorem KR.owns {base : Nat} {r : Option Nat} {w0 w : World} (h : KR base r w0 w) {base' e sz n : Nat} {v : Value} {xs : List Value} (ho : w0.ownsRow base' e sz v n xs) (hne : ∀ k, v.ownBlock = some k → some k ≠ r) : w.ownsRow base' e sz v n xs :=
  owns_kept ho fun k hk => h.keep k (ho.lt k hk).2 (hne k hk)

theorem RA.apart {w : World} {base pb : Nat} {fv gv sv : Value} {A : Aut} (h : RA w base pb fv gv sv A) : some pb ≠ fv.ownBlock ∧ some pb ≠ gv.ownBlock ∧ some pb ≠ sv.ownBlock :=
  ⟨fun e => row_apart h.f h.box (by decide) pb e.symm rfl, fun e => row_apart h.g h.box (by decide) pb e.symm rfl, fun e => row_apart h.s h.box (by decide) pb e.symm rfl⟩

theorem RA.appFirst {w W : World} {base pb : Nat} {fv gv sv v' : Value} {A : Aut} {z : Int} (h : RA w base pb fv gv sv A) (hk : KR base fv.ownBlock w W) (hn : W.ownsRow base 3 1 v' (A.first.length + 1) (A.first.map (.int .i64) ++ [.int .i64 z])) : RA (W.setCell ⟨pb, 2, none⟩ v') base pb v' gv sv { A with first := A.first ++ [z] } := by
  have hb := hk.block h.box h.apart.1
  refine ⟨box_set hb 2 v', ?_, owns_set (hk.owns h.g (rows_far h.g h.f (by decide))) hb (by decide) _ _, owns_set (hk.owns h.s (rows_far h.s h.f (by decide))) hb (by decide) _ _, h.hb⟩
  have := owns_set hn hb (by decide) 2 v'
  simpa using this

theorem RA.appGood {w W : World} {base pb : Nat} {fv gv sv v' : Value} {A : Aut} {z : Bool} (h : RA w base pb fv gv sv A) (hk : KR base gv.ownBlock w W) (hn : W.ownsRow base 4 1 v' (A.good.length + 1) (A.good.map .bool ++ [.bool z])) : RA (W.setCell ⟨pb, 3, none⟩ v') base pb fv v' sv { A with good := A.good ++ [z] } := by
  have hb := hk.block h.box h.apart.2.1
  refine ⟨box_set hb 3 v', owns_set (hk.owns h.f (rows_far h.f h.g (by decide))) hb (by decide) _ _, ?_, owns_set (hk.owns h.s (rows_far h.s h.g (by decide))) hb (by decide) _ _, h.hb⟩
  have := owns_set hn hb (by decide) 3 v'
  simpa using this

theorem RA.appStep {w W : World} {base pb : Nat} {fv gv sv v' : Value} {A : Aut} {z : Stp} (h : RA w base pb fv gv sv A) (hk : KR base sv.ownBlock w W) (hn : W.ownsRow base 62 3 v' (A.steps.length + 1) (stepCells A.steps ++ [.int .i64 z.f, .int .i64 z.l, .int .i64 z.t])) : RA (W.setCell ⟨pb, 4, none⟩ v') base pb fv gv v' { A with steps := A.steps ++ [z] } := by
  have hb := hk.block h.box h.apart.2.2
  refine ⟨box_set hb 4 v', owns_set (hk.owns h.f (rows_far h.f h.s (by decide))) hb (by decide) _ _, owns_set (hk.owns h.g (rows_far h.g h.s (by decide))) hb (by decide) _ _, ?_, h.hb⟩
  have := owns_set hn hb (by decide) 4 v'
  simpa [stepCells_snoc] using this
end Go.Proofs.YtpiacnnifdjlkaaGreatDoor

namespace Go.Proofs.YtpiacnnifdjlkaaGreatDoor
open Go.RowKit Go.Sort

theorem grown_box {W W' : World} {base e sz n pb : Nat} {v : Value} {xs : List Value} {c : Array Value} {t : TypeId} (hb : W.heap[pb]? = some (.cells c t)) (h' : W.ownsRow base e sz v n xs) (hne : e ≠ t) (hg : W.grownBy W' v.ownBlock) : W'.heap[pb]? = some (.cells c t) :=
  (hg.block pb (Array.getElem?_eq_some_iff.1 hb).1 (fun e1 => row_apart h' hb hne pb e1.symm rfl)).trans hb

theorem grown_below {w W W' : World} {base e sz n : Nat} {v : Value} {xs : List Value} (hb : Below base w W) (h' : W.ownsRow base e sz v n xs) (hbase : base ≤ w.heap.size) (hg : W.grownBy W' v.ownBlock) : Below base w W' :=
  ⟨hg.os.trans hb.os, hg.tape.trans hb.tape, hg.output.trans hb.output, Nat.le_trans hb.size hg.size, fun i hi => by
    rw [hg.block i (by have := hb.size; omega) (fun e1 => by have := (h'.lt i e1.symm).1; omega)]
    exact hb.block i hi⟩

def numV (xs : List Nat) : List Value := xs.map fun i => .int .i64 (i : Nat)

/-- What newReader has laid while it goes. -/
structure NRd (w W : World) (fv lv : Value) (fo : Nat) (xs : List Nat) : Prop where
  box : W.heap[w.heap.size + 1]? = some (.cells #[fv, .int .u16 (fo : Nat), lv] 44)
  b0 : W.heap[w.heap.size]? = some (.cells #[.slice none 0 0, .int .u16 0, .slice none 0 0] 44)
  own : W.ownsRow w.heap.size 3 1 lv xs.length (numV xs)
  bl : Below w.heap.size w W

theorem NRd.below {w W W' : World} {fv lv : Value} {fo : Nat} {xs : List Nat} (h : NRd w W fv lv fo xs) (hb : Below W.heap.size W W') : NRd w W' fv lv fo xs :=
  ⟨belowRow hb h.box, belowRow hb h.b0, owns_below h.own hb, h.bl.trans (hb.mono h.bl.size)⟩

theorem NRd.fore {w W : World} {fv lv : Value} {fo : Nat} {xs : List Nat} (h : NRd w W fv lv fo xs) (fo' : Nat) : NRd w (W.setCell ⟨w.heap.size + 1, 1, none⟩ (.int .u16 (fo' : Nat))) fv lv fo' xs :=
  ⟨box_set h.box 1 _, (heap_setCell_other _ _ _ _ (by simp)).trans h.b0, owns_set h.own h.box (by decide) _ _, below_set h.bl (by omega) _ _⟩

theorem NRd.last {w W W' : World} {fv lv lv' : Value} {fo : Nat} {xs : List Nat} {m : Nat} (h : NRd w W fv lv fo xs) (hg : W.grownBy W' lv.ownBlock) (ho : W'.ownsRow w.heap.size 3 1 lv' (xs.length + 1) (numV xs ++ [.int .i64 (m : Nat)])) : NRd w (W'.setCell ⟨w.heap.size + 1, 2, none⟩ lv') fv lv' fo (xs ++ [m]) := by
  have hb := grown_box h.box h.own (by decide) hg
  refine ⟨box_set hb 2 _, (heap_setCell_other _ _ _ _ (by simp)).trans (grown_box h.b0 h.own (by decide) hg), ?_, below_set (grown_below h.bl h.own (Nat.le_refl _) hg) (by omega) _ _⟩
  have := owns_set ho hb (by decide) 2 lv'
  simpa [numV] using this

theorem foreN_lt (F : List Nd) (m : Nat) (hm : m ≤ 16) : foreN F m < 65536 :=
  Nat.lt_of_lt_of_le (Nat.lt_pow_two_of_testBit _ (fun i hi => by rw [foreN_test, decide_eq_false (by omega), Bool.false_and])) (Nat.pow_le_pow_right (n := 2) (by decide) hm)

theorem lastN_len (F : List Nd) : ∀ m, (lastN F m).length ≤ m
  | 0 => by simp [lastN]
  | m + 1 => by
    have := lastN_len F m
    unfold lastN
    split
    · rw [List.length_append]; simp; omega
    · omega

set_option maxRecDepth 100000 in
set_option maxHeartbeats 4000000 in
theorem tNewReader {F : List Nd} (hF : RdOk F) (fv : Value) (w : World) (hv : NodeSl w fv F) :
    Calls Tryz.prog 12 #[fv] w fun e w' => ∃ lv, e = .returned (.agg #[fv, .int .u16 (foreL F : Nat), lv]) ∧ w'.ownsRow w.heap.size 3 1 lv (lastL F).length (numV (lastL F)) ∧ Below w.heap.size w w' := by
  obtain ⟨fa, fc, rfl, hfm, hcell, -, -⟩ := hv
  unfold maxLen at hfm
  have Hcell := hide hcell
  have hf12 := hF.few
  have HFo := hide (show foreL F = foreN F F.length from rfl)
  have HLo := hide (show lastL F = lastN F F.length from rfl)
  have HFlt := hide (foreN_lt F)
  have HLle := hide (lastN_len F)
  generalize hL : F.length = L at *
  have HL := hide hL
  clear hL hF hcell
  have HS0 := hide (show NRd w ((w.alloc (Obj.cells #[.slice none 0 0, .int .u16 0, .slice none 0 0] 44)).alloc (Obj.cells #[.slice fa L fc, .int .u16 0, .slice none 0 0] 44)) (.slice fa L fc) (.slice none 0 0) 0 [] from
    ⟨by have := one_new (w.alloc (Obj.cells #[.slice none 0 0, .int .u16 0, .slice none 0 0] 44)) (Obj.cells #[.slice fa L fc, .int .u16 0, .slice none 0 0] 44); rwa [show (w.alloc (Obj.cells #[.slice none 0 0, .int .u16 0, .slice none 0 0] 44)).heap.size = w.heap.size + 1 by simp] at this,
     belowRow (below_new (w.alloc (Obj.cells #[.slice none 0 0, .int .u16 0, .slice none 0 0] 44)) (Obj.cells #[.slice fa L fc, .int .u16 0, .slice none 0 0] 44)) (one_new w (Obj.cells #[.slice none 0 0, .int .u16 0, .slice none 0 0] 44)),
     World.ownsRow_nil _ _ _ _, below_trans (below_new w (Obj.cells #[.slice none 0 0, .int .u16 0, .slice none 0 0] 44)) (below_new (w.alloc (Obj.cells #[.slice none 0 0, .int .u16 0, .slice none 0 0] 44)) (Obj.cells #[.slice fa L fc, .int .u16 0, .slice none 0 0] 44))⟩)
  go_enter Tryz.func12, Tryz.ntmps12
  go_wp2_with (fail)
  go_loopw [10] (fun s10 wr => ∃ (m : Nat) (lv : Value), s10 = .int .i64 m ∧ m ≤ L ∧ Hid (NRd w wr (.slice fa L fc) lv (foreN F m) (lastN F m))) (fun s10 _ => L - (intOf s10).toNat)
  case atStart => exact ⟨0, _, rfl, Nat.zero_le _, HS0⟩
  case round =>
    clear HS0
    obtain ⟨m, lv, rfl, hm, HR⟩ := hrel
    by_cases hmL : m < L
    · have hml : m < F.length := by rw [HL.out]; exact hmL
      rcases Hcell.out with hz | ⟨b5, o5, e5, hc⟩
      · rw [hz] at hml; simp at hml
      subst e5
      obtain ⟨q0, q1, q2, q3⟩ := hc m hmL
      have d0 := (HR.out.bl.cell (World.block_lt_of_cell? w _ q0)).trans q0
      have d1 := (HR.out.bl.cell (World.block_lt_of_cell? w _ q1)).trans q1
      have d2 := (HR.out.bl.cell (World.block_lt_of_cell? w _ q2)).trans q2
      have d3 := (HR.out.bl.cell (World.block_lt_of_cell? w _ q3)).trans q3
      have hfl := HFlt.out m (by omega)
      have hle := HLle.out m
      clear q0 q1 q2 q3 hc
      obtain ⟨k, hk⟩ : ∃ k, (F.getD m nd0).k = k := ⟨_, rfl⟩
      rw [hk] at d0
      generalize (F.getD m nd0).a = xa at *
      generalize (F.getD m nd0).b = xb at *
      generalize (F.getD m nd0).n = xn at *
      have HK := hide hk
      clear hk
      by_cases h7 : k = 7
      · subst h7
        have HF := hide (show foreN F (m + 1) = addBit (foreN F m) m from if_pos (by unfold kN; rw [HK.out]; omega))
        have HLa := hide (show lastN F (m + 1) = lastN F m ++ [m] from if_pos (by unfold kN; rw [HK.out]; omega))
        generalize hfo : foreN F m = fo at *
        generalize hxs : lastN F m = xs at *
        clear hfo hxs
        have hbx := below_new wr (Obj.cells #[.int .i64 7, .int .i64 xa, .int .i64 xb, .int .i64 xn] 54)
        have HR1 := hide (HR.out.below hbx)
        clear hbx
        obtain ⟨la, lc, rfl⟩ := owns_form HR1.out.own
        have r2 := cell_of_row _ _ 2 _ _ _ HR1.out.box
        have hs1 : (wr.alloc (Obj.cells #[.int .i64 7, .int .i64 xa, .int .i64 xb, .int .i64 xn] 54)).heap.size = wr.heap.size + 1 := by simp
        have HoA := hide (HR1.out.own.alloc (Obj.cells #[Value.int .i64 (m : Nat)] 3))
        have HRA := hide (HR1.out.below (below_new (wr.alloc (Obj.cells #[.int .i64 7, .int .i64 xa, .int .i64 xb, .int .i64 xn] 54)) (Obj.cells #[Value.int .i64 (m : Nat)] 3)))
        have Hc0 := hide (show ((wr.alloc (Obj.cells #[.int .i64 7, .int .i64 xa, .int .i64 xb, .int .i64 xn] 54)).alloc (Obj.cells #[Value.int .i64 (m : Nat)] 3)).cell? ⟨wr.heap.size + 1, 0, none⟩ = some (.int .i64 (m : Nat)) by rw [← hs1]; exact cell_of_row _ _ 0 _ _ _ (one_new (wr.alloc (Obj.cells #[.int .i64 7, .int .i64 xa, .int .i64 xb, .int .i64 xn] 54)) (Obj.cells #[Value.int .i64 (m : Nat)] 3)))
        have HbW := hide HRA.out.bl.size
        clear hs1
        go_wp2_with (at_builtin; refine wpList_append_one _ rfl (.tmp 21) (.tmp 23) 24 3 1 8 rfl elInt w.heap.size _ _ _ rfl HoA.out (wr.heap.size + 1) 1 [.int .i64 (m : Nat)] rfl rfl (by intro j u hu; match j, hu with | 0, hu => simp at hu; subst hu; exact Hc0.out | j + 1, hu => simp at hu) (by intro u hu; simp at hu; subst hu; rfl) (by omega) HbW.out ?_; intro g8 cap8 w8 hown8 hgrow8 hor8 hbase8; have HN8 := hide (HRA.out.last hgrow8 hown8); have b8 := grown_box HRA.out.box HoA.out (by decide) hgrow8; have y2 := cell_of_row _ _ 2 _ _ _ b8; have z2 := frozen_of_row _ _ 2 _ _ b8; have y1 := cell_of_row _ _ 1 _ _ _ HN8.out.box; have z1 := frozen_of_row _ _ 1 _ _ HN8.out.box; clear hown8 hgrow8 hor8 hbase8 b8)
        go_fit (tWith fo m _ hfl (by omega))
        rintro e W' ⟨rfl, rfl⟩
        go_wp2_with (fail)
        go_roundw
        case rel => exact ⟨m + 1, _, by go_num, by omega, hide (by rw [HF.out, HLa.out]; exact HN8.out.fore _)⟩
        case measure => simp [intOf]; omega
      by_cases h8 : k = 8
      · subst h8
        clear h7
        have HF := hide (show foreN F (m + 1) = addBit (foreN F m) m from if_pos (by unfold kN; rw [HK.out]; omega))
        have HLa := hide (show lastN F (m + 1) = lastN F m ++ [m] from if_pos (by unfold kN; rw [HK.out]; omega))
        generalize hfo : foreN F m = fo at *
        generalize hxs : lastN F m = xs at *
        clear hfo hxs
        have hbx := below_new wr (Obj.cells #[.int .i64 8, .int .i64 xa, .int .i64 xb, .int .i64 xn] 54)
        have HR1 := hide (HR.out.below hbx)
        clear hbx
        obtain ⟨la, lc, rfl⟩ := owns_form HR1.out.own
        have r2 := cell_of_row _ _ 2 _ _ _ HR1.out.box
        have hs1 : (wr.alloc (Obj.cells #[.int .i64 8, .int .i64 xa, .int .i64 xb, .int .i64 xn] 54)).heap.size = wr.heap.size + 1 := by simp
        have HoA := hide (HR1.out.own.alloc (Obj.cells #[Value.int .i64 (m : Nat)] 3))
        have HRA := hide (HR1.out.below (below_new (wr.alloc (Obj.cells #[.int .i64 8, .int .i64 xa, .int .i64 xb, .int .i64 xn] 54)) (Obj.cells #[Value.int .i64 (m : Nat)] 3)))
        have Hc0 := hide (show ((wr.alloc (Obj.cells #[.int .i64 8, .int .i64 xa, .int .i64 xb, .int .i64 xn] 54)).alloc (Obj.cells #[Value.int .i64 (m : Nat)] 3)).cell? ⟨wr.heap.size + 1, 0, none⟩ = some (.int .i64 (m : Nat)) by rw [← hs1]; exact cell_of_row _ _ 0 _ _ _ (one_new (wr.alloc (Obj.cells #[.int .i64 8, .int .i64 xa, .int .i64 xb, .int .i64 xn] 54)) (Obj.cells #[Value.int .i64 (m : Nat)] 3)))
        have HbW := hide HRA.out.bl.size
        clear hs1
        go_wp2_with (at_builtin; refine wpList_append_one _ rfl (.tmp 21) (.tmp 23) 24 3 1 8 rfl elInt w.heap.size _ _ _ rfl HoA.out (wr.heap.size + 1) 1 [.int .i64 (m : Nat)] rfl rfl (by intro j u hu; match j, hu with | 0, hu => simp at hu; subst hu; exact Hc0.out | j + 1, hu => simp at hu) (by intro u hu; simp at hu; subst hu; rfl) (by omega) HbW.out ?_; intro g8 cap8 w8 hown8 hgrow8 hor8 hbase8; have HN8 := hide (HRA.out.last hgrow8 hown8); have b8 := grown_box HRA.out.box HoA.out (by decide) hgrow8; have y2 := cell_of_row _ _ 2 _ _ _ b8; have z2 := frozen_of_row _ _ 2 _ _ b8; have y1 := cell_of_row _ _ 1 _ _ _ HN8.out.box; have z1 := frozen_of_row _ _ 1 _ _ HN8.out.box; clear hown8 hgrow8 hor8 hbase8 b8)
        go_fit (tWith fo m _ hfl (by omega))
        rintro e W' ⟨rfl, rfl⟩
        go_wp2_with (fail)
        go_roundw
        case rel => exact ⟨m + 1, _, by go_num, by omega, hide (by rw [HF.out, HLa.out]; exact HN8.out.fore _)⟩
        case measure => simp [intOf]; omega
      by_cases h6 : k = 6
      · subst h6
        clear h7 h8
        have HF := hide (show foreN F (m + 1) = addBit (foreN F m) m from if_pos (by unfold kN; rw [HK.out]; omega))
        have HLa := hide (show lastN F (m + 1) = lastN F m from if_neg (by unfold kN; rw [HK.out]; omega))
        generalize hfo : foreN F m = fo at *
        generalize hxs : lastN F m = xs at *
        clear hfo hxs
        have hbx := below_new wr (Obj.cells #[.int .i64 6, .int .i64 xa, .int .i64 xb, .int .i64 xn] 54)
        have HR1 := hide (HR.out.below hbx)
        clear hbx
        have y1 := cell_of_row _ _ 1 _ _ _ HR1.out.box
        have z1 := frozen_of_row _ _ 1 _ _ HR1.out.box
        go_wp2_with (fail)
        go_fit (tWith fo m _ hfl (by omega))
        rintro e W' ⟨rfl, rfl⟩
        go_wp2_with (fail)
        go_roundw
        case rel => exact ⟨m + 1, _, by go_num, by omega, hide (by rw [HF.out, HLa.out]; exact HR1.out.fore _)⟩
        case measure => simp [intOf]; omega
      have HF := hide (show foreN F (m + 1) = foreN F m from if_neg (by unfold kN; rw [HK.out]; omega))
      have HLa := hide (show lastN F (m + 1) = lastN F m from if_neg (by unfold kN; rw [HK.out]; omega))
      generalize hfo : foreN F m = fo at *
      generalize hxs : lastN F m = xs at *
      clear hfo hxs
      have hbx := below_new wr (Obj.cells #[.int .i64 k, .int .i64 xa, .int .i64 xb, .int .i64 xn] 54)
      have HR1 := hide (HR.out.below hbx)
      clear hbx
      have b7 : (k == 7) = false := by simpa using h7
      have b8 : (k == 8) = false := by simpa using h8
      have b6 : (k == 6) = false := by simpa using h6
      clear h6 h7 h8
      go_wp2_with (fail)
      go_roundw
      case rel => exact ⟨m + 1, _, by go_num, by omega, hide (by rw [HF.out, HLa.out]; exact HR1.out)⟩
      case measure => simp [intOf]; omega
    · obtain rfl : m = L := by omega
      have x0 := cell_of_row _ _ 0 _ _ _ HR.out.box
      have x1 := cell_of_row _ _ 1 _ _ _ HR.out.box
      have x2 := cell_of_row _ _ 2 _ _ _ HR.out.box
      have y0 := cell_of_row _ _ 0 _ _ _ HR.out.b0
      have y1 := cell_of_row _ _ 1 _ _ _ HR.out.b0
      have y2 := cell_of_row _ _ 2 _ _ _ HR.out.b0
      have z0 := frozen_of_row _ _ 0 _ _ HR.out.b0
      have z1 := frozen_of_row _ _ 1 _ _ HR.out.b0
      have z2 := frozen_of_row _ _ 2 _ _ HR.out.b0
      obtain ⟨la, lc, rfl⟩ := owns_form HR.out.own
      have hF := box_set (box_set (box_set HR.out.b0 0 (.slice fa m fc)) 1 (.int .u16 (foreN F m : Nat))) 2 (.slice la (lastN F m).length lc)
      have HO := hide (owns_set (owns_set (owns_set HR.out.own HR.out.b0 (by decide) 0 (.slice fa m fc)) (box_set HR.out.b0 0 (.slice fa m fc)) (by decide) 1 (.int .u16 (foreN F m : Nat))) (box_set (box_set HR.out.b0 0 (.slice fa m fc)) 1 (.int .u16 (foreN F m : Nat))) (by decide) 2 (.slice la (lastN F m).length lc))
      have HB := hide (below_set (below_set (below_set HR.out.bl (Nat.le_refl _) 0 (.slice fa m fc)) (Nat.le_refl _) 1 (.int .u16 (foreN F m : Nat))) (Nat.le_refl _) 2 (.slice la (lastN F m).length lc))
      have f0 := cell_of_row _ _ 0 _ _ _ hF
      have f1 := cell_of_row _ _ 1 _ _ _ hF
      have f2 := cell_of_row _ _ 2 _ _ _ hF
      clear hF
      go_wp2_with (fail)
      refine bodyPost_ret (v := .agg #[.slice fa m fc, .int .u16 (foreN F m : Nat), .slice la (lastN F m).length lc]) (by simp [results, Tryz.results12, go_sem, f0, f1, f2]) rfl ⟨.slice la (lastN F m).length lc, by rw [HFo.out], by rw [HLo.out]; exact HO.out, HB.out⟩

end Go.Proofs.YtpiacnnifdjlkaaGreatDoor
