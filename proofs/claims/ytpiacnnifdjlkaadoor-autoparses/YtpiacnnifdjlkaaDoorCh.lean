/-
  WordTells of the statements: true, whatever it is handed.
-/
import Derived.Test.YtpiacnnifdjlkaaDoorCg
namespace Go.Proofs.YtpiacnnifdjlkaaDoor
open Go.RowKit Go.Sort

theorem belowRow {w w' : World} (h : Below w.heap.size w w') {b : Nat} {o : Obj} (hb : w.heap[b]? = some o) : w'.heap[b]? = some o := (h.block b (Array.getElem?_eq_some_iff.1 hb).1).trans hb

theorem allocRow (w : World) (o' : Obj) {b : Nat} {o : Obj} (hb : w.heap[b]? = some o) : (w.alloc o').heap[b]? = some o := belowRow (below_new w o') hb

theorem one_new (w : World) (o : Obj) : (w.alloc o).heap[w.heap.size]? = some o := heap_alloc_new w o

set_option maxRecDepth 100000 in
set_option maxHeartbeats 2000000 in
theorem wordTells_bad {w : World} {hv lv : Value} {hs ls : List Int} (n i : Int) (hh : IntSl w hv hs) (hl : IntSl w lv ls) (ht : Tab w) (hc : chk hs ls n ≠ 0) :
    Calls Tryd.prog 6 #[.agg #[hv, lv], .int .i64 n, .int .i64 i] w fun e w' => e = .returned (.bool true) ∧ Below w.heap.size w w' := by
  have Ht := hide ht
  have H1 := hide (fun w1 (hb : Below w.heap.size w w1) => least_bad (hh.below hb) (hl.below hb) n (by simpa using hc))
  have H2 := hide (fun w1 (hb : Below w.heap.size w w1) => at_bad (hh.below hb) (hl.below hb) n i (by simpa using hc))
  have H3 := hide (fun w1 (hb : Below w.heap.size w w1) => checkLasso_any n (hh.below hb) (hl.below hb))
  have H4 := hide (fun w1 (hb : Below w.heap.size w w1) => check_any n (hh.below hb) (hl.below hb))
  obtain ⟨a0, c0, rfl, -⟩ := hh
  obtain ⟨a1, c1, rfl, -⟩ := hl
  clear ht
  generalize chk hs ls n = c at *
  have hc1 : (c == 0) = false := by simpa using hc
  have hc2 : ¬ (0 = c) := fun e => hc e.symm
  generalize hs.length = L0 at *
  generalize ls.length = L1 at *
  go_enter Tryd.func6, Tryd.ntmps6
  go_wp2_with (fail)
  have b0 := one_new w (Obj.cells #[Value.slice a0 L0 c0, .slice a1 L1 c1] 44)
  have B0 := below_new w (Obj.cells #[Value.slice a0 L0 c0, .slice a1 L1 c1] 44)
  refine (H1.out _ B0).mono ?_
  rintro e w1 ⟨rfl, hb1⟩
  have B1 := below_trans B0 hb1
  have b1 := belowRow hb1 b0
  clear hb1 b0 B0
  have p0 := cell_of_row w1 _ 0 _ _ _ b1
  have p1 := cell_of_row w1 _ 1 _ _ _ b1
  have hw1 := (Array.getElem?_eq_some_iff.1 b1).1
  go_wp2_with (fail)
  clear p0 p1
  have x1 := one_new w1 (Obj.cells #[Value.slice none 0 0, .slice none 0 0] 44)
  have b1' := allocRow w1 (Obj.cells #[Value.slice none 0 0, .slice none 0 0] 44) b1
  have B1' := below_trans B1 (below_new w1 (Obj.cells #[Value.slice none 0 0, .slice none 0 0] 44))
  refine (H2.out _ B1').mono ?_
  rintro e w2 ⟨rfl, hb2⟩
  have B2 := below_trans B1' hb2
  have b2 := belowRow hb2 b1'
  have x2 := belowRow hb2 x1
  clear hb2 b1 b1' x1 B1 B1' hw1
  have p0 := cell_of_row w2 _ 0 _ _ _ b2
  have p1 := cell_of_row w2 _ 1 _ _ _ b2
  go_wp2_with (fail)
  clear p0 p1
  refine (H3.out _ B2).mono ?_
  rintro e w3 ⟨rfl, hb3⟩
  have B3 := below_trans B2 hb3
  have b3 := belowRow hb3 b2
  have x3 := belowRow hb3 x2
  clear hb3 b2 x2 B2
  go_wp2_with (fail)
  have y3 := one_new w3 (Obj.cells #[Value.slice none 0 0, .slice none 0 0] 44)
  have b3' := allocRow w3 (Obj.cells #[Value.slice none 0 0, .slice none 0 0] 44) b3
  have x3' := allocRow w3 (Obj.cells #[Value.slice none 0 0, .slice none 0 0] 44) x3
  have B3' := below_trans B3 (below_new w3 (Obj.cells #[Value.slice none 0 0, .slice none 0 0] 44))
  refine (wordBegun_any (Ht.out.below B3')).mono ?_
  rintro e w4 ⟨rfl, hb4⟩
  have B4 := below_trans B3' hb4
  have b4 := belowRow hb4 b3'
  have x4 := belowRow hb4 x3'
  have y4 := belowRow hb4 y3
  clear hb4 b3 b3' x3 x3' y3 B3 B3'
  have p0 := cell_of_row w4 _ 0 _ _ _ b4
  have p1 := cell_of_row w4 _ 1 _ _ _ b4
  go_wp2_with (fail)
  clear p0 p1
  refine (H4.out _ B4).mono ?_
  rintro e w5 ⟨rfl, hb5⟩
  have B5 := below_trans B4 hb5
  have x5 := belowRow hb5 x4
  have y5 := belowRow hb5 y4
  clear hb5 b4 x4 y4 B4
  have q0 := cell_of_row w5 _ 0 _ _ _ x5
  have q1 := cell_of_row w5 _ 1 _ _ _ x5
  have r0 := cell_of_row w5 _ 0 _ _ _ y5
  have r1 := cell_of_row w5 _ 1 _ _ _ y5
  go_wp2_with (fail)
  clear q0 q1 r0 r1
  refine (sameLasso_any (intSl_nil w5) (intSl_nil w5) (intSl_nil w5) (intSl_nil w5)).mono ?_
  rintro e w6 ⟨rfl, hb6⟩
  have B6 := below_trans B5 hb6
  clear hb6 x5 y5 B5
  have et : decide (([] : List Int) = [] ∧ ([] : List Int) = []) = true := by decide
  rw [et]
  go_wp2
  go_ret
  exact ⟨rfl, B6⟩

theorem IntSl.put {w : World} {v : Value} {zs : List Int} (h : IntSl w v zs) {y : Nat} {p0 p1 : Option Addr} {q0 q1 s0 s1 : Nat} {t : TypeId} (hy : w.heap[y]? = some (.cells #[.slice p0 q0 s0, .slice p1 q1 s1] t)) (z0 z1 : Value) : IntSl ((w.setCell ⟨y, 0, none⟩ z0).setCell ⟨y, 1, none⟩ z1) v zs := by
  obtain ⟨a, cap, rfl, hm, h, hn⟩ := h
  refine ⟨a, cap, rfl, hm, ?_, hn⟩
  rcases h with h | ⟨b, off, rfl, hc⟩
  · exact Or.inl h
  · refine Or.inr ⟨b, off, rfl, fun i hi => ?_⟩
    have h1 := hc i hi
    have hne : b ≠ y := by
      rintro rfl
      rw [cell_of_row w b (off + i) _ _ _ hy] at h1
      match off + i, h1 with
      | 0, h1 => simp at h1
      | 1, h1 => simp at h1
      | k + 2, h1 => simp at h1
    rw [World.cell?_setCell_other _ _ _ _ (fun e => hne (congrArg Addr.block e).symm), World.cell?_setCell_other _ _ _ _ (fun e => hne (congrArg Addr.block e).symm)]
    exact h1

theorem putRow {w : World} {y : Nat} {u0 u1 : Value} {t : TypeId} (hy : w.heap[y]? = some (.cells #[u0, u1] t)) (z0 z1 : Value) : ((w.setCell ⟨y, 0, none⟩ z0).setCell ⟨y, 1, none⟩ z1).heap[y]? = some (.cells #[z0, z1] t) := by
  simpa using heap_setCell_row 1 z1 (heap_setCell_row 0 z0 hy)

theorem putOther {w : World} {y b : Nat} {o : Obj} (z0 z1 : Value) (hb : w.heap[b]? = some o) (hne : b ≠ y) : ((w.setCell ⟨y, 0, none⟩ z0).setCell ⟨y, 1, none⟩ z1).heap[b]? = some o := by
  rw [heap_setCell_other _ _ _ _ hne, heap_setCell_other _ _ _ _ hne]
  exact hb

theorem least_good2 {w : World} {hv lv : Value} {hs ls : List Int} (hh : IntSl w hv hs) (hl : IntSl w lv ls) (n : Int) (h : chk hs ls n = 0) :
    Calls Tryd.prog 24 #[.agg #[hv, lv], .int .i64 n] w fun e w' => ∃ d1 n1 e1 d2 n2 e2 p k, e = .returned (.tuple #[.agg #[.slice d1 n1 e1, .slice d2 n2 e2], .int .i64 0]) ∧ LeastPer ls p ∧ LeastHead hs ls p k ∧ IntSl w' (.slice d1 n1 e1) (pieceOf hs ls 0 k) ∧ IntSl w' (.slice d2 n2 e2) (pieceOf hs ls k p) ∧ Below w.heap.size w w' := by
  refine (least_good hh hl n h).mono ?_
  rintro e w' ⟨v1, v2, p, k, rfl, hp, hk, i1, i2, hb⟩
  obtain ⟨d1, e1, f1⟩ := i1.form rfl
  obtain ⟨d2, e2, f2⟩ := i2.form rfl
  subst f1 f2
  exact ⟨d1, _, e1, d2, _, e2, p, k, rfl, hp, hk, i1, i2, hb⟩

theorem leastOf2 {w : World} {hv lv : Value} {hs ls : List Int} (hh : IntSl w hv hs) (hl : IntSl w lv ls) (n : Int) (h : chk hs ls n = 0) :
    Calls Tryd.prog 27 #[.agg #[hv, lv]] w fun e w' => ∃ d1 n1 e1 d2 n2 e2 p k, e = .returned (.agg #[.slice d1 n1 e1, .slice d2 n2 e2]) ∧ LeastShift hs ls p ∧ LeastHead hs ls p k ∧ IntSl w' (.slice d1 n1 e1) (pieceOf hs ls 0 k) ∧ IntSl w' (.slice d2 n2 e2) (pieceOf hs ls k p) ∧ Below w.heap.size w w' := by
  obtain ⟨h1, h2, h3, _, _⟩ := chk_zero h
  refine (leastOf_any hh hl h1 h2 h3).mono ?_
  rintro e w' ⟨v1, v2, p, k, rfl, hp, hk, i1, i2, hb⟩
  obtain ⟨d1, e1, f1⟩ := i1.form rfl
  obtain ⟨d2, e2, f2⟩ := i2.form rfl
  subst f1 f2
  exact ⟨d1, _, e1, d2, _, e2, p, k, rfl, hp, hk, i1, i2, hb⟩

set_option maxRecDepth 100000 in
set_option maxHeartbeats 2000000 in
theorem wordTells_neg {w : World} {hv lv : Value} {hs ls : List Int} (n i : Int) (hh : IntSl w hv hs) (hl : IntSl w lv ls) (ht : Tab w) (hc : chk hs ls n = 0) (hi : i < 0) :
    Calls Tryd.prog 6 #[.agg #[hv, lv], .int .i64 n, .int .i64 i] w fun e w' => e = .returned (.bool true) ∧ Below w.heap.size w w' := by
  have hne : ls ≠ [] := List.length_pos_iff.1 (chk_zero hc).2.2.1
  have Ht := hide ht
  have H1 := hide (fun w1 (hb : Below w.heap.size w w1) => least_good2 (hh.below hb) (hl.below hb) n hc)
  have H2 := hide (fun w1 (hb : Below w.heap.size w w1) => at_neg (hh.below hb) (hl.below hb) n i hc hi)
  have H3 := hide (fun w1 (hb : Below w.heap.size w w1) => checkLasso_any n (hh.below hb) (hl.below hb))
  have H4 := hide (fun w1 (hb : Below w.heap.size w w1) => check_any n (hh.below hb) (hl.below hb))
  have H5 := hide (fun w1 (hb : Below w.heap.size w w1) => leastOf2 (hh.below hb) (hl.below hb) n hc)
  rw [hc] at H3 H4
  obtain ⟨a0, c0, rfl, -⟩ := hh
  obtain ⟨a1, c1, rfl, -⟩ := hl
  clear ht hne
  generalize hs.length = L0 at *
  generalize ls.length = L1 at *
  go_enter Tryd.func6, Tryd.ntmps6
  go_wp2_with (fail)
  have b0 := one_new w (Obj.cells #[Value.slice a0 L0 c0, .slice a1 L1 c1] 44)
  have B0 := below_new w (Obj.cells #[Value.slice a0 L0 c0, .slice a1 L1 c1] 44)
  refine (H1.out _ B0).mono ?_
  rintro e w1 ⟨d1, n1, e1, d2, n2, e2, p, k, rfl, hp, hk, i1, i2, hb1⟩
  have Hpk := hide (And.intro hp hk)
  have B1 := below_trans B0 hb1
  have b1 := belowRow hb1 b0
  have I1 := hide i1
  have I2 := hide i2
  clear hb1 b0 B0 hp hk i1 i2
  have p0 := cell_of_row w1 _ 0 _ _ _ b1
  have p1 := cell_of_row w1 _ 1 _ _ _ b1
  have hw1 := (Array.getElem?_eq_some_iff.1 b1).1
  go_wp2_with (fail)
  clear p0 p1
  have x1 := one_new w1 (Obj.cells #[Value.slice d1 n1 e1, .slice d2 n2 e2] 44)
  have b1' := allocRow w1 (Obj.cells #[Value.slice d1 n1 e1, .slice d2 n2 e2] 44) b1
  have B11 := below_new w1 (Obj.cells #[Value.slice d1 n1 e1, .slice d2 n2 e2] 44)
  have B1' := below_trans B1 B11
  refine (H2.out _ B1').mono ?_
  rintro e w2 ⟨rfl, hb2⟩
  have B2 := below_trans B1' hb2
  have C2 := below_trans B11 hb2
  have b2 := belowRow hb2 b1'
  have x2 := belowRow hb2 x1
  clear hb2 b1 b1' x1 B1 B1' B11
  have p0 := cell_of_row w2 _ 0 _ _ _ b2
  have p1 := cell_of_row w2 _ 1 _ _ _ b2
  go_wp2_with (fail)
  clear p0 p1
  refine (H3.out _ B2).mono ?_
  rintro e w3 ⟨rfl, hb3⟩
  have B3 := below_trans B2 hb3
  have C3 := below_trans C2 hb3
  have b3 := belowRow hb3 b2
  have x3 := belowRow hb3 x2
  have hxl := (Array.getElem?_eq_some_iff.1 x3).1
  have hbl := (Array.getElem?_eq_some_iff.1 b3).1
  clear hb3 b2 x2 B2 C2
  have p0 := cell_of_row w3 _ 0 _ _ _ b3
  have p1 := cell_of_row w3 _ 1 _ _ _ b3
  go_wp2_with (fail)
  clear p0 p1
  have y3 := one_new w3 (Obj.cells #[Value.slice none 0 0, .slice none 0 0] 44)
  have b3' := allocRow w3 (Obj.cells #[Value.slice none 0 0, .slice none 0 0] 44) b3
  have x3' := allocRow w3 (Obj.cells #[Value.slice none 0 0, .slice none 0 0] 44) x3
  have B33 := below_new w3 (Obj.cells #[Value.slice none 0 0, .slice none 0 0] 44)
  have B3' := below_trans B3 B33
  refine (H5.out _ B3').mono ?_
  rintro e w4 ⟨f1, m1, g1, f2, m2, g2, p', k', rfl, hp', hk', j1, j2, hb4⟩
  have Hpk' := hide (And.intro hp' hk')
  have B4 := below_trans B3' hb4
  have C4 := below_trans (below_trans C3 B33) hb4
  have b4 := belowRow hb4 b3'
  have x4 := belowRow hb4 x3'
  have y4 := belowRow hb4 y3
  have J1 := hide j1
  have J2 := hide j2
  clear hb4 b3 b3' x3 x3' y3 B3 B3' B33 hp' hk' j1 j2 C3
  have s0 := cell_of_row w4 _ 0 _ _ _ y4
  have s1 := cell_of_row w4 _ 1 _ _ _ y4
  have sf : ∀ i, w4.frozen? ⟨w3.heap.size, i, none⟩ = false := fun i => by simp [World.frozen?, y4]
  have b5 := putOther (.slice f1 m1 g1) (.slice f2 m2 g2) b4 (show w.heap.size ≠ w3.heap.size by omega)
  have x5 := putOther (.slice f1 m1 g1) (.slice f2 m2 g2) x4 (show w1.heap.size ≠ w3.heap.size by omega)
  have y5 := putRow y4 (.slice f1 m1 g1) (.slice f2 m2 g2)
  have B5 : Below w.heap.size w ((w4.setCell ⟨w3.heap.size, 0, none⟩ (.slice f1 m1 g1)).setCell ⟨w3.heap.size, 1, none⟩ (.slice f2 m2 g2)) := (B4.setCell (by dsimp only; omega) _).setCell (by dsimp only; omega) _
  have I5 := hide ((I1.out.below C4).put y4 (.slice f1 m1 g1) (.slice f2 m2 g2))
  have I6 := hide ((I2.out.below C4).put y4 (.slice f1 m1 g1) (.slice f2 m2 g2))
  have J5 := hide (J1.out.put y4 (.slice f1 m1 g1) (.slice f2 m2 g2))
  have J6 := hide (J2.out.put y4 (.slice f1 m1 g1) (.slice f2 m2 g2))
  generalize hW5 : ((w4.setCell ⟨w3.heap.size, 0, none⟩ (.slice f1 m1 g1)).setCell ⟨w3.heap.size, 1, none⟩ (.slice f2 m2 g2)) = w5 at b5 x5 y5 B5 I5 I6 J5 J6
  clear b4 x4 y4 B4 C4 I1 I2 J1 J2
  have p0 := cell_of_row w5 _ 0 _ _ _ b5
  have p1 := cell_of_row w5 _ 1 _ _ _ b5
  go_wp2_with (fail)
  try rw [hW5]
  clear hW5
  clear p0 p1 s0 s1 sf
  refine (wordBegun_any (Ht.out.below B5)).mono ?_
  rintro e w7 ⟨rfl, hb7⟩
  have B7 := below_trans B5 hb7
  have b7 := belowRow hb7 b5
  have x7 := belowRow hb7 x5
  have y7 := belowRow hb7 y5
  have p0 := cell_of_row w7 _ 0 _ _ _ b7
  have p1 := cell_of_row w7 _ 1 _ _ _ b7
  go_wp2_with (fail)
  clear p0 p1
  refine (H4.out _ B7).mono ?_
  rintro e w8 ⟨rfl, hb8⟩
  have B8 := below_trans B7 hb8
  have x8 := belowRow hb8 x7
  have y8 := belowRow hb8 y7
  have q0 := cell_of_row w8 _ 0 _ _ _ x8
  have q1 := cell_of_row w8 _ 1 _ _ _ x8
  have r0 := cell_of_row w8 _ 0 _ _ _ y8
  have r1 := cell_of_row w8 _ 1 _ _ _ y8
  have C8 := below_trans hb7 hb8
  go_wp2_with (fail)
  clear q0 q1 r0 r1
  have hS := sameLasso_any (I5.out.below C8) (I6.out.below C8) (J5.out.below C8) (J6.out.below C8)
  have hpq := leasts_same Hpk.out.1 Hpk.out.2 Hpk'.out.1 Hpk'.out.2
  have et : decide (pieceOf hs ls 0 k = pieceOf hs ls 0 k' ∧ pieceOf hs ls k p = pieceOf hs ls k' p') = true := decide_eq_true hpq
  rw [et] at hS
  clear et hpq
  refine hS.mono ?_
  rintro e w9 ⟨rfl, hb9⟩
  have B9 := below_trans B8 hb9
  clear hS hb9 hb8 hb7 x8 y8 x7 y7 b7 C8
  go_wp2
  go_ret
  exact ⟨rfl, B9⟩

set_option maxRecDepth 100000 in
set_option maxHeartbeats 2000000 in
theorem wordTells_good {w : World} {hv lv : Value} {hs ls : List Int} (n i : Int) (hh : IntSl w hv hs) (hl : IntSl w lv ls) (ht : Tab w) (hc : chk hs ls n = 0) (hi : 0 ≤ i) (hi' : i ≤ 9223372036854775807) :
    Calls Tryd.prog 6 #[.agg #[hv, lv], .int .i64 n, .int .i64 i] w fun e w' => e = .returned (.bool true) ∧ Below w.heap.size w w' := by
  have hne : ls ≠ [] := List.length_pos_iff.1 (chk_zero hc).2.2.1
  have Ht := hide ht
  have H1 := hide (fun w1 (hb : Below w.heap.size w w1) => least_good2 (hh.below hb) (hl.below hb) n hc)
  have H2 := hide (fun w1 (hb : Below w.heap.size w w1) => at_good (hh.below hb) (hl.below hb) hne n i hc hi hi')
  have H3 := hide (fun w1 (hb : Below w.heap.size w w1) => checkLasso_any n (hh.below hb) (hl.below hb))
  have H4 := hide (fun w1 (hb : Below w.heap.size w w1) => check_any n (hh.below hb) (hl.below hb))
  have H5 := hide (fun w1 (hb : Below w.heap.size w w1) => leastOf2 (hh.below hb) (hl.below hb) n hc)
  have H6 := hide (fun w1 (hb : Below w.heap.size w w1) => letterAtR_any (hh.below hb) (hl.below hb) i hi hi' hne)
  rw [hc] at H3 H4
  obtain ⟨a0, c0, rfl, -⟩ := hh
  obtain ⟨a1, c1, rfl, -⟩ := hl
  clear ht hne
  generalize lat hs ls i.toNat = z at *
  have hd : decide (i < 0) = false := by simp; omega
  have hi0 : ¬ i < 0 := by omega
  generalize hs.length = L0 at *
  generalize ls.length = L1 at *
  go_enter Tryd.func6, Tryd.ntmps6
  go_wp2_with (fail)
  have b0 := one_new w (Obj.cells #[Value.slice a0 L0 c0, .slice a1 L1 c1] 44)
  have B0 := below_new w (Obj.cells #[Value.slice a0 L0 c0, .slice a1 L1 c1] 44)
  refine (H1.out _ B0).mono ?_
  rintro e w1 ⟨d1, n1, e1, d2, n2, e2, p, k, rfl, hp, hk, i1, i2, hb1⟩
  have Hpk := hide (And.intro hp hk)
  have B1 := below_trans B0 hb1
  have b1 := belowRow hb1 b0
  have I1 := hide i1
  have I2 := hide i2
  clear hb1 b0 B0 hp hk i1 i2
  have p0 := cell_of_row w1 _ 0 _ _ _ b1
  have p1 := cell_of_row w1 _ 1 _ _ _ b1
  have hw1 := (Array.getElem?_eq_some_iff.1 b1).1
  go_wp2_with (fail)
  clear p0 p1
  have x1 := one_new w1 (Obj.cells #[Value.slice d1 n1 e1, .slice d2 n2 e2] 44)
  have b1' := allocRow w1 (Obj.cells #[Value.slice d1 n1 e1, .slice d2 n2 e2] 44) b1
  have B11 := below_new w1 (Obj.cells #[Value.slice d1 n1 e1, .slice d2 n2 e2] 44)
  have B1' := below_trans B1 B11
  refine (H2.out _ B1').mono ?_
  rintro e w2 ⟨rfl, hb2⟩
  have B2 := below_trans B1' hb2
  have C2 := below_trans B11 hb2
  have b2 := belowRow hb2 b1'
  have x2 := belowRow hb2 x1
  clear hb2 b1 b1' x1 B1 B1' B11
  have p0 := cell_of_row w2 _ 0 _ _ _ b2
  have p1 := cell_of_row w2 _ 1 _ _ _ b2
  go_wp2_with (fail)
  clear p0 p1
  refine (H3.out _ B2).mono ?_
  rintro e w3 ⟨rfl, hb3⟩
  have B3 := below_trans B2 hb3
  have C3 := below_trans C2 hb3
  have b3 := belowRow hb3 b2
  have x3 := belowRow hb3 x2
  have hxl := (Array.getElem?_eq_some_iff.1 x3).1
  have hbl := (Array.getElem?_eq_some_iff.1 b3).1
  clear hb3 b2 x2 B2 C2
  have p0 := cell_of_row w3 _ 0 _ _ _ b3
  have p1 := cell_of_row w3 _ 1 _ _ _ b3
  go_wp2_with (fail)
  clear p0 p1
  have y3 := one_new w3 (Obj.cells #[Value.slice none 0 0, .slice none 0 0] 44)
  have b3' := allocRow w3 (Obj.cells #[Value.slice none 0 0, .slice none 0 0] 44) b3
  have x3' := allocRow w3 (Obj.cells #[Value.slice none 0 0, .slice none 0 0] 44) x3
  have B33 := below_new w3 (Obj.cells #[Value.slice none 0 0, .slice none 0 0] 44)
  have B3' := below_trans B3 B33
  refine (H5.out _ B3').mono ?_
  rintro e w4 ⟨f1, m1, g1, f2, m2, g2, p', k', rfl, hp', hk', j1, j2, hb4⟩
  have Hpk' := hide (And.intro hp' hk')
  have B4 := below_trans B3' hb4
  have C4 := below_trans (below_trans C3 B33) hb4
  have b4 := belowRow hb4 b3'
  have x4 := belowRow hb4 x3'
  have y4 := belowRow hb4 y3
  have J1 := hide j1
  have J2 := hide j2
  clear hb4 b3 b3' x3 x3' y3 B3 B3' B33 hp' hk' j1 j2 C3
  have s0 := cell_of_row w4 _ 0 _ _ _ y4
  have s1 := cell_of_row w4 _ 1 _ _ _ y4
  have sf : ∀ i, w4.frozen? ⟨w3.heap.size, i, none⟩ = false := fun i => by simp [World.frozen?, y4]
  have b5 := putOther (.slice f1 m1 g1) (.slice f2 m2 g2) b4 (show w.heap.size ≠ w3.heap.size by omega)
  have x5 := putOther (.slice f1 m1 g1) (.slice f2 m2 g2) x4 (show w1.heap.size ≠ w3.heap.size by omega)
  have y5 := putRow y4 (.slice f1 m1 g1) (.slice f2 m2 g2)
  have B5 : Below w.heap.size w ((w4.setCell ⟨w3.heap.size, 0, none⟩ (.slice f1 m1 g1)).setCell ⟨w3.heap.size, 1, none⟩ (.slice f2 m2 g2)) := (B4.setCell (by dsimp only; omega) _).setCell (by dsimp only; omega) _
  have I5 := hide ((I1.out.below C4).put y4 (.slice f1 m1 g1) (.slice f2 m2 g2))
  have I6 := hide ((I2.out.below C4).put y4 (.slice f1 m1 g1) (.slice f2 m2 g2))
  have J5 := hide (J1.out.put y4 (.slice f1 m1 g1) (.slice f2 m2 g2))
  have J6 := hide (J2.out.put y4 (.slice f1 m1 g1) (.slice f2 m2 g2))
  generalize hW5 : ((w4.setCell ⟨w3.heap.size, 0, none⟩ (.slice f1 m1 g1)).setCell ⟨w3.heap.size, 1, none⟩ (.slice f2 m2 g2)) = w5 at b5 x5 y5 B5 I5 I6 J5 J6
  clear b4 x4 y4 B4 C4 I1 I2 J1 J2
  have p0 := cell_of_row w5 _ 0 _ _ _ b5
  have p1 := cell_of_row w5 _ 1 _ _ _ b5
  go_wp2_with (fail)
  try rw [hW5]
  clear hW5
  clear p0 p1 s0 s1 sf
  refine (H6.out _ B5).mono ?_
  rintro e w6 ⟨rfl, hb6⟩
  have B6 := below_trans B5 hb6
  have b6 := belowRow hb6 b5
  have x6 := belowRow hb6 x5
  have y6 := belowRow hb6 y5
  have I7 := hide (I5.out.below hb6)
  have I8 := hide (I6.out.below hb6)
  have J7 := hide (J5.out.below hb6)
  have J8 := hide (J6.out.below hb6)
  clear hb6 b5 x5 y5 B5 I5 I6 J5 J6
  go_wp2_with (fail)
  refine (wordBegun_any (Ht.out.below B6)).mono ?_
  rintro e w7 ⟨rfl, hb7⟩
  have B7 := below_trans B6 hb7
  have b7 := belowRow hb7 b6
  have x7 := belowRow hb7 x6
  have y7 := belowRow hb7 y6
  have p0 := cell_of_row w7 _ 0 _ _ _ b7
  have p1 := cell_of_row w7 _ 1 _ _ _ b7
  go_wp2_with (fail)
  clear p0 p1
  refine (H4.out _ B7).mono ?_
  rintro e w8 ⟨rfl, hb8⟩
  have B8 := below_trans B7 hb8
  have x8 := belowRow hb8 x7
  have y8 := belowRow hb8 y7
  have q0 := cell_of_row w8 _ 0 _ _ _ x8
  have q1 := cell_of_row w8 _ 1 _ _ _ x8
  have r0 := cell_of_row w8 _ 0 _ _ _ y8
  have r1 := cell_of_row w8 _ 1 _ _ _ y8
  have C8 := below_trans hb7 hb8
  go_wp2_with (fail)
  clear q0 q1 r0 r1
  have hS := sameLasso_any (I7.out.below C8) (I8.out.below C8) (J7.out.below C8) (J8.out.below C8)
  have hpq := leasts_same Hpk.out.1 Hpk.out.2 Hpk'.out.1 Hpk'.out.2
  have et : decide (pieceOf hs ls 0 k = pieceOf hs ls 0 k' ∧ pieceOf hs ls k p = pieceOf hs ls k' p') = true := decide_eq_true hpq
  rw [et] at hS
  clear et hpq
  refine hS.mono ?_
  rintro e w9 ⟨rfl, hb9⟩
  have B9 := below_trans B8 hb9
  clear hS hb9 hb8 hb7 x8 y8 x7 y7 b7 C8
  go_wp2
  go_ret
  exact ⟨rfl, B9⟩

theorem wordTells_any {w : World} {hv lv : Value} {hs ls : List Int} (n i : Int) (hh : IntSl w hv hs) (hl : IntSl w lv ls) (ht : Tab w) (hi : i ≤ 9223372036854775807) :
    Calls Tryd.prog 6 #[.agg #[hv, lv], .int .i64 n, .int .i64 i] w fun e w' => e = .returned (.bool true) ∧ Below w.heap.size w w' := by
  by_cases hc : chk hs ls n = 0
  · by_cases h0 : i < 0
    · exact wordTells_neg n i hh hl ht hc h0
    · exact wordTells_good n i hh hl ht hc (by omega) hi
  · exact wordTells_bad n i hh hl ht hc
end Go.Proofs.YtpiacnnifdjlkaaDoor
