/-
  An automaton whose rows are the call's own; a struct of five stored.
-/
import Derived.Test.YtpiacnnifdjlkabDoorRt
import Derived.Shelf.SlSortCmp.WholeK
import Derived.Shelf.SlSortCmp.NoneTotal
import Derived.Ground.SlsfProg
/-
  What slices.SortFunc does with steps: they come in order.
-/
namespace Go.Proofs
open Go.Shelf Go.RowKit Go.Lib Go.Sort

def YtpiacnnifdjlkabDoor.laysSort_ren : Go.Shelf.Ren := ⟨fun | 6 => 74 | 15 => 96 | 14 => 95 | 28 => 110 | 29 => 111 | 20 => 102 | 21 => 103 | 22 => 104 | 23 => 105 | 24 => 106 | 25 => 107 | 26 => 108 | 27 => 109 | 46 => 114 | 47 => 115 | 48 => 116 | 49 => 117 | 50 => 118 | 57 => 119 | n => n, fun | 22 => 24 | 24 => 49 | 25 => 128 | 3 => 3 | 39 => 154 | 0 => 0 | 53 => 167 | 55 => 86 | 4 => 4 | 46 => 161 | 45 => 160 | 50 => 125 | 5 => 5 | 9 => 9 | 66 => 170 | 70 => 174 | 76 => 177 | 77 => 178 | n => n, fun | n => n⟩
theorem YtpiacnnifdjlkabDoor.laysSort : Go.Proofs.SlLaysF0.n6 Tryd.prog YtpiacnnifdjlkabDoor.laysSort_ren := {
  mixed := by kernel_rfl
  f6 := ⟨Tryd.f74.name, by decide, Tryd.func74.trans (congrArg some (by kernel_rfl))⟩
  f14 := ⟨Tryd.f95.name, by decide, Tryd.func95.trans (congrArg some (by kernel_rfl))⟩
  f15 := Tryd.func96.trans (congrArg some (by kernel_rfl))
  f20 := ⟨Tryd.f102.name, by decide, Tryd.func102.trans (congrArg some (by kernel_rfl))⟩
  f21 := ⟨Tryd.f103.name, by decide, Tryd.func103.trans (congrArg some (by kernel_rfl))⟩
  f22 := ⟨Tryd.f104.name, by decide, Tryd.func104.trans (congrArg some (by kernel_rfl))⟩
  f23 := ⟨Tryd.f105.name, by decide, Tryd.func105.trans (congrArg some (by kernel_rfl))⟩
  f24 := ⟨Tryd.f106.name, by decide, Tryd.func106.trans (congrArg some (by kernel_rfl))⟩
  f25 := ⟨Tryd.f107.name, by decide, Tryd.func107.trans (congrArg some (by kernel_rfl))⟩
  f26 := ⟨Tryd.f108.name, by decide, Tryd.func108.trans (congrArg some (by kernel_rfl))⟩
  f27 := ⟨Tryd.f109.name, by decide, Tryd.func109.trans (congrArg some (by kernel_rfl))⟩
  f28 := Tryd.func110.trans (congrArg some (by kernel_rfl))
  f29 := Tryd.func111.trans (congrArg some (by kernel_rfl))
  f46 := ⟨Tryd.f114.name, by decide, Tryd.func114.trans (congrArg some (by kernel_rfl))⟩
  f47 := Tryd.func115.trans (congrArg some (by kernel_rfl))
  f48 := Tryd.func116.trans (congrArg some (by kernel_rfl))
  f49 := ⟨Tryd.f117.name, by decide, Tryd.func117.trans (congrArg some (by kernel_rfl))⟩
  f50 := ⟨Tryd.f118.name, by decide, Tryd.func118.trans (congrArg some (by kernel_rfl))⟩
  f57 := ⟨Tryd.f119.name, by decide, Tryd.func119.trans (congrArg some (by kernel_rfl))⟩
  t0 := Tryd.underlying0
  a0 := Tryd.isAgg0
  z0 := Tryd.sizeOf0
  v0 := Tryd.zeroValue0
  t3 := Tryd.underlying3
  a3 := Tryd.isAgg3
  z3 := Tryd.sizeOf3
  v3 := Tryd.zeroValue3
  t4 := Tryd.underlying4
  a4 := Tryd.isAgg4
  z4 := Tryd.sizeOf4
  v4 := Tryd.zeroValue4
  t5 := Tryd.underlying5
  a5 := Tryd.isAgg5
  z5 := Tryd.sizeOf5
  v5 := Tryd.zeroValue5
  t9 := Tryd.underlying9
  a9 := Tryd.isAgg9
  z9 := Tryd.sizeOf9
  v9 := Tryd.zeroValue9
  t22 := Tryd.underlying24
  a22 := Tryd.isAgg24
  z22 := Tryd.sizeOf24
  v22 := Tryd.zeroValue24
  t25 := Tryd.underlying128
  a25 := Tryd.isAgg128
  z25 := Tryd.sizeOf128
  v25 := Tryd.zeroValue128
  t39 := Tryd.underlying154
  a39 := Tryd.isAgg154
  z39 := Tryd.sizeOf154
  v39 := Tryd.zeroValue154
  t45 := Tryd.underlying160
  a45 := Tryd.isAgg160
  z45 := Tryd.sizeOf160
  v45 := Tryd.zeroValue160
  t46 := Tryd.underlying161
  a46 := Tryd.isAgg161
  z46 := Tryd.sizeOf161
  v46 := Tryd.zeroValue161
  t50 := Tryd.underlying125
  a50 := Tryd.isAgg125
  z50 := Tryd.sizeOf125
  v50 := Tryd.zeroValue125
  t53 := Tryd.underlying167
  a53 := Tryd.isAgg167
  z53 := Tryd.sizeOf167
  v53 := Tryd.zeroValue167
  t55 := Tryd.underlying86
  a55 := Tryd.isAgg86
  z55 := Tryd.sizeOf86
  v55 := Tryd.zeroValue86
  t66 := Tryd.underlying170
  a66 := Tryd.isAgg170
  z66 := Tryd.sizeOf170
  v66 := Tryd.zeroValue170
  t70 := Tryd.underlying174
  a70 := Tryd.isAgg174
  z70 := Tryd.sizeOf174
  v70 := Tryd.zeroValue174
  t76 := Tryd.underlying177
  a76 := Tryd.isAgg177
  z76 := Tryd.sizeOf177
  v76 := Tryd.zeroValue177
  t77 := Tryd.underlying178
  a77 := Tryd.isAgg178
  z77 := Tryd.sizeOf178
  v77 := Tryd.zeroValue178 }
end Go.Proofs
namespace Go.Proofs.YtpiacnnifdjlkabDoor
open Go.RowKit Go.Sort Go.Shelf

theorem three_grown (w : World) (a b c : Obj) : (((w.alloc a).alloc b).alloc c).drew = grow (w.drewN 1) #[a, b, c] := by
  rw [alloc_eq_grow, alloc_eq_grow, alloc_eq_grow, grow_grow, grow_grow]
  rfl

set_option maxRecDepth 100000 in
set_option maxHeartbeats 1000000 in
theorem order_grown (a b : Stp) (w : World) :
    Calls Tryd.prog 75 #[.agg #[.int .i64 a.f, .int .i64 a.l, .int .i64 a.t], .agg #[.int .i64 b.f, .int .i64 b.l, .int .i64 b.t]] w fun e w' => e = .returned (.int .i64 (ordS a b)) ∧ ∃ q os', w' = grow (w.drewN q) os' := by
  obtain ⟨af, al, at_⟩ := a
  obtain ⟨bf, bl, bt⟩ := b
  dsimp only [ordS]
  go_enter Tryd.func75, Tryd.ntmps75
  go_wp2_with (fail)
  go_region_held3 (fun w' => w'.cell? ⟨w.heap.size, 0, none⟩ = some (.int .i64 af) ∧ w'.cell? ⟨w.heap.size, 1, none⟩ = some (.int .i64 al) ∧ w'.cell? ⟨w.heap.size, 2, none⟩ = some (.int .i64 at_) ∧ w'.cell? ⟨w.heap.size + 1, 0, none⟩ = some (.int .i64 bf) ∧ w'.cell? ⟨w.heap.size + 1, 1, none⟩ = some (.int .i64 bl) ∧ w'.cell? ⟨w.heap.size + 1, 2, none⟩ = some (.int .i64 bt)) (go_keep) (first | (go_at_call 79; refine (compare_any _ _ _).mono ?_; rintro e w' ⟨rfl, rfl⟩) | (go_at_call 97; refine (or_any _ (cmpI af bf) (cmpI al bl) (cmpI at_ bt) _ ?_ ?_ ?_).mono ?_; exact cell_three _ _ _ _ _ 0; exact cell_three _ _ _ _ _ 1; exact cell_three _ _ _ _ _ 2; rintro e w' ⟨rfl, rfl⟩))
  go_wp2
  go_ret
  exact ⟨rfl, 1, #[_, _, _], three_grown _ _ _ _⟩

def encS (s : Stp) : List Value := [.int .i64 s.f, .int .i64 s.l, .int .i64 s.t]

theorem stepCells_at {ss : List Stp} {t : Nat} (h : t < ss.length * 3) : (stepCells ss)[t]? = (encS (ss.getD (t / 3) stp0))[t % 3]? := by
  obtain ⟨h0, h1, h2⟩ := stepCells_get ss (t / 3) (by omega)
  have hm : t % 3 = 0 ∨ t % 3 = 1 ∨ t % 3 = 2 := by omega
  rcases hm with hm | hm | hm <;> rw [hm]
  · rw [show t = t / 3 * 3 by omega]; rw [show t / 3 * 3 / 3 = t / 3 by omega]; exact h0
  · rw [show t = t / 3 * 3 + 1 by omega]; rw [show (t / 3 * 3 + 1) / 3 = t / 3 by omega]; exact h1
  · rw [show t = t / 3 * 3 + 2 by omega]; rw [show (t / 3 * 3 + 2) / 3 = t / 3 by omega]; exact h2

theorem ordS_lt (x y : Stp) : (ordS x y < 0) ↔ (x.f < y.f ∨ x.f = y.f ∧ (x.l < y.l ∨ x.l = y.l ∧ x.t < y.t)) := by
  unfold ordS orI cmpI
  by_cases h1 : x.f < y.f
  · simp [h1]
  by_cases h2 : y.f < x.f
  · simp [h1, h2]; omega
  have e1 : x.f = y.f := by omega
  by_cases h3 : x.l < y.l
  · simp [e1, h3]
  by_cases h4 : y.l < x.l
  · simp [e1, h3, h4]; omega
  have e2 : x.l = y.l := by omega
  by_cases h5 : x.t < y.t
  · simp [e1, e2, h5]
  by_cases h6 : y.t < x.t
  · simp [e1, e2, h5, h6]
  simp [e1, e2, h5, h6]

set_option maxHeartbeats 1000000 in
theorem sort_any {W : World} {base : Nat} {sv : Value} {ss : List Stp} (ho : W.ownsRow base 49 3 sv ss.length (stepCells ss)) (hlen : ss.length ≤ 900001) :
    Calls Tryd.prog 74 #[sv, .func (.func 75) #[] #[]] W fun e W' => e = .returned (.tuple #[]) ∧ ∃ ss', ss'.Perm ss ∧ ss'.Pairwise (fun a b => ¬ ordS b a < 0) ∧ W'.ownsRow base 49 3 sv ss'.length (stepCells ss') ∧ W.grownBy W' sv.ownBlock := by
  rcases ho.2 with ⟨rfl, h0⟩ | ⟨g, cap, cur, rfl, hb, hg, hnc, hcm, hcs, ht⟩
  · have hss : ss = [] := List.eq_nil_of_length_eq_zero (by omega)
    subst hss
    refine (AnyF.slices_SortFunc_none { laysSort with } none 0 _ W).mono ?_
    rintro e W' ⟨rfl, rfl⟩
    exact ⟨rfl, [], List.Perm.refl _, List.Pairwise.nil, ho, ⟨rfl, rfl, rfl, Nat.le_refl _, fun _ _ _ => rfl⟩⟩
  · letI : Inhabited Stp := ⟨stp0⟩
    have hcur : ∀ t, t < ss.length * 3 → cur[t]? = (stepCells ss)[t]? := fun t h => by
      rw [← ht, List.getElem?_take_of_lt h, Array.getElem?_toList]
    have hat : ∀ (zs : List Stp) (i : Nat), i < zs.length → zs.toArray[i]! = zs.getD i stp0 := fun zs i hi => by
      rw [getElem!_pos _ i (by simpa using hi)]
      simp [List.getD, hi]
    have hflat : ∀ (zs : List Stp) (t : Nat), t < zs.length * 3 → (stepCells zs)[t]? = some ((flatK encS 3 zs.toArray)[t]!) := fun zs t h => by
      rw [get_flatK encS 3 zs.toArray t (by simpa using h), hat zs (t / 3) (by omega), stepCells_at h]
      have hm : t % 3 = 0 ∨ t % 3 = 1 ∨ t % 3 = 2 := by omega
      rcases hm with hm | hm | hm <;> rw [hm] <;> rfl
    have hH : HoldsK encS 3 W g 0 ss.toArray := by
      intro j hj
      have hj' : j < ss.length * 3 := by simpa using hj
      refine ⟨?_, by simp [World.frozen?, hg]⟩
      rw [cell_of_row W g (0 + j) _ _ _ hg, Nat.zero_add, hcur j hj', hflat ss j hj']
      rfl
    have hO : SWO (ltOf ordS) := by
      refine ⟨fun x => ?_, fun x y z h1 h2 => ?_, fun x y z h1 h2 => ?_⟩
      · unfold ltOf; rw [decide_eq_false_iff_not, ordS_lt]; omega
      · unfold ltOf at *; rw [decide_eq_true_iff, ordS_lt] at *; omega
      · unfold ltOf at *; rw [decide_eq_false_iff_not, ordS_lt] at *; omega
    have hcon := AnyQ.slices_SortFunc laysSort 3 Tryd.isAgg49 Tryd.sizeOf49 encS (fun _ => rfl) (fun x v hv => by simp [encS] at hv; rcases hv with rfl | rfl | rfl <;> rfl) ordS hO 75 #[] g 0 cap ss.toArray W (enters_of Tryd.func75 (by kernel_rfl) rfl) (fun _ _ _ _ x y => order_grown x y _) hH (Array.getElem?_eq_some_iff.1 hg).1 (by simp; omega)
    have hsz : ss.toArray.size = ss.length := by simp
    rw [hsz] at hcon
    refine hcon.mono ?_
    rintro e W' ⟨rfl, d', n, os, hp, hs, rfl⟩
    obtain ⟨p1, _, p3⟩ := hp
    have hl' : d'.size = ss.length := by rw [p1]; simp
    have e1 : d'.extract 0 ss.length = d' := by rw [← hl']; simp
    have e2 : ss.toArray.extract 0 ss.length = ss.toArray := by rw [← hsz]; exact Array.extract_size
    rw [e1, e2] at p3
    obtain ⟨zs, rfl⟩ : ∃ zs : List Stp, d' = zs.toArray := ⟨d'.toList, by simp⟩
    have hzl : zs.length = ss.length := by simpa using hl'
    have hgr : W.grownBy (sortWorldK encS 3 W g 0 n zs.toArray os) (some g) := by
      refine ⟨rfl, rfl, rfl, by simp [sortWorldK, putRowK], fun k hk hne => ?_⟩
      unfold sortWorldK putRowK
      rw [heap_grow_old _ _ (by simpa using hk)]
      have : g ≠ k := fun e => hne (by rw [e])
      simp [Go.Sort.putRow, Go.Sort.mapBlock, Go.Sort.ahead, Array.getElem?_modify, this]
    have hh : (sortWorldK encS 3 W g 0 n zs.toArray os).heap[g]? = some (.cells (putCells id 0 (flatK encS 3 zs.toArray) cur) 49) := by
      unfold sortWorldK putRowK
      rw [heap_grow_old _ _ (by simpa using (Array.getElem?_eq_some_iff.1 hg).1)]
      simp [Go.Sort.putRow, Go.Sort.mapBlock, Go.Sort.ahead, Array.getElem?_modify, hg, Go.Sort.onCells]
    refine ⟨rfl, zs, by simpa using p3, ?_, ⟨stepCells_len zs, Or.inr ⟨g, cap, _, by rw [hzl], hb, hh, by rw [hzl]; exact hnc, hcm, by simp [putCells, hcs], ?_⟩⟩, hgr⟩
    · rw [List.pairwise_iff_getElem]
      intro i j hi hj hij
      have h3 := hs i j (Nat.zero_le _) hij (by omega)
      rw [hat zs i hi, hat zs j hj] at h3
      unfold ltOf at h3
      rw [decide_eq_false_iff_not] at h3
      simpa [List.getD, hi, hj] using h3
    · apply List.ext_getElem?
      intro t
      by_cases htl : t < zs.length * 3
      · rw [List.getElem?_take_of_lt htl, Array.getElem?_toList, hflat zs t htl]
        have hcz : t < cur.size := by
          rw [hcs]
          have : zs.length * 3 ≤ cap * 3 := Nat.mul_le_mul_right 3 (by omega)
          omega
        have htl2 : t < (flatK encS 3 zs.toArray).size := by simpa using htl
        simp only [putCells, Array.getElem?_mapIdx, Array.getElem?_eq_getElem hcz, Option.map_some]
        rw [if_pos ⟨Nat.zero_le _, by omega⟩]
        rfl
      · rw [List.getElem?_take_eq_none (by omega), List.getElem?_eq_none (by rw [stepCells_len]; omega)]

end Go.Proofs.YtpiacnnifdjlkabDoor

namespace Go.Proofs.YtpiacnnifdjlkabDoor
open Go.RowKit Go.Sort

theorem owns_lower {w : World} {base base' e sz n : Nat} {v : Value} {xs : List Value} (h : w.ownsRow base' e sz v n xs) (hb : base ≤ base') : w.ownsRow base e sz v n xs := by
  obtain ⟨h1, h2⟩ := h
  refine ⟨h1, ?_⟩
  rcases h2 with h2 | ⟨g, cap, cur, h3, h4, h5⟩
  · exact Or.inl h2
  · exact Or.inr ⟨g, cap, cur, h3, Nat.le_trans hb h4, h5⟩

theorem setCell_size (w : World) (p : Addr) (v : Value) : (w.setCell p v).heap.size = w.heap.size := by simp [World.setCell]

/-- An automaton whose rows are the call's own. -/
def AutO (w : World) (base : Nat) (v : Value) (A : Aut) : Prop := ∃ fv gv sv, v = .agg #[.int .i64 A.n, .int .i64 A.m, fv, gv, sv] ∧ w.ownsRow base 3 1 fv A.first.length (A.first.map (.int .i64)) ∧ w.ownsRow base 4 1 gv A.good.length (A.good.map .bool) ∧ w.ownsRow base 49 3 sv A.steps.length (stepCells A.steps)

theorem AutO.aut {w : World} {base : Nat} {v : Value} {A : Aut} (h : AutO w base v A) : AutV w v A := by
  obtain ⟨fv, gv, sv, rfl, h1, h2, h3⟩ := h
  exact ⟨fv, gv, sv, rfl, intSl_of_owns h1, boolSl_of_owns h2, stepSl_of_owns h3⟩

theorem AutO.below {w w' : World} {base : Nat} {v : Value} {A : Aut} (h : AutO w base v A) (hb : Below w.heap.size w w') : AutO w' base v A := by
  obtain ⟨fv, gv, sv, rfl, h1, h2, h3⟩ := h
  exact ⟨fv, gv, sv, rfl, owns_below h1 hb, owns_below h2 hb, owns_below h3 hb⟩

theorem AutO.lower {w : World} {base base' : Nat} {v : Value} {A : Aut} (h : AutO w base' v A) (hb : base ≤ base') : AutO w base v A := by
  obtain ⟨fv, gv, sv, rfl, h1, h2, h3⟩ := h
  exact ⟨fv, gv, sv, rfl, owns_lower h1 hb, owns_lower h2 hb, owns_lower h3 hb⟩

theorem AutO.put {w : World} {base rb : Nat} {v : Value} {A : Aut} {c : Array Value} (h : AutO w base v A) (hr : w.heap[rb]? = some (.cells c 26)) (k : Nat) (u : Value) : AutO (w.setCell ⟨rb, k, none⟩ u) base v A := by
  obtain ⟨fv, gv, sv, rfl, h1, h2, h3⟩ := h
  exact ⟨fv, gv, sv, rfl, owns_set h1 hr (by decide) _ _, owns_set h2 hr (by decide) _ _, owns_set h3 hr (by decide) _ _⟩

theorem RA.own {w : World} {base pb : Nat} {fv gv sv : Value} {A : Aut} (h : RA w base pb fv gv sv A) : AutO w base (.agg #[.int .i64 A.n, .int .i64 A.m, fv, gv, sv]) A := ⟨fv, gv, sv, rfl, h.f, h.g, h.s⟩

/-- A cell of another box is written. -/
theorem RA.other {w : World} {base pb rb : Nat} {fv gv sv : Value} {A : Aut} {c : Array Value} (h : RA w base pb fv gv sv A) (hr : w.heap[rb]? = some (.cells c 26)) (hne : pb ≠ rb) (k : Nat) (v : Value) : RA (w.setCell ⟨rb, k, none⟩ v) base pb fv gv sv A :=
  ⟨(heap_setCell_other w _ _ pb hne).trans h.box, owns_set h.f hr (by decide) _ _, owns_set h.g hr (by decide) _ _, owns_set h.s hr (by decide) _ _, h.hb⟩

def fivePut (w : World) (b : Nat) (v0 v1 v2 v3 v4 : Value) : World := ((((w.setCell ⟨b, 0, none⟩ v0).setCell ⟨b, 1, none⟩ v1).setCell ⟨b, 2, none⟩ v2).setCell ⟨b, 3, none⟩ v3).setCell ⟨b, 4, none⟩ v4

theorem fivePut_box {w : World} {b : Nat} {z0 z1 z2 z3 z4 : Value} {t : TypeId} (h : w.heap[b]? = some (.cells #[z0, z1, z2, z3, z4] t)) (v0 v1 v2 v3 v4 : Value) : (fivePut w b v0 v1 v2 v3 v4).heap[b]? = some (.cells #[v0, v1, v2, v3, v4] t) :=
  box_set (box_set (box_set (box_set (box_set h 0 v0) 1 v1) 2 v2) 3 v3) 4 v4

theorem fivePut_below {base : Nat} {w w' : World} (h : Below base w w') {b : Nat} (hb : base ≤ b) (v0 v1 v2 v3 v4 : Value) : Below base w (fivePut w' b v0 v1 v2 v3 v4) :=
  below_set (below_set (below_set (below_set (below_set h hb 0 v0) hb 1 v1) hb 2 v2) hb 3 v3) hb 4 v4

theorem RA.five {w : World} {base pb rb : Nat} {fv gv sv : Value} {A : Aut} {c : Array Value} (h : RA w base pb fv gv sv A) (hr : w.heap[rb]? = some (.cells c 26)) (hne : pb ≠ rb) (v0 v1 v2 v3 v4 : Value) : RA (fivePut w rb v0 v1 v2 v3 v4) base pb fv gv sv A := by
  have h1 := h.other hr hne 0 v0
  have r1 := box_set hr 0 v0
  have h2 := h1.other r1 hne 1 v1
  have r2 := box_set r1 1 v1
  have h3 := h2.other r2 hne 2 v2
  have r3 := box_set r2 2 v2
  have h4 := h3.other r3 hne 3 v3
  have r4 := box_set r3 3 v3
  exact h4.other r4 hne 4 v4

theorem AutO.five {w : World} {base rb : Nat} {v : Value} {A : Aut} {c : Array Value} (h : AutO w base v A) (hr : w.heap[rb]? = some (.cells c 26)) (v0 v1 v2 v3 v4 : Value) : AutO (fivePut w rb v0 v1 v2 v3 v4) base v A := by
  have h1 := h.put hr 0 v0
  have r1 := box_set hr 0 v0
  have h2 := h1.put r1 1 v1
  have r2 := box_set r1 1 v1
  have h3 := h2.put r2 2 v2
  have r3 := box_set r2 2 v2
  have h4 := h3.put r3 3 v3
  have r4 := box_set r3 3 v3
  exact h4.put r4 4 v4

theorem RA.slices {w : World} {base pb : Nat} {fv gv sv : Value} {A : Aut} (h : RA w base pb fv gv sv A) : ∃ a1 c1 a2 c2 a3 c3, fv = .slice a1 A.first.length c1 ∧ gv = .slice a2 A.good.length c2 ∧ sv = .slice a3 A.steps.length c3 := by
  obtain ⟨a1, c1, h1, -⟩ := intSl_of_owns h.f
  obtain ⟨a2, c2, h2, -⟩ := boolSl_of_owns h.g
  obtain ⟨a3, c3, h3, -⟩ := stepSl_of_owns h.s
  exact ⟨a1, c1, a2, c2, a3, c3, h1, h2, h3⟩

theorem fivePut_size (w : World) (b : Nat) (v0 v1 v2 v3 v4 : Value) : (fivePut w b v0 v1 v2 v3 v4).heap.size = w.heap.size := by
  unfold fivePut
  rw [setCell_size, setCell_size, setCell_size, setCell_size, setCell_size]

theorem fivePut_other (w : World) (b rb : Nat) (h : b ≠ rb) (v0 v1 v2 v3 v4 : Value) : (fivePut w rb v0 v1 v2 v3 v4).heap[b]? = w.heap[b]? := by
  unfold fivePut
  rw [heap_setCell_other _ _ _ b h, heap_setCell_other _ _ _ b h, heap_setCell_other _ _ _ b h, heap_setCell_other _ _ _ b h, heap_setCell_other _ _ _ b h]

end Go.Proofs.YtpiacnnifdjlkabDoor
