/-
  How memory stands while states are numbered anew.
-/
import Derived.Test.YtpiacnnifdjlkaaDoorJh
namespace Go.Proofs.YtpiacnnifdjlkaaDoor
open Go.RowKit Go.Sort

def noA : Array Value := #[.int .i64 0, .int .i64 0, .slice none 0 0, .slice none 0 0, .slice none 0 0]

/-- How memory stands while states are numbered anew: the automaton's box, the answer's, that of what is left, and the numbers. -/
structure OnlyI (w wr : World) (bx : Array Value) (N : Nat) (num : Nat → Int) (fv gv sv : Value) (B : Aut) : Prop where
  ra : RA wr (w.heap.size + 1 + 1) (w.heap.size + 1 + 1) fv gv sv B
  num : wr.heap[w.heap.size + 1 + 1 + 1]? = some (.cells (intRow N num) 3)
  bx : wr.heap[w.heap.size]? = some (.cells bx 26)
  res : wr.heap[w.heap.size + 1]? = some (.cells noA 26)
  below : Below w.heap.size w wr
  far : fv.ownBlock ≠ some (w.heap.size + 1 + 1 + 1) ∧ gv.ownBlock ≠ some (w.heap.size + 1 + 1 + 1) ∧ sv.ownBlock ≠ some (w.heap.size + 1 + 1 + 1)

section
variable {w wr : World} {bx : Array Value} {N : Nat} {num : Nat → Int} {fv gv sv : Value} {B : Aut}

theorem OnlyI.setNum (h : OnlyI w wr bx N num fv gv sv B) (q : Nat) (z : Int) : OnlyI w (wr.setCell ⟨w.heap.size + 1 + 1 + 1, q, none⟩ (.int .i64 z)) bx N (fun j => if j = q then z else num j) fv gv sv B :=
  ⟨h.ra.farRow (by omega) h.far.1 h.far.2.1 h.far.2.2 _ _, by rw [box_set h.num q (.int .i64 z), intRow_set], (heap_setCell_other wr _ _ _ (by simp <;> omega)).trans h.bx, (heap_setCell_other wr _ _ _ (by simp <;> omega)).trans h.res, h.below.setCell (by simp <;> omega) _, h.far⟩

theorem OnlyI.states (h : OnlyI w wr bx N num fv gv sv B) (n : Int) : OnlyI w (wr.setCell ⟨w.heap.size + 1 + 1, 0, none⟩ (.int .i64 n)) bx N num fv gv sv { B with n := n } :=
  ⟨h.ra.states n, (heap_setCell_other wr _ _ _ (by simp)).trans h.num, (heap_setCell_other wr _ _ _ (by simp <;> omega)).trans h.bx, (heap_setCell_other wr _ _ _ (by simp)).trans h.res, h.below.setCell (by simp <;> omega) _, h.far⟩

theorem OnlyI.congr (h : OnlyI w wr bx N num fv gv sv B) {num' : Nat → Int} (e : ∀ q, q < N → num q = num' q) : OnlyI w wr bx N num' fv gv sv B :=
  ⟨h.ra, by rw [h.num, intRow_congr e], h.bx, h.res, h.below, h.far⟩

theorem OnlyI.alloc (h : OnlyI w wr bx N num fv gv sv B) (o : Obj) : OnlyI w (wr.alloc o) bx N num fv gv sv B :=
  ⟨h.ra.below (below_new wr o), (heap_alloc_old wr o (Array.getElem?_eq_some_iff.1 h.num).1).trans h.num, (heap_alloc_old wr o (Array.getElem?_eq_some_iff.1 h.bx).1).trans h.bx, (heap_alloc_old wr o (Array.getElem?_eq_some_iff.1 h.res).1).trans h.res, below_trans h.below (below_new wr o), h.far⟩

/-- The blocks that an append to one of the rows leaves as they were. -/
theorem OnlyI.kept {W : World} {r : Option Nat} (h : OnlyI w wr bx N num fv gv sv B) (hk : KR (w.heap.size + 1 + 1) r wr W) (h1 : some (w.heap.size + 1 + 1 + 1) ≠ r) (h2 : some w.heap.size ≠ r) (h3 : some (w.heap.size + 1) ≠ r) (k : Nat) (v : Value) :
    (W.setCell ⟨w.heap.size + 1 + 1, k, none⟩ v).heap[w.heap.size + 1 + 1 + 1]? = some (.cells (intRow N num) 3) ∧ (W.setCell ⟨w.heap.size + 1 + 1, k, none⟩ v).heap[w.heap.size]? = some (.cells bx 26) ∧ (W.setCell ⟨w.heap.size + 1 + 1, k, none⟩ v).heap[w.heap.size + 1]? = some (.cells noA 26) ∧ Below w.heap.size w (W.setCell ⟨w.heap.size + 1 + 1, k, none⟩ v) :=
  ⟨(heap_setCell_other W _ _ _ (by simp)).trans (hk.block h.num h1), (heap_setCell_other W _ _ _ (by simp <;> omega)).trans (hk.block h.bx h2), (heap_setCell_other W _ _ _ (by simp)).trans (hk.block h.res h3), (h.below.trans (hk.below.mono (by omega))).setCell (by simp <;> omega) _⟩

theorem far_new {x : Option Nat} {g s n : Nat} (hx : x ≠ some n) (hw : x = some g ∨ s ≤ g) (hs : n < s) {m c : Nat} : (Value.slice (some ⟨g, 0, none⟩) m c).ownBlock ≠ some n := by
  intro e
  have e : g = n := by simpa [Value.ownBlock] using e
  rcases hw with hw | hw
  · exact hx (by rw [hw, e])
  · omega

theorem OnlyI.appGood {W : World} {g9 c9 : Nat} {z : Bool} (h : OnlyI w wr bx N num fv gv sv B) (hk : KR (w.heap.size + 1 + 1) gv.ownBlock wr W) (hn : W.ownsRow (w.heap.size + 1 + 1) 4 1 (.slice (some ⟨g9, 0, none⟩) (B.good.length + 1) c9) (B.good.length + 1) (B.good.map .bool ++ [.bool z])) (hw : gv.ownBlock = some g9 ∨ wr.heap.size ≤ g9) :
    OnlyI w (W.setCell ⟨w.heap.size + 1 + 1, 3, none⟩ (.slice (some ⟨g9, 0, none⟩) (B.good.length + 1) c9)) bx N num fv (.slice (some ⟨g9, 0, none⟩) (B.good.length + 1) c9) sv { B with good := B.good ++ [z] } := by
  obtain ⟨k1, k2, k3, k4⟩ := h.kept hk (fun e => h.far.2.1 e.symm) (fun e => row_apart h.ra.g h.bx (by decide) _ e.symm rfl) (fun e => row_apart h.ra.g h.res (by decide) _ e.symm rfl) 3 (.slice (some ⟨g9, 0, none⟩) (B.good.length + 1) c9)
  exact ⟨h.ra.appGood hk hn, k1, k2, k3, k4, h.far.1, far_new h.far.2.1 hw (Array.getElem?_eq_some_iff.1 h.num).1, h.far.2.2⟩

theorem OnlyI.appFirst {W : World} {g9 c9 : Nat} {z : Int} (h : OnlyI w wr bx N num fv gv sv B) (hk : KR (w.heap.size + 1 + 1) fv.ownBlock wr W) (hn : W.ownsRow (w.heap.size + 1 + 1) 3 1 (.slice (some ⟨g9, 0, none⟩) (B.first.length + 1) c9) (B.first.length + 1) (B.first.map (.int .i64) ++ [.int .i64 z])) (hw : fv.ownBlock = some g9 ∨ wr.heap.size ≤ g9) :
    OnlyI w (W.setCell ⟨w.heap.size + 1 + 1, 2, none⟩ (.slice (some ⟨g9, 0, none⟩) (B.first.length + 1) c9)) bx N num (.slice (some ⟨g9, 0, none⟩) (B.first.length + 1) c9) gv sv { B with first := B.first ++ [z] } := by
  obtain ⟨k1, k2, k3, k4⟩ := h.kept hk (fun e => h.far.1 e.symm) (fun e => row_apart h.ra.f h.bx (by decide) _ e.symm rfl) (fun e => row_apart h.ra.f h.res (by decide) _ e.symm rfl) 2 (.slice (some ⟨g9, 0, none⟩) (B.first.length + 1) c9)
  exact ⟨h.ra.appFirst hk hn, k1, k2, k3, k4, far_new h.far.1 hw (Array.getElem?_eq_some_iff.1 h.num).1, h.far.2.1, h.far.2.2⟩

theorem OnlyI.appStep {W : World} {g9 c9 : Nat} {z : Stp} (h : OnlyI w wr bx N num fv gv sv B) (hk : KR (w.heap.size + 1 + 1) sv.ownBlock wr W) (hn : W.ownsRow (w.heap.size + 1 + 1) 81 3 (.slice (some ⟨g9, 0, none⟩) (B.steps.length + 1) c9) (B.steps.length + 1) (stepCells B.steps ++ [.int .i64 z.f, .int .i64 z.l, .int .i64 z.t])) (hw : sv.ownBlock = some g9 ∨ wr.heap.size ≤ g9) :
    OnlyI w (W.setCell ⟨w.heap.size + 1 + 1, 4, none⟩ (.slice (some ⟨g9, 0, none⟩) (B.steps.length + 1) c9)) bx N num fv gv (.slice (some ⟨g9, 0, none⟩) (B.steps.length + 1) c9) { B with steps := B.steps ++ [z] } := by
  obtain ⟨k1, k2, k3, k4⟩ := h.kept hk (fun e => h.far.2.2 e.symm) (fun e => row_apart h.ra.s h.bx (by decide) _ e.symm rfl) (fun e => row_apart h.ra.s h.res (by decide) _ e.symm rfl) 4 (.slice (some ⟨g9, 0, none⟩) (B.steps.length + 1) c9)
  exact ⟨h.ra.appStep hk hn, k1, k2, k3, k4, h.far.1, h.far.2.1, far_new h.far.2.2 hw (Array.getElem?_eq_some_iff.1 h.num).1⟩

theorem OnlyI.sv_slice (h : OnlyI w wr bx N num fv gv sv B) : ∃ a1 c1 a2 c2 a3 c3, fv = .slice a1 B.first.length c1 ∧ gv = .slice a2 B.good.length c2 ∧ sv = .slice a3 B.steps.length c3 := h.ra.slices
end

end Go.Proofs.YtpiacnnifdjlkaaDoor
