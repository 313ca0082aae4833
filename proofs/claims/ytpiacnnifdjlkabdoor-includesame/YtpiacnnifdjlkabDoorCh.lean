/-
  WordTells of the statements: true, whatever it is handed.
-/
import Derived.Test.YtpiacnnifdjlkabDoorCg
namespace Go.Proofs.YtpiacnnifdjlkabDoor
open Go.RowKit Go.Sort

theorem belowRow {w w' : World} (h : Below w.heap.size w w') {b : Nat} {o : Obj} (hb : w.heap[b]? = some o) : w'.heap[b]? = some o := (h.block b (Array.getElem?_eq_some_iff.1 hb).1).trans hb

theorem allocRow (w : World) (o' : Obj) {b : Nat} {o : Obj} (hb : w.heap[b]? = some o) : (w.alloc o').heap[b]? = some o := belowRow (below_new w o') hb

theorem one_new (w : World) (o : Obj) : (w.alloc o).heap[w.heap.size]? = some o := heap_alloc_new w o

theorem IntSl.put {w : World} {v : Value} {zs : List Int} (h : IntSl w v zs) {y : Nat} {p0 p1 : Option Addr} {q0 q1 s0 s1 : Nat} {t : TypeId} (hy : w.heap[y]? = some (.cells #[.slice p0 q0 s0, .slice p1 q1 s1] t)) (z0 z1 : Value) : IntSl ((w.setCell ⟨y, 0, none⟩ z0).setCell ⟨y, 1, none⟩ z1) v zs := by
  obtain ⟨a, cap, rfl, hm, h, hn⟩ := h
  refine ⟨a, cap, rfl, hm, ?_, hn⟩
  rcases h with h | ⟨b, off, rfl, hc⟩
  · exact Or.inl h
  · refine Or.inr ⟨b, off, rfl, fun i hi => ?_⟩
    have h1 := hc i hi
    have hne : b ≠ y := by
      rintro rfl
      rw [cell_of_row w b (off + i) _ _ _ hy] at h1
      match off + i, h1 with
      | 0, h1 => simp at h1
      | 1, h1 => simp at h1
      | k + 2, h1 => simp at h1
    rw [World.cell?_setCell_other _ _ _ _ (fun e => hne (congrArg Addr.block e).symm), World.cell?_setCell_other _ _ _ _ (fun e => hne (congrArg Addr.block e).symm)]
    exact h1

theorem putRow {w : World} {y : Nat} {u0 u1 : Value} {t : TypeId} (hy : w.heap[y]? = some (.cells #[u0, u1] t)) (z0 z1 : Value) : ((w.setCell ⟨y, 0, none⟩ z0).setCell ⟨y, 1, none⟩ z1).heap[y]? = some (.cells #[z0, z1] t) := by
  simpa using heap_setCell_row 1 z1 (heap_setCell_row 0 z0 hy)

theorem putOther {w : World} {y b : Nat} {o : Obj} (z0 z1 : Value) (hb : w.heap[b]? = some o) (hne : b ≠ y) : ((w.setCell ⟨y, 0, none⟩ z0).setCell ⟨y, 1, none⟩ z1).heap[b]? = some o := by
  rw [heap_setCell_other _ _ _ _ hne, heap_setCell_other _ _ _ _ hne]
  exact hb

theorem least_good2 {w : World} {hv lv : Value} {hs ls : List Int} (hh : IntSl w hv hs) (hl : IntSl w lv ls) (n : Int) (h : chk hs ls n = 0) :
    Calls Tryd.prog 27 #[.agg #[hv, lv], .int .i64 n] w fun e w' => ∃ d1 n1 e1 d2 n2 e2 p k, e = .returned (.tuple #[.agg #[.slice d1 n1 e1, .slice d2 n2 e2], .int .i64 0]) ∧ LeastPer ls p ∧ LeastHead hs ls p k ∧ IntSl w' (.slice d1 n1 e1) (pieceOf hs ls 0 k) ∧ IntSl w' (.slice d2 n2 e2) (pieceOf hs ls k p) ∧ Below w.heap.size w w' := by
  refine (least_good hh hl n h).mono ?_
  rintro e w' ⟨v1, v2, p, k, rfl, hp, hk, i1, i2, hb⟩
  obtain ⟨d1, e1, f1⟩ := i1.form rfl
  obtain ⟨d2, e2, f2⟩ := i2.form rfl
  subst f1 f2
  exact ⟨d1, _, e1, d2, _, e2, p, k, rfl, hp, hk, i1, i2, hb⟩

end Go.Proofs.YtpiacnnifdjlkabDoor
