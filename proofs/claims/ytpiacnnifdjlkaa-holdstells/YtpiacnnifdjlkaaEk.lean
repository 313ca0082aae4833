/-
  Rows of rows; small facts on cells and blocks of worlds that have grown.
-/
import Derived.Test.YtpiacnnifdjlkaaEj
namespace Go.Proofs.Ytpiacnnifdjlkaa
open Go.RowKit Go.Sort

def nilRows (c : Nat) : Array Value := Array.replicate c (.slice none 0 0)

theorem rowInfo : Try.prog.info? 37 = some Try.t37 := by kernel_rfl

theorem make_rows (c : Nat) (h : c ≤ 1000000) (w : World) : (Instr.makeSlice 27 (.int .i64 c) (.int .i64 c)).run Try.prog w = .ok (.slice (some ⟨w.heap.size, 0, none⟩) c c) (w.alloc (.cells (nilRows c) 37)) := by
  have hz : Try.t37.zero = some (.slice none 0 0) := by kernel_rfl
  have hb : Try.t37.bytes = 24 := by kernel_rfl
  have hs : Try.t37.size = 1 := by kernel_rfl
  rw [run_make w 27 37 Try.t37 (.slice none 0 0) Try.underlying27 rowInfo hz .i64 .i64 c c (by omega) (by omega) (by rw [hb]; omega) (by omega)]
  have e : madeCells (Value.cells (.slice none 0 0)) (c * 1) = nilRows c := by
    apply Array.ext
    · simp [size_madeCells, nilRows]
    · intro i h1 h2
      simp [madeCells, nilRows, Value.cells, Nat.mod_one]
  rw [hs, Int.toNat_natCast, e]

theorem cell_top (w : World) (cs : Array Value) (t : TypeId) (n i : Nat) (v : Value) (hn : n = w.heap.size) (hi : cs[i]? = some v) : (w.alloc (Obj.cells cs t)).cell? ⟨n, i, none⟩ = some v := by
  subst hn
  rw [World.cell?_alloc_new]; exact hi

theorem old_cells {W w1 : World} (hb : Below W.heap.size W w1) : (∀ b o, b < W.heap.size → w1.cell? ⟨b, o, none⟩ = W.cell? ⟨b, o, none⟩) ∧ (∀ b o, b < W.heap.size → w1.frozen? ⟨b, o, none⟩ = W.frozen? ⟨b, o, none⟩) :=
  ⟨fun b o h => hb.cell (p := ⟨b, o, none⟩) h, fun b o h => hb.frozen (p := ⟨b, o, none⟩) h⟩

theorem cell_set_ne {w : World} {b g o o' : Nat} {v u : Value} (hne : b ≠ g) (h : w.cell? ⟨b, o, none⟩ = some v) : (w.setCell ⟨g, o', none⟩ u).cell? ⟨b, o, none⟩ = some v := by
  rw [World.cell?_setCell_other _ _ _ _ (fun e => hne (congrArg Addr.block e).symm)]; exact h

theorem zero_tab {w : World} {g : Nat} (h : w.heap[g]? = some (Obj.cells #[.slice none 0 0, .int .i64 0, .slice none 0 0] 40)) : w.cell? ⟨g, 0, none⟩ = some (.slice none 0 0) ∧ w.cell? ⟨g, 1, none⟩ = some (.int .i64 0) ∧ w.cell? ⟨g, 2, none⟩ = some (.slice none 0 0) ∧ (∀ o, w.frozen? ⟨g, o, none⟩ = false) ∧ g < w.heap.size :=
  ⟨cell_of_row w g 0 _ _ _ h, cell_of_row w g 1 _ _ _ h, cell_of_row w g 2 _ _ _ h, fun o => by simp [World.frozen?, h], (Array.getElem?_eq_some_iff.1 h).1⟩

theorem with_tab {w : World} {p : Prop} (g : Nat) (h : w.heap[g]? = some (Obj.cells #[.slice none 0 0, .int .i64 0, .slice none 0 0] 40)) (k : w.cell? ⟨g, 0, none⟩ = some (.slice none 0 0) ∧ w.cell? ⟨g, 1, none⟩ = some (.int .i64 0) ∧ w.cell? ⟨g, 2, none⟩ = some (.slice none 0 0) ∧ (∀ o, w.frozen? ⟨g, o, none⟩ = false) ∧ g < w.heap.size → p) : p := k (zero_tab h)

theorem heap_under {w : World} {g : Nat} {o : Obj} (o' : Obj) (h : w.heap[g]? = some o) : (w.alloc o').heap[g]? = some o := block_keep h (below_new w o')

theorem heap_top (w : World) (o : Obj) (n : Nat) (hn : n = w.heap.size) : (w.alloc o).heap[n]? = some o := by
  subst hn; exact heap_alloc_new w o

theorem heap_drew {w : World} {g : Nat} {o : Obj} (h : w.heap[g]? = some o) : w.drew.heap[g]? = some o := h

theorem heap_set_ne {w : World} {g g' o : Nat} {v : Value} {ob : Obj} (hne : g ≠ g') (h : w.heap[g]? = some ob) : (w.setCell ⟨g', o, none⟩ v).heap[g]? = some ob := (set_far w _ v g hne).trans h

theorem cell_set_eq {w : World} {g o : Nat} {v u : Value} (h : w.cell? ⟨g, o, none⟩ = some u) : (w.setCell ⟨g, o, none⟩ v).cell? ⟨g, o, none⟩ = some v := World.cell?_setCell_same _ _ _ h

theorem cell_set_off {w : World} {g o o' : Nat} {v u : Value} (hne : o ≠ o') (h : w.cell? ⟨g, o, none⟩ = some u) : (w.setCell ⟨g, o', none⟩ v).cell? ⟨g, o, none⟩ = some u := by
  rw [World.cell?_setCell_other _ _ _ _ (fun e => hne (congrArg Addr.off e).symm)]; exact h

theorem ints_under {w : World} {v : Value} {zs : List Int} (o : Obj) (h : IntSl w v zs) : IntSl (w.alloc o) v zs := h.below (below_new w o)

theorem ints_drew {w : World} {v : Value} {zs : List Int} (h : IntSl w v zs) : IntSl w.drew v zs := h.below (Below.drew (Below.refl _ _))

theorem ints_set {w : World} {g g' o n c : Nat} {u : Value} {zs : List Int} (hne : g ≠ g') (h : IntSl w (.slice (some ⟨g, 0, none⟩) n c) zs) : IntSl (w.setCell ⟨g', o, none⟩ u) (.slice (some ⟨g, 0, none⟩) n c) zs :=
  h.setCell (a := ⟨g', o, none⟩) (fun k hk => by cases hk; exact hne) u

theorem intsl_lt {w : World} {g n c : Nat} {zs : List Int} (h : IntSl w (.slice (some ⟨g, 0, none⟩) n c) zs) (hn : 0 < n) : g < w.heap.size := by
  obtain ⟨a, cap, he, _, h, _⟩ := h
  injection he with e1 e2 e3
  rcases h with h | ⟨b, off, h, hc⟩
  · subst h; simp at e2; omega
  · rw [← e1] at h
    cases h
    have := hc 0 (by omega)
    exact World.block_lt_of_cell? w _ this

theorem with_nil {w : World} {p : Prop} (g : Nat) (M : Nat) (h : w.heap[g]? = some (Obj.cells (nilRows M) 37)) (k : w.heap[g]? = some (Obj.cells (nilRows M) 37) ∧ g < w.heap.size → p) : p := k ⟨h, (Array.getElem?_eq_some_iff.1 h).1⟩

theorem cell_drew {w : World} {a : Addr} {v : Value} (h : w.cell? a = some v) : w.drew.cell? a = some v := h

theorem tab_set {w : World} {g : Nat} {a b c : Value} (h0 : w.cell? ⟨g, 0, none⟩ = some (.slice none 0 0)) (h1 : w.cell? ⟨g, 1, none⟩ = some (.int .i64 0)) (h2 : w.cell? ⟨g, 2, none⟩ = some (.slice none 0 0)) :
    (((w.setCell ⟨g, 0, none⟩ a).setCell ⟨g, 1, none⟩ b).setCell ⟨g, 2, none⟩ c).cell? ⟨g, 0, none⟩ = some a ∧ (((w.setCell ⟨g, 0, none⟩ a).setCell ⟨g, 1, none⟩ b).setCell ⟨g, 2, none⟩ c).cell? ⟨g, 1, none⟩ = some b ∧ (((w.setCell ⟨g, 0, none⟩ a).setCell ⟨g, 1, none⟩ b).setCell ⟨g, 2, none⟩ c).cell? ⟨g, 2, none⟩ = some c :=
  ⟨cell_set_off (by decide) (cell_set_off (by decide) (cell_set_eq h0)), cell_set_off (by decide) (cell_set_eq (cell_set_off (by decide) h1)), cell_set_eq (cell_set_off (by decide) (cell_set_off (by decide) h2))⟩
end Go.Proofs.Ytpiacnnifdjlkaa
