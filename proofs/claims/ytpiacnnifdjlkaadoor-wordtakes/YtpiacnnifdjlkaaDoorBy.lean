/-
  What takes of package word answers, whole.
-/
import Derived.Test.YtpiacnnifdjlkaaDoorBx
import Derived.Carry
namespace Go.Proofs.YtpiacnnifdjlkaaDoor
open Go.RowKit Go.Sort

theorem five_alloc (w : World) (a b c d e : Obj) : (((((w.alloc a).alloc b).alloc c).alloc d).alloc e).heap[w.heap.size]? = some a ∧ (((((w.alloc a).alloc b).alloc c).alloc d).alloc e).heap[w.heap.size + 1]? = some b ∧ (((((w.alloc a).alloc b).alloc c).alloc d).alloc e).heap[w.heap.size + 1 + 1]? = some c ∧
    (((((w.alloc a).alloc b).alloc c).alloc d).alloc e).heap[w.heap.size + 1 + 1 + 1]? = some d ∧ (((((w.alloc a).alloc b).alloc c).alloc d).alloc e).heap[w.heap.size + 1 + 1 + 1 + 1]? = some e := by
  refine ⟨?_, ?_, ?_, ?_, ?_⟩
  · rw [heap_alloc_old _ _ (by simp; omega), heap_alloc_old _ _ (by simp; omega), heap_alloc_old _ _ (by simp; omega), heap_alloc_old _ _ (by simp)]
    exact heap_alloc_new w a
  · rw [heap_alloc_old _ _ (by simp), heap_alloc_old _ _ (by simp), heap_alloc_old _ _ (by simp)]
    have := heap_alloc_new (w.alloc a) b
    rwa [World.size_alloc] at this
  · rw [heap_alloc_old _ _ (by simp), heap_alloc_old _ _ (by simp)]
    have := heap_alloc_new ((w.alloc a).alloc b) c
    rwa [World.size_alloc, World.size_alloc] at this
  · rw [heap_alloc_old _ _ (by simp)]
    have := heap_alloc_new (((w.alloc a).alloc b).alloc c) d
    rwa [World.size_alloc, World.size_alloc, World.size_alloc] at this
  · have := heap_alloc_new ((((w.alloc a).alloc b).alloc c).alloc d) e
    rwa [World.size_alloc, World.size_alloc, World.size_alloc, World.size_alloc] at this

theorem MetAt.new {w : World} {r : Nat} (h : w.heap[r]? = some (.map #[] 0)) : MetAt w r (fun _ _ => 0) :=
  ⟨fun _ _ => by show 0 < _; decide, #[], 0, h, fun e he => by simp at he, fun _ _ => rfl, by simp⟩

theorem Fr.toBelow {L : List Nat} {w w' : World} {n : Nat} (h : Fr L w w') (hL : ∀ k, k ∈ L → n ≤ k) (hn : n ≤ w.heap.size) : Below n w w' :=
  ⟨h.os, h.tape, h.output, h.size, fun k hk => h.block k (by omega) (fun hm => by have := hL k hm; omega)⟩

set_option maxRecDepth 100000 in
set_option maxHeartbeats 2000000 in
theorem runTakes_any {w : World} {gs : List Bool} {fs : List Int} (R : Rn) (D : Nat → Nat → Nat → Nat) (hR : RnOk w R D) (ht : Tab w) (hg : GoodAt w R gs) (hf : IntSl w (.slice R.a1 R.l1 R.c1) fs)
    (hin : ∀ i, i < fs.length → 0 ≤ fs.getD i 0 ∧ fs.getD i 0 < R.N) :
    Calls Tryd.prog 68 #[rnV R] w fun e w' => ∃ b, e = .returned (.bool b) ∧ (b = true ↔ RunTakes R D gs fs) ∧ Below w.heap.size w w' := by
  have hmm := @run_makeMap Tryd.prog
  have Hall := hide (And.intro hR (And.intro ht (And.intro hg (And.intro hf hin))))
  clear hR ht hg hf hin
  unfold rnV
  go_enter Tryd.func68, Tryd.ntmps68
  go_wp2_with (fail)
  obtain ⟨hR, ht, hg, hf, hin⟩ := Hall.out
  generalize hW : ((((w.alloc (Obj.cells #[Value.int .i64 R.n, .int .i64 R.m, .slice R.a1 R.l1 R.c1, .slice R.a2 R.l2 R.c2, .slice R.a3 R.l3 R.c3, .slice R.a4 R.hs.length R.c4, .slice R.a5 R.ls.length R.c5, .slice (some ⟨R.g, 0, none⟩) R.N R.N] 101)).alloc (Obj.map #[] 0)).alloc (Obj.map #[] 0)).alloc (Obj.cells #[Value.map (some (w.heap.size + 1))] 148)).alloc (Obj.cells #[Value.map (some (w.heap.size + 1 + 1))] 148) = W
  have hbW : Below w.heap.size w W := by rw [← hW]; exact (by repeat (first | exact Below.refl _ _ | assumption | refine below_drewN ?_ _ | refine Below.drew ?_ | refine Below.alloc ?_ (by simp <;> omega) _ | refine below_trans ?_ (by assumption)))
  have hsW : W.heap.size = w.heap.size + 5 := by rw [← hW]; simp
  obtain ⟨b1, x1, x2, b3, b4⟩ := five_alloc w (Obj.cells #[Value.int .i64 R.n, .int .i64 R.m, .slice R.a1 R.l1 R.c1, .slice R.a2 R.l2 R.c2, .slice R.a3 R.l3 R.c3, .slice R.a4 R.hs.length R.c4, .slice R.a5 R.ls.length R.c5, .slice (some ⟨R.g, 0, none⟩) R.N R.N] 101) (Obj.map #[] 0) (Obj.map #[] 0) (Obj.cells #[Value.map (some (w.heap.size + 1))] 148) (Obj.cells #[Value.map (some (w.heap.size + 1 + 1))] 148)
  rw [hW] at b1 x1 x2 b3 b4
  have m1 := MetAt.new x1
  have m2 := MetAt.new x2
  refine (takesAll_any R D w.heap.size (w.heap.size + 1 + 1 + 1) (w.heap.size + 1 + 1 + 1 + 1) b1 b3 b4 (hR.below hbW) (ht.below hbW) ⟨hg.1.below hbW, hg.2⟩ (hf.below hbW) hin m1 m2 (by omega)).mono ?_
  rintro e w1 ⟨b, rfl, hb, hfr⟩
  have Hb := hide hb
  have hbe : Below w.heap.size w w1 := by
    refine hbW.trans ?_
    exact hfr.toBelow (fun k hk => by rcases List.mem_cons.1 hk with rfl | hk; omega; have := List.mem_singleton.1 hk; omega) (by omega)
  clear hb hR ht hg hf hin hW hbW hsW b1 b3 b4 x1 x2 m1 m2 hfr
  go_wp2
  go_ret
  exact ⟨b, rfl, Hb.out, hbe⟩
end Go.Proofs.YtpiacnnifdjlkaaDoor
