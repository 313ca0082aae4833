/-
  What must be in any case: the statements' own automaton of one state, its own word, and what begun tells of package word.
-/
import Derived.Test.YtpiacnnifdjlkaaDoorCe
import Derived.Deep.RegionWith
namespace Go.Proofs.YtpiacnnifdjlkaaDoor
open Go.RowKit Go.Sort

def oneA : Aut := ⟨1, 2, [0], [true], [⟨0, 0, 0⟩]⟩

theorem boolSl_one (w : World) (g : Nat) (x : Bool) (h : w.cell? ⟨g, 0, none⟩ = some (.bool x)) : BoolSl w (.slice (some ⟨g, 0, none⟩) 1 1) [x] :=
  ⟨_, _, rfl, by simp [maxLen], Or.inr ⟨g, 0, rfl, fun i hi => by
    have : i = 0 := by simpa using hi
    subst this
    exact h⟩, fun e => (by cases e), by simp⟩

theorem stepSl_one (w : World) (g : Nat) (x : Stp) (h0 : w.cell? ⟨g, 0, none⟩ = some (.int .i64 x.f)) (h1 : w.cell? ⟨g, 1, none⟩ = some (.int .i64 x.l)) (h2 : w.cell? ⟨g, 2, none⟩ = some (.int .i64 x.t)) : StepSl w (.slice (some ⟨g, 0, none⟩) 1 1) [x] :=
  ⟨_, _, rfl, by simp [maxLen], Or.inr ⟨g, 0, rfl, fun i hi => by
    have : i = 0 := by simpa using hi
    subst this
    exact ⟨h0, h1, h2⟩⟩, fun e => (by cases e), by simp⟩

theorem intSl_nil (w : World) : IntSl w (.slice none 0 0) [] := ⟨none, 0, rfl, by simp [maxLen], Or.inl rfl, fun _ => rfl, by simp⟩

theorem four_alloc (w : World) (a b c d : Obj) : ((((w.alloc a).alloc b).alloc c).alloc d).heap[w.heap.size]? = some a ∧ ((((w.alloc a).alloc b).alloc c).alloc d).heap[w.heap.size + 1]? = some b ∧ ((((w.alloc a).alloc b).alloc c).alloc d).heap[w.heap.size + 1 + 1]? = some c ∧
    ((((w.alloc a).alloc b).alloc c).alloc d).heap[w.heap.size + 1 + 1 + 1]? = some d := by
  obtain ⟨h1, h2, h3⟩ := three_alloc w a b c
  refine ⟨?_, ?_, ?_, ?_⟩
  · rw [heap_alloc_old _ _ (by simp; omega)]; exact h1
  · rw [heap_alloc_old _ _ (by simp)]; exact h2
  · rw [heap_alloc_old _ _ (by simp)]; exact h3
  · have := heap_alloc_new (((w.alloc a).alloc b).alloc c) d
    rwa [World.size_alloc, World.size_alloc, World.size_alloc] at this

set_option maxHeartbeats 400000 in
theorem zero_any (w : World) :
    Calls Tryd.prog 64 #[] w fun e w' => ∃ g, e = .returned (.agg #[.slice none 0 0, .slice (some ⟨g, 0, none⟩) 1 1]) ∧ w'.cell? ⟨g, 0, none⟩ = some (.int .i64 0) ∧ Below w.heap.size w w' := by
  go_enter Tryd.func64, Tryd.ntmps64
  go_wp2
  have q := two_alloc w (Obj.cells #[Value.slice none 0 0, .slice (some ⟨w.heap.size + 1, 0, none⟩) 1 1] 44) (Obj.cells #[Value.int .i64 0] 3)
  have c0 := cell_of_row _ _ 0 _ _ _ q.1
  have c1 := cell_of_row _ _ 1 _ _ _ q.1
  have c2 := cell_of_row _ _ 0 _ _ _ q.2
  refine bodyPost_ret (v := .agg #[.slice none 0 0, .slice (some ⟨w.heap.size + 1, 0, none⟩) 1 1]) (by simp [results, Tryd.results64, go_sem, c0, c1]) rfl ⟨_, rfl, c2, (by repeat (first | exact Below.refl _ _ | assumption | refine below_drewN ?_ _ | refine Below.drew ?_ | refine Below.alloc ?_ (by simp <;> omega) _ | refine below_trans ?_ (by assumption)))⟩

set_option maxHeartbeats 400000 in
theorem one_any (w : World) :
    Calls Tryd.prog 53 #[] w fun e w' => ∃ g1 g2 g3, e = .returned (.agg #[.int .i64 1, .int .i64 2, .slice (some ⟨g1, 0, none⟩) 1 1, .slice (some ⟨g2, 0, none⟩) 1 1, .slice (some ⟨g3, 0, none⟩) 1 1]) ∧ w'.cell? ⟨g1, 0, none⟩ = some (.int .i64 0) ∧ w'.cell? ⟨g2, 0, none⟩ = some (.bool true) ∧ w'.cell? ⟨g3, 0, none⟩ = some (.int .i64 0) ∧ w'.cell? ⟨g3, 1, none⟩ = some (.int .i64 0) ∧ w'.cell? ⟨g3, 2, none⟩ = some (.int .i64 0) ∧ Below w.heap.size w w' := by
  go_enter Tryd.func53, Tryd.ntmps53
  go_wp2
  have q := four_alloc w (Obj.cells #[Value.int .i64 1, .int .i64 2, .slice (some ⟨w.heap.size + 1, 0, none⟩) 1 1, .slice (some ⟨w.heap.size + 1 + 1, 0, none⟩) 1 1, .slice (some ⟨w.heap.size + 1 + 1 + 1, 0, none⟩) 1 1] 26) (Obj.cells #[Value.int .i64 0] 3) (Obj.cells #[Value.bool true] 4) (Obj.cells #[Value.int .i64 0, .int .i64 0, .int .i64 0] 81)
  have c0 := cell_of_row _ _ 0 _ _ _ q.1
  have c1 := cell_of_row _ _ 1 _ _ _ q.1
  have c2 := cell_of_row _ _ 2 _ _ _ q.1
  have c3 := cell_of_row _ _ 3 _ _ _ q.1
  have c4 := cell_of_row _ _ 4 _ _ _ q.1
  refine bodyPost_ret (v := .agg #[.int .i64 1, .int .i64 2, .slice (some ⟨w.heap.size + 1, 0, none⟩) 1 1, .slice (some ⟨w.heap.size + 1 + 1, 0, none⟩) 1 1, .slice (some ⟨w.heap.size + 1 + 1 + 1, 0, none⟩) 1 1]) (by simp [results, Tryd.results53, go_sem, c0, c1, c2, c3, c4]) rfl ⟨_, _, _, rfl, cell_of_row _ _ 0 _ _ _ q.2.1, cell_of_row _ _ 0 _ _ _ q.2.2.1, cell_of_row _ _ 0 _ _ _ q.2.2.2, cell_of_row _ _ 1 _ _ _ q.2.2.2, cell_of_row _ _ 2 _ _ _ q.2.2.2, (by repeat (first | exact Below.refl _ _ | assumption | refine below_drewN ?_ _ | refine Below.drew ?_ | refine Below.alloc ?_ (by simp <;> omega) _ | refine below_trans ?_ (by assumption)))⟩

theorem takes_one : TakesA oneA [] [0] := by
  refine ⟨0, by decide, (0, 0), ⟨0, rfl⟩, rfl, ⟨0, (0, 0), ⟨rfl, ⟨0, 0, 0⟩, by simp [oneA], rfl, rfl, rfl⟩, rfl⟩⟩

theorem not_takes_one : ¬ TakesA oneA [1] [0] := by
  have no : ∀ z, ¬ EdgeA oneA [1] [0] (0, 0) z := by
    rintro z ⟨_, s, hs, _, h, _⟩
    have : s = ⟨0, 0, 0⟩ := by simpa [oneA] using hs
    subst this
    exact absurd h (by decide)
  have stay : ∀ z, Leads (EdgeA oneA [1] [0]) (0, 0) z → z = (0, 0) := by
    rintro z ⟨n, h⟩
    cases n with
    | zero => exact h.symm
    | succ n => obtain ⟨y, hy, _⟩ := h; exact absurd hy (no y)
  rintro ⟨i, hi, z, h1, _, n, h2⟩
  have hi0 : i = 0 := by simpa [oneA] using hi
  subst hi0
  have := stay z h1
  subst this
  obtain ⟨y, hy, _⟩ := h2
  exact no y hy

theorem leastBegun {p k : Nat} (hp : LeastPer [0, 0] p) (hk : LeastHead [0] [0, 0] p k) : pieceOf [0] [0, 0] 0 k = [] ∧ pieceOf [0] [0, 0] k p = [0] := by
  have p1 : p = 1 := by
    have h1 := hp.1.1
    have h2 := hp.2 1 ⟨by decide, by decide, by decide, by decide⟩
    omega
  subst p1
  obtain ⟨h1, _, h3⟩ := hk
  have k0 : k = 0 := by
    rcases h3 with h | h
    · exact h
    · have hk2 : k = 0 ∨ k = 1 := by simp at h1; omega
      rcases hk2 with rfl | rfl
      · rfl
      · exact absurd (by decide) h
  subst k0
  exact ⟨by decide, by decide⟩

theorem intSl_two (w : World) (g : Nat) (x y : Int) (h0 : w.cell? ⟨g, 0, none⟩ = some (.int .i64 x)) (h1 : w.cell? ⟨g, 1, none⟩ = some (.int .i64 y)) : IntSl w (.slice (some ⟨g, 0, none⟩) 2 2) [x, y] :=
  ⟨_, _, rfl, by simp [maxLen], Or.inr ⟨g, 0, rfl, fun i hi => by
    have : i = 0 ∨ i = 1 := by simp at hi; omega
    rcases this with rfl | rfl
    · exact h0
    · exact h1⟩, fun e => (by cases e), by simp⟩

theorem autV_one {w : World} {g1 g2 g3 : Nat} (h1 : w.cell? ⟨g1, 0, none⟩ = some (.int .i64 0)) (h2 : w.cell? ⟨g2, 0, none⟩ = some (.bool true)) (h3 : w.cell? ⟨g3, 0, none⟩ = some (.int .i64 0)) (h4 : w.cell? ⟨g3, 1, none⟩ = some (.int .i64 0)) (h5 : w.cell? ⟨g3, 2, none⟩ = some (.int .i64 0)) :
    AutV w (.agg #[.int .i64 1, .int .i64 2, .slice (some ⟨g1, 0, none⟩) 1 1, .slice (some ⟨g2, 0, none⟩) 1 1, .slice (some ⟨g3, 0, none⟩) 1 1]) oneA :=
  ⟨_, _, _, rfl, intSl_one w g1 0 h1, boolSl_one w g2 true h2, stepSl_one w g3 ⟨0, 0, 0⟩ h3 h4 h5⟩

/-- Least, at the word with which it begins. -/
theorem leastB {w : World} {g0 g1 : Nat} (h0 : w.cell? ⟨g0, 0, none⟩ = some (.int .i64 0)) (h1 : w.cell? ⟨g1, 0, none⟩ = some (.int .i64 0)) (h2 : w.cell? ⟨g1, 1, none⟩ = some (.int .i64 0)) :
    Calls Tryd.prog 24 #[.agg #[.slice (some ⟨g0, 0, none⟩) 1 1, .slice (some ⟨g1, 0, none⟩) 2 2], .int .i64 2] w fun e w' => ∃ a1 c1 a2 c2, e = .returned (.tuple #[.agg #[.slice a1 0 c1, .slice a2 1 c2], .int .i64 0]) ∧ IntSl w' (.slice a1 0 c1) [] ∧ IntSl w' (.slice a2 1 c2) [0] ∧ Below w.heap.size w w' := by
  refine (least_good (intSl_one w g0 0 h0) (intSl_two w g1 0 0 h1 h2) 2 (by decide)).mono ?_
  rintro e w' ⟨v1, v2, p, k, rfl, hp, hk, i1, i2, hb⟩
  obtain ⟨e1, e2⟩ := leastBegun hp hk
  rw [e1] at i1
  rw [e2] at i2
  obtain ⟨a1, c1, f1⟩ := i1.form rfl
  obtain ⟨a2, c2, f2⟩ := i2.form rfl
  subst f1 f2
  exact ⟨a1, c1, a2, c2, rfl, i1, i2, hb⟩

theorem atB {w : World} {g0 g1 : Nat} (h0 : w.cell? ⟨g0, 0, none⟩ = some (.int .i64 1)) (h1 : w.cell? ⟨g1, 0, none⟩ = some (.int .i64 0)) :
    Calls Tryd.prog 25 #[.agg #[.slice (some ⟨g0, 0, none⟩) 1 1, .slice (some ⟨g1, 0, none⟩) 1 1], .int .i64 2, .int .i64 0] w fun e w' => e = .returned (.tuple #[.int .i64 1, .int .i64 0]) ∧ Below w.heap.size w w' :=
  at_good (intSl_one w g0 1 h0) (intSl_one w g1 0 h1) (by simp) 2 0 (by decide) (by omega) (by omega)

theorem takesB {w : World} {g1 g2 g3 g : Nat} (ht : Tab w) (h1 : w.cell? ⟨g1, 0, none⟩ = some (.int .i64 0)) (h2 : w.cell? ⟨g2, 0, none⟩ = some (.bool true)) (h3 : w.cell? ⟨g3, 0, none⟩ = some (.int .i64 0)) (h4 : w.cell? ⟨g3, 1, none⟩ = some (.int .i64 0)) (h5 : w.cell? ⟨g3, 2, none⟩ = some (.int .i64 0)) (h : w.cell? ⟨g, 0, none⟩ = some (.int .i64 0)) :
    Calls Tryd.prog 32 #[.agg #[.int .i64 1, .int .i64 2, .slice (some ⟨g1, 0, none⟩) 1 1, .slice (some ⟨g2, 0, none⟩) 1 1, .slice (some ⟨g3, 0, none⟩) 1 1], .agg #[.slice none 0 0, .slice (some ⟨g, 0, none⟩) 1 1]] w fun e w' => e = .returned (.tuple #[.bool true, .int .i64 0]) ∧ Below w.heap.size w w' := by
  refine (takes_any (autV_one h1 h2 h3 h4 h5) (intSl_nil w) (intSl_one w g 0 h) ht).mono ?_
  rintro e w' ⟨b, rfl, hb, hw⟩
  have e0 : tkE oneA [] [0] = 0 := by decide
  have : b = true := hb.2 ⟨e0, takes_one⟩
  subst this
  rw [e0]
  exact ⟨rfl, hw⟩

theorem takesN {w : World} {g1 g2 g3 g g' : Nat} (ht : Tab w) (h1 : w.cell? ⟨g1, 0, none⟩ = some (.int .i64 0)) (h2 : w.cell? ⟨g2, 0, none⟩ = some (.bool true)) (h3 : w.cell? ⟨g3, 0, none⟩ = some (.int .i64 0)) (h4 : w.cell? ⟨g3, 1, none⟩ = some (.int .i64 0)) (h5 : w.cell? ⟨g3, 2, none⟩ = some (.int .i64 0)) (h : w.cell? ⟨g, 0, none⟩ = some (.int .i64 1)) (h' : w.cell? ⟨g', 0, none⟩ = some (.int .i64 0)) :
    Calls Tryd.prog 32 #[.agg #[.int .i64 1, .int .i64 2, .slice (some ⟨g1, 0, none⟩) 1 1, .slice (some ⟨g2, 0, none⟩) 1 1, .slice (some ⟨g3, 0, none⟩) 1 1], .agg #[.slice (some ⟨g, 0, none⟩) 1 1, .slice (some ⟨g', 0, none⟩) 1 1]] w fun e w' => e = .returned (.tuple #[.bool false, .int .i64 0]) ∧ Below w.heap.size w w' := by
  refine (takes_any (autV_one h1 h2 h3 h4 h5) (intSl_one w g 1 h) (intSl_one w g' 0 h') ht).mono ?_
  rintro e w' ⟨b, rfl, hb, hw⟩
  have e0 : tkE oneA [1] [0] = 0 := by decide
  have : b = false := by
    cases b with
    | false => rfl
    | true => exact absurd (hb.1 rfl).2 not_takes_one
  subst this
  rw [e0]
  exact ⟨rfl, hw⟩
end Go.Proofs.YtpiacnnifdjlkaaDoor
