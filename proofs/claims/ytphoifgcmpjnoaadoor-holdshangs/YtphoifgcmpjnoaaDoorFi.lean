/-
  What formula.Negate answers.
-/
import Derived.Test.YtphoifgcmpjnoaaDoorFh
namespace Go.Proofs.YtphoifgcmpjnoaaDoor
open Go.RowKit Go.Sort

theorem ndCells_get : ∀ (F : List Nd) (i j : Nat), i < F.length → j < 4 → (ndCells F)[i * 4 + j]? = [Value.int .i64 (F.getD i nd0).k, .int .i64 (F.getD i nd0).a, .int .i64 (F.getD i nd0).b, .int .i64 (F.getD i nd0).n][j]?
  | [], i, j, hi, hj => by simp at hi
  | x :: F, 0, j, hi, hj => by
    show ([Value.int .i64 x.k, .int .i64 x.a, .int .i64 x.b, .int .i64 x.n] ++ ndCells F)[0 * 4 + j]? = _
    rw [Nat.zero_mul, Nat.zero_add, List.getElem?_append_left (by simpa using hj)]
    rfl
  | x :: F, i + 1, j, hi, hj => by
    show ([Value.int .i64 x.k, .int .i64 x.a, .int .i64 x.b, .int .i64 x.n] ++ ndCells F)[(i + 1) * 4 + j]? = _
    rw [List.getElem?_append_right (by simp; omega)]
    have := ndCells_get F i j (by simpa using hi) hj
    have e : (i + 1) * 4 + j - [Value.int .i64 x.k, .int .i64 x.a, .int .i64 x.b, .int .i64 x.n].length = i * 4 + j := by simp; omega
    rw [e, this]
    simp [List.getD]

theorem nodeSl_of_owns {w : World} {base : Nat} {v : Value} {F : List Nd} (h : w.ownsRow base 74 4 v F.length (ndCells F)) : NodeSl w v F := by
  rcases h.2 with ⟨rfl, h0⟩ | ⟨g, cap, cur, rfl, hb, hg, hnc, hcm, hcs, htake⟩
  · have : F = [] := List.eq_nil_of_length_eq_zero h0
    subst this
    exact ⟨none, 0, rfl, by simp [maxLen], Or.inl rfl, fun _ => rfl, Nat.le_refl _⟩
  · refine ⟨some ⟨g, 0, none⟩, cap, rfl, by omega, Or.inr ⟨g, 0, rfl, fun i hi => ?_⟩, (fun h => by cases h), hnc⟩
    have c0 := h.cells (g := g) rfl (i * 4 + 0) _ (ndCells_get F i 0 hi (by decide))
    have c1 := h.cells (g := g) rfl (i * 4 + 1) _ (ndCells_get F i 1 hi (by decide))
    have c2 := h.cells (g := g) rfl (i * 4 + 2) _ (ndCells_get F i 2 hi (by decide))
    have c3 := h.cells (g := g) rfl (i * 4 + 3) _ (ndCells_get F i 3 hi (by decide))
    rw [add_none] at c0 c1 c2 c3
    exact ⟨c0, by rw [Nat.add_assoc]; exact c1, by rw [Nat.add_assoc]; exact c2, by rw [Nat.add_assoc]; exact c3⟩

/-- The opposite's nodes. -/
def negF (F : List Nd) : List Nd := fl F (F.length - 1) true 0

/-- What Negate tells. -/
def chkNeg (F : List Nd) : Int := if chkF F = 0 then chkF (negF F) else chkF F

end Go.Proofs.YtphoifgcmpjnoaaDoor
