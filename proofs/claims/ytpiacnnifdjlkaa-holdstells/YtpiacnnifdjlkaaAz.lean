/-
  append of one element of one cell to a slice of the call's own.
-/
import Derived.Test.YtpiacnnifdjlkaaBd
namespace Go.Proofs.Ytpiacnnifdjlkaa
open Go.RowKit Go.Sort

/-- What is known of an element's type. -/
structure ElK (t e : TypeId) (by_ : Nat) : Prop where
  under : Try.prog.underlying t = some (.slice e)
  info : ∃ i z, Try.prog.info? e = some i ∧ i.zero = some z ∧ z.cells.size = 1 ∧ i.size = 1 ∧ i.bytes = by_
  few : by_ ≤ 64

/-- append of one element of one cell, onto a slice of the call's own. -/
theorem run_app1 (w : World) (ty t e base n by_ : Nat) (hT : ElK t e by_) (v : Value) (xs : List Value) (hown : w.ownsRow base e 1 v n xs) (B c : Nat) (u : Value) (hc : w.cell? ⟨B, 0, none⟩ = some u) (h1 : u.oneCell' = true) (hn : n ≤ 900000) (hbase : base ≤ w.heap.size) :
    ∃ v' w', (Builtin.append_ #[t, t] ty #[v, .slice (some ⟨B, 0, none⟩) 1 c]).run Try.prog w = .ok v' w' ∧ w'.ownsRow base e 1 v' (n + 1) (xs ++ [u]) ∧ w.grownBy w' v.ownBlock := by
  obtain ⟨i, z, hi, hz, hzs, his, hib⟩ := hT.info
  have hf := hT.few
  obtain ⟨v', w', hr, h2, h3, _, h5⟩ := run_append_own_at (P := Try.prog) w base t ty e i z 1 by_ hT.under hi hz his hib hzs (by decide) v n xs hown ⟨B, 0, none⟩ 1 c [u] rfl (fun j x hx => by
    cases j with
    | zero => rw [add_none]; simp at hx; rw [← hx]; exact hc
    | succ j => simp at hx) (fun x hx => by simp at hx; rw [hx]; exact h1) (by unfold maxLen; omega) (by have : (n + 1) * by_ ≤ 900001 * 64 := Nat.mul_le_mul (by omega) hf; omega) hbase
  exact ⟨v', w', hr, h2, h3⟩

end Go.Proofs.Ytpiacnnifdjlkaa
