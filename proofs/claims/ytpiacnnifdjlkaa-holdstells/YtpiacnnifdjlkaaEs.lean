/-
  What the reference's HoldsAt and TableOf answer.
-/
import Derived.Test.YtpiacnnifdjlkaaEr
import Derived.Test.YtpiacnnifdjlkaaAz
namespace Go.Proofs.Ytpiacnnifdjlkaa
open Go.RowKit Go.Sort

theorem holdsAt_any {w : World} {fv hv lv tv : Value} {F : List Nd} {hs ls : List Int} {T : List (List Bool)} {i at_ : Nat} (h : HA w fv hv lv tv F hs ls T i at_) :
    Calls Try.prog 18 #[fv, .agg #[hv, lv], tv, .int .i64 i, .int .i64 at_] w fun e w' => e = .returned (.bool (valB T hs.length ls.length (fun i => (hs ++ ls).getD i 0) (F.getD i nd0) at_)) ∧ Below w.heap.size w w' := by
  have hk := (node_ok h.node).1
  by_cases h1 : (F.getD i nd0).k = 1 ∨ (F.getD i nd0).k = 2
  · exact holdsAt_leaf h h1
  by_cases h3 : (F.getD i nd0).k = 3
  · exact holdsAt_3 h h3
  by_cases h4 : (F.getD i nd0).k = 4
  · exact holdsAt_4 h h4
  by_cases h5 : (F.getD i nd0).k = 5
  · exact holdsAt_5 h h5
  by_cases h6 : (F.getD i nd0).k = 6
  · exact holdsAt_6 h h6
  by_cases h7 : (F.getD i nd0).k = 7
  · exact holdsAt_7 h h7
  · exact holdsAt_8 h (by omega)

theorem elkBool : ElK 37 4 1 := ⟨Try.underlying37, ⟨_, .bool false, boolInfo2, by kernel_rfl, rfl, by kernel_rfl, by kernel_rfl⟩, by decide⟩
theorem elkRow : ElK 27 37 24 := ⟨Try.underlying27, ⟨_, .slice none 0 0, rowInfo, by kernel_rfl, rfl, by kernel_rfl, by kernel_rfl⟩, by decide⟩

/-- A row, in a block of bools. -/
def RowB (w : World) (v : Value) (zs : List Bool) : Prop := RowSl w v zs ∧ ∀ b, v.ownBlock = some b → ∃ cur, w.heap[b]? = some (.cells cur 4 (0, 0))

theorem rowB_of_owns {w : World} {base : Nat} {v : Value} {zs : List Bool} {n : Nat} (h : w.ownsRow base 4 1 v n (zs.map .bool)) : RowB w v zs := by
  have hl : zs.length = n := by simpa using h.1
  rcases h.2 with ⟨rfl, h0⟩ | ⟨g, cap, cur, rfl, hb, hg, hnc, hcm, hcs, htake⟩
  · have : zs = [] := List.eq_nil_of_length_eq_zero (by omega)
    subst this
    exact ⟨⟨none, 0, rfl, by simp [maxLen], Or.inl rfl, fun _ => rfl, Nat.le_refl _⟩, fun b hb => by cases hb⟩
  · subst hl
    refine ⟨⟨some ⟨g, 0, none⟩, cap, rfl, by omega, Or.inr ⟨g, 0, rfl, fun i hi => ?_⟩, (fun h => by cases h), hnc⟩, fun b hb => ?_⟩
    · have := h.cells (g := g) rfl i (.bool (zs.getD i false)) (by simp [List.getD, hi])
      rwa [add_none] at this
    · have : g = b := by simpa [Value.ownBlock] using hb
      subst this
      exact ⟨cur, hg⟩

theorem RowB.below {w w' : World} {v : Value} {zs : List Bool} (h : RowB w v zs) (hb : Below w.heap.size w w') : RowB w' v zs :=
  ⟨h.1.below hb, fun b hv => by obtain ⟨cur, hc⟩ := h.2 b hv; exact ⟨cur, block_keep hc hb⟩⟩

theorem RowB.grown {w w' : World} {v o : Value} {zs : List Bool} {base n : Nat} {xs : List Value} (h : RowB w v zs) (ho : w.ownsRow base 37 1 o n xs) (hg : w.grownBy w' o.ownBlock) : RowB w' v zs := by
  have hkeep : ∀ b, v.ownBlock = some b → w'.heap[b]? = w.heap[b]? := fun b hv => by
    obtain ⟨cur, hc⟩ := h.2 b hv
    refine hg.block b (Array.getElem?_eq_some_iff.1 hc).1 ?_
    intro e
    have e := e.symm
    rcases ho.2 with ⟨rfl, _⟩ | ⟨g, cap, cur', rfl, _, hg', _⟩
    · cases e
    · have : g = b := by simpa [Value.ownBlock] using e
      subst this
      rw [hc] at hg'
      cases hg'
  refine ⟨?_, fun b hv => by obtain ⟨cur, hc⟩ := h.2 b hv; exact ⟨cur, (hkeep b hv).trans hc⟩⟩
  obtain ⟨a, cap, rfl, hm, hz, hn⟩ := h.1
  refine ⟨a, cap, rfl, hm, ?_, hn⟩
  rcases hz with hz | ⟨b, off, rfl, hc⟩
  · exact Or.inl hz
  · exact Or.inr ⟨b, off, rfl, fun i hi => by rw [World.cell?_of_block (a := ⟨b, off + i, none⟩) (hkeep b rfl)]; exact hc i hi⟩

/-- The rows that stand so far. -/
structure OutOk (w : World) (base : Nat) (o : Value) (T : List (List Bool)) : Prop where
  owns : ∃ vs : List Value, w.ownsRow base 37 1 o T.length vs ∧ ∀ j, j < T.length → ∃ a n c, vs[j]? = some (.slice a n c) ∧ RowB w (.slice a n c) (T.getD j [])

theorem OutOk.below {w w' : World} {base : Nat} {o : Value} {T : List (List Bool)} (h : OutOk w base o T) (hb : Below w.heap.size w w') : OutOk w' base o T := by
  obtain ⟨vs, h1, h2⟩ := h.owns
  exact ⟨vs, h1.kept (row := none) ⟨hb.os, hb.tape, hb.output, hb.size, fun k hk _ => hb.block k hk⟩ (by cases hv : o.ownBlock <;> simp), fun j hj => by
    obtain ⟨a, n, c, h3, h4⟩ := h2 j hj
    exact ⟨a, n, c, h3, h4.below hb⟩⟩

theorem OutOk.grid {w : World} {base : Nat} {o : Value} {T : List (List Bool)} (h : OutOk w base o T) (hT : T.length ≤ 1000) : GridSl w o T := by
  obtain ⟨vs, h1, h2⟩ := h.owns
  rcases h1.2 with ⟨rfl, h0⟩ | ⟨g, cap, cur, rfl, hb, hg, hnc, hcm, hcs, htake⟩
  · have : T = [] := List.eq_nil_of_length_eq_zero h0
    subst this
    exact ⟨none, 0, rfl, hT, Or.inl rfl⟩
  · refine ⟨_, _, rfl, hT, Or.inr ⟨g, rfl, fun j hj => ?_⟩⟩
    obtain ⟨a, n, c, h3, h4⟩ := h2 j hj
    have := h1.cells (g := g) rfl j _ h3
    rw [add_none, Nat.zero_add] at this
    exact ⟨a, n, c, this, h4.1⟩

theorem OutOk.app {w w' : World} {base : Nat} {o o' : Value} {T : List (List Bool)} {a : Option Addr} {n c : Nat} {zs : List Bool} {vs : List Value} (h1 : w.ownsRow base 37 1 o T.length vs) (h2 : ∀ j, j < T.length → ∃ a n c, vs[j]? = some (.slice a n c) ∧ RowB w (.slice a n c) (T.getD j [])) (hr : RowB w (.slice a n c) zs) (ho : w'.ownsRow base 37 1 o' (T.length + 1) (vs ++ [.slice a n c])) (hg : w.grownBy w' o.ownBlock) : OutOk w' base o' (T ++ [zs]) := by
  have hvl : vs.length = T.length := by simpa using h1.1
  refine ⟨vs ++ [.slice a n c], by rw [List.length_append]; exact ho, fun j hj => ?_⟩
  rw [List.length_append] at hj
  by_cases e : j < T.length
  · obtain ⟨a', n', c', h3, h4⟩ := h2 j e
    refine ⟨a', n', c', by rw [List.getElem?_append_left (by omega)]; exact h3, ?_⟩
    have : (T ++ [zs]).getD j [] = T.getD j [] := by simp [List.getD, List.getElem?_append, e]
    rw [this]
    exact h4.grown h1 hg
  · have ej : j = T.length := by simp at hj; omega
    subst ej
    refine ⟨a, n, c, by rw [← hvl]; simp, ?_⟩
    have : (T ++ [zs]).getD T.length [] = zs := by simp [List.getD]
    rw [this]
    exact hr.grown h1 hg
end Go.Proofs.Ytpiacnnifdjlkaa
