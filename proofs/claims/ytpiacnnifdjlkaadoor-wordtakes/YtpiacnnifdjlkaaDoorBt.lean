/-
  The graph of spots; how many are not met yet; paths as they lie in memory.
-/
import Derived.Test.YtpiacnnifdjlkaaDoorBs
import Derived.Deep.LoopGhost
namespace Go.Proofs.YtpiacnnifdjlkaaDoor
open Go.RowKit Go.Sort

/-- A step leads from one spot to another one. -/
def Edge (R : Rn) (D : Nat → Nat → Nat → Nat) (x y : Spot) : Prop := y.1 = nextOf R x.1 ∧ inB (D x.2 (lat R.hs R.ls x.1).toNat) y.2 = true

def inM (M : Nat → Nat → Nat) (x : Spot) : Prop := inB (M x.1) x.2 = true

def InR (R : Rn) (x : Spot) : Prop := x.1 < R.hs.length + R.ls.length ∧ x.2 < R.N

theorem inM_addM (M : Nat → Nat → Nat) (p s : Nat) : inM (addM M p s) = fun z => inM M z ∨ z = (p, s) := by
  funext z
  apply propext
  unfold inM
  rw [inM_add]
  obtain ⟨q, t⟩ := z
  simp

theorem next_lt (R : Rn) (p : Nat) (hl : R.ls ≠ []) (hp : p < R.hs.length + R.ls.length) : nextOf R p < R.hs.length + R.ls.length := by
  have := List.length_pos_iff.2 hl
  unfold nextOf
  split <;> omega

/-- How many spots are not met. -/
def unmetOf (R : Rn) (M : Nat → Nat → Nat) : Nat := (List.range ((R.hs.length + R.ls.length) * R.N)).countP fun i => !inB (M (i / R.N)) (i % R.N)

theorem countP_lt {p q : Nat → Bool} : ∀ (l : List Nat), (∀ i, q i = true → p i = true) → ∀ k, k ∈ l → p k = true → q k = false → l.countP q + 1 ≤ l.countP p
  | [], _, k, hk, _, _ => by cases hk
  | a :: l, h, k, hk, hp, hq => by
    have hle : l.countP q ≤ l.countP p := List.countP_mono_left fun i _ hi => h i hi
    rw [List.countP_cons, List.countP_cons]
    rcases List.mem_cons.1 hk with rfl | hk
    · rw [hp, hq]; simp; exact hle
    · have ih := countP_lt l h k hk hp hq
      by_cases hqa : q a = true
      · rw [hqa, h a hqa]; simp; omega
      · rw [Bool.not_eq_true] at hqa
        rw [hqa]; simp; split <;> omega

theorem unmet_add (R : Rn) (M : Nat → Nat → Nat) (x : Spot) (hx : InR R x) (hn : ¬ inM M x) : unmetOf R (addM M x.1 x.2) + 1 ≤ unmetOf R M := by
  obtain ⟨p, s⟩ := x
  obtain ⟨h1, h2⟩ := hx
  dsimp only at h1 h2
  unfold unmetOf
  have e1 : (p * R.N + s) / R.N = p := by
    rw [Nat.mul_comm, Nat.mul_add_div (by omega), Nat.div_eq_of_lt h2, Nat.add_zero]
  have e2 : (p * R.N + s) % R.N = s := by
    rw [Nat.mul_comm, Nat.mul_add_mod, Nat.mod_eq_of_lt h2]
  refine countP_lt _ (fun i hi => ?_) (p * R.N + s) ?_ ?_ ?_
  · rw [inM_add] at hi
    simp at hi
    simp [hi.1]
  · rw [List.mem_range]
    calc p * R.N + s < p * R.N + R.N := by omega
      _ = (p + 1) * R.N := by rw [Nat.succ_mul]
      _ ≤ (R.hs.length + R.ls.length) * R.N := Nat.mul_le_mul_right _ (by omega)
  · rw [e1, e2]
    unfold inM at hn
    simpa using hn
  · rw [e1, e2, inM_add]
    simp

theorem unmet_le (R : Rn) (M : Nat → Nat → Nat) (h1 : R.hs.length ≤ 4000) (h2 : R.ls.length ≤ 4000) (h3 : R.N ≤ 300) : unmetOf R M ≤ 2400000 := by
  unfold unmetOf
  have h := List.countP_le_length (p := fun i => !inB (M (i / R.N)) (i % R.N)) (l := List.range ((R.hs.length + R.ls.length) * R.N))
  rw [List.length_range] at h
  have : (R.hs.length + R.ls.length) * R.N ≤ 8000 * 300 := Nat.mul_le_mul (by omega) h3
  omega

/-- The path's cells: the newest stands last. -/
def flat : List Spot → List Value
  | [] => []
  | x :: r => flat r ++ [.int .i64 x.1, .int .i64 x.2]

theorem flat_length (l : List Spot) : (flat l).length = l.length * 2 := by
  induction l with
  | nil => rfl
  | cons x r ih => simp [flat, ih]; omega

theorem spotInfo : Tryd.prog.info? 151 = some Tryd.t151 := by kernel_rfl

theorem Fr.owns {RR : List Nat} {w w' : World} {base : Nat} {e : TypeId} {size : Nat} {v : Value} {n : Nat} {xs : List Value} (h : w.ownsRow base e size v n xs) (hf : Fr RR w w') (hR : ∀ k, k ∈ RR → k < base) : w'.ownsRow base e size v n xs := by
  refine ⟨h.1, ?_⟩
  rcases h.2 with h2 | ⟨g, cap, cur, hv, hg, hh, r⟩
  · exact Or.inl h2
  · refine Or.inr ⟨g, cap, cur, hv, hg, ?_, r⟩
    rw [hf.block g (Array.getElem?_eq_some_iff.1 hh).1 (fun hm => by have := hR g hm; omega)]
    exact hh

/-- The newest spot of a path. -/
theorem path_last {w : World} {base g cap : Nat} {x : Spot} {r : List Spot} (h : w.ownsRow base 151 2 (.slice (some ⟨g, 0, none⟩) (r.length + 1) cap) (r.length + 1) (flat (x :: r))) :
    w.cell? ⟨g, r.length * 2, none⟩ = some (.int .i64 x.1) ∧ w.cell? ⟨g, r.length * 2 + 1, none⟩ = some (.int .i64 x.2) := by
  have e := flat_length r
  constructor
  · have := h.cells (g := g) rfl (r.length * 2) (.int .i64 x.1) (by simp [flat, ← e])
    rwa [add_none, Nat.zero_add] at this
  · have := h.cells (g := g) rfl (r.length * 2 + 1) (.int .i64 x.2) (by simp only [flat]; rw [List.getElem?_append_right (by omega), e]; simp)
    rwa [add_none, Nat.zero_add] at this
end Go.Proofs.YtpiacnnifdjlkaaDoor
