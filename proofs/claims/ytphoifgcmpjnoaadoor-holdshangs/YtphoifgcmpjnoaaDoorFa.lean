/-
  The nodes of a formula's part, or of its opposite, without Nots but at the leaves: each behind all that it is made of, nothing twice.
-/
import Derived.Test.YtphoifgcmpjnoaaDoorEm
namespace Go.Proofs.YtphoifgcmpjnoaaDoor

def oppK (k : Int) : Int := if k = 4 then 5 else if k = 5 then 4 else if k = 7 then 8 else if k = 8 then 7 else k

/-- One step: g is what the parts come to. -/
def flS (x : Nd) (g : Nat → Bool → Nat → List Nd) (o : Bool) (m : Nat) : List Nd :=
  if x.k = 1 ∨ x.k = 2 then (if o = true then [⟨x.k, 0, 0, x.n⟩, ⟨3, (m : Nat), 0, 0⟩] else [⟨x.k, 0, 0, x.n⟩])
  else if x.k = 3 then g x.a.toNat (!o) m
  else if x.k = 6 then g x.a.toNat o m ++ [⟨6, (m + (g x.a.toNat o m).length - 1 : Nat), 0, 0⟩]
  else g x.a.toNat o m ++ (g x.b.toNat o (m + (g x.a.toNat o m).length) ++ [⟨if o = true then oppK x.k else x.k, (m + (g x.a.toNat o m).length - 1 : Nat), (m + (g x.a.toNat o m).length + (g x.b.toNat o (m + (g x.a.toNat o m).length)).length - 1 : Nat), 0⟩])

def flN (F : List Nd) : Nat → Nat → Bool → Nat → List Nd
  | 0, _, _, _ => []
  | f + 1, i, o, m => flS (F.getD i nd0) (flN F f) o m

theorem flS_congr {x : Nd} {g g' : Nat → Bool → Nat → List Nd} (ha : 3 ≤ x.k → g x.a.toNat = g' x.a.toNat) (hb : x.k = 4 ∨ x.k = 5 ∨ x.k = 7 ∨ x.k = 8 → g x.b.toNat = g' x.b.toNat) (hk : 1 ≤ x.k ∧ x.k ≤ 8) (o : Bool) (m : Nat) : flS x g o m = flS x g' o m := by
  unfold flS
  by_cases h1 : x.k = 1 ∨ x.k = 2
  · rw [if_pos h1, if_pos h1]
  rw [if_neg h1, if_neg h1, ha (by omega)]
  by_cases h3 : x.k = 3
  · rw [if_pos h3, if_pos h3]
  rw [if_neg h3, if_neg h3]
  by_cases h6 : x.k = 6
  · rw [if_pos h6, if_pos h6]
  rw [if_neg h6, if_neg h6, hb (by omega)]

theorem flN_fuel {F : List Nd} (hF : AllOk F) : ∀ i f, i < F.length → i < f → flN F f i = flN F (i + 1) i := by
  intro i
  induction i using Nat.strongRecOn with
  | ind i ih =>
    intro f hi hf
    obtain ⟨g, rfl⟩ : ∃ g, f = g + 1 := ⟨f - 1, by omega⟩
    obtain ⟨hk, ⟨a0, a1, _⟩, ⟨b0, b1, _⟩, _⟩ := node_ok (hF i hi)
    funext o m
    show flS (F.getD i nd0) (flN F g) o m = flS (F.getD i nd0) (flN F i) o m
    refine flS_congr (fun h3 => ?_) (fun h3 => ?_) hk o m
    · have := a1 h3
      rw [ih _ (by omega) g (by omega) (by omega), ih _ (by omega) i (by omega) (by omega)]
    · have := b1 h3
      rw [ih _ (by omega) g (by omega) (by omega), ih _ (by omega) i (by omega) (by omega)]

/-- The nodes of node i, or of its opposite, the first one of number m. -/
def fl (F : List Nd) (i : Nat) (o : Bool) (m : Nat) : List Nd := flN F (i + 1) i o m

theorem fl_eq {F : List Nd} (hF : AllOk F) (i : Nat) (hi : i < F.length) (o : Bool) (m : Nat) : fl F i o m = flS (F.getD i nd0) (fl F) o m := by
  obtain ⟨hk, ⟨a0, a1, _⟩, ⟨b0, b1, _⟩, _⟩ := node_ok (hF i hi)
  show flS (F.getD i nd0) (flN F i) o m = _
  refine flS_congr (fun h3 => ?_) (fun h3 => ?_) hk o m
  · have := a1 h3
    rw [flN_fuel hF _ i (by omega) (by omega)]
    rfl
  · have := b1 h3
    rw [flN_fuel hF _ i (by omega) (by omega)]
    rfl

theorem fl_len {F : List Nd} (hF : AllOk F) : ∀ i, i < F.length → ∀ o m, (fl F i o m).length = (fl F i o 0).length ∧ 0 < (fl F i o m).length ∧ (fl F i o m).length + 2 ≤ 2 ^ (i + 2) := by
  intro i
  induction i using Nat.strongRecOn with
  | ind i ih =>
    intro hi o m
    obtain ⟨hk, ⟨a0, a1, _⟩, ⟨b0, b1, _⟩, _⟩ := node_ok (hF i hi)
    rw [fl_eq hF i hi o m, fl_eq hF i hi o 0]
    have h2i : ∀ j, j < i → 2 ^ (j + 2) ≤ 2 ^ (i + 1) := fun j hj => Nat.pow_le_pow_right (by decide) (by omega)
    have h2 : 2 ^ (i + 2) = 2 * 2 ^ (i + 1) := by rw [Nat.pow_succ]; omega
    have hp : 2 ≤ 2 ^ (i + 1) := by rw [Nat.pow_succ]; have := Nat.one_le_two_pow (n := i); omega
    generalize F.getD i nd0 = x at *
    unfold flS
    by_cases h1 : x.k = 1 ∨ x.k = 2
    · rw [if_pos h1, if_pos h1]
      cases o <;> simp <;> omega
    rw [if_neg h1, if_neg h1]
    have ha := a1 (by omega)
    have ja := h2i x.a.toNat (by omega)
    by_cases h3 : x.k = 3
    · rw [if_pos h3, if_pos h3]
      have ia := ih x.a.toNat (by omega) (by omega) (!o) m
      exact ⟨ia.1, ia.2.1, by omega⟩
    rw [if_neg h3, if_neg h3]
    have ia := ih x.a.toNat (by omega) (by omega) o m
    have ia0 := ih x.a.toNat (by omega) (by omega) o 0
    by_cases h6 : x.k = 6
    · rw [if_pos h6, if_pos h6]
      simp only [List.length_append, List.length_cons, List.length_nil]
      omega
    rw [if_neg h6, if_neg h6]
    have hb := b1 (by omega)
    have jb := h2i x.b.toNat (by omega)
    have ib := ih x.b.toNat (by omega) (by omega) o (m + (fl F x.a.toNat o m).length)
    have ib0 := ih x.b.toNat (by omega) (by omega) o (0 + (fl F x.a.toNat o 0).length)
    simp only [List.length_append, List.length_cons, List.length_nil]
    omega
end Go.Proofs.YtphoifgcmpjnoaaDoor
