/-
  The text of a formula's part.
-/
import Derived.Test.YtphoifgcmpjnoaaDoorFk
namespace Go.Proofs.YtphoifgcmpjnoaaDoor

def signB (k : Int) : UInt8 := if k = 4 then 38 else if k = 5 then 124 else if k = 7 then 85 else 82

/-- One step: g is what the parts come to. -/
def shS (x : Nd) (g : Nat → List UInt8) : List UInt8 :=
  if x.k = 1 then [116, 114, 117, 101]
  else if x.k = 2 then [112, UInt8.ofNat (48 + x.n.toNat)]
  else if x.k = 3 then 33 :: g x.a.toNat
  else if x.k = 6 then 88 :: g x.a.toNat
  else 40 :: (g x.a.toNat ++ (32 :: signB x.k :: 32 :: (g x.b.toNat ++ [41])))

def shN (F : List Nd) : Nat → Nat → List UInt8
  | 0, _ => []
  | f + 1, i => shS (F.getD i nd0) (shN F f)

theorem shS_congr {x : Nd} {g g' : Nat → List UInt8} (ha : 3 ≤ x.k → g x.a.toNat = g' x.a.toNat) (hb : x.k = 4 ∨ x.k = 5 ∨ x.k = 7 ∨ x.k = 8 → g x.b.toNat = g' x.b.toNat) (hk : 1 ≤ x.k ∧ x.k ≤ 8) : shS x g = shS x g' := by
  unfold shS
  by_cases h1 : x.k = 1
  · rw [if_pos h1, if_pos h1]
  by_cases h2 : x.k = 2
  · rw [if_neg h1, if_pos h2, if_neg h1, if_pos h2]
  rw [if_neg h1, if_neg h1, if_neg h2, if_neg h2, ha (by omega)]
  by_cases h3 : x.k = 3
  · rw [if_pos h3, if_pos h3]
  rw [if_neg h3, if_neg h3]
  by_cases h6 : x.k = 6
  · rw [if_pos h6, if_pos h6]
  rw [if_neg h6, if_neg h6, hb (by omega)]

theorem shN_fuel {F : List Nd} (hF : AllOk F) : ∀ i f, i < F.length → i < f → shN F f i = shN F (i + 1) i := by
  intro i
  induction i using Nat.strongRecOn with
  | ind i ih =>
    intro f hi hf
    obtain ⟨g, rfl⟩ : ∃ g, f = g + 1 := ⟨f - 1, by omega⟩
    obtain ⟨hk, ⟨a0, a1, _⟩, ⟨b0, b1, _⟩, _⟩ := node_ok (hF i hi)
    show shS (F.getD i nd0) (shN F g) = shS (F.getD i nd0) (shN F i)
    refine shS_congr (fun h3 => ?_) (fun h3 => ?_) hk
    · have := a1 h3
      rw [ih _ (by omega) g (by omega) (by omega), ih _ (by omega) i (by omega) (by omega)]
    · have := b1 h3
      rw [ih _ (by omega) g (by omega) (by omega), ih _ (by omega) i (by omega) (by omega)]

/-- The text of node i. -/
def sh (F : List Nd) (i : Nat) : List UInt8 := shN F (i + 1) i

theorem sh_eq {F : List Nd} (hF : AllOk F) (i : Nat) (hi : i < F.length) : sh F i = shS (F.getD i nd0) (sh F) := by
  obtain ⟨hk, ⟨a0, a1, _⟩, ⟨b0, b1, _⟩, _⟩ := node_ok (hF i hi)
  show shS (F.getD i nd0) (shN F i) = _
  refine shS_congr (fun h3 => ?_) (fun h3 => ?_) hk
  · have := a1 h3
    rw [shN_fuel hF _ i (by omega) (by omega)]
    rfl
  · have := b1 h3
    rw [shN_fuel hF _ i (by omega) (by omega)]
    rfl

theorem sh_len {F : List Nd} (hF : AllOk F) : ∀ i, i < F.length → (sh F i).length + 5 ≤ 5 * 2 ^ (i + 1) := by
  intro i
  induction i using Nat.strongRecOn with
  | ind i ih =>
    intro hi
    obtain ⟨hk, ⟨a0, a1, _⟩, ⟨b0, b1, _⟩, _⟩ := node_ok (hF i hi)
    rw [sh_eq hF i hi]
    have h2i : ∀ j, j < i → 2 ^ (j + 1) ≤ 2 ^ i := fun j hj => Nat.pow_le_pow_right (by decide) (by omega)
    have h2 : 2 ^ (i + 1) = 2 * 2 ^ i := by rw [Nat.pow_succ]; omega
    have hp := Nat.one_le_two_pow (n := i)
    generalize F.getD i nd0 = x at *
    unfold shS
    by_cases h1 : x.k = 1
    · rw [if_pos h1]; simp; omega
    rw [if_neg h1]
    by_cases h2 : x.k = 2
    · rw [if_pos h2]; simp; omega
    rw [if_neg h2]
    have ha := a1 (by omega)
    have ja := h2i x.a.toNat (by omega)
    have ia := ih x.a.toNat (by omega) (by omega)
    by_cases h3 : x.k = 3
    · rw [if_pos h3]; simp only [List.length_cons]; omega
    rw [if_neg h3]
    by_cases h6 : x.k = 6
    · rw [if_pos h6]; simp only [List.length_cons]; omega
    rw [if_neg h6]
    have hb := b1 (by omega)
    have jb := h2i x.b.toNat (by omega)
    have ib := ih x.b.toNat (by omega) (by omega)
    simp only [List.length_append, List.length_cons, List.length_nil]
    omega

/-- A text of bytes, as a string's value. -/
def strV (l : List UInt8) : Value := .string ⟨l.toArray⟩

theorem str_app (l m : List UInt8) : (⟨l.toArray⟩ : ByteArray) ++ ⟨m.toArray⟩ = ⟨(l ++ m).toArray⟩ := by
  apply ByteArray.ext
  simp
end Go.Proofs.YtphoifgcmpjnoaaDoor
