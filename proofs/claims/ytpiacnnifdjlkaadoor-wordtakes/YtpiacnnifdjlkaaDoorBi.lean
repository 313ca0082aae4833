/-
  Plain facts: the shortest list that, again and again, makes up a loop, and the least shift of a word, are one.
-/
import Derived.Test.YtpiacnnifdjlkaaDoorBh
namespace Go.Proofs.YtpiacnnifdjlkaaDoor
open Go.RowKit

def cyc (ls : List Int) (j : Nat) : Int := ls.getD (j % ls.length) 0

theorem lat_cyc (hs ls : List Int) (j : Nat) : lat hs ls (hs.length + j) = cyc ls j := by
  unfold lat cyc
  rw [if_neg (by omega), Nat.add_sub_cancel_left]

theorem cyc_mod (ls : List Int) (j : Nat) : cyc ls (j % ls.length) = cyc ls j := by
  unfold cyc
  rw [Nat.mod_mod]

theorem cyc_len (ls : List Int) (j : Nat) : cyc ls (j + ls.length) = cyc ls j := by
  unfold cyc
  rw [Nat.add_mod_right]

/-- The word behind its head is the same n further on. -/
def Period (ls : List Int) (n : Nat) : Prop := ∀ j, cyc ls j = cyc ls (j + n)

theorem period_of_shift {hs ls : List Int} {n : Nat} (h0 : 0 < ls.length) (h : IsShift hs ls n) : Period ls n := by
  intro j
  have h1 := h (hs.length + j % ls.length) (by omega) (by have := Nat.mod_lt j h0; omega)
  rw [lat_cyc, Nat.add_assoc, lat_cyc, cyc_mod] at h1
  rw [h1]
  unfold cyc
  rw [Nat.mod_add_mod]

theorem shift_of_period {hs ls : List Int} {n : Nat} (h : Period ls n) : IsShift hs ls n := by
  intro i h1 _
  obtain ⟨j, rfl⟩ : ∃ j, i = hs.length + j := ⟨i - hs.length, by omega⟩
  rw [lat_cyc, Nat.add_assoc, lat_cyc]
  exact h j

theorem period_mul {ls : List Int} {n : Nat} (h : Period ls n) (q j : Nat) : cyc ls j = cyc ls (j + n * q) := by
  induction q with
  | zero => rfl
  | succ q ih => rw [ih, h (j + n * q), Nat.mul_succ, Nat.add_assoc]

theorem per_step {ls : List Int} {p : Nat} (h : IsPer ls p) (j : Nat) (hj : j + p < ls.length) : ls.getD (j + p) 0 = ls.getD j 0 := by
  have h4 := h.2.2.2
  have h1 : (ls.drop p).getD j 0 = (ls.take (ls.length - p)).getD j 0 := by rw [h4]
  simp only [List.getD, List.getElem?_drop, List.getElem?_take] at h1
  rw [if_pos (by omega), Nat.add_comm p j] at h1
  exact h1

theorem per_mul {ls : List Int} {p : Nat} (h : IsPer ls p) (r q : Nat) (hj : r + p * q < ls.length) : ls.getD (r + p * q) 0 = ls.getD r 0 := by
  induction q with
  | zero => rfl
  | succ q ih =>
    rw [Nat.mul_succ, ← Nat.add_assoc] at hj ⊢
    rw [per_step h _ hj, ih (by omega)]

theorem period_of_per {ls : List Int} {p : Nat} (h : IsPer ls p) : Period ls p := by
  have h0 : 0 < ls.length := by have := h.1; have := h.2.1; omega
  have key : ∀ i, i < ls.length → cyc ls i = ls.getD (i % p) 0 := by
    intro i hi
    have e : i % p + p * (i / p) = i := Nat.mod_add_div i p
    unfold cyc
    rw [Nat.mod_eq_of_lt hi]
    have := per_mul h (i % p) (i / p) (by rw [e]; exact hi)
    rw [e] at this
    exact this
  have dv : p ∣ ls.length := Nat.dvd_of_mod_eq_zero h.2.2.1
  have all : ∀ j, cyc ls j = ls.getD (j % p) 0 := by
    intro j
    rw [← cyc_mod, key _ (Nat.mod_lt _ h0), Nat.mod_mod_of_dvd _ dv]
  intro j
  rw [all j, all (j + p), Nat.add_mod_right]

theorem per_of_period {ls : List Int} {n : Nat} (h1 : 1 ≤ n) (h2 : n ≤ ls.length) (hd : ls.length % n = 0) (h : Period ls n) : IsPer ls n := by
  refine ⟨h1, h2, hd, ?_⟩
  apply List.ext_getElem
  · simp
  · intro i hi1 hi2
    have hi : i < ls.length - n := by simpa using hi1
    have e := h i
    unfold cyc at e
    rw [Nat.mod_eq_of_lt (by omega), Nat.mod_eq_of_lt (show i + n < ls.length by omega)] at e
    simp [List.getD, show i < ls.length by omega, show i + n < ls.length by omega] at e
    simp [e, Nat.add_comm]

theorem least_same {hs ls : List Int} {n p : Nat} (hn : LeastShift hs ls n) (hp : LeastPer ls p) : n = p := by
  obtain ⟨h1, h2, h3, h4⟩ := hn
  have h0 : 0 < ls.length := by omega
  have hpn := period_of_shift h0 h3
  have hmod : ls.length % n = 0 := by
    rcases Nat.eq_zero_or_pos (ls.length % n) with h | h
    · exact h
    · have hr : Period ls (ls.length % n) := by
        intro j
        have e : ls.length % n + n * (ls.length / n) = ls.length := Nat.mod_add_div _ _
        have := period_mul hpn (ls.length / n) (j + ls.length % n)
        rw [Nat.add_assoc, e, cyc_len] at this
        exact this.symm
      have := h4 _ h (shift_of_period hr)
      have := Nat.mod_lt ls.length (show 0 < n by omega)
      omega
  have a := hp.2 n (per_of_period h1 h2 hmod hpn)
  have b := h4 p hp.1.1 (shift_of_period (period_of_per hp.1))
  omega

theorem head_same {hs ls : List Int} {p k k' : Nat} (h : LeastHead hs ls p k) (h' : LeastHead hs ls p k') : k = k' := by
  have aux : ∀ {a b : Nat}, LeastHead hs ls p a → LeastHead hs ls p b → ¬ a < b := by
    intro a b ha hb hlt
    rcases hb.2.2 with h | h
    · omega
    · exact h (ha.2.1 (b - 1) (by omega) (by have := hb.1; omega))
  have := aux h h'
  have := aux h' h
  omega

/-- The least lasso of a word, and the same of the reference, have the same letters. -/
theorem leasts_same {hs ls : List Int} {p k p' k' : Nat} (hp : LeastPer ls p) (hk : LeastHead hs ls p k) (hp' : LeastShift hs ls p') (hk' : LeastHead hs ls p' k') : pieceOf hs ls 0 k = pieceOf hs ls 0 k' ∧ pieceOf hs ls k p = pieceOf hs ls k' p' := by
  have e := least_same hp' hp
  subst e
  have e2 := head_same hk hk'
  subst e2
  exact ⟨rfl, rfl⟩
end Go.Proofs.YtpiacnnifdjlkaaDoor
