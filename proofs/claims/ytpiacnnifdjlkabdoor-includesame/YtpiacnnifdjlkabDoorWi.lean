/-
  Whether a lasso is taken hangs on its two tables; heads may be short. Plain mathematics.
-/
import Derived.Test.YtpiacnnifdjlkabDoorWe
/-
  Words' tables: how a word leads from one state to another one, of three. Plain mathematics.
-/
namespace Go.Proofs.YtpiacnnifdjlkabDoor

/-- A word leads from a state to another one; over a good one? -/
def goW (A : Aut) : List Int → Nat → Nat → Bool → Prop
  | [], p, q, g => p = q ∧ g = false
  | c :: w, p, q, g => ∃ r g', stepU A p c r ∧ goW A w r q g' ∧ g = (A.good.getD r false || g')

theorem goW_append {A : Aut} : ∀ {w v : List Int} {p q : Nat} {g : Bool}, goW A (w ++ v) p q g ↔ ∃ r g1 g2, goW A w p r g1 ∧ goW A v r q g2 ∧ g = (g1 || g2)
  | [], v, p, q, g => by
    constructor
    · intro h
      exact ⟨p, false, g, ⟨rfl, rfl⟩, h, by simp⟩
    · rintro ⟨r, g1, g2, ⟨rfl, rfl⟩, h, rfl⟩
      simpa using h
  | c :: w, v, p, q, g => by
    constructor
    · rintro ⟨r, g', hs, h, rfl⟩
      obtain ⟨r', g1, g2, h1, h2, rfl⟩ := goW_append.1 h
      exact ⟨r', _, g2, ⟨r, g1, hs, h1, rfl⟩, h2, by cases A.good.getD r false <;> simp⟩
    · rintro ⟨r', g1, g2, ⟨r, g', hs, h1, rfl⟩, h2, rfl⟩
      exact ⟨r, _, hs, goW_append.2 ⟨r', g', g2, h1, h2, rfl⟩, by cases A.good.getD r false <;> simp⟩

theorem goW_lt {A : Aut} (hA : Three A) : ∀ {w : List Int} {p q : Nat} {g : Bool}, goW A w p q g → p < 3 → q < 3
  | [], _, _, _, h, hp => h.1 ▸ hp
  | _ :: _, _, _, _, ⟨_, _, ⟨s, hs, _, _, e⟩, h, _⟩, _ => goW_lt hA h (hA.2 s hs _ e)

def atT (t : List Nat) (p q : Nat) : Nat := t.getD (3 * p + q) 0
def mkT (f : Nat → Nat → Nat) : List Nat := (List.range 9).map fun k => f (k / 3) (k % 3)

theorem at_mk {f : Nat → Nat → Nat} {p q : Nat} (hp : p < 3) (hq : q < 3) : atT (mkT f) p q = f p q := by
  unfold atT mkT
  rw [getD_map_range (by omega), show (3 * p + q) / 3 = p by omega, show (3 * p + q) % 3 = q by omega]

/-- A table of how one comes from one state to another one. -/
def TabOf (G : Nat → Nat → Bool → Prop) (t : List Nat) : Prop := ∀ p q, p < 3 → q < 3 → atT t p q ≤ 2 ∧ (1 ≤ atT t p q ↔ ∃ g, G p q g) ∧ (2 ≤ atT t p q ↔ G p q true)

/-- A word's table. -/
def IsTab (A : Aut) (w : List Int) (t : List Nat) : Prop := TabOf (goW A w) t

def compG (G H : Nat → Nat → Bool → Prop) (p q : Nat) (g : Bool) : Prop := ∃ r g1 g2, G p r g1 ∧ H r q g2 ∧ g = (g1 || g2)

theorem TabOf.congr {G H : Nat → Nat → Bool → Prop} {t : List Nat} (h : TabOf G t) (e : ∀ p q g, p < 3 → q < 3 → (G p q g ↔ H p q g)) : TabOf H t := by
  intro p q hp hq
  obtain ⟨h1, h2, h3⟩ := h p q hp hq
  exact ⟨h1, h2.trans ⟨fun ⟨g, k⟩ => ⟨g, (e p q g hp hq).1 k⟩, fun ⟨g, k⟩ => ⟨g, (e p q g hp hq).2 k⟩⟩, h3.trans (e p q true hp hq)⟩

def opM (a b : Nat) : Nat := if a ≠ 0 ∧ b ≠ 0 then max a b else 0
def thenT (t u : List Nat) : List Nat := mkT fun p q => max (max (opM (atT t p 0) (atT u 0 q)) (opM (atT t p 1) (atT u 1 q))) (opM (atT t p 2) (atT u 2 q))

theorem opM_one (a b : Nat) : 1 ≤ opM a b ↔ 1 ≤ a ∧ 1 ≤ b := by unfold opM; split <;> omega
theorem opM_two (a b : Nat) : 2 ≤ opM a b ↔ 1 ≤ a ∧ 1 ≤ b ∧ (2 ≤ a ∨ 2 ≤ b) := by unfold opM; split <;> omega
theorem opM_le {a b : Nat} (ha : a ≤ 2) (hb : b ≤ 2) : opM a b ≤ 2 := by unfold opM; split <;> omega

theorem then_at {t u : List Nat} {p q k : Nat} (hp : p < 3) (hq : q < 3) : k ≤ atT (thenT t u) p q ↔ ∃ r, r < 3 ∧ k ≤ opM (atT t p r) (atT u r q) := by
  unfold thenT
  rw [at_mk hp hq]
  constructor
  · intro h
    by_cases h0 : k ≤ opM (atT t p 0) (atT u 0 q)
    · exact ⟨0, by omega, h0⟩
    · by_cases h1 : k ≤ opM (atT t p 1) (atT u 1 q)
      · exact ⟨1, by omega, h1⟩
      · exact ⟨2, by omega, by omega⟩
  · rintro ⟨r, hr, h⟩
    have : r = 0 ∨ r = 1 ∨ r = 2 := by omega
    rcases this with rfl | rfl | rfl <;> omega

theorem then_le {t u : List Nat} (ht : ∀ p q, p < 3 → q < 3 → atT t p q ≤ 2) (hu : ∀ p q, p < 3 → q < 3 → atT u p q ≤ 2) {p q : Nat} (hp : p < 3) (hq : q < 3) : atT (thenT t u) p q ≤ 2 := by
  unfold thenT
  rw [at_mk hp hq]
  have h0 := opM_le (ht p 0 hp (by omega)) (hu 0 q (by omega) hq)
  have h1 := opM_le (ht p 1 hp (by omega)) (hu 1 q (by omega) hq)
  have h2 := opM_le (ht p 2 hp (by omega)) (hu 2 q (by omega) hq)
  omega

theorem then_tabG {G H : Nat → Nat → Bool → Prop} (hG : ∀ p q g, G p q g → p < 3 → q < 3) {t u : List Nat} (ht : TabOf G t) (hu : TabOf H u) : TabOf (compG G H) (thenT t u) := by
  intro p q hp hq
  refine ⟨then_le (fun p q hp hq => (ht p q hp hq).1) (fun p q hp hq => (hu p q hp hq).1) hp hq, ?_, ?_⟩
  · rw [then_at hp hq]
    constructor
    · rintro ⟨r, hr, h⟩
      obtain ⟨h1, h2⟩ := (opM_one _ _).1 h
      obtain ⟨g1, k1⟩ := (ht p r hp hr).2.1.1 h1
      obtain ⟨g2, k2⟩ := (hu r q hr hq).2.1.1 h2
      exact ⟨_, r, g1, g2, k1, k2, rfl⟩
    · rintro ⟨g, h⟩
      obtain ⟨r, g1, g2, k1, k2, _⟩ := h
      have hr := hG _ _ _ k1 hp
      exact ⟨r, hr, (opM_one _ _).2 ⟨(ht p r hp hr).2.1.2 ⟨g1, k1⟩, (hu r q hr hq).2.1.2 ⟨g2, k2⟩⟩⟩
  · rw [then_at hp hq]
    constructor
    · rintro ⟨r, hr, h⟩
      obtain ⟨h1, h2, h3⟩ := (opM_two _ _).1 h
      obtain ⟨g1, k1⟩ := (ht p r hp hr).2.1.1 h1
      obtain ⟨g2, k2⟩ := (hu r q hr hq).2.1.1 h2
      rcases h3 with h3 | h3
      · exact ⟨r, true, g2, (ht p r hp hr).2.2.1 h3, k2, by simp⟩
      · exact ⟨r, g1, true, k1, (hu r q hr hq).2.2.1 h3, by simp⟩
    · intro h
      obtain ⟨r, g1, g2, k1, k2, e⟩ := h
      have hr := hG _ _ _ k1 hp
      refine ⟨r, hr, (opM_two _ _).2 ⟨(ht p r hp hr).2.1.2 ⟨g1, k1⟩, (hu r q hr hq).2.1.2 ⟨g2, k2⟩, ?_⟩⟩
      cases g1 with
      | true => exact Or.inl ((ht p r hp hr).2.2.2 k1)
      | false =>
        cases g2 with
        | true => exact Or.inr ((hu r q hr hq).2.2.2 k2)
        | false => cases e

theorem then_tab {A : Aut} (hA : Three A) {w v : List Int} {t u : List Nat} (ht : IsTab A w t) (hu : IsTab A v u) : IsTab A (w ++ v) (thenT t u) :=
  (then_tabG (fun _ _ _ h hp => goW_lt hA h hp) ht hu).congr fun _ _ _ _ _ => goW_append.symm

def idT : List Nat := mkT fun p q => if p = q then 1 else 0
def letT (A : Aut) (c : Int) : List Nat := mkT fun p q => if A.steps.any (fun s => decide (s.f = (p : Int)) && decide (s.l = c) && decide (s.t = (q : Int))) then (if A.good.getD q false then 2 else 1) else 0

theorem id_tab (A : Aut) : IsTab A [] idT := by
  intro p q hp hq
  unfold idT
  rw [at_mk hp hq]
  by_cases e : p = q
  · rw [if_pos e]
    exact ⟨by omega, ⟨fun _ => ⟨false, e, rfl⟩, fun _ => by omega⟩, ⟨fun h => by omega, fun h => by cases h.2⟩⟩
  · rw [if_neg e]
    exact ⟨by omega, ⟨fun h => by omega, fun ⟨_, h⟩ => absurd h.1 e⟩, ⟨fun h => by omega, fun h => absurd h.1 e⟩⟩

theorem step_any {A : Aut} {p q : Nat} {c : Int} : A.steps.any (fun s => decide (s.f = (p : Int)) && decide (s.l = c) && decide (s.t = (q : Int))) = true ↔ stepU A p c q := by
  rw [List.any_eq_true]
  constructor
  · rintro ⟨s, hs, h⟩
    simp at h
    exact ⟨s, hs, h.1.1, h.1.2, h.2⟩
  · rintro ⟨s, hs, h1, h2, h3⟩
    exact ⟨s, hs, by simp [h1, h2, h3]⟩

theorem goW_one {A : Aut} {p q : Nat} {c : Int} {g : Bool} : goW A [c] p q g ↔ stepU A p c q ∧ g = A.good.getD q false := by
  constructor
  · rintro ⟨r, g', h, ⟨rfl, rfl⟩, rfl⟩
    exact ⟨h, by simp⟩
  · rintro ⟨h, rfl⟩
    exact ⟨q, false, h, ⟨rfl, rfl⟩, by simp⟩

theorem let_tab (A : Aut) (c : Int) : IsTab A [c] (letT A c) := by
  intro p q hp hq
  unfold letT
  rw [at_mk hp hq]
  by_cases e : stepU A p c q
  · rw [if_pos (step_any.2 e)]
    cases hg : A.good.getD q false with
    | true => exact ⟨by simp, ⟨fun _ => ⟨_, goW_one.2 ⟨e, rfl⟩⟩, fun _ => by simp⟩, ⟨fun _ => goW_one.2 ⟨e, hg.symm⟩, fun _ => by simp⟩⟩
    | false => exact ⟨by simp, ⟨fun _ => ⟨_, goW_one.2 ⟨e, rfl⟩⟩, fun _ => by simp⟩, ⟨fun h => by simp at h, fun h => by have := (goW_one.1 h).2; rw [hg] at this; cases this⟩⟩
  · rw [if_neg (fun h => e (step_any.1 h))]
    exact ⟨by omega, ⟨fun h => by omega, fun ⟨_, h⟩ => absurd (goW_one.1 h).1 e⟩, ⟨fun h => by omega, fun h => absurd (goW_one.1 h).1 e⟩⟩

def tabW (A : Aut) (w : List Int) : List Nat := w.foldl (fun t c => thenT t (letT A c)) idT

theorem tabW_snoc (A : Aut) (w : List Int) (c : Int) : tabW A (w ++ [c]) = thenT (tabW A w) (letT A c) := by
  unfold tabW
  rw [List.foldl_append]
  rfl

theorem tabW_from {A : Aut} (hA : Three A) : ∀ (w v : List Int) (t : List Nat), IsTab A v t → IsTab A (v ++ w) (w.foldl (fun t c => thenT t (letT A c)) t)
  | [], v, t, h => by simpa using h
  | c :: w, v, t, h => by
    have := tabW_from hA w (v ++ [c]) _ (then_tab hA h (let_tab A c))
    rwa [List.append_assoc] at this

theorem tabW_is {A : Aut} (hA : Three A) (w : List Int) : IsTab A w (tabW A w) := tabW_from hA w [] _ (id_tab A)

end Go.Proofs.YtpiacnnifdjlkabDoor

/-
  A word read again and again: what the table of its repeats tells. Plain mathematics.
-/
namespace Go.Proofs.YtpiacnnifdjlkabDoor

/-- A word so many times. -/
def goP (A : Aut) (w : List Int) : Nat → Nat → Nat → Bool → Prop
  | 0, p, q, g => p = q ∧ g = false
  | k + 1, p, q, g => compG (goW A w) (goP A w k) p q g

theorem goP_add {A : Aut} {w : List Int} : ∀ {k m p q : Nat} {g : Bool}, goP A w (k + m) p q g ↔ compG (goP A w k) (goP A w m) p q g
  | 0, m, p, q, g => by
    rw [Nat.zero_add]
    constructor
    · intro h
      exact ⟨p, false, g, ⟨rfl, rfl⟩, h, by simp⟩
    · rintro ⟨r, g1, g2, ⟨rfl, rfl⟩, h, rfl⟩
      simpa using h
  | k + 1, m, p, q, g => by
    rw [show k + 1 + m = (k + m) + 1 by omega]
    constructor
    · rintro ⟨r, g1, g2, h1, h2, rfl⟩
      obtain ⟨r', g3, g4, h3, h4, rfl⟩ := goP_add.1 h2
      exact ⟨r', _, g4, ⟨r, g1, g3, h1, h3, rfl⟩, h4, by cases g1 <;> simp⟩
    · rintro ⟨r', g', g4, ⟨r, g1, g3, h1, h3, rfl⟩, h4, rfl⟩
      exact ⟨r, g1, _, h1, goP_add.2 ⟨r', g3, g4, h3, h4, rfl⟩, by cases g1 <;> simp⟩

theorem goP_lt {A : Aut} (hA : Three A) {w : List Int} : ∀ {k p q : Nat} {g : Bool}, goP A w k p q g → p < 3 → q < 3
  | 0, _, _, _, h, hp => h.1 ▸ hp
  | _ + 1, _, _, _, ⟨_, _, _, h1, h2, _⟩, hp => goP_lt hA h2 (goW_lt hA h1 hp)

theorem goP_one {A : Aut} {w : List Int} {p q : Nat} {g : Bool} : goP A w 1 p q g ↔ goW A w p q g := by
  constructor
  · rintro ⟨r, g1, g2, h, ⟨rfl, rfl⟩, rfl⟩
    simpa using h
  · intro h
    exact ⟨q, g, false, h, ⟨rfl, rfl⟩, by simp⟩

/-- Once, or more often, up to K times. -/
def goUp (A : Aut) (w : List Int) (K : Nat) (p q : Nat) (g : Bool) : Prop := ∃ k, 1 ≤ k ∧ k ≤ K ∧ goP A w k p q g

def maxT (t u : List Nat) : List Nat := mkT fun p q => max (atT t p q) (atT u p q)
def againT (t : List Nat) : List Nat := maxT (maxT t (thenT t t)) (thenT (maxT t (thenT t t)) (maxT t (thenT t t)))

theorem max_tab {G H : Nat → Nat → Bool → Prop} {t u : List Nat} (ht : TabOf G t) (hu : TabOf H u) : TabOf (fun p q g => G p q g ∨ H p q g) (maxT t u) := by
  intro p q hp hq
  obtain ⟨a1, a2, a3⟩ := ht p q hp hq
  obtain ⟨b1, b2, b3⟩ := hu p q hp hq
  unfold maxT
  rw [at_mk hp hq]
  refine ⟨by omega, ?_, ?_⟩
  · constructor
    · intro h
      by_cases c : 1 ≤ atT t p q
      · obtain ⟨g, k⟩ := a2.1 c
        exact ⟨g, Or.inl k⟩
      · obtain ⟨g, k⟩ := b2.1 (by omega)
        exact ⟨g, Or.inr k⟩
    · rintro ⟨g, k | k⟩
      · have := a2.2 ⟨g, k⟩
        omega
      · have := b2.2 ⟨g, k⟩
        omega
  · constructor
    · intro h
      by_cases c : 2 ≤ atT t p q
      · exact Or.inl (a3.1 c)
      · exact Or.inr (b3.1 (by omega))
    · rintro (k | k)
      · have := a3.2 k
        omega
      · have := b3.2 k
        omega

theorem twice_tab {A : Aut} (hA : Three A) {w : List Int} {K : Nat} {t : List Nat} (h : TabOf (goUp A w K) t) : TabOf (goUp A w (2 * K)) (maxT t (thenT t t)) := by
  refine (max_tab h (then_tabG (fun p q g ⟨k, _, _, hk⟩ hp => goP_lt hA hk hp) h h)).congr fun p q g _ _ => ?_
  constructor
  · rintro (⟨k, h1, h2, hk⟩ | ⟨r, g1, g2, ⟨k, h1, h2, hk⟩, ⟨k', h1', h2', hk'⟩, rfl⟩)
    · exact ⟨k, h1, by omega, hk⟩
    · exact ⟨k + k', by omega, by omega, goP_add.2 ⟨r, g1, g2, hk, hk', rfl⟩⟩
  · rintro ⟨k, h1, h2, hk⟩
    by_cases c : k ≤ K
    · exact Or.inl ⟨k, h1, c, hk⟩
    · rw [show k = K + (k - K) by omega] at hk
      obtain ⟨r, g1, g2, k1, k2, e⟩ := goP_add.1 hk
      exact Or.inr ⟨r, g1, g2, ⟨K, by omega, Nat.le_refl _, k1⟩, ⟨k - K, by omega, by omega, k2⟩, e⟩

theorem again_tab {A : Aut} (hA : Three A) {w : List Int} {t : List Nat} (h : IsTab A w t) : TabOf (goUp A w 4) (againT t) := by
  have h1 : TabOf (goUp A w 1) t := h.congr fun p q g _ _ => by
    constructor
    · intro k
      exact ⟨1, by omega, by omega, goP_one.2 k⟩
    · rintro ⟨k, k1, k2, hk⟩
      have : k = 1 := by omega
      subst this
      exact goP_one.1 hk
  exact twice_tab hA (twice_tab hA h1)

/-- The states from which a word is taken again and again. -/
def takesT (t : List Nat) (q : Nat) : Prop := ∃ o, o < 3 ∧ atT (againT t) q o ≠ 0 ∧ atT (againT t) o o = 2

theorem takesT_iff {A : Aut} (hA : Three A) {w : List Int} {t : List Nat} (h : IsTab A w t) {q : Nat} (hq : q < 3) : takesT t q ↔ ∃ o, o < 3 ∧ (∃ g, goUp A w 4 q o g) ∧ goUp A w 4 o o true := by
  have ha := again_tab hA h
  constructor
  · rintro ⟨o, ho, h1, h2⟩
    exact ⟨o, ho, (ha q o hq ho).2.1.1 (by omega), (ha o o ho ho).2.2.1 (by omega)⟩
  · rintro ⟨o, ho, h1, h2⟩
    have k1 := (ha q o hq ho).2.1.2 h1
    have k2 := (ha o o ho ho).2.2.2 h2
    have k3 := (ha o o ho ho).1
    exact ⟨o, ho, by omega, by omega⟩

theorem goP_fun {A : Aut} {w : List Int} : ∀ {k p q : Nat} {g : Bool}, goP A w k p q g → ∃ (f : Nat → Nat) (gs : Nat → Bool), f 0 = p ∧ f k = q ∧ (∀ j, j < k → goW A w (f j) (f (j + 1)) (gs j)) ∧ (g = true → ∃ j, j < k ∧ gs j = true)
  | 0, p, q, g, h => ⟨fun _ => p, fun _ => false, rfl, h.1, fun j hj => absurd hj (Nat.not_lt_zero _), fun e => by rw [h.2] at e; cases e⟩
  | k + 1, p, q, g, ⟨r, g1, g2, h1, h2, e⟩ => by
    obtain ⟨f, gs, f0, fk, hs, hg⟩ := goP_fun h2
    refine ⟨fun j => match j with | 0 => p | j + 1 => f j, fun j => match j with | 0 => g1 | j + 1 => gs j, rfl, fk, fun j hj => ?_, fun eg => ?_⟩
    · match j with
      | 0 =>
        show goW A w p (f 0) g1
        rw [f0]
        exact h1
      | j + 1 => exact hs j (by omega)
    · rw [eg] at e
      cases g1 with
      | true => exact ⟨0, by omega, rfl⟩
      | false =>
        obtain ⟨j, hj, hj2⟩ := hg (by simpa using e.symm)
        exact ⟨j + 1, by omega, hj2⟩

theorem fun_goP {A : Aut} {w : List Int} {f : Nat → Nat} : ∀ {n t : Nat}, (∀ j, j < n → ∃ g, goW A w (f (t + j)) (f (t + j + 1)) g) → ∃ g, goP A w n (f t) (f (t + n)) g
  | 0, _, _ => ⟨false, rfl, rfl⟩
  | n + 1, t, h => by
    obtain ⟨g1, h1⟩ := h 0 (by omega)
    obtain ⟨g2, h2⟩ := fun_goP (n := n) (t := t + 1) (fun j hj => by
      have := h (j + 1) (by omega)
      rwa [show t + (j + 1) = t + 1 + j by omega] at this)
    rw [show t + 1 + n = t + (n + 1) by omega] at h2
    exact ⟨_, f (t + 1), g1, g2, h1, h2, rfl⟩

theorem goP_short {A : Aut} (hA : Three A) {w : List Int} : ∀ (k : Nat) {p q : Nat} {g : Bool}, goP A w k p q g → p < 3 → ∃ k' g', k' ≤ 2 ∧ goP A w k' p q g' := by
  intro k
  induction k using Nat.strongRecOn with
  | _ k ih =>
    intro p q g h hp
    by_cases c : k ≤ 2
    · exact ⟨k, g, c, h⟩
    · obtain ⟨f, gs, f0, fk, hs, _⟩ := goP_fun h
      have h3 : ∀ j, j ≤ k → f j < 3 := by
        intro j
        induction j with
        | zero => intro _; rw [f0]; exact hp
        | succ j ihj => intro hj; exact goW_lt hA (hs j (by omega)) (ihj (by omega))
      obtain ⟨a, b, hab, hb, e⟩ := pigeon (N := 3) (n := k) h3 (by omega)
      obtain ⟨g1, k1⟩ := fun_goP (A := A) (w := w) (f := f) (n := a) (t := 0) (fun j hj => by rw [Nat.zero_add]; exact ⟨_, hs j (by omega)⟩)
      obtain ⟨g2, k2⟩ := fun_goP (A := A) (w := w) (f := f) (n := k - b) (t := b) (fun j hj => ⟨_, hs (b + j) (by omega)⟩)
      rw [Nat.zero_add, f0] at k1
      rw [show b + (k - b) = k by omega, fk, ← e] at k2
      exact ih (a + (k - b)) (by omega) (goP_add.2 ⟨_, g1, g2, k1, k2, rfl⟩) hp

end Go.Proofs.YtpiacnnifdjlkabDoor

/-
  A word without an end that repeats one: it is taken from a state just if the table says so; whether a lasso is taken hangs on its two tables. Plain mathematics.
-/
namespace Go.Proofs.YtpiacnnifdjlkabDoor

/-- A word is taken again and again, from a state on. -/
def AccP (A : Aut) (w : List Int) (q : Nat) : Prop := ∃ x : Nat → Nat, x 0 = q ∧ (∀ i, ∃ g, goW A w (x i) (x (i + 1)) g) ∧ ∀ i, ∃ j, i ≤ j ∧ goW A w (x j) (x (j + 1)) true

theorem up_of {P : Nat → Prop} (h : ∀ i, ∃ j, i ≤ j ∧ P j) : ∃ idx : Nat → Nat, 1 ≤ idx 0 ∧ (∀ k, P (idx k)) ∧ ∀ a b, a < b → idx a < idx b := by
  let nx : Nat → Nat := fun i => Classical.choose (h (i + 1))
  have hnx : ∀ i, i + 1 ≤ nx i ∧ P (nx i) := fun i => Classical.choose_spec (h (i + 1))
  let idx : Nat → Nat := fun k => Nat.rec (nx 0) (fun _ i => nx i) k
  have h0 : idx 0 = nx 0 := rfl
  have hs : ∀ k, idx (k + 1) = nx (idx k) := fun _ => rfl
  refine ⟨idx, ?_, fun k => ?_, fun a b hab => ?_⟩
  · rw [h0]
    exact (hnx 0).1
  · cases k with
    | zero => rw [h0]; exact (hnx 0).2
    | succ k => rw [hs]; exact (hnx _).2
  · induction b with
    | zero => exact absurd hab (Nat.not_lt_zero _)
    | succ b ih =>
      have := (hnx (idx b)).1
      rw [hs]
      by_cases c : a = b
      · subst c
        omega
      · have := ih (by omega)
        omega

theorem acc_takes {A : Aut} (hA : Three A) {w : List Int} {t : List Nat} (h : IsTab A w t) {q : Nat} (hq : q < 3) (ha : AccP A w q) : takesT t q := by
  obtain ⟨x, x0, hs, hg⟩ := ha
  have h3 : ∀ j, x j < 3 := by
    intro j
    induction j with
    | zero => rw [x0]; exact hq
    | succ j ih =>
      obtain ⟨g, k⟩ := hs j
      exact goW_lt hA k ih
  obtain ⟨idx, h1, hP, hm⟩ := up_of hg
  obtain ⟨a, b, hab, hb, e⟩ := pigeon (N := 3) (n := 3) (c := fun k => x (idx k)) (fun k _ => h3 _) (Nat.le_refl _)
  have e : x (idx a) = x (idx b) := e
  have hlt := hm a b hab
  have h1a : 1 ≤ idx a := by
    by_cases c : a = 0
    · subst c
      exact h1
    · have := hm 0 a (by omega)
      omega
  refine (takesT_iff hA h hq).2 ⟨x (idx a), h3 _, ?_, ?_⟩
  · obtain ⟨g1, k1⟩ := hs 0
    obtain ⟨g2, k2⟩ := fun_goP (A := A) (w := w) (f := x) (n := idx a - 1) (t := 1) (fun j _ => hs _)
    rw [show 1 + (idx a - 1) = idx a by omega] at k2
    obtain ⟨k', g', hk', k3⟩ := goP_short hA _ k2 (h3 1)
    rw [x0] at k1
    exact ⟨_, k' + 1, by omega, by omega, x 1, g1, g', k1, k3, rfl⟩
  · obtain ⟨g2, k2⟩ := fun_goP (A := A) (w := w) (f := x) (n := idx b - (idx a + 1)) (t := idx a + 1) (fun j _ => hs _)
    rw [show idx a + 1 + (idx b - (idx a + 1)) = idx b by omega, ← e] at k2
    obtain ⟨k', g', hk', k3⟩ := goP_short hA _ k2 (h3 _)
    exact ⟨k' + 1, by omega, by omega, x (idx a + 1), true, g', hP a, k3, by simp⟩

theorem takes_acc {A : Aut} (hA : Three A) {w : List Int} {t : List Nat} (h : IsTab A w t) {q : Nat} (hq : q < 3) (ht : takesT t q) : AccP A w q := by
  obtain ⟨o, _, ⟨g, k1, _, _, h1⟩, k2, hk2, _, h2⟩ := (takesT_iff hA h hq).1 ht
  obtain ⟨f1, g1, a0, ak, asx, _⟩ := goP_fun h1
  obtain ⟨f2, g2, b0, bk, bs, bg⟩ := goP_fun h2
  obtain ⟨j0, hj0, hg0⟩ := bg rfl
  have key : ∀ i, k1 ≤ i → goW A w (f2 ((i - k1) % k2)) (f2 ((i + 1 - k1) % k2)) (g2 ((i - k1) % k2)) := fun i hi => by
    rw [show i + 1 - k1 = i - k1 + 1 by omega, wrap_mod (by omega) (bk.trans b0.symm)]
    exact bs _ (Nat.mod_lt _ (by omega))
  refine ⟨fun i => if i < k1 then f1 i else f2 ((i - k1) % k2), ?_, fun i => ?_, fun i => ?_⟩
  · dsimp only
    by_cases c : 0 < k1
    · rw [if_pos c, a0]
    · have : k1 = 0 := by omega
      subst this
      rw [if_neg c, Nat.sub_self, Nat.zero_mod, b0, ← a0, ak]
  · dsimp only
    by_cases c1 : i + 1 < k1
    · rw [if_pos (by omega), if_pos c1]
      exact ⟨_, asx i (by omega)⟩
    · by_cases c2 : i < k1
      · rw [if_pos c2, if_neg c1, show i + 1 - k1 = 0 by omega, Nat.zero_mod, b0, ← ak, show k1 = i + 1 by omega]
        exact ⟨_, asx i c2⟩
      · rw [if_neg c2, if_neg c1]
        exact ⟨_, key i (by omega)⟩
  · refine ⟨k1 + ((i + 1) * k2 + j0), ?_, ?_⟩
    · have : i + 1 ≤ (i + 1) * k2 := Nat.le_mul_of_pos_right _ (by omega)
      omega
    · have hk := key (k1 + ((i + 1) * k2 + j0)) (by omega)
      dsimp only
      rw [if_neg (by omega), if_neg (by omega)]
      have e : (k1 + ((i + 1) * k2 + j0) - k1) % k2 = j0 := by
        rw [Nat.add_sub_cancel_left, Nat.mul_comm, Nat.mul_add_mod, Nat.mod_eq_of_lt hj0]
      rw [e, hg0] at hk
      rw [e]
      exact hk

/-- What a run says of a piece of a word. -/
theorem run_goW {A : Aut} {u : Nat → Int} {r : Nat → Nat} (hr : ∀ t, stepU A (r t) (u t) (r (t + 1))) : ∀ (w : List Int) (t : Nat), (∀ j, j < w.length → w.getD j 0 = u (t + j)) → ∃ g, goW A w (r t) (r (t + w.length)) g ∧ ((∃ j, t < j ∧ j ≤ t + w.length ∧ A.good.getD (r j) false = true) → g = true)
  | [], t, _ => ⟨false, ⟨rfl, rfl⟩, fun ⟨j, h1, h2, _⟩ => absurd h1 (by simp at h2; omega)⟩
  | c :: w, t, h => by
    obtain ⟨g, h1, h2⟩ := run_goW hr w (t + 1) (fun j hj => by
      have := h (j + 1) (by simp; omega)
      rw [show t + (j + 1) = t + 1 + j by omega] at this
      simpa using this)
    have hc : c = u t := by simpa using h 0 (by simp)
    refine ⟨_, ⟨r (t + 1), g, hc ▸ hr t, ?_, rfl⟩, ?_⟩
    · rw [List.length_cons, show t + (w.length + 1) = t + 1 + w.length by omega]
      exact h1
    · rintro ⟨j, j1, j2, hj⟩
      rw [List.length_cons] at j2
      by_cases e : j = t + 1
      · subst e
        rw [hj]
        rfl
      · rw [h2 ⟨j, by omega, by omega, hj⟩]
        simp

/-- What one comes by on a word's way. -/
theorem goW_fun {A : Aut} : ∀ {w : List Int} {p q : Nat} {g : Bool}, goW A w p q g → ∃ f : Nat → Nat, f 0 = p ∧ f w.length = q ∧ (∀ j, j < w.length → stepU A (f j) (w.getD j 0) (f (j + 1))) ∧ (g = true → ∃ j, 0 < j ∧ j ≤ w.length ∧ A.good.getD (f j) false = true)
  | [], p, _, _, h => ⟨fun _ => p, rfl, h.1, fun j hj => absurd hj (Nat.not_lt_zero _), fun e => by rw [h.2] at e; cases e⟩
  | c :: w, p, q, g, ⟨r, g', hs, h, e⟩ => by
    obtain ⟨f, f0, fk, fs, fg⟩ := goW_fun h
    refine ⟨fun j => match j with | 0 => p | j + 1 => f j, rfl, fk, fun j hj => ?_, fun eg => ?_⟩
    · match j with
      | 0 =>
        show stepU A p c (f 0)
        rw [f0]
        exact hs
      | j + 1 => exact fs j (by simpa using hj)
    · rw [eg] at e
      cases hr : A.good.getD r false with
      | true => exact ⟨1, by omega, by simp, by show A.good.getD (f 0) false = true; rw [f0]; exact hr⟩
      | false =>
        rw [hr] at e
        obtain ⟨j, j1, j2, hj⟩ := fg (by simpa using e.symm)
        exact ⟨j + 1, by omega, by simpa using j2, hj⟩

end Go.Proofs.YtpiacnnifdjlkabDoor

namespace Go.Proofs.YtpiacnnifdjlkabDoor

theorem acc_of_run {A : Aut} {hs ls : List Int} (hL : 0 < ls.length) (h : TakesI A (lat hs ls)) : ∃ i s g, i < A.first.length ∧ goW A hs (A.first.getD i 0).toNat s g ∧ AccP A ls s := by
  obtain ⟨r, ⟨i, hi, e⟩, hr, hg⟩ := h
  have hlat : ∀ a j, j < ls.length → ls.getD j 0 = lat hs ls (hs.length + a * ls.length + j) := fun a j hj => by
    unfold lat
    rw [if_neg (by omega), show hs.length + a * ls.length + j - hs.length = ls.length * a + j by rw [Nat.mul_comm]; omega, Nat.mul_add_mod, Nat.mod_eq_of_lt hj]
  have seg : ∀ a, ∃ g, goW A ls (r (hs.length + a * ls.length)) (r (hs.length + (a + 1) * ls.length)) g ∧ ((∃ j, hs.length + a * ls.length < j ∧ j ≤ hs.length + a * ls.length + ls.length ∧ A.good.getD (r j) false = true) → g = true) := fun a => by
    have := run_goW hr ls (hs.length + a * ls.length) (hlat a)
    rwa [show hs.length + a * ls.length + ls.length = hs.length + (a + 1) * ls.length by rw [Nat.succ_mul]; omega] at this ⊢
  obtain ⟨g, h1, _⟩ := run_goW hr hs 0 (fun j hj => by unfold lat; rw [Nat.zero_add, if_pos hj])
  rw [Nat.zero_add] at h1
  refine ⟨i, r hs.length, g, hi, e ▸ h1, fun a => r (hs.length + a * ls.length), by simp, fun a => ?_, fun a => ?_⟩
  · obtain ⟨g, k, _⟩ := seg a
    exact ⟨g, k⟩
  · obtain ⟨k, hk, hgk⟩ := hg (hs.length + a * ls.length + 1)
    have hd := Nat.mod_add_div (k - hs.length - 1) ls.length
    have hm := Nat.mod_lt (k - hs.length - 1) hL
    have hmul : ls.length * ((k - hs.length - 1) / ls.length) = (k - hs.length - 1) / ls.length * ls.length := Nat.mul_comm _ _
    refine ⟨(k - hs.length - 1) / ls.length, (Nat.le_div_iff_mul_le hL).2 (by omega), ?_⟩
    obtain ⟨g, k1, k2⟩ := seg ((k - hs.length - 1) / ls.length)
    have := k2 ⟨k, by omega, by omega, hgk⟩
    subst this
    exact k1

theorem run_of_acc {A : Aut} {hs ls : List Int} (hL : 0 < ls.length) {i s : Nat} {g : Bool} (hi : i < A.first.length) (h1 : goW A hs (A.first.getD i 0).toNat s g) (h2 : AccP A ls s) : TakesI A (lat hs ls) := by
  obtain ⟨x, x0, hx, hg⟩ := h2
  obtain ⟨fh, fh0, fhk, fhs, _⟩ := goW_fun h1
  have hF : ∀ a, ∃ f : Nat → Nat, f 0 = x a ∧ f ls.length = x (a + 1) ∧ (∀ j, j < ls.length → stepU A (f j) (ls.getD j 0) (f (j + 1))) ∧ (goW A ls (x a) (x (a + 1)) true → ∃ j, 0 < j ∧ j ≤ ls.length ∧ A.good.getD (f j) false = true) := fun a => by
    by_cases c : goW A ls (x a) (x (a + 1)) true
    · obtain ⟨f, k0, k1, k2, k3⟩ := goW_fun c
      exact ⟨f, k0, k1, k2, fun _ => k3 rfl⟩
    · obtain ⟨g, k⟩ := hx a
      obtain ⟨f, k0, k1, k2, _⟩ := goW_fun k
      exact ⟨f, k0, k1, k2, fun h => absurd h c⟩
  obtain ⟨F, hF⟩ : ∃ F : Nat → Nat → Nat, ∀ a, F a 0 = x a ∧ F a ls.length = x (a + 1) ∧ (∀ j, j < ls.length → stepU A (F a j) (ls.getD j 0) (F a (j + 1))) ∧ (goW A ls (x a) (x (a + 1)) true → ∃ j, 0 < j ∧ j ≤ ls.length ∧ A.good.getD (F a j) false = true) := ⟨fun a => Classical.choose (hF a), fun a => Classical.choose_spec (hF a)⟩
  obtain ⟨r, hr⟩ : ∃ r : Nat → Nat, ∀ t, r t = if t < hs.length then fh t else F ((t - hs.length) / ls.length) ((t - hs.length) % ls.length) := ⟨_, fun _ => rfl⟩
  have hlt : ∀ a k, k < ls.length → r (hs.length + (a * ls.length + k)) = F a k := fun a k hk => by
    rw [hr, if_neg (by omega), Nat.add_sub_cancel_left]
    have e1 : (a * ls.length + k) % ls.length = k := by rw [Nat.mul_comm, Nat.mul_add_mod, Nat.mod_eq_of_lt hk]
    have e2 : (a * ls.length + k) / ls.length = a := by rw [Nat.mul_comm, Nat.mul_add_div hL, Nat.div_eq_of_lt hk, Nat.add_zero]
    rw [e1, e2]
  have hle : ∀ a k, k ≤ ls.length → r (hs.length + (a * ls.length + k)) = F a k := fun a k hk => by
    by_cases c : k < ls.length
    · exact hlt a k c
    · have : k = ls.length := by omega
      subst this
      have := hlt (a + 1) 0 hL
      rw [Nat.succ_mul, Nat.add_zero] at this
      rw [this, (hF (a + 1)).1, (hF a).2.1]
  refine ⟨r, ⟨i, hi, ?_⟩, fun t => ?_, fun t => ?_⟩
  · by_cases c : 0 < hs.length
    · rw [hr, if_pos c, fh0]
    · have h0 : hs.length = 0 := by omega
      have := hlt 0 0 hL
      rw [h0, Nat.zero_mul] at this
      rw [this, (hF 0).1, x0, ← fhk, h0, fh0]
  · by_cases c : t < hs.length
    · have hl : lat hs ls t = hs.getD t 0 := by unfold lat; rw [if_pos c]
      rw [hl]
      have h9 := fhs t c
      rw [hr t, if_pos c]
      by_cases c2 : t + 1 < hs.length
      · rw [hr (t + 1), if_pos c2]
        exact h9
      · have := hlt 0 0 hL
        rw [Nat.zero_mul, Nat.add_zero, (hF 0).1, x0] at this
        rw [show t + 1 = hs.length by omega] at h9 ⊢
        rw [this, ← fhk]
        exact h9
    · have hd := Nat.mod_add_div (t - hs.length) ls.length
      have hm := Nat.mod_lt (t - hs.length) hL
      have hmul : ls.length * ((t - hs.length) / ls.length) = (t - hs.length) / ls.length * ls.length := Nat.mul_comm _ _
      have e1 := hle ((t - hs.length) / ls.length) ((t - hs.length) % ls.length) (by omega)
      have e2 := hle ((t - hs.length) / ls.length) ((t - hs.length) % ls.length + 1) (by omega)
      rw [show hs.length + ((t - hs.length) / ls.length * ls.length + (t - hs.length) % ls.length) = t by omega] at e1
      rw [show hs.length + ((t - hs.length) / ls.length * ls.length + ((t - hs.length) % ls.length + 1)) = t + 1 by omega] at e2
      have hl : lat hs ls t = ls.getD ((t - hs.length) % ls.length) 0 := by unfold lat; rw [if_neg c]
      rw [e1, e2, hl]
      exact (hF _).2.2.1 _ hm
  · obtain ⟨a, ha, hga⟩ := hg t
    obtain ⟨j, j1, j2, hj⟩ := (hF a).2.2.2 hga
    refine ⟨hs.length + (a * ls.length + j), ?_, ?_⟩
    · have : a ≤ a * ls.length := Nat.le_mul_of_pos_right _ hL
      omega
    · rw [hle a j j2]
      exact hj

/-- The states to which a word leads from the first ones. -/
def leadsW (A : Aut) (w : List Int) (q : Nat) : Prop := ∃ i g, i < A.first.length ∧ goW A w (A.first.getD i 0).toNat q g

theorem leadsW_lt {A : Aut} (hA : Three A) {w : List Int} {q : Nat} (h : leadsW A w q) : q < 3 := by
  obtain ⟨i, g, hi, h⟩ := h
  exact goW_lt hA h (hA.1 _ (getD_mem hi))

theorem leadsW_append {A : Aut} {w v : List Int} {q : Nat} : leadsW A (w ++ v) q ↔ ∃ r g, leadsW A w r ∧ goW A v r q g := by
  constructor
  · rintro ⟨i, g, hi, h⟩
    obtain ⟨r, g1, g2, h1, h2, _⟩ := goW_append.1 h
    exact ⟨r, g2, ⟨i, g1, hi, h1⟩, h2⟩
  · rintro ⟨r, g2, ⟨i, g1, hi, h1⟩, h2⟩
    exact ⟨i, _, hi, goW_append.2 ⟨r, g1, g2, h1, h2, rfl⟩⟩

/-- A lasso is taken just if its head leads to a state from which its loop is taken. -/
theorem lasso_tabs {A : Aut} (hA : Three A) {hs ls : List Int} (hL : 0 < ls.length) : TakesI A (lat hs ls) ↔ ∃ q, q < 3 ∧ leadsW A hs q ∧ takesT (tabW A ls) q := by
  constructor
  · intro h
    obtain ⟨i, s, g, hi, h1, h2⟩ := acc_of_run hL h
    have hs3 := leadsW_lt hA ⟨i, g, hi, h1⟩
    exact ⟨s, hs3, ⟨i, g, hi, h1⟩, acc_takes hA (tabW_is hA ls) hs3 h2⟩
  · rintro ⟨q, hq, ⟨i, g, hi, h1⟩, h2⟩
    exact run_of_acc hL hi h1 (takes_acc hA (tabW_is hA ls) hq h2)

/-- A word of which only so many things can be told may be short. -/
theorem word_short {N : Nat} {c : List Int → Nat} (hc : ∀ w, c w < N) (hw : ∀ v v' w, c v = c v' → c (v ++ w) = c (v' ++ w)) : ∀ (n : Nat) (w : List Int), w.length ≤ n → ∃ w', w'.length < N ∧ c w' = c w ∧ ∀ x ∈ w', x ∈ w := by
  intro n
  induction n with
  | zero =>
    intro w h
    exact ⟨w, by have := hc w; omega, rfl, fun _ h => h⟩
  | succ n ih =>
    intro w h
    by_cases hl : w.length < N
    · exact ⟨w, hl, rfl, fun _ h => h⟩
    · obtain ⟨a, b, hab, hb, e⟩ := pigeon (N := N) (n := N) (c := fun k => c (w.take k)) (fun k _ => hc _) (Nat.le_refl _)
      have e2 := hw _ _ (w.drop b) e
      rw [List.take_append_drop] at e2
      obtain ⟨w', h1, h2, h3⟩ := ih (w.take a ++ w.drop b) (by simp; omega)
      refine ⟨w', h1, h2.trans e2, fun x hx => ?_⟩
      rcases List.mem_append.1 (h3 x hx) with k | k
      · exact List.mem_of_mem_take k
      · exact List.mem_of_mem_drop k

theorem head_short {A B : Aut} (hA : Three A) (hB : Three B) (w : List Int) : ∃ w' : List Int, w'.length < 64 ∧ (∀ x ∈ w', x ∈ w) ∧ (∀ q, leadsW A w' q ↔ leadsW A w q) ∧ ∀ q, leadsW B w' q ↔ leadsW B w q := by
  obtain ⟨bit, hbit⟩ : ∃ bit : Prop → Nat, ∀ P, bit P < 2 ∧ (bit P = 1 ↔ P) := ⟨fun P => @ite _ P (Classical.propDecidable P) 1 0, fun P => by
    dsimp only
    by_cases h : P
    · rw [if_pos h]; exact ⟨by omega, fun _ => h, fun _ => rfl⟩
    · rw [if_neg h]; exact ⟨by omega, fun e => by omega, fun e => absurd e h⟩⟩
  obtain ⟨c, hcd⟩ : ∃ c : List Int → Nat, ∀ w, c w = bit (leadsW A w 0) + 2 * bit (leadsW A w 1) + 4 * bit (leadsW A w 2) + 8 * bit (leadsW B w 0) + 16 * bit (leadsW B w 1) + 32 * bit (leadsW B w 2) := ⟨_, fun _ => rfl⟩
  have bits : ∀ P Q, bit P = bit Q → (P ↔ Q) := fun P Q e => by rw [← (hbit P).2, ← (hbit Q).2, e]
  have same : ∀ v v', c v = c v' → (∀ q, leadsW A v q ↔ leadsW A v' q) ∧ ∀ q, leadsW B v q ↔ leadsW B v' q := fun v v' e => by
    rw [hcd, hcd] at e
    have a0 := (hbit (leadsW A v 0)).1
    have a1 := (hbit (leadsW A v 1)).1
    have a2 := (hbit (leadsW A v 2)).1
    have a3 := (hbit (leadsW B v 0)).1
    have a4 := (hbit (leadsW B v 1)).1
    have a5 := (hbit (leadsW B v 2)).1
    have b0 := (hbit (leadsW A v' 0)).1
    have b1 := (hbit (leadsW A v' 1)).1
    have b2 := (hbit (leadsW A v' 2)).1
    have b3 := (hbit (leadsW B v' 0)).1
    have b4 := (hbit (leadsW B v' 1)).1
    have b5 := (hbit (leadsW B v' 2)).1
    refine ⟨fun q => ?_, fun q => ?_⟩
    · by_cases hq : q < 3
      · have : q = 0 ∨ q = 1 ∨ q = 2 := by omega
        rcases this with rfl | rfl | rfl
        · exact bits _ _ (by omega)
        · exact bits _ _ (by omega)
        · exact bits _ _ (by omega)
      · exact ⟨fun h => absurd (leadsW_lt hA h) hq, fun h => absurd (leadsW_lt hA h) hq⟩
    · by_cases hq : q < 3
      · have : q = 0 ∨ q = 1 ∨ q = 2 := by omega
        rcases this with rfl | rfl | rfl
        · exact bits _ _ (by omega)
        · exact bits _ _ (by omega)
        · exact bits _ _ (by omega)
      · exact ⟨fun h => absurd (leadsW_lt hB h) hq, fun h => absurd (leadsW_lt hB h) hq⟩
  have hc : ∀ w, c w < 64 := fun w => by
    rw [hcd]
    have a0 := (hbit (leadsW A w 0)).1
    have a1 := (hbit (leadsW A w 1)).1
    have a2 := (hbit (leadsW A w 2)).1
    have a3 := (hbit (leadsW B w 0)).1
    have a4 := (hbit (leadsW B w 1)).1
    have a5 := (hbit (leadsW B w 2)).1
    omega
  have hw : ∀ v v' w, c v = c v' → c (v ++ w) = c (v' ++ w) := fun v v' w e => by
    obtain ⟨e1, e2⟩ := same v v' e
    have k1 : ∀ q, leadsW A (v ++ w) q = leadsW A (v' ++ w) q := fun q => propext (by
      rw [leadsW_append, leadsW_append]
      exact ⟨fun ⟨r, g, h1, h2⟩ => ⟨r, g, (e1 r).1 h1, h2⟩, fun ⟨r, g, h1, h2⟩ => ⟨r, g, (e1 r).2 h1, h2⟩⟩)
    have k2 : ∀ q, leadsW B (v ++ w) q = leadsW B (v' ++ w) q := fun q => propext (by
      rw [leadsW_append, leadsW_append]
      exact ⟨fun ⟨r, g, h1, h2⟩ => ⟨r, g, (e2 r).1 h1, h2⟩, fun ⟨r, g, h1, h2⟩ => ⟨r, g, (e2 r).2 h1, h2⟩⟩)
    rw [hcd, hcd, k1, k1, k1, k2, k2, k2]
  obtain ⟨w', h1, h2, h3⟩ := word_short hc hw w.length w (Nat.le_refl _)
  obtain ⟨e1, e2⟩ := same _ _ h2
  exact ⟨w', h1, h3, e1, e2⟩

end Go.Proofs.YtpiacnnifdjlkabDoor
