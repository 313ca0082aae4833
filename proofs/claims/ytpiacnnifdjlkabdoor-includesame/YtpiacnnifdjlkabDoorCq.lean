/-
  What an automaton among the arguments reads as.
-/
import Derived.Test.YtpiacnnifdjlkabDoorCn
import Derived.Deep.Grids
import Derived.Deep.Strs
/-
  The mathematics of runs: what the reference finds is just what is asked for: a good spot, come to from a first one, that leads back to itself.
-/
namespace Go.Proofs.YtpiacnnifdjlkabDoor

theorem goN_split {E : Spot → Spot → Prop} {m n : Nat} {x z : Spot} (h : goN E (m + n) x z) : ∃ y, goN E m x y ∧ goN E n y z := by
  induction m generalizing x with
  | zero => exact ⟨x, rfl, by simpa using h⟩
  | succ m ih =>
    rw [Nat.succ_add] at h
    obtain ⟨u, hu, hr⟩ := h
    obtain ⟨y, h1, h2⟩ := ih hr
    exact ⟨y, ⟨u, hu, h1⟩, h2⟩

theorem goN_snoc {E : Spot → Spot → Prop} {m : Nat} {x y z : Spot} (h : goN E m x y) (he : E y z) : goN E (m + 1) x z := goN_trans h ⟨z, he, rfl⟩

theorem goN_last {E : Spot → Spot → Prop} {m : Nat} {x z : Spot} (h : goN E (m + 1) x z) : ∃ y, goN E m x y ∧ E y z := by
  obtain ⟨y, h1, u, h2, rfl⟩ := goN_split h
  exact ⟨y, h1, h2⟩

theorem goN_times {E : Spot → Spot → Prop} {c : Nat} {x : Spot} (h : goN E c x x) : ∀ k, goN E (k * c) x x
  | 0 => by rw [Nat.zero_mul]; rfl
  | k + 1 => by rw [Nat.succ_mul]; exact goN_trans (goN_times h k) h

/-- n steps of a relation of numbers. -/
def rN (R : Nat → Nat → Prop) : Nat → Nat → Nat → Prop
  | 0, x, y => x = y
  | n + 1, x, y => ∃ z, rN R n x z ∧ R z y

/-- Fewer steps than numbers are enough. -/
theorem rN_short {R : Nat → Nat → Prop} {N : Nat} (hR : ∀ x y, R x y → y < N) {n x y : Nat} (hx : x < N) (h : rN R n x y) : ∃ m, m < N ∧ rN R m x y := by
  obtain ⟨p, hp⟩ : ∃ p : Nat → Nat → Bool, ∀ k y, p k y = true ↔ ∃ m, m ≤ k ∧ rN R m x y :=
    ⟨fun k y => @decide (∃ m, m ≤ k ∧ rN R m x y) (Classical.propDecidable _), fun k y => by rw [@decide_eq_true_iff]⟩
  have mono : ∀ k y, p k y = true → p (k + 1) y = true := fun k y h => by
    obtain ⟨m, hm, hr⟩ := (hp k y).1 h
    exact (hp _ y).2 ⟨m, by omega, hr⟩
  by_cases hst : ∃ k, k < N ∧ ∀ y, y < N → p (k + 1) y = true → p k y = true
  · obtain ⟨k, hk, hs⟩ := hst
    have all : ∀ n y, rN R n x y → p k y = true := by
      intro n
      induction n with
      | zero => intro y hy; exact (hp k y).2 ⟨0, Nat.zero_le _, hy⟩
      | succ n ih =>
        rintro y ⟨z, hz, hzy⟩
        obtain ⟨m, hm, hr⟩ := (hp k z).1 (ih z hz)
        exact hs y (hR _ _ hzy) ((hp _ y).2 ⟨m + 1, by omega, z, hr, hzy⟩)
    obtain ⟨m, hm, hr⟩ := (hp k y).1 (all n y h)
    exact ⟨m, by omega, hr⟩
  · exfalso
    have step : ∀ k, k < N → left (p (k + 1)) N < left (p k) N := fun k hk => by
      have : ¬ ∀ y, y < N → p (k + 1) y = true → p k y = true := fun hall => hst ⟨k, hk, hall⟩
      obtain ⟨y, hy⟩ := Classical.not_forall.1 this
      have h1 : y < N := Classical.byContradiction fun h => hy fun h' => absurd h' h
      have h2 : p (k + 1) y = true := Classical.byContradiction fun h => hy fun _ h' => absurd h' h
      have h3 : p k y = false := by
        cases hpk : p k y with
        | false => rfl
        | true => exact absurd (fun _ _ => hpk) hy
      exact left_lt N (mono k) y h1 h3 h2
    have down : ∀ k, k ≤ N → left (p k) N + k ≤ left (p 0) N := by
      intro k
      induction k with
      | zero => intro _; omega
      | succ k ih => intro hk; have := step k (by omega); have := ih (by omega); omega
    have h0 : left (p 0) N < left (fun _ => false) N := left_lt N (fun q h => by cases h) x hx rfl ((hp 0 x).2 ⟨0, Nat.le_refl _, rfl⟩)
    have h1 : left (fun _ => false) N ≤ N := by
      unfold left
      have := List.countP_le_length (p := fun q : Nat => !(fun _ => false) q) (l := List.range N)
      rw [List.length_range] at this
      exact this
    have h2 := down N (Nat.le_refl _)
    omega

/-- Where a letter's place lies, so many steps on. -/
def nxt (hs ls : List Int) (p : Nat) : Nat := if p + 1 = hs.length + ls.length then hs.length else p + 1
def pl (hs ls : List Int) (p : Nat) : Nat → Nat
  | 0 => p
  | k + 1 => nxt hs ls (pl hs ls p k)

theorem pl_loop (hs ls : List Int) (hL : 0 < ls.length) : ∀ k, pl hs ls hs.length k = hs.length + k % ls.length := by
  intro k
  induction k with
  | zero => simp [pl]
  | succ k ih =>
    have hm : k % ls.length < ls.length := Nat.mod_lt _ hL
    show nxt hs ls (pl hs ls hs.length k) = _
    rw [ih]
    unfold nxt
    rw [Nat.add_mod k 1]
    by_cases e : hs.length + k % ls.length + 1 = hs.length + ls.length
    · rw [if_pos e]
      by_cases h1 : ls.length = 1
      · rw [h1]; omega
      · rw [Nat.mod_eq_of_lt (show 1 < ls.length by omega), show k % ls.length + 1 = ls.length by omega, Nat.mod_self]; omega
    · rw [if_neg e]
      have h1 : 1 < ls.length := by omega
      rw [Nat.mod_eq_of_lt h1, Nat.mod_eq_of_lt (show k % ls.length + 1 < ls.length by omega)]
      omega

theorem pl_head (hs ls : List Int) (hL : 0 < ls.length) : ∀ k, k ≤ hs.length → pl hs ls 0 k = k := by
  intro k
  induction k with
  | zero => intro _; rfl
  | succ k ih =>
    intro hk
    show nxt hs ls (pl hs ls 0 k) = _
    rw [ih (by omega)]
    unfold nxt
    rw [if_neg (by omega)]

theorem pl_add (hs ls : List Int) (p m : Nat) : ∀ n, pl hs ls p (m + n) = pl hs ls (pl hs ls p m) n := by
  intro n
  induction n with
  | zero => rfl
  | succ n ih =>
    show nxt hs ls (pl hs ls p (m + n)) = nxt hs ls (pl hs ls (pl hs ls p m) n)
    rw [ih]

theorem goN_place {A : Aut} {hs ls : List Int} : ∀ {n : Nat} {x y : Spot}, goN (EdgeA A hs ls) n x y → y.1 = pl hs ls x.1 n := by
  intro n
  induction n with
  | zero => rintro x y rfl; rfl
  | succ n ih =>
    intro x y h
    obtain ⟨z, h1, h2⟩ := goN_last h
    show _ = nxt hs ls (pl hs ls x.1 n)
    rw [← ih h1]
    exact h2.1

/-- A set of states so many letters on, from a place. -/
def setP (A : Aut) (hs ls : List Int) (p : Nat) (f : Nat → Bool) : Nat → Nat → Bool
  | 0 => f
  | k + 1 => mvL A.steps (lat hs ls (pl hs ls p k)) (setP A hs ls p f k)

theorem mvL_iff (ss : List Stp) (l : Int) (f : Nat → Bool) (t : Nat) : mvL ss l f t = true ↔ ∃ s ∈ ss, s.l = l ∧ f s.f.toNat = true ∧ s.t = t := by
  unfold mvL
  rw [List.any_eq_true]
  constructor
  · rintro ⟨s, hs, h⟩
    simp only [Bool.and_eq_true, decide_eq_true_eq] at h
    exact ⟨s, hs, h.1.1, h.1.2, h.2⟩
  · rintro ⟨s, hs, h1, h2, h3⟩
    exact ⟨s, hs, by simp [h1, h2, h3]⟩

theorem mvG_iff (ss : List Stp) (gd : List Bool) (l : Int) (f h : Nat → Bool) (t : Nat) : mvG ss gd l f h t = true ↔ ∃ s ∈ ss, s.l = l ∧ f s.f.toNat = true ∧ (h s.f.toNat = true ∨ gd.getD t false = true) ∧ s.t = t := by
  unfold mvG
  rw [List.any_eq_true]
  constructor
  · rintro ⟨s, hs, h⟩
    simp only [Bool.and_eq_true, Bool.or_eq_true, decide_eq_true_eq] at h
    exact ⟨s, hs, h.1.1.1, h.1.1.2, h.1.2, h.2⟩
  · rintro ⟨s, hs, h1, h2, h3, h4⟩
    refine ⟨s, hs, ?_⟩
    simp only [Bool.and_eq_true, Bool.or_eq_true, decide_eq_true_eq]
    exact ⟨⟨⟨h1, h2⟩, h3⟩, h4⟩

theorem edge_of {A : Aut} (hA : Right A) {hs ls : List Int} {p t : Nat} {s : Stp} (hs' : s ∈ A.steps) (hl : s.l = lat hs ls p) (ht : s.t = t) : EdgeA A hs ls (p, s.f.toNat) (nxt hs ls p, t) := by
  have := hA.steps s hs'
  exact ⟨rfl, s, hs', by show s.f = ((s.f.toNat : Nat) : Int); omega, hl, ht⟩

theorem edge_to {A : Aut} {hs ls : List Int} {x y : Spot} (h : EdgeA A hs ls x y) : ∃ s ∈ A.steps, s.l = lat hs ls x.1 ∧ s.f.toNat = x.2 ∧ s.t = y.2 ∧ y.1 = nxt hs ls x.1 := by
  obtain ⟨h1, s, hs', h2, h3, h4⟩ := h
  exact ⟨s, hs', h3, by omega, h4, h1⟩

theorem setP_iff {A : Aut} (hA : Right A) (hs ls : List Int) (p : Nat) (f : Nat → Bool) : ∀ k q, setP A hs ls p f k q = true ↔ ∃ q0, f q0 = true ∧ goN (EdgeA A hs ls) k (p, q0) (pl hs ls p k, q) := by
  intro k
  induction k with
  | zero =>
    intro q
    constructor
    · intro h; exact ⟨q, h, rfl⟩
    · rintro ⟨q0, h, e⟩
      cases e
      exact h
  | succ k ih =>
    intro q
    show mvL A.steps _ _ q = true ↔ _
    rw [mvL_iff]
    constructor
    · rintro ⟨s, hs', h1, h2, h3⟩
      obtain ⟨q0, h0, hg⟩ := (ih _).1 h2
      exact ⟨q0, h0, goN_snoc hg (edge_of hA hs' h1 h3)⟩
    · rintro ⟨q0, h0, hg⟩
      obtain ⟨y, h1, h2⟩ := goN_last hg
      obtain ⟨s, hs', h3, h4, h5, _⟩ := edge_to h2
      have hy := goN_place h1
      obtain ⟨y1, y2⟩ := y
      dsimp only at hy h3 h4 h5
      subst hy
      exact ⟨s, hs', h3, (ih _).2 ⟨q0, h0, by rw [h4]; exact h1⟩, h5⟩

/-- Both sets so many letters on, from a place. -/
def pairP (A : Aut) (hs ls : List Int) (p : Nat) (f : Nat → Bool) : Nat → Pr
  | 0 => (f, fun _ => false)
  | k + 1 => stepP A.steps A.good (pairP A hs ls p f k) (lat hs ls (pl hs ls p k))

theorem pairP_fst (A : Aut) (hs ls : List Int) (p : Nat) (f : Nat → Bool) : ∀ k, (pairP A hs ls p f k).1 = setP A hs ls p f k := by
  intro k
  induction k with
  | zero => rfl
  | succ k ih =>
    show mvL A.steps _ (pairP A hs ls p f k).1 = mvL A.steps _ (setP A hs ls p f k)
    rw [ih]

theorem pairP_snd {A : Aut} (hA : Right A) (hs ls : List Int) (p : Nat) (f : Nat → Bool) : ∀ k q, (pairP A hs ls p f k).2 q = true ↔
    ∃ q0 j z, f q0 = true ∧ 1 ≤ j ∧ j ≤ k ∧ goN (EdgeA A hs ls) j (p, q0) z ∧ A.good.getD z.2 false = true ∧ goN (EdgeA A hs ls) (k - j) z (pl hs ls p k, q) := by
  intro k
  induction k with
  | zero =>
    intro q
    constructor
    · intro h; cases h
    · rintro ⟨_, j, _, _, h1, h2, _⟩; omega
  | succ k ih =>
    intro q
    show mvG A.steps A.good _ (pairP A hs ls p f k).1 (pairP A hs ls p f k).2 q = true ↔ _
    rw [mvG_iff]
    constructor
    · rintro ⟨s, hs', h1, h2, h3, h4⟩
      have he := edge_of hA (hs := hs) (ls := ls) hs' h1 h4
      rcases h3 with h3 | h3
      · obtain ⟨q0, j, z, h0, hj1, hj2, hg1, hgd, hg2⟩ := (ih _).1 h3
        exact ⟨q0, j, z, h0, hj1, by omega, hg1, hgd, by rw [show k + 1 - j = k - j + 1 by omega]; exact goN_snoc hg2 he⟩
      · rw [pairP_fst] at h2
        obtain ⟨q0, h0, hg⟩ := (setP_iff hA hs ls p f k _).1 h2
        exact ⟨q0, k + 1, (pl hs ls p (k + 1), q), h0, by omega, Nat.le_refl _, goN_snoc hg he, h3, by rw [Nat.sub_self]; rfl⟩
    · rintro ⟨q0, j, z, h0, hj1, hj2, hg1, hgd, hg2⟩
      by_cases e : j = k + 1
      · subst e
        rw [Nat.sub_self] at hg2
        have hz : z = (pl hs ls p (k + 1), q) := hg2
        subst hz
        obtain ⟨y, h1, h2⟩ := goN_last hg1
        obtain ⟨s, hs', h3, h4, h5, _⟩ := edge_to h2
        have hy := goN_place h1
        obtain ⟨y1, y2⟩ := y
        dsimp only at hy h3 h4 h5 hgd
        subst hy
        exact ⟨s, hs', h3, by rw [pairP_fst, setP_iff hA]; exact ⟨q0, h0, by rw [h4]; exact h1⟩, Or.inr hgd, h5⟩
      · rw [show k + 1 - j = k - j + 1 by omega] at hg2
        obtain ⟨y, h1, h2⟩ := goN_last hg2
        obtain ⟨s, hs', h3, h4, h5, _⟩ := edge_to h2
        have hall : goN (EdgeA A hs ls) k (p, q0) y := by
          have := goN_trans hg1 h1
          rwa [show j + (k - j) = k by omega] at this
        have hy := goN_place hall
        obtain ⟨y1, y2⟩ := y
        dsimp only at hy h3 h4 h5
        subst hy
        exact ⟨s, hs', h3, by rw [pairP_fst, setP_iff hA]; exact ⟨q0, h0, by rw [h4]; exact hall⟩, Or.inl ((ih _).2 ⟨q0, j, z, h0, hj1, by omega, hg1, hgd, by rw [h4]; exact h1⟩), h5⟩

theorem head_sets (A : Aut) (hs ls : List Int) (hL : 0 < ls.length) (f : Nat → Bool) : ∀ j, j ≤ hs.length → mvsL A.steps (hs.take j) f = setP A hs ls 0 f j := by
  intro j
  induction j with
  | zero => intro _; rfl
  | succ j ih =>
    intro hj
    rw [mvsL_take _ _ _ _ (by omega), ih (by omega)]
    show _ = mvL A.steps (lat hs ls (pl hs ls 0 j)) _
    rw [pl_head hs ls hL j (by omega)]
    unfold lat
    rw [if_pos (by omega)]

theorem lat_loop (hs ls : List Int) (k i : Nat) (hi : i < ls.length) : lat hs ls (pl hs ls hs.length (k * ls.length + i)) = ls.getD i 0 := by
  rw [pl_loop hs ls (by omega)]
  unfold lat
  rw [if_neg (by omega), Nat.add_comm (k * ls.length) i, Nat.add_mul_mod_self_right, Nat.mod_eq_of_lt hi, Nat.add_sub_cancel_left, Nat.mod_eq_of_lt hi]

theorem loop_part (A : Aut) (hs ls : List Int) (f : Nat → Bool) (k : Nat) : ∀ i, i ≤ ls.length → mvsL A.steps (ls.take i) (setP A hs ls hs.length f (k * ls.length)) = setP A hs ls hs.length f (k * ls.length + i) := by
  intro i
  induction i with
  | zero => intro _; rfl
  | succ i ih =>
    intro hi
    rw [mvsL_take _ _ _ _ (by omega), ih (by omega)]
    show _ = mvL A.steps (lat hs ls (pl hs ls hs.length (k * ls.length + i))) _
    rw [lat_loop hs ls k i (by omega)]
    rfl

theorem loop_sets (A : Aut) (hs ls : List Int) (f : Nat → Bool) : ∀ k, itL A.steps ls f k = setP A hs ls hs.length f (k * ls.length) := by
  intro k
  induction k with
  | zero => rw [Nat.zero_mul]; rfl
  | succ k ih =>
    show mvsL A.steps ls (itL A.steps ls f k) = _
    rw [ih]
    have := loop_part A hs ls f k ls.length (Nat.le_refl _)
    rw [List.take_length] at this
    rw [this, Nat.succ_mul]

theorem pair_part (A : Aut) (hs ls : List Int) (f : Nat → Bool) (k : Nat) : ∀ i, i ≤ ls.length → runP A.steps A.good (ls.take i) (pairP A hs ls hs.length f (k * ls.length)) = pairP A hs ls hs.length f (k * ls.length + i) := by
  intro i
  induction i with
  | zero => intro _; rfl
  | succ i ih =>
    intro hi
    rw [runP_take _ _ _ _ _ (by omega), ih (by omega)]
    show _ = stepP A.steps A.good _ (lat hs ls (pl hs ls hs.length (k * ls.length + i)))
    rw [lat_loop hs ls k i (by omega)]
    rfl

theorem pair_loops (A : Aut) (hs ls : List Int) (q : Nat) : ∀ k, loopsP A.steps A.good ls k (startP q) = pairP A hs ls hs.length (fun i => decide (i = q)) (k * ls.length) := by
  intro k
  induction k with
  | zero => rw [Nat.zero_mul]; rfl
  | succ k ih =>
    show runP A.steps A.good ls (loopsP A.steps A.good ls k (startP q)) = _
    rw [ih]
    have := pair_part A hs ls (fun i => decide (i = q)) k ls.length (Nat.le_refl _)
    rw [List.take_length] at this
    rw [this, Nat.succ_mul]

theorem pl_whole (hs ls : List Int) (hL : 0 < ls.length) (k : Nat) : pl hs ls hs.length (k * ls.length) = hs.length := by
  rw [pl_loop hs ls hL, Nat.mul_mod_left, Nat.add_zero]

/-- One loop on. -/
def oneL (A : Aut) (hs ls : List Int) (x y : Nat) : Prop := goN (EdgeA A hs ls) ls.length (hs.length, x) (hs.length, y)

theorem goN_small {A : Aut} {hs ls : List Int} {N : Nat} (hA : Right A) (hN : (N : Int) = A.n) {n : Nat} {x y : Spot} (hn : 0 < n) (h : goN (EdgeA A hs ls) n x y) : y.2 < N := by
  obtain ⟨n, rfl⟩ := Nat.exists_eq_succ_of_ne_zero (by omega : n ≠ 0)
  obtain ⟨z, _, _, s, hs', _, _, h4⟩ := goN_last h
  have := hA.steps s hs'
  omega

theorem rN_loops {A : Aut} {hs ls : List Int} (hL : 0 < ls.length) : ∀ n x y, rN (oneL A hs ls) n x y ↔ goN (EdgeA A hs ls) (n * ls.length) (hs.length, x) (hs.length, y) := by
  intro n
  induction n with
  | zero =>
    intro x y
    rw [Nat.zero_mul]
    exact ⟨fun h => by cases h; rfl, fun h => by cases h; rfl⟩
  | succ n ih =>
    intro x y
    constructor
    · rintro ⟨z, h1, h2⟩
      rw [Nat.succ_mul]
      exact goN_trans ((ih _ _).1 h1) h2
    · intro h
      rw [Nat.succ_mul] at h
      obtain ⟨z, h1, h2⟩ := goN_split h
      have hz := goN_place h1
      dsimp only at hz
      rw [pl_whole hs ls hL] at hz
      obtain ⟨z1, z2⟩ := z
      dsimp only at hz
      subst hz
      exact ⟨z2, (ih _ _).2 h1, h2⟩

theorem loops_short {A : Aut} {hs ls : List Int} {N : Nat} (hA : Right A) (hL : 0 < ls.length) (hN : (N : Int) = A.n) {n x y : Nat} (hx : x < N) (h : goN (EdgeA A hs ls) (n * ls.length) (hs.length, x) (hs.length, y)) : ∃ m, m < N ∧ goN (EdgeA A hs ls) (m * ls.length) (hs.length, x) (hs.length, y) := by
  obtain ⟨m, hm, hr⟩ := rN_short (R := oneL A hs ls) (N := N) (fun x y h => goN_small hA hN hL h) hx ((rN_loops hL n x y).2 h)
  exact ⟨m, hm, (rN_loops hL m x y).1 hr⟩

theorem back_mult {hs ls : List Int} (hL : 0 < ls.length) {c : Nat} (h : pl hs ls hs.length c = hs.length) : ∃ k, c = k * ls.length := by
  rw [pl_loop hs ls hL] at h
  exact ⟨c / ls.length, by have := Nat.div_add_mod c ls.length; rw [Nat.mul_comm]; omega⟩

/-- A circle by a good state: so many loops as there are states, twice, are enough. -/
theorem circ_iff {A : Aut} {hs ls : List Int} {N : Nat} (hA : Right A) (hL : 0 < ls.length) (hN : (N : Int) = A.n) {q : Nat} (hq : q < N) : circB A.steps A.good ls N q = true ↔ ∃ j m z, 1 ≤ j ∧ goN (EdgeA A hs ls) j (hs.length, q) z ∧ A.good.getD z.2 false = true ∧ goN (EdgeA A hs ls) m z (hs.length, q) := by
  unfold circB
  rw [List.any_eq_true]
  constructor
  · rintro ⟨n, hn, h⟩
    rw [pair_loops A hs ls, pairP_snd hA] at h
    obtain ⟨q0, j, z, h0, h1, _, h3, h4, h5⟩ := h
    have h0 : q0 = q := by simpa using h0
    subst h0
    rw [pl_whole hs ls hL] at h5
    exact ⟨j, _, z, h1, h3, h4, h5⟩
  · rintro ⟨j, m, z, h1, h3, h4, h5⟩
    -- the loops ahead of the one in which z lies, and those behind it
    have hall := goN_trans h3 h5
    have hp := goN_place hall
    dsimp only at hp
    obtain ⟨c, hc⟩ := back_mult hL hp.symm
    obtain ⟨a, r, hr1, hr2, hj⟩ : ∃ a r, 1 ≤ r ∧ r ≤ ls.length ∧ j = a * ls.length + r := by
      refine ⟨(j - 1) / ls.length, (j - 1) % ls.length + 1, by omega, ?_, ?_⟩
      · have := Nat.mod_lt (j - 1) hL; omega
      · have := Nat.div_add_mod (j - 1) ls.length; rw [Nat.mul_comm] at this; omega
    subst hj
    obtain ⟨u, hu1, hu2⟩ := goN_split h3
    have hup := goN_place hu1
    dsimp only at hup
    rw [pl_whole hs ls hL] at hup
    obtain ⟨u1, u2⟩ := u
    dsimp only at hup
    subst hup
    -- how z's loop ends
    have hac : a + 1 ≤ c := by
      have h6 : a * ls.length < c * ls.length := by omega
      have := Nat.lt_of_mul_lt_mul_right h6
      omega
    obtain ⟨d, rfl⟩ := Nat.exists_eq_add_of_le hac
    have hm : m = (ls.length - r) + d * ls.length := by
      have e : (a + 1 + d) * ls.length = a * ls.length + ls.length + d * ls.length := by rw [Nat.add_mul, Nat.add_mul, Nat.one_mul]
      rw [e] at hc
      omega
    subst hm
    obtain ⟨v, hv1, hv2⟩ := goN_split h5
    have hone := goN_trans hu2 hv1
    rw [show r + (ls.length - r) = ls.length by omega] at hone
    have hvp := goN_place hone
    dsimp only at hvp
    have e1 := pl_whole hs ls hL 1
    rw [Nat.one_mul] at e1
    rw [e1] at hvp
    obtain ⟨v1, v2⟩ := v
    dsimp only at hvp
    subst hvp
    have hv : v2 < N := goN_small hA hN hL hone
    obtain ⟨a', ha', g1⟩ := loops_short hA hL hN hq hu1
    obtain ⟨d', hd', g2⟩ := loops_short hA hL hN hv hv2
    refine ⟨a' + d', by simp; omega, ?_⟩
    rw [pair_loops A hs ls, pairP_snd hA]
    refine ⟨q, a' * ls.length + r, z, by simp, by omega, ?_, goN_trans g1 hu2, h4, ?_⟩
    · have e : (a' + d' + 1) * ls.length = a' * ls.length + d' * ls.length + ls.length := by rw [Nat.add_mul, Nat.add_mul, Nat.one_mul]
      rw [e]; omega
    · rw [pl_whole hs ls hL]
      have e : (a' + d' + 1) * ls.length - (a' * ls.length + r) = (ls.length - r) + d' * ls.length := by
        have e : (a' + d' + 1) * ls.length = a' * ls.length + d' * ls.length + ls.length := by rw [Nat.add_mul, Nat.add_mul, Nat.one_mul]
        rw [e]; omega
      rw [e]
      exact goN_trans hv1 g2

theorem firstF_iff {A : Aut} (hA : Right A) (q : Nat) : firstF A.first q = true ↔ ∃ i, i < A.first.length ∧ (A.first.getD i 0).toNat = q := by
  unfold firstF
  rw [List.any_eq_true]
  constructor
  · rintro ⟨x, hx, h⟩
    obtain ⟨i, hi, rfl⟩ := List.mem_iff_getElem.1 hx
    refine ⟨i, hi, ?_⟩
    have : A.first[i] = (q : Int) := by simpa using h
    simp [List.getD, hi, this]
  · rintro ⟨i, hi, h⟩
    have hm : A.first[i] ∈ A.first := List.getElem_mem hi
    refine ⟨A.first[i], hm, ?_⟩
    have h1 := hA.first _ hm
    have h2 : A.first.getD i 0 = A.first[i] := by simp [List.getD, hi]
    rw [h2] at h
    simp only [decide_eq_true_eq]
    omega

/-- What loops lead to, from the head's end on. -/
theorem reach_iff {A : Aut} {hs ls : List Int} {N : Nat} (hA : Right A) (hL : 0 < ls.length) (_hN : (N : Int) = A.n) (k q : Nat) : itL A.steps ls (mvsL A.steps hs (firstF A.first)) k q = true ↔ ∃ i, i < A.first.length ∧ goN (EdgeA A hs ls) (hs.length + k * ls.length) (0, (A.first.getD i 0).toNat) (hs.length, q) := by
  have hh := head_sets A hs ls hL (firstF A.first) hs.length (Nat.le_refl _)
  rw [List.take_length] at hh
  rw [loop_sets A hs ls, hh, setP_iff hA, pl_whole hs ls hL]
  constructor
  · rintro ⟨x, h1, h2⟩
    obtain ⟨y, h3, h4⟩ := (setP_iff hA hs ls 0 _ _ _).1 h1
    rw [pl_head hs ls hL _ (Nat.le_refl _)] at h4
    obtain ⟨i, hi, rfl⟩ := (firstF_iff hA y).1 h3
    exact ⟨i, hi, goN_trans h4 h2⟩
  · rintro ⟨i, hi, h⟩
    obtain ⟨y, h1, h2⟩ := goN_split h
    have hy := goN_place h1
    dsimp only at hy
    rw [pl_head hs ls hL _ (Nat.le_refl _)] at hy
    obtain ⟨y1, y2⟩ := y
    dsimp only at hy
    subst hy
    refine ⟨y2, (setP_iff hA hs ls 0 _ _ _).2 ⟨_, (firstF_iff hA _).2 ⟨i, hi, rfl⟩, ?_⟩, h2⟩
    rw [pl_head hs ls hL _ (Nat.le_refl _)]
    exact h1

theorem reach_small {A : Aut} {hs ls : List Int} {N : Nat} (hA : Right A) (hL : 0 < ls.length) (hN : (N : Int) = A.n) {k q : Nat} (h : itL A.steps ls (mvsL A.steps hs (firstF A.first)) k q = true) : q < N := by
  obtain ⟨i, hi, hg⟩ := (reach_iff hA hL hN (hs := hs) k q).1 h
  by_cases h0 : 0 < hs.length + k * ls.length
  · exact goN_small hA hN h0 hg
  · have e : hs.length + k * ls.length = 0 := by omega
    rw [e] at hg
    have hq : (A.first.getD i 0).toNat = q := congrArg Prod.snd hg
    have hm : A.first.getD i 0 ∈ A.first := by simp [List.getD, hi]
    have := hA.first _ hm
    omega

theorem closed {A : Aut} {hs ls : List Int} {N : Nat} (hA : Right A) (hL : 0 < ls.length) (hN : (N : Int) = A.n) {K : Nat} (hK : ∀ q, q < N → itL A.steps ls (mvsL A.steps hs (firstF A.first)) K q = true → unB A.steps ls (mvsL A.steps hs (firstF A.first)) K q = true) :
    ∀ k q, itL A.steps ls (mvsL A.steps hs (firstF A.first)) k q = true → unB A.steps ls (mvsL A.steps hs (firstF A.first)) K q = true := by
  have un : ∀ q, unB A.steps ls (mvsL A.steps hs (firstF A.first)) K q = true ↔ ∃ j, j < K ∧ itL A.steps ls (mvsL A.steps hs (firstF A.first)) j q = true := fun q => by
    unfold unB
    rw [List.any_eq_true]
    exact ⟨fun ⟨j, hj, h⟩ => ⟨j, by simpa using hj, h⟩, fun ⟨j, hj, h⟩ => ⟨j, by simpa using hj, h⟩⟩
  intro k
  induction k with
  | zero =>
    intro q h
    by_cases h0 : 0 < K
    · exact (un q).2 ⟨0, h0, h⟩
    · have e : K = 0 := by omega
      subst e
      exact hK q (reach_small hA hL hN h) h
  | succ k ih =>
    intro q h
    rw [loop_sets A hs ls, setP_iff hA, pl_whole hs ls hL] at h
    obtain ⟨x, hx, hg⟩ := h
    rw [Nat.succ_mul] at hg
    obtain ⟨y, h1, h2⟩ := goN_split hg
    have hy := goN_place h1
    dsimp only at hy
    rw [pl_whole hs ls hL] at hy
    obtain ⟨y1, y2⟩ := y
    dsimp only at hy
    subst hy
    have hky : itL A.steps ls (mvsL A.steps hs (firstF A.first)) k y2 = true := by
      rw [loop_sets A hs ls, setP_iff hA, pl_whole hs ls hL]
      exact ⟨x, hx, h1⟩
    obtain ⟨j, hj, hjy⟩ := (un y2).1 (ih y2 hky)
    have hnext : itL A.steps ls (mvsL A.steps hs (firstF A.first)) (j + 1) q = true := by
      rw [loop_sets A hs ls, setP_iff hA, pl_whole hs ls hL] at hjy ⊢
      obtain ⟨x', hx', hg'⟩ := hjy
      exact ⟨x', hx', by rw [Nat.succ_mul]; exact goN_trans hg' h2⟩
    by_cases e : j + 1 < K
    · exact (un q).2 ⟨j + 1, e, hnext⟩
    · have e2 : j + 1 = K := by omega
      rw [e2] at hnext
      exact hK q (reach_small hA hL hN hnext) hnext

theorem pl_lt {hs ls : List Int} (hL : 0 < ls.length) {p : Nat} (hp : p < hs.length + ls.length) : ∀ k, pl hs ls p k < hs.length + ls.length := by
  intro k
  induction k with
  | zero => exact hp
  | succ k ih =>
    show nxt hs ls (pl hs ls p k) < _
    unfold nxt
    split <;> omega

theorem pl_reach {hs ls : List Int} : ∀ d p, p < hs.length + ls.length → hs.length + ls.length - p = d → ∃ t, pl hs ls p t = hs.length := by
  intro d
  induction d with
  | zero => intro p hp e; omega
  | succ d ih =>
    intro p hp e
    by_cases h1 : p + 1 = hs.length + ls.length
    · refine ⟨1, ?_⟩
      show nxt hs ls p = _
      unfold nxt
      rw [if_pos h1]
    · obtain ⟨t, ht⟩ := ih (p + 1) (by omega) (by omega)
      refine ⟨1 + t, ?_⟩
      rw [pl_add]
      have : pl hs ls p 1 = p + 1 := by
        show nxt hs ls p = _
        unfold nxt
        rw [if_neg h1]
      rw [this]
      exact ht

theorem whole_of {hs ls : List Int} (hL : 0 < ls.length) {M : Nat} (h : pl hs ls 0 M = hs.length) : ∃ k, M = hs.length + k * ls.length := by
  by_cases hM : M ≤ hs.length
  · rw [pl_head hs ls hL M hM] at h
    exact ⟨0, by omega⟩
  · obtain ⟨c, rfl⟩ := Nat.exists_eq_add_of_le (show hs.length ≤ M by omega)
    rw [pl_add, pl_head hs ls hL _ (Nat.le_refl _)] at h
    obtain ⟨k, rfl⟩ := back_mult hL h
    exact ⟨k, rfl⟩

/-- What the reference finds is what is asked for. -/
theorem takes_iff {A : Aut} {hs ls : List Int} {N : Nat} (hA : Right A) (hL : 0 < ls.length) (hN : (N : Int) = A.n) {K : Nat} (hK : ∀ q, q < N → itL A.steps ls (mvsL A.steps hs (firstF A.first)) K q = true → unB A.steps ls (mvsL A.steps hs (firstF A.first)) K q = true) :
    ((List.range N).any fun q => unB A.steps ls (mvsL A.steps hs (firstF A.first)) K q && circB A.steps A.good ls N q) = true ↔ TakesA A hs ls := by
  rw [List.any_eq_true]
  constructor
  · rintro ⟨q, hq, h⟩
    have hq' : q < N := by simpa using hq
    rw [Bool.and_eq_true] at h
    have h1 := h.1
    unfold unB at h1
    rw [List.any_eq_true] at h1
    obtain ⟨k, _, hk⟩ := h1
    obtain ⟨i, hi, hg⟩ := (reach_iff hA hL hN (hs := hs) k q).1 hk
    obtain ⟨j, m, z, hj, g1, g2, g3⟩ := (circ_iff hA hL hN (hs := hs) hq').1 h.2
    refine ⟨i, hi, z, Leads.trans ⟨_, hg⟩ ⟨j, g1⟩, g2, ?_⟩
    have := goN_trans g3 g1
    exact ⟨m + j - 1, by rw [show m + j - 1 + 1 = m + j by omega]; exact this⟩
  · rintro ⟨i, hi, z, ⟨n, h1⟩, h2, c, h3⟩
    -- z's place leads to the loop's first one
    have hzp : z.1 < hs.length + ls.length := by
      rw [goN_place h1]
      exact pl_lt hL (by omega) n
    obtain ⟨t, ht⟩ := pl_reach _ z.1 hzp rfl
    have hbig := goN_times h3 (t + 1)
    have hle : t + 1 ≤ (t + 1) * (c + 1) := Nat.le_mul_of_pos_right _ (by omega)
    obtain ⟨r, hr⟩ := Nat.exists_eq_add_of_le hle
    rw [hr, show t + 1 + r = t + (1 + r) by omega] at hbig
    obtain ⟨u, g1, g2⟩ := goN_split hbig
    have hu := goN_place g1
    rw [ht] at hu
    obtain ⟨u1, q⟩ := u
    dsimp only at hu
    subst hu
    have hlong := goN_trans h1 g1
    have hM := goN_place hlong
    dsimp only at hM
    obtain ⟨k, hk⟩ := whole_of hL hM.symm
    rw [hk] at hlong
    have hit := (reach_iff hA hL hN (hs := hs) k q).2 ⟨i, hi, hlong⟩
    have hq := reach_small hA hL hN hit
    refine ⟨q, by simpa using hq, ?_⟩
    rw [Bool.and_eq_true]
    exact ⟨closed hA hL hN hK k q hit, (circ_iff hA hL hN (hs := hs) hq).2 ⟨1 + r, t, z, by omega, g2, h2, g1⟩⟩
end Go.Proofs.YtpiacnnifdjlkabDoor

/-
  WordTakes of the statements: true, whatever it is handed.
-/
namespace Go.Proofs.YtpiacnnifdjlkabDoor
open Go.RowKit Go.Sort

end Go.Proofs.YtpiacnnifdjlkabDoor

namespace Go.Proofs.YtpiacnnifdjlkabDoor
open Go.ChangeShapes Go.WideShapes Go.ChangeAt Go.RowKit Go.Deep
set_option maxRecDepth 100000

theorem cellsBool : Tryd.prog.cellsOf 4 = 1 := by kernel_rfl
theorem cellsStep : Tryd.prog.cellsOf 49 = 3 := by kernel_rfl
theorem cellsAuto : Tryd.prog.cellsOf 26 = 5 := by kernel_rfl

/-- An address at which a cell can be read is a plain one. -/
theorem plain_addr {W : World} {a : Addr} {v : Value} (h : W.cell? (a.add 0) = some v) : ∃ b off, a = ⟨b, off, none⟩ := by
  obtain ⟨b, off, spot⟩ := a
  simp only [Addr.add, if_true, World.cell?] at h
  split at h
  · cases spot with
    | none => exact ⟨b, off, rfl⟩
    | some s => simp at h
  · cases h

theorem boolSl_of_trod {H : Type} {enc : TypeId × Value → H} {W : World} {n : Nat} {u : Value} {y : DataW H × List MemPlace} (h : DataW.trod enc Tryd.prog W 0 (fun _ => true) true n 23 [u] = some y) :
    ∃ zs, BoolSl W u zs := by
  rcases open_bools Tryd.underlying23 Tryd.underlying4 cellsBool h with ⟨hcs, _⟩ | ⟨a, len, cap, B, hcs, _, hl, hm, _, hcell⟩
  · simp only [List.cons.injEq, and_true] at hcs
    subst hcs
    exact ⟨[], .none, 0, rfl, by simp [maxLen], Or.inl rfl, fun _ => rfl, by simp⟩
  · simp only [List.cons.injEq, and_true] at hcs
    subst hcs
    have hlen : ((List.range len).map B).length = len := by simp
    refine ⟨(List.range len).map B, some a, cap, by rw [hlen], by rw [hlen]; omega, ?_, fun e => (by cases e), by rw [hlen]; exact hl⟩
    by_cases h0 : len = 0
    · left
      rw [h0]
      rfl
    · right
      obtain ⟨b, off, rfl⟩ := plain_addr (hcell 0 (by omega))
      refine ⟨b, off, rfl, fun i hi => ?_⟩
      rw [hlen] at hi
      have ci := hcell i (by omega)
      rw [add_none] at ci
      rw [ci]
      congr 2
      simp [List.getD, hi]

theorem one_int {H : Type} {enc : TypeId × Value → H} {W : World} {n : Nat} {c : Value} {y : DataW H × List MemPlace} (h : DataW.trod enc Tryd.prog W 0 (fun _ => true) true n 3 [c] = some y) : ∃ z, c = .int .i64 z ∧ (Lit.int .i64 z).wf = true := by
  obtain ⟨z, hc, _, hw⟩ := DataW.trod_int Tryd.underlying3 h
  simp only [List.cons.injEq, and_true] at hc
  exact ⟨z, hc, hw⟩

theorem three_of {cs : List Value} (h : cs.length = 3) : ∃ c0 c1 c2, cs = [c0, c1, c2] := by
  match cs, h with
  | [c0, c1, c2], _ => exact ⟨c0, c1, c2, rfl⟩

theorem five_of {cs : Array Value} (h : cs.size = 5) : ∃ c0 c1 c2 c3 c4, cs = #[c0, c1, c2, c3, c4] := by
  obtain ⟨l⟩ := cs
  match l, h with
  | [c0, c1, c2, c3, c4], _ => exact ⟨c0, c1, c2, c3, c4, rfl⟩

theorem step_of_trod {H : Type} {enc : TypeId × Value → H} {W : World} {n : Nat} {cs : List Value} {y : DataW H × List MemPlace} (h : DataW.trod enc Tryd.prog W 0 (fun _ => true) true n 49 cs = some y) :
    ∃ s : Stp, cs = [.int .i64 s.f, .int .i64 s.l, .int .i64 s.t] := by
  obtain ⟨y0, y1, y2, m, _, hl, h0, h1, h2⟩ := trod_struct3 Tryd.underlying49 h
  rw [cellsStep] at hl
  obtain ⟨c0, c1, c2, rfl⟩ := three_of hl
  have e := cellsInt
  dsimp only at h0 h1 h2
  rw [e] at h0 h1 h2
  obtain ⟨z0, rfl, _⟩ := one_int h0
  obtain ⟨z1, rfl, _⟩ := one_int h1
  obtain ⟨z2, rfl, _⟩ := one_int h2
  exact ⟨⟨z0, z1, z2⟩, rfl⟩

theorem stepSl_of_trod {H : Type} {enc : TypeId × Value → H} {W : World} {n : Nat} {u : Value} {y : DataW H × List MemPlace} (h : DataW.trod enc Tryd.prog W 0 (fun _ => true) true n 24 [u] = some y) :
    ∃ zs, StepSl W u zs := by
  rcases open_slice Tryd.underlying24 h with ⟨hcs, _⟩ | ⟨a, len, cap, m, k, D, Pl, hcs, _, hl, hm, hmm, _, hel⟩
  · simp only [List.cons.injEq, and_true] at hcs
    subst hcs
    exact ⟨[], .none, 0, rfl, by simp [maxLen], Or.inl rfl, fun _ => rfl, by simp⟩
  · simp only [List.cons.injEq, and_true] at hcs
    subst hcs
    simp only [if_true] at hmm
    subst hmm
    rw [cellsStep] at hel
    have each : ∀ i, i < m → ∃ s : Stp, W.cell? ((a.add (i * 3)).add 0) = some (.int .i64 s.f) ∧ W.cell? ((a.add (i * 3)).add 1) = some (.int .i64 s.l) ∧ W.cell? ((a.add (i * 3)).add 2) = some (.int .i64 s.t) := by
      intro i hi
      obtain ⟨cs', hc, ht⟩ := hel i hi
      obtain ⟨s, rfl⟩ := step_of_trod ht
      obtain ⟨_, _, hcell⟩ := World.cells?_some hc
      exact ⟨s, hcell 0 (by omega), hcell 1 (by omega), hcell 2 (by omega)⟩
    obtain ⟨S, hS⟩ := @choose_lt Stp ⟨stp0⟩ _ _ each
    have hlen : ((List.range len).map S).length = len := by simp
    refine ⟨(List.range len).map S, some a, m, by rw [hlen], by rw [hlen]; omega, ?_, fun e => (by cases e), by rw [hlen]; exact hl⟩
    by_cases h0 : len = 0
    · left
      rw [h0]
      rfl
    · right
      have c0 := (hS 0 (by omega)).1
      rw [Nat.zero_mul] at c0
      have c00 : W.cell? (a.add 0) = some (.int .i64 (S 0).f) := c0
      obtain ⟨b, off, rfl⟩ := plain_addr c00
      refine ⟨b, off, rfl, fun i hi => ?_⟩
      rw [hlen] at hi
      obtain ⟨q0, q1, q2⟩ := hS i (by omega)
      rw [add_none, add_none] at q0 q1 q2
      have e : ((List.range len).map S).getD i stp0 = S i := by simp [List.getD, hi]
      rw [e]
      exact ⟨q0, q1, q2⟩

theorem auto_of_trod {H : Type} {enc : TypeId × Value → H} {W : World} {r : Reach} {b0 : Nat} {v : Value} {d : DataW H} {p : List MemPlace} (hv : Value.okWide Tryd.prog W r b0 26 v) (h : DataW.Trod enc Tryd.prog W 0 (fun _ => true) true 26 v d p) :
    ∃ A, AutV W v A := by
  obtain ⟨cs, rfl, hsz⟩ := okWide_struct Tryd.underlying26 hv
  obtain ⟨c0, c1, c2, c3, c4, rfl⟩ := five_of (hsz.trans cellsAuto)
  obtain ⟨fuel, hf⟩ := h
  obtain ⟨xs, n, _, _, _, hlen, hfs⟩ := DataW.trod_struct Tryd.underlying26 hf
  have hx : xs.length = 5 := hlen
  have key : ∀ i (hi : i < 5), xs[i]? = some (xs[i]'(by omega)) := fun i hi => List.getElem?_eq_getElem (by omega)
  have t0 : DataW.trod enc Tryd.prog W 0 (fun _ => true) true n 3 (List.take (Tryd.prog.cellsOf 3) (List.drop 0 [c0, c1, c2, c3, c4])) = some (xs[0]'(by omega)) := (hfs 0 _ rfl).trans (key 0 (by omega))
  have t1 : DataW.trod enc Tryd.prog W 0 (fun _ => true) true n 3 (List.take (Tryd.prog.cellsOf 3) (List.drop 1 [c0, c1, c2, c3, c4])) = some (xs[1]'(by omega)) := (hfs 1 _ rfl).trans (key 1 (by omega))
  have t2 : DataW.trod enc Tryd.prog W 0 (fun _ => true) true n 22 (List.take (Tryd.prog.cellsOf 22) (List.drop 2 [c0, c1, c2, c3, c4])) = some (xs[2]'(by omega)) := (hfs 2 _ rfl).trans (key 2 (by omega))
  have t3 : DataW.trod enc Tryd.prog W 0 (fun _ => true) true n 23 (List.take (Tryd.prog.cellsOf 23) (List.drop 3 [c0, c1, c2, c3, c4])) = some (xs[3]'(by omega)) := (hfs 3 _ rfl).trans (key 3 (by omega))
  have t4 : DataW.trod enc Tryd.prog W 0 (fun _ => true) true n 24 (List.take (Tryd.prog.cellsOf 24) (List.drop 4 [c0, c1, c2, c3, c4])) = some (xs[4]'(by omega)) := (hfs 4 _ rfl).trans (key 4 (by omega))
  have e3 := cellsInt
  have e22 : Tryd.prog.cellsOf 22 = 1 := by kernel_rfl
  have e23 : Tryd.prog.cellsOf 23 = 1 := by kernel_rfl
  have e24 : Tryd.prog.cellsOf 24 = 1 := by kernel_rfl
  rw [e3] at t0 t1
  rw [e22] at t2
  rw [e23] at t3
  rw [e24] at t4
  obtain ⟨z0, rfl, _⟩ := one_int t0
  obtain ⟨z1, rfl, _⟩ := one_int t1
  obtain ⟨fs, i2, _⟩ := intSl_of_trod t2
  obtain ⟨gs, i3⟩ := boolSl_of_trod t3
  obtain ⟨ss, i4⟩ := stepSl_of_trod t4
  exact ⟨⟨z0, z1, fs, gs, ss⟩, c2, c3, c4, rfl, i2, i3, i4⟩
end Go.Proofs.YtpiacnnifdjlkabDoor
