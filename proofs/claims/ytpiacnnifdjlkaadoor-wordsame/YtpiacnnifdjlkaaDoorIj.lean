/-
  What number of package auto answers of a word, in any case.
-/
import Derived.Test.YtpiacnnifdjlkaaDoorIo
/-
  A trimmed automaton takes the same words; whether a lasso is taken hangs on its letters alone: plain mathematics.
-/
namespace Go.Proofs.YtpiacnnifdjlkaaDoor

theorem rk_inj {f : Nat → Bool} {s t : Nat} (hs : f s = true) (ht : f t = true) (h : rk f s = rk f t) : s = t := by
  rcases Nat.lt_trichotomy s t with h1 | h1 | h1
  · have := rk_lt f h1 hs; omega
  · exact h1
  · have := rk_lt f h1 ht; omega

theorem keptGood_get {f : Nat → Bool} {gd : List Bool} {q : Nat} : ∀ {N : Nat}, q < N → f q = true → (keptGood f gd N).getD (rk f q) false = gd.getD q false
  | 0, h, _ => absurd h (Nat.not_lt_zero _)
  | N + 1, h, hf => by
    rw [keptGood_succ]
    by_cases e : q = N
    · subst e
      rw [if_pos hf, List.getD, ← keptGood_len f gd q, List.getElem?_append_right (Nat.le_refl _), Nat.sub_self]
      rfl
    · have hl : rk f q < (keptGood f gd N).length := by rw [keptGood_len]; exact rk_lt f (by omega) hf
      rw [List.getD, List.getElem?_append_left hl]
      exact keptGood_get (by omega) hf

section
variable {A : Aut} {f : Nat → Bool} {N : Nat} {hs ls : List Int}

/-- A place and a state, the state numbered anew. -/
def img (f : Nat → Bool) (x : Spot) : Spot := (x.1, rk f x.2)

/-- A state that is kept. -/
def Kept (f : Nat → Bool) (N : Nat) (x : Spot) : Prop := x.2 < N ∧ f x.2 = true

theorem img_inj {x y : Spot} (hx : Kept f N x) (hy : Kept f N y) (h : img f x = img f y) : x = y := by
  have h1 : (img f x).1 = (img f y).1 := congrArg Prod.fst h
  have h2 : (img f x).2 = (img f y).2 := congrArg Prod.snd h
  exact Prod.ext h1 (rk_inj hx.2 hy.2 h2)

theorem edge_img (hA : Right A) (hN : (N : Int) = A.n) (hf : ∀ q, q < N → (f q = true ↔ ReachA A q)) {x y : Spot} (hx : Kept f N x) (h : EdgeA A hs ls x y) : EdgeA (onlyA f N A) hs ls (img f x) (img f y) ∧ Kept f N y := by
  obtain ⟨h1, s, hs', e1, e2, e3⟩ := h
  have hb := hA.steps s hs'
  have hy : y.2 < N := by omega
  refine ⟨⟨h1, keptStep f s, ?_, ?_, e2, ?_⟩, hy, ?_⟩
  · refine List.mem_map.2 ⟨s, List.mem_filter.2 ⟨hs', ?_⟩, rfl⟩
    rw [e1, Int.toNat_natCast]
    exact hx.2
  · show ((rk f s.f.toNat : Nat) : Int) = (rk f x.2 : Nat)
    rw [e1, Int.toNat_natCast]
  · show ((rk f s.t.toNat : Nat) : Int) = (rk f y.2 : Nat)
    rw [e3, Int.toNat_natCast]
  · exact (hf y.2 hy).2 (((hf x.2 hx.1).1 hx.2).step ⟨s, hs', e1, e3⟩)

theorem edge_pre (hA : Right A) (hN : (N : Int) = A.n) (hf : ∀ q, q < N → (f q = true ↔ ReachA A q)) {x y' : Spot} (hx : Kept f N x) (h : EdgeA (onlyA f N A) hs ls (img f x) y') : ∃ y, y' = img f y ∧ EdgeA A hs ls x y ∧ Kept f N y := by
  obtain ⟨h1, s', hs', e1, e2, e3⟩ := h
  obtain ⟨s, hm, rfl⟩ := List.mem_map.1 hs'
  obtain ⟨hm, hk⟩ := List.mem_filter.1 hm
  have hb := hA.steps s hm
  have e1' : ((rk f s.f.toNat : Nat) : Int) = (rk f x.2 : Nat) := e1
  have e3' : ((rk f s.t.toNat : Nat) : Int) = (y'.2 : Nat) := e3
  have ex : s.f.toNat = x.2 := rk_inj hk hx.2 (by omega)
  have hE : EdgeA A hs ls x (y'.1, s.t.toNat) := ⟨h1, s, hm, by omega, e2, by show s.t = ((s.t.toNat : Nat) : Int); omega⟩
  refine ⟨(y'.1, s.t.toNat), Prod.ext rfl (by show y'.2 = rk f s.t.toNat; omega), hE, (edge_img hA hN hf hx hE).2⟩

theorem goN_img (hA : Right A) (hN : (N : Int) = A.n) (hf : ∀ q, q < N → (f q = true ↔ ReachA A q)) : ∀ (n : Nat) {x y : Spot}, Kept f N x → goN (EdgeA A hs ls) n x y → goN (EdgeA (onlyA f N A) hs ls) n (img f x) (img f y) ∧ Kept f N y
  | 0, x, y, hx, h => by
    have h : x = y := h
    subst h
    exact ⟨rfl, hx⟩
  | n + 1, x, y, hx, h => by
    obtain ⟨z, hz, h⟩ := h
    obtain ⟨h1, hz'⟩ := edge_img hA hN hf hx hz
    obtain ⟨h2, hy⟩ := goN_img hA hN hf n hz' h
    exact ⟨⟨_, h1, h2⟩, hy⟩

theorem goN_pre (hA : Right A) (hN : (N : Int) = A.n) (hf : ∀ q, q < N → (f q = true ↔ ReachA A q)) : ∀ (n : Nat) {x y' : Spot}, Kept f N x → goN (EdgeA (onlyA f N A) hs ls) n (img f x) y' → ∃ y, y' = img f y ∧ goN (EdgeA A hs ls) n x y ∧ Kept f N y
  | 0, x, y', hx, h => by
    have h : img f x = y' := h
    subst h
    exact ⟨x, rfl, rfl, hx⟩
  | n + 1, x, y', hx, h => by
    obtain ⟨z', hz, h⟩ := h
    obtain ⟨z, rfl, h1, hz'⟩ := edge_pre hA hN hf hx hz
    obtain ⟨y, rfl, h2, hy⟩ := goN_pre hA hN hf n hz' h
    exact ⟨y, rfl, ⟨_, h1, h2⟩, hy⟩
end

/-- A trimmed automaton takes the same words. -/
theorem trim_takes {A T : Aut} {hs ls : List Int} (hA : Right A) (h : TrimR A T) : TakesA T hs ls ↔ TakesA A hs ls := by
  rcases h with ⟨h0, rfl⟩ | ⟨_, f, hf, rfl⟩
  · constructor
    · rintro ⟨i, hi, _⟩
      exact absurd hi (Nat.not_lt_zero _)
    · rintro ⟨i, hi, _⟩
      rw [h0] at hi
      exact absurd hi (Nat.not_lt_zero _)
  · generalize hN' : A.n.toNat = N at *
    have hN : (N : Int) = A.n := by have := hA.n1; omega
    have hfl : (onlyA f N A).first.length = A.first.length := by simp [onlyA, keptFirst]
    have hfi : ∀ i, i < A.first.length → ((onlyA f N A).first.getD i 0).toNat = rk f (A.first.getD i 0).toNat := fun i hi => by
      simp [onlyA, keptFirst, List.getD, hi]
    have hk : ∀ i, i < A.first.length → Kept f N (0, (A.first.getD i 0).toNat) := fun i hi => by
      have := hA.first (A.first.getD i 0) (by simp [List.getD, hi])
      have hq : (A.first.getD i 0).toNat < N := by omega
      exact ⟨hq, (hf _ hq).2 ⟨i, hi, 0, rfl⟩⟩
    constructor
    · rintro ⟨i, hi, z', ⟨n, hn⟩, hg, m, hm⟩
      rw [hfl] at hi
      rw [hfi i hi] at hn
      obtain ⟨z, rfl, h1, hz⟩ := goN_pre hA hN hf n (hk i hi) hn
      obtain ⟨y, e, h2, hy⟩ := goN_pre hA hN hf (m + 1) hz hm
      obtain rfl := img_inj hz hy e
      refine ⟨i, hi, z, ⟨n, h1⟩, ?_, m, h2⟩
      have : (keptGood f A.good N).getD (rk f z.2) false = true := hg
      rwa [keptGood_get hz.1 hz.2] at this
    · rintro ⟨i, hi, z, ⟨n, hn⟩, hg, m, hm⟩
      obtain ⟨h1, hz⟩ := goN_img hA hN hf n (hk i hi) hn
      obtain ⟨h2, _⟩ := goN_img hA hN hf (m + 1) hz hm
      refine ⟨i, by rw [hfl]; exact hi, img f z, ⟨n, by rw [hfi i hi]; exact h1⟩, ?_, m, h2⟩
      show (keptGood f A.good N).getD (rk f z.2) false = true
      rw [keptGood_get hz.1 hz.2]
      exact hg

/-- n steps of an automaton that reads a word without an end, from a place on. -/
def pathU (A : Aut) (u : Nat → Int) : Nat → Nat → Nat → Nat → Prop
  | 0, _, q, q' => q = q'
  | n + 1, t, q, q' => ∃ z : Nat, (∃ s ∈ A.steps, s.f = q ∧ s.l = u t ∧ s.t = z) ∧ pathU A u n (t + 1) z q'

/-- A word is taken: a good state, come to from a first one, is come to again and again. -/
def TakesU (A : Aut) (u : Nat → Int) : Prop :=
  ∃ i, i < A.first.length ∧ ∃ n q m, pathU A u n 0 (A.first.getD i 0).toNat q ∧ A.good.getD q false = true ∧ 0 < m ∧ ∀ j, pathU A u m (n + j * m) q q

theorem pathU_trans {A : Aut} {u : Nat → Int} : ∀ {n m t q q' q'' : Nat}, pathU A u n t q q' → pathU A u m (t + n) q' q'' → pathU A u (n + m) t q q''
  | 0, m, t, q, q', q'', h, k => by
    have h : q = q' := h
    subst h
    rw [Nat.zero_add]
    exact k
  | n + 1, m, t, q, q', q'', h, k => by
    obtain ⟨z, hz, h⟩ := h
    rw [Nat.succ_add]
    exact ⟨z, hz, pathU_trans h (by rw [show t + 1 + n = t + (n + 1) by omega]; exact k)⟩

section
variable {A : Aut} {hs ls : List Int}

theorem pl_far (hL : 0 < ls.length) {t : Nat} (h : hs.length ≤ t) : pl hs ls 0 t = hs.length + (t - hs.length) % ls.length := by
  rw [show t = hs.length + (t - hs.length) by omega, pl_add, pl_head hs ls hL _ (Nat.le_refl _), pl_loop hs ls hL, show hs.length + (t - hs.length) - hs.length = t - hs.length by omega]

theorem lat_pl (hL : 0 < ls.length) (t : Nat) : lat hs ls (pl hs ls 0 t) = lat hs ls t := by
  by_cases h : t < hs.length
  · rw [pl_head hs ls hL t (by omega)]
  · rw [pl_far hL (by omega)]
    unfold lat
    rw [if_neg (by omega), if_neg h, Nat.add_sub_cancel_left, Nat.mod_mod]

theorem goN_pathU (hL : 0 < ls.length) : ∀ (n t q : Nat) (y : Spot), goN (EdgeA A hs ls) n (pl hs ls 0 t, q) y ↔ y.1 = pl hs ls 0 (t + n) ∧ pathU A (lat hs ls) n t q y.2
  | 0, t, q, y => by
    constructor
    · intro h
      have h : (pl hs ls 0 t, q) = y := h
      subst h
      exact ⟨rfl, rfl⟩
    · rintro ⟨h1, h2⟩
      exact Prod.ext h1.symm h2
  | n + 1, t, q, y => by
    constructor
    · rintro ⟨z, ⟨h1, s, hs', e1, e2, e3⟩, h⟩
      have hz : z = (pl hs ls 0 (t + 1), z.2) := Prod.ext h1 rfl
      rw [hz] at h
      obtain ⟨k1, k2⟩ := (goN_pathU hL n (t + 1) z.2 y).1 h
      refine ⟨by rw [k1]; congr 1; omega, z.2, ⟨s, hs', e1, ?_, e3⟩, k2⟩
      rw [e2]
      exact lat_pl hL t
    · rintro ⟨h1, z, ⟨s, hs', e1, e2, e3⟩, h⟩
      refine ⟨(pl hs ls 0 (t + 1), z), ⟨rfl, s, hs', e1, ?_, e3⟩, (goN_pathU hL n (t + 1) z y).2 ⟨by rw [h1]; congr 1; omega, h⟩⟩
      rw [e2]
      exact (lat_pl hL t).symm

theorem pathU_times {u : Nat → Int} {n m q : Nat} (h : ∀ j, pathU A u m (n + j * m) q q) (j0 : Nat) : ∀ k, pathU A u (k * m) (n + j0 * m) q q
  | 0 => by rw [Nat.zero_mul]; rfl
  | k + 1 => by
    rw [Nat.succ_mul]
    refine pathU_trans (pathU_times h j0 k) ?_
    have := h (j0 + k)
    rw [Nat.add_mul] at this
    rw [Nat.add_assoc]
    exact this

/-- Whether a lasso is taken hangs on its letters alone. -/
theorem takes_word (hL : 0 < ls.length) : TakesA A hs ls ↔ TakesU A (lat hs ls) := by
  constructor
  · rintro ⟨i, hi, z, ⟨n, hn⟩, hg, m, hm⟩
    have hn' : goN (EdgeA A hs ls) n (pl hs ls 0 0, (A.first.getD i 0).toNat) z := hn
    obtain ⟨k1, k2⟩ := (goN_pathU hL n 0 _ z).1 hn'
    rw [Nat.zero_add] at k1
    refine ⟨i, hi, n, z.2, m + 1, k2, hg, Nat.succ_pos _, ?_⟩
    have hp : ∀ j, pl hs ls 0 (n + j * (m + 1)) = z.1 := by
      intro j
      induction j with
      | zero => rw [Nat.zero_mul, Nat.add_zero, k1]
      | succ j ih =>
        have hz : z = (pl hs ls 0 (n + j * (m + 1)), z.2) := Prod.ext ih.symm rfl
        have hm' := hm
        rw [show goN (EdgeA A hs ls) (m + 1) z z ↔ goN (EdgeA A hs ls) (m + 1) (pl hs ls 0 (n + j * (m + 1)), z.2) z by rw [← hz]] at hm'
        have := ((goN_pathU hL (m + 1) _ z.2 z).1 hm').1
        rw [Nat.succ_mul, ← Nat.add_assoc]
        exact this.symm
    intro j
    have hz : z = (pl hs ls 0 (n + j * (m + 1)), z.2) := Prod.ext (hp j).symm rfl
    have hm' := hm
    rw [show goN (EdgeA A hs ls) (m + 1) z z ↔ goN (EdgeA A hs ls) (m + 1) (pl hs ls 0 (n + j * (m + 1)), z.2) z by rw [← hz]] at hm'
    exact ((goN_pathU hL (m + 1) _ z.2 z).1 hm').2
  · rintro ⟨i, hi, n, q, m, hn, hg, hm, hc⟩
    have h1 := pathU_trans hn (by rw [Nat.zero_add]; have := pathU_times hc 0 hs.length; rwa [Nat.zero_mul, Nat.add_zero] at this)
    have h2 := pathU_times hc hs.length ls.length
    have hT : hs.length ≤ n + hs.length * m := Nat.le_trans (Nat.le_mul_of_pos_right _ hm) (Nat.le_add_left _ _)
    have hback : pl hs ls 0 (n + hs.length * m + ls.length * m) = pl hs ls 0 (n + hs.length * m) := by
      rw [pl_far hL (by omega), pl_far hL hT, show n + hs.length * m + ls.length * m - hs.length = n + hs.length * m - hs.length + ls.length * m by omega, Nat.add_mul_mod_self_left]
    refine ⟨i, hi, (pl hs ls 0 (n + hs.length * m), q), ⟨n + hs.length * m, (goN_pathU hL _ 0 _ _).2 ⟨by rw [Nat.zero_add], h1⟩⟩, hg, ls.length * m - 1, ?_⟩
    have hpos : 0 < ls.length * m := Nat.mul_pos hL hm
    rw [show ls.length * m - 1 + 1 = ls.length * m by omega]
    exact (goN_pathU hL _ _ q _).2 ⟨hback.symm, h2⟩
end

theorem takes_same {A : Aut} {hs ls hs' ls' : List Int} (hL : 0 < ls.length) (hL' : 0 < ls'.length) (h : ∀ t, lat hs ls t = lat hs' ls' t) : TakesA A hs ls ↔ TakesA A hs' ls' := by
  rw [takes_word hL, takes_word hL', show lat hs ls = lat hs' ls' from funext h]
end Go.Proofs.YtpiacnnifdjlkaaDoor

/-
  The least of a lasso has its letters, and is its own least; a trimmed automaton is as Check asks: plain mathematics.
-/
namespace Go.Proofs.YtpiacnnifdjlkaaDoor

section
variable {hs ls : List Int} {p k : Nat}

theorem pieceOf_get (f c j : Nat) (h : j < c) : (pieceOf hs ls f c).getD j 0 = lat hs ls (f + j) := by simp [pieceOf, List.getD, h]

theorem lat_tail {t : Nat} (h : hs.length ≤ t) : lat hs ls t = cyc ls (t - hs.length) := by
  rw [← lat_cyc hs ls (t - hs.length), show hs.length + (t - hs.length) = t by omega]

/-- Behind the least head the word is the same a period further on. -/
theorem least_shift (hp : LeastPer ls p) (hk : LeastHead hs ls p k) : ∀ t, k ≤ t → lat hs ls t = lat hs ls (t + p) := by
  intro t ht
  by_cases h : t < hs.length
  · exact hk.2.1 t ht h
  · rw [lat_tail (by omega), lat_tail (t := t + p) (by omega), show t + p - hs.length = t - hs.length + p by omega]
    exact period_of_per hp.1 _

theorem least_mod (hp : LeastPer ls p) (hk : LeastHead hs ls p k) : ∀ q t, k ≤ t → lat hs ls (t + p * q) = lat hs ls t := by
  intro q
  induction q with
  | zero => intro t _; simp
  | succ q ih =>
    intro t ht
    rw [Nat.mul_succ, ← Nat.add_assoc, ← least_shift hp hk (t + p * q) (by omega)]
    exact ih t ht

/-- The least has the word's letters. -/
theorem least_lat (hp : LeastPer ls p) (hk : LeastHead hs ls p k) (t : Nat) : lat (pieceOf hs ls 0 k) (pieceOf hs ls k p) t = lat hs ls t := by
  have hp1 := hp.1.1
  by_cases h : t < k
  · have : lat (pieceOf hs ls 0 k) (pieceOf hs ls k p) t = (pieceOf hs ls 0 k).getD t 0 := by
      show (if t < (pieceOf hs ls 0 k).length then _ else _) = _
      rw [if_pos (by rw [pieceOf_length]; exact h)]
    rw [this, pieceOf_get 0 k t h, Nat.zero_add]
  · have : lat (pieceOf hs ls 0 k) (pieceOf hs ls k p) t = (pieceOf hs ls k p).getD ((t - k) % p) 0 := by
      show (if t < (pieceOf hs ls 0 k).length then _ else (pieceOf hs ls k p).getD ((t - (pieceOf hs ls 0 k).length) % (pieceOf hs ls k p).length) 0) = _
      rw [pieceOf_length, pieceOf_length, if_neg h]
    rw [this, pieceOf_get k p _ (Nat.mod_lt _ (by omega))]
    have := least_mod hp hk ((t - k) / p) (k + (t - k) % p) (by omega)
    rw [← this]
    congr 1
    have := Nat.mod_add_div (t - k) p
    omega

theorem pieceOf_mem {f c : Nat} {x : Int} (h : x ∈ pieceOf hs ls f c) : ∃ t, x = lat hs ls t := by
  obtain ⟨j, _, rfl⟩ := List.mem_map.1 h
  exact ⟨_, rfl⟩

theorem least_chk {n : Int} (h : chk hs ls n = 0) (hp : LeastPer ls p) (hk : LeastHead hs ls p k) : chk (pieceOf hs ls 0 k) (pieceOf hs ls k p) n = 0 := by
  have hz := chk_zero h
  have hp1 := hp.1.1
  have hp2 := hp.1.2.1
  have hk1 := hk.1
  unfold chk
  rw [pieceOf_length, pieceOf_length, if_neg (by omega), if_neg (by omega), if_neg (by omega), if_neg]
  intro e
  obtain ⟨x, hx, e⟩ := List.any_eq_true.1 e
  have : ∃ t, x = lat hs ls t := by
    rcases List.mem_append.1 hx with hx | hx
    · exact pieceOf_mem hx
    · exact pieceOf_mem hx
  obtain ⟨t, rfl⟩ := this
  have := lat_range h t
  simp at e
  omega

/-- The least of the least is itself. -/
theorem least_again {p2 k2 : Nat} (hp : LeastPer ls p) (hk : LeastHead hs ls p k) (h0 : 0 < ls.length) (hp2 : LeastPer (pieceOf hs ls k p) p2) (hk2 : LeastHead (pieceOf hs ls 0 k) (pieceOf hs ls k p) p2 k2) :
    pieceOf (pieceOf hs ls 0 k) (pieceOf hs ls k p) 0 k2 = pieceOf hs ls 0 k ∧ pieceOf (pieceOf hs ls 0 k) (pieceOf hs ls k p) k2 p2 = pieceOf hs ls k p := by
  have hlat := least_lat hp hk
  have hp1 := hp.1.1
  have e1 : p2 = p := by
    have hle : p2 ≤ p := by have := hp2.1.2.1; rwa [pieceOf_length] at this
    have hd2 : p % p2 = 0 := by have := hp2.1.2.2.1; rwa [pieceOf_length] at this
    have hper2 := period_of_per hp2.1
    -- the word's tail is the same p2 further on
    have hsh : ∀ t, k ≤ t → lat hs ls t = lat hs ls (t + p2) := fun t ht => by
      rw [← hlat t, ← hlat (t + p2), lat_tail (by rw [pieceOf_length]; exact ht), lat_tail (t := t + p2) (by rw [pieceOf_length]; omega), pieceOf_length, show t + p2 - k = t - k + p2 by omega]
      exact hper2 _
    have hP : Period ls p2 := by
      refine period_of_shift (hs := hs) h0 fun i h1 _ => hsh i (by have := hk.1; omega)
    have hdl : ls.length % p2 = 0 := by
      have h1 := hp.1.2.2.1
      obtain ⟨a, ha⟩ := Nat.dvd_of_mod_eq_zero h1
      obtain ⟨b, hb⟩ := Nat.dvd_of_mod_eq_zero hd2
      rw [ha, hb, Nat.mul_assoc]
      exact Nat.mul_mod_right _ _
    have := hp.2 p2 (per_of_period hp2.1.1 (by have := hp.1.2.1; omega) hdl hP)
    omega
  subst e1
  have e2 : k2 = k := by
    have hle : k2 ≤ k := by have := hk2.1; rwa [pieceOf_length] at this
    by_cases e : k2 = k
    · exact e
    · exfalso
      have h1 := hk2.2.1 (k - 1) (by omega) (by rw [pieceOf_length]; omega)
      rw [hlat, hlat] at h1
      rcases hk.2.2 with h2 | h2
      · omega
      · exact h2 h1
  subst e2
  constructor
  · unfold pieceOf
    refine List.map_congr_left fun j _ => ?_
    exact hlat _
  · conv => lhs; unfold pieceOf
    conv => rhs; unfold pieceOf
    refine List.map_congr_left fun j _ => ?_
    exact hlat _
end

/-! ### A trimmed automaton is right -/

theorem ordS_lt (a b : Stp) : ordS a b < 0 ↔ a.f < b.f ∨ (a.f = b.f ∧ (a.l < b.l ∨ (a.l = b.l ∧ a.t < b.t))) := by
  unfold ordS orI cmpI
  by_cases h1 : a.f < b.f
  · simp [h1]
  · by_cases h2 : b.f < a.f
    · have h3 : ¬ a.f = b.f := by omega
      simp [h1, h2, h3]
    · have h3 : a.f = b.f := by omega
      by_cases h4 : a.l < b.l
      · simp [h3, h4]
      · by_cases h5 : b.l < a.l
        · have h6 : ¬ a.l = b.l := by omega
          simp [h3, h4, h5, h6]
        · have h6 : a.l = b.l := by omega
          by_cases h7 : a.t < b.t
          · simp [h3, h6, h7]
          · by_cases h8 : b.t < a.t
            · simp [h3, h6, h7, h8]
            · simp [h3, h6, h7, h8]

theorem ordS_trans {a b c : Stp} (h : ordS a b < 0) (k : ordS b c < 0) : ordS a c < 0 := by
  rw [ordS_lt] at *
  omega

theorem steps_pairs (n m : Int) : ∀ (ss : List Stp) (p : Option Stp), chkStepsFrom n m p ss = 0 → ss.Pairwise (fun a b => ordS a b < 0) ∧ (∀ q, p = some q → ∀ s ∈ ss, ordS q s < 0)
  | [], _, _ => ⟨List.Pairwise.nil, fun _ _ s hs => (by cases hs)⟩
  | s :: r, p, h => by
    unfold chkStepsFrom at h
    split at h
    · cases h
    · cases p with
      | none =>
        obtain ⟨h1, h2⟩ := steps_pairs n m r (some s) h
        exact ⟨List.Pairwise.cons (h2 s rfl) h1, fun q e => (by cases e)⟩
      | some q =>
        dsimp only at h
        split at h
        · cases h
        · next hq =>
          have hq : ordS q s < 0 := by simpa using hq
          obtain ⟨h1, h2⟩ := steps_pairs n m r (some s) h
          refine ⟨List.Pairwise.cons (h2 s rfl) h1, fun q' e x hx => ?_⟩
          obtain rfl := Option.some.inj e
          rcases List.mem_cons.1 hx with rfl | hx
          · exact hq
          · exact ordS_trans hq (h2 s rfl x hx)

theorem pairs_steps (n m : Int) : ∀ (ss : List Stp) (p : Option Stp), (∀ s ∈ ss, badS n m s = false) → ss.Pairwise (fun a b => ordS a b < 0) → (∀ q, p = some q → ∀ s ∈ ss, ordS q s < 0) → chkStepsFrom n m p ss = 0
  | [], _, _, _, _ => rfl
  | s :: r, p, hb, hp, hq => by
    obtain ⟨h1, h2⟩ := List.pairwise_cons.1 hp
    unfold chkStepsFrom
    have ih := pairs_steps n m r (some s) (fun x hx => hb x (List.mem_cons_of_mem _ hx)) h2 (fun q e x hx => by obtain rfl := Option.some.inj e; exact h1 x hx)
    rw [hb s List.mem_cons_self]
    cases p with
    | none => exact ih
    | some q =>
      have := hq q rfl s List.mem_cons_self
      have hd : decide (0 ≤ ordS q s) = false := decide_eq_false (by omega)
      dsimp only
      rw [hd]
      exact ih

theorem chk_parts {A : Aut} (h : chkA A = 0) : chkFirst A.n A.first = 0 ∧ chkStepsFrom A.n A.m none A.steps = 0 := by
  unfold chkA at h
  by_cases h1 : A.n < 1 ∨ 300 < A.n ∨ A.m < 1 ∨ 8 < A.m
  · rw [if_pos h1] at h; omega
  rw [if_neg h1] at h
  by_cases h2 : (A.good.length : Int) ≠ A.n
  · rw [if_pos h2] at h; omega
  rw [if_neg h2] at h
  by_cases h3 : 6000 < A.steps.length
  · rw [if_pos h3] at h; omega
  rw [if_neg h3] at h
  by_cases h4 : chkFirst A.n A.first ≠ 0
  · rw [if_pos h4] at h; omega
  rw [if_neg h4] at h
  exact ⟨by omega, h⟩

theorem chk_mk {A : Aut} (n1 : 1 ≤ A.n) (n3 : A.n ≤ 300) (m1 : 1 ≤ A.m) (m8 : A.m ≤ 8) (hg : (A.good.length : Int) = A.n) (hs : A.steps.length ≤ 6000) (h1 : chkFirst A.n A.first = 0) (h2 : chkStepsFrom A.n A.m none A.steps = 0) : chkA A = 0 := by
  unfold chkA
  rw [if_neg (by omega), if_neg (by omega), if_neg (by omega), if_neg (by omega)]
  exact h2

theorem first_pairs {n : Int} {l : List Int} (h : chkFirst n l = 0) : (∀ x ∈ l, 0 ≤ x ∧ x < n) ∧ l.Pairwise (fun a b => a < b) := by
  unfold chkFirst at h
  split at h
  · cases h
  · next h1 =>
    split at h
    · cases h
    · next h2 =>
      refine ⟨fun x hx => ?_, rising_pairs (by simpa using h2)⟩
      have h1 : l.any (outB n) = false := by simpa using h1
      rw [List.any_eq_false] at h1
      exact outB_false (by simpa using h1 x hx)

theorem pairs_first {n : Int} {l : List Int} (h1 : ∀ x ∈ l, 0 ≤ x ∧ x < n) (h2 : l.Pairwise (fun a b => a < b)) : chkFirst n l = 0 := by
  have e1 : l.any (outB n) = false := by
    rw [List.any_eq_false]
    intro x hx
    have := h1 x hx
    simp [outB]
    omega
  have e2 : fallsB l = false := fallsB_false fun k hk => by
    have := List.pairwise_iff_getElem.1 h2 k (k + 1) (by omega) hk (by omega)
    simpa [List.getD, hk, show k < l.length by omega] using this
  unfold chkFirst
  rw [e1, e2]
  rfl

theorem trim_right {A T : Aut} (hc : chkA A = 0) (h : TrimR A T) : chkA T = 0 ∧ T.m = A.m := by
  have hA := right_of hc
  obtain ⟨c1, c2⟩ := chk_parts hc
  rcases h with ⟨_, rfl⟩ | ⟨h0, f, hf, rfl⟩
  · exact ⟨chk_mk (by simp) (by simp) hA.m1 hA.m8 (by simp) (by simp) rfl rfl, rfl⟩
  · refine ⟨?_, rfl⟩
    generalize hN' : A.n.toNat = N at *
    have hN : (N : Int) = A.n := by have := hA.n1; omega
    have hf1 : ∀ x ∈ A.first, f x.toNat = true := fun x hx => by
      have hb := hA.first x hx
      obtain ⟨i, hi, rfl⟩ := List.mem_iff_getElem.1 hx
      refine (hf _ (by omega)).2 ⟨i, hi, 0, ?_⟩
      show (A.first.getD i 0).toNat = _
      simp [List.getD, hi]
    have hf2 : ∀ s ∈ A.steps, f s.f.toNat = true → f s.t.toNat = true := fun s hs h => by
      have hb := hA.steps s hs
      exact (hf _ (by omega)).2 (((hf _ (by omega)).1 h).step ⟨s, hs, by omega, by omega⟩)
    have hlt : ∀ q, q < N → f q = true → rk f q < rk f N := fun q hq h => rk_lt f hq h
    have hle := rk_le f N
    have hn3 := hA.n3
    obtain ⟨x, l, hxl⟩ := List.exists_cons_of_ne_nil h0
    have hx := hA.first x (by rw [hxl]; exact List.mem_cons_self)
    have hpos : 1 ≤ rk f N := rk_pos (q := x.toNat) (by omega) (hf1 x (by rw [hxl]; exact List.mem_cons_self))
    obtain ⟨g1, g2⟩ := first_pairs c1
    obtain ⟨s1, _⟩ := steps_pairs A.n A.m A.steps none c2
    refine chk_mk (by show (1 : Int) ≤ ((rk f N : Nat) : Int); omega) (by show ((rk f N : Nat) : Int) ≤ 300; omega) hA.m1 hA.m8 ?_ ?_ ?_ ?_
    · show (((keptGood f A.good N).length : Nat) : Int) = ((rk f N : Nat) : Int)
      rw [keptGood_len]
    · show (keptSteps f A.steps).length ≤ 6000
      unfold keptSteps
      rw [List.length_map]
      exact Nat.le_trans (List.length_filter_le _ _) hA.few
    · refine pairs_first (fun y hy => ?_) ?_
      · obtain ⟨x, hx, rfl⟩ := List.mem_map.1 (show y ∈ keptFirst f A.first from hy)
        have hb := g1 x hx
        have := hlt x.toNat (by omega) (hf1 x hx)
        show (0 : Int) ≤ ((rk f x.toNat : Nat) : Int) ∧ ((rk f x.toNat : Nat) : Int) < ((rk f N : Nat) : Int)
        omega
      · show (keptFirst f A.first).Pairwise _
        unfold keptFirst
        rw [List.pairwise_map]
        refine List.Pairwise.imp_of_mem ?_ g2
        intro a b ha hb hab
        have h1 := g1 a ha
        have h2 := g1 b hb
        have := rk_lt f (show a.toNat < b.toNat by omega) (hf1 a ha)
        omega
    · refine pairs_steps _ _ _ none (fun y hy => ?_) ?_ (fun q e => by cases e)
      · obtain ⟨s, hs, rfl⟩ := List.mem_map.1 (show y ∈ keptSteps f A.steps from hy)
        obtain ⟨hs, hk⟩ := List.mem_filter.1 hs
        have hb := hA.steps s hs
        have h1 := hlt s.f.toNat (by omega) hk
        have h2 := hlt s.t.toNat (by omega) (hf2 s hs hk)
        have e1 : outB ((rk f N : Nat) : Int) ((rk f s.f.toNat : Nat) : Int) = false := by simp [outB]; omega
        have e2 : outB ((rk f N : Nat) : Int) ((rk f s.t.toNat : Nat) : Int) = false := by simp [outB]; omega
        have e3 : outB A.m s.l = false := by simp [outB]; omega
        show (outB ((rk f N : Nat) : Int) ((rk f s.f.toNat : Nat) : Int) || outB ((rk f N : Nat) : Int) ((rk f s.t.toNat : Nat) : Int) || outB A.m s.l) = false
        rw [e1, e2, e3]
        rfl
      · show (keptSteps f A.steps).Pairwise _
        unfold keptSteps
        rw [List.pairwise_map]
        refine List.Pairwise.imp_of_mem ?_ (List.Pairwise.filter _ s1)
        intro a b ha hb hab
        obtain ⟨ha, ka⟩ := List.mem_filter.1 ha
        obtain ⟨hb, kb⟩ := List.mem_filter.1 hb
        have h1 := hA.steps a ha
        have h2 := hA.steps b hb
        rw [ordS_lt] at hab ⊢
        show ((rk f a.f.toNat : Nat) : Int) < ((rk f b.f.toNat : Nat) : Int) ∨ (((rk f a.f.toNat : Nat) : Int) = ((rk f b.f.toNat : Nat) : Int) ∧ (a.l < b.l ∨ (a.l = b.l ∧ ((rk f a.t.toNat : Nat) : Int) < ((rk f b.t.toNat : Nat) : Int))))
        rcases hab with h | ⟨h, h'⟩
        · left
          have := rk_lt f (show a.f.toNat < b.f.toNat by omega) ka
          omega
        · right
          refine ⟨by rw [h], ?_⟩
          rcases h' with h' | ⟨h', h''⟩
          · exact Or.inl h'
          · refine Or.inr ⟨h', ?_⟩
            have := rk_lt f (show a.t.toNat < b.t.toNat by omega) (hf2 a ha ka)
            omega
end Go.Proofs.YtpiacnnifdjlkaaDoor

/-
  What number of package auto answers of a word.
-/
namespace Go.Proofs.YtpiacnnifdjlkaaDoor
open Go.RowKit Go.Sort

theorem byte_run (w : World) (l : List UInt8) (i : Nat) (z : Int) (b : UInt8) (hz : z = i) (h : l[i]? = some b) : (Instr.index 9 (.string ⟨l.toArray⟩) (.int .i64 z)).run Tryd.prog w = .ok (.int .u8 (b.toNat : Int)) w := by
  subst hz
  obtain ⟨hl, he⟩ := List.getElem?_eq_some_iff.1 h
  have hsz : (⟨l.toArray⟩ : ByteArray).size = l.length := by simp [ByteArray.size]
  rw [run_index_string (P := Tryd.prog) w 9 ⟨l.toArray⟩ .i64 i Tryd.underlying9, dif_pos ⟨by omega, by rw [hsz]; omega⟩]
  have : (⟨l.toArray⟩ : ByteArray)[((i : Nat) : Int).toNat]'(by rw [hsz]; simpa using hl) = b := by
    rw [← he]
    rfl
  rw [this]

def isDg (b : UInt8) : Bool := decide (48 ≤ b.toNat ∧ b.toNat ≤ 57)
def valT (T : List UInt8) : Nat := T.foldl (fun n b => 10 * n + (b.toNat - 48)) 0

/-- A word that can't be a number by its length or by a nought ahead. -/
def badW (T : List UInt8) : Bool := decide (T = []) || decide (6 < T.length) || (decide (T.getD 0 0 = 48) && decide (T ≠ [48]))

/-- The number of a word. -/
def numW (T : List UInt8) : Option Nat := if badW T = true then none else if T.all isDg = true then some (valT T) else none

theorem valT_snoc (T : List UInt8) (b : UInt8) : valT (T ++ [b]) = 10 * valT T + (b.toNat - 48) := by simp [valT]

theorem valT_take (T : List UInt8) (i : Nat) (h : i < T.length) : valT (T.take (i + 1)) = 10 * valT (T.take i) + ((T.getD i 0).toNat - 48) := by
  rw [List.take_add_one, List.getElem?_eq_getElem h]
  simp only [Option.toList_some]
  rw [valT_snoc]
  simp [List.getD, h]

theorem valT_lt (T : List UInt8) (h : ∀ b ∈ T, b.toNat ≤ 57) : ∀ i, i ≤ T.length → valT (T.take i) < 10 ^ i
  | 0, _ => by simp [valT]
  | i + 1, hi => by
    have ih := valT_lt T h i (by omega)
    have hb := h (T.getD i 0) (by simp [List.getD, show i < T.length by omega])
    rw [valT_take T i (by omega), Nat.pow_succ]
    omega

set_option maxRecDepth 100000 in
set_option maxHeartbeats 4000000 in
theorem number_plain {T : List UInt8} (hb : badW T = false) (hk : T.getD 0 0 ≠ 48) (w : World) :
    Calls Tryd.prog 150 #[.string ⟨T.toArray⟩] w fun e w' => e = .returned (.tuple #[.int .i64 ((numW T).getD 0 : Nat), .bool (numW T).isSome]) ∧ w' = w := by
  have hn : numW T = if T.all isDg = true then some (valT T) else none := by unfold numW; rw [hb]; rfl
  have h1 : T ≠ [] := fun e => by rw [e] at hb; simp [badW] at hb
  have h2 : T.length ≤ 6 := by
    rcases Nat.lt_or_ge 6 T.length with h | h
    · simp [badW, h] at hb
    · exact h
  have h0 : 0 < T.length := List.length_pos_iff.2 h1
  have hsz : (⟨T.toArray⟩ : ByteArray).size = T.length := by simp [ByteArray.size]
  have t1 : T.isEmpty = false := by simpa using h1
  have hg : ¬ ((6 : Int) < (T.length : Int)) := by omega
  have HN := hide hn
  have hi0 : ∀ W, (Instr.index 9 (.string ⟨T.toArray⟩) (.int .i64 0)).run Tryd.prog W = .ok (.int .u8 ((T.getD 0 0).toNat : Int)) W := fun W => byte_run W T 0 0 (T.getD 0 0) rfl (by simp [List.getD, h0])
  have t2 : (((T.getD 0 0).toNat : Int) == 48) = false := by
    rw [beq_eq_false_iff_ne]
    intro e
    exact hk (UInt8.toNat_inj.1 (show (T.getD 0 0).toNat = 48 by omega))
  generalize ((T.getD 0 0).toNat : Int) = z0 at *
  clear hn hb hk
  go_enter Tryd.func150, Tryd.ntmps150
  go_wp2_with (fail)
  go_loopw [4, 24] (fun s4 s24 wr => ∃ i : Nat, i ≤ T.length ∧ s4 = .int .i64 (valT (T.take i) : Nat) ∧ s24 = .int .i64 i ∧ Hid (∀ j, j < i → isDg (T.getD j 0) = true) ∧ wr = w) (fun _ s24 _ => T.length - (intOf s24).toNat)
  case atStart => exact ⟨0, Nat.zero_le _, rfl, rfl, hide (fun j hj => absurd hj (Nat.not_lt_zero _)), rfl⟩
  case round =>
    clear hi0 t2
    obtain ⟨i, hi, rfl, rfl, hd, rfl⟩ := hrel
    by_cases hlt : i < T.length
    · have hbi : T[i]? = some (T.getD i 0) := by simp [List.getD, hlt]
      have i1 := fun W => byte_run W T i (i : Int) (T.getD i 0) rfl hbi
      have hv : valT (T.take i) < 1000000 := by
        have h := valT_lt (T.take i) (fun b hb => by
          obtain ⟨j, hj, rfl⟩ := List.mem_iff_getElem.1 hb
          rw [List.length_take] at hj
          have := hd.out j (by omega)
          unfold isDg at this
          have h2 := (of_decide_eq_true this).2
          simp [List.getD, show j < T.length by omega] at h2
          simpa using h2) i (by rw [List.length_take]; omega)
        rw [List.take_take, Nat.min_self] at h
        exact Nat.lt_of_lt_of_le h (Nat.le_trans (Nat.pow_le_pow_right (by decide) (show i ≤ 6 by omega)) (by decide))
      have HV := hide (valT_take T i hlt)
      have HD := hide hd.out
      by_cases hdg : isDg (T.getD i 0) = true
      · have hdd := of_decide_eq_true hdg
        have HDG := hide hdg
        generalize hbe : T.getD i 0 = b at *
        have HBE := hide hbe
        generalize valT (T.take i) = n at *
        have d1 : ¬ ((b.toNat : Int) < 48) := by omega
        have d2 : ¬ ((57 : Int) < (b.toNat : Int)) := by omega
        have hw8 : IntKind.u8.wrap ((b.toNat : Int) - 48) = (b.toNat : Int) - 48 := by
          have e : ∀ k : Nat, k < 10 → IntKind.u8.wrap (((48 + k : Nat) : Int) - 48) = ((48 + k : Nat) : Int) - 48 := by decide
          have := e (b.toNat - 48) (by omega)
          rwa [show 48 + (b.toNat - 48) = b.toNat by omega] at this
        clear hbi hd hdg hbe
        go_wp2_with (fail)
        go_roundw
        case rel =>
          refine ⟨i + 1, by omega, ?_, by go_num, hide (fun j hj => ?_), trivial⟩
          · rw [HV.out]
            congr 1
            omega
          · by_cases e : j = i
            · subst e; rw [HBE.out]; exact HDG.out
            · exact HD.out j (by omega)
        case measure => simp [intOf]; omega
      · have HNN := hide (show numW T = none by
          rw [HN.out, if_neg]
          intro h
          exact hdg (List.all_eq_true.1 h _ (by simp [List.getD, hlt])))
        have hor : (T.getD i 0).toNat < 48 ∨ (48 ≤ (T.getD i 0).toNat ∧ 57 < (T.getD i 0).toNat) := by
          unfold isDg at hdg
          rw [decide_eq_true_eq] at hdg
          omega
        generalize T.getD i 0 = b at *
        generalize valT (T.take i) = n at *
        clear hbi hd hdg
        rcases hor with ho | ⟨ho1, ho2⟩
        · have d1 : decide ((b.toNat : Int) < 48) = true := decide_eq_true (by omega)
          go_wp2_with (fail)
          go_ret2
          exact ⟨by rw [HNN.out]; rfl, rfl⟩
        · have d1 : decide ((b.toNat : Int) < 48) = false := decide_eq_false (by omega)
          have d2 : decide ((57 : Int) < (b.toNat : Int)) = true := decide_eq_true (by omega)
          go_wp2_with (fail)
          go_ret2
          exact ⟨by rw [HNN.out]; rfl, rfl⟩
    · obtain rfl : i = T.length := by omega
      have HNS := hide (show numW T = some (valT T) by
        rw [HN.out, if_pos]
        refine List.all_eq_true.2 fun b hb => ?_
        obtain ⟨j, hj, rfl⟩ := List.mem_iff_getElem.1 hb
        have := hd.out j hj
        simpa [List.getD, hj] using this)
      rw [List.take_length]
      generalize valT T = n at *
      clear hd
      go_wp2_with (fail)
      go_ret2
      exact ⟨by rw [HNS.out]; rfl, rfl⟩
end Go.Proofs.YtpiacnnifdjlkaaDoor

namespace Go.Proofs.YtpiacnnifdjlkaaDoor
open Go.RowKit Go.Sort

set_option maxRecDepth 100000 in
set_option maxHeartbeats 4000000 in
theorem number_nought (w : World) : Calls Tryd.prog 150 #[.string ⟨#[48]⟩] w fun e w' => e = .returned (.tuple #[.int .i64 0, .bool true]) ∧ w' = w := by
  have i0 : ∀ W, (Instr.index 9 (.string ⟨#[48]⟩) (.int .i64 0)).run Tryd.prog W = .ok (.int .u8 48) W := fun W => byte_run W [48] 0 0 48 rfl rfl
  go_enter Tryd.func150, Tryd.ntmps150
  go_wp2_with (fail)
  go_loopw [4, 24] (fun s4 s24 wr => ∃ i : Nat, i ≤ 1 ∧ s4 = .int .i64 0 ∧ s24 = .int .i64 i ∧ wr = w) (fun _ s24 _ => 1 - (intOf s24).toNat)
  case atStart => exact ⟨0, by omega, rfl, rfl, rfl⟩
  case round =>
    obtain ⟨i, hi, rfl, rfl, rfl⟩ := hrel
    rcases (show i = 0 ∨ i = 1 by omega) with rfl | rfl
    · go_wp2_with (fail)
      go_roundw
      case rel => exact ⟨1, by omega, rfl, rfl, trivial⟩
      case measure => simp [intOf]
    · go_wp2_with (fail)
      go_ret2
      exact ⟨rfl, rfl⟩

set_option maxRecDepth 100000 in
set_option maxHeartbeats 4000000 in
theorem number_bad {T : List UInt8} (hb : badW T = true) (w : World) : Calls Tryd.prog 150 #[.string ⟨T.toArray⟩] w fun e w' => e = .returned (.tuple #[.int .i64 0, .bool false]) ∧ w' = w := by
  have hsz : (⟨T.toArray⟩ : ByteArray).size = T.length := by simp [ByteArray.size]
  by_cases h1 : T = []
  · subst h1
    go_enter Tryd.func150, Tryd.ntmps150
    go_wp2_with (fail)
    go_ret2
    exact ⟨rfl, rfl⟩
  have t1 : T.isEmpty = false := by simpa using h1
  by_cases h2 : 6 < T.length
  · have hg : decide ((6 : Int) < (T.length : Int)) = true := decide_eq_true (by omega)
    clear hb
    go_enter Tryd.func150, Tryd.ntmps150
    go_wp2_with (fail)
    go_ret2
    exact ⟨rfl, rfl⟩
  have h0 : 0 < T.length := List.length_pos_iff.2 h1
  have hk : T.getD 0 0 = 48 ∧ T ≠ [48] := by
    unfold badW at hb
    simpa [h1, h2] using hb
  have hi0 : ∀ W, (Instr.index 9 (.string ⟨T.toArray⟩) (.int .i64 0)).run Tryd.prog W = .ok (.int .u8 48) W := fun W => byte_run W T 0 0 48 rfl (by rw [← hk.1]; simp [List.getD, h0])
  have hg : ¬ ((6 : Int) < (T.length : Int)) := by omega
  have hne : (!T == [48]) = true := by simpa using hk.2
  clear hb hk
  go_enter Tryd.func150, Tryd.ntmps150
  go_wp2_with (fail)
  go_ret2
  exact ⟨rfl, rfl⟩

theorem number_any (T : List UInt8) (w : World) : Calls Tryd.prog 150 #[.string ⟨T.toArray⟩] w fun e w' => e = .returned (.tuple #[.int .i64 ((numW T).getD 0 : Nat), .bool (numW T).isSome]) ∧ w' = w := by
  cases hb : badW T with
  | true =>
    have e : numW T = none := by unfold numW; rw [hb]; rfl
    rw [e]
    exact number_bad hb w
  | false =>
    by_cases h48 : T = [48]
    · subst h48
      exact number_nought w
    · by_cases hk : T.getD 0 0 = 48
      · unfold badW at hb
        simp [h48] at hb
        exact absurd (by simpa using hk) hb.2
      · exact number_plain hb hk w
end Go.Proofs.YtpiacnnifdjlkaaDoor
