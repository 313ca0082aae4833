/-
  How memory stands while states are numbered anew.
-/
import Derived.Test.YtpiacnnifdjlkaaDoorCp
import Derived.Test.YtpiacnnifdjlkaaDoorIo
/-
  Words without an end that an automaton takes; whether a lasso is taken hangs on its letters alone.
-/
namespace Go.Proofs.YtpiacnnifdjlkaaDoor

/-- n steps of an automaton that reads a word without an end, from a place on. -/
def pathU (A : Aut) (u : Nat → Int) : Nat → Nat → Nat → Nat → Prop
  | 0, _, q, q' => q = q'
  | n + 1, t, q, q' => ∃ z : Nat, (∃ s ∈ A.steps, s.f = q ∧ s.l = u t ∧ s.t = z) ∧ pathU A u n (t + 1) z q'

/-- A word is taken: a good state, come to from a first one, is come to again and again. -/
def TakesU (A : Aut) (u : Nat → Int) : Prop :=
  ∃ i, i < A.first.length ∧ ∃ n q m, pathU A u n 0 (A.first.getD i 0).toNat q ∧ A.good.getD q false = true ∧ 0 < m ∧ ∀ j, pathU A u m (n + j * m) q q

theorem pathU_trans {A : Aut} {u : Nat → Int} : ∀ {n m t q q' q'' : Nat}, pathU A u n t q q' → pathU A u m (t + n) q' q'' → pathU A u (n + m) t q q''
  | 0, m, t, q, q', q'', h, k => by
    have h : q = q' := h
    subst h
    rw [Nat.zero_add]
    exact k
  | n + 1, m, t, q, q', q'', h, k => by
    obtain ⟨z, hz, h⟩ := h
    rw [Nat.succ_add]
    exact ⟨z, hz, pathU_trans h (by rw [show t + 1 + n = t + (n + 1) by omega]; exact k)⟩

section
variable {A : Aut} {hs ls : List Int}

theorem pl_far (hL : 0 < ls.length) {t : Nat} (h : hs.length ≤ t) : pl hs ls 0 t = hs.length + (t - hs.length) % ls.length := by
  rw [show t = hs.length + (t - hs.length) by omega, pl_add, pl_head hs ls hL _ (Nat.le_refl _), pl_loop hs ls hL, show hs.length + (t - hs.length) - hs.length = t - hs.length by omega]

theorem lat_pl (hL : 0 < ls.length) (t : Nat) : lat hs ls (pl hs ls 0 t) = lat hs ls t := by
  by_cases h : t < hs.length
  · rw [pl_head hs ls hL t (by omega)]
  · rw [pl_far hL (by omega)]
    unfold lat
    rw [if_neg (by omega), if_neg h, Nat.add_sub_cancel_left, Nat.mod_mod]

theorem goN_pathU (hL : 0 < ls.length) : ∀ (n t q : Nat) (y : Spot), goN (EdgeA A hs ls) n (pl hs ls 0 t, q) y ↔ y.1 = pl hs ls 0 (t + n) ∧ pathU A (lat hs ls) n t q y.2
  | 0, t, q, y => by
    constructor
    · intro h
      have h : (pl hs ls 0 t, q) = y := h
      subst h
      exact ⟨rfl, rfl⟩
    · rintro ⟨h1, h2⟩
      exact Prod.ext h1.symm h2
  | n + 1, t, q, y => by
    constructor
    · rintro ⟨z, ⟨h1, s, hs', e1, e2, e3⟩, h⟩
      have hz : z = (pl hs ls 0 (t + 1), z.2) := Prod.ext h1 rfl
      rw [hz] at h
      obtain ⟨k1, k2⟩ := (goN_pathU hL n (t + 1) z.2 y).1 h
      refine ⟨by rw [k1]; congr 1; omega, z.2, ⟨s, hs', e1, ?_, e3⟩, k2⟩
      rw [e2]
      exact lat_pl hL t
    · rintro ⟨h1, z, ⟨s, hs', e1, e2, e3⟩, h⟩
      refine ⟨(pl hs ls 0 (t + 1), z), ⟨rfl, s, hs', e1, ?_, e3⟩, (goN_pathU hL n (t + 1) z y).2 ⟨by rw [h1]; congr 1; omega, h⟩⟩
      rw [e2]
      exact (lat_pl hL t).symm

theorem pathU_times {u : Nat → Int} {n m q : Nat} (h : ∀ j, pathU A u m (n + j * m) q q) (j0 : Nat) : ∀ k, pathU A u (k * m) (n + j0 * m) q q
  | 0 => by rw [Nat.zero_mul]; rfl
  | k + 1 => by
    rw [Nat.succ_mul]
    refine pathU_trans (pathU_times h j0 k) ?_
    have := h (j0 + k)
    rw [Nat.add_mul] at this
    rw [Nat.add_assoc]
    exact this

/-- Whether a lasso is taken hangs on its letters alone. -/
theorem takes_word (hL : 0 < ls.length) : TakesA A hs ls ↔ TakesU A (lat hs ls) := by
  constructor
  · rintro ⟨i, hi, z, ⟨n, hn⟩, hg, m, hm⟩
    have hn' : goN (EdgeA A hs ls) n (pl hs ls 0 0, (A.first.getD i 0).toNat) z := hn
    obtain ⟨k1, k2⟩ := (goN_pathU hL n 0 _ z).1 hn'
    rw [Nat.zero_add] at k1
    refine ⟨i, hi, n, z.2, m + 1, k2, hg, Nat.succ_pos _, ?_⟩
    have hp : ∀ j, pl hs ls 0 (n + j * (m + 1)) = z.1 := by
      intro j
      induction j with
      | zero => rw [Nat.zero_mul, Nat.add_zero, k1]
      | succ j ih =>
        have hz : z = (pl hs ls 0 (n + j * (m + 1)), z.2) := Prod.ext ih.symm rfl
        have hm' := hm
        rw [show goN (EdgeA A hs ls) (m + 1) z z ↔ goN (EdgeA A hs ls) (m + 1) (pl hs ls 0 (n + j * (m + 1)), z.2) z by rw [← hz]] at hm'
        have := ((goN_pathU hL (m + 1) _ z.2 z).1 hm').1
        rw [Nat.succ_mul, ← Nat.add_assoc]
        exact this.symm
    intro j
    have hz : z = (pl hs ls 0 (n + j * (m + 1)), z.2) := Prod.ext (hp j).symm rfl
    have hm' := hm
    rw [show goN (EdgeA A hs ls) (m + 1) z z ↔ goN (EdgeA A hs ls) (m + 1) (pl hs ls 0 (n + j * (m + 1)), z.2) z by rw [← hz]] at hm'
    exact ((goN_pathU hL (m + 1) _ z.2 z).1 hm').2
  · rintro ⟨i, hi, n, q, m, hn, hg, hm, hc⟩
    have h1 := pathU_trans hn (by rw [Nat.zero_add]; have := pathU_times hc 0 hs.length; rwa [Nat.zero_mul, Nat.add_zero] at this)
    have h2 := pathU_times hc hs.length ls.length
    have hT : hs.length ≤ n + hs.length * m := Nat.le_trans (Nat.le_mul_of_pos_right _ hm) (Nat.le_add_left _ _)
    have hback : pl hs ls 0 (n + hs.length * m + ls.length * m) = pl hs ls 0 (n + hs.length * m) := by
      rw [pl_far hL (by omega), pl_far hL hT, show n + hs.length * m + ls.length * m - hs.length = n + hs.length * m - hs.length + ls.length * m by omega, Nat.add_mul_mod_self_left]
    refine ⟨i, hi, (pl hs ls 0 (n + hs.length * m), q), ⟨n + hs.length * m, (goN_pathU hL _ 0 _ _).2 ⟨by rw [Nat.zero_add], h1⟩⟩, hg, ls.length * m - 1, ?_⟩
    have hpos : 0 < ls.length * m := Nat.mul_pos hL hm
    rw [show ls.length * m - 1 + 1 = ls.length * m by omega]
    exact (goN_pathU hL _ _ q _).2 ⟨hback.symm, h2⟩
end

theorem takes_same {A : Aut} {hs ls hs' ls' : List Int} (hL : 0 < ls.length) (hL' : 0 < ls'.length) (h : ∀ t, lat hs ls t = lat hs' ls' t) : TakesA A hs ls ↔ TakesA A hs' ls' := by
  rw [takes_word hL, takes_word hL', show lat hs ls = lat hs' ls' from funext h]
end Go.Proofs.YtpiacnnifdjlkaaDoor

/-
  A trimmed automaton takes the same words; whether a lasso is taken hangs on its letters alone: plain mathematics.
-/
namespace Go.Proofs.YtpiacnnifdjlkaaDoor

theorem rk_inj {f : Nat → Bool} {s t : Nat} (hs : f s = true) (ht : f t = true) (h : rk f s = rk f t) : s = t := by
  rcases Nat.lt_trichotomy s t with h1 | h1 | h1
  · have := rk_lt f h1 hs; omega
  · exact h1
  · have := rk_lt f h1 ht; omega

theorem keptGood_get {f : Nat → Bool} {gd : List Bool} {q : Nat} : ∀ {N : Nat}, q < N → f q = true → (keptGood f gd N).getD (rk f q) false = gd.getD q false
  | 0, h, _ => absurd h (Nat.not_lt_zero _)
  | N + 1, h, hf => by
    rw [keptGood_succ]
    by_cases e : q = N
    · subst e
      rw [if_pos hf, List.getD, ← keptGood_len f gd q, List.getElem?_append_right (Nat.le_refl _), Nat.sub_self]
      rfl
    · have hl : rk f q < (keptGood f gd N).length := by rw [keptGood_len]; exact rk_lt f (by omega) hf
      rw [List.getD, List.getElem?_append_left hl]
      exact keptGood_get (by omega) hf

section
variable {A : Aut} {f : Nat → Bool} {N : Nat} {hs ls : List Int}

/-- A place and a state, the state numbered anew. -/
def img (f : Nat → Bool) (x : Spot) : Spot := (x.1, rk f x.2)

/-- A state that is kept. -/
def Kept (f : Nat → Bool) (N : Nat) (x : Spot) : Prop := x.2 < N ∧ f x.2 = true

theorem img_inj {x y : Spot} (hx : Kept f N x) (hy : Kept f N y) (h : img f x = img f y) : x = y := by
  have h1 : (img f x).1 = (img f y).1 := congrArg Prod.fst h
  have h2 : (img f x).2 = (img f y).2 := congrArg Prod.snd h
  exact Prod.ext h1 (rk_inj hx.2 hy.2 h2)

theorem edge_img (hA : Right A) (hN : (N : Int) = A.n) (hf : ∀ q, q < N → (f q = true ↔ ReachA A q)) {x y : Spot} (hx : Kept f N x) (h : EdgeA A hs ls x y) : EdgeA (onlyA f N A) hs ls (img f x) (img f y) ∧ Kept f N y := by
  obtain ⟨h1, s, hs', e1, e2, e3⟩ := h
  have hb := hA.steps s hs'
  have hy : y.2 < N := by omega
  refine ⟨⟨h1, keptStep f s, ?_, ?_, e2, ?_⟩, hy, ?_⟩
  · refine List.mem_map.2 ⟨s, List.mem_filter.2 ⟨hs', ?_⟩, rfl⟩
    rw [e1, Int.toNat_natCast]
    exact hx.2
  · show ((rk f s.f.toNat : Nat) : Int) = (rk f x.2 : Nat)
    rw [e1, Int.toNat_natCast]
  · show ((rk f s.t.toNat : Nat) : Int) = (rk f y.2 : Nat)
    rw [e3, Int.toNat_natCast]
  · exact (hf y.2 hy).2 (((hf x.2 hx.1).1 hx.2).step ⟨s, hs', e1, e3⟩)

theorem edge_pre (hA : Right A) (hN : (N : Int) = A.n) (hf : ∀ q, q < N → (f q = true ↔ ReachA A q)) {x y' : Spot} (hx : Kept f N x) (h : EdgeA (onlyA f N A) hs ls (img f x) y') : ∃ y, y' = img f y ∧ EdgeA A hs ls x y ∧ Kept f N y := by
  obtain ⟨h1, s', hs', e1, e2, e3⟩ := h
  obtain ⟨s, hm, rfl⟩ := List.mem_map.1 hs'
  obtain ⟨hm, hk⟩ := List.mem_filter.1 hm
  have hb := hA.steps s hm
  have e1' : ((rk f s.f.toNat : Nat) : Int) = (rk f x.2 : Nat) := e1
  have e3' : ((rk f s.t.toNat : Nat) : Int) = (y'.2 : Nat) := e3
  have ex : s.f.toNat = x.2 := rk_inj hk hx.2 (by omega)
  have hE : EdgeA A hs ls x (y'.1, s.t.toNat) := ⟨h1, s, hm, by omega, e2, by show s.t = ((s.t.toNat : Nat) : Int); omega⟩
  refine ⟨(y'.1, s.t.toNat), Prod.ext rfl (by show y'.2 = rk f s.t.toNat; omega), hE, (edge_img hA hN hf hx hE).2⟩

theorem goN_img (hA : Right A) (hN : (N : Int) = A.n) (hf : ∀ q, q < N → (f q = true ↔ ReachA A q)) : ∀ (n : Nat) {x y : Spot}, Kept f N x → goN (EdgeA A hs ls) n x y → goN (EdgeA (onlyA f N A) hs ls) n (img f x) (img f y) ∧ Kept f N y
  | 0, x, y, hx, h => by
    have h : x = y := h
    subst h
    exact ⟨rfl, hx⟩
  | n + 1, x, y, hx, h => by
    obtain ⟨z, hz, h⟩ := h
    obtain ⟨h1, hz'⟩ := edge_img hA hN hf hx hz
    obtain ⟨h2, hy⟩ := goN_img hA hN hf n hz' h
    exact ⟨⟨_, h1, h2⟩, hy⟩

theorem goN_pre (hA : Right A) (hN : (N : Int) = A.n) (hf : ∀ q, q < N → (f q = true ↔ ReachA A q)) : ∀ (n : Nat) {x y' : Spot}, Kept f N x → goN (EdgeA (onlyA f N A) hs ls) n (img f x) y' → ∃ y, y' = img f y ∧ goN (EdgeA A hs ls) n x y ∧ Kept f N y
  | 0, x, y', hx, h => by
    have h : img f x = y' := h
    subst h
    exact ⟨x, rfl, rfl, hx⟩
  | n + 1, x, y', hx, h => by
    obtain ⟨z', hz, h⟩ := h
    obtain ⟨z, rfl, h1, hz'⟩ := edge_pre hA hN hf hx hz
    obtain ⟨y, rfl, h2, hy⟩ := goN_pre hA hN hf n hz' h
    exact ⟨y, rfl, ⟨_, h1, h2⟩, hy⟩
end

/-- A trimmed automaton takes the same words. -/
theorem trim_takes {A T : Aut} {hs ls : List Int} (hA : Right A) (h : TrimR A T) : TakesA T hs ls ↔ TakesA A hs ls := by
  rcases h with ⟨h0, rfl⟩ | ⟨_, f, hf, rfl⟩
  · constructor
    · rintro ⟨i, hi, _⟩
      exact absurd hi (Nat.not_lt_zero _)
    · rintro ⟨i, hi, _⟩
      rw [h0] at hi
      exact absurd hi (Nat.not_lt_zero _)
  · generalize hN' : A.n.toNat = N at *
    have hN : (N : Int) = A.n := by have := hA.n1; omega
    have hfl : (onlyA f N A).first.length = A.first.length := by simp [onlyA, keptFirst]
    have hfi : ∀ i, i < A.first.length → ((onlyA f N A).first.getD i 0).toNat = rk f (A.first.getD i 0).toNat := fun i hi => by
      simp [onlyA, keptFirst, List.getD, hi]
    have hk : ∀ i, i < A.first.length → Kept f N (0, (A.first.getD i 0).toNat) := fun i hi => by
      have := hA.first (A.first.getD i 0) (by simp [List.getD, hi])
      have hq : (A.first.getD i 0).toNat < N := by omega
      exact ⟨hq, (hf _ hq).2 ⟨i, hi, 0, rfl⟩⟩
    constructor
    · rintro ⟨i, hi, z', ⟨n, hn⟩, hg, m, hm⟩
      rw [hfl] at hi
      rw [hfi i hi] at hn
      obtain ⟨z, rfl, h1, hz⟩ := goN_pre hA hN hf n (hk i hi) hn
      obtain ⟨y, e, h2, hy⟩ := goN_pre hA hN hf (m + 1) hz hm
      obtain rfl := img_inj hz hy e
      refine ⟨i, hi, z, ⟨n, h1⟩, ?_, m, h2⟩
      have : (keptGood f A.good N).getD (rk f z.2) false = true := hg
      rwa [keptGood_get hz.1 hz.2] at this
    · rintro ⟨i, hi, z, ⟨n, hn⟩, hg, m, hm⟩
      obtain ⟨h1, hz⟩ := goN_img hA hN hf n (hk i hi) hn
      obtain ⟨h2, _⟩ := goN_img hA hN hf (m + 1) hz hm
      refine ⟨i, by rw [hfl]; exact hi, img f z, ⟨n, by rw [hfi i hi]; exact h1⟩, ?_, m, h2⟩
      show (keptGood f A.good N).getD (rk f z.2) false = true
      rw [keptGood_get hz.1 hz.2]
      exact hg

end Go.Proofs.YtpiacnnifdjlkaaDoor

/-
  Rows of numbers, and what only of package auto needs of them.
-/
namespace Go.Proofs.YtpiacnnifdjlkaaDoor
open Go.RowKit Go.Sort

def intRow (N : Nat) (f : Nat → Int) : Array Value := ((List.range N).map fun q => Value.int .i64 (f q)).toArray

theorem intRow_size (N : Nat) (f : Nat → Int) : (intRow N f).size = N := by simp [intRow]

theorem intRow_get (N : Nat) (f : Nat → Int) (q : Nat) (h : q < N) : (intRow N f)[q]? = some (.int .i64 (f q)) := by simp [intRow, h]

theorem intRow_set (N : Nat) (f : Nat → Int) (q : Nat) (z : Int) : (intRow N f).setIfInBounds q (.int .i64 z) = intRow N (fun j => if j = q then z else f j) := by
  apply Array.ext_getElem?
  intro j
  rw [Array.getElem?_setIfInBounds]
  by_cases e : q = j
  · subst e
    rw [if_pos rfl]
    by_cases h : q < N
    · rw [if_pos (by rw [intRow_size]; exact h), intRow_get _ _ _ h, if_pos rfl]
    · rw [if_neg (by rw [intRow_size]; exact h), Array.getElem?_eq_none (by rw [intRow_size]; omega)]
  · rw [if_neg e]
    by_cases h : j < N
    · rw [intRow_get _ _ _ h, intRow_get _ _ _ h, if_neg (fun e' => e e'.symm)]
    · rw [Array.getElem?_eq_none (by rw [intRow_size]; omega), Array.getElem?_eq_none (by rw [intRow_size]; omega)]

theorem intRow_congr {N : Nat} {f g : Nat → Int} (h : ∀ q, q < N → f q = g q) : intRow N f = intRow N g := by
  unfold intRow
  congr 1
  refine List.map_congr_left fun q hq => ?_
  rw [h q (List.mem_range.1 hq)]

theorem zeroInts_row (c : Nat) : zeroInts c = intRow c fun _ => 0 := by
  unfold zeroInts intRow
  apply Array.ext
  · rw [Array.size_replicate]; simp
  · intro j h1 h2
    rw [Array.getElem_replicate]
    simp

theorem make_row (c : Nat) (h : c ≤ 1000000) (w : World) : (Instr.makeSlice 22 (.int .i64 c) (.int .i64 c)).run Tryd.prog w = .ok (.slice (some ⟨w.heap.size, 0, none⟩) c c) (w.alloc (.cells (intRow c fun _ => 0) 3)) := by
  rw [make_ints c h w, zeroInts_row]

/-- The numbers of the states that are kept, of the first so many. -/
def numF (f : Nat → Bool) (i q : Nat) : Int := if q < i ∧ f q = true then (rk f q : Nat) else 0

theorem numF_no {f : Nat → Bool} {i : Nat} (h : f i = false) (q : Nat) : numF f i q = numF f (i + 1) q := by
  unfold numF
  by_cases e : q = i
  · subst e
    rw [if_neg (by omega), if_neg (by rw [h]; simp)]
  · by_cases h1 : q < i ∧ f q = true
    · rw [if_pos h1, if_pos ⟨by omega, h1.2⟩]
    · rw [if_neg h1, if_neg (fun h2 => h1 ⟨by omega, h2.2⟩)]

theorem numF_yes {f : Nat → Bool} {i : Nat} (h : f i = true) (q : Nat) : (if q = i then ((rk f i : Nat) : Int) else numF f i q) = numF f (i + 1) q := by
  unfold numF
  by_cases e : q = i
  · subst e
    rw [if_pos rfl, if_pos ⟨by omega, h⟩]
  · rw [if_neg e]
    by_cases h1 : q < i ∧ f q = true
    · rw [if_pos h1, if_pos ⟨by omega, h1.2⟩]
    · rw [if_neg h1, if_neg (fun h2 => h1 ⟨by omega, h2.2⟩)]

theorem numF_kept {f : Nat → Bool} {N q : Nat} (hq : q < N) (h : f q = true) : numF f N q = (rk f q : Nat) := by
  unfold numF
  rw [if_pos ⟨hq, h⟩]

/-- The size is told anew. -/
theorem RA.states {w : World} {base pb : Nat} {fv gv sv : Value} {A : Aut} (h : RA w base pb fv gv sv A) (n : Int) : RA (w.setCell ⟨pb, 0, none⟩ (.int .i64 n)) base pb fv gv sv { A with n := n } :=
  ⟨box_set h.box 0 (.int .i64 n), owns_set h.f h.box (by decide) _ _, owns_set h.g h.box (by decide) _ _, owns_set h.s h.box (by decide) _ _, h.hb⟩

/-- A cell of a row of numbers that is none of the automaton's is written. -/
theorem RA.farRow {w : World} {base pb nb : Nat} {fv gv sv : Value} {A : Aut} (h : RA w base pb fv gv sv A) (hp : pb ≠ nb) (hf : fv.ownBlock ≠ some nb) (hg : gv.ownBlock ≠ some nb) (hs : sv.ownBlock ≠ some nb) (k : Nat) (v : Value) : RA (w.setCell ⟨nb, k, none⟩ v) base pb fv gv sv A :=
  ⟨(heap_setCell_other w _ _ pb hp).trans h.box, owns_kept h.f fun r hr => heap_setCell_other w _ _ r (fun e => hf (by rw [hr, e])), owns_kept h.g fun r hr => heap_setCell_other w _ _ r (fun e => hg (by rw [hr, e])), owns_kept h.s fun r hr => heap_setCell_other w _ _ r (fun e => hs (by rw [hr, e])), h.hb⟩
end Go.Proofs.YtpiacnnifdjlkaaDoor

namespace Go.Proofs.YtpiacnnifdjlkaaDoor
open Go.RowKit Go.Sort

def noA : Array Value := #[.int .i64 0, .int .i64 0, .slice none 0 0, .slice none 0 0, .slice none 0 0]

/-- How memory stands while states are numbered anew: the automaton's box, the answer's, that of what is left, and the numbers. -/
structure OnlyI (w wr : World) (bx : Array Value) (N : Nat) (num : Nat → Int) (fv gv sv : Value) (B : Aut) : Prop where
  ra : RA wr (w.heap.size + 1 + 1) (w.heap.size + 1 + 1) fv gv sv B
  num : wr.heap[w.heap.size + 1 + 1 + 1]? = some (.cells (intRow N num) 3)
  bx : wr.heap[w.heap.size]? = some (.cells bx 26)
  res : wr.heap[w.heap.size + 1]? = some (.cells noA 26)
  below : Below w.heap.size w wr
  far : fv.ownBlock ≠ some (w.heap.size + 1 + 1 + 1) ∧ gv.ownBlock ≠ some (w.heap.size + 1 + 1 + 1) ∧ sv.ownBlock ≠ some (w.heap.size + 1 + 1 + 1)

section
variable {w wr : World} {bx : Array Value} {N : Nat} {num : Nat → Int} {fv gv sv : Value} {B : Aut}

theorem OnlyI.setNum (h : OnlyI w wr bx N num fv gv sv B) (q : Nat) (z : Int) : OnlyI w (wr.setCell ⟨w.heap.size + 1 + 1 + 1, q, none⟩ (.int .i64 z)) bx N (fun j => if j = q then z else num j) fv gv sv B :=
  ⟨h.ra.farRow (by omega) h.far.1 h.far.2.1 h.far.2.2 _ _, by rw [box_set h.num q (.int .i64 z), intRow_set], (heap_setCell_other wr _ _ _ (by simp <;> omega)).trans h.bx, (heap_setCell_other wr _ _ _ (by simp <;> omega)).trans h.res, h.below.setCell (by simp <;> omega) _, h.far⟩

theorem OnlyI.states (h : OnlyI w wr bx N num fv gv sv B) (n : Int) : OnlyI w (wr.setCell ⟨w.heap.size + 1 + 1, 0, none⟩ (.int .i64 n)) bx N num fv gv sv { B with n := n } :=
  ⟨h.ra.states n, (heap_setCell_other wr _ _ _ (by simp)).trans h.num, (heap_setCell_other wr _ _ _ (by simp <;> omega)).trans h.bx, (heap_setCell_other wr _ _ _ (by simp)).trans h.res, h.below.setCell (by simp <;> omega) _, h.far⟩

theorem OnlyI.congr (h : OnlyI w wr bx N num fv gv sv B) {num' : Nat → Int} (e : ∀ q, q < N → num q = num' q) : OnlyI w wr bx N num' fv gv sv B :=
  ⟨h.ra, by rw [h.num, intRow_congr e], h.bx, h.res, h.below, h.far⟩

theorem OnlyI.alloc (h : OnlyI w wr bx N num fv gv sv B) (o : Obj) : OnlyI w (wr.alloc o) bx N num fv gv sv B :=
  ⟨h.ra.below (below_new wr o), (heap_alloc_old wr o (Array.getElem?_eq_some_iff.1 h.num).1).trans h.num, (heap_alloc_old wr o (Array.getElem?_eq_some_iff.1 h.bx).1).trans h.bx, (heap_alloc_old wr o (Array.getElem?_eq_some_iff.1 h.res).1).trans h.res, below_trans h.below (below_new wr o), h.far⟩

/-- The blocks that an append to one of the rows leaves as they were. -/
theorem OnlyI.kept {W : World} {r : Option Nat} (h : OnlyI w wr bx N num fv gv sv B) (hk : KR (w.heap.size + 1 + 1) r wr W) (h1 : some (w.heap.size + 1 + 1 + 1) ≠ r) (h2 : some w.heap.size ≠ r) (h3 : some (w.heap.size + 1) ≠ r) (k : Nat) (v : Value) :
    (W.setCell ⟨w.heap.size + 1 + 1, k, none⟩ v).heap[w.heap.size + 1 + 1 + 1]? = some (.cells (intRow N num) 3) ∧ (W.setCell ⟨w.heap.size + 1 + 1, k, none⟩ v).heap[w.heap.size]? = some (.cells bx 26) ∧ (W.setCell ⟨w.heap.size + 1 + 1, k, none⟩ v).heap[w.heap.size + 1]? = some (.cells noA 26) ∧ Below w.heap.size w (W.setCell ⟨w.heap.size + 1 + 1, k, none⟩ v) :=
  ⟨(heap_setCell_other W _ _ _ (by simp)).trans (hk.block h.num h1), (heap_setCell_other W _ _ _ (by simp <;> omega)).trans (hk.block h.bx h2), (heap_setCell_other W _ _ _ (by simp)).trans (hk.block h.res h3), (h.below.trans (hk.below.mono (by omega))).setCell (by simp <;> omega) _⟩

theorem far_new {x : Option Nat} {g s n : Nat} (hx : x ≠ some n) (hw : x = some g ∨ s ≤ g) (hs : n < s) {m c : Nat} : (Value.slice (some ⟨g, 0, none⟩) m c).ownBlock ≠ some n := by
  intro e
  have e : g = n := by simpa [Value.ownBlock] using e
  rcases hw with hw | hw
  · exact hx (by rw [hw, e])
  · omega

theorem OnlyI.appGood {W : World} {g9 c9 : Nat} {z : Bool} (h : OnlyI w wr bx N num fv gv sv B) (hk : KR (w.heap.size + 1 + 1) gv.ownBlock wr W) (hn : W.ownsRow (w.heap.size + 1 + 1) 4 1 (.slice (some ⟨g9, 0, none⟩) (B.good.length + 1) c9) (B.good.length + 1) (B.good.map .bool ++ [.bool z])) (hw : gv.ownBlock = some g9 ∨ wr.heap.size ≤ g9) :
    OnlyI w (W.setCell ⟨w.heap.size + 1 + 1, 3, none⟩ (.slice (some ⟨g9, 0, none⟩) (B.good.length + 1) c9)) bx N num fv (.slice (some ⟨g9, 0, none⟩) (B.good.length + 1) c9) sv { B with good := B.good ++ [z] } := by
  obtain ⟨k1, k2, k3, k4⟩ := h.kept hk (fun e => h.far.2.1 e.symm) (fun e => row_apart h.ra.g h.bx (by decide) _ e.symm rfl) (fun e => row_apart h.ra.g h.res (by decide) _ e.symm rfl) 3 (.slice (some ⟨g9, 0, none⟩) (B.good.length + 1) c9)
  exact ⟨h.ra.appGood hk hn, k1, k2, k3, k4, h.far.1, far_new h.far.2.1 hw (Array.getElem?_eq_some_iff.1 h.num).1, h.far.2.2⟩

theorem OnlyI.appFirst {W : World} {g9 c9 : Nat} {z : Int} (h : OnlyI w wr bx N num fv gv sv B) (hk : KR (w.heap.size + 1 + 1) fv.ownBlock wr W) (hn : W.ownsRow (w.heap.size + 1 + 1) 3 1 (.slice (some ⟨g9, 0, none⟩) (B.first.length + 1) c9) (B.first.length + 1) (B.first.map (.int .i64) ++ [.int .i64 z])) (hw : fv.ownBlock = some g9 ∨ wr.heap.size ≤ g9) :
    OnlyI w (W.setCell ⟨w.heap.size + 1 + 1, 2, none⟩ (.slice (some ⟨g9, 0, none⟩) (B.first.length + 1) c9)) bx N num (.slice (some ⟨g9, 0, none⟩) (B.first.length + 1) c9) gv sv { B with first := B.first ++ [z] } := by
  obtain ⟨k1, k2, k3, k4⟩ := h.kept hk (fun e => h.far.1 e.symm) (fun e => row_apart h.ra.f h.bx (by decide) _ e.symm rfl) (fun e => row_apart h.ra.f h.res (by decide) _ e.symm rfl) 2 (.slice (some ⟨g9, 0, none⟩) (B.first.length + 1) c9)
  exact ⟨h.ra.appFirst hk hn, k1, k2, k3, k4, far_new h.far.1 hw (Array.getElem?_eq_some_iff.1 h.num).1, h.far.2.1, h.far.2.2⟩

theorem OnlyI.appStep {W : World} {g9 c9 : Nat} {z : Stp} (h : OnlyI w wr bx N num fv gv sv B) (hk : KR (w.heap.size + 1 + 1) sv.ownBlock wr W) (hn : W.ownsRow (w.heap.size + 1 + 1) 81 3 (.slice (some ⟨g9, 0, none⟩) (B.steps.length + 1) c9) (B.steps.length + 1) (stepCells B.steps ++ [.int .i64 z.f, .int .i64 z.l, .int .i64 z.t])) (hw : sv.ownBlock = some g9 ∨ wr.heap.size ≤ g9) :
    OnlyI w (W.setCell ⟨w.heap.size + 1 + 1, 4, none⟩ (.slice (some ⟨g9, 0, none⟩) (B.steps.length + 1) c9)) bx N num fv gv (.slice (some ⟨g9, 0, none⟩) (B.steps.length + 1) c9) { B with steps := B.steps ++ [z] } := by
  obtain ⟨k1, k2, k3, k4⟩ := h.kept hk (fun e => h.far.2.2 e.symm) (fun e => row_apart h.ra.s h.bx (by decide) _ e.symm rfl) (fun e => row_apart h.ra.s h.res (by decide) _ e.symm rfl) 4 (.slice (some ⟨g9, 0, none⟩) (B.steps.length + 1) c9)
  exact ⟨h.ra.appStep hk hn, k1, k2, k3, k4, h.far.1, h.far.2.1, far_new h.far.2.2 hw (Array.getElem?_eq_some_iff.1 h.num).1⟩

theorem OnlyI.sv_slice (h : OnlyI w wr bx N num fv gv sv B) : ∃ a1 c1 a2 c2 a3 c3, fv = .slice a1 B.first.length c1 ∧ gv = .slice a2 B.good.length c2 ∧ sv = .slice a3 B.steps.length c3 := h.ra.slices
end

end Go.Proofs.YtpiacnnifdjlkaaDoor
