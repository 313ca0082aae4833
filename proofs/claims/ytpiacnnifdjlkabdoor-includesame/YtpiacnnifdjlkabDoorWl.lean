/-
  The search for all boxes, step by step; what is noted of the boxes; what is found. Plain mathematics.
-/
import Derived.Test.YtpiacnnifdjlkabDoorWi
/-
  The boxes of all words, those of the shortest first; a word that one automaton takes alone. Plain mathematics.
-/
namespace Go.Proofs.YtpiacnnifdjlkabDoor

/-- What the search for all boxes leaves. -/
structure Bfs {β : Type} (b0 : β) (nx : β → Nat → β) (m n : Nat) (box : Nat → β) (ahead letter : Nat → Nat) : Prop where
  pos : 0 < n
  zero : box 0 = b0
  step : ∀ k, 0 < k → k < n → ahead k < k ∧ letter k < m ∧ box k = nx (box (ahead k)) (letter k)
  mono : ∀ j k, 0 < j → j ≤ k → k < n → ahead j ≤ ahead k
  closed : ∀ i c, i < n → c < m → ∃ j, j < n ∧ box j = nx (box i) c ∧ (0 < j → ahead j ≤ i)

/-- An entry's word. -/
def spB (ahead letter : Nat → Nat) : Nat → Nat → List Nat
  | 0, _ => []
  | f + 1, k => if k = 0 then [] else spB ahead letter f (ahead k) ++ [letter k]

section
variable {β : Type} {b0 : β} {nx : β → Nat → β} {m n : Nat} {box : Nat → β} {ahead letter : Nat → Nat}

theorem spB_fuel (h : Bfs b0 nx m n box ahead letter) : ∀ (f f' k : Nat), k < n → k ≤ f → k ≤ f' → spB ahead letter f k = spB ahead letter f' k := by
  intro f
  induction f with
  | zero =>
    intro f' k _ h1 _
    have : k = 0 := by omega
    subst this
    cases f' with
    | zero => rfl
    | succ f' => simp [spB]
  | succ f ih =>
    intro f' k hk h1 h2
    by_cases e : k = 0
    · subst e
      cases f' with
      | zero => simp [spB]
      | succ f' => simp [spB]
    · obtain ⟨f'', rfl⟩ : ∃ f'', f' = f'' + 1 := ⟨f' - 1, by omega⟩
      have hs := (h.step k (by omega) hk).1
      simp only [spB, if_neg e]
      rw [ih f'' (ahead k) (by omega) (by omega) (by omega)]

theorem spB_zero : spB ahead letter n 0 = [] := by
  cases n with
  | zero => rfl
  | succ n => simp [spB]

theorem spB_step (h : Bfs b0 nx m n box ahead letter) {k : Nat} (h0 : 0 < k) (hk : k < n) : spB ahead letter n k = spB ahead letter n (ahead k) ++ [letter k] := by
  have hs := (h.step k h0 hk).1
  obtain ⟨n', rfl⟩ : ∃ n', n = n' + 1 := ⟨n - 1, by omega⟩
  rw [spB, if_neg (by omega), spB_fuel h n' (n' + 1) (ahead k) (by omega) (by omega) (by omega)]

theorem spB_letters (h : Bfs b0 nx m n box ahead letter) : ∀ k, k < n → ∀ c ∈ spB ahead letter n k, c < m := by
  intro k
  induction k using Nat.strongRecOn with
  | _ k ih =>
    intro hk c hc
    by_cases e : k = 0
    · subst e
      rw [spB_zero] at hc
      cases hc
    · rw [spB_step h (by omega) hk] at hc
      have hs := h.step k (by omega) hk
      rcases List.mem_append.1 hc with hc | hc
      · exact ih _ hs.1 (by omega) c hc
      · rw [List.mem_singleton] at hc
        rw [hc]
        exact hs.2.1

theorem spB_box (h : Bfs b0 nx m n box ahead letter) : ∀ k, k < n → box k = (spB ahead letter n k).foldl nx b0 := by
  intro k
  induction k using Nat.strongRecOn with
  | _ k ih =>
    intro hk
    by_cases e : k = 0
    · subst e
      rw [spB_zero]
      exact h.zero
    · have hs := h.step k (by omega) hk
      rw [spB_step h (by omega) hk, List.foldl_append, ← ih _ hs.1 (by omega)]
      exact hs.2.2

theorem spB_mono (h : Bfs b0 nx m n box ahead letter) : ∀ k j, j ≤ k → k < n → (spB ahead letter n j).length ≤ (spB ahead letter n k).length := by
  intro k
  induction k using Nat.strongRecOn with
  | _ k ih =>
    intro j hj hk
    by_cases e : j = 0
    · subst e
      rw [spB_zero]
      simp
    · rw [spB_step h (show 0 < j by omega) (by omega), spB_step h (show 0 < k by omega) hk]
      have hs := h.step k (by omega) hk
      have := ih _ hs.1 _ (h.mono j k (by omega) hj hk) (by omega)
      simp
      exact this

theorem spB_reach (h : Bfs b0 nx m n box ahead letter) : ∀ v : List Nat, (∀ c ∈ v, c < m) → ∃ j, j < n ∧ box j = v.reverse.foldl nx b0 ∧ (spB ahead letter n j).length ≤ v.length
  | [], _ => ⟨0, h.pos, h.zero, by rw [spB_zero]; simp⟩
  | c :: v, hv => by
    obtain ⟨i, hi, e, hl⟩ := spB_reach h v (fun x hx => hv x (List.mem_cons_of_mem _ hx))
    obtain ⟨j, hj, e2, ha⟩ := h.closed i c hi (hv c (List.mem_cons_self ..))
    refine ⟨j, hj, ?_, ?_⟩
    · rw [e2, e, List.reverse_cons, List.foldl_append]
      rfl
    · by_cases h0 : j = 0
      · subst h0
        rw [spB_zero]
        simp
      · rw [spB_step h (by omega) hj]
        have := spB_mono h i (ahead j) (ha (by omega)) hi
        simp
        omega
end

def toZ (w : List Nat) : List Int := w.map (fun c : Nat => (c : Int))

/-- Both automata's tables. -/
def bxNext (A B : Aut) (b : List Nat × List Nat) (c : Nat) : List Nat × List Nat := (thenT b.1 (letT A c), thenT b.2 (letT B c))
def bxNone : List Nat × List Nat := (idT, idT)

theorem bx_fold (A B : Aut) : ∀ (w : List Nat) (b : List Nat × List Nat), w.foldl (bxNext A B) b = ((toZ w).foldl (fun t c => thenT t (letT A c)) b.1, (toZ w).foldl (fun t c => thenT t (letT B c)) b.2)
  | [], _ => rfl
  | c :: w, b => by
    rw [List.foldl_cons, bx_fold A B w]
    rfl

theorem bx_tabs (A B : Aut) (w : List Nat) : w.foldl (bxNext A B) bxNone = (tabW A (toZ w), tabW B (toZ w)) := bx_fold A B w _

/-- The states to which a table leads from the first ones. -/
def leadsT (A : Aut) (t : List Nat) (q : Nat) : Prop := ∃ i, i < A.first.length ∧ atT t (A.first.getD i 0).toNat q ≠ 0

theorem leadsT_iff {A : Aut} (hA : Three A) {w : List Int} {t : List Nat} (ht : IsTab A w t) {q : Nat} (hq : q < 3) : leadsT A t q ↔ leadsW A w q := by
  constructor
  · rintro ⟨i, hi, h⟩
    obtain ⟨g, k⟩ := (ht _ q (hA.1 _ (getD_mem hi)) hq).2.1.1 (Nat.pos_of_ne_zero h)
    exact ⟨i, g, hi, k⟩
  · rintro ⟨i, g, hi, k⟩
    have := (ht _ q (hA.1 _ (getD_mem hi)) hq).2.1.2 ⟨g, k⟩
    exact ⟨i, hi, by omega⟩

theorem none_taken3 {A : Aut} (hA : Three A) {q : Nat} (hq : q < 3) : ¬ takesT idT q := by
  intro h
  obtain ⟨o, _, _, k, _, _, hk⟩ := (takesT_iff hA (id_tab A) hq).1 h
  have : ∀ (k p q : Nat) (g : Bool), goP A [] k p q g → g = false := by
    intro k
    induction k with
    | zero => intro p q g h; exact h.2
    | succ k ih =>
      rintro p q g ⟨r, g1, g2, ⟨_, rfl⟩, h2, rfl⟩
      have := ih _ _ _ h2
      subst this
      rfl
  exact absurd (this _ _ _ _ hk) (by decide)

/-- A head's box and a loop's tell that the first automaton takes a word and the second one does not. -/
def Tells (A B : Aut) (h l : List Nat × List Nat) : Prop := (∃ q, q < 3 ∧ leadsT A h.1 q ∧ takesT l.1 q) ∧ ¬ ∃ q, q < 3 ∧ leadsT B h.2 q ∧ takesT l.2 q

theorem tells_iff {A B : Aut} (hA : Three A) (hB : Three B) {us vs : List Nat} (hv : 0 < vs.length) : Tells A B (us.foldl (bxNext A B) bxNone) (vs.foldl (bxNext A B) bxNone) ↔ TakesI A (lat (toZ us) (toZ vs)) ∧ ¬ TakesI B (lat (toZ us) (toZ vs)) := by
  rw [bx_tabs, bx_tabs, lasso_tabs hA (by simpa [toZ] using hv), lasso_tabs hB (by simpa [toZ] using hv)]
  unfold Tells
  have e1 : (∃ q, q < 3 ∧ leadsT A (tabW A (toZ us)) q ∧ takesT (tabW A (toZ vs)) q) ↔ ∃ q, q < 3 ∧ leadsW A (toZ us) q ∧ takesT (tabW A (toZ vs)) q :=
    ⟨fun ⟨q, hq, h1, h2⟩ => ⟨q, hq, (leadsT_iff hA (tabW_is hA _) hq).1 h1, h2⟩, fun ⟨q, hq, h1, h2⟩ => ⟨q, hq, (leadsT_iff hA (tabW_is hA _) hq).2 h1, h2⟩⟩
  have e2 : (∃ q, q < 3 ∧ leadsT B (tabW B (toZ us)) q ∧ takesT (tabW B (toZ vs)) q) ↔ ∃ q, q < 3 ∧ leadsW B (toZ us) q ∧ takesT (tabW B (toZ vs)) q :=
    ⟨fun ⟨q, hq, h1, h2⟩ => ⟨q, hq, (leadsT_iff hB (tabW_is hB _) hq).1 h1, h2⟩, fun ⟨q, hq, h1, h2⟩ => ⟨q, hq, (leadsT_iff hB (tabW_is hB _) hq).2 h1, h2⟩⟩
  dsimp only
  rw [e1, e2]

end Go.Proofs.YtpiacnnifdjlkabDoor

/-
  What the search among all boxes tells: where it finds nothing, one automaton takes all that the other one takes; what it finds first is short. Plain mathematics.
-/
namespace Go.Proofs.YtpiacnnifdjlkabDoor

theorem toZ_of {m : Nat} : ∀ (w : List Int), (∀ c ∈ w, 0 ≤ c ∧ c < m) → ∃ v : List Nat, toZ v = w ∧ ∀ c ∈ v, c < m
  | [], _ => ⟨[], rfl, fun _ h => by cases h⟩
  | c :: w, h => by
    obtain ⟨v, e, hv⟩ := toZ_of w (fun x hx => h x (List.mem_cons_of_mem _ hx))
    have hc := h c (List.mem_cons_self ..)
    refine ⟨c.toNat :: v, ?_, fun x hx => ?_⟩
    · show (c.toNat : Int) :: toZ v = c :: w
      rw [e, Int.toNat_of_nonneg hc.1]
    · rcases List.mem_cons.1 hx with rfl | hx
      · omega
      · exact hv x hx

theorem toZ_length (w : List Nat) : (toZ w).length = w.length := by simp [toZ]

section
variable {A B : Aut} {m n : Nat} {box : Nat → List Nat × List Nat} {ahead letter : Nat → Nat}

/-- Where nothing is found, nothing is taken alone. -/
theorem alone_none (hA : Three A) (hB : Three B) (h : Bfs bxNone (bxNext A B) m n box ahead letter) (hno : ∀ i j, i < n → j < n → ¬ Tells A B (box i) (box j)) {hs ls : List Int} (hL : 0 < ls.length) (hh : ∀ c ∈ hs, 0 ≤ c ∧ c < m) (hl : ∀ c ∈ ls, 0 ≤ c ∧ c < m) (ha : TakesI A (lat hs ls)) : TakesI B (lat hs ls) := by
  obtain ⟨us, e1, k1⟩ := toZ_of hs hh
  obtain ⟨vs, e2, k2⟩ := toZ_of ls hl
  obtain ⟨i, hi, b1, _⟩ := spB_reach h us.reverse (fun c hc => k1 c (List.mem_reverse.1 hc))
  obtain ⟨j, hj, b2, _⟩ := spB_reach h vs.reverse (fun c hc => k2 c (List.mem_reverse.1 hc))
  rw [List.reverse_reverse] at b1 b2
  have hv : 0 < vs.length := by rw [← toZ_length, e2]; exact hL
  have hn := hno i j hi hj
  rw [b1, b2, tells_iff hA hB hv, e1, e2] at hn
  by_cases c : TakesI B (lat hs ls)
  · exact c
  · exact absurd ⟨ha, c⟩ hn

/-- What is found is taken by the first one alone. -/
theorem alone_found (hA : Three A) (hB : Three B) (h : Bfs bxNone (bxNext A B) m n box ahead letter) {i j : Nat} (hi : i < n) (hj : j < n) (ht : Tells A B (box i) (box j)) :
    0 < (spB ahead letter n j).length ∧ TakesI A (lat (toZ (spB ahead letter n i)) (toZ (spB ahead letter n j))) ∧ ¬ TakesI B (lat (toZ (spB ahead letter n i)) (toZ (spB ahead letter n j))) := by
  have hv : 0 < (spB ahead letter n j).length := by
    rcases Nat.eq_zero_or_pos (spB ahead letter n j).length with e | e
    · have hb := spB_box h j hj
      rw [List.eq_nil_of_length_eq_zero e] at hb
      obtain ⟨⟨q, hq, _, hk⟩, _⟩ := ht
      rw [hb] at hk
      exact absurd hk (none_taken3 hA hq)
    · exact e
  rw [spB_box h i hi, spB_box h j hj] at ht
  exact ⟨hv, (tells_iff hA hB hv).1 ht⟩

/-- The loop that is found first is short. -/
theorem loop_first (hA : Three A) (hB : Three B) (h : Bfs bxNone (bxNext A B) m n box ahead letter) {i j : Nat} (hi : i < n) (hj : j < n) (ht : Tells A B (box i) (box j)) (hmin : ∀ i' j', i' < n → j' < n → Tells A B (box i') (box j') → (spB ahead letter n j).length ≤ (spB ahead letter n j').length) : (spB ahead letter n j).length < 3888 := by
  obtain ⟨hv, h1, h2⟩ := alone_found hA hB h hi hj ht
  obtain ⟨hs, ls, l1, l2, c1, c2, t1, t2⟩ := short_alone hA hB h1 h2
  have hr : ∀ t, ∃ c : Nat, c < m ∧ lat (toZ (spB ahead letter n i)) (toZ (spB ahead letter n j)) t = c := fun t => by
    have hmem : ∀ (w : List Nat) (k : Nat), (∀ c ∈ w, c < m) → k < (toZ w).length → ∃ c : Nat, c < m ∧ (toZ w).getD k 0 = c := fun w k hw hk => by
      have := getD_mem (xs := toZ w) (d := 0) hk
      obtain ⟨c, hc, e⟩ := List.mem_map.1 this
      exact ⟨c, hw c hc, e.symm⟩
    unfold lat
    split
    · exact hmem _ _ (spB_letters h i hi) (by assumption)
    · exact hmem _ _ (spB_letters h j hj) (Nat.mod_lt _ (by rw [toZ_length]; exact hv))
  have hrange : ∀ c : Int, (∃ t, c = lat (toZ (spB ahead letter n i)) (toZ (spB ahead letter n j)) t) → 0 ≤ c ∧ c < m := by
    rintro c ⟨t, rfl⟩
    obtain ⟨k, hk, e⟩ := hr t
    rw [e]
    omega
  obtain ⟨us, e1, k1⟩ := toZ_of hs (fun c hc => hrange c (c1 c hc))
  obtain ⟨vs, e2, k2⟩ := toZ_of ls (fun c hc => hrange c (c2 c hc))
  obtain ⟨i', hi', b1, _⟩ := spB_reach h us.reverse (fun c hc => k1 c (List.mem_reverse.1 hc))
  obtain ⟨j', hj', b2, hl'⟩ := spB_reach h vs.reverse (fun c hc => k2 c (List.mem_reverse.1 hc))
  rw [List.reverse_reverse] at b1 b2
  have hv' : 0 < vs.length := by rw [← toZ_length, e2]; exact l1
  have hT : Tells A B (box i') (box j') := by
    rw [b1, b2, tells_iff hA hB hv', e1, e2]
    exact ⟨t1, t2⟩
  have := hmin i' j' hi' hj' hT
  rw [List.length_reverse, ← toZ_length vs, e2] at hl'
  omega

/-- The head that is found first is short. -/
theorem head_first (hA : Three A) (hB : Three B) (h : Bfs bxNone (bxNext A B) m n box ahead letter) {i : Nat} (hi : i < n) (hmin : ∀ i', i' < n → (∀ q, q < 3 → (leadsT A (box i').1 q ↔ leadsT A (box i).1 q)) → (∀ q, q < 3 → (leadsT B (box i').2 q ↔ leadsT B (box i).2 q)) → (spB ahead letter n i).length ≤ (spB ahead letter n i').length) : (spB ahead letter n i).length < 64 := by
  obtain ⟨w', h1, h2, h3, h4⟩ := head_short hA hB (toZ (spB ahead letter n i))
  obtain ⟨us, e1, k1⟩ := toZ_of (m := m) w' (fun c hc => by
    obtain ⟨d, hd, e⟩ := List.mem_map.1 (h2 c hc)
    have := spB_letters h i hi d hd
    omega)
  obtain ⟨i', hi', b1, hl'⟩ := spB_reach h us.reverse (fun c hc => k1 c (List.mem_reverse.1 hc))
  rw [List.reverse_reverse, bx_tabs, e1] at b1
  have b0 := spB_box h i hi
  rw [bx_tabs] at b0
  have := hmin i' hi' (fun q hq => by
    rw [b1, b0]
    exact (leadsT_iff hA (tabW_is hA _) hq).trans ((h3 q).trans (leadsT_iff hA (tabW_is hA _) hq).symm)) (fun q hq => by
    rw [b1, b0]
    exact (leadsT_iff hB (tabW_is hB _) hq).trans ((h4 q).trans (leadsT_iff hB (tabW_is hB _) hq).symm))
  rw [List.length_reverse, ← toZ_length us, e1] at hl'
  omega
end

end Go.Proofs.YtpiacnnifdjlkabDoor

namespace Go.Proofs.YtpiacnnifdjlkabDoor

section
variable {β : Type} {b0 : β} {nx : β → Nat → β} {m : Nat}

def enB (b0 : β) (E : List (β × Nat × Nat)) (k : Nat) : β := (E.getD k (b0, 0, 0)).1
def enA (b0 : β) (E : List (β × Nat × Nat)) (k : Nat) : Nat := (E.getD k (b0, 0, 0)).2.1
def enL (b0 : β) (E : List (β × Nat × Nat)) (k : Nat) : Nat := (E.getD k (b0, 0, 0)).2.2

/-- The search for all boxes: all ahead of at are done, and c letters of at. -/
structure BfsI (b0 : β) (nx : β → Nat → β) (m : Nat) (E : List (β × Nat × Nat)) (at_ c : Nat) : Prop where
  pos : 0 < E.length
  zero : E.getD 0 (b0, 0, 0) = (b0, 0, 0)
  step : ∀ k, 0 < k → k < E.length → enA b0 E k < k ∧ enL b0 E k < m ∧ enB b0 E k = nx (enB b0 E (enA b0 E k)) (enL b0 E k)
  mono : ∀ j k, 0 < j → j ≤ k → k < E.length → enA b0 E j ≤ enA b0 E k
  top : ∀ k, k < E.length → enA b0 E k ≤ at_
  le : at_ ≤ E.length
  nodup : (E.map (·.1)).Nodup
  closed : ∀ i c', i < E.length → c' < m → i < at_ ∨ (i = at_ ∧ c' < c) → ∃ j, j < E.length ∧ enB b0 E j = nx (enB b0 E i) c' ∧ (0 < j → enA b0 E j ≤ i)

theorem BfsI.begin : BfsI b0 nx m [(b0, 0, 0)] 0 0 where
  pos := by simp
  zero := rfl
  step := fun k h1 h2 => by simp at h2; omega
  mono := fun j k h1 h2 h3 => by simp at h3; omega
  top := fun k hk => by
    have : k = 0 := by simpa using hk
    subst this
    exact Nat.le_refl _
  le := by simp
  nodup := by simp
  closed := fun i c' _ _ h => by omega

theorem getD_left {α : Type} {xs ys : List α} {d : α} {i : Nat} (h : i < xs.length) : (xs ++ ys).getD i d = xs.getD i d := by simp [List.getD, List.getElem?_append_left h]
theorem getD_last {α : Type} {xs : List α} {y d : α} : (xs ++ [y]).getD xs.length d = y := by simp [List.getD]

theorem BfsI.lt {E : List (β × Nat × Nat)} {at_ c : Nat} (h : BfsI b0 nx m E at_ c) {k : Nat} (hk : k < E.length) : enA b0 E k < E.length := by
  by_cases e : k = 0
  · subst e
    unfold enA
    rw [h.zero]
    exact h.pos
  · have := (h.step k (by omega) hk).1
    omega

/-- A box that was met. -/
theorem BfsI.met {E : List (β × Nat × Nat)} {at_ c : Nat} (h : BfsI b0 nx m E at_ c) (hm : nx (enB b0 E at_) c ∈ E.map (·.1)) : BfsI b0 nx m E at_ (c + 1) where
  pos := h.pos
  zero := h.zero
  step := h.step
  mono := h.mono
  top := h.top
  le := h.le
  nodup := h.nodup
  closed := fun i c' hi hc hor => by
    by_cases e : i = at_ ∧ c' = c
    · obtain ⟨rfl, rfl⟩ := e
      obtain ⟨x, hx, ex⟩ := List.mem_map.1 hm
      obtain ⟨j, hj, ej⟩ := List.getElem_of_mem hx
      refine ⟨j, hj, ?_, fun _ => h.top j hj⟩
      rw [← ex, ← ej]
      simp [enB, List.getD, hj]
    · exact h.closed i c' hi hc (by omega)

/-- A new box. -/
theorem BfsI.more {E : List (β × Nat × Nat)} {at_ c : Nat} (h : BfsI b0 nx m E at_ c) (ha : at_ < E.length) (hc : c < m) (hm : nx (enB b0 E at_) c ∉ E.map (·.1)) : BfsI b0 nx m (E ++ [(nx (enB b0 E at_) c, at_, c)]) at_ (c + 1) := by
  have hB : ∀ k, k < E.length → enB b0 (E ++ [(nx (enB b0 E at_) c, at_, c)]) k = enB b0 E k := fun k hk => by unfold enB; rw [getD_left hk]
  have hA : ∀ k, k < E.length → enA b0 (E ++ [(nx (enB b0 E at_) c, at_, c)]) k = enA b0 E k := fun k hk => by unfold enA; rw [getD_left hk]
  have hL : ∀ k, k < E.length → enL b0 (E ++ [(nx (enB b0 E at_) c, at_, c)]) k = enL b0 E k := fun k hk => by unfold enL; rw [getD_left hk]
  have zB : enB b0 (E ++ [(nx (enB b0 E at_) c, at_, c)]) E.length = nx (enB b0 E at_) c := by unfold enB; rw [getD_last]
  have zA : enA b0 (E ++ [(nx (enB b0 E at_) c, at_, c)]) E.length = at_ := by unfold enA; rw [getD_last]
  have zL : enL b0 (E ++ [(nx (enB b0 E at_) c, at_, c)]) E.length = c := by unfold enL; rw [getD_last]
  refine ⟨by simp, ?_, fun k h1 h2 => ?_, fun j k h1 h2 h3 => ?_, fun k h1 => ?_, by have := h.le; simp; omega, ?_, fun i c' hi hc' hor => ?_⟩
  · rw [getD_left h.pos]
    exact h.zero
  · rw [List.length_append, List.length_singleton] at h2
    by_cases e : k = E.length
    · subst e
      rw [zA, zL, zB, hB _ ha]
      exact ⟨ha, hc, rfl⟩
    · have hk : k < E.length := by omega
      rw [hA k hk, hL k hk, hB k hk, hB _ (h.lt hk)]
      exact h.step k h1 hk
  · rw [List.length_append, List.length_singleton] at h3
    by_cases e : k = E.length
    · subst e
      rw [zA]
      by_cases e' : j = E.length
      · subst e'; rw [zA]; exact Nat.le_refl _
      · rw [hA j (by omega)]
        exact h.top j (by omega)
    · rw [hA k (by omega), hA j (by omega)]
      exact h.mono j k h1 h2 (by omega)
  · rw [List.length_append, List.length_singleton] at h1
    by_cases e : k = E.length
    · subst e; rw [zA]; exact Nat.le_refl _
    · rw [hA k (by omega)]; exact h.top k (by omega)
  · rw [List.map_append, List.nodup_append]
    refine ⟨h.nodup, by simp, fun x hx y hy e => ?_⟩
    have : y = nx (enB b0 E at_) c := by simpa using hy
    rw [e, this] at hx
    exact hm hx
  · rw [List.length_append, List.length_singleton] at hi
    by_cases e : i = at_ ∧ c' = c
    · obtain ⟨rfl, rfl⟩ := e
      refine ⟨E.length, by simp, ?_, fun _ => ?_⟩
      · rw [zB, hB _ ha]
      · rw [zA]; exact Nat.le_refl _
    · have hi' : i < E.length := by omega
      obtain ⟨j, hj, e1, e2⟩ := h.closed i c' hi' hc' (by omega)
      exact ⟨j, by simp; omega, by rw [hB j hj, hB i hi']; exact e1, fun h0 => by rw [hA j hj]; exact e2 h0⟩

theorem BfsI.next {E : List (β × Nat × Nat)} {at_ : Nat} (h : BfsI b0 nx m E at_ m) (ha : at_ < E.length) : BfsI b0 nx m E (at_ + 1) 0 where
  pos := h.pos
  zero := h.zero
  step := h.step
  mono := h.mono
  top := fun k hk => Nat.le_succ_of_le (h.top k hk)
  le := ha
  nodup := h.nodup
  closed := fun i c' hi hc hor => h.closed i c' hi hc (by omega)

theorem BfsI.done {E : List (β × Nat × Nat)} {at_ : Nat} (h : BfsI b0 nx m E at_ 0) (ha : E.length ≤ at_) : Bfs b0 nx m E.length (enB b0 E) (enA b0 E) (enL b0 E) where
  pos := h.pos
  zero := by unfold enB; rw [h.zero]
  step := h.step
  mono := h.mono
  closed := fun i c hi hc => h.closed i c hi hc (Or.inl (by omega))
end

/-- What is noted of n boxes, each once. -/
structure Noted {γ : Type} (f : Nat → γ) (n : Nat) (all : List (γ × Nat)) : Prop where
  mem : ∀ r ∈ all, r.2 < n ∧ f r.2 = r.1 ∧ ∀ j, j < r.2 → f j ≠ r.1
  whole : ∀ k, k < n → f k ∈ all.map (·.1)
  up : all.Pairwise (fun a b => a.2 < b.2)
  nodup : (all.map (·.1)).Nodup

theorem Noted.nil {γ : Type} (f : Nat → γ) : Noted f 0 [] := ⟨fun _ h => absurd h (by simp), fun _ h => absurd h (Nat.not_lt_zero _), List.Pairwise.nil, by simp⟩

theorem Noted.old {γ : Type} {f : Nat → γ} {n : Nat} {all : List (γ × Nat)} (h : Noted f n all) (hm : f n ∈ all.map (·.1)) : Noted f (n + 1) all :=
  ⟨fun r hr => ⟨Nat.lt_succ_of_lt (h.mem r hr).1, (h.mem r hr).2⟩, fun k hk => by
    by_cases e : k = n
    · subst e; exact hm
    · exact h.whole k (by omega), h.up, h.nodup⟩

theorem Noted.new {γ : Type} {f : Nat → γ} {n : Nat} {all : List (γ × Nat)} (h : Noted f n all) (hm : f n ∉ all.map (·.1)) : Noted f (n + 1) (all ++ [(f n, n)]) := by
  refine ⟨fun r hr => ?_, fun k hk => ?_, ?_, ?_⟩
  · rcases List.mem_append.1 hr with hr | hr
    · exact ⟨Nat.lt_succ_of_lt (h.mem r hr).1, (h.mem r hr).2⟩
    · have : r = (f n, n) := by simpa using hr
      subst this
      exact ⟨Nat.lt_succ_self _, rfl, fun j hj e => hm (by have e : f j = f n := e; rw [← e]; exact h.whole j hj)⟩
  · rw [List.map_append, List.mem_append]
    by_cases e : k = n
    · subst e; right; simp
    · left; exact h.whole k (by omega)
  · rw [List.pairwise_append]
    refine ⟨h.up, by simp, fun a ha b hb => ?_⟩
    have : b = (f n, n) := by simpa using hb
    subst this
    exact (h.mem a ha).1
  · rw [List.map_append, List.nodup_append]
    refine ⟨h.nodup, by simp, fun x hx y hy e => ?_⟩
    have : y = f n := by simpa using hy
    rw [e, this] at hx
    exact hm hx

/-- Three states as bits. -/
def bits3 (P : Nat → Bool) : Nat := (if P 0 then 1 else 0) + (if P 1 then 2 else 0) + (if P 2 then 4 else 0)

theorem bits3_lt (P : Nat → Bool) : bits3 P < 8 := by unfold bits3; split <;> split <;> split <;> omega

theorem bits3_meets (P Q : Nat → Bool) : (bits3 P &&& bits3 Q != 0) = true ↔ ∃ q, q < 3 ∧ P q = true ∧ Q q = true := by
  have key : (bits3 P &&& bits3 Q != 0) = (P 0 && Q 0 || P 1 && Q 1 || P 2 && Q 2) := by
    unfold bits3
    cases P 0 <;> cases P 1 <;> cases P 2 <;> cases Q 0 <;> cases Q 1 <;> cases Q 2 <;> rfl
  rw [key]
  constructor
  · intro h
    simp only [Bool.or_eq_true, Bool.and_eq_true] at h
    rcases h with (h | h) | h
    · exact ⟨0, by omega, h⟩
    · exact ⟨1, by omega, h⟩
    · exact ⟨2, by omega, h⟩
  · rintro ⟨q, hq, h1, h2⟩
    have : q = 0 ∨ q = 1 ∨ q = 2 := by omega
    rcases this with rfl | rfl | rfl <;> simp [h1, h2]

theorem bits3_inj {P Q : Nat → Bool} (h : bits3 P = bits3 Q) : ∀ q, q < 3 → P q = Q q := by
  have key : P 0 = Q 0 ∧ P 1 = Q 1 ∧ P 2 = Q 2 := by
    unfold bits3 at h
    cases h0 : P 0 <;> cases h1 : P 1 <;> cases h2 : P 2 <;> cases k0 : Q 0 <;> cases k1 : Q 1 <;> cases k2 : Q 2 <;> simp [h0, h1, h2, k0, k1, k2] at h ⊢
  intro q hq
  have : q = 0 ∨ q = 1 ∨ q = 2 := by omega
  rcases this with rfl | rfl | rfl
  · exact key.1
  · exact key.2.1
  · exact key.2.2

def ledB3 (A : Aut) (t : List Nat) (q : Nat) : Bool := A.first.any fun x => atT t x.toNat q != 0
def takB3 (t : List Nat) (q : Nat) : Bool := (List.range 3).any fun o => atT (againT t) q o != 0 && atT (againT t) o o == 2

theorem ledB3_iff {A : Aut} {t : List Nat} {q : Nat} : ledB3 A t q = true ↔ leadsT A t q := by
  unfold ledB3 leadsT
  rw [List.any_eq_true]
  constructor
  · rintro ⟨x, hx, h⟩
    obtain ⟨i, hi, e⟩ := List.getElem_of_mem hx
    exact ⟨i, hi, by simpa [List.getD, hi, e] using h⟩
  · rintro ⟨i, hi, h⟩
    exact ⟨A.first.getD i 0, getD_mem hi, by simpa using h⟩

theorem takB3_iff {t : List Nat} {q : Nat} : takB3 t q = true ↔ takesT t q := by
  unfold takB3 takesT
  rw [List.any_eq_true]
  constructor
  · rintro ⟨o, ho, h⟩
    simp only [Bool.and_eq_true, bne_iff_ne, beq_iff_eq] at h
    exact ⟨o, List.mem_range.1 ho, h⟩
  · rintro ⟨o, ho, h⟩
    exact ⟨o, List.mem_range.2 ho, by simpa using h⟩

/-- What is noted of a box: of its word as a head, and as a loop. -/
def headS (A B : Aut) (b : List Nat × List Nat) : Nat × Nat := (bits3 (ledB3 A b.1), bits3 (ledB3 B b.2))
def loopS (b : List Nat × List Nat) : Nat × Nat := (bits3 (takB3 b.1), bits3 (takB3 b.2))
def hitS (h l : Nat × Nat) : Bool := (h.1 &&& l.1 != 0) && !(h.2 &&& l.2 != 0)

theorem hit_iff {A B : Aut} {b c : List Nat × List Nat} : hitS (headS A B b) (loopS c) = true ↔ Tells A B b c := by
  unfold hitS Tells headS loopS
  rw [Bool.and_eq_true, Bool.not_eq_true', ← Bool.not_eq_true, bits3_meets, bits3_meets]
  simp only [ledB3_iff, takB3_iff]

section
variable {A B : Aut} {m n : Nat} {box : Nat → List Nat × List Nat} {ahead letter : Nat → Nat} {heads loops : List ((Nat × Nat) × Nat)}

/-- What is found first. -/
theorem first_found (hA : Three A) (hB : Three B) (h : Bfs bxNone (bxNext A B) m n box ahead letter) (hh : Noted (fun k => headS A B (box k)) n heads) (hl : Noted (fun k => loopS (box k)) n loops)
    {x y : (Nat × Nat) × Nat} {done rest : List ((Nat × Nat) × Nat)} (hx : x ∈ heads) (hy : loops = done ++ y :: rest) (hno : ∀ y' ∈ done, ∀ x' ∈ heads, hitS x'.1 y'.1 = false) (hit : hitS x.1 y.1 = true) :
    x.2 < n ∧ y.2 < n ∧ (spB ahead letter n x.2).length < 64 ∧ 0 < (spB ahead letter n y.2).length ∧ (spB ahead letter n y.2).length < 3888 ∧ (∀ c ∈ toZ (spB ahead letter n x.2), 0 ≤ c ∧ c < m) ∧ (∀ c ∈ toZ (spB ahead letter n y.2), 0 ≤ c ∧ c < m) ∧
      TakesI A (lat (toZ (spB ahead letter n x.2)) (toZ (spB ahead letter n y.2))) ∧ ¬ TakesI B (lat (toZ (spB ahead letter n x.2)) (toZ (spB ahead letter n y.2))) := by
  obtain ⟨x1, x2, x3⟩ := hh.mem x hx
  have hym : y ∈ loops := by rw [hy]; simp
  obtain ⟨y1, y2, y3⟩ := hl.mem y hym
  have ht : Tells A B (box x.2) (box y.2) := hit_iff.1 (by rw [x2, y2]; exact hit)
  obtain ⟨f1, f2, f3⟩ := alone_found hA hB h x1 y1 ht
  have hlet : ∀ k, k < n → ∀ c ∈ toZ (spB ahead letter n k), 0 ≤ c ∧ c < (m : Int) := fun k hk c hc => by
    obtain ⟨d, hd, rfl⟩ := List.mem_map.1 hc
    have := spB_letters h k hk d hd
    omega
  refine ⟨x1, y1, head_first hA hB h x1 (fun i' hi' e1 e2 => ?_), f1, loop_first hA hB h x1 y1 ht (fun i' j' hi' hj' ht' => ?_), hlet _ x1, hlet _ y1, f2, f3⟩
  · refine spB_mono h i' x.2 ?_ hi'
    refine Nat.le_of_not_lt fun hlt => x3 i' hlt ?_
    rw [← x2]
    show headS A B (box i') = headS A B (box x.2)
    have b1 : ∀ q, q < 3 → ledB3 A (box i').1 q = ledB3 A (box x.2).1 q := fun q hq => by
      rw [Bool.eq_iff_iff, ledB3_iff, ledB3_iff]; exact e1 q hq
    have b2 : ∀ q, q < 3 → ledB3 B (box i').2 q = ledB3 B (box x.2).2 q := fun q hq => by
      rw [Bool.eq_iff_iff, ledB3_iff, ledB3_iff]; exact e2 q hq
    unfold headS bits3
    rw [b1 0 (by omega), b1 1 (by omega), b1 2 (by omega), b2 0 (by omega), b2 1 (by omega), b2 2 (by omega)]
  · refine spB_mono h j' y.2 ?_ hj'
    have hj := hl.whole j' hj'
    obtain ⟨z, hz, ez⟩ := List.mem_map.1 hj
    have ez : z.1 = loopS (box j') := ez
    have hi := hh.whole i' hi'
    obtain ⟨v, hv, ev⟩ := List.mem_map.1 hi
    have ev : v.1 = headS A B (box i') := ev
    have hhit : hitS v.1 z.1 = true := by rw [ev, ez]; exact hit_iff.2 ht'
    have hzj : z.2 ≤ j' := Nat.le_of_not_lt fun hlt => (hl.mem z hz).2.2 j' hlt ez.symm
    rw [hy] at hz
    rcases List.mem_append.1 hz with hz | hz
    · rw [hno z hz v hv] at hhit
      cases hhit
    · rcases List.mem_cons.1 hz with rfl | hz
      · exact hzj
      · have hp := hl.up
        rw [hy, List.pairwise_append] at hp
        have := (List.pairwise_cons.1 hp.2.1).1 z hz
        omega

/-- Nothing is found. -/
theorem none_found (hA : Three A) (hB : Three B) (h : Bfs bxNone (bxNext A B) m n box ahead letter) (hh : Noted (fun k => headS A B (box k)) n heads) (hl : Noted (fun k => loopS (box k)) n loops) (hno : ∀ y' ∈ loops, ∀ x' ∈ heads, hitS x'.1 y'.1 = false)
    {hs ls : List Int} (hL : 0 < ls.length) (h1 : ∀ c ∈ hs, 0 ≤ c ∧ c < m) (h2 : ∀ c ∈ ls, 0 ≤ c ∧ c < m) (ha : TakesI A (lat hs ls)) : TakesI B (lat hs ls) := by
  refine alone_none hA hB h (fun i j hi hj ht => ?_) hL h1 h2 ha
  obtain ⟨z, hz, ez⟩ := List.mem_map.1 (hl.whole j hj)
  obtain ⟨v, hv, ev⟩ := List.mem_map.1 (hh.whole i hi)
  have ez : z.1 = loopS (box j) := ez
  have ev : v.1 = headS A B (box i) := ev
  have := hno z hz v hv
  rw [ez, ev, hit_iff.2 ht] at this
  cases this
end

end Go.Proofs.YtpiacnnifdjlkabDoor
