/-
  Automata whose states are nodes, numbered as they are met; two automata that go by one word: plain mathematics.
-/
import Derived.Test.YtpiacnnifdjlkabDoorCz
import Derived.Test.YtpiacnnifdjlkabDoorCx
/-
  Ways of letters through an automaton, and what a search for one knows: plain mathematics.
-/
namespace Go.Proofs.YtpiacnnifdjlkabDoor

/-- A row of letters leads from one state to another. -/
def wayL (A : Aut) : List Int → Nat → Nat → Prop
  | [], q, q' => q = q'
  | c :: cs, q, q' => ∃ z : Nat, (∃ s ∈ A.steps, s.f = q ∧ s.l = c ∧ s.t = z) ∧ wayL A cs z q'

theorem wayL_append {A : Aut} : ∀ {us vs : List Int} {x y z : Nat}, wayL A us x y → wayL A vs y z → wayL A (us ++ vs) x z
  | [], vs, x, y, z, h, k => by have e : x = y := h; subst e; exact k
  | c :: us, vs, x, y, z, h, k => by
    obtain ⟨u, h1, h2⟩ := h
    exact ⟨u, h1, wayL_append h2 k⟩

theorem wayL_one {A : Aut} {s : Stp} (hs : s ∈ A.steps) {x y : Nat} (hx : s.f = x) (hy : s.t = y) : wayL A [s.l] x y := ⟨y, ⟨s, hs, hx, rfl, hy⟩, rfl⟩

theorem pathU_of_way {A : Aut} {u : Nat → Int} : ∀ {us : List Int} {t x y : Nat}, wayL A us x y → (∀ j, j < us.length → u (t + j) = us.getD j 0) → pathU A u us.length t x y
  | [], t, x, y, h, _ => h
  | c :: us, t, x, y, h, k => by
    obtain ⟨z, ⟨s, hs, e1, e2, e3⟩, h2⟩ := h
    refine ⟨z, ⟨s, hs, e1, ?_, e3⟩, pathU_of_way h2 (fun j hj => ?_)⟩
    · have := k 0 (by simp)
      simp at this
      rw [this]; exact e2
    · have := k (j + 1) (by simp; omega)
      simp only [List.getD_cons_succ] at this
      rw [← this]
      congr 1
      omega

theorem way_of_pathU {A : Aut} {u : Nat → Int} : ∀ {n t x y : Nat}, pathU A u n t x y → ∃ us : List Int, us.length = n ∧ wayL A us x y
  | 0, _, _, _, h => ⟨[], rfl, h⟩
  | n + 1, t, x, y, h => by
    obtain ⟨z, ⟨s, hs, e1, e2, e3⟩, h2⟩ := h
    obtain ⟨us, hl, hw⟩ := way_of_pathU h2
    exact ⟨s.l :: us, by simp [hl], z, ⟨s, hs, e1, rfl, e3⟩, hw⟩

theorem lat_front {hs ls : List Int} {j : Nat} (h : j < hs.length) : lat hs ls j = hs.getD j 0 := by unfold lat; rw [if_pos h]

theorem lat_round {hs ls : List Int} {i j : Nat} (h : j < ls.length) : lat hs ls (hs.length + i * ls.length + j) = ls.getD j 0 := by
  unfold lat
  rw [if_neg (by omega), show hs.length + i * ls.length + j - hs.length = j + i * ls.length by omega, Nat.add_mul_mod_self_right, Nat.mod_eq_of_lt h]

/-- What leads from a first state to a good one, and from there back, is taken. -/
theorem takes_of_way {A : Aut} {hs ls : List Int} {i g : Nat} (hi : i < A.first.length) (h1 : wayL A hs (A.first.getD i 0).toNat g) (hg : A.good.getD g false = true) (h2 : wayL A ls g g) (hL : 0 < ls.length) : TakesU A (lat hs ls) :=
  ⟨i, hi, hs.length, g, ls.length, pathU_of_way h1 (fun j hj => by rw [Nat.zero_add]; exact lat_front hj), hg, hL, fun k => pathU_of_way h2 (fun j hj => lat_round hj)⟩

/-- Where a word is taken there is a good state, come to from a first one, that leads back to itself. -/
theorem way_of_takes {A : Aut} {u : Nat → Int} (h : TakesU A u) : ∃ i, i < A.first.length ∧ ∃ us vs g, wayL A us (A.first.getD i 0).toNat g ∧ A.good.getD g false = true ∧ 0 < vs.length ∧ wayL A vs g g := by
  obtain ⟨i, hi, n, q, m, h1, hg, hm, hc⟩ := h
  obtain ⟨us, _, hu⟩ := way_of_pathU h1
  obtain ⟨vs, hl, hv⟩ := way_of_pathU (hc 0)
  exact ⟨i, hi, us, vs, q, hu, hg, by omega, hv⟩

/-- What a set of states bears that holds all to which steps lead from some, and is closed. -/
theorem way_closed {A : Aut} {P : Nat → Prop} {Q : Nat → Prop} (hP : ∀ x, P x → ∀ s ∈ A.steps, s.f = (x : Nat) → ∃ y : Nat, s.t = y ∧ Q y) (hQ : ∀ x, Q x → P x) : ∀ {us : List Int} {x y : Nat}, P x → wayL A us x y → us ≠ [] → Q y
  | [], _, _, _, _, h => absurd rfl h
  | [c], x, y, hx, h, _ => by
    obtain ⟨z, ⟨s, hs, e1, _, e3⟩, h2⟩ := h
    have e : z = y := h2
    subst e
    obtain ⟨y', e, hq⟩ := hP x hx s hs e1
    have : z = y' := by omega
    rw [this]; exact hq
  | c :: d :: us, x, y, hx, h, _ => by
    obtain ⟨z, ⟨s, hs, e1, _, e3⟩, h2⟩ := h
    obtain ⟨y', e, hq⟩ := hP x hx s hs e1
    have : z = y' := by omega
    rw [← this] at hq
    exact way_closed hP hQ (hQ _ hq) h2 (by simp)

/-- The states that were met, in their order, and the steps by which they were come to. -/
structure ByOk (A : Aut) (from_ : List Int) (ord : List Nat) (by_ : Nat → Stp) : Prop where
  nodup : ord.Nodup
  step : ∀ i, i < ord.length → by_ (ord.getD i 0) ∈ A.steps ∧ (by_ (ord.getD i 0)).t = (ord.getD i 0 : Nat)
  ahead : ∀ i, i < ord.length → (by_ (ord.getD i 0)).f ∈ from_ ∨ ∃ j, j < i ∧ (by_ (ord.getD i 0)).f = (ord.getD j 0 : Nat)

theorem getD_append_left {α : Type} {xs ys : List α} {d : α} {i : Nat} (h : i < xs.length) : (xs ++ ys).getD i d = xs.getD i d := by simp [List.getD, List.getElem?_append_left h]
theorem getD_append_last {α : Type} {xs : List α} {y d : α} : (xs ++ [y]).getD xs.length d = y := by simp [List.getD]
theorem getD_mem {α : Type} {xs : List α} {d : α} {i : Nat} (h : i < xs.length) : xs.getD i d ∈ xs := by simp [List.getD, h]

def setBy (by_ : Nat → Stp) (s : Stp) : Nat → Stp := fun i => if (i : Int) = s.t then s else by_ i

theorem ByOk.meet {A : Aut} {from_ : List Int} {ord : List Nat} {by_ : Nat → Stp} (h : ByOk A from_ ord by_) {s : Stp} {t : Nat} (hs : s ∈ A.steps) (ht : s.t = t) (hn : t ∉ ord) (hf : s.f ∈ from_ ∨ ∃ q ∈ ord, s.f = (q : Nat)) : ByOk A from_ (ord ++ [t]) (setBy by_ s) := by
  have hold : ∀ i, i < ord.length → setBy by_ s ((ord ++ [t]).getD i 0) = by_ (ord.getD i 0) := fun i hi => by
    rw [getD_append_left hi]
    unfold setBy
    rw [if_neg]
    intro e
    have : ord.getD i 0 = t := by omega
    exact hn (by rw [← this]; exact getD_mem hi)
  have hnew : setBy by_ s ((ord ++ [t]).getD ord.length 0) = s := by
    rw [getD_append_last]
    unfold setBy
    rw [if_pos ht.symm]
  refine ⟨?_, fun i hi => ?_, fun i hi => ?_⟩
  · rw [List.nodup_append]
    refine ⟨h.nodup, by simp, fun a ha b hb => ?_⟩
    rw [List.mem_singleton] at hb
    subst hb
    exact fun e => hn (by rw [← e]; exact ha)
  · rw [List.length_append, List.length_singleton] at hi
    by_cases e : i = ord.length
    · subst e
      rw [hnew, getD_append_last]
      exact ⟨hs, ht⟩
    · rw [hold i (by omega), getD_append_left (by omega)]
      exact h.step i (by omega)
  · rw [List.length_append, List.length_singleton] at hi
    by_cases e : i = ord.length
    · subst e
      rw [hnew]
      rcases hf with hf | ⟨q, hq, hf⟩
      · exact Or.inl hf
      · obtain ⟨j, hj, rfl⟩ := List.mem_iff_getElem.1 hq
        refine Or.inr ⟨j, hj, ?_⟩
        rw [getD_append_left hj, hf]
        simp [List.getD, hj]
    · rw [hold i (by omega)]
      rcases h.ahead i (by omega) with h1 | ⟨j, hj, h1⟩
      · exact Or.inl h1
      · exact Or.inr ⟨j, hj, by rw [getD_append_left (by omega)]; exact h1⟩

theorem ByOk.nil (A : Aut) (from_ : List Int) (by_ : Nat → Stp) : ByOk A from_ [] by_ := ⟨List.nodup_nil, fun _ h => absurd h (Nat.not_lt_zero _), fun _ h => absurd h (Nat.not_lt_zero _)⟩

/-- What is known while a way is gone back: these letters lead on from where one stands, and there are not too many. -/
def BackAt (A : Aut) (from_ : List Int) (ord : List Nat) (end_ : Nat) (us : List Int) (q : Int) : Prop :=
  us ≠ [] ∧ us.length ≤ ord.length ∧ 0 ≤ q ∧ wayL A us.reverse q.toNat end_ ∧ (q ∈ from_ ∨ ∃ i, i < ord.length ∧ q = (ord.getD i 0 : Nat) ∧ us.length + i < ord.length)

theorem back_begin {A : Aut} {from_ : List Int} {ord : List Nat} {by_ : Nat → Stp} (hA : ∀ s ∈ A.steps, 0 ≤ s.f) (h : ByOk A from_ ord by_) {e : Nat} (he : e ∈ ord) : BackAt A from_ ord e [(by_ e).l] (by_ e).f := by
  obtain ⟨i, hi, rfl⟩ := List.mem_iff_getElem.1 he
  have hg : ord.getD i 0 = ord[i] := by simp [List.getD, hi]
  obtain ⟨h1, h2⟩ := h.step i hi
  have h3 := h.ahead i hi
  rw [hg] at h1 h2 h3
  have h0 := hA _ h1
  refine ⟨by simp, by simp; omega, h0, wayL_one h1 (by omega) h2, ?_⟩
  rcases h3 with h3 | ⟨j, hj, h3⟩
  · exact Or.inl h3
  · exact Or.inr ⟨j, by omega, h3, by simp; omega⟩

theorem back_on {A : Aut} {from_ : List Int} {ord : List Nat} {by_ : Nat → Stp} (hA : ∀ s ∈ A.steps, 0 ≤ s.f) (h : ByOk A from_ ord by_) {e : Nat} {us : List Int} {q : Int} (hb : BackAt A from_ ord e us q) (hq : q ∉ from_) : q.toNat ∈ ord ∧ us.length < ord.length ∧ BackAt A from_ ord e (us ++ [(by_ q.toNat).l]) (by_ q.toNat).f := by
  obtain ⟨_, hl, h0, hw, hor⟩ := hb
  rcases hor with hor | ⟨i, hi, rfl, hlt⟩
  · exact absurd hor hq
  rw [Int.toNat_natCast] at hw ⊢
  obtain ⟨h1, h2⟩ := h.step i hi
  have h3 := h.ahead i hi
  have h4 := hA _ h1
  refine ⟨getD_mem hi, by omega, by simp, by simp; omega, h4, ?_, ?_⟩
  · rw [List.reverse_append]
    exact wayL_append (wayL_one h1 (by omega) h2) hw
  · rcases h3 with h3 | ⟨j, hj, h3⟩
    · exact Or.inl h3
    · exact Or.inr ⟨j, by omega, h3, by simp; omega⟩

theorem back_done {A : Aut} {from_ : List Int} {ord : List Nat} {e : Nat} {us : List Int} {q : Int} (hb : BackAt A from_ ord e us q) (hq : q ∈ from_) : us.reverse ≠ [] ∧ us.reverse.length ≤ ord.length ∧ ∃ x ∈ from_, wayL A us.reverse x.toNat e :=
  ⟨by simpa using hb.1, by rw [List.length_reverse]; exact hb.2.1, q, hq, hb.2.2.2.1⟩

/-- What a search knows: those that were met, none of which is what is looked for, and that steps from the ones that were gone through lead to such. -/
structure Look (A : Aut) (N : Nat) (F : Nat → Bool) (from_ : List Int) (ord : List Nat) (by_ : Nat → Stp) (k : Nat) : Prop where
  ok : ByOk A from_ ord by_
  range : ∀ q ∈ ord, q < N
  not : ∀ q ∈ ord, F q = false
  closed : ∀ j, j < k → ∀ s ∈ A.steps, s.f = (from_ ++ ord.map (fun q : Nat => (q : Int))).getD j 0 → ∃ y ∈ ord, s.t = (y : Nat)

theorem nodup_le : ∀ (N : Nat) (l : List Nat), l.Nodup → (∀ q ∈ l, q < N) → l.length ≤ N
  | 0, l, _, h => by
    cases l with
    | nil => exact Nat.le_refl _
    | cons a l => exact absurd (h a (by simp)) (Nat.not_lt_zero _)
  | N + 1, l, hn, h => by
    have h1 := nodup_le N (l.erase N) (hn.erase N) (fun q hq => by
      have hm := (List.Nodup.mem_erase_iff hn).1 hq
      have := h q hm.2
      omega)
    have := List.length_erase (a := N) (l := l)
    split at this <;> omega

theorem Look.few {A : Aut} {N : Nat} {F : Nat → Bool} {from_ : List Int} {ord : List Nat} {by_ : Nat → Stp} {k : Nat} (h : Look A N F from_ ord by_ k) : ord.length ≤ N := by
  exact nodup_le N ord h.ok.nodup h.range

theorem Look.done {A : Aut} {N : Nat} {F : Nat → Bool} {from_ : List Int} {ord : List Nat} {by_ : Nat → Stp} {k : Nat} (h : Look A N F from_ ord by_ k) (hk : from_.length + ord.length ≤ k) (h0 : ∀ x ∈ from_, 0 ≤ x) {x : Int} (hx : x ∈ from_) {us : List Int} {y : Nat} (hw : wayL A us x.toNat y) (hne : us ≠ []) : F y = false := by
  refine h.not y (way_closed (P := fun z : Nat => (z : Int) ∈ from_ ++ ord.map (fun q : Nat => (q : Int))) (Q := fun z => z ∈ ord) ?_ ?_ ?_ hw hne)
  · intro z hz s hs e
    obtain ⟨j, hj, hjz⟩ := List.mem_iff_getElem.1 hz
    obtain ⟨y, hy, e2⟩ := h.closed j (by simp at hj; omega) s hs (by rw [e, ← hjz]; simp only [List.getD, List.getElem?_eq_getElem hj, Option.getD_some])
    exact ⟨y, e2, hy⟩
  · intro z hz
    exact List.mem_append_right _ (List.mem_map.2 ⟨z, hz, rfl⟩)
  · refine List.mem_append_left _ ?_
    have := h0 x hx
    rw [show ((x.toNat : Nat) : Int) = x by omega]
    exact hx

end Go.Proofs.YtpiacnnifdjlkabDoor

/-
  Words without an end: a run without an end that comes to good states again and again; of a lasso that is as much as a good spot that leads back to itself.
-/
namespace Go.Proofs.YtpiacnnifdjlkabDoor

/-- A step from a state, by a letter, to a state. -/
def stepU (A : Aut) (x : Nat) (c : Int) (y : Nat) : Prop := ∃ s ∈ A.steps, s.f = x ∧ s.l = c ∧ s.t = y

/-- A run without an end that comes to good states again and again. -/
def TakesI (A : Aut) (u : Nat → Int) : Prop :=
  ∃ r : Nat → Nat, (∃ i, i < A.first.length ∧ (A.first.getD i 0).toNat = r 0) ∧ (∀ t, stepU A (r t) (u t) (r (t + 1))) ∧ ∀ t, ∃ k, t ≤ k ∧ A.good.getD (r k) false = true

theorem pathU_fun {A : Aut} {u : Nat → Int} : ∀ {n t x y : Nat}, pathU A u n t x y → ∃ f : Nat → Nat, f 0 = x ∧ f n = y ∧ ∀ j, j < n → stepU A (f j) (u (t + j)) (f (j + 1))
  | 0, t, x, y, h => ⟨fun _ => x, rfl, h, fun j hj => absurd hj (Nat.not_lt_zero _)⟩
  | n + 1, t, x, y, h => by
    obtain ⟨z, hz, h2⟩ := h
    obtain ⟨f, f0, fn, hf⟩ := pathU_fun h2
    refine ⟨fun j => if j = 0 then x else f (j - 1), rfl, by simpa using fn, fun j hj => ?_⟩
    dsimp only
    by_cases e : j = 0
    · subst e
      simp only [if_true, Nat.add_zero, Nat.zero_add, Nat.add_one_ne_zero, if_false, Nat.sub_self, f0]
      exact hz
    · have := hf (j - 1) (by omega)
      rw [if_neg e, if_neg (by omega), show j + 1 - 1 = j - 1 + 1 by omega, show t + j = t + 1 + (j - 1) by omega]
      exact this

theorem pathU_of_fun {A : Aut} {u : Nat → Int} {f : Nat → Nat} : ∀ {n t : Nat}, (∀ j, j < n → stepU A (f (t + j)) (u (t + j)) (f (t + j + 1))) → pathU A u n t (f t) (f (t + n))
  | 0, t, _ => rfl
  | n + 1, t, h => by
    refine ⟨f (t + 1), h 0 (by omega), ?_⟩
    have := pathU_of_fun (f := f) (u := u) (A := A) (n := n) (t := t + 1) (fun j hj => by have := h (j + 1) (by omega); rwa [show t + (j + 1) = t + 1 + j by omega] at this)
    rwa [show t + 1 + n = t + (n + 1) by omega] at this

theorem takesI_of {A : Aut} {u : Nat → Int} (h : TakesU A u) : TakesI A u := by
  obtain ⟨i, hi, n, q, m, h1, hg, hm, hc⟩ := h
  obtain ⟨f, f0, fn, hf⟩ := pathU_fun h1
  have hex := fun j => pathU_fun (hc j)
  obtain ⟨g, hgg⟩ : ∃ g : Nat → Nat → Nat, ∀ j, g j 0 = q ∧ g j m = q ∧ ∀ i, i < m → stepU A (g j i) (u (n + j * m + i)) (g j (i + 1)) := ⟨fun j => Classical.choose (hex j), fun j => Classical.choose_spec (hex j)⟩
  have hg0' : ∀ j, g j 0 = q := fun j => (hgg j).1
  have hgm' : ∀ j, g j m = q := fun j => (hgg j).2.1
  have hgs' : ∀ j i, i < m → stepU A (g j i) (u (n + j * m + i)) (g j (i + 1)) := fun j => (hgg j).2.2
  refine ⟨fun t => if t < n then f t else g ((t - n) / m) ((t - n) % m), ⟨i, hi, ?_⟩, fun t => ?_, fun t => ?_⟩
  · by_cases h0 : 0 < n
    · simp only [h0, if_true, f0]
    · have : n = 0 := by omega
      subst this
      simp only [Nat.lt_irrefl, if_false, Nat.sub_self, Nat.zero_div, Nat.zero_mod, hg0']
      rw [← fn, f0]
  · dsimp only
    by_cases ht : t < n
    · rw [if_pos ht]
      have h2 := hf t ht
      rw [Nat.zero_add] at h2
      by_cases ht1 : t + 1 < n
      · rw [if_pos ht1]; exact h2
      · rw [if_neg ht1, show t + 1 - n = 0 by omega, Nat.zero_div, Nat.zero_mod, hg0']
        rw [show t + 1 = n by omega, fn] at h2
        exact h2
    · rw [if_neg ht, if_neg (by omega), show t + 1 - n = t - n + 1 by omega]
      have hd := Nat.div_add_mod (t - n) m
      have hl := Nat.mod_lt (t - n) hm
      have h2 := hgs' ((t - n) / m) ((t - n) % m) hl
      rw [show n + (t - n) / m * m + (t - n) % m = t by rw [Nat.mul_comm]; omega] at h2
      by_cases e : (t - n) % m + 1 = m
      · have e1 : (t - n + 1) % m = 0 := by
          rw [Nat.add_mod]
          by_cases h1 : m = 1
          · subst h1; exact Nat.mod_one _
          · rw [Nat.mod_eq_of_lt (show 1 < m by omega), e, Nat.mod_self]
        rw [e, hgm'] at h2
        rw [e1, hg0']
        exact h2
      · have e1 : (t - n + 1) % m = (t - n) % m + 1 := by
          rw [Nat.add_mod, Nat.mod_eq_of_lt (show 1 < m by omega), Nat.mod_eq_of_lt (by omega)]
        have e2 : (t - n + 1) / m = (t - n) / m := by
          have h3 := Nat.div_add_mod (t - n + 1) m
          rw [e1] at h3
          have h4 : m * ((t - n + 1) / m) = m * ((t - n) / m) := by omega
          exact Nat.eq_of_mul_eq_mul_left hm h4
        rw [e1, e2]
        exact h2
  · refine ⟨n + t * m, Nat.le_trans (Nat.le_mul_of_pos_right t hm) (Nat.le_add_left _ _), ?_⟩
    dsimp only
    rw [if_neg (by omega), Nat.add_sub_cancel_left, Nat.mul_mod_left, hg0']
    exact hg

/-- Of more things than there are kinds two are of one kind. -/
theorem two_alike {M : Nat} (c : Nat → Nat) (h : ∀ i, c i < M) : ∃ i j, i < j ∧ c i = c j := by
  refine Classical.byContradiction fun hn => ?_
  have hinj : ∀ i j, c i = c j → i = j := fun i j e => by
    rcases Nat.lt_trichotomy i j with h1 | h1 | h1
    · exact absurd ⟨i, j, h1, e⟩ hn
    · exact h1
    · exact absurd ⟨j, i, h1, e.symm⟩ hn
  have h1 := nodup_le M ((List.range (M + 1)).map c) (by
    rw [List.Nodup, List.pairwise_map]
    exact List.Pairwise.imp (fun hne e => hne (hinj _ _ e)) (List.nodup_range (n := M + 1))) (fun q hq => by
    obtain ⟨i, _, rfl⟩ := List.mem_map.1 hq
    exact h i)
  simp at h1
  omega

theorem lat_period {hs ls : List Int} {t : Nat} (ht : hs.length ≤ t) (k : Nat) : lat hs ls (t + k * ls.length) = lat hs ls t := by
  unfold lat
  rw [if_neg (by omega), if_neg (by omega), show t + k * ls.length - hs.length = t - hs.length + k * ls.length by omega, Nat.add_mul_mod_self_right]

theorem takesU_of {A : Aut} {hs ls : List Int} {N : Nat} (hL : 0 < ls.length) (hN : ∀ s ∈ A.steps, s.t < N) (h : TakesI A (lat hs ls)) : TakesU A (lat hs ls) := by
  obtain ⟨r, ⟨i, hi, h0⟩, hr, hg⟩ := h
  -- good times, one after the other, behind Head
  have hnext := fun t => hg t
  let nx : Nat → Nat := fun t => Classical.choose (hnext t)
  have hnx : ∀ t, t ≤ nx t ∧ A.good.getD (r (nx t)) false = true := fun t => Classical.choose_spec (hnext t)
  let T : Nat → Nat := fun k => Nat.rec (nx (hs.length + 1)) (fun _ t => nx (t + 1)) k
  have hT1 : ∀ k, T k < T (k + 1) := fun k => (hnx (T k + 1)).1
  have hTm : ∀ i j, i < j → T i < T j := by
    intro i j hij
    induction j with
    | zero => omega
    | succ j ih =>
      have := hT1 j
      by_cases e : i = j
      · subst e; exact this
      · have := ih (by omega); omega
  have hTg : ∀ k, A.good.getD (r (T k)) false = true := fun k => by
    cases k with
    | zero => exact (hnx (hs.length + 1)).2
    | succ k => exact (hnx (T k + 1)).2
  have hT0 : ∀ k, hs.length + 1 ≤ T k := fun k => by
    have h1 : hs.length + 1 ≤ T 0 := (hnx (hs.length + 1)).1
    by_cases e : k = 0
    · subst e; exact h1
    · have := hTm 0 k (by omega); omega
  have hrN : ∀ t, 0 < t → r t < N := fun t ht => by
    obtain ⟨s, hs', _, _, e⟩ := hr (t - 1)
    have := hN s hs'
    rw [show t - 1 + 1 = t by omega] at e
    omega
  obtain ⟨a, b, hab, e⟩ := two_alike (M := N * ls.length) (fun k => r (T k) * ls.length + T k % ls.length) (fun k => by
    have h1 := hrN (T k) (by have := hT0 k; omega)
    have h2 := Nat.mod_lt (T k) hL
    have h3 : (r (T k) + 1) * ls.length ≤ N * ls.length := Nat.mul_le_mul_right _ h1
    rw [Nat.succ_mul] at h3
    show r (T k) * ls.length + T k % ls.length < N * ls.length
    omega)
  have e1 : r (T a) = r (T b) := by
    have h1 : (r (T a) * ls.length + T a % ls.length) / ls.length = (r (T b) * ls.length + T b % ls.length) / ls.length := congrArg (· / ls.length) e
    rw [Nat.mul_comm, Nat.mul_add_div hL, Nat.mul_comm, Nat.mul_add_div hL, Nat.div_eq_of_lt (Nat.mod_lt _ hL), Nat.div_eq_of_lt (Nat.mod_lt _ hL)] at h1
    omega
  have e2 : T a % ls.length = T b % ls.length := by
    have h1 : r (T a) * ls.length + T a % ls.length = r (T b) * ls.length + T b % ls.length := e
    rw [e1] at h1
    omega
  have hlt := hTm a b hab
  have hTa := hT0 a
  obtain ⟨p, hp⟩ : ∃ p, T b - T a = p * ls.length := by
    refine ⟨(T b - T a) / ls.length, ?_⟩
    have h1 : (T b - T a) % ls.length = 0 := by
      have h2 := Nat.div_add_mod (T a) ls.length
      have h3 := Nat.div_add_mod (T b) ls.length
      have h4 : T b - T a = ls.length * (T b / ls.length) - ls.length * (T a / ls.length) := by omega
      rw [h4, ← Nat.mul_sub, Nat.mul_mod_right]
    have := Nat.div_add_mod (T b - T a) ls.length
    rw [h1, Nat.add_zero, Nat.mul_comm] at this
    exact this.symm
  refine ⟨i, hi, T a, r (T a), T b - T a, ?_, hTg a, by omega, fun j => ?_⟩
  · have := pathU_of_fun (f := r) (u := lat hs ls) (A := A) (n := T a) (t := 0) (fun j _ => by rw [Nat.zero_add]; exact hr j)
    rw [Nat.zero_add] at this
    rw [h0]
    exact this
  · have hsh : ∀ j, j < T b - T a → stepU A (r (T a + j)) (lat hs ls (T a + j)) (r (T a + j + 1)) := fun j _ => hr (T a + j)
    have h1 := pathU_of_fun (f := fun x => r (x - (T a + j * (T b - T a)) + T a)) (u := lat hs ls) (A := A) (n := T b - T a) (t := T a + j * (T b - T a)) (fun k hk => by
      have h2 := hr (T a + k)
      rw [show T a + j * (T b - T a) + k - (T a + j * (T b - T a)) + T a = T a + k by omega, show T a + j * (T b - T a) + k + 1 - (T a + j * (T b - T a)) + T a = T a + k + 1 by omega]
      have h3 := lat_period (hs := hs) (ls := ls) (t := T a + k) (by omega) (j * p)
      rw [show T a + j * (T b - T a) + k = T a + k + j * p * ls.length by rw [hp, Nat.mul_assoc]; omega, h3]
      exact h2)
    simp only [Nat.sub_self, Nat.zero_add] at h1
    rw [show T a + j * (T b - T a) + (T b - T a) - (T a + j * (T b - T a)) + T a = T b by omega, ← e1] at h1
    exact h1

theorem takes_inf {A : Aut} {hs ls : List Int} {N : Nat} (hL : 0 < ls.length) (hN : ∀ s ∈ A.steps, s.t < N) : TakesU A (lat hs ls) ↔ TakesI A (lat hs ls) := ⟨takesI_of, takesU_of hL hN⟩

end Go.Proofs.YtpiacnnifdjlkabDoor

namespace Go.Proofs.YtpiacnnifdjlkabDoor

/-- A run without an end through nodes. -/
def TakesG {ν : Type} (first : List ν) (good : ν → Bool) (after : ν → List (Int × ν)) (u : Nat → Int) : Prop :=
  ∃ r : Nat → ν, r 0 ∈ first ∧ (∀ t, (u t, r (t + 1)) ∈ after (r t)) ∧ ∀ t, ∃ k, t ≤ k ∧ good (r k) = true

/-- The number of a node among those that were met. -/
def numOf {ν : Type} [DecidableEq ν] : List ν → ν → Nat
  | [], _ => 0
  | y :: r, x => if x = y then 0 else numOf r x + 1

theorem numOf_get {ν : Type} [DecidableEq ν] : ∀ {l : List ν} {x : ν}, x ∈ l → l[numOf l x]? = some x
  | [], x, h => absurd h (by simp)
  | y :: r, x, h => by
    unfold numOf
    by_cases e : x = y
    · rw [if_pos e, e]; rfl
    · rw [if_neg e, List.getElem?_cons_succ]
      exact numOf_get (by rcases List.mem_cons.1 h with h | h; exact absurd h e; exact h)

theorem numOf_lt {ν : Type} [DecidableEq ν] {l : List ν} {x : ν} (h : x ∈ l) : numOf l x < l.length := (List.getElem?_eq_some_iff.1 (numOf_get h)).1

theorem numOf_inj {ν : Type} [DecidableEq ν] {l : List ν} {x y : ν} (hx : x ∈ l) (hy : y ∈ l) (h : numOf l x = numOf l y) : x = y := by
  have h1 := numOf_get hx
  have h2 := numOf_get hy
  rw [h, h2] at h1
  exact (Option.some.inj h1).symm

theorem numOf_append {ν : Type} [DecidableEq ν] : ∀ {l : List ν} {x : ν} (r : List ν), x ∈ l → numOf (l ++ r) x = numOf l x
  | [], x, _, h => absurd h (by simp)
  | y :: l, x, r, h => by
    show (if x = y then 0 else numOf (l ++ r) x + 1) = if x = y then 0 else numOf l x + 1
    by_cases e : x = y
    · rw [if_pos e, if_pos e]
    · rw [if_neg e, if_neg e, numOf_append r (by rcases List.mem_cons.1 h with h | h; exact absurd h e; exact h)]

theorem numOf_last {ν : Type} [DecidableEq ν] : ∀ {l : List ν} {x : ν}, x ∉ l → numOf (l ++ [x]) x = l.length
  | [], x, _ => by simp [numOf]
  | y :: l, x, h => by
    show (if x = y then 0 else numOf (l ++ [x]) x + 1) = l.length + 1
    rw [if_neg (fun e => h (by simp [e])), numOf_last (fun hm => h (List.mem_cons_of_mem _ hm))]

theorem numOf_of_get {ν : Type} [DecidableEq ν] : ∀ {l : List ν} {i : Nat} {x : ν}, l.Nodup → l[i]? = some x → numOf l x = i
  | [], i, x, _, h => by simp at h
  | y :: l, 0, x, _, h => by
    have e : y = x := by simpa using h
    unfold numOf
    rw [if_pos e.symm]
  | y :: l, i + 1, x, hn, h => by
    rw [List.getElem?_cons_succ] at h
    rw [List.nodup_cons] at hn
    have hm : x ∈ l := List.mem_of_getElem? h
    unfold numOf
    rw [if_neg (fun e => hn.1 (by rw [← e]; exact hm)), numOf_of_get hn.2 h]

/-- The automaton of nodes. -/
structure OfNodes {ν : Type} [DecidableEq ν] (first : List ν) (good : ν → Bool) (after : ν → List (Int × ν)) (met : List ν) (A : Aut) : Prop where
  nodup : met.Nodup
  first_met : ∀ x ∈ first, x ∈ met
  least : ∀ P : ν → Prop, (∀ x ∈ first, P x) → (∀ x, P x → ∀ p ∈ after x, P p.2) → ∀ x ∈ met, P x
  closed : ∀ x ∈ met, ∀ p ∈ after x, p.2 ∈ met
  first : A.first = first.map (fun x => (numOf met x : Int))
  good : A.good = if met = [] then [false] else met.map good
  n : A.n = (A.good.length : Nat)
  steps : ∀ s, s ∈ A.steps ↔ ∃ i x c y, met[i]? = some x ∧ (c, y) ∈ after x ∧ s = ⟨(i : Nat), c, (numOf met y : Nat)⟩

theorem takesI_nodes {ν : Type} [DecidableEq ν] {first : List ν} {good : ν → Bool} {after : ν → List (Int × ν)} {met : List ν} {A : Aut} (h : OfNodes first good after met A) (u : Nat → Int) : TakesI A u ↔ TakesG first good after u := by
  have hgood : ∀ {i : Nat} {x : ν}, met[i]? = some x → A.good.getD i false = good x := fun {i x} hx => by
    rw [h.good, if_neg (fun e => by rw [e] at hx; simp at hx)]
    simp [List.getD, hx]
  constructor
  · rintro ⟨r, ⟨i, hi, h0⟩, hr, hg⟩
    have hfirst : ∃ x ∈ first, met[r 0]? = some x := by
      rw [h.first] at hi h0
      rw [List.length_map] at hi
      refine ⟨first[i], List.getElem_mem hi, ?_⟩
      have : r 0 = numOf met first[i] := by
        rw [← h0]
        simp [List.getD, hi]
      rw [this]
      exact numOf_get (h.first_met _ (List.getElem_mem hi))
    have hstep : ∀ t, ∃ x y, met[r t]? = some x ∧ met[r (t + 1)]? = some y ∧ (u t, y) ∈ after x := fun t => by
      obtain ⟨s, hs, e1, e2, e3⟩ := hr t
      obtain ⟨i, x, c, y, hx, hy, rfl⟩ := (h.steps s).1 hs
      have e1' : i = r t := Int.ofNat.inj e1
      have e3' : numOf met y = r (t + 1) := Int.ofNat.inj e3
      have e2' : c = u t := e2
      have hm : y ∈ met := h.closed x (List.mem_of_getElem? hx) _ hy
      refine ⟨x, y, by rw [← e1']; exact hx, by rw [← e3']; exact numOf_get hm, by rw [← e2']; exact hy⟩
    obtain ⟨x0, hx0, hm0⟩ := hfirst
    refine ⟨fun t => (met[r t]?).getD x0, by simp only [hm0, Option.getD_some]; exact hx0, fun t => ?_, fun t => ?_⟩
    · obtain ⟨x, y, hx, hy, hxy⟩ := hstep t
      simp only [hx, hy, Option.getD_some]
      exact hxy
    · obtain ⟨k, hk, hgk⟩ := hg t
      obtain ⟨x, y, hx, hy, hxy⟩ := hstep k
      refine ⟨k, hk, ?_⟩
      simp only [hx, Option.getD_some]
      rw [← hgood hx]
      exact hgk
  · rintro ⟨r, h0, hr, hg⟩
    have hm : ∀ t, r t ∈ met := fun t => by
      induction t with
      | zero => exact h.first_met _ h0
      | succ t ih => exact h.closed _ ih _ (hr t)
    refine ⟨fun t => numOf met (r t), ?_, fun t => ?_, fun t => ?_⟩
    · obtain ⟨i, hi, e⟩ := List.mem_iff_getElem.1 h0
      refine ⟨i, by rw [h.first, List.length_map]; exact hi, ?_⟩
      rw [h.first]
      simp [List.getD, hi, e]
    · exact ⟨_, (h.steps _).2 ⟨numOf met (r t), r t, u t, r (t + 1), numOf_get (hm t), hr t, rfl⟩, rfl, rfl, rfl⟩
    · obtain ⟨k, hk, hgk⟩ := hg t
      exact ⟨k, hk, by rw [hgood (numOf_get (hm k))]; exact hgk⟩

/-- A pair of states, and whether a good one of the second automaton is waited for. -/
abbrev Pair := Nat × Nat × Bool

def pGood (A : Aut) (p : Pair) : Bool := !p.2.2 && A.good.getD p.1 false
def pWait (A B : Aut) (p : Pair) : Bool := pGood A p || (p.2.2 && !(B.good.getD p.2.1 false))
def pFirst (A B : Aut) : List Pair := A.first.flatMap fun x => B.first.map fun y => ⟨x.toNat, y.toNat, false⟩
def pAfter (A B : Aut) (p : Pair) : List (Int × Pair) :=
  (A.steps.filter fun s => decide (s.f = (p.1 : Int))).flatMap fun s => ((B.steps.filter fun t => decide (t.f = (p.2.1 : Int))).filter fun t => decide (s.l = t.l)).map fun t => (s.l, ⟨s.t.toNat, t.t.toNat, pWait A B p⟩)

theorem pAfter_mem {A B : Aut} {p q : Pair} {c : Int} : (c, q) ∈ pAfter A B p ↔ ∃ s ∈ A.steps, ∃ t ∈ B.steps, s.f = (p.1 : Nat) ∧ t.f = (p.2.1 : Nat) ∧ s.l = c ∧ t.l = c ∧ q = ⟨s.t.toNat, t.t.toNat, pWait A B p⟩ := by
  unfold pAfter
  constructor
  · intro h
    obtain ⟨s, hs, h⟩ := List.mem_flatMap.1 h
    obtain ⟨t, ht, h⟩ := List.mem_map.1 h
    obtain ⟨ht, hl⟩ := List.mem_filter.1 ht
    obtain ⟨hs, h1⟩ := List.mem_filter.1 hs
    obtain ⟨ht, h2⟩ := List.mem_filter.1 ht
    have hl := of_decide_eq_true hl
    injection h with h3 h4
    exact ⟨s, hs, t, ht, of_decide_eq_true h1, of_decide_eq_true h2, h3, by rw [← hl]; exact h3, h4.symm⟩
  · rintro ⟨s, hs, t, ht, h1, h2, h3, h4, rfl⟩
    refine List.mem_flatMap.2 ⟨s, List.mem_filter.2 ⟨hs, decide_eq_true h1⟩, List.mem_map.2 ⟨t, List.mem_filter.2 ⟨List.mem_filter.2 ⟨ht, decide_eq_true h2⟩, decide_eq_true (by rw [h3, h4])⟩, by rw [h3]⟩⟩

theorem pFirst_mem {A B : Aut} {p : Pair} : p ∈ pFirst A B ↔ ∃ x ∈ A.first, ∃ y ∈ B.first, p = ⟨x.toNat, y.toNat, false⟩ := by
  unfold pFirst
  constructor
  · intro h
    obtain ⟨x, hx, h⟩ := List.mem_flatMap.1 h
    obtain ⟨y, hy, rfl⟩ := List.mem_map.1 h
    exact ⟨x, hx, y, hy, rfl⟩
  · rintro ⟨x, hx, y, hy, rfl⟩
    exact List.mem_flatMap.2 ⟨x, hx, List.mem_map.2 ⟨y, hy, rfl⟩⟩

theorem first_iff {A : Aut} {q : Nat} : (∃ i, i < A.first.length ∧ (A.first.getD i 0).toNat = q) ↔ ∃ x ∈ A.first, x.toNat = q := by
  constructor
  · rintro ⟨i, hi, rfl⟩
    exact ⟨_, getD_mem hi, rfl⟩
  · rintro ⟨x, hx, rfl⟩
    obtain ⟨i, hi, e⟩ := List.mem_iff_getElem.1 hx
    exact ⟨i, hi, by simp [List.getD, hi, e]⟩

/-- Both go by the same word: good states of both come without an end just if those that are waited for do. -/
theorem takesG_pairs {A B : Aut} (hA : ∀ s ∈ A.steps, 0 ≤ s.t) (hB : ∀ s ∈ B.steps, 0 ≤ s.t) (u : Nat → Int) : TakesG (pFirst A B) (pGood A) (pAfter A B) u ↔ TakesI A u ∧ TakesI B u := by
  constructor
  · rintro ⟨r, h0, hr, hg⟩
    obtain ⟨x, hx, y, hy, e0⟩ := pFirst_mem.1 h0
    have hst : ∀ t, stepU A (r t).1 (u t) (r (t + 1)).1 ∧ stepU B (r t).2.1 (u t) (r (t + 1)).2.1 ∧ (r (t + 1)).2.2 = pWait A B (r t) := fun t => by
      obtain ⟨s, hs, s', hs', h1, h2, h3, h4, e⟩ := pAfter_mem.1 (hr t)
      have k1 := hA s hs
      have k2 := hB s' hs'
      rw [e]
      exact ⟨⟨s, hs, h1, h3, by simp; omega⟩, ⟨s', hs', h2, h4, by simp; omega⟩, rfl⟩
    refine ⟨⟨fun t => (r t).1, first_iff.2 ⟨x, hx, by show x.toNat = (r 0).1; rw [e0]⟩, fun t => (hst t).1, fun t => ?_⟩, ⟨fun t => (r t).2.1, first_iff.2 ⟨y, hy, by show y.toNat = (r 0).2.1; rw [e0]⟩, fun t => (hst t).2.1, fun t => ?_⟩⟩
    · obtain ⟨k, hk, h⟩ := hg t
      unfold pGood at h
      rw [Bool.and_eq_true] at h
      exact ⟨k, hk, h.2⟩
    · obtain ⟨k, hk, h⟩ := hg t
      obtain ⟨k2, hk2, h2⟩ := hg (k + 1)
      -- behind k it waits; at k2 it does not
      refine Classical.byContradiction fun hn => ?_
      have hb : ∀ j, t ≤ j → B.good.getD (r j).2.1 false = false := fun j hj => by
        cases hb : B.good.getD (r j).2.1 false with
        | false => rfl
        | true => exact absurd ⟨j, hj, hb⟩ hn
      have hw : ∀ d, (r (k + 1 + d)).2.2 = true := by
        intro d
        induction d with
        | zero =>
          rw [Nat.add_zero, (hst k).2.2]
          unfold pWait
          rw [h]; rfl
        | succ d ih =>
          rw [← Nat.add_assoc, (hst (k + 1 + d)).2.2]
          unfold pWait
          rw [ih, hb _ (by omega)]
          simp
      have := hw (k2 - (k + 1))
      rw [show k + 1 + (k2 - (k + 1)) = k2 by omega] at this
      unfold pGood at h2
      rw [this] at h2
      simp at h2
  · rintro ⟨⟨ra, ha0, ha, hga⟩, ⟨rb, hb0, hb, hgb⟩⟩
    obtain ⟨x, hx, ex⟩ := first_iff.1 ha0
    obtain ⟨y, hy, ey⟩ := first_iff.1 hb0
    let wt : Nat → Bool := fun t => Nat.rec false (fun t w => pWait A B ⟨ra t, rb t, w⟩) t
    have hws : ∀ t, wt (t + 1) = pWait A B ⟨ra t, rb t, wt t⟩ := fun t => rfl
    have hfree : ∀ t, wt t = false → ∃ k, t ≤ k ∧ pGood A ⟨ra k, rb k, wt k⟩ = true := by
      intro t ht
      obtain ⟨k, hk, h⟩ := hga t
      refine Classical.byContradiction fun hn => ?_
      have hno : ∀ j, t ≤ j → pGood A ⟨ra j, rb j, wt j⟩ = false := fun j hj => by
        cases hb : pGood A ⟨ra j, rb j, wt j⟩ with
        | false => rfl
        | true => exact absurd ⟨j, hj, hb⟩ hn
      have hw : ∀ d, wt (t + d) = false := by
        intro d
        induction d with
        | zero => exact ht
        | succ d ih =>
          rw [← Nat.add_assoc, hws]
          unfold pWait
          rw [hno _ (by omega), ih]
          rfl
      have h1 := hno k hk
      have h2 := hw (k - t)
      rw [show t + (k - t) = k by omega] at h2
      unfold pGood at h1
      rw [h2] at h1
      simp only [Bool.not_false, Bool.true_and] at h1
      rw [h] at h1
      cases h1
    refine ⟨fun t => ⟨ra t, rb t, wt t⟩, pFirst_mem.2 ⟨x, hx, y, hy, by rw [ex, ey]; rfl⟩, fun t => ?_, fun t => ?_⟩
    · obtain ⟨s, hs, h1, h3, h5⟩ := ha t
      obtain ⟨s', hs', h2, h4, h6⟩ := hb t
      refine pAfter_mem.2 ⟨s, hs, s', hs', h1, h2, h3, h4, ?_⟩
      rw [h5, h6, Int.toNat_natCast, Int.toNat_natCast, ← hws]
    · cases hw : wt t with
      | false => exact hfree t hw
      | true =>
        obtain ⟨k, hk, h⟩ := hgb t
        have : ∃ j, t ≤ j ∧ wt j = false := by
          refine Classical.byContradiction fun hn => ?_
          have hall : ∀ j, t ≤ j → wt j = true := fun j hj => by
            cases hb : wt j with
            | true => rfl
            | false => exact absurd ⟨j, hj, hb⟩ hn
          have h1 := hall (k + 1) (by omega)
          rw [hws] at h1
          unfold pWait pGood at h1
          rw [hall k hk, h] at h1
          simp at h1
        obtain ⟨j, hj, hwj⟩ := this
        obtain ⟨k, hk, h⟩ := hfree j hwj
        exact ⟨k, by omega, h⟩

end Go.Proofs.YtpiacnnifdjlkabDoor
