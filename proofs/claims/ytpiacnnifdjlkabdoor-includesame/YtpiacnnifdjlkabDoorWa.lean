/-
  Ranks of a word that three states do not take: plain mathematics. Nodes are places with a state; where no way passes good states again and again, each node has a rank of at most 4 that never rises along a way, is even at good states, and no way stays at one even rank.
-/
import Derived.Test.YtpiacnnifdjlkabDoorCz
import Derived.Test.YtpiacnnifdjlkabDoorCx
/-
  Ways of letters through an automaton, and what a search for one knows: plain mathematics.
-/
namespace Go.Proofs.YtpiacnnifdjlkabDoor

/-- A row of letters leads from one state to another. -/
def wayL (A : Aut) : List Int → Nat → Nat → Prop
  | [], q, q' => q = q'
  | c :: cs, q, q' => ∃ z : Nat, (∃ s ∈ A.steps, s.f = q ∧ s.l = c ∧ s.t = z) ∧ wayL A cs z q'

theorem wayL_append {A : Aut} : ∀ {us vs : List Int} {x y z : Nat}, wayL A us x y → wayL A vs y z → wayL A (us ++ vs) x z
  | [], vs, x, y, z, h, k => by have e : x = y := h; subst e; exact k
  | c :: us, vs, x, y, z, h, k => by
    obtain ⟨u, h1, h2⟩ := h
    exact ⟨u, h1, wayL_append h2 k⟩

theorem wayL_one {A : Aut} {s : Stp} (hs : s ∈ A.steps) {x y : Nat} (hx : s.f = x) (hy : s.t = y) : wayL A [s.l] x y := ⟨y, ⟨s, hs, hx, rfl, hy⟩, rfl⟩

theorem pathU_of_way {A : Aut} {u : Nat → Int} : ∀ {us : List Int} {t x y : Nat}, wayL A us x y → (∀ j, j < us.length → u (t + j) = us.getD j 0) → pathU A u us.length t x y
  | [], t, x, y, h, _ => h
  | c :: us, t, x, y, h, k => by
    obtain ⟨z, ⟨s, hs, e1, e2, e3⟩, h2⟩ := h
    refine ⟨z, ⟨s, hs, e1, ?_, e3⟩, pathU_of_way h2 (fun j hj => ?_)⟩
    · have := k 0 (by simp)
      simp at this
      rw [this]; exact e2
    · have := k (j + 1) (by simp; omega)
      simp only [List.getD_cons_succ] at this
      rw [← this]
      congr 1
      omega

theorem way_of_pathU {A : Aut} {u : Nat → Int} : ∀ {n t x y : Nat}, pathU A u n t x y → ∃ us : List Int, us.length = n ∧ wayL A us x y
  | 0, _, _, _, h => ⟨[], rfl, h⟩
  | n + 1, t, x, y, h => by
    obtain ⟨z, ⟨s, hs, e1, e2, e3⟩, h2⟩ := h
    obtain ⟨us, hl, hw⟩ := way_of_pathU h2
    exact ⟨s.l :: us, by simp [hl], z, ⟨s, hs, e1, rfl, e3⟩, hw⟩

theorem lat_front {hs ls : List Int} {j : Nat} (h : j < hs.length) : lat hs ls j = hs.getD j 0 := by unfold lat; rw [if_pos h]

theorem lat_round {hs ls : List Int} {i j : Nat} (h : j < ls.length) : lat hs ls (hs.length + i * ls.length + j) = ls.getD j 0 := by
  unfold lat
  rw [if_neg (by omega), show hs.length + i * ls.length + j - hs.length = j + i * ls.length by omega, Nat.add_mul_mod_self_right, Nat.mod_eq_of_lt h]

/-- What leads from a first state to a good one, and from there back, is taken. -/
theorem takes_of_way {A : Aut} {hs ls : List Int} {i g : Nat} (hi : i < A.first.length) (h1 : wayL A hs (A.first.getD i 0).toNat g) (hg : A.good.getD g false = true) (h2 : wayL A ls g g) (hL : 0 < ls.length) : TakesU A (lat hs ls) :=
  ⟨i, hi, hs.length, g, ls.length, pathU_of_way h1 (fun j hj => by rw [Nat.zero_add]; exact lat_front hj), hg, hL, fun k => pathU_of_way h2 (fun j hj => lat_round hj)⟩

/-- Where a word is taken there is a good state, come to from a first one, that leads back to itself. -/
theorem way_of_takes {A : Aut} {u : Nat → Int} (h : TakesU A u) : ∃ i, i < A.first.length ∧ ∃ us vs g, wayL A us (A.first.getD i 0).toNat g ∧ A.good.getD g false = true ∧ 0 < vs.length ∧ wayL A vs g g := by
  obtain ⟨i, hi, n, q, m, h1, hg, hm, hc⟩ := h
  obtain ⟨us, _, hu⟩ := way_of_pathU h1
  obtain ⟨vs, hl, hv⟩ := way_of_pathU (hc 0)
  exact ⟨i, hi, us, vs, q, hu, hg, by omega, hv⟩

/-- What a set of states bears that holds all to which steps lead from some, and is closed. -/
theorem way_closed {A : Aut} {P : Nat → Prop} {Q : Nat → Prop} (hP : ∀ x, P x → ∀ s ∈ A.steps, s.f = (x : Nat) → ∃ y : Nat, s.t = y ∧ Q y) (hQ : ∀ x, Q x → P x) : ∀ {us : List Int} {x y : Nat}, P x → wayL A us x y → us ≠ [] → Q y
  | [], _, _, _, _, h => absurd rfl h
  | [c], x, y, hx, h, _ => by
    obtain ⟨z, ⟨s, hs, e1, _, e3⟩, h2⟩ := h
    have e : z = y := h2
    subst e
    obtain ⟨y', e, hq⟩ := hP x hx s hs e1
    have : z = y' := by omega
    rw [this]; exact hq
  | c :: d :: us, x, y, hx, h, _ => by
    obtain ⟨z, ⟨s, hs, e1, _, e3⟩, h2⟩ := h
    obtain ⟨y', e, hq⟩ := hP x hx s hs e1
    have : z = y' := by omega
    rw [← this] at hq
    exact way_closed hP hQ (hQ _ hq) h2 (by simp)

/-- The states that were met, in their order, and the steps by which they were come to. -/
structure ByOk (A : Aut) (from_ : List Int) (ord : List Nat) (by_ : Nat → Stp) : Prop where
  nodup : ord.Nodup
  step : ∀ i, i < ord.length → by_ (ord.getD i 0) ∈ A.steps ∧ (by_ (ord.getD i 0)).t = (ord.getD i 0 : Nat)
  ahead : ∀ i, i < ord.length → (by_ (ord.getD i 0)).f ∈ from_ ∨ ∃ j, j < i ∧ (by_ (ord.getD i 0)).f = (ord.getD j 0 : Nat)

theorem getD_append_left {α : Type} {xs ys : List α} {d : α} {i : Nat} (h : i < xs.length) : (xs ++ ys).getD i d = xs.getD i d := by simp [List.getD, List.getElem?_append_left h]
theorem getD_append_last {α : Type} {xs : List α} {y d : α} : (xs ++ [y]).getD xs.length d = y := by simp [List.getD]
theorem getD_mem {α : Type} {xs : List α} {d : α} {i : Nat} (h : i < xs.length) : xs.getD i d ∈ xs := by simp [List.getD, h]

def setBy (by_ : Nat → Stp) (s : Stp) : Nat → Stp := fun i => if (i : Int) = s.t then s else by_ i

theorem ByOk.meet {A : Aut} {from_ : List Int} {ord : List Nat} {by_ : Nat → Stp} (h : ByOk A from_ ord by_) {s : Stp} {t : Nat} (hs : s ∈ A.steps) (ht : s.t = t) (hn : t ∉ ord) (hf : s.f ∈ from_ ∨ ∃ q ∈ ord, s.f = (q : Nat)) : ByOk A from_ (ord ++ [t]) (setBy by_ s) := by
  have hold : ∀ i, i < ord.length → setBy by_ s ((ord ++ [t]).getD i 0) = by_ (ord.getD i 0) := fun i hi => by
    rw [getD_append_left hi]
    unfold setBy
    rw [if_neg]
    intro e
    have : ord.getD i 0 = t := by omega
    exact hn (by rw [← this]; exact getD_mem hi)
  have hnew : setBy by_ s ((ord ++ [t]).getD ord.length 0) = s := by
    rw [getD_append_last]
    unfold setBy
    rw [if_pos ht.symm]
  refine ⟨?_, fun i hi => ?_, fun i hi => ?_⟩
  · rw [List.nodup_append]
    refine ⟨h.nodup, by simp, fun a ha b hb => ?_⟩
    rw [List.mem_singleton] at hb
    subst hb
    exact fun e => hn (by rw [← e]; exact ha)
  · rw [List.length_append, List.length_singleton] at hi
    by_cases e : i = ord.length
    · subst e
      rw [hnew, getD_append_last]
      exact ⟨hs, ht⟩
    · rw [hold i (by omega), getD_append_left (by omega)]
      exact h.step i (by omega)
  · rw [List.length_append, List.length_singleton] at hi
    by_cases e : i = ord.length
    · subst e
      rw [hnew]
      rcases hf with hf | ⟨q, hq, hf⟩
      · exact Or.inl hf
      · obtain ⟨j, hj, rfl⟩ := List.mem_iff_getElem.1 hq
        refine Or.inr ⟨j, hj, ?_⟩
        rw [getD_append_left hj, hf]
        simp [List.getD, hj]
    · rw [hold i (by omega)]
      rcases h.ahead i (by omega) with h1 | ⟨j, hj, h1⟩
      · exact Or.inl h1
      · exact Or.inr ⟨j, hj, by rw [getD_append_left (by omega)]; exact h1⟩

theorem ByOk.nil (A : Aut) (from_ : List Int) (by_ : Nat → Stp) : ByOk A from_ [] by_ := ⟨List.nodup_nil, fun _ h => absurd h (Nat.not_lt_zero _), fun _ h => absurd h (Nat.not_lt_zero _)⟩

/-- What is known while a way is gone back: these letters lead on from where one stands, and there are not too many. -/
def BackAt (A : Aut) (from_ : List Int) (ord : List Nat) (end_ : Nat) (us : List Int) (q : Int) : Prop :=
  us ≠ [] ∧ us.length ≤ ord.length ∧ 0 ≤ q ∧ wayL A us.reverse q.toNat end_ ∧ (q ∈ from_ ∨ ∃ i, i < ord.length ∧ q = (ord.getD i 0 : Nat) ∧ us.length + i < ord.length)

theorem back_begin {A : Aut} {from_ : List Int} {ord : List Nat} {by_ : Nat → Stp} (hA : ∀ s ∈ A.steps, 0 ≤ s.f) (h : ByOk A from_ ord by_) {e : Nat} (he : e ∈ ord) : BackAt A from_ ord e [(by_ e).l] (by_ e).f := by
  obtain ⟨i, hi, rfl⟩ := List.mem_iff_getElem.1 he
  have hg : ord.getD i 0 = ord[i] := by simp [List.getD, hi]
  obtain ⟨h1, h2⟩ := h.step i hi
  have h3 := h.ahead i hi
  rw [hg] at h1 h2 h3
  have h0 := hA _ h1
  refine ⟨by simp, by simp; omega, h0, wayL_one h1 (by omega) h2, ?_⟩
  rcases h3 with h3 | ⟨j, hj, h3⟩
  · exact Or.inl h3
  · exact Or.inr ⟨j, by omega, h3, by simp; omega⟩

theorem back_on {A : Aut} {from_ : List Int} {ord : List Nat} {by_ : Nat → Stp} (hA : ∀ s ∈ A.steps, 0 ≤ s.f) (h : ByOk A from_ ord by_) {e : Nat} {us : List Int} {q : Int} (hb : BackAt A from_ ord e us q) (hq : q ∉ from_) : q.toNat ∈ ord ∧ us.length < ord.length ∧ BackAt A from_ ord e (us ++ [(by_ q.toNat).l]) (by_ q.toNat).f := by
  obtain ⟨_, hl, h0, hw, hor⟩ := hb
  rcases hor with hor | ⟨i, hi, rfl, hlt⟩
  · exact absurd hor hq
  rw [Int.toNat_natCast] at hw ⊢
  obtain ⟨h1, h2⟩ := h.step i hi
  have h3 := h.ahead i hi
  have h4 := hA _ h1
  refine ⟨getD_mem hi, by omega, by simp, by simp; omega, h4, ?_, ?_⟩
  · rw [List.reverse_append]
    exact wayL_append (wayL_one h1 (by omega) h2) hw
  · rcases h3 with h3 | ⟨j, hj, h3⟩
    · exact Or.inl h3
    · exact Or.inr ⟨j, by omega, h3, by simp; omega⟩

theorem back_done {A : Aut} {from_ : List Int} {ord : List Nat} {e : Nat} {us : List Int} {q : Int} (hb : BackAt A from_ ord e us q) (hq : q ∈ from_) : us.reverse ≠ [] ∧ us.reverse.length ≤ ord.length ∧ ∃ x ∈ from_, wayL A us.reverse x.toNat e :=
  ⟨by simpa using hb.1, by rw [List.length_reverse]; exact hb.2.1, q, hq, hb.2.2.2.1⟩

/-- What a search knows: those that were met, none of which is what is looked for, and that steps from the ones that were gone through lead to such. -/
structure Look (A : Aut) (N : Nat) (F : Nat → Bool) (from_ : List Int) (ord : List Nat) (by_ : Nat → Stp) (k : Nat) : Prop where
  ok : ByOk A from_ ord by_
  range : ∀ q ∈ ord, q < N
  not : ∀ q ∈ ord, F q = false
  closed : ∀ j, j < k → ∀ s ∈ A.steps, s.f = (from_ ++ ord.map (fun q : Nat => (q : Int))).getD j 0 → ∃ y ∈ ord, s.t = (y : Nat)

theorem nodup_le : ∀ (N : Nat) (l : List Nat), l.Nodup → (∀ q ∈ l, q < N) → l.length ≤ N
  | 0, l, _, h => by
    cases l with
    | nil => exact Nat.le_refl _
    | cons a l => exact absurd (h a (by simp)) (Nat.not_lt_zero _)
  | N + 1, l, hn, h => by
    have h1 := nodup_le N (l.erase N) (hn.erase N) (fun q hq => by
      have hm := (List.Nodup.mem_erase_iff hn).1 hq
      have := h q hm.2
      omega)
    have := List.length_erase (a := N) (l := l)
    split at this <;> omega

theorem Look.few {A : Aut} {N : Nat} {F : Nat → Bool} {from_ : List Int} {ord : List Nat} {by_ : Nat → Stp} {k : Nat} (h : Look A N F from_ ord by_ k) : ord.length ≤ N := by
  exact nodup_le N ord h.ok.nodup h.range

theorem Look.done {A : Aut} {N : Nat} {F : Nat → Bool} {from_ : List Int} {ord : List Nat} {by_ : Nat → Stp} {k : Nat} (h : Look A N F from_ ord by_ k) (hk : from_.length + ord.length ≤ k) (h0 : ∀ x ∈ from_, 0 ≤ x) {x : Int} (hx : x ∈ from_) {us : List Int} {y : Nat} (hw : wayL A us x.toNat y) (hne : us ≠ []) : F y = false := by
  refine h.not y (way_closed (P := fun z : Nat => (z : Int) ∈ from_ ++ ord.map (fun q : Nat => (q : Int))) (Q := fun z => z ∈ ord) ?_ ?_ ?_ hw hne)
  · intro z hz s hs e
    obtain ⟨j, hj, hjz⟩ := List.mem_iff_getElem.1 hz
    obtain ⟨y, hy, e2⟩ := h.closed j (by simp at hj; omega) s hs (by rw [e, ← hjz]; simp only [List.getD, List.getElem?_eq_getElem hj, Option.getD_some])
    exact ⟨y, e2, hy⟩
  · intro z hz
    exact List.mem_append_right _ (List.mem_map.2 ⟨z, hz, rfl⟩)
  · refine List.mem_append_left _ ?_
    have := h0 x hx
    rw [show ((x.toNat : Nat) : Int) = x by omega]
    exact hx

end Go.Proofs.YtpiacnnifdjlkabDoor

/-
  Words without an end: a run without an end that comes to good states again and again; of a lasso that is as much as a good spot that leads back to itself.
-/
namespace Go.Proofs.YtpiacnnifdjlkabDoor

/-- A step from a state, by a letter, to a state. -/
def stepU (A : Aut) (x : Nat) (c : Int) (y : Nat) : Prop := ∃ s ∈ A.steps, s.f = x ∧ s.l = c ∧ s.t = y

/-- A run without an end that comes to good states again and again. -/
def TakesI (A : Aut) (u : Nat → Int) : Prop :=
  ∃ r : Nat → Nat, (∃ i, i < A.first.length ∧ (A.first.getD i 0).toNat = r 0) ∧ (∀ t, stepU A (r t) (u t) (r (t + 1))) ∧ ∀ t, ∃ k, t ≤ k ∧ A.good.getD (r k) false = true

theorem pathU_fun {A : Aut} {u : Nat → Int} : ∀ {n t x y : Nat}, pathU A u n t x y → ∃ f : Nat → Nat, f 0 = x ∧ f n = y ∧ ∀ j, j < n → stepU A (f j) (u (t + j)) (f (j + 1))
  | 0, t, x, y, h => ⟨fun _ => x, rfl, h, fun j hj => absurd hj (Nat.not_lt_zero _)⟩
  | n + 1, t, x, y, h => by
    obtain ⟨z, hz, h2⟩ := h
    obtain ⟨f, f0, fn, hf⟩ := pathU_fun h2
    refine ⟨fun j => if j = 0 then x else f (j - 1), rfl, by simpa using fn, fun j hj => ?_⟩
    dsimp only
    by_cases e : j = 0
    · subst e
      simp only [if_true, Nat.add_zero, Nat.zero_add, Nat.add_one_ne_zero, if_false, Nat.sub_self, f0]
      exact hz
    · have := hf (j - 1) (by omega)
      rw [if_neg e, if_neg (by omega), show j + 1 - 1 = j - 1 + 1 by omega, show t + j = t + 1 + (j - 1) by omega]
      exact this

theorem pathU_of_fun {A : Aut} {u : Nat → Int} {f : Nat → Nat} : ∀ {n t : Nat}, (∀ j, j < n → stepU A (f (t + j)) (u (t + j)) (f (t + j + 1))) → pathU A u n t (f t) (f (t + n))
  | 0, t, _ => rfl
  | n + 1, t, h => by
    refine ⟨f (t + 1), h 0 (by omega), ?_⟩
    have := pathU_of_fun (f := f) (u := u) (A := A) (n := n) (t := t + 1) (fun j hj => by have := h (j + 1) (by omega); rwa [show t + (j + 1) = t + 1 + j by omega] at this)
    rwa [show t + 1 + n = t + (n + 1) by omega] at this

theorem takesI_of {A : Aut} {u : Nat → Int} (h : TakesU A u) : TakesI A u := by
  obtain ⟨i, hi, n, q, m, h1, hg, hm, hc⟩ := h
  obtain ⟨f, f0, fn, hf⟩ := pathU_fun h1
  have hex := fun j => pathU_fun (hc j)
  obtain ⟨g, hgg⟩ : ∃ g : Nat → Nat → Nat, ∀ j, g j 0 = q ∧ g j m = q ∧ ∀ i, i < m → stepU A (g j i) (u (n + j * m + i)) (g j (i + 1)) := ⟨fun j => Classical.choose (hex j), fun j => Classical.choose_spec (hex j)⟩
  have hg0' : ∀ j, g j 0 = q := fun j => (hgg j).1
  have hgm' : ∀ j, g j m = q := fun j => (hgg j).2.1
  have hgs' : ∀ j i, i < m → stepU A (g j i) (u (n + j * m + i)) (g j (i + 1)) := fun j => (hgg j).2.2
  refine ⟨fun t => if t < n then f t else g ((t - n) / m) ((t - n) % m), ⟨i, hi, ?_⟩, fun t => ?_, fun t => ?_⟩
  · by_cases h0 : 0 < n
    · simp only [h0, if_true, f0]
    · have : n = 0 := by omega
      subst this
      simp only [Nat.lt_irrefl, if_false, Nat.sub_self, Nat.zero_div, Nat.zero_mod, hg0']
      rw [← fn, f0]
  · dsimp only
    by_cases ht : t < n
    · rw [if_pos ht]
      have h2 := hf t ht
      rw [Nat.zero_add] at h2
      by_cases ht1 : t + 1 < n
      · rw [if_pos ht1]; exact h2
      · rw [if_neg ht1, show t + 1 - n = 0 by omega, Nat.zero_div, Nat.zero_mod, hg0']
        rw [show t + 1 = n by omega, fn] at h2
        exact h2
    · rw [if_neg ht, if_neg (by omega), show t + 1 - n = t - n + 1 by omega]
      have hd := Nat.div_add_mod (t - n) m
      have hl := Nat.mod_lt (t - n) hm
      have h2 := hgs' ((t - n) / m) ((t - n) % m) hl
      rw [show n + (t - n) / m * m + (t - n) % m = t by rw [Nat.mul_comm]; omega] at h2
      by_cases e : (t - n) % m + 1 = m
      · have e1 : (t - n + 1) % m = 0 := by
          rw [Nat.add_mod]
          by_cases h1 : m = 1
          · subst h1; exact Nat.mod_one _
          · rw [Nat.mod_eq_of_lt (show 1 < m by omega), e, Nat.mod_self]
        rw [e, hgm'] at h2
        rw [e1, hg0']
        exact h2
      · have e1 : (t - n + 1) % m = (t - n) % m + 1 := by
          rw [Nat.add_mod, Nat.mod_eq_of_lt (show 1 < m by omega), Nat.mod_eq_of_lt (by omega)]
        have e2 : (t - n + 1) / m = (t - n) / m := by
          have h3 := Nat.div_add_mod (t - n + 1) m
          rw [e1] at h3
          have h4 : m * ((t - n + 1) / m) = m * ((t - n) / m) := by omega
          exact Nat.eq_of_mul_eq_mul_left hm h4
        rw [e1, e2]
        exact h2
  · refine ⟨n + t * m, Nat.le_trans (Nat.le_mul_of_pos_right t hm) (Nat.le_add_left _ _), ?_⟩
    dsimp only
    rw [if_neg (by omega), Nat.add_sub_cancel_left, Nat.mul_mod_left, hg0']
    exact hg

/-- Of more things than there are kinds two are of one kind. -/
theorem two_alike {M : Nat} (c : Nat → Nat) (h : ∀ i, c i < M) : ∃ i j, i < j ∧ c i = c j := by
  refine Classical.byContradiction fun hn => ?_
  have hinj : ∀ i j, c i = c j → i = j := fun i j e => by
    rcases Nat.lt_trichotomy i j with h1 | h1 | h1
    · exact absurd ⟨i, j, h1, e⟩ hn
    · exact h1
    · exact absurd ⟨j, i, h1, e.symm⟩ hn
  have h1 := nodup_le M ((List.range (M + 1)).map c) (by
    rw [List.Nodup, List.pairwise_map]
    exact List.Pairwise.imp (fun hne e => hne (hinj _ _ e)) (List.nodup_range (n := M + 1))) (fun q hq => by
    obtain ⟨i, _, rfl⟩ := List.mem_map.1 hq
    exact h i)
  simp at h1
  omega

theorem lat_period {hs ls : List Int} {t : Nat} (ht : hs.length ≤ t) (k : Nat) : lat hs ls (t + k * ls.length) = lat hs ls t := by
  unfold lat
  rw [if_neg (by omega), if_neg (by omega), show t + k * ls.length - hs.length = t - hs.length + k * ls.length by omega, Nat.add_mul_mod_self_right]

theorem takesU_of {A : Aut} {hs ls : List Int} {N : Nat} (hL : 0 < ls.length) (hN : ∀ s ∈ A.steps, s.t < N) (h : TakesI A (lat hs ls)) : TakesU A (lat hs ls) := by
  obtain ⟨r, ⟨i, hi, h0⟩, hr, hg⟩ := h
  -- good times, one after the other, behind Head
  have hnext := fun t => hg t
  let nx : Nat → Nat := fun t => Classical.choose (hnext t)
  have hnx : ∀ t, t ≤ nx t ∧ A.good.getD (r (nx t)) false = true := fun t => Classical.choose_spec (hnext t)
  let T : Nat → Nat := fun k => Nat.rec (nx (hs.length + 1)) (fun _ t => nx (t + 1)) k
  have hT1 : ∀ k, T k < T (k + 1) := fun k => (hnx (T k + 1)).1
  have hTm : ∀ i j, i < j → T i < T j := by
    intro i j hij
    induction j with
    | zero => omega
    | succ j ih =>
      have := hT1 j
      by_cases e : i = j
      · subst e; exact this
      · have := ih (by omega); omega
  have hTg : ∀ k, A.good.getD (r (T k)) false = true := fun k => by
    cases k with
    | zero => exact (hnx (hs.length + 1)).2
    | succ k => exact (hnx (T k + 1)).2
  have hT0 : ∀ k, hs.length + 1 ≤ T k := fun k => by
    have h1 : hs.length + 1 ≤ T 0 := (hnx (hs.length + 1)).1
    by_cases e : k = 0
    · subst e; exact h1
    · have := hTm 0 k (by omega); omega
  have hrN : ∀ t, 0 < t → r t < N := fun t ht => by
    obtain ⟨s, hs', _, _, e⟩ := hr (t - 1)
    have := hN s hs'
    rw [show t - 1 + 1 = t by omega] at e
    omega
  obtain ⟨a, b, hab, e⟩ := two_alike (M := N * ls.length) (fun k => r (T k) * ls.length + T k % ls.length) (fun k => by
    have h1 := hrN (T k) (by have := hT0 k; omega)
    have h2 := Nat.mod_lt (T k) hL
    have h3 : (r (T k) + 1) * ls.length ≤ N * ls.length := Nat.mul_le_mul_right _ h1
    rw [Nat.succ_mul] at h3
    show r (T k) * ls.length + T k % ls.length < N * ls.length
    omega)
  have e1 : r (T a) = r (T b) := by
    have h1 : (r (T a) * ls.length + T a % ls.length) / ls.length = (r (T b) * ls.length + T b % ls.length) / ls.length := congrArg (· / ls.length) e
    rw [Nat.mul_comm, Nat.mul_add_div hL, Nat.mul_comm, Nat.mul_add_div hL, Nat.div_eq_of_lt (Nat.mod_lt _ hL), Nat.div_eq_of_lt (Nat.mod_lt _ hL)] at h1
    omega
  have e2 : T a % ls.length = T b % ls.length := by
    have h1 : r (T a) * ls.length + T a % ls.length = r (T b) * ls.length + T b % ls.length := e
    rw [e1] at h1
    omega
  have hlt := hTm a b hab
  have hTa := hT0 a
  obtain ⟨p, hp⟩ : ∃ p, T b - T a = p * ls.length := by
    refine ⟨(T b - T a) / ls.length, ?_⟩
    have h1 : (T b - T a) % ls.length = 0 := by
      have h2 := Nat.div_add_mod (T a) ls.length
      have h3 := Nat.div_add_mod (T b) ls.length
      have h4 : T b - T a = ls.length * (T b / ls.length) - ls.length * (T a / ls.length) := by omega
      rw [h4, ← Nat.mul_sub, Nat.mul_mod_right]
    have := Nat.div_add_mod (T b - T a) ls.length
    rw [h1, Nat.add_zero, Nat.mul_comm] at this
    exact this.symm
  refine ⟨i, hi, T a, r (T a), T b - T a, ?_, hTg a, by omega, fun j => ?_⟩
  · have := pathU_of_fun (f := r) (u := lat hs ls) (A := A) (n := T a) (t := 0) (fun j _ => by rw [Nat.zero_add]; exact hr j)
    rw [Nat.zero_add] at this
    rw [h0]
    exact this
  · have hsh : ∀ j, j < T b - T a → stepU A (r (T a + j)) (lat hs ls (T a + j)) (r (T a + j + 1)) := fun j _ => hr (T a + j)
    have h1 := pathU_of_fun (f := fun x => r (x - (T a + j * (T b - T a)) + T a)) (u := lat hs ls) (A := A) (n := T b - T a) (t := T a + j * (T b - T a)) (fun k hk => by
      have h2 := hr (T a + k)
      rw [show T a + j * (T b - T a) + k - (T a + j * (T b - T a)) + T a = T a + k by omega, show T a + j * (T b - T a) + k + 1 - (T a + j * (T b - T a)) + T a = T a + k + 1 by omega]
      have h3 := lat_period (hs := hs) (ls := ls) (t := T a + k) (by omega) (j * p)
      rw [show T a + j * (T b - T a) + k = T a + k + j * p * ls.length by rw [hp, Nat.mul_assoc]; omega, h3]
      exact h2)
    simp only [Nat.sub_self, Nat.zero_add] at h1
    rw [show T a + j * (T b - T a) + (T b - T a) - (T a + j * (T b - T a)) + T a = T b by omega, ← e1] at h1
    exact h1

theorem takes_inf {A : Aut} {hs ls : List Int} {N : Nat} (hL : 0 < ls.length) (hN : ∀ s ∈ A.steps, s.t < N) : TakesU A (lat hs ls) ↔ TakesI A (lat hs ls) := ⟨takesI_of, takesU_of hL hN⟩

end Go.Proofs.YtpiacnnifdjlkabDoor

namespace Go.Proofs.YtpiacnnifdjlkabDoor

/-- A way without an end, within some nodes. -/
def RunW (E : Nat → Nat → Nat → Prop) (G : Nat → Nat → Prop) (i : Nat) (f : Nat → Nat) : Prop := ∀ k, G (i + k) (f k) ∧ E (i + k) (f k) (f (k + 1))

def InfW (E : Nat → Nat → Nat → Prop) (G : Nat → Nat → Prop) (i q : Nat) : Prop := ∃ f, f 0 = q ∧ RunW E G i f

/-- A way with an end, within some nodes. -/
def PathW (E : Nat → Nat → Nat → Prop) (G : Nat → Nat → Prop) : Nat → Nat → Nat → Nat → Prop
  | 0, _, q, r => q = r
  | n + 1, i, q, r => ∃ q', E i q q' ∧ G (i + 1) q' ∧ PathW E G n (i + 1) q' r

/-- Within some nodes none that is good is come to. -/
def FreeW (E : Nat → Nat → Nat → Prop) (good : Nat → Bool) (G : Nat → Nat → Prop) (i q : Nat) : Prop := G i q ∧ ∀ n r, PathW E G n i q r → good r = false

section
variable {E : Nat → Nat → Nat → Prop} {good : Nat → Bool}

theorem RunW.tail {G : Nat → Nat → Prop} {i : Nat} {f : Nat → Nat} (h : RunW E G i f) (m : Nat) : RunW E G (i + m) (fun k => f (m + k)) := fun k => by
  have := h (m + k)
  rw [← Nat.add_assoc] at this
  exact this

theorem RunW.inf {G : Nat → Nat → Prop} {i : Nat} {f : Nat → Nat} (h : RunW E G i f) (k : Nat) : InfW E G (i + k) (f k) := ⟨fun j => f (k + j), rfl, h.tail k⟩

theorem RunW.mono {G H : Nat → Nat → Prop} (hs : ∀ i q, G i q → H i q) {i : Nat} {f : Nat → Nat} (h : RunW E G i f) : RunW E H i f := fun k => ⟨hs _ _ (h k).1, (h k).2⟩

theorem RunW.cons {G : Nat → Nat → Prop} {i q : Nat} {f : Nat → Nat} (h : RunW E G (i + 1) f) (hq : G i q) (he : E i q (f 0)) : RunW E G i (fun k => match k with | 0 => q | k + 1 => f k) := fun k => by
  cases k with
  | zero => exact ⟨hq, he⟩
  | succ k =>
    have := h k
    rw [show i + (k + 1) = i + 1 + k by omega]
    exact this

theorem InfW.in {G : Nat → Nat → Prop} {i q : Nat} (h : InfW E G i q) : G i q := by
  obtain ⟨f, h0, h⟩ := h
  have := (h 0).1
  rw [h0] at this
  exact this

theorem InfW.step {G : Nat → Nat → Prop} {i q : Nat} (h : InfW E G i q) : ∃ q', E i q q' ∧ InfW E G (i + 1) q' := by
  obtain ⟨f, h0, h⟩ := h
  refine ⟨f 1, ?_, h.inf 1⟩
  have := (h 0).2
  rw [h0] at this
  exact this

theorem InfW.of_step {G : Nat → Nat → Prop} {i q q' : Nat} (hq : G i q) (he : E i q q') (h : InfW E G (i + 1) q') : InfW E G i q := by
  obtain ⟨f, h0, h⟩ := h
  exact ⟨_, rfl, h.cons hq (by rw [h0]; exact he)⟩

theorem least_of {P : Nat → Prop} : ∀ {n : Nat}, P n → ∃ m, m ≤ n ∧ P m ∧ ∀ k, k < m → ¬ P k := by
  intro n
  induction n using Nat.strongRecOn with
  | ind n ih =>
    intro h
    by_cases hex : ∃ k, k < n ∧ P k
    · obtain ⟨k, hk, hp⟩ := hex
      obtain ⟨m, h1, h2, h3⟩ := ih k hk hp
      exact ⟨m, by omega, h2, h3⟩
    · exact ⟨n, Nat.le_refl _, h, fun k hk hp => hex ⟨k, hk, hp⟩⟩

/-- Where from each node a good one is come to, and each has one behind it, there is a way that passes good ones again and again. -/
theorem good_run {I : Nat → Nat → Prop} (hs : ∀ i q, I i q → ∃ q', E i q q' ∧ I (i + 1) q') (hr : ∀ i q, I i q → ∃ n r, PathW E I n i q r ∧ good r = true) {i q : Nat} (h : I i q) :
    ∃ f, f 0 = q ∧ RunW E I i f ∧ ∀ k, ∃ k', k ≤ k' ∧ good (f k') = true := by
  have key : ∀ p : Nat × Nat, ∃ q', I p.1 p.2 → E p.1 p.2 q' ∧ I (p.1 + 1) q' ∧ ∀ n, (∃ r, PathW E I (n + 1) p.1 p.2 r ∧ good r = true) → (∀ m, m < n + 1 → ¬ ∃ r, PathW E I m p.1 p.2 r ∧ good r = true) → ∃ r, PathW E I n (p.1 + 1) q' r ∧ good r = true := by
    rintro ⟨i, q⟩
    by_cases hI : I i q
    · obtain ⟨n, r, hp, hg⟩ := hr i q hI
      obtain ⟨m, _, ⟨r, hp, hg⟩, hm⟩ := least_of (P := fun n => ∃ r, PathW E I n i q r ∧ good r = true) ⟨r, hp, hg⟩
      cases m with
      | zero =>
        obtain ⟨q', h1, h2⟩ := hs i q hI
        exact ⟨q', fun _ => ⟨h1, h2, fun n _ hn => absurd ⟨r, hp, hg⟩ (hn 0 (by omega))⟩⟩
      | succ m =>
        obtain ⟨q', h1, h2, h3⟩ := hp
        refine ⟨q', fun _ => ⟨h1, h2, fun n hn1 hn2 => ?_⟩⟩
        have : n = m := by
          rcases Nat.lt_trichotomy n m with h | h | h
          · exact absurd hn1 (hm (n + 1) (by omega))
          · exact h
          · exact absurd ⟨r, ⟨q', h1, h2, h3⟩, hg⟩ (hn2 (m + 1) (by omega))
        subst this
        exact ⟨r, h3, hg⟩
    · exact ⟨0, fun h => absurd h hI⟩
  obtain ⟨σ, hσ⟩ : ∃ σ : Nat × Nat → Nat, ∀ p : Nat × Nat, I p.1 p.2 → E p.1 p.2 (σ p) ∧ I (p.1 + 1) (σ p) ∧ ∀ n, (∃ r, PathW E I (n + 1) p.1 p.2 r ∧ good r = true) → (∀ m, m < n + 1 → ¬ ∃ r, PathW E I m p.1 p.2 r ∧ good r = true) → ∃ r, PathW E I n (p.1 + 1) (σ p) r ∧ good r = true :=
    ⟨fun p => Classical.choose (key p), fun p => Classical.choose_spec (key p)⟩
  obtain ⟨f, f0, fs⟩ : ∃ f : Nat → Nat, f 0 = q ∧ ∀ k, f (k + 1) = σ (i + k, f k) := ⟨fun k => Nat.rec q (fun k x => σ (i + k, x)) k, rfl, fun _ => rfl⟩
  have hI : ∀ k, I (i + k) (f k) := by
    intro k
    induction k with
    | zero => rw [f0]; exact h
    | succ k ih => rw [fs]; exact (hσ (i + k, f k) ih).2.1
  refine ⟨f, f0, fun k => ⟨hI k, by rw [fs]; exact (hσ (i + k, f k) (hI k)).1⟩, fun k => ?_⟩
  have claim : ∀ n k, (∃ r, PathW E I n (i + k) (f k) r ∧ good r = true) → ∃ k', k ≤ k' ∧ good (f k') = true := by
    intro n
    induction n using Nat.strongRecOn with
    | ind n ih =>
      intro k hk
      obtain ⟨m, hmn, ⟨r, hp, hg⟩, hm⟩ := least_of (P := fun n => ∃ r, PathW E I n (i + k) (f k) r ∧ good r = true) hk
      cases m with
      | zero =>
        have e : f k = r := hp
        exact ⟨k, Nat.le_refl _, by rw [e]; exact hg⟩
      | succ m =>
        obtain ⟨k', h1, h2⟩ := ih m (by omega) (k + 1) (by
          rw [fs]
          exact (hσ (i + k, f k) (hI k)).2.2 m ⟨r, hp, hg⟩ hm)
        exact ⟨k', by omega, h2⟩
  obtain ⟨n, r, hp, hg⟩ := hr _ _ (hI k)
  exact claim n k ⟨r, hp, hg⟩

theorem PathW.snoc_free {G : Nat → Nat → Prop} {i q q' : Nat} (h : FreeW E good G i q) (he : E i q q') (hq : G (i + 1) q') : FreeW E good G (i + 1) q' := ⟨hq, fun n r hp => h.2 (n + 1) r ⟨q', he, hq, hp⟩⟩

/-- Where ways without an end lie within some nodes, and none passes good ones again and again, there is from some place on, everywhere, a node from which none that is good is come to. -/
theorem free_late {G : Nat → Nat → Prop} (hno : ∀ i f, RunW E G i f → ¬ ∀ k, ∃ k', k ≤ k' ∧ good (f k') = true) {i q : Nat} (h : InfW E G i q) : ∃ j0, ∀ j, j0 ≤ j → ∃ r, FreeW E good (InfW E G) j r := by
  have hex : ∃ i q, FreeW E good (InfW E G) i q := by
    by_cases hh : ∃ i q, FreeW E good (InfW E G) i q
    · exact hh
    · exfalso
      obtain ⟨f, _, h2, h3⟩ := good_run (E := E) (good := good) (I := InfW E G) (fun i q hq => hq.step) (fun i q hq => by
        by_cases hc : ∃ n r, PathW E (InfW E G) n i q r ∧ good r = true
        · exact hc
        · refine absurd ⟨i, q, hq, fun n r hp => ?_⟩ hh
          cases hg : good r with
          | false => rfl
          | true => exact absurd ⟨n, r, hp, hg⟩ hc) h
      exact hno i f (h2.mono fun i q hq => hq.in) h3
  obtain ⟨j0, q0, h0⟩ := hex
  obtain ⟨f, f0, hf⟩ := h0.1
  have claim : ∀ k, FreeW E good (InfW E G) (j0 + k) (f k) := by
    intro k
    induction k with
    | zero => rw [f0]; exact h0
    | succ k ih => exact PathW.snoc_free ih (hf k).2 (hf.inf (k + 1))
  exact ⟨j0, fun j hj => ⟨f (j - j0), by have := claim (j - j0); rwa [show j0 + (j - j0) = j by omega] at this⟩⟩

open Classical in
/-- Ranks, where three states, one of them good, don't take a word. -/
theorem ranks_exist {V : Nat → Nat → Prop} (h3 : ∀ i q, V i q → q < 3) {g : Nat} (hg3 : g < 3) (hg : good g = true) (hno : ∀ i f, RunW E V i f → ¬ ∀ k, ∃ k', k ≤ k' ∧ good (f k') = true) :
    ∃ rk : Nat → Nat → Nat, (∀ i q, rk i q ≤ 4) ∧ (∀ i q q', V i q → E i q q' → rk (i + 1) q' ≤ rk i q) ∧ (∀ i q, V i q → good q = true → rk i q % 2 = 0) ∧ (∀ i f r, RunW E V i f → r % 2 = 0 → ¬ ∀ k, rk (i + k) (f k) = r) := by
  obtain ⟨I0, hI0⟩ : ∃ I0, I0 = InfW E V := ⟨_, rfl⟩
  obtain ⟨F0, hF0⟩ : ∃ F0, F0 = FreeW E good I0 := ⟨_, rfl⟩
  obtain ⟨H1, hH1⟩ : ∃ H1 : Nat → Nat → Prop, H1 = fun i q => I0 i q ∧ ¬ F0 i q := ⟨_, rfl⟩
  obtain ⟨I1, hI1⟩ : ∃ I1, I1 = InfW E H1 := ⟨_, rfl⟩
  obtain ⟨F1, hF1⟩ : ∃ F1, F1 = FreeW E good I1 := ⟨_, rfl⟩
  obtain ⟨H2, hH2⟩ : ∃ H2 : Nat → Nat → Prop, H2 = fun i q => I1 i q ∧ ¬ F1 i q := ⟨_, rfl⟩
  have v0 : ∀ i q, I0 i q → V i q := fun i q h => by rw [hI0] at h; exact h.in
  have s1 : ∀ i q, H1 i q → I0 i q ∧ ¬ F0 i q := fun i q h => by rw [hH1] at h; exact h
  have v1 : ∀ i q, H1 i q → V i q := fun i q h => v0 i q (s1 i q h).1
  have i1 : ∀ i q, I1 i q → H1 i q := fun i q h => by rw [hI1] at h; exact h.in
  have s2 : ∀ i q, H2 i q → I1 i q ∧ ¬ F1 i q := fun i q h => by rw [hH2] at h; exact h
  have v2 : ∀ i q, H2 i q → V i q := fun i q h => v1 i q (i1 i q (s2 i q h).1)
  have no2 : ∀ i q, ¬ InfW E H2 i q := by
    intro i q h
    have k2 := free_late (good := good) (fun i f hf => hno i f (hf.mono v2)) h
    have k1 : ∃ j0, ∀ j, j0 ≤ j → ∃ r, F1 j r := by
      rw [hF1, hI1]
      refine free_late (good := good) (fun i f hf => hno i f (hf.mono v1)) (i := i) (q := q) ?_
      have := (s2 i q h.in).1
      rw [hI1] at this
      exact this
    have k0 : ∃ j0, ∀ j, j0 ≤ j → ∃ r, F0 j r := by
      rw [hF0, hI0]
      refine free_late (good := good) hno (i := i) (q := q) ?_
      have := (s1 i q (i1 i q (s2 i q h.in).1)).1
      rw [hI0] at this
      exact this
    obtain ⟨j2, k2⟩ := k2
    obtain ⟨j1, k1⟩ := k1
    obtain ⟨j0, k0⟩ := k0
    obtain ⟨r2, h2⟩ := k2 (j0 + j1 + j2) (by omega)
    obtain ⟨r1, h1⟩ := k1 (j0 + j1 + j2) (by omega)
    obtain ⟨r0, h0⟩ := k0 (j0 + j1 + j2) (by omega)
    have a2 : H2 (j0 + j1 + j2) r2 := h2.1.in
    have a1 : I1 (j0 + j1 + j2) r1 := by rw [hF1] at h1; exact h1.1
    have a0 : I0 (j0 + j1 + j2) r0 := by rw [hF0] at h0; exact h0.1
    have b2 := h3 _ _ (v2 _ _ a2)
    have b1 := h3 _ _ (v1 _ _ (i1 _ _ a1))
    have b0 := h3 _ _ (v0 _ _ a0)
    have n21 : r2 ≠ r1 := fun e => (s2 _ _ a2).2 (by rw [e]; exact h1)
    have n20 : r2 ≠ r0 := fun e => (s1 _ _ (i1 _ _ (s2 _ _ a2).1)).2 (by rw [e]; exact h0)
    have n10 : r1 ≠ r0 := fun e => (s1 _ _ (i1 _ _ a1)).2 (by rw [e]; exact h0)
    have g2 : good r2 = false := h2.2 0 r2 rfl
    have g1 : good r1 = false := by rw [hF1] at h1; exact h1.2 0 r1 rfl
    have g0 : good r0 = false := by rw [hF0] at h0; exact h0.2 0 r0 rfl
    have : g = r0 ∨ g = r1 ∨ g = r2 := by omega
    rcases this with rfl | rfl | rfl
    · rw [g0] at hg; cases hg
    · rw [g1] at hg; cases hg
    · rw [g2] at hg; cases hg
  refine ⟨fun i q => if I0 i q then (if F0 i q then 1 else if I1 i q then (if F1 i q then 3 else 4) else 2) else 0, fun i q => ?_, fun i q q' hv he => ?_, fun i q hv hgq => ?_, fun i f r hf hr hc => ?_⟩
  · dsimp only
    split
    · split
      · omega
      · split
        · split <;> omega
        · omega
    · omega
  · dsimp only
    by_cases c0 : I0 i q
    · rw [if_pos c0]
      by_cases c1 : F0 i q
      · rw [if_pos c1]
        by_cases d0 : I0 (i + 1) q'
        · have d1 : F0 (i + 1) q' := by rw [hF0] at c1 ⊢; exact PathW.snoc_free c1 he d0
          rw [if_pos d0, if_pos d1]
          omega
        · rw [if_neg d0]; omega
      · rw [if_neg c1]
        have ch : H1 i q := by rw [hH1]; exact ⟨c0, c1⟩
        by_cases c2 : I1 i q
        · rw [if_pos c2]
          by_cases c3 : F1 i q
          · rw [if_pos c3]
            by_cases d2 : I1 (i + 1) q'
            · have d3 : F1 (i + 1) q' := by rw [hF1] at c3 ⊢; exact PathW.snoc_free c3 he d2
              rw [if_pos d2, if_pos d3]
              split
              · split <;> omega
              · omega
            · rw [if_neg d2]
              split
              · split <;> omega
              · omega
          · rw [if_neg c3]
            split
            · split
              · omega
              · split
                · split <;> omega
                · omega
            · omega
        · rw [if_neg c2]
          have d2 : ¬ I1 (i + 1) q' := fun h => c2 (by rw [hI1] at h ⊢; exact InfW.of_step ch he h)
          rw [if_neg d2]
          split
          · split <;> omega
          · omega
    · have d0 : ¬ I0 (i + 1) q' := fun h => c0 (by rw [hI0] at h ⊢; exact InfW.of_step hv he h)
      rw [if_neg c0, if_neg d0]
      omega
  · dsimp only
    split
    · split
      · rename_i h
        rw [hF0] at h
        have := h.2 0 q rfl
        rw [hgq] at this
        cases this
      · split
        · split
          · rename_i h
            rw [hF1] at h
            have := h.2 0 q rfl
            rw [hgq] at this
            cases this
          · rfl
        · rfl
    · rfl
  · dsimp only at hc
    have hc0 := hc 0
    by_cases c0 : I0 (i + 0) (f 0)
    · rw [if_pos c0] at hc0
      by_cases c1 : F0 (i + 0) (f 0)
      · rw [if_pos c1] at hc0; omega
      · rw [if_neg c1] at hc0
        by_cases c2 : I1 (i + 0) (f 0)
        · rw [if_pos c2] at hc0
          by_cases c3 : F1 (i + 0) (f 0)
          · rw [if_pos c3] at hc0; omega
          · rw [if_neg c3] at hc0
            refine no2 i (f 0) ⟨f, rfl, fun k => ⟨?_, (hf k).2⟩⟩
            have := hc k
            rw [hH2]
            split at this
            · split at this
              · omega
              · split at this
                · split at this
                  · omega
                  · rename_i h2 h3; exact ⟨h2, h3⟩
                · omega
            · omega
        · rw [if_neg c2] at hc0
          refine c2 ?_
          rw [hI1]
          refine ⟨f, rfl, fun k => ⟨?_, (hf k).2⟩⟩
          have := hc k
          rw [hH1]
          split at this
          · split at this
            · omega
            · rename_i h1 h2; exact ⟨h1, h2⟩
          · omega
    · refine c0 ?_
      rw [hI0]
      exact ⟨f, rfl, hf⟩
end

end Go.Proofs.YtpiacnnifdjlkabDoor
