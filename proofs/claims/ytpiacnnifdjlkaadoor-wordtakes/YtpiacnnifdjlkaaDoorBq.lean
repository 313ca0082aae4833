/-
  Plain facts on looking through a graph as deep as one can first: what is kept while one goes, and what is known when nothing was found.
-/
import Derived.Test.YtpiacnnifdjlkaaDoorBp
namespace Go.Proofs.YtpiacnnifdjlkaaDoor

abbrev Spot := Nat × Nat

/-- n steps lead from x to y. -/
def goN (E : Spot → Spot → Prop) : Nat → Spot → Spot → Prop
  | 0, x, y => x = y
  | n + 1, x, y => ∃ z, E x z ∧ goN E n z y

def Leads (E : Spot → Spot → Prop) (x y : Spot) : Prop := ∃ n, goN E n x y

/-- One step or more. -/
def LeadsOn (E : Spot → Spot → Prop) (x y : Spot) : Prop := ∃ n, goN E (n + 1) x y

section
variable {E : Spot → Spot → Prop}

theorem goN_trans {m n : Nat} {x y z : Spot} (h : goN E m x y) (k : goN E n y z) : goN E (m + n) x z := by
  induction m generalizing x with
  | zero => rw [Nat.zero_add]; have e : x = y := h; rw [e]; exact k
  | succ m ih =>
    obtain ⟨u, h1, h2⟩ := h
    rw [Nat.succ_add]
    exact ⟨u, h1, ih h2⟩

theorem Leads.refl (x : Spot) : Leads E x x := ⟨0, rfl⟩
theorem Leads.trans {x y z : Spot} (h : Leads E x y) (k : Leads E y z) : Leads E x z := let ⟨m, h⟩ := h; let ⟨n, k⟩ := k; ⟨m + n, goN_trans h k⟩
theorem Leads.one {x y : Spot} (h : E x y) : Leads E x y := ⟨1, y, h, rfl⟩
theorem LeadsOn.one {x y : Spot} (h : E x y) : LeadsOn E x y := ⟨0, y, h, rfl⟩
theorem LeadsOn.leads {x y : Spot} (h : LeadsOn E x y) : Leads E x y := let ⟨n, h⟩ := h; ⟨n + 1, h⟩
theorem LeadsOn.trans_right {x y z : Spot} (h : LeadsOn E x y) (k : Leads E y z) : LeadsOn E x z := by
  obtain ⟨m, h⟩ := h
  obtain ⟨n, k⟩ := k
  have := goN_trans h k
  rw [Nat.succ_add] at this
  exact ⟨m + n, this⟩
theorem LeadsOn.trans_left {x y z : Spot} (h : Leads E x y) (k : LeadsOn E y z) : LeadsOn E x z := by
  obtain ⟨m, h⟩ := h
  obtain ⟨n, k⟩ := k
  have := goN_trans h k
  exact ⟨m + n, this⟩

/-- A set that steps don't lead out of. -/
theorem closed_leads {S : Spot → Prop} (hc : ∀ x y, S x → E x y → S y) {x y : Spot} (h : Leads E x y) (hx : S x) : S y := by
  obtain ⟨n, h⟩ := h
  induction n generalizing x with
  | zero => have e : x = y := h; rw [← e]; exact hx
  | succ n ih =>
    obtain ⟨z, h1, h2⟩ := h
    exact ih (hc x z hx h1) h2

/-- On a way out of a set there is a first one outside. -/
theorem leaves {S : Spot → Prop} {x y : Spot} (h : Leads E x y) (hx : S x) (hy : ¬ S y) : ∃ u v, Leads E x u ∧ S u ∧ E u v ∧ ¬ S v ∧ Leads E v y := by
  obtain ⟨n, h⟩ := h
  induction n generalizing x with
  | zero => have e : x = y := h; rw [← e] at hy; exact absurd hx hy
  | succ n ih =>
    obtain ⟨z, h1, h2⟩ := h
    by_cases hz : S z
    · obtain ⟨u, v, a, b, c, d, e⟩ := ih hz h2
      exact ⟨u, v, (Leads.one h1).trans a, b, c, d, e⟩
    · exact ⟨x, z, Leads.refl x, hx, h1, hz, n, h2⟩

/-- Each one of the path leads to the next one; the newest stands first. -/
def Path (E : Spot → Spot → Prop) : List Spot → Prop
  | [] => True
  | [_] => True
  | x :: y :: r => E y x ∧ Path E (y :: r)

theorem path_leads {x y : Spot} {r : List Spot} (h : Path E (x :: r)) (hy : y ∈ x :: r) : Leads E y x := by
  induction r generalizing x with
  | nil => have : y = x := by simpa using hy
           rw [this]; exact Leads.refl x
  | cons z r ih =>
    rcases List.mem_cons.1 hy with rfl | hy
    · exact Leads.refl _
    · exact (ih h.2 hy).trans (Leads.one h.1)

/-- What is kept while one goes: who was seen, who is done with, and the path. -/
structure Dfs (E : Spot → Spot → Prop) (seen done : Spot → Prop) (path : List Spot) : Prop where
  onPath : ∀ x, x ∈ path → seen x ∧ ¬ done x
  split : ∀ x, seen x → done x ∨ x ∈ path
  sub : ∀ x, done x → seen x
  closed : ∀ x y, done x → E x y → seen y
  chain : Path E path
  nodup : List.Nodup path
  back : ∀ x, done x → (∃ y, ¬ done y ∧ Leads E x y) → LeadsOn E x x

theorem Dfs.push {seen done : Spot → Prop} {x y : Spot} {r : List Spot} (h : Dfs E seen done (x :: r)) (he : E x y) (hy : ¬ seen y) :
    Dfs E (fun z => seen z ∨ z = y) done (y :: x :: r) := by
  refine ⟨?_, ?_, fun z hz => Or.inl (h.sub z hz), fun a b ha hb => Or.inl (h.closed a b ha hb), ⟨he, h.chain⟩, ?_, h.back⟩
  · intro z hz
    rcases List.mem_cons.1 hz with rfl | hz
    · exact ⟨Or.inr rfl, fun hd => hy (h.sub _ hd)⟩
    · exact ⟨Or.inl (h.onPath z hz).1, (h.onPath z hz).2⟩
  · intro z hz
    rcases hz with hz | rfl
    · rcases h.split z hz with h1 | h1
      · exact Or.inl h1
      · exact Or.inr (List.mem_cons_of_mem _ h1)
    · exact Or.inr (by simp)
  · rw [List.nodup_cons]
    exact ⟨fun hm => hy (h.onPath y hm).1, h.nodup⟩

theorem Dfs.pop {seen done : Spot → Prop} {x : Spot} {r : List Spot} (h : Dfs E seen done (x :: r)) (hall : ∀ y, E x y → seen y) :
    Dfs E seen (fun z => done z ∨ z = x) r := by
  have hnd := h.nodup
  rw [List.nodup_cons] at hnd
  have hpath : Path E r := by
    cases r with
    | nil => trivial
    | cons y r => exact h.chain.2
  have hclosed : ∀ a b, (done a ∨ a = x) → E a b → seen b := by
    intro a b ha hb
    rcases ha with ha | rfl
    · exact h.closed a b ha hb
    · exact hall b hb
  refine ⟨?_, ?_, ?_, hclosed, hpath, hnd.2, ?_⟩
  · intro z hz
    refine ⟨(h.onPath z (List.mem_cons_of_mem _ hz)).1, ?_⟩
    rintro (hd | rfl)
    · exact (h.onPath z (List.mem_cons_of_mem _ hz)).2 hd
    · exact hnd.1 hz
  · intro z hz
    rcases h.split z hz with h1 | h1
    · exact Or.inl (Or.inl h1)
    · rcases List.mem_cons.1 h1 with rfl | h1
      · exact Or.inl (Or.inr rfl)
      · exact Or.inr h1
  · rintro z (hz | rfl)
    · exact h.sub z hz
    · exact (h.onPath z (by simp)).1
  · rintro z hz ⟨y, hy, hl⟩
    rcases hz with hz | rfl
    · exact h.back z hz ⟨y, fun hd => hy (Or.inl hd), hl⟩
    · obtain ⟨u, v, h1, h2, h3, h4, _⟩ := leaves (S := fun a => done a ∨ a = z) hl (Or.inr rfl) hy
      have hs := hclosed u v h2 h3
      rcases h.split v hs with hd | hm
      · exact absurd (Or.inl hd) h4
      · have hv : v ∈ r := by
          rcases List.mem_cons.1 hm with rfl | hm
          · exact absurd (Or.inr rfl) h4
          · exact hm
        exact (LeadsOn.trans_left h1 (LeadsOn.one h3)).trans_right (path_leads h.chain (List.mem_cons_of_mem _ hv))

theorem Dfs.begin_ {seen done : Spot → Prop} {x : Spot} (h : Dfs E seen done []) (hx : ¬ seen x) : Dfs E (fun z => seen z ∨ z = x) done [x] := by
  refine ⟨?_, ?_, fun z hz => Or.inl (h.sub z hz), fun a b ha hb => Or.inl (h.closed a b ha hb), trivial, by simp, h.back⟩
  · intro z hz
    have : z = x := by simpa using hz
    subst this
    exact ⟨Or.inr rfl, fun hd => hx (h.sub _ hd)⟩
  · intro z hz
    rcases hz with hz | rfl
    · rcases h.split z hz with h1 | h1
      · exact Or.inl h1
      · cases h1
    · exact Or.inr (by simp)

theorem Dfs.whole {seen done : Spot → Prop} (h : Dfs E seen done []) (x : Spot) : seen x ↔ done x :=
  ⟨fun hs => (h.split x hs).resolve_right (by simp), h.sub x⟩

/-- THE INNER LOOK FOUND NOTHING: the seed does not lead to itself. -/
theorem no_circle {good : Spot → Prop} {seen done : Spot → Prop} {r : List Spot} {seed : Spot} {I I' : Spot → Prop}
    (h : Dfs E seen done (seed :: r)) (hI : ∀ x, I x → ∃ s, done s ∧ good s ∧ Leads E s x) (hno : ∀ s, done s → good s → ¬ LeadsOn E s s)
    (hI' : ∀ x y, I' x → E x y → I' y) (hs : I' seed) (hnew : ∀ x, I' x → ¬ I x → ¬ E x seed) : ¬ LeadsOn E seed seed := by
  intro hc
  have hnot : ∀ x, Leads E x seed → ¬ I x := by
    intro x hx hIx
    obtain ⟨s, hd, hg, hl⟩ := hI x hIx
    exact hno s hd hg (h.back s hd ⟨seed, (h.onPath seed (by simp)).2, hl.trans hx⟩)
  have key : ∀ n x, I' x → goN E (n + 1) x seed → False := by
    intro n
    induction n with
    | zero =>
      rintro x hx ⟨z, h1, h2⟩
      have e : z = seed := h2
      rw [e] at h1
      exact hnew x hx (hnot x (Leads.one h1)) h1
    | succ n ih =>
      rintro x hx ⟨z, h1, h2⟩
      exact ih z (hI' x z hx h1) h2
  obtain ⟨n, hn⟩ := hc
  exact key n seed hs hn
end
end Go.Proofs.YtpiacnnifdjlkaaDoor
