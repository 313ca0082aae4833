/-
  If a lasso is taken by one automaton and not by another one, both of three states, there is such a one whose loop has fewer than 3888 letters. Plain mathematics.
-/
import Derived.Test.YtpiacnnifdjlkabDoorWa
/-
  Breakpoints: those of even rank that have been so since the last one; again and again there are none. Plain mathematics.
-/
namespace Go.Proofs.YtpiacnnifdjlkabDoor

/-- Those of even rank that come of such since there were none the last time. -/
def Brk (E : Nat → Nat → Nat → Prop) (V : Nat → Nat → Prop) (rk : Nat → Nat → Nat) : Nat → Nat → Prop
  | 0 => fun _ => False
  | i + 1 => fun q' => V (i + 1) q' ∧ rk (i + 1) q' % 2 = 0 ∧ ((∀ q, ¬ Brk E V rk i q) ∨ ∃ q, Brk E V rk i q ∧ E i q q')

section
variable {E : Nat → Nat → Nat → Prop} {V : Nat → Nat → Prop} {rk : Nat → Nat → Nat}

theorem Brk.in : ∀ {i q : Nat}, Brk E V rk i q → V i q ∧ rk i q % 2 = 0
  | 0, _, h => h.elim
  | _ + 1, _, h => ⟨h.1, h.2.1⟩

theorem PathW.prefix {G : Nat → Nat → Prop} : ∀ {n m i q r : Nat}, PathW E G n i q r → m ≤ n → ∃ r', PathW E G m i q r'
  | _, 0, _, q, _, _, _ => ⟨q, rfl⟩
  | 0, m + 1, _, _, _, _, h => absurd h (by omega)
  | n + 1, m + 1, _, _, _, h, hm => by
    obtain ⟨q', h1, h2, h3⟩ := h
    obtain ⟨r', h4⟩ := PathW.prefix h3 (by omega : m ≤ n)
    exact ⟨r', q', h1, h2, h4⟩

theorem PathW.snoc {G : Nat → Nat → Prop} : ∀ {n i q r r' : Nat}, PathW E G n i q r → E (i + n) r r' → G (i + n + 1) r' → PathW E G (n + 1) i q r'
  | 0, _, _, _, _, h, he, hg => by
    have e : _ = _ := h
    subst e
    exact ⟨_, he, hg, rfl⟩
  | n + 1, i, _, _, _, h, he, hg => by
    obtain ⟨q', h1, h2, h3⟩ := h
    exact ⟨q', h1, h2, PathW.snoc h3 (by rw [show i + 1 + n = i + (n + 1) by omega]; exact he) (by rw [show i + 1 + n + 1 = i + (n + 1) + 1 by omega]; exact hg)⟩

/-- Ways as long as one likes, within nodes of three states: one without an end. -/
theorem koenig {G : Nat → Nat → Prop} (h3 : ∀ i q, G i q → q < 3) {i q : Nat} (hq : G i q) (h : ∀ m, ∃ r, PathW E G m i q r) : ∃ f, f 0 = q ∧ RunW E G i f := by
  have key : ∀ p : Nat × Nat, ∃ q', (G p.1 p.2 ∧ ∀ m, ∃ r, PathW E G m p.1 p.2 r) → E p.1 p.2 q' ∧ G (p.1 + 1) q' ∧ ∀ m, ∃ r, PathW E G m (p.1 + 1) q' r := by
    rintro ⟨i, q⟩
    by_cases hc : ∃ q', E i q q' ∧ G (i + 1) q' ∧ ∀ m, ∃ r, PathW E G m (i + 1) q' r
    · obtain ⟨q', h⟩ := hc
      exact ⟨q', fun _ => h⟩
    · refine ⟨0, fun ⟨_, hp⟩ => absurd ?_ hc⟩
      have far : ∀ q', ∃ m, E i q q' → G (i + 1) q' → ¬ ∃ r, PathW E G m (i + 1) q' r := fun q' => by
        by_cases h1 : E i q q' ∧ G (i + 1) q'
        · by_cases h2 : ∃ m, ¬ ∃ r, PathW E G m (i + 1) q' r
          · obtain ⟨m, hm⟩ := h2
            exact ⟨m, fun _ _ => hm⟩
          · exact absurd ⟨q', h1.1, h1.2, fun m => Classical.byContradiction fun hn => h2 ⟨m, hn⟩⟩ hc
        · exact ⟨0, fun a b => absurd ⟨a, b⟩ h1⟩
      obtain ⟨m0, f0⟩ := far 0
      obtain ⟨m1, f1⟩ := far 1
      obtain ⟨m2, f2⟩ := far 2
      obtain ⟨r, q', e1, e2, e3⟩ := hp (m0 + m1 + m2 + 1)
      exfalso
      have hlt := h3 _ _ e2
      have : q' = 0 ∨ q' = 1 ∨ q' = 2 := by omega
      rcases this with rfl | rfl | rfl
      · exact f0 e1 e2 (e3.prefix (by omega))
      · exact f1 e1 e2 (e3.prefix (by omega))
      · exact f2 e1 e2 (e3.prefix (by omega))
  obtain ⟨σ, hσ⟩ : ∃ σ : Nat × Nat → Nat, ∀ p : Nat × Nat, (G p.1 p.2 ∧ ∀ m, ∃ r, PathW E G m p.1 p.2 r) → E p.1 p.2 (σ p) ∧ G (p.1 + 1) (σ p) ∧ ∀ m, ∃ r, PathW E G m (p.1 + 1) (σ p) r := ⟨fun p => Classical.choose (key p), fun p => Classical.choose_spec (key p)⟩
  obtain ⟨f, f0, fs⟩ : ∃ f : Nat → Nat, f 0 = q ∧ ∀ k, f (k + 1) = σ (i + k, f k) := ⟨fun k => Nat.rec q (fun k x => σ (i + k, x)) k, rfl, fun _ => rfl⟩
  have hI : ∀ k, G (i + k) (f k) ∧ ∀ m, ∃ r, PathW E G m (i + k) (f k) r := by
    intro k
    induction k with
    | zero => rw [f0]; exact ⟨hq, h⟩
    | succ k ih => rw [fs]; exact (hσ (i + k, f k) ih).2
  exact ⟨f, f0, fun k => ⟨(hI k).1, by rw [fs]; exact (hσ (i + k, f k) (hI k)).1⟩⟩

/-- What never rises is the same from some place on. -/
theorem still_of_falling : ∀ (n : Nat) (g : Nat → Nat), g 0 ≤ n → (∀ k, g (k + 1) ≤ g k) → ∃ K, ∀ k, K ≤ k → g k = g K
  | n, g, h0, hs => by
    have mono : ∀ a d, g (a + d) ≤ g a := fun a d => by
      induction d with
      | zero => exact Nat.le_refl _
      | succ d ih => exact Nat.le_trans (hs (a + d)) ih
    by_cases hc : ∀ k, g k = g 0
    · exact ⟨0, fun k _ => hc k⟩
    · obtain ⟨k, hk⟩ := Classical.not_forall.1 hc
      have hk2 := mono 0 k
      rw [Nat.zero_add] at hk2
      cases n with
      | zero => omega
      | succ n =>
        obtain ⟨K, hK⟩ := still_of_falling n (fun j => g (k + j)) (by show g (k + 0) ≤ n; rw [Nat.add_zero]; omega) (fun j => hs (k + j))
        refine ⟨k + K, fun j hj => ?_⟩
        have := hK (j - k) (by omega)
        rw [show k + (j - k) = j by omega] at this
        exact this

/-- Again and again there are none. -/
theorem brk_none (h3 : ∀ i q, V i q → q < 3) (hmono : ∀ i q q', V i q → E i q q' → rk (i + 1) q' ≤ rk i q) (hodd : ∀ i f r, RunW E V i f → r % 2 = 0 → ¬ ∀ k, rk (i + k) (f k) = r) (i : Nat) : ∃ j, i ≤ j ∧ ∀ q, ¬ Brk E V rk j q := by
  refine Classical.byContradiction fun hc => ?_
  have hne : ∀ j, i ≤ j → ∃ q, Brk E V rk j q := fun j hj => Classical.byContradiction fun hn => hc ⟨j, hj, fun q hq => hn ⟨q, hq⟩⟩
  have hb3 : ∀ i q, Brk E V rk i q → q < 3 := fun i q h => h3 i q h.in.1
  have back : ∀ m r, Brk E V rk (i + m) r → ∃ q, Brk E V rk i q ∧ PathW E (Brk E V rk) m i q r := by
    intro m
    induction m with
    | zero => exact fun r hr => ⟨r, hr, rfl⟩
    | succ m ih =>
      intro r hr
      rcases hr.2.2 with h | ⟨q, hq, he⟩
      · obtain ⟨q, hq⟩ := hne (i + m) (by omega)
        exact absurd hq (h q)
      · obtain ⟨q0, h0, hp⟩ := ih q hq
        exact ⟨q0, h0, hp.snoc he hr⟩
  have hex : ∃ q, Brk E V rk i q ∧ ∀ m, ∃ r, PathW E (Brk E V rk) m i q r := by
    refine Classical.byContradiction fun hn => ?_
    have far : ∀ q, ∃ m, Brk E V rk i q → ¬ ∃ r, PathW E (Brk E V rk) m i q r := fun q => by
      by_cases h1 : Brk E V rk i q
      · by_cases h2 : ∃ m, ¬ ∃ r, PathW E (Brk E V rk) m i q r
        · obtain ⟨m, hm⟩ := h2
          exact ⟨m, fun _ => hm⟩
        · exact absurd ⟨q, h1, fun m => Classical.byContradiction fun hm => h2 ⟨m, hm⟩⟩ hn
      · exact ⟨0, fun a => absurd a h1⟩
    obtain ⟨m0, f0⟩ := far 0
    obtain ⟨m1, f1⟩ := far 1
    obtain ⟨m2, f2⟩ := far 2
    obtain ⟨r, hr⟩ := hne (i + (m0 + m1 + m2)) (by omega)
    obtain ⟨q, hq, hp⟩ := back _ r hr
    have hlt := hb3 _ _ hq
    have : q = 0 ∨ q = 1 ∨ q = 2 := by omega
    rcases this with rfl | rfl | rfl
    · exact f0 hq (hp.prefix (by omega))
    · exact f1 hq (hp.prefix (by omega))
    · exact f2 hq (hp.prefix (by omega))
  obtain ⟨q, hq, hp⟩ := hex
  obtain ⟨f, f0, hf⟩ := koenig hb3 hq hp
  have hfV : RunW E V i f := hf.mono fun i q h => h.in.1
  obtain ⟨K, hK⟩ := still_of_falling _ (fun k => rk (i + k) (f k)) (Nat.le_refl _) (fun k => by
    have := hmono (i + k) (f k) (f (k + 1)) (hfV k).1 (hfV k).2
    rw [show i + k + 1 = i + (k + 1) by omega] at this
    exact this)
  refine hodd (i + K) (fun k => f (K + k)) (rk (i + K) (f K)) (hfV.tail K) (hf K).1.in.2 (fun k => ?_)
  have := hK (K + k) (by omega)
  rw [← Nat.add_assoc] at this
  exact this
end

end Go.Proofs.YtpiacnnifdjlkabDoor

/-
  A word that one automaton takes and another one, of three states, does not: its loop need not be long. Plain mathematics.
-/
namespace Go.Proofs.YtpiacnnifdjlkabDoor

/-- A state of the one, whether it was good since, and of the three states of the other their rank and whether they stand behind the last breakpoint. -/
abbrev NdT := Nat × Bool × Nat × Nat × Nat

def cdT (x : NdT) : Nat → Nat
  | 0 => x.2.2.1
  | 1 => x.2.2.2.1
  | 2 => x.2.2.2.2
  | _ => 0

def rkC (c : Nat) : Nat := if c = 1 then 1 else if c = 2 then 3 else 2 * ((c - 3) / 2)
def inO (c : Nat) : Prop := 3 ≤ c ∧ (c - 3) % 2 = 1

structure StepW3 (sa sb : Nat → Int → Nat → Prop) (ga : Nat → Bool) (x : NdT) (l : Int) (y : NdT) : Prop where
  a : sa x.1 l y.1
  flag : y.2.1 = (x.2.1 || ga y.1)
  keep : ∀ q q', cdT x q ≠ 0 → sb q l q' → cdT y q' ≠ 0 ∧ rkC (cdT y q') ≤ rkC (cdT x q)
  fresh : (∀ q, ¬ inO (cdT x q)) → ∀ q', 3 ≤ cdT y q' → inO (cdT y q')
  on : ∀ q q', inO (cdT x q) → sb q l q' → 3 ≤ cdT y q' → inO (cdT y q')

structure OkT (gb : Nat → Bool) (g : Nat) (x : NdT) : Prop where
  p : x.1 < 3
  c0 : x.2.2.1 < 9
  c1 : x.2.2.2.1 < 9
  c2 : x.2.2.2.2 < 9
  g2 : cdT x g ≠ 2
  ev : ∀ q, gb q = true → cdT x q ≠ 1 ∧ cdT x q ≠ 2

theorem rkC_odd {c : Nat} (h : rkC c % 2 = 0) (h0 : c ≠ 0) : 3 ≤ c := by
  unfold rkC at h
  split at h
  · omega
  · split at h
    · omega
    · omega

theorem rkC_even {c : Nat} (h : 3 ≤ c) : rkC c % 2 = 0 := by
  unfold rkC
  rw [if_neg (by omega), if_neg (by omega)]
  omega

/-- What goes round by such nodes is not taken by the other one. -/
theorem walk_rejects {sa sb : Nat → Int → Nat → Prop} {ga gb : Nat → Bool} {g m : Nat} (hm : 0 < m) {x : Nat → NdT} {v : Nat → Int} (hs : ∀ k, k < m → StepW3 sa sb ga (x k) (v k) (x (k + 1))) (hok : ∀ k, k ≤ m → OkT gb g (x k)) (hc : ∀ q, cdT (x m) q = cdT (x 0) q) (hO : ∀ q, ¬ inO (cdT (x 0) q))
    {f : Nat → Nat} (h0 : cdT (x 0) (f 0) ≠ 0) (hf : ∀ k, sb (f k) (v (k % m)) (f (k + 1))) : ¬ ∀ k, ∃ k', k ≤ k' ∧ gb (f k') = true := by
  intro hg
  have wrap : ∀ k q, cdT (x ((k + 1) % m)) q = cdT (x (k % m + 1)) q := by
    intro k q
    have hlt := Nat.mod_lt k hm
    by_cases e : k % m + 1 = m
    · rw [e, hc]
      have : (k + 1) % m = 0 := by
        rw [Nat.add_mod]
        have h1 : 1 % m + k % m = m ∨ m = 1 := by
          by_cases h : m = 1
          · exact Or.inr h
          · exact Or.inl (by rw [Nat.mod_eq_of_lt (by omega : 1 < m)]; omega)
        rcases h1 with h | h
        · rw [Nat.add_comm, h, Nat.mod_self]
        · subst h; omega
      rw [this]
    · have : (k + 1) % m = k % m + 1 := by
        have h1 : k % m + 1 < m := by omega
        have h2 := Nat.mod_add_div k m
        have h3 : k + 1 = (k % m + 1) + m * (k / m) := by omega
        rw [h3, Nat.add_mul_mod_self_left, Nat.mod_eq_of_lt h1]
      rw [this]
  have pres : ∀ k, cdT (x (k % m)) (f k) ≠ 0 := by
    intro k
    induction k with
    | zero => rw [Nat.zero_mod]; exact h0
    | succ k ih =>
      rw [wrap]
      exact ((hs (k % m) (Nat.mod_lt k hm)).keep _ _ ih (hf k)).1
  obtain ⟨K, hK⟩ := still_of_falling _ (fun k => rkC (cdT (x (k % m)) (f k))) (Nat.le_refl _) (fun k => by
    rw [wrap]
    exact ((hs (k % m) (Nat.mod_lt k hm)).keep _ _ (pres k) (hf k)).2)
  obtain ⟨k', hk', hgk⟩ := hg K
  have hr : rkC (cdT (x (K % m)) (f K)) % 2 = 0 := by
    rw [← hK k' hk']
    have h1 := (hok (k' % m) (by have := Nat.mod_lt k' hm; omega)).ev _ hgk
    have h2 := pres k'
    exact rkC_even (by omega)
  have ev : ∀ k, K ≤ k → 3 ≤ cdT (x (k % m)) (f k) := fun k hk => rkC_odd (by rw [hK k hk]; exact hr) (pres k)
  have hKm : K ≤ K * m := Nat.le_mul_of_pos_right K hm
  have claim : ∀ t, t < m → inO (cdT (x (t + 1)) (f (K * m + t + 1))) := by
    intro t
    induction t with
    | zero =>
      intro ht
      have e := ev (K * m + 0 + 1) (by omega)
      rw [wrap] at e
      have e0 : K * m % m = 0 := Nat.mul_mod_left _ _
      rw [e0] at e
      exact (hs 0 hm).fresh hO _ e
    | succ t ih =>
      intro ht
      have e := ev (K * m + (t + 1) + 1) (by omega)
      rw [wrap] at e
      have e0 : (K * m + (t + 1)) % m = t + 1 := by rw [Nat.add_comm, Nat.add_mul_mod_self_right, Nat.mod_eq_of_lt ht]
      rw [e0] at e
      have hst := hf (K * m + (t + 1))
      rw [e0] at hst
      exact (hs (t + 1) ht).on _ _ (ih (by omega)) hst e
  have hend := claim (m - 1) (by omega)
  rw [show m - 1 + 1 = m by omega, hc] at hend
  exact hO _ hend

theorem pigeon {N n : Nat} {c : Nat → Nat} (h : ∀ k, k ≤ n → c k < N) (hn : N ≤ n) : ∃ a b, a < b ∧ b ≤ n ∧ c a = c b := by
  refine Classical.byContradiction fun hc => ?_
  have hnd : ((List.range (n + 1)).map c).Nodup := by
    rw [List.Nodup, List.pairwise_map]
    refine (List.pairwise_lt_range (n := n + 1)).imp_of_mem ?_
    intro a b ha hb hab e
    rw [List.mem_range] at ha hb
    exact hc ⟨a, b, hab, by omega, e⟩
  have := nodup_le N _ hnd (fun q hq => by
    obtain ⟨k, hk, rfl⟩ := List.mem_map.1 hq
    rw [List.mem_range] at hk
    exact h k (by omega))
  simp at this
  omega

/-- A way through few nodes need not be long. -/
theorem shorten {T : Type} {R : T → Int → T → Prop} {Ok : T → Prop} {num : T → Nat} {N : Nat} (hlt : ∀ x, Ok x → num x < N) (hinj : ∀ x y, Ok x → Ok y → num x = num y → x = y) {L : Int → Prop} : ∀ (n : Nat) (X : Nat → T) (v : Nat → Int), (∀ k, k < n → R (X k) (v k) (X (k + 1)) ∧ L (v k)) → (∀ k, k ≤ n → Ok (X k)) →
    ∃ (n' : Nat) (X' : Nat → T) (v' : Nat → Int), n' < N ∧ X' 0 = X 0 ∧ X' n' = X n ∧ (∀ k, k < n' → R (X' k) (v' k) (X' (k + 1)) ∧ L (v' k)) ∧ ∀ k, k ≤ n' → Ok (X' k) := by
  intro n
  induction n using Nat.strongRecOn with
  | ind n ih =>
    intro X v hR hO
    by_cases hn : n < N
    · exact ⟨n, X, v, hn, rfl, rfl, hR, hO⟩
    · obtain ⟨a, b, hab, hbn, he⟩ := pigeon (c := fun k => num (X k)) (fun k hk => hlt _ (hO k hk)) (by omega : N ≤ n)
      have hx : X a = X b := hinj _ _ (hO a (by omega)) (hO b hbn) he
      obtain ⟨n', X', v', h1, h2, h3, h4, h5⟩ := ih (n - (b - a)) (by omega) (fun k => if k ≤ a then X k else X (k + (b - a))) (fun k => if k < a then v k else v (k + (b - a))) (by
        intro k hk
        by_cases c1 : k < a
        · have := hR k (by omega)
          rw [if_pos (by omega : k ≤ a), if_pos c1, if_pos (by omega : k + 1 ≤ a)]
          exact this
        · have := hR (k + (b - a)) (by omega)
          rw [if_neg c1, if_neg (by omega : ¬ k + 1 ≤ a), show k + 1 + (b - a) = k + (b - a) + 1 by omega]
          by_cases c2 : k ≤ a
          · have e : k = a := by omega
            subst e
            rw [if_pos (Nat.le_refl _), hx]
            rw [show k + (b - k) = b by omega] at this ⊢
            exact this
          · rw [if_neg c2]
            exact this) (by
        intro k hk
        split
        · exact hO k (by omega)
        · exact hO _ (by omega))
      refine ⟨n', X', v', h1, ?_, ?_, h4, h5⟩
      · rw [h2]; simp
      · rw [h3]
        split
        · have e : n - (b - a) = a := by omega
          have e2 : b = n := by omega
          rw [e, hx, e2]
        · rw [show n - (b - a) + (b - a) = n by omega]

def hC (c : Nat) : Nat := if c ≤ 1 then c else c - 1

def bN3 (b : Bool) : Nat := if b then 1 else 0

/-- A number for each of them. -/
def numT (g : Nat) (x : NdT) : Nat :=
  match g with
  | 0 => (((x.1 * 2 + bN3 x.2.1) * 9 + x.2.2.2.1) * 9 + x.2.2.2.2) * 8 + hC x.2.2.1
  | 1 => (((x.1 * 2 + bN3 x.2.1) * 9 + x.2.2.1) * 9 + x.2.2.2.2) * 8 + hC x.2.2.2.1
  | _ => (((x.1 * 2 + bN3 x.2.1) * 9 + x.2.2.1) * 9 + x.2.2.2.1) * 8 + hC x.2.2.2.2

theorem bN_lt (b : Bool) : bN3 b < 2 := by cases b <;> decide
theorem bN_inj {a b : Bool} (h : bN3 a = bN3 b) : a = b := by cases a <;> cases b <;> first | rfl | (exact absurd h (by decide))
theorem hC_lt {c : Nat} (h : c < 9) : hC c < 8 := by unfold hC; split <;> omega
theorem hC_inj {c d : Nat} (h1 : c ≠ 2) (h2 : d ≠ 2) (h : hC c = hC d) : c = d := by unfold hC at h; split at h <;> split at h <;> omega

theorem digit {x y k a b : Nat} (h : x * k + a = y * k + b) (ha : a < k) (hb : b < k) : x = y ∧ a = b := by
  have h1 : (x * k + a) / k = x := by rw [Nat.mul_comm, Nat.mul_add_div (by omega), Nat.div_eq_of_lt ha, Nat.add_zero]
  have h2 : (y * k + b) / k = y := by rw [Nat.mul_comm, Nat.mul_add_div (by omega), Nat.div_eq_of_lt hb, Nat.add_zero]
  have : x = y := by rw [← h1, h, h2]
  subst this
  exact ⟨rfl, by omega⟩

theorem numT_lt {gb : Nat → Bool} {g : Nat} (hg : g < 3) (x : NdT) (h : OkT gb g x) : numT g x < 3888 := by
  have h1 := h.p
  have h2 := h.c0
  have h3 := h.c1
  have h4 := h.c2
  have h5 := h.g2
  have h6 := bN_lt x.2.1
  have : g = 0 ∨ g = 1 ∨ g = 2 := by omega
  rcases this with rfl | rfl | rfl
  · have := hC_lt h2; show (((x.1 * 2 + bN3 x.2.1) * 9 + x.2.2.2.1) * 9 + x.2.2.2.2) * 8 + hC x.2.2.1 < 3888; omega
  · have := hC_lt h3; show (((x.1 * 2 + bN3 x.2.1) * 9 + x.2.2.1) * 9 + x.2.2.2.2) * 8 + hC x.2.2.2.1 < 3888; omega
  · have := hC_lt h4; show (((x.1 * 2 + bN3 x.2.1) * 9 + x.2.2.1) * 9 + x.2.2.2.1) * 8 + hC x.2.2.2.2 < 3888; omega

theorem numT_inj {gb : Nat → Bool} {g : Nat} (hg : g < 3) (x y : NdT) (hx : OkT gb g x) (hy : OkT gb g y) (h : numT g x = numT g y) : x = y := by
  obtain ⟨p, f, a, b, c⟩ := x
  obtain ⟨p', f', a', b', c'⟩ := y
  have x2 := hx.c0
  have x3 := hx.c1
  have x4 := hx.c2
  have x5 := hx.g2
  have y2 := hy.c0
  have y3 := hy.c1
  have y4 := hy.c2
  have y5 := hy.g2
  dsimp only at x2 x3 x4 y2 y3 y4
  have : g = 0 ∨ g = 1 ∨ g = 2 := by omega
  rcases this with rfl | rfl | rfl
  · obtain ⟨e, e4⟩ := digit (show _ * 8 + hC a = _ * 8 + hC a' from h) (hC_lt x2) (hC_lt y2)
    obtain ⟨e, e3⟩ := digit e x4 y4
    obtain ⟨e, e2⟩ := digit e x3 y3
    obtain ⟨e, e1⟩ := digit e (bN_lt _) (bN_lt _)
    dsimp only at e e1 e2 e3
    rw [e, bN_inj e1, show a = a' from hC_inj x5 y5 e4, e2, e3]
  · obtain ⟨e, e4⟩ := digit (show _ * 8 + hC b = _ * 8 + hC b' from h) (hC_lt x3) (hC_lt y3)
    obtain ⟨e, e3⟩ := digit e x4 y4
    obtain ⟨e, e2⟩ := digit e x2 y2
    obtain ⟨e, e1⟩ := digit e (bN_lt _) (bN_lt _)
    dsimp only at e e1 e2 e3
    rw [e, bN_inj e1, show b = b' from hC_inj x5 y5 e4, e2, e3]
  · obtain ⟨e, e4⟩ := digit (show _ * 8 + hC c = _ * 8 + hC c' from h) (hC_lt x4) (hC_lt y4)
    obtain ⟨e, e3⟩ := digit e x3 y3
    obtain ⟨e, e2⟩ := digit e x2 y2
    obtain ⟨e, e1⟩ := digit e (bN_lt _) (bN_lt _)
    dsimp only at e e1 e2 e3
    rw [e, bN_inj e1, show c = c' from hC_inj x5 y5 e4, e2, e3]

end Go.Proofs.YtpiacnnifdjlkabDoor

/-
  A word that one automaton takes and another one does not: there is one whose loop has fewer than 3888 letters. Plain mathematics.
-/
namespace Go.Proofs.YtpiacnnifdjlkabDoor

open Classical in
theorem codes_exist {E : Nat → Nat → Nat → Prop} {V : Nat → Nat → Prop} {rk : Nat → Nat → Nat} (h4 : ∀ i q, rk i q ≤ 4) :
    ∃ cd : Nat → Nat → Nat, ∀ i q, (V i q → cd i q ≠ 0 ∧ rkC (cd i q) = rk i q) ∧ (¬ V i q → cd i q = 0) ∧ cd i q < 9 ∧ (inO (cd i q) ↔ Brk E V rk i q) := by
  refine ⟨fun i q => if V i q then (if rk i q = 1 then 1 else if rk i q = 3 then 2 else 3 + 2 * (rk i q / 2) + (if Brk E V rk i q then 1 else 0)) else 0, fun i q => ?_⟩
  have h := h4 i q
  dsimp only
  by_cases hv : V i q
  · rw [if_pos hv]
    by_cases h1 : rk i q = 1
    · rw [if_pos h1, h1]
      refine ⟨fun _ => ⟨by decide, rfl⟩, fun hn => absurd hv hn, by decide, ⟨fun h => absurd h.1 (by decide), fun h => ?_⟩⟩
      have := h.in.2
      omega
    · rw [if_neg h1]
      by_cases h2 : rk i q = 3
      · rw [if_pos h2, h2]
        refine ⟨fun _ => ⟨by decide, rfl⟩, fun hn => absurd hv hn, by decide, ⟨fun h => absurd h.1 (by decide), fun h => ?_⟩⟩
        have := h.in.2
        omega
      · rw [if_neg h2]
        have hr : rk i q = 0 ∨ rk i q = 2 ∨ rk i q = 4 := by omega
        by_cases hb : Brk E V rk i q
        · rw [if_pos hb]
          refine ⟨fun _ => ⟨by omega, ?_⟩, fun hn => absurd hv hn, by omega, ⟨fun _ => hb, fun _ => ⟨by omega, by omega⟩⟩⟩
          unfold rkC
          rw [if_neg (by omega), if_neg (by omega)]
          omega
        · rw [if_neg hb]
          refine ⟨fun _ => ⟨by omega, ?_⟩, fun hn => absurd hv hn, by omega, ⟨fun h => ?_, fun h => absurd h hb⟩⟩
          · unfold rkC
            rw [if_neg (by omega), if_neg (by omega)]
            omega
          · have := h.2
            omega
  · rw [if_neg hv]
    exact ⟨fun h => absurd h hv, fun _ => rfl, by decide, ⟨fun h => absurd h.1 (by decide), fun h => absurd h.in.1 hv⟩⟩

theorem loop_short {sa sb : Nat → Int → Nat → Prop} {ga gb : Nat → Bool} {u : Nat → Int} {ρ : Nat → Nat} (hρ : ∀ k, sa (ρ k) (u k) (ρ (k + 1))) (hρ3 : ∀ k, ρ k < 3) (hga : ∀ k, ∃ k', k ≤ k' ∧ ga (ρ k') = true)
    {V : Nat → Nat → Prop} (hV : ∀ i q q', V i q → sb q (u i) q' → V (i + 1) q') (h3 : ∀ i q, V i q → q < 3) (hno : ∀ i f, RunW (fun i q q' => sb q (u i) q') V i f → ¬ ∀ k, ∃ k', k ≤ k' ∧ gb (f k') = true) :
    ∃ (i m : Nat) (v : Nat → Int) (p : Nat → Nat), 0 < m ∧ m < 3888 ∧ (∀ k, k < m → ∃ j, v k = u j) ∧ p 0 = ρ i ∧ p m = ρ i ∧ (∀ k, k < m → sa (p k) (v k) (p (k + 1))) ∧ (∃ k, 0 < k ∧ k ≤ m ∧ ga (p k) = true) ∧
      ∀ f : Nat → Nat, V i (f 0) → (∀ k, sb (f k) (v (k % m)) (f (k + 1))) → ¬ ∀ k, ∃ k', k ≤ k' ∧ gb (f k') = true := by
  obtain ⟨E, hE⟩ : ∃ E : Nat → Nat → Nat → Prop, E = fun i q q' => sb q (u i) q' := ⟨_, rfl⟩
  have hEs : ∀ i q q', E i q q' ↔ sb q (u i) q' := fun i q q' => by rw [hE]
  rw [← hE] at hno
  obtain ⟨rk, g, hg3, h4, hmono, hev, hodd, hg⟩ : ∃ (rk : Nat → Nat → Nat) (g : Nat), g < 3 ∧ (∀ i q, rk i q ≤ 4) ∧ (∀ i q q', V i q → E i q q' → rk (i + 1) q' ≤ rk i q) ∧ (∀ i q, V i q → gb q = true → rk i q % 2 = 0) ∧ (∀ i f r, RunW E V i f → r % 2 = 0 → ¬ ∀ k, rk (i + k) (f k) = r) ∧ ∀ i, V i g → rk i g ≠ 3 := by
    by_cases hc : ∃ g, g < 3 ∧ gb g = true
    · obtain ⟨g, hg3, hg⟩ := hc
      obtain ⟨rk, a1, a2, a3, a4⟩ := ranks_exist h3 hg3 hg hno
      exact ⟨rk, g, hg3, a1, a2, a3, a4, fun i hv e => by have := a3 i g hv hg; omega⟩
    · refine ⟨fun _ _ => 1, 0, by omega, fun _ _ => (by decide : 1 ≤ 4), fun _ _ _ _ _ => Nat.le_refl _, fun i q hv hq => absurd ⟨q, h3 i q hv, hq⟩ hc, fun i f r _ hr h => ?_, fun _ _ => (by decide : 1 ≠ 3)⟩
      have : 1 = r := h 0
      omega
  obtain ⟨cd, hcd⟩ := codes_exist (E := E) (V := V) h4
  have hcn : ∀ i b q, cdT (ρ i, b, cd i 0, cd i 1, cd i 2) q = cd i q := fun i b q => by
    match q with
    | 0 => rfl
    | 1 => rfl
    | 2 => rfl
    | q + 3 =>
      have : cd i (q + 3) = 0 := (hcd i (q + 3)).2.1 (fun h => by have := h3 _ _ h; omega)
      rw [this]
      rfl
  have hVc : ∀ i q, cd i q ≠ 0 → V i q := fun i q h => Classical.byContradiction fun hn => h ((hcd i q).2.1 hn)
  have hEv : ∀ i q, 3 ≤ cd i q → V i q ∧ rk i q % 2 = 0 := fun i q h => by
    have hv := hVc i q (by omega)
    refine ⟨hv, ?_⟩
    rw [← ((hcd i q).1 hv).2]
    exact rkC_even h
  have hok : ∀ i b, OkT gb g (ρ i, b, cd i 0, cd i 1, cd i 2) := fun i b => by
    refine ⟨hρ3 i, (hcd i 0).2.2.1, (hcd i 1).2.2.1, (hcd i 2).2.2.1, ?_, fun q hq => ?_⟩
    · rw [hcn]
      intro e
      have hv := hVc i g (by omega)
      have := ((hcd i g).1 hv).2
      rw [e] at this
      exact hg i hv this.symm
    · rw [hcn]
      by_cases hv : V i q
      · have h1 := ((hcd i q).1 hv).2
        have h2 := hev i q hv hq
        constructor
        · intro e
          rw [e] at h1
          have : rkC 1 = 1 := rfl
          omega
        · intro e
          rw [e] at h1
          have : rkC 2 = 3 := rfl
          omega
      · rw [(hcd i q).2.1 hv]
        exact ⟨by decide, by decide⟩
  have hstep : ∀ i b, StepW3 sa sb ga (ρ i, b, cd i 0, cd i 1, cd i 2) (u i) (ρ (i + 1), (b || ga (ρ (i + 1))), cd (i + 1) 0, cd (i + 1) 1, cd (i + 1) 2) := fun i b => by
    refine ⟨hρ i, rfl, fun q q' h1 h2 => ?_, fun h1 q' h2 => ?_, fun q q' h1 h2 h3 => ?_⟩
    · rw [hcn] at h1 ⊢
      have hv := hVc i q h1
      have hv' := hV i q q' hv h2
      refine ⟨((hcd (i + 1) q').1 hv').1, ?_⟩
      rw [hcn, ((hcd (i + 1) q').1 hv').2, ((hcd i q).1 hv).2]
      exact hmono i q q' hv ((hEs i q q').2 h2)
    · rw [hcn] at h2 ⊢
      obtain ⟨hv, he⟩ := hEv _ _ h2
      refine (hcd (i + 1) q').2.2.2.2 ⟨hv, he, Or.inl fun q hq => h1 q ?_⟩
      rw [hcn]
      exact (hcd i q).2.2.2.2 hq
    · rw [hcn] at h1 h3 ⊢
      obtain ⟨hv, he⟩ := hEv _ _ h3
      exact (hcd (i + 1) q').2.2.2.2 ⟨hv, he, Or.inr ⟨q, (hcd i q).2.2.2.1 h1, (hEs i q q').2 h2⟩⟩
  have hnxt : ∀ i, ∃ j, i < j ∧ (∀ q, ¬ Brk E V rk j q) ∧ ∃ t, i < t ∧ t ≤ j ∧ ga (ρ t) = true := fun i => by
    obtain ⟨t, ht, hgt⟩ := hga (i + 1)
    obtain ⟨j, hj, hb⟩ := brk_none h3 hmono hodd t
    exact ⟨j, by omega, hb, t, by omega, hj, hgt⟩
  obtain ⟨nx, hnx⟩ : ∃ nx : Nat → Nat, ∀ i, i < nx i ∧ (∀ q, ¬ Brk E V rk (nx i) q) ∧ ∃ t, i < t ∧ t ≤ nx i ∧ ga (ρ t) = true := ⟨fun i => Classical.choose (hnxt i), fun i => Classical.choose_spec (hnxt i)⟩
  obtain ⟨s, s0, ss⟩ : ∃ s : Nat → Nat, s 0 = nx 0 ∧ ∀ k, s (k + 1) = nx (s k) := ⟨fun k => Nat.rec (nx 0) (fun _ x => nx x) k, rfl, fun _ => rfl⟩
  have sb0 : ∀ k q, ¬ Brk E V rk (s k) q := fun k => by
    cases k with
    | zero => rw [s0]; exact (hnx 0).2.1
    | succ k => rw [ss]; exact (hnx (s k)).2.1
  have smono : ∀ k d, s k ≤ s (k + d) := fun k d => by
    induction d with
    | zero => exact Nat.le_refl _
    | succ d ih =>
      have := (hnx (s (k + d))).1
      rw [← Nat.add_assoc, ss]
      omega
  obtain ⟨k, l, hkl, hal⟩ := two_alike (M := 3888) (fun k => numT g (ρ (s k), false, cd (s k) 0, cd (s k) 1, cd (s k) 2)) (fun k => numT_lt hg3 _ (hok (s k) false))
  have hxy := numT_inj hg3 _ _ (hok (s k) false) (hok (s l) false) hal
  have hle : s (k + 1) ≤ s l := by
    have := smono (k + 1) (l - (k + 1))
    rwa [show k + 1 + (l - (k + 1)) = l by omega] at this
  have hgt : ∃ t, s k < t ∧ t ≤ s l ∧ ga (ρ t) = true := by
    obtain ⟨t, h1, h2, h3⟩ := (hnx (s k)).2.2
    rw [← ss] at h2
    exact ⟨t, h1, by omega, h3⟩
  have hlt : s k < s l := by
    have := (hnx (s k)).1
    rw [← ss] at this
    omega
  generalize s k = i at *
  generalize hj : s l = j at *
  have hOi : ∀ q, ¬ inO (cd i q) := fun q h => by
    have e : cdT _ q = cdT _ q := congrArg (fun x => cdT x q) hxy
    rw [hcn, hcn] at e
    rw [e] at h
    refine sb0 l q ?_
    rw [hj]
    exact (hcd j q).2.2.2.1 h
  obtain ⟨fl, f0, fs⟩ : ∃ fl : Nat → Bool, fl 0 = false ∧ ∀ t, fl (t + 1) = (fl t || ga (ρ (i + t + 1))) := ⟨fun t => Nat.rec false (fun t b => b || ga (ρ (i + t + 1))) t, rfl, fun _ => rfl⟩
  have hfl : ∀ t, (∃ r, i < r ∧ r ≤ i + t ∧ ga (ρ r) = true) → fl t = true := by
    intro t
    induction t with
    | zero => rintro ⟨r, h1, h2, _⟩; omega
    | succ t ih =>
      rintro ⟨r, h1, h2, hr⟩
      rw [fs]
      by_cases e : r = i + t + 1
      · rw [← e, hr, Bool.or_true]
      · rw [ih ⟨r, h1, by omega, hr⟩, Bool.true_or]
  have hfn : fl (j - i) = true := hfl _ (by
    obtain ⟨t, h1, h2, h3⟩ := hgt
    exact ⟨t, h1, by omega, h3⟩)
  obtain ⟨m, X, v, hm, hX0, hXm, hR, hO⟩ := shorten (R := StepW3 sa sb ga) (Ok := OkT gb g) (num := numT g) (numT_lt hg3) (numT_inj hg3) (L := fun c => ∃ j, c = u j) (j - i) (fun t => (ρ (i + t), fl t, cd (i + t) 0, cd (i + t) 1, cd (i + t) 2)) (fun t => u (i + t)) (fun t _ => ⟨by
    have := hstep (i + t) (fl t)
    rw [fs, show i + (t + 1) = i + t + 1 by omega]
    exact this, i + t, rfl⟩) (fun t _ => hok (i + t) (fl t))
  rw [Nat.add_zero, f0] at hX0
  rw [show i + (j - i) = j by omega, hfn] at hXm
  have hm0 : 0 < m := by
    cases m with
    | zero =>
      rw [hX0] at hXm
      have := congrArg (fun x : NdT => x.2.1) hXm
      cases this
    | succ m => omega
  have hend : ∀ q, cdT (X m) q = cdT (X 0) q := fun q => by
    rw [hXm, hX0, hcn, hcn]
    have e : cdT _ q = cdT _ q := congrArg (fun x => cdT x q) hxy
    rw [hcn, hcn] at e
    exact e.symm
  refine ⟨i, m, v, fun k => (X k).1, hm0, hm, fun k hk => (hR k hk).2, by show (X 0).1 = ρ i; rw [hX0], ?_, fun k hk => (hR k hk).1.a, ?_, fun f hf0 hf => ?_⟩
  · show (X m).1 = ρ i
    rw [hXm]
    have := congrArg (fun x : NdT => x.1) hxy
    exact this.symm
  · refine Classical.byContradiction fun hn => ?_
    have : ∀ t, t ≤ m → (X t).2.1 = false := by
      intro t
      induction t with
      | zero => intro _; rw [hX0]
      | succ t ih =>
        intro ht
        rw [(hR t (by omega)).1.flag, ih (by omega)]
        cases hgb : ga (X (t + 1)).1 with
        | false => rfl
        | true => exact absurd ⟨t + 1, by omega, ht, hgb⟩ hn
    have h1 := this m (Nat.le_refl _)
    rw [hXm] at h1
    cases h1
  · refine walk_rejects hm0 (fun k hk => (hR k hk).1) hO hend (fun q => ?_) ?_ hf
    · rw [hX0, hcn]; exact hOi q
    · rw [hX0, hcn]; exact ((hcd i (f 0)).1 hf0).1

end Go.Proofs.YtpiacnnifdjlkabDoor

namespace Go.Proofs.YtpiacnnifdjlkabDoor

theorem getD_map_range {α : Type} {n k : Nat} {f : Nat → α} {d : α} (h : k < n) : ((List.range n).map f).getD k d = f k := by
  simp [List.getD, h]

theorem lat_made {i m : Nat} {u v : Nat → Int} (hm : 0 < m) (t : Nat) : lat ((List.range i).map u) ((List.range m).map v) t = if t < i then u t else v ((t - i) % m) := by
  unfold lat
  simp only [List.length_map, List.length_range]
  by_cases h : t < i
  · rw [if_pos h, if_pos h, getD_map_range h]
  · rw [if_neg h, if_neg h, getD_map_range (Nat.mod_lt _ hm)]

theorem wrap_mod {α : Type} {m : Nat} (hm : 0 < m) {p : Nat → α} (hp : p m = p 0) (k : Nat) : p ((k + 1) % m) = p (k % m + 1) := by
  have hlt := Nat.mod_lt k hm
  by_cases e : k % m + 1 = m
  · rw [e, hp]
    have : (k + 1) % m = 0 := by
      have h2 := Nat.mod_add_div k m
      have h3 : k + 1 = m * (k / m + 1) := by rw [Nat.mul_add, Nat.mul_one]; omega
      rw [h3, Nat.mul_mod_right]
    rw [this]
  · have : (k + 1) % m = k % m + 1 := by
      have h1 : k % m + 1 < m := by omega
      have h2 := Nat.mod_add_div k m
      have h3 : k + 1 = (k % m + 1) + m * (k / m) := by omega
      rw [h3, Nat.add_mul_mod_self_left, Nat.mod_eq_of_lt h1]
    rw [this]

/-- Both have at most three states. -/
def Three (A : Aut) : Prop := (∀ x ∈ A.first, x.toNat < 3) ∧ ∀ s ∈ A.steps, ∀ y : Nat, s.t = y → y < 3

theorem short_alone {A B : Aut} (hA : Three A) (hB : Three B) {u : Nat → Int} (ha : TakesI A u) (hb : ¬ TakesI B u) :
    ∃ (hs ls : List Int), 0 < ls.length ∧ ls.length < 3888 ∧ (∀ c ∈ hs, ∃ j, c = u j) ∧ (∀ c ∈ ls, ∃ j, c = u j) ∧ TakesI A (lat hs ls) ∧ ¬ TakesI B (lat hs ls) := by
  obtain ⟨ρ, ⟨a0, ha0, hr0⟩, hst, hgd⟩ := ha
  have hρ3 : ∀ k, ρ k < 3 := fun k => by
    cases k with
    | zero => rw [← hr0]; exact hA.1 _ (getD_mem ha0)
    | succ k =>
      obtain ⟨s, hs, _, _, e⟩ := hst k
      exact hA.2 s hs _ e
  obtain ⟨V, hVd⟩ : ∃ V : Nat → Nat → Prop, ∀ i q, V i q ↔ ∃ f : Nat → Nat, (∃ j, j < B.first.length ∧ (B.first.getD j 0).toNat = f 0) ∧ (∀ t, t < i → stepU B (f t) (u t) (f (t + 1))) ∧ f i = q := ⟨_, fun _ _ => Iff.rfl⟩
  have hV : ∀ i q q', V i q → stepU B q (u i) q' → V (i + 1) q' := fun i q q' h he => by
    obtain ⟨f, h1, h2, h3⟩ := (hVd i q).1 h
    refine (hVd _ _).2 ⟨fun t => if t ≤ i then f t else q', ?_, fun t ht => ?_, if_neg (by omega)⟩
    · dsimp only; rw [if_pos (Nat.zero_le _)]; exact h1
    · dsimp only
      by_cases e : t = i
      · subst e
        rw [if_pos (Nat.le_refl _), if_neg (by omega), h3]
        exact he
      · rw [if_pos (by omega), if_pos (by omega)]
        exact h2 t (by omega)
  have h3 : ∀ i q, V i q → q < 3 := fun i q h => by
    obtain ⟨f, ⟨j, hj, e⟩, h2, h3⟩ := (hVd i q).1 h
    cases i with
    | zero => rw [← h3, ← e]; exact hB.1 _ (getD_mem hj)
    | succ i =>
      obtain ⟨s, hs, _, _, e⟩ := h2 i (by omega)
      rw [h3] at e
      exact hB.2 s hs _ e
  have hno : ∀ i f, RunW (fun i q q' => stepU B q (u i) q') V i f → ¬ ∀ k, ∃ k', k ≤ k' ∧ B.good.getD (f k') false = true := by
    intro i f hf hgood
    obtain ⟨g, h1, h2, h3⟩ := (hVd i (f 0)).1 (hf 0).1
    refine hb ⟨fun t => if t < i then g t else f (t - i), ?_, fun t => ?_, fun t => ?_⟩
    · dsimp only
      by_cases e : 0 < i
      · rw [if_pos e]; exact h1
      · rw [if_neg e]
        have : i = 0 := by omega
        subst this
        rw [← h3]
        exact h1
    · dsimp only
      by_cases c1 : t + 1 < i
      · rw [if_pos (by omega), if_pos c1]
        exact h2 t (by omega)
      · by_cases c2 : t < i
        · rw [if_pos c2, if_neg c1, show t + 1 - i = 0 by omega, ← h3, show i = t + 1 by omega]
          exact h2 t c2
        · rw [if_neg c2, if_neg c1]
          have := (hf (t - i)).2
          rw [show i + (t - i) = t by omega] at this
          rw [show t + 1 - i = t - i + 1 by omega]
          exact this
    · obtain ⟨k', hk', hg⟩ := hgood t
      refine ⟨i + k', by omega, ?_⟩
      dsimp only
      rw [if_neg (by omega), show i + k' - i = k' by omega]
      exact hg
  obtain ⟨i, m, v, p, hm, hm2, hvu, hp0, hpm, hps, ⟨k0, hk0, hk1, hgk⟩, hrej⟩ := loop_short (sa := stepU A) (sb := stepU B) (ga := fun q => A.good.getD q false) (gb := fun q => B.good.getD q false) hst hρ3 hgd hV h3 hno
  refine ⟨(List.range i).map u, (List.range m).map v, by simp; exact hm, by simp; exact hm2, fun c hc => ?_, fun c hc => ?_, ?_, ?_⟩
  · obtain ⟨t, _, rfl⟩ := List.mem_map.1 hc
    exact ⟨t, rfl⟩
  · obtain ⟨t, ht, rfl⟩ := List.mem_map.1 hc
    exact hvu t (List.mem_range.1 ht)
  · refine ⟨fun t => if t < i then ρ t else p ((t - i) % m), ?_, fun t => ?_, fun t => ?_⟩
    · dsimp only
      by_cases e : 0 < i
      · rw [if_pos e]; exact ⟨a0, ha0, hr0⟩
      · rw [if_neg e]
        have : i = 0 := by omega
        subst this
        rw [Nat.sub_self, Nat.zero_mod, hp0]
        exact ⟨a0, ha0, hr0⟩
    · rw [lat_made hm]
      dsimp only
      by_cases c1 : t + 1 < i
      · rw [if_pos (by omega), if_pos c1, if_pos (by omega)]
        exact hst t
      · by_cases c2 : t < i
        · rw [if_pos c2, if_neg c1, if_pos c2, show t + 1 - i = 0 by omega, Nat.zero_mod, hp0, show i = t + 1 by omega]
          exact hst t
        · rw [if_neg c2, if_neg c1, if_neg c2, show t + 1 - i = t - i + 1 by omega, wrap_mod hm (hpm.trans hp0.symm)]
          exact hps _ (Nat.mod_lt _ hm)
    · refine ⟨i + ((t + 1) * m + k0), ?_, ?_⟩
      · have : t + 1 ≤ (t + 1) * m := Nat.le_mul_of_pos_right _ hm
        omega
      · dsimp only
        rw [if_neg (by omega), show i + ((t + 1) * m + k0) - i = k0 + (t + 1) * m by omega, Nat.add_mul_mod_self_right]
        by_cases e : k0 = m
        · rw [e, Nat.mod_self, hp0, ← hpm, ← e]
          exact hgk
        · rw [Nat.mod_eq_of_lt (by omega)]
          exact hgk
  · rintro ⟨r, hr1, hr2, hr3⟩
    have hlat := fun t => lat_made (i := i) (u := u) (v := v) hm t
    refine hrej (fun k => r (i + k)) ?_ (fun k => ?_) (fun k => ?_)
    · refine (hVd _ _).2 ⟨r, hr1, fun t ht => ?_, rfl⟩
      have := hr2 t
      rw [hlat, if_pos ht] at this
      exact this
    · have := hr2 (i + k)
      rw [hlat, if_neg (by omega), show i + k - i = k by omega] at this
      exact this
    · obtain ⟨k', h1, h2⟩ := hr3 (i + k)
      refine ⟨k' - i, by omega, ?_⟩
      rw [show i + (k' - i) = k' by omega]
      exact h2

end Go.Proofs.YtpiacnnifdjlkabDoor
