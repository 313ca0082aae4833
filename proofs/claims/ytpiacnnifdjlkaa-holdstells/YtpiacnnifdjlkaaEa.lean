/-
  What holds of a word, as plain mathematics: a row that is filled from behind, twice through the loop, is what is looked for along the word.
-/
import Derived.KernelRfl
namespace Go.Proofs.Ytpiacnnifdjlkaa

/-- A node: kind, A, B, N. -/
structure Nd where
  k : Int
  a : Int
  b : Int
  n : Int

def nd0 : Nd := ⟨0, 0, 0, 0⟩

/-- By a rule, from a place on, so many places; behind them e. -/
def look (r : Nat → Bool → Bool) (e : Bool) : Nat → Nat → Bool
  | 0, _ => e
  | m + 1, i => r i (look r e m (i + 1))

theorem look_split (r : Nat → Bool → Bool) (e : Bool) (b : Nat) : ∀ a i, look r e (a + b) i = look r (look r e b (i + a)) a i
  | 0, i => by simp [look]
  | a + 1, i => by
    rw [Nat.add_right_comm]
    show r i (look r e (a + b) (i + 1)) = r i (look r (look r e b (i + (a + 1))) a (i + 1))
    rw [look_split r e b a (i + 1), show i + 1 + a = i + (a + 1) by omega]

theorem look_congr (r s : Nat → Bool → Bool) (e : Bool) : ∀ m i, (∀ k, i ≤ k → k < i + m → r k = s k) → look r e m i = look s e m i
  | 0, _, _ => rfl
  | m + 1, i, h => by
    show r i (look r e m (i + 1)) = s i (look s e m (i + 1))
    rw [look_congr r s e m (i + 1) (fun k h1 h2 => h k (by omega) (by omega)), h i (by omega) (by omega)]

theorem look_shift (r : Nat → Bool → Bool) (e : Bool) (p : Nat) : ∀ m i, (∀ k, i ≤ k → r (k + p) = r k) → look r e m (i + p) = look r e m i
  | 0, _, _ => rfl
  | m + 1, i, h => by
    show r (i + p) (look r e m (i + p + 1)) = r i (look r e m (i + 1))
    rw [show i + p + 1 = i + 1 + p by omega, look_shift r e p m (i + 1) (fun k hk => h k (by omega)), h i (Nat.le_refl _)]

def Mono (r : Nat → Bool → Bool) : Prop := ∀ i, (∃ c, ∀ x, r i x = c) ∨ (∀ x, r i x = x)

theorem look_decided (r : Nat → Bool → Bool) (e : Bool) (c : Bool) : ∀ d M N i, d < M → d < N → (∀ x, r (i + d) x = c) → look r e M i = look r e N i
  | 0, M + 1, N + 1, i, _, _, h => by
    have h' : ∀ x, r i x = c := h
    show r i _ = r i _
    rw [h', h']
  | d + 1, M + 1, N + 1, i, h1, h2, h => by
    show r i (look r e M (i + 1)) = r i (look r e N (i + 1))
    rw [look_decided r e c d M N (i + 1) (by omega) (by omega) (by rw [show i + 1 + d = i + (d + 1) by omega]; exact h)]

theorem look_ident (r : Nat → Bool → Bool) (e : Bool) : ∀ M i, (∀ d x, r (i + d) x = x) → look r e M i = e
  | 0, _, _ => rfl
  | M + 1, i, h => by
    show r i (look r e M (i + 1)) = e
    rw [look_ident r e M (i + 1) (fun d x => by rw [show i + 1 + d = i + (d + 1) by omega]; exact h _ _)]
    exact h 0 e

theorem ident_all (r : Nat → Bool → Bool) (h p N i : Nat) (hp : 0 < p) (hpN : p ≤ N) (hi : h + p ≤ i + N) (hper : ∀ k, h ≤ k → r (k + p) = r k) (hN : ∀ d, d < N → ∀ x, r (i + d) x = x) : ∀ d x, r (i + d) x = x := by
  intro d
  induction d using Nat.strongRecOn with
  | ind d ih =>
    intro x
    by_cases hd : d < N
    · exact hN d hd x
    · have e : i + d = i + (d - p) + p := by omega
      rw [e, hper (i + (d - p)) (by omega)]
      exact ih (d - p) (by omega) x

theorem look_stab (r : Nat → Bool → Bool) (e : Bool) (h p N M i : Nat) (hm : Mono r) (hp : 0 < p) (hpN : p ≤ N) (hi : h + p ≤ i + N) (hper : ∀ k, h ≤ k → r (k + p) = r k) (hM : N ≤ M) : look r e M i = look r e N i := by
  by_cases hex : ∃ d, d < N ∧ ∃ c, ∀ x, r (i + d) x = c
  · obtain ⟨d, hd, c, hc⟩ := hex
    exact look_decided r e c d M N i (by omega) hd hc
  · have hN : ∀ d, d < N → ∀ x, r (i + d) x = x := fun d hd => by
      rcases hm (i + d) with hc | hx
      · exact absurd ⟨d, hd, hc⟩ hex
      · exact hx
    have ha := ident_all r h p N i hp hpN hi hper hN
    rw [look_ident r e M i ha, look_ident r e N i ha]

/-- The place of head and loop at which a word stands. -/
def plc (h p k : Nat) : Nat := if k < h + p then k else h + (k - h) % p

theorem plc_lt (h p k : Nat) (hp : 0 < p) : plc h p k < h + p := by
  unfold plc
  split
  · assumption
  · have := Nat.mod_lt (k - h) hp; omega

theorem plc_small {h p k : Nat} (hk : k < h + p) : plc h p k = k := by unfold plc; rw [if_pos hk]

theorem plc_add (h p k : Nat) (hk : h ≤ k) : plc h p (k + p) = plc h p k := by
  have e : plc h p (k + p) = h + (k - h) % p := by
    unfold plc
    rw [if_neg (by omega), show k + p - h = (k - h) + p by omega, Nat.add_mod_right]
  rw [e]
  unfold plc
  split
  · rename_i h1
    rw [Nat.mod_eq_of_lt (by omega)]; omega
  · rfl

theorem plc_step (h p k : Nat) (hk : h + p ≤ k) : plc h p k = plc h p (k - p) := by
  have := plc_add h p (k - p) (by omega)
  rw [show k - p + p = k by omega] at this
  exact this

/-- What three passes from behind leave at a place is what is looked for along the word. -/
theorem passes (u : Nat → Bool → Bool) (e : Bool) (h p : Nat) (hp : 0 < p) (hm : Mono u) (j : Nat) (hj : j < h + p) :
    (if j < h then look u (look u (look u e p h) p h) (h - j) j else look u (look u e p h) (h + p - j) j) = look (fun k => u (plc h p k)) e (h + p) j := by
  have hper : ∀ k, h ≤ k → (fun k => u (plc h p k)) (k + p) = (fun k => u (plc h p k)) k := fun k hk => by
    show u (plc h p (k + p)) = u (plc h p k)
    rw [plc_add h p k hk]
  have hmr : Mono (fun k => u (plc h p k)) := fun i => hm _
  have hcon : ∀ e m i, i + m ≤ h + p → look u e m i = look (fun k => u (plc h p k)) e m i := fun e m i him =>
    look_congr _ _ e m i fun k h1 h2 => by show u k = u (plc h p k); rw [plc_small (by omega)]
  generalize hr : (fun k => u (plc h p k)) = r at *
  have e1 : look u e p h = look r e p (h + p) := by rw [hcon e p h (by omega), look_shift r e p p h hper]
  have e2 : ∀ i, i ≤ h + p → look u (look u e p h) (h + p - i) i = look r e (h + p - i + p) i := fun i hi => by
    rw [hcon _ _ _ (by omega), e1, look_split r e p (h + p - i) i, show i + (h + p - i) = h + p by omega]
  split
  · rename_i hjh
    have e3 : look u (look u e p h) p h = look r e (p + p) h := by
      have := e2 h (by omega)
      rwa [show h + p - h = p by omega] at this
    rw [e3, hcon _ _ _ (by omega)]
    have e4 := look_split r e (p + p) (h - j) j
    rw [show j + (h - j) = h by omega] at e4
    rw [← e4, look_stab r e h p (h - j + p) (h - j + (p + p)) j hmr hp (by omega) (by omega) hper (by omega), look_stab r e h p (h - j + p) (h + p) j hmr hp (by omega) (by omega) hper (by omega)]
  · rename_i hjh
    rw [e2 j (by omega), look_stab r e h p p (h + p - j + p) j hmr hp (by omega) (by omega) hper (by omega), look_stab r e h p p (h + p) j hmr hp (by omega) (by omega) hper (by omega)]

/-- What a row says at a place. -/
def bt (T : List (List Bool)) (a : Int) (i : Nat) : Bool := (T.getD a.toNat []).getD i false

def nxp (h p i : Nat) : Nat := if i + 1 = h + p then h else i + 1

theorem plc_next {h p i : Nat} (hp : 0 < p) (hi : i < h + p) : plc h p (i + 1) = nxp h p i := by
  unfold nxp
  split
  · rename_i e
    rw [e, plc_add h p h (Nat.le_refl _), plc_small (by omega)]
  · exact plc_small (by omega)

/-- Does a node hold at a place, by the rows of those that it is made of and by whether it does at the next one? -/
def ruleB (T : List (List Bool)) (h p : Nat) (L : Nat → Int) (x : Nd) (i : Nat) (nx : Bool) : Bool :=
  if x.k = 2 then decide (L i / 2 ^ x.n.toNat % 2 = 1)
  else if x.k = 3 then !bt T x.a i
  else if x.k = 4 then bt T x.a i && bt T x.b i
  else if x.k = 5 then bt T x.a i || bt T x.b i
  else if x.k = 6 then bt T x.a (nxp h p i)
  else if x.k = 7 then bt T x.b i || bt T x.a i && nx
  else if x.k = 8 then bt T x.b i && (bt T x.a i || nx)
  else true

theorem rule_mono (T : List (List Bool)) (h p : Nat) (L : Nat → Int) (x : Nd) : Mono (ruleB T h p L x) := by
  intro i
  unfold ruleB
  by_cases h2 : x.k = 2
  · left; simp only [if_pos h2]; exact ⟨_, fun _ => rfl⟩
  simp only [if_neg h2]
  by_cases h3 : x.k = 3
  · left; simp only [if_pos h3]; exact ⟨_, fun _ => rfl⟩
  simp only [if_neg h3]
  by_cases h4 : x.k = 4
  · left; simp only [if_pos h4]; exact ⟨_, fun _ => rfl⟩
  simp only [if_neg h4]
  by_cases h5 : x.k = 5
  · left; simp only [if_pos h5]; exact ⟨_, fun _ => rfl⟩
  simp only [if_neg h5]
  by_cases h6 : x.k = 6
  · left; simp only [if_pos h6]; exact ⟨_, fun _ => rfl⟩
  simp only [if_neg h6]
  by_cases h7 : x.k = 7
  · simp only [if_pos h7]
    cases bt T x.b i with
    | true => left; exact ⟨true, fun _ => rfl⟩
    | false =>
      cases bt T x.a i with
      | true => right; intro y; simp
      | false => left; exact ⟨false, fun _ => rfl⟩
  simp only [if_neg h7]
  by_cases h8 : x.k = 8
  · simp only [if_pos h8]
    cases bt T x.b i with
    | false => left; exact ⟨false, fun _ => rfl⟩
    | true =>
      cases bt T x.a i with
      | false => right; intro y; simp
      | true => left; exact ⟨true, fun _ => rfl⟩
  simp only [if_neg h8]
  left; exact ⟨true, fun _ => rfl⟩

/-- What holds of a node at a place. -/
def valB (T : List (List Bool)) (h p : Nat) (L : Nat → Int) (x : Nd) (j : Nat) : Bool := look (fun k => ruleB T h p L x (plc h p k)) (decide (x.k = 8)) (h + p) j

theorem valB_flat {T : List (List Bool)} {h p : Nat} {L : Nat → Int} {x : Nd} {j : Nat} (hp : 0 < p) (hj : j < h + p) (h7 : x.k ≠ 7) (h8 : x.k ≠ 8) (y : Bool) : valB T h p L x j = ruleB T h p L x j y := by
  unfold valB
  obtain ⟨m, hm⟩ : ∃ m, h + p = m + 1 := ⟨h + p - 1, by omega⟩
  have e : look (fun k => ruleB T h p L x (plc h p k)) (decide (x.k = 8)) (h + p) j = ruleB T h p L x (plc h p j) (look (fun k => ruleB T h p L x (plc h p k)) (decide (x.k = 8)) m (j + 1)) := by rw [hm]; rfl
  rw [e, plc_small hj]
  simp only [ruleB, if_neg h7, if_neg h8]

/-- A node's row, and the rows of all nodes. -/
def rowV (T : List (List Bool)) (h p : Nat) (L : Nat → Int) (x : Nd) : List Bool := (List.range (h + p)).map (valB T h p L x)

theorem rowV_len (T : List (List Bool)) (h p : Nat) (L : Nat → Int) (x : Nd) : (rowV T h p L x).length = h + p := by simp [rowV]

theorem rowV_get (T : List (List Bool)) (h p : Nat) (L : Nat → Int) (x : Nd) (j : Nat) (hj : j < h + p) : (rowV T h p L x).getD j false = valB T h p L x j := by simp [rowV, List.getD, hj]

def tabN (F : List Nd) (h p : Nat) (L : Nat → Int) : Nat → List (List Bool)
  | 0 => []
  | m + 1 => tabN F h p L m ++ [rowV (tabN F h p L m) h p L (F.getD m nd0)]

theorem tabN_len (F : List Nd) (h p : Nat) (L : Nat → Int) : ∀ m, (tabN F h p L m).length = m
  | 0 => rfl
  | m + 1 => by simp [tabN, tabN_len F h p L m]

theorem tabN_get (F : List Nd) (h p : Nat) (L : Nat → Int) (i : Nat) : ∀ m, i < m → (tabN F h p L m).getD i [] = rowV (tabN F h p L i) h p L (F.getD i nd0)
  | 0, hi => by omega
  | m + 1, hi => by
    by_cases e : i = m
    · subst e
      simp [tabN, List.getD, tabN_len]
    · have := tabN_get F h p L i m (by omega)
      rw [← this]
      have hl := tabN_len F h p L m
      simp [tabN, List.getD, List.getElem?_append, hl, show i < m by omega]

theorem tabN_row (F : List Nd) (h p : Nat) (L : Nat → Int) (i m : Nat) (hi : i < m) : ((tabN F h p L m).getD i []).length = h + p := by
  rw [tabN_get F h p L i m hi, rowV_len]
end Go.Proofs.Ytpiacnnifdjlkaa
