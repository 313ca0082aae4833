/-
  Package include: tables as they lie in memory, whole, and row by row; the table of a word and another one behind it.
-/
import Derived.Test.YtpiacnnifdjlkabDoorWl
import Derived.Test.YtpiacnnifdjlkabDoorCz
import Derived.Deep.MidRow
/-
  Tables, step by step: as the program makes them. How many boxes there are. Plain mathematics.
-/
namespace Go.Proofs.YtpiacnnifdjlkabDoor

/-- A table of three states. -/
def tOk (t : List Nat) : Prop := t.length = 9 ∧ ∀ x ∈ t, x ≤ 2

theorem tOk_mk {f : Nat → Nat → Nat} (h : ∀ p q, p < 3 → q < 3 → f p q ≤ 2) : tOk (mkT f) := by
  refine ⟨by simp [mkT], fun x hx => ?_⟩
  obtain ⟨k, hk, rfl⟩ := List.mem_map.1 hx
  have := List.mem_range.1 hk
  exact h _ _ (by omega) (by omega)

theorem getD_le {t : List Nat} (h : ∀ x ∈ t, x ≤ 2) (k : Nat) : t.getD k 0 ≤ 2 := by
  by_cases hk : k < t.length
  · exact h _ (getD_mem hk)
  · simp [List.getD, List.getElem?_eq_none (Nat.le_of_not_lt hk)]

theorem tOk.at_le {t : List Nat} (h : tOk t) (p q : Nat) : atT t p q ≤ 2 := getD_le h.2 _

theorem tOk_then {t u : List Nat} (ht : tOk t) (hu : tOk u) : tOk (thenT t u) := tOk_mk fun p q _ _ => by
  have h0 := opM_le (ht.at_le p 0) (hu.at_le 0 q)
  have h1 := opM_le (ht.at_le p 1) (hu.at_le 1 q)
  have h2 := opM_le (ht.at_le p 2) (hu.at_le 2 q)
  omega

theorem tOk_id : tOk idT := tOk_mk fun p q _ _ => by split <;> omega
theorem tOk_let (A : Aut) (c : Int) : tOk (letT A c) := tOk_mk fun p q _ _ => by split; split <;> omega; omega
theorem tOk_max {t u : List Nat} (ht : tOk t) (hu : tOk u) : tOk (maxT t u) := tOk_mk fun p q _ _ => by
  have h1 := ht.at_le p q
  have h2 := hu.at_le p q
  omega

theorem tOk_set {t : List Nat} (h : tOk t) (k v : Nat) (hv : v ≤ 2) : tOk (t.set k v) := ⟨by rw [List.length_set]; exact h.1, fun x hx => by
  rcases List.mem_or_eq_of_mem_set hx with h1 | h1
  · exact h.2 x h1
  · omega⟩

theorem tab_ext {t u : List Nat} (ht : t.length = 9) (hu : u.length = 9) (h : ∀ p q, p < 3 → q < 3 → atT t p q = atT u p q) : t = u := by
  refine List.ext_getElem (by omega) fun k h1 h2 => ?_
  have := h (k / 3) (k % 3) (by omega) (by omega)
  unfold atT at this
  rw [show 3 * (k / 3) + k % 3 = k by omega] at this
  simpa [List.getD, h1, h2] using this

theorem at_set {t : List Nat} (ht : t.length = 9) {p q a b v : Nat} (hp : p < 3) (hq : q < 3) (ha : a < 3) (hb : b < 3) : atT (t.set (3 * a + b) v) p q = if p = a ∧ q = b then v else atT t p q := by
  unfold atT
  by_cases h : p = a ∧ q = b
  · obtain ⟨rfl, rfl⟩ := h
    rw [if_pos ⟨rfl, rfl⟩]
    simp [List.getD, show 3 * p + q < t.length by omega]
  · rw [if_neg h]
    simp [List.getD, show ¬ 3 * a + b = 3 * p + q by omega]

/-- then, step by step. -/
def thenStep (t u o : List Nat) (k : Nat) : List Nat :=
  if atT t (k / 9) (k / 3 % 3) ≠ 0 ∧ atT u (k / 3 % 3) (k % 3) ≠ 0 then o.set (3 * (k / 9) + k % 3) (max (max (atT o (k / 9) (k % 3)) (atT t (k / 9) (k / 3 % 3))) (atT u (k / 3 % 3) (k % 3))) else o
def thenSt (t u : List Nat) : Nat → List Nat
  | 0 => List.replicate 9 0
  | k + 1 => thenStep t u (thenSt t u k) k

theorem thenSt_ok {t u : List Nat} (ht : tOk t) (hu : tOk u) : ∀ k, tOk (thenSt t u k)
  | 0 => ⟨by simp [thenSt], fun x hx => by simp [thenSt] at hx; omega⟩
  | k + 1 => by
    have ih := thenSt_ok ht hu k
    show tOk (thenStep t u (thenSt t u k) k)
    unfold thenStep
    split
    · refine tOk_set ih _ _ ?_
      have h1 := ih.at_le (k / 9) (k % 3)
      have h2 := ht.at_le (k / 9) (k / 3 % 3)
      have h3 := hu.at_le (k / 3 % 3) (k % 3)
      omega
    · exact ih

def upTo (b : Bool) (v : Nat) : Nat := if b then v else 0

theorem thenSt_at {t u : List Nat} (ht : tOk t) (hu : tOk u) : ∀ k, k ≤ 27 → ∀ p q, p < 3 → q < 3 →
    atT (thenSt t u k) p q = max (max (upTo (decide (9 * p + q < k)) (opM (atT t p 0) (atT u 0 q))) (upTo (decide (9 * p + 3 + q < k)) (opM (atT t p 1) (atT u 1 q)))) (upTo (decide (9 * p + 6 + q < k)) (opM (atT t p 2) (atT u 2 q)))
  | 0, _, p, q, hp, hq => by
    have : atT (thenSt t u 0) p q = 0 := by
      have h1 : p = 0 ∨ p = 1 ∨ p = 2 := by omega
      have h2 : q = 0 ∨ q = 1 ∨ q = 2 := by omega
      rcases h1 with rfl | rfl | rfl <;> rcases h2 with rfl | rfl | rfl <;> rfl
    rw [this]
    simp [upTo]
  | k + 1, hk, p, q, hp, hq => by
    have ih := thenSt_at ht hu k (by omega) p q hp hq
    show atT (thenStep t u (thenSt t u k) k) p q = _
    have hl := (thenSt_ok ht hu k).1
    have upS : ∀ (x v : Nat), upTo (decide (x < k + 1)) v = if x = k then v else upTo (decide (x < k)) v := fun x v => by
      unfold upTo
      by_cases h1 : x = k
      · subst h1; simp
      · rw [if_neg h1]
        by_cases h2 : x < k
        · simp [h2, show x < k + 1 by omega]
        · simp [h2, show ¬ x < k + 1 by omega]
    rw [upS, upS, upS]
    have upZ : ∀ x v, ¬ x < k → upTo (decide (x < k)) v = 0 := fun x v h => by simp [upTo, h]
    have h1 := ht.at_le (k / 9) (k / 3 % 3)
    by_cases hm : p = k / 9 ∧ q = k % 3
    · obtain ⟨e1, e2⟩ := hm
      have key : ∀ r, r < 3 → k / 3 % 3 = r → 9 * p + 3 * r + q = k := fun r _ hr => by omega
      have hv : atT (thenStep t u (thenSt t u k) k) p q = max (atT (thenSt t u k) p q) (opM (atT t p (k / 3 % 3)) (atT u (k / 3 % 3) q)) := by
        unfold thenStep opM
        rw [← e1, ← e2]
        by_cases hc : atT t p (k / 3 % 3) ≠ 0 ∧ atT u (k / 3 % 3) q ≠ 0
        · rw [if_pos hc, if_pos hc, at_set hl hp hq hp hq, if_pos ⟨rfl, rfl⟩]
          omega
        · rw [if_neg hc, if_neg hc]
          omega
      rw [hv, ih]
      have hr : k / 3 % 3 = 0 ∨ k / 3 % 3 = 1 ∨ k / 3 % 3 = 2 := by omega
      rcases hr with hr | hr | hr
      · have := key 0 (by omega) hr
        rw [hr, if_pos (by omega), if_neg (by omega), if_neg (by omega), upZ (9 * p + q) _ (by omega), upZ (9 * p + 3 + q) _ (by omega), upZ (9 * p + 6 + q) _ (by omega)]
        omega
      · have := key 1 (by omega) hr
        rw [hr, if_neg (by omega), if_pos (by omega), if_neg (by omega), upZ (9 * p + 3 + q) _ (by omega), upZ (9 * p + 6 + q) _ (by omega)]
        omega
      · have := key 2 (by omega) hr
        rw [hr, if_neg (by omega), if_neg (by omega), if_pos (by omega), upZ (9 * p + 6 + q) _ (by omega)]
        omega
    · rw [if_neg (by omega), if_neg (by omega), if_neg (by omega), ← ih]
      unfold thenStep
      split
      · rw [at_set hl hp hq (by omega) (by omega), if_neg hm]
      · rfl

theorem thenSt_all {t u : List Nat} (ht : tOk t) (hu : tOk u) : thenSt t u 27 = thenT t u := by
  refine tab_ext (thenSt_ok ht hu 27).1 (tOk_then ht hu).1 fun p q hp hq => ?_
  rw [thenSt_at ht hu 27 (Nat.le_refl _) p q hp hq]
  unfold thenT
  rw [at_mk hp hq]
  simp [upTo, show 9 * p + q < 27 by omega, show 9 * p + 3 + q < 27 by omega, show 9 * p + 6 + q < 27 by omega]

/-- The greater marks of both, step by step. -/
def maxSt (t u : List Nat) : Nat → List Nat
  | 0 => t
  | k + 1 => (maxSt t u k).set k (max ((maxSt t u k).getD k 0) (u.getD k 0))

theorem maxSt_ok {t u : List Nat} (ht : tOk t) (hu : tOk u) : ∀ k, tOk (maxSt t u k)
  | 0 => ht
  | k + 1 => tOk_set (maxSt_ok ht hu k) _ _ (by
    have h1 := getD_le (maxSt_ok ht hu k).2 k
    have h2 := getD_le hu.2 k
    omega)

theorem maxSt_at {t u : List Nat} (ht : tOk t) (hu : tOk u) : ∀ k, k ≤ 9 → ∀ j, j < 9 → (maxSt t u k).getD j 0 = if j < k then max (t.getD j 0) (u.getD j 0) else t.getD j 0
  | 0, _, j, _ => by simp [maxSt]
  | k + 1, hk, j, hj => by
    have ih := maxSt_at ht hu k (by omega)
    have hl := (maxSt_ok ht hu k).1
    show ((maxSt t u k).set k (max ((maxSt t u k).getD k 0) (u.getD k 0))).getD j 0 = _
    by_cases e : j = k
    · subst e
      rw [ih j hj, if_neg (Nat.lt_irrefl _), if_pos (Nat.lt_succ_self _)]
      simp [List.getD, show j < (maxSt t u j).length by omega]
    · have := ih j hj
      have h2 : ((maxSt t u k).set k (max ((maxSt t u k).getD k 0) (u.getD k 0))).getD j 0 = (maxSt t u k).getD j 0 := by
        simp [List.getD, show ¬ k = j by omega]
      rw [h2, this]
      by_cases h3 : j < k
      · rw [if_pos h3, if_pos (by omega)]
      · rw [if_neg h3, if_neg (by omega)]

theorem maxSt_all {t u : List Nat} (ht : tOk t) (hu : tOk u) : maxSt t u 9 = maxT t u := by
  refine tab_ext (maxSt_ok ht hu 9).1 (tOk_max ht hu).1 fun p q hp hq => ?_
  unfold maxT
  rw [at_mk hp hq]
  unfold atT
  rw [maxSt_at ht hu 9 (Nat.le_refl _) _ (by omega), if_pos (by omega)]

theorem tOk_again {t : List Nat} (h : tOk t) : tOk (againT t) := by
  have h1 := tOk_max h (tOk_then h h)
  exact tOk_max h1 (tOk_then h1 h1)

/-- A letter's table, step by step. -/
def cutA (A : Aut) (k : Nat) : Aut := { A with steps := A.steps.take k }

theorem let_snoc {A : Aut} {c : Int} {k : Nat} (hk : k < A.steps.length) {f t : Nat} (hf : A.steps[k].f = (f : Int)) (ht : A.steps[k].t = (t : Int)) (f3 : f < 3) (t3 : t < 3) :
    letT (cutA A (k + 1)) c = if A.steps[k].l = c then (letT (cutA A k) c).set (3 * f + t) (if A.good.getD t false then 2 else 1) else letT (cutA A k) c := by
  have hs : (cutA A (k + 1)).steps = (cutA A k).steps ++ [A.steps[k]] := by
    unfold cutA
    rw [List.take_succ_eq_append_getElem hk]
  have hg : ∀ j, (cutA A j).good = A.good := fun _ => rfl
  have hat : ∀ p q, p < 3 → q < 3 → atT (letT (cutA A (k + 1)) c) p q = if A.steps[k].l = c ∧ p = f ∧ q = t then (if A.good.getD t false then 2 else 1) else atT (letT (cutA A k) c) p q := fun p q hp hq => by
    unfold letT
    rw [at_mk hp hq, at_mk hp hq, hs, List.any_append, hg, hg]
    by_cases h : A.steps[k].l = c ∧ p = f ∧ q = t
    · obtain ⟨h1, h2, h3⟩ := h
      subst h2
      subst h3
      simp [hf, ht, h1]
    · rw [if_neg h]
      have : (decide (A.steps[k].f = (p : Int)) && decide (A.steps[k].l = c) && decide (A.steps[k].t = (q : Int))) = false := by
        rw [hf, ht]
        simp
        intro h1 h2
        omega
      simp [this]
  by_cases h : A.steps[k].l = c
  · rw [if_pos h]
    refine tab_ext (tOk_let _ _).1 (by rw [List.length_set]; exact (tOk_let _ _).1) fun p q hp hq => ?_
    rw [hat p q hp hq, at_set (tOk_let _ _).1 hp hq f3 t3]
    by_cases h2 : p = f ∧ q = t
    · rw [if_pos ⟨h, h2⟩, if_pos h2]
    · rw [if_neg (fun k => h2 k.2), if_neg h2]
  · rw [if_neg h]
    refine tab_ext (tOk_let _ _).1 (tOk_let _ _).1 fun p q hp hq => ?_
    rw [hat p q hp hq, if_neg (fun k => h k.1)]

theorem let_nil {A : Aut} {c : Int} : letT (cutA A 0) c = List.replicate 9 0 := by
  unfold letT cutA
  simp [mkT]
  rfl

theorem let_whole {A : Aut} {c : Int} : letT (cutA A A.steps.length) c = letT A c := by
  unfold letT cutA
  simp

/-- Sets of states, step by step. -/
theorem bits3_with (P : Nat → Bool) {q : Nat} (hq : q < 3) : bits3 P ||| 1 <<< q = bits3 (fun x => P x || x == q) := by
  have : q = 0 ∨ q = 1 ∨ q = 2 := by omega
  unfold bits3
  rcases this with rfl | rfl | rfl <;> cases h0 : P 0 <;> cases h1 : P 1 <;> cases h2 : P 2 <;> simp [h0, h1, h2]

theorem bits3_congr {P Q : Nat → Bool} (h : ∀ q, q < 3 → P q = Q q) : bits3 P = bits3 Q := by
  unfold bits3
  rw [h 0 (by omega), h 1 (by omega), h 2 (by omega)]

/-- Where one may be led, k firsts and j states done. -/
def leadSt (fs : List Int) (t : List Nat) (k j q : Nat) : Bool := (fs.take k).any (fun x => atT t x.toNat q != 0) || decide (q < j) && atT t (fs.getD k 0).toNat q != 0

theorem leadSt_nil {fs : List Int} {t : List Nat} : bits3 (leadSt fs t 0 0) = 0 := by simp [bits3, leadSt]

theorem leadSt_next {fs : List Int} {t : List Nat} {k : Nat} (hk : k < fs.length) : bits3 (leadSt fs t k 3) = bits3 (leadSt fs t (k + 1) 0) := bits3_congr fun q hq => by
  unfold leadSt
  rw [List.take_succ_eq_append_getElem hk, List.any_append]
  simp [hq, List.getD, hk]

theorem leadSt_yes {fs : List Int} {t : List Nat} {k j : Nat} (hj : j < 3) (h : atT t (fs.getD k 0).toNat j ≠ 0) : bits3 (leadSt fs t k j) ||| 1 <<< j = bits3 (leadSt fs t k (j + 1)) := by
  rw [bits3_with _ hj]
  refine bits3_congr fun q hq => ?_
  unfold leadSt
  generalize (fs.getD k 0).toNat = x at *
  by_cases e : q = j
  · subst e
    simp [h]
  · have e1 : (q == j) = false := by simpa using e
    have e2 : decide (q < j + 1) = decide (q < j) := by
      rw [decide_eq_decide]; omega
    rw [e1, e2, Bool.or_false]

theorem leadSt_no {fs : List Int} {t : List Nat} {k j : Nat} (h : atT t (fs.getD k 0).toNat j = 0) : bits3 (leadSt fs t k j) = bits3 (leadSt fs t k (j + 1)) := bits3_congr fun q hq => by
  unfold leadSt
  generalize (fs.getD k 0).toNat = x at *
  by_cases e : q = j
  · subst e
    simp [h]
  · have e2 : decide (q < j + 1) = decide (q < j) := by
      rw [decide_eq_decide]; omega
    rw [e2]

theorem leadSt_all {A : Aut} {t : List Nat} : bits3 (leadSt A.first t A.first.length 0) = bits3 (ledB3 A t) := bits3_congr fun q hq => by
  unfold leadSt ledB3
  simp

/-- From where one takes, p states and j ways on done. -/
def takeSt (t : List Nat) (k j q : Nat) : Bool := decide (q < k) && (List.range 3).any (fun o => atT t q o != 0 && atT t o o == 2) || decide (q = k) && (List.range j).any (fun o => atT t q o != 0 && atT t o o == 2)

theorem takeSt_nil {t : List Nat} : bits3 (takeSt t 0 0) = 0 := by simp [bits3, takeSt]

theorem takeSt_next {t : List Nat} {k : Nat} : bits3 (takeSt t k 3) = bits3 (takeSt t (k + 1) 0) := bits3_congr fun q hq => by
  unfold takeSt
  by_cases e : q = k
  · subst e
    simp
  · have e2 : decide (q < k + 1) = decide (q < k) := by
      rw [decide_eq_decide]; omega
    rw [e2]
    simp [e]

theorem takeSt_yes {t : List Nat} {k j : Nat} (hk : k < 3) (h1 : atT t k j ≠ 0) (h2 : atT t j j = 2) : bits3 (takeSt t k j) ||| 1 <<< k = bits3 (takeSt t k (j + 1)) := by
  rw [bits3_with _ hk]
  refine bits3_congr fun q hq => ?_
  unfold takeSt
  rw [show List.range (j + 1) = List.range j ++ [j] from List.range_succ, List.any_append]
  by_cases e : q = k
  · subst e
    simp [h1, h2]
  · have e1 : (q == k) = false := by simpa using e
    simp [e, e1]

theorem takeSt_no {t : List Nat} {k j : Nat} (h : atT t k j = 0 ∨ atT t j j ≠ 2) : bits3 (takeSt t k j) = bits3 (takeSt t k (j + 1)) := bits3_congr fun q hq => by
  unfold takeSt
  rw [show List.range (j + 1) = List.range j ++ [j] from List.range_succ, List.any_append]
  by_cases e : q = k
  · subst e
    rcases h with h | h
    · simp [h]
    · have : (atT t j j == 2) = false := by simpa using h
      simp [this]
  · simp [e]

theorem takeSt_all {t : List Nat} : bits3 (takeSt (againT t) 3 0) = bits3 (takB3 t) := bits3_congr fun q hq => by
  unfold takeSt takB3
  simp [hq]

/-- A box. -/
def bOk (b : List Nat × List Nat) : Prop := tOk b.1 ∧ tOk b.2

theorem bOk_none : bOk bxNone := ⟨tOk_id, tOk_id⟩
theorem bOk_next {A B : Aut} {b : List Nat × List Nat} (h : bOk b) (c : Nat) : bOk (bxNext A B b c) := ⟨tOk_then h.1 (tOk_let _ _), tOk_then h.2 (tOk_let _ _)⟩

def code3 : List Nat → Nat
  | [] => 0
  | x :: l => x + 3 * code3 l

theorem code3_lt : ∀ {l : List Nat}, (∀ x ∈ l, x ≤ 2) → code3 l < 3 ^ l.length
  | [], _ => by simp [code3]
  | x :: l, h => by
    have ih := code3_lt (l := l) (fun y hy => h y (List.mem_cons_of_mem _ hy))
    have hx := h x (List.mem_cons_self ..)
    show x + 3 * code3 l < 3 ^ (l.length + 1)
    rw [Nat.pow_succ]
    omega

theorem code3_inj : ∀ {l k : List Nat}, l.length = k.length → (∀ x ∈ l, x ≤ 2) → (∀ x ∈ k, x ≤ 2) → code3 l = code3 k → l = k
  | [], [], _, _, _, _ => rfl
  | [], _ :: _, h, _, _, _ => by simp at h
  | _ :: _, [], h, _, _, _ => by simp at h
  | x :: l, y :: k, h, h1, h2, e => by
    have e : x + 3 * code3 l = y + 3 * code3 k := e
    have a := h1 x (List.mem_cons_self ..)
    have b := h2 y (List.mem_cons_self ..)
    have ih := code3_inj (l := l) (k := k) (by simpa using h) (fun z hz => h1 z (List.mem_cons_of_mem _ hz)) (fun z hz => h2 z (List.mem_cons_of_mem _ hz)) (by omega)
    rw [ih, show x = y by omega]

theorem few_boxes {l : List (List Nat × List Nat)} (hn : l.Nodup) (h : ∀ b ∈ l, bOk b) : l.length ≤ 387420489 := by
  have hnd : (l.map fun b => code3 (b.1 ++ b.2)).Nodup := by
    rw [List.Nodup, List.pairwise_map]
    refine List.Pairwise.imp_of_mem ?_ hn
    intro a b ha hb hab e
    have h1 := h a ha
    have h2 := h b hb
    have ee := code3_inj (by rw [List.length_append, List.length_append, h1.1.1, h1.2.1, h2.1.1, h2.2.1]) (fun x hx => (List.mem_append.1 hx).elim (h1.1.2 x) (h1.2.2 x)) (fun x hx => (List.mem_append.1 hx).elim (h2.1.2 x) (h2.2.2 x)) e
    obtain ⟨e1, e2⟩ := List.append_inj ee (by rw [h1.1.1, h2.1.1])
    exact hab (Prod.ext e1 e2)
  have := nodup_le 387420489 _ hnd (fun q hq => by
    obtain ⟨b, hb, rfl⟩ := List.mem_map.1 hq
    have h1 := h b hb
    have := code3_lt (l := b.1 ++ b.2) (fun x hx => (List.mem_append.1 hx).elim (h1.1.2 x) (h1.2.2 x))
    rw [List.length_append, h1.1.1, h1.2.1] at this
    exact this)
  simpa using this

end Go.Proofs.YtpiacnnifdjlkabDoor

namespace Go.Proofs.YtpiacnnifdjlkabDoor
open Go.RowKit Go.Sort

/-- Marks as they lie in memory. -/
def tE (t : List Nat) : List Value := t.map fun n => .int .u8 (n : Nat)
abbrev tV (t : List Nat) : Value := .agg (tE t).toArray

theorem tE_len (t : List Nat) : (tE t).length = t.length := by simp [tE]
theorem tE_one (t : List Nat) : (tE t).toArray.all (·.oneCell') = true := by
  rw [Array.all_eq_true]
  intro i hi
  simp [tE, Value.oneCell']
theorem tE_at {t : List Nat} {k : Nat} (h : k < t.length) : (tE t)[k]? = some (.int .u8 (t.getD k 0 : Nat)) := by simp [tE, List.getD, h]
theorem tE_set (t : List Nat) (k v : Nat) : (tE t).set k (.int .u8 (v : Nat)) = tE (t.set k v) := by simp [tE, List.map_set]

theorem tabUnder : Tryd.prog.underlying 109 = some (.array 3 107) := by kernel_rfl
theorem markUnder : Tryd.prog.underlying 107 = some (.array 3 106) := by kernel_rfl
theorem boxUnder : Tryd.prog.underlying 111 = some (.array 2 109) := by kernel_rfl
theorem tabSize : (Tryd.prog.info? 109).map (·.size) = some 9 := by kernel_rfl
theorem rowSize : (Tryd.prog.info? 107).map (·.size) = some 3 := by kernel_rfl
theorem boxSize : (Tryd.prog.info? 111).map (·.size) = some 18 := by kernel_rfl

theorem range_row {w : World} {b : Nat} {c : Array Value} {t : TypeId} {fz : Nat × Nat} (h : w.heap[b]? = some (.cells c t fz)) (o n : Nat) : w.rangeAt b o ((c.toList.drop o).take n) := by
  intro j v hv
  rw [cell_of_row _ _ _ _ _ _ h]
  rw [List.getElem?_take] at hv
  split at hv
  · rw [List.getElem?_drop] at hv
    simpa using hv
  · cases hv

theorem there_row {w : World} {b : Nat} {c : Array Value} {t : TypeId} (h : w.heap[b]? = some (.cells c t)) {o n : Nat} (hn : o + n ≤ c.size) : w.there b o n := by
  intro j hj
  rw [cell_of_row _ _ _ _ _ _ h]
  refine ⟨by rw [Array.getElem?_eq_getElem (by omega)]; rfl, by simp [World.frozen?, h]⟩

/-- A whole array is read. -/
theorem load_row {w : World} {b : Nat} {c : Array Value} {t : TypeId} {fz : Nat × Nat} (h : w.heap[b]? = some (.cells c t fz)) {ty e : TypeId} {n : Nat} (hu : Tryd.prog.underlying ty = some (.array n e)) (hi : (Tryd.prog.info? ty).map (·.size) = some c.size) :
    (Instr.loadAt ty (.pointer (some ⟨b, 0, none⟩))).run Tryd.prog w = .ok (.agg c) w := by
  have hr := range_row h 0 c.size
  rw [List.drop_zero, List.take_of_length_le (by simp)] at hr
  have := run_loadAt_mid (P := Tryd.prog) w b 0 ty c.toList _ hr hu rfl (by simpa using hi)
  simpa using this

/-- A part of it is read. -/
theorem load_part {w : World} {b : Nat} {c : Array Value} {t : TypeId} {fz : Nat × Nat} (h : w.heap[b]? = some (.cells c t fz)) (o : Nat) {ty e : TypeId} {n m : Nat} (hu : Tryd.prog.underlying ty = some (.array n e)) (hi : (Tryd.prog.info? ty).map (·.size) = some m) (hm : o + m ≤ c.size) :
    (Instr.loadAt ty (.pointer (some ⟨b, o, none⟩))).run Tryd.prog w = .ok (.agg ((c.toList.drop o).take m).toArray) w :=
  run_loadAt_mid (P := Tryd.prog) w b o ty _ _ (range_row h o m) hu rfl (by rw [hi, List.length_take, List.length_drop]; simp; omega)

/-- A whole array is stored. -/
theorem store_row {w : World} {b : Nat} {old cs : Array Value} {t ty : TypeId} (h : w.heap[b]? = some (.cells old t)) (hi : (Tryd.prog.info? ty).map (·.size) = some cs.size) (hz : old.size = cs.size) (h1 : cs.all (·.oneCell') = true) :
    (Instr.storeAt ty (.pointer (some ⟨b, 0, none⟩)) (.agg cs)).run Tryd.prog w = .ok () (w.setRow b cs) := by
  simp only [Instr.storeAt, Instr.sureAddr, Sem.run_bind, Sem.run_pure, Result.andThen_ok, run_storeVar_row w b t ty old cs h hi hz h1]

theorem below_setRow {B : Nat} {w0 w : World} {b : Nat} (h : Below B w0 w) (hb : B ≤ b) (cs : Array Value) : Below B w0 (w.setRow b cs) where
  os := h.os
  tape := h.tape
  output := h.output
  size := by rw [setRow_size]; exact h.size
  block := fun k hk => by rw [setRow_other w b k cs (by omega)]; exact h.block k hk

/-- A row of a table, by value. -/
def rowT (t : List Nat) (k : Nat) : List Nat := (t.drop (3 * k)).take 3
theorem rowT_len {t : List Nat} (h : t.length = 9) {k : Nat} (hk : k < 3) : (rowT t k).length = 3 := by simp [rowT, h]; omega
theorem rowT_at {t : List Nat} {k j : Nat} (hj : j < 3) : (rowT t k).getD j 0 = atT t k j := by
  unfold rowT atT
  simp [List.getD, hj]

theorem tE_part (t : List Nat) (o m : Nat) : ((tE t).drop o).take m = tE ((t.drop o).take m) := by simp [tE, List.map_take, List.map_drop]

theorem info_of_size {ty : TypeId} {m : Nat} (hi : (Tryd.prog.info? ty).map (·.size) = some m) : ∃ i, Tryd.prog.info? ty = some i ∧ i.size = m := by
  cases hq : Tryd.prog.info? ty with
  | none => rw [hq] at hi; cases hi
  | some i => exact ⟨i, rfl, by rw [hq] at hi; simpa using hi⟩

theorem size_run {ty : TypeId} {m : Nat} (hi : (Tryd.prog.info? ty).map (·.size) = some m) (w : World) : (sizeOf ty).run Tryd.prog w = .ok m w := by
  obtain ⟨i, hq, hs⟩ := info_of_size hi
  simp [sizeOf, typeInfo, hq, hs]

/-- A part of an array's value. -/
theorem part_agg {ty e : TypeId} {n m : Nat} (hu : Tryd.prog.underlying ty = some (.array n e)) (hi : (Tryd.prog.info? ty).map (·.size) = some m) (t : List Nat) (o : Nat) (w : World) : (part ty (tE t).toArray o).run Tryd.prog w = .ok (tV ((t.drop o).take m)) w := by
  have ha : (isAgg ty).run Tryd.prog w = .ok true w := by simp [isAgg, Sem.run_bind, run_underlying hu]
  simp only [part, Sem.run_bind, ha, Result.andThen_ok, if_true, size_run hi, Sem.run_pure]
  simp [tE_part]

theorem part_mark (t : List Nat) {o : Nat} (ho : o < t.length) (w : World) : (part 106 (tE t).toArray o).run Tryd.prog w = .ok (.int .u8 (t.getD o 0 : Nat)) w := by
  have hu : Tryd.prog.underlying 106 = some (.int .u8) := by kernel_rfl
  have ha : (isAgg 106).run Tryd.prog w = .ok false w := by simp [isAgg, Sem.run_bind, run_underlying hu]
  have hx : (tE t).toArray[o]? = some (.int .u8 (t.getD o 0 : Nat)) := by rw [List.getElem?_toArray]; exact tE_at ho
  simp [part, Sem.run_bind, ha, hx]

theorem cells_row : Tryd.prog.cellsOf 107 = 3 := by kernel_rfl
theorem cells_tab : Tryd.prog.cellsOf 109 = 9 := by kernel_rfl
theorem cells_mark : Tryd.prog.cellsOf 106 = 1 := by kernel_rfl

theorem tab_index {t : List Nat} {k : Nat} (hk : k < 3) (w : World) : (Instr.index 109 (tV t) (.int .i64 (k : Nat))).run Tryd.prog w = .ok (tV (rowT t k)) w := by
  have hk' : (0 : Int) ≤ (k : Nat) ∧ ((k : Nat) : Int) < (3 : Nat) := by omega
  unfold Instr.index
  simp only [asIntOf, Sem.run_bind, Sem.run_pure, Result.andThen_ok, run_underlying tabUnder, if_pos hk', size_run rowSize, Int.toNat_natCast, part_agg markUnder rowSize]
  rw [Nat.mul_comm]
  rfl

theorem row_index {r : List Nat} (h : r.length = 3) {k : Nat} (hk : k < 3) (w : World) : (Instr.index 107 (tV r) (.int .i64 (k : Nat))).run Tryd.prog w = .ok (.int .u8 (r.getD k 0 : Nat)) w := by
  have hk' : (0 : Int) ≤ (k : Nat) ∧ ((k : Nat) : Int) < (3 : Nat) := by omega
  have hz : (Tryd.prog.info? 106).map (·.size) = some 1 := by kernel_rfl
  unfold Instr.index
  simp only [asIntOf, Sem.run_bind, Sem.run_pure, Result.andThen_ok, run_underlying markUnder, if_pos hk', size_run hz, Int.toNat_natCast, Nat.mul_one, part_mark r (show k < r.length by omega)]

/-- A result that lies in memory. -/
theorem res_cell {fn : Func} {tm : Array Value} {s : Nat} {ty : TypeId} {p : Addr} {v : Value} {w : World} (hL : (loadVar ty p).run Tryd.prog w = .ok v w) (hr : fn.results = #[.cell s ty]) (hp : tm[s]?.getD undef = .pointer (some p)) : (results fn tm).run Tryd.prog w = .ok v w := by
  unfold results
  rw [hr]
  simp [hp, asAddr, hL]

theorem loadV_row {w : World} {b : Nat} {c : Array Value} {t : TypeId} {fz : Nat × Nat} (h : w.heap[b]? = some (.cells c t fz)) {ty : TypeId} {d : TypeDesc} (hu : Tryd.prog.underlying ty = some d) (hd : d.isRow = true) (hi : (Tryd.prog.info? ty).map (·.size) = some c.size) :
    (loadVar ty ⟨b, 0, none⟩).run Tryd.prog w = .ok (.agg c) w := by
  have hr := range_row h 0 c.size
  rw [List.drop_zero, List.take_of_length_le (by simp)] at hr
  have := run_loadVar_mid (P := Tryd.prog) w b 0 ty c.toList _ hr hu hd (by simpa using hi)
  simpa using this

/-- What an operation answers, where that is known. -/
theorem wpl_load {ops : Array Oper} {rest : List Oper} {o : Oper} {a : Act} {w : World} {Q : Exit → Act → World → Prop} {ty : TypeId} {x : Operand} {p v : Value} (hL : (Instr.loadAt ty p).run Tryd.prog w = .ok v w) (hgd : o.guard = none) (ho : o.op = .load ty x) (hx : a.eval x = p)
    (h : wpList Tryd.prog ops Q rest (a.put o.dst v) w) : wpList Tryd.prog ops Q (o :: rest) a w :=
  wpList_plain hgd fun _ hK => by
    unfold Oper.wp execOp
    simp only [ho, hx, Sem.run_bind, hL, Sem.run_pure, Result.andThen_ok]
    exact hK _ _ h

theorem wpl_store {ops : Array Oper} {rest : List Oper} {o : Oper} {a : Act} {w w' : World} {Q : Exit → Act → World → Prop} {ty : TypeId} {x y : Operand} {p v : Value} (hS : (Instr.storeAt ty p v).run Tryd.prog w = .ok () w') (hgd : o.guard = none) (ho : o.op = .store ty x y) (hx : a.eval x = p) (hy : a.eval y = v)
    (h : wpList Tryd.prog ops Q rest (a.put o.dst undef) w') : wpList Tryd.prog ops Q (o :: rest) a w :=
  wpList_plain hgd fun _ hK => by
    unfold Oper.wp execOp
    simp only [ho, hx, hy, Sem.run_bind, hS, Sem.run_pure, Result.andThen_ok]
    exact hK _ _ h

theorem wpl_index {ops : Array Oper} {rest : List Oper} {o : Oper} {a : Act} {w : World} {Q : Exit → Act → World → Prop} {ty : TypeId} {x y : Operand} {p k v : Value} (hI : (Instr.index ty p k).run Tryd.prog w = .ok v w) (hgd : o.guard = none) (ho : o.op = .index ty x y) (hx : a.eval x = p) (hy : a.eval y = k)
    (h : wpList Tryd.prog ops Q rest (a.put o.dst v) w) : wpList Tryd.prog ops Q (o :: rest) a w :=
  wpList_plain hgd fun _ hK => by
    unfold Oper.wp execOp
    simp only [ho, hx, hy, Sem.run_bind, hI, Sem.run_pure, Result.andThen_ok]
    exact hK _ _ h

theorem run_append_big (w : World) (ty t e base n sz by_ : Nat) (hT : ElT t e sz by_) (v : Value) (xs : List Value) (hown : w.ownsRow base e sz v n xs) (B c : Nat) (news : List Value) (hnl : news.length = sz) (hc : ∀ j u, news[j]? = some u → w.cell? ⟨B, j, none⟩ = some u) (h1 : ∀ u ∈ news, u.oneCell' = true) (hn : n ≤ 1000000000) (hbase : base ≤ w.heap.size) :
    ∃ g' cap' w', (Builtin.append_ #[t, t] ty #[v, .slice (some ⟨B, 0, none⟩) 1 c]).run Tryd.prog w = .ok (.slice (some ⟨g', 0, none⟩) (n + 1) cap') w' ∧ w'.ownsRow base e sz (.slice (some ⟨g', 0, none⟩) (n + 1) cap') (n + 1) (xs ++ news) ∧ w.grownBy w' v.ownBlock ∧ (v.ownBlock = some g' ∨ g' = w.heap.size) ∧ base ≤ g' := by
  obtain ⟨i, z, hi, hz, hzs, his, hib⟩ := hT.info
  have hp := hT.pos
  have hf := hT.few
  obtain ⟨v', w', hr, h2, h3, _, h5⟩ := run_append_own_at (P := Tryd.prog) w base t ty e i z sz by_ hT.under hi hz his hib hzs hp v n xs hown ⟨B, 0, none⟩ 1 c news (by omega) (fun j u hu => by rw [add_none, Nat.zero_add]; exact hc j u hu) h1 (by unfold maxLen; omega) (by have : (n + 1) * by_ ≤ 1000000001 * 64 := Nat.mul_le_mul (by omega) hf.2; omega) hbase
  obtain ⟨g', cap', rfl, hb⟩ := owns_slice h2
  refine ⟨g', cap', w', hr, h2, h3, ?_, hb⟩
  rcases h5 with h5 | h5
  · left; rw [← h5]; rfl
  · right; simpa [Value.ownBlock] using h5

theorem step_append_big {ops : Array Oper} {o : Oper} {a : Act} {K : Act → World → Prop} {Q : Exit → Act → World → Prop} {E : Prop} {w : World} (hgd : o.guard = none) (s x : Operand) (t e sz by_ : Nat)
    (ho : o.op = .call { callee := .builtin .append, args := #[s, x], argTypes := #[t, t] }) (hT : ElT t e sz by_) (base n : Nat) (v : Value) (xs : List Value) (hs : a.eval s = v)
    (hown : w.ownsRow base e sz v n xs) (B c : Nat) (news : List Value) (hx : a.eval x = .slice (some ⟨B, 0, none⟩) 1 c) (hnl : news.length = sz) (hc : ∀ j u, news[j]? = some u → w.cell? ⟨B, j, none⟩ = some u) (h1 : ∀ u ∈ news, u.oneCell' = true) (hn : n ≤ 1000000000) (hbase : base ≤ w.heap.size)
    (h : ∀ g' cap' w', w'.ownsRow base e sz (.slice (some ⟨g', 0, none⟩) (n + 1) cap') (n + 1) (xs ++ news) → w.grownBy w' v.ownBlock → (v.ownBlock = some g' ∨ g' = w.heap.size) → base ≤ g' → K (a.put o.dst (.slice (some ⟨g', 0, none⟩) (n + 1) cap')) w') :
    if Region.wanted o (yielded ops a.tmps) = true then Oper.wp Tryd.prog o a w K Q else E := by
  have hw : Region.wanted o (yielded ops a.tmps) = true := by simp [Region.wanted, hgd]
  rw [if_pos hw]
  obtain ⟨g', cap', w', hr, h2, h3, h4, h5⟩ := run_append_big w o.type t e base n sz by_ hT v xs hown B c news hnl hc h1 hn hbase
  unfold Oper.wp execOp
  simp only [ho, resolve, invoke, builtin, Sem.run_bind, Sem.run_pure, Result.andThen_ok, List.map_toArray, List.map_cons, List.map_nil, hs, hx, hr]
  exact h g' cap' w' h2 h3 h4 h5

theorem wpList_append_big (w : World) {ops : Array Oper} {rest : List Oper} {o : Oper} {a : Act} {Q : Exit → Act → World → Prop} (hgd : o.guard = none) (s x : Operand) (t e sz by_ : Nat)
    (ho : o.op = .call { callee := .builtin .append, args := #[s, x], argTypes := #[t, t] }) (hT : ElT t e sz by_) (base n : Nat) (v : Value) (xs : List Value) (hs : a.eval s = v)
    (hown : w.ownsRow base e sz v n xs) (B c : Nat) (news : List Value) (hx : a.eval x = .slice (some ⟨B, 0, none⟩) 1 c) (hnl : news.length = sz) (hc : ∀ j u, news[j]? = some u → w.cell? ⟨B, j, none⟩ = some u) (h1 : ∀ u ∈ news, u.oneCell' = true) (hn : n ≤ 1000000000) (hbase : base ≤ w.heap.size)
    (h : ∀ g' cap' w', w'.ownsRow base e sz (.slice (some ⟨g', 0, none⟩) (n + 1) cap') (n + 1) (xs ++ news) → w.grownBy w' v.ownBlock → (v.ownBlock = some g' ∨ g' = w.heap.size) → base ≤ g' → wpList Tryd.prog ops Q rest (a.put o.dst (.slice (some ⟨g', 0, none⟩) (n + 1) cap')) w') : wpList Tryd.prog ops Q (o :: rest) a w := by
  obtain ⟨g', cap', w', hr, h2, h3, h4, h5⟩ := run_append_big w o.type t e base n sz by_ hT v xs hown B c news hnl hc h1 hn hbase
  refine wpList_plain hgd fun K hK => ?_
  unfold Oper.wp execOp
  simp only [ho, resolve, invoke, builtin, Sem.run_bind, Sem.run_pure, Result.andThen_ok, List.map_toArray, List.map_cons, List.map_nil, hs, hx, hr]
  exact hK _ _ (h g' cap' w' h2 h3 h4 h5)

end Go.Proofs.YtpiacnnifdjlkabDoor
