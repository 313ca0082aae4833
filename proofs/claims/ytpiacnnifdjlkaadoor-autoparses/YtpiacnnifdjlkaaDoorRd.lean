/-
  A region that draws its order and whose last operation waits for all others: one obligation for each of those, whatever the order, then the last one; one of them (X) turns what is known of the world.
-/
import Derived.Test.YtpiacnnifdjlkaaDoorIn
import Derived.Test.YtpiacnnifdjlkaaDoorRc
/-
  What a text says: what is printed is read as it was, and nothing else is: plain mathematics.
-/
namespace Go.Proofs.YtpiacnnifdjlkaaDoor

def wStates : List UInt8 := [115, 116, 97, 116, 101, 115]
def wLetters : List UInt8 := [108, 101, 116, 116, 101, 114, 115]
def wGood : List UInt8 := [103, 111, 111, 100]

/-- Numbers rise, from behind one on, and stay below another one. -/
def risesB (n : Int) : Int → List Int → Bool
  | _, [] => true
  | last, s :: l => decide (last < s) && decide (s < n) && risesB n s l

/-- The states of so many that are named. -/
def markL (n : Nat) (zs : List Int) : List Bool := (List.range n).map fun q : Nat => zs.any fun z => decide (z = (q : Int))

def sizeB (ws : List (List UInt8)) : Bool := decide (ws.length = 4) && decide (ws.getD 0 [] = wStates) && decide (ws.getD 2 [] = wLetters) && (numW (ws.getD 1 [])).isSome && (numW (ws.getD 3 [])).isSome && decide (1 ≤ (numW (ws.getD 1 [])).getD 0) && decide ((numW (ws.getD 1 [])).getD 0 ≤ 300)
def firstB (ws : List (List UInt8)) : Bool := okWs ws.tail && decide (ws.getD 0 [] = wFirst)
def goodB (n : Int) (ws : List (List UInt8)) : Bool := okWs ws.tail && decide (ws.getD 0 [] = wGood) && risesB n (-1) (valsW ws.tail)
def stepB (ws : List (List UInt8)) : Bool := decide (ws.length = 3) && okWs ws
def stepW (ws : List (List UInt8)) : Stp := ⟨(valsW ws).getD 0 0, (valsW ws).getD 1 0, (valsW ws).getD 2 0⟩

/-- Is line i (from 0 on) of its form? -/
def lineB (i : Nat) (ws : List (List UInt8)) (A : Aut) : Bool :=
  if i = 0 then sizeB ws else if i = 1 then firstB ws else if i = 2 then goodB A.n ws else stepB ws

/-- What it says, if it is. -/
def lineA (i : Nat) (ws : List (List UInt8)) (A : Aut) : Aut :=
  if i = 0 then ⟨((numW (ws.getD 1 [])).getD 0 : Nat), ((numW (ws.getD 3 [])).getD 0 : Nat), [], [], []⟩
  else if i = 1 then { A with first := valsW ws.tail }
  else if i = 2 then { A with good := markL A.n.toNat (valsW ws.tail) }
  else { A with steps := A.steps ++ [stepW ws] }

/-- What lines say, from line i on: an automaton and 0, or the number of the first line that is not of its form. -/
def readL : Nat → Aut → List (List UInt8) → Aut × Nat
  | i, _, [] => (zeroA, i + 1)
  | i, A, [l] => if 3 ≤ i ∧ l = [] then (A, 0) else (zeroA, i + 1)
  | i, A, l :: l2 :: ls => if lineB i (spl 32 l) A = true then readL (i + 1) (lineA i (spl 32 l) A) (l2 :: ls) else (zeroA, i + 1)

/-- What a text says. -/
def readT (s : List UInt8) : Aut × Nat := readL 0 zeroA (spl 10 s)

/-! ### What is printed is read -/

theorem itoa_nat {z : Int} (h : 0 ≤ z) : Lib.itoa z = Lib.decDigits z.toNat := by
  unfold Lib.itoa
  rw [if_neg (by omega)]

theorem itoa_free {z : Int} (h : 0 ≤ z) {c : UInt8} (hc : isDg c = false) : c ∉ Lib.itoa z := by
  rw [itoa_nat h]
  intro hm
  have := List.all_eq_true.1 (decDigits_dg z.toNat) c hm
  rw [hc] at this
  cases this

theorem numW_itoa {z : Int} (h : 0 ≤ z) (h1 : z < 1000000) : numW (Lib.itoa z) = some z.toNat := by
  rw [itoa_nat h]
  exact numW_dec (by omega)

theorem spl_nums {x : List UInt8} (hx : (32 : UInt8) ∉ x) : ∀ (zs : List Int), (∀ z ∈ zs, 0 ≤ z) → spl 32 (x ++ numsT zs) = x :: zs.map Lib.itoa := by
  intro zs
  induction zs generalizing x with
  | nil => intro _; simp [numsT, spl_none hx]
  | cons z zs ih =>
    intro h
    have e : x ++ numsT (z :: zs) = x ++ 32 :: (Lib.itoa z ++ numsT zs) := by simp [numsT]
    rw [e, spl_app _ hx, ih (itoa_free (h z List.mem_cons_self) (by decide)) (fun y hy => h y (List.mem_cons_of_mem _ hy))]
    rfl

theorem numsT_free {zs : List Int} (h : ∀ z ∈ zs, 0 ≤ z) : (10 : UInt8) ∉ numsT zs := by
  intro hm
  obtain ⟨z, hz, hm⟩ := List.mem_flatMap.1 hm
  rcases List.mem_cons.1 hm with hm | hm
  · exact absurd hm (by decide)
  · exact itoa_free (h z hz) (by decide) hm

theorem okWs_itoa {zs : List Int} (h : ∀ z ∈ zs, 0 ≤ z ∧ z < 1000000) : okWs (zs.map Lib.itoa) = true := by
  unfold okWs
  rw [List.all_eq_true]
  intro T hT
  obtain ⟨z, hz, rfl⟩ := List.mem_map.1 hT
  rw [numW_itoa (h z hz).1 (h z hz).2]
  rfl

theorem valsW_itoa {zs : List Int} (h : ∀ z ∈ zs, 0 ≤ z ∧ z < 1000000) : valsW (zs.map Lib.itoa) = zs := by
  unfold valsW
  rw [List.map_map]
  conv => rhs; rw [← List.map_id zs]
  refine List.map_congr_left fun z hz => ?_
  have := h z hz
  simp only [Function.comp, numW_itoa this.1 this.2, Option.getD_some, id]
  omega

theorem goods_pairs (gd : List Bool) (n : Nat) : (goods gd n).Pairwise (fun a b => a < b) := by
  unfold goods
  rw [List.pairwise_map]
  refine (List.Pairwise.filter _ List.pairwise_lt_range).imp ?_
  intro a b h
  omega

theorem goods_mem {gd : List Bool} {n : Nat} {z : Int} : z ∈ goods gd n ↔ ∃ q : Nat, z = q ∧ q < n ∧ gd.getD q false = true := by
  unfold goods
  constructor
  · intro h
    obtain ⟨q, hq, rfl⟩ := List.mem_map.1 h
    obtain ⟨h1, h2⟩ := List.mem_filter.1 hq
    exact ⟨q, rfl, List.mem_range.1 h1, h2⟩
  · rintro ⟨q, rfl, h1, h2⟩
    exact List.mem_map.2 ⟨q, List.mem_filter.2 ⟨List.mem_range.2 h1, h2⟩, rfl⟩

theorem risesB_of {n : Int} : ∀ {l : List Int} {last : Int}, (∀ z ∈ l, last < z ∧ z < n) → l.Pairwise (fun a b => a < b) → risesB n last l = true
  | [], _, _, _ => rfl
  | s :: l, last, h, hp => by
    have hs := h s List.mem_cons_self
    obtain ⟨h1, h2⟩ := List.pairwise_cons.1 hp
    unfold risesB
    rw [decide_eq_true hs.1, decide_eq_true hs.2, risesB_of (fun z hz => ⟨h1 z hz, (h z (List.mem_cons_of_mem _ hz)).2⟩) h2]
    rfl

theorem markL_goods (gd : List Bool) : markL gd.length (goods gd gd.length) = gd := by
  unfold markL
  refine List.ext_getElem (by simp) fun i h1 h2 => ?_
  simp only [List.getElem_map, List.getElem_range]
  rw [Bool.eq_iff_iff, List.any_eq_true]
  constructor
  · rintro ⟨z, hz, e⟩
    have e := of_decide_eq_true e
    obtain ⟨q, rfl, hq, hg⟩ := goods_mem.1 hz
    obtain rfl : q = i := by omega
    simpa [List.getD, hq] using hg
  · intro hg
    exact ⟨(i : Int), goods_mem.2 ⟨i, rfl, h2, by simpa [List.getD, h2] using hg⟩, by simp⟩

theorem readL_steps {A : Aut} {ss : List Stp} (hb : ∀ s ∈ ss, 0 ≤ s.f ∧ s.f < 1000000 ∧ 0 ≤ s.l ∧ s.l < 1000000 ∧ 0 ≤ s.t ∧ s.t < 1000000) : ∀ {i : Nat}, 3 ≤ i → readL i A (spl 10 (ss.flatMap stepT)) = ({ A with steps := A.steps ++ ss }, 0) := by
  induction ss generalizing A with
  | nil =>
    intro i hi
    simp [spl, readL, hi]
  | cons s ss ih =>
    intro i hi
    have hs := hb s List.mem_cons_self
    have hz : ∀ z ∈ [s.f, s.l, s.t], 0 ≤ z ∧ z < 1000000 := by
      intro z hz
      simp at hz
      rcases hz with rfl | rfl | rfl
      · exact ⟨hs.1, hs.2.1⟩
      · exact ⟨hs.2.2.1, hs.2.2.2.1⟩
      · exact ⟨hs.2.2.2.2.1, hs.2.2.2.2.2⟩
    have hz0 : ∀ z ∈ [s.l, s.t], 0 ≤ z := fun z hz' => (hz z (List.mem_cons_of_mem _ hz')).1
    have e : (s :: ss).flatMap stepT = (Lib.itoa s.f ++ numsT [s.l, s.t]) ++ 10 :: ss.flatMap stepT := by simp [stepT]
    have hfree : (10 : UInt8) ∉ Lib.itoa s.f ++ numsT [s.l, s.t] := by
      rw [List.mem_append]
      rintro (h | h)
      · exact itoa_free hs.1 (by decide) h
      · exact numsT_free hz0 h
    rw [e, spl_app _ hfree]
    obtain ⟨l2, ls, hls⟩ := List.exists_cons_of_ne_nil (spl_ne 10 (ss.flatMap stepT))
    rw [hls, readL, ← hls]
    have hw : spl 32 (Lib.itoa s.f ++ numsT [s.l, s.t]) = [s.f, s.l, s.t].map Lib.itoa := spl_nums (itoa_free hs.1 (by decide)) _ hz0
    rw [hw]
    have hB : lineB i ([s.f, s.l, s.t].map Lib.itoa) A = true := by
      unfold lineB stepB
      rw [if_neg (by omega), if_neg (by omega), if_neg (by omega), okWs_itoa hz]
      rfl
    have hA : lineA i ([s.f, s.l, s.t].map Lib.itoa) A = { A with steps := A.steps ++ [s] } := by
      unfold lineA stepW
      rw [if_neg (by omega), if_neg (by omega), if_neg (by omega), valsW_itoa hz]
      rfl
    rw [if_pos hB, hA, ih (fun s hs => hb s (List.mem_cons_of_mem _ hs)) (by omega)]
    simp

theorem readT_prt {A : Aut} (hR : Right A) : readT (prtA A) = (A, 0) := by
  have hn := hR.n1
  have hn3 := hR.n3
  have hm := hR.m1
  have hm8 := hR.m8
  have hf : ∀ z ∈ A.first, 0 ≤ z ∧ z < 1000000 := fun z hz => by have := hR.first z hz; omega
  have hgl : (A.good.length : Int) = A.n := hR.good
  have hg : ∀ z ∈ goods A.good A.good.length, 0 ≤ z ∧ z < 1000000 := fun z hz => by
    obtain ⟨q, rfl, hq, _⟩ := goods_mem.1 hz
    omega
  have h1 : (10 : UInt8) ∉ wStates ++ numsT [A.n] ++ 32 :: wLetters ++ numsT [A.m] := by
    simp only [List.mem_append, List.mem_cons]
    rintro (((h | h) | h | h) | h)
    · exact absurd h (by decide)
    · exact numsT_free (by simp; omega) h
    · exact absurd h (by decide)
    · exact absurd h (by decide)
    · exact numsT_free (by simp; omega) h
  have h2 : (10 : UInt8) ∉ wFirst ++ numsT A.first := by
    simp only [List.mem_append]
    rintro (h | h)
    · exact absurd h (by decide)
    · exact numsT_free (fun z hz => (hf z hz).1) h
  have h3 : (10 : UInt8) ∉ wGood ++ numsT (goods A.good A.good.length) := by
    simp only [List.mem_append]
    rintro (h | h)
    · exact absurd h (by decide)
    · exact numsT_free (fun z hz => (hg z hz).1) h
  have e : prtA A = (wStates ++ numsT [A.n] ++ 32 :: wLetters ++ numsT [A.m]) ++ 10 :: ((wFirst ++ numsT A.first) ++ 10 :: ((wGood ++ numsT (goods A.good A.good.length)) ++ 10 :: A.steps.flatMap stepT)) := by
    simp [prtA, headT, wStates, wLetters, wFirst, wGood, numsT]
  unfold readT
  rw [e, spl_app _ h1, spl_app _ h2, spl_app _ h3]
  obtain ⟨l2, ls, hls⟩ := List.exists_cons_of_ne_nil (spl_ne 10 (A.steps.flatMap stepT))
  rw [hls, readL, readL, readL, ← hls]
  have w1 : spl 32 (wStates ++ numsT [A.n] ++ 32 :: wLetters ++ numsT [A.m]) = [wStates, Lib.itoa A.n, wLetters, Lib.itoa A.m] := by
    have e : wStates ++ numsT [A.n] ++ 32 :: wLetters ++ numsT [A.m] = wStates ++ 32 :: (Lib.itoa A.n ++ 32 :: (wLetters ++ numsT [A.m])) := by simp [numsT]
    rw [e, spl_app _ (by decide), spl_app _ (itoa_free (by omega) (by decide)), spl_nums (by decide) _ (by simp; omega)]
    rfl
  have nn := numW_itoa (show 0 ≤ A.n by omega) (by omega)
  have nm := numW_itoa (show 0 ≤ A.m by omega) (by omega)
  have b1 : lineB 0 [wStates, Lib.itoa A.n, wLetters, Lib.itoa A.m] zeroA = true := by
    show sizeB _ = true
    unfold sizeB
    simp only [List.getD_cons_zero, List.getD_cons_succ, List.length_cons, List.length_nil, nn, nm, Option.isSome_some, Option.getD_some]
    simp
    omega
  have a1 : lineA 0 [wStates, Lib.itoa A.n, wLetters, Lib.itoa A.m] zeroA = ⟨A.n, A.m, [], [], []⟩ := by
    unfold lineA
    simp only [if_true, List.getD_cons_zero, List.getD_cons_succ, nn, nm, Option.getD_some]
    congr 1 <;> omega
  rw [w1, if_pos b1, a1, spl_nums (by decide) _ (fun z hz => (hf z hz).1), spl_nums (by decide) _ (fun z hz => (hg z hz).1)]
  have b2 : lineB (0 + 1) (wFirst :: A.first.map Lib.itoa) ⟨A.n, A.m, [], [], []⟩ = true := by
    show firstB _ = true
    unfold firstB
    rw [List.tail_cons, okWs_itoa hf]
    rfl
  have a2 : lineA (0 + 1) (wFirst :: A.first.map Lib.itoa) ⟨A.n, A.m, [], [], []⟩ = ⟨A.n, A.m, A.first, [], []⟩ := by
    show (⟨A.n, A.m, valsW (List.tail (wFirst :: A.first.map Lib.itoa)), [], []⟩ : Aut) = _
    rw [List.tail_cons, valsW_itoa hf]
  rw [if_pos b2, a2]
  have b3 : lineB (0 + 1 + 1) (wGood :: (goods A.good A.good.length).map Lib.itoa) ⟨A.n, A.m, A.first, [], []⟩ = true := by
    show goodB A.n _ = true
    unfold goodB
    rw [List.tail_cons, okWs_itoa hg, valsW_itoa hg, risesB_of (fun z hz => ?_) (goods_pairs _ _)]
    · rfl
    · obtain ⟨q, rfl, hq, _⟩ := goods_mem.1 hz
      omega
  have a3 : lineA (0 + 1 + 1) (wGood :: (goods A.good A.good.length).map Lib.itoa) ⟨A.n, A.m, A.first, [], []⟩ = ⟨A.n, A.m, A.first, A.good, []⟩ := by
    show (⟨A.n, A.m, A.first, markL A.n.toNat (valsW (List.tail (wGood :: (goods A.good A.good.length).map Lib.itoa))), []⟩ : Aut) = _
    rw [List.tail_cons, valsW_itoa hg, show A.n.toNat = A.good.length by omega, markL_goods]
  rw [if_pos b3, a3, readL_steps (fun s hs => by have := hR.steps s hs; omega) (by omega)]
  rfl

/-! ### And nothing else is -/

/-- Pieces joined by a sign. -/
def jn (c : UInt8) : List (List UInt8) → List UInt8
  | [] => []
  | [x] => x
  | x :: y :: r => x ++ c :: jn c (y :: r)

theorem jn_spl (c : UInt8) : ∀ (n : Nat) (l : List UInt8), l.length ≤ n → jn c (spl c l) = l := by
  intro n
  induction n with
  | zero => intro l h; obtain rfl := List.eq_nil_of_length_eq_zero (Nat.le_zero.1 h); rfl
  | succ n ih =>
    intro l h
    rcases spl_cases c l with hx | ⟨x, r, hx, rfl⟩
    · rw [spl_none hx]; rfl
    · rw [spl_app r hx]
      obtain ⟨y, ys, hy⟩ := List.exists_cons_of_ne_nil (spl_ne c r)
      rw [hy, jn, ← hy, ih r (by simp at h; omega)]

theorem jn_back (c : UInt8) (l : List UInt8) : jn c (spl c l) = l := jn_spl c _ l (Nat.le_refl _)

theorem word_back {T : List UInt8} (h : (numW T).isSome = true) : T = Lib.itoa (((numW T).getD 0 : Nat) : Int) := by
  obtain ⟨n, hn⟩ := Option.isSome_iff_exists.1 h
  rw [hn, itoa_nat (by omega)]
  exact (numW_back hn).1

theorem words_back {ws : List (List UInt8)} (h : okWs ws = true) : ws = (valsW ws).map Lib.itoa := by
  unfold valsW
  rw [List.map_map]
  conv => lhs; rw [← List.map_id ws]
  refine List.map_congr_left fun T hT => ?_
  exact word_back (List.all_eq_true.1 h T hT)

theorem jn_nums (x : List UInt8) : ∀ (zs : List Int), jn 32 (x :: zs.map Lib.itoa) = x ++ numsT zs := by
  intro zs
  induction zs generalizing x with
  | nil => simp [jn, numsT]
  | cons z zs ih =>
    rw [List.map_cons, jn, ih]
    simp [numsT]

theorem step_back {l : List UInt8} (h : stepB (spl 32 l) = true) : l ++ [10] = stepT (stepW (spl 32 l)) := by
  unfold stepB at h
  obtain ⟨h1, h2⟩ := (Bool.and_eq_true _ _).mp h
  have h1 := of_decide_eq_true h1
  have hw := words_back h2
  have hl : (valsW (spl 32 l)).length = 3 := by unfold valsW; rw [List.length_map, h1]
  have hj := jn_back 32 l
  unfold stepW
  generalize valsW (spl 32 l) = zs at *
  match zs, hl with
  | [a, b, c], _ =>
    rw [hw] at hj
    have := jn_nums (Lib.itoa a) [b, c]
    rw [show jn 32 (Lib.itoa a :: [b, c].map Lib.itoa) = l from hj] at this
    rw [this]
    rfl

theorem readL_back : ∀ (ls : List (List UInt8)) {i : Nat} {A B : Aut}, 3 ≤ i → readL i A ls = (B, 0) → ∃ ss, B = { A with steps := A.steps ++ ss } ∧ jn 10 ls = ss.flatMap stepT
  | [], i, A, B, _, h => by simp [readL] at h
  | [l], i, A, B, hi, h => by
    unfold readL at h
    split at h
    · next hl =>
      obtain ⟨rfl, _⟩ := Prod.mk.inj h
      refine ⟨[], by simp, ?_⟩
      rw [hl.2]; rfl
    · exact absurd (Prod.mk.inj h).2 (by omega)
  | l :: l2 :: ls, i, A, B, hi, h => by
    unfold readL at h
    split at h
    · next hb =>
      obtain ⟨ss, hB, hj⟩ := readL_back (l2 :: ls) (by omega) h
      unfold lineB at hb
      rw [if_neg (by omega), if_neg (by omega), if_neg (by omega)] at hb
      have hs := step_back hb
      unfold lineA at hB
      rw [if_neg (by omega), if_neg (by omega), if_neg (by omega)] at hB
      refine ⟨stepW (spl 32 l) :: ss, by rw [hB]; simp, ?_⟩
      rw [jn, hj, List.flatMap_cons, ← hs]
      simp
    · exact absurd (Prod.mk.inj h).2 (by omega)

theorem risesB_out {n : Int} : ∀ {l : List Int} {last : Int}, risesB n last l = true → (∀ z ∈ l, last < z ∧ z < n) ∧ l.Pairwise (fun a b => a < b)
  | [], _, _ => ⟨by simp, List.Pairwise.nil⟩
  | s :: l, last, h => by
    unfold risesB at h
    obtain ⟨h, h3⟩ := (Bool.and_eq_true _ _).mp h
    obtain ⟨h1, h2⟩ := (Bool.and_eq_true _ _).mp h
    have h1 := of_decide_eq_true h1
    have h2 := of_decide_eq_true h2
    obtain ⟨k1, k2⟩ := risesB_out h3
    refine ⟨fun z hz => ?_, List.pairwise_cons.2 ⟨fun z hz => (k1 z hz).1, k2⟩⟩
    rcases List.mem_cons.1 hz with rfl | hz
    · exact ⟨h1, h2⟩
    · have := k1 z hz
      omega

/-- Two rising lists with the same numbers are one. -/
theorem rising_ext : ∀ {l m : List Int}, l.Pairwise (fun a b => a < b) → m.Pairwise (fun a b => a < b) → (∀ z, z ∈ l ↔ z ∈ m) → l = m
  | [], m, _, _, h => by
    cases m with
    | nil => rfl
    | cons z m => exact absurd ((h z).2 List.mem_cons_self) (by simp)
  | a :: l, [], _, _, h => absurd ((h a).1 List.mem_cons_self) (by simp)
  | a :: l, b :: m, hl, hm, h => by
    obtain ⟨l1, l2⟩ := List.pairwise_cons.1 hl
    obtain ⟨m1, m2⟩ := List.pairwise_cons.1 hm
    have e : a = b := by
      rcases List.mem_cons.1 ((h a).1 List.mem_cons_self) with e | e
      · exact e
      · rcases List.mem_cons.1 ((h b).2 List.mem_cons_self) with e' | e'
        · exact e'.symm
        · have := l1 b e'
          have := m1 a e
          omega
    subst e
    rw [rising_ext l2 m2 fun z => ?_]
    constructor
    · intro hz
      rcases List.mem_cons.1 ((h z).1 (List.mem_cons_of_mem _ hz)) with e | e
      · have := l1 z hz; omega
      · exact e
    · intro hz
      rcases List.mem_cons.1 ((h z).2 (List.mem_cons_of_mem _ hz)) with e | e
      · have := m1 z hz; omega
      · exact e

theorem goods_markL {n : Nat} {zs : List Int} (h : risesB n (-1) zs = true) : goods (markL n zs) (markL n zs).length = zs := by
  obtain ⟨h1, h2⟩ := risesB_out h
  have hl : (markL n zs).length = n := by simp [markL]
  refine rising_ext (goods_pairs _ _) h2 fun z => ?_
  rw [goods_mem, hl]
  have hget : ∀ q, q < n → ((markL n zs).getD q false = true ↔ (q : Int) ∈ zs) := fun q hq => by
    have : (markL n zs).getD q false = zs.any fun z => decide (z = (q : Int)) := by simp [markL, List.getD, hq]
    rw [this, List.any_eq_true]
    constructor
    · rintro ⟨z, hz, e⟩
      rw [← of_decide_eq_true e]; exact hz
    · intro hz
      exact ⟨_, hz, by simp⟩
  constructor
  · rintro ⟨q, rfl, hq, hg⟩
    exact (hget q hq).1 hg
  · intro hz
    have := h1 z hz
    refine ⟨z.toNat, by omega, by omega, (hget _ (by omega)).2 ?_⟩
    rw [show ((z.toNat : Nat) : Int) = z by omega]
    exact hz

theorem readT_back {s : List UInt8} {B : Aut} (h : readT s = (B, 0)) : prtA B = s := by
  unfold readT at h
  have hj := jn_back 10 s
  generalize spl 10 s = ls at *
  match ls, h with
  | [], h => simp [readL] at h
  | [l], h => simp [readL] at h
  | [l1, l2], h =>
    unfold readL at h
    split at h
    · simp [readL] at h
    · exact absurd (Prod.mk.inj h).2 (by omega)
  | [l1, l2, l3], h =>
    unfold readL at h
    split at h
    · unfold readL at h
      split at h
      · simp [readL] at h
      · exact absurd (Prod.mk.inj h).2 (by omega)
    · exact absurd (Prod.mk.inj h).2 (by omega)
  | l1 :: l2 :: l3 :: l4 :: ls, h =>
    unfold readL at h
    split at h
    · next b1 =>
      unfold readL at h
      split at h
      · next b2 =>
        unfold readL at h
        split at h
        · next b3 =>
          obtain ⟨ss, hB, hjj⟩ := readL_back (l4 :: ls) (by omega) h
          rw [jn, jn, jn, hjj] at hj
          have j1 := jn_back 32 l1
          have j2 := jn_back 32 l2
          have j3 := jn_back 32 l3
          have c1 : sizeB (spl 32 l1) = true := b1
          have c2 : firstB (spl 32 l2) = true := b2
          have c3 : goodB (((numW ((spl 32 l1).getD 1 [])).getD 0 : Nat) : Int) (spl 32 l3) = true := b3
          have hB : B = ⟨((numW ((spl 32 l1).getD 1 [])).getD 0 : Nat), ((numW ((spl 32 l1).getD 3 [])).getD 0 : Nat), valsW (spl 32 l2).tail, markL ((((numW ((spl 32 l1).getD 1 [])).getD 0 : Nat) : Int)).toNat (valsW (spl 32 l3).tail), [] ++ ss⟩ := hB
          clear b1 b2 b3 h hjj
          rw [Int.toNat_natCast, List.nil_append] at hB
          generalize spl 32 l1 = w1 at *
          generalize hw2 : spl 32 l2 = w2 at *
          generalize hw3 : spl 32 l3 = w3 at *
          have n2 : w2 ≠ [] := by rw [← hw2]; exact spl_ne 32 l2
          have n3 : w3 ≠ [] := by rw [← hw3]; exact spl_ne 32 l3
          obtain ⟨x2, t2, rfl⟩ := List.exists_cons_of_ne_nil n2
          obtain ⟨x3, t3, rfl⟩ := List.exists_cons_of_ne_nil n3
          unfold firstB at c2
          unfold goodB at c3
          simp only [Bool.and_eq_true, decide_eq_true_eq, List.tail_cons, List.getD_cons_zero] at c2 c3
          obtain ⟨ok2, rfl⟩ := c2
          obtain ⟨⟨ok3, rfl⟩, r3⟩ := c3
          rw [words_back ok2, jn_nums] at j2
          rw [words_back ok3, jn_nums] at j3
          unfold sizeB at c1
          simp only [Bool.and_eq_true, decide_eq_true_eq] at c1
          obtain ⟨⟨⟨⟨⟨⟨hl, e0⟩, e2⟩, s1⟩, s3⟩, _⟩, _⟩ := c1
          match w1, hl with
          | [y0, y1, y2, y3], _ =>
            simp only [List.getD_cons_zero, List.getD_cons_succ] at e0 e2 s1 s3 hB r3
            have k1 := word_back s1
            have k3 := word_back s3
            generalize (numW y1).getD 0 = vn at *
            generalize (numW y3).getD 0 = vm at *
            subst e0
            subst e2
            subst k1
            subst k3
            simp only [List.tail_cons] at hB
            rw [hB, ← hj, ← j1, ← j2, ← j3]
            unfold prtA headT
            dsimp only
            rw [goods_markL r3]
            simp [jn, wStates, wLetters, wFirst, wGood]
        · exact absurd (Prod.mk.inj h).2 (by omega)
      · exact absurd (Prod.mk.inj h).2 (by omega)
    · exact absurd (Prod.mk.inj h).2 (by omega)
end Go.Proofs.YtpiacnnifdjlkaaDoor

namespace Go.Proofs.YtpiacnnifdjlkaaDoor

/-- Each operation but the last is waited for by another one. -/
def hung (ops : Array Oper) : Bool := (List.range (ops.size - 1)).all fun i => (List.range ops.size).any fun k => match ops[k]? with
  | some o => dep o i
  | none => false

section
variable {P : Program} {ops : Array Oper} {Q : Exit → Act → World → Prop} {W : World → Prop} {V : Bool → World → Prop} {R : Nat → Value → World → Prop} {a0 : Act}

theorem dep_out {o : Oper} {i : Nat} (h : dep o i = true) : ∃ e ∈ o.after.toList, Region.binds .any e = true ∧ e.on = i := by
  obtain ⟨e, he, hbe⟩ := List.any_eq_true.1 h
  rw [Bool.and_eq_true] at hbe
  exact ⟨e, he, hbe.1, by simpa using hbe.2⟩

/-- Where the last one may go on, all others are done. -/
theorem hung_all (h : orderly ops a0.tmps.size = true) (hh : hung ops = true) {L : Nat} {oL : Oper} (hsz : ops.size = L + 1) (hoL : ops[L]? = some oL) {listed : Array Bool} {a : Act} {w : World} (hA : Amid ops W R a0 listed a w)
    (hr : ∀ e ∈ oL.after.toList, Region.binds .any e = true → listed[e.on]? = some true) : ∀ d i, L - i ≤ d → i < L → listed[i]? = some true := by
  intro d
  induction d with
  | zero => intro i h1 h2; omega
  | succ d ih =>
    intro i h1 h2
    have := List.all_eq_true.1 hh i (List.mem_range.2 (by omega))
    obtain ⟨k, hk, hd⟩ := List.any_eq_true.1 this
    have hk := List.mem_range.1 hk
    have ho : ops[k]? = some ops[k] := Array.getElem?_eq_getElem hk
    rw [ho] at hd
    obtain ⟨e, he, hb, rfl⟩ := dep_out hd
    have hlt := (orderly_at h ho).2.1 e he hb
    by_cases hkL : k = L
    · subst hkL
      rw [ho] at hoL
      obtain rfl := Option.some.inj hoL
      exact hr e he hb
    · exact hA.closed k _ ho (ih k (by omega) (by omega)) e he hb

theorem last_end (h : orderly ops a0.tmps.size = true) {L : Nat} (hsz : ops.size = L + 1) {listed : Array Bool} {a : Act} {w : World} (hA : Amid ops W R a0 listed a w) (hnL : listed[L]? = some false) (hall : ∀ i, i < L → listed[i]? = some true) :
    ∃ vs : Nat → Value, (∀ i, i < L → R i (vs i) w) ∧ a = { a0 with tmps := putAll ops vs (List.range L) a0.tmps } := by
  have hex : ∀ i, ∃ v, i < L → R i v w ∧ ∀ d, dstAt ops i = some d → a.tmps[d]? = some v := fun i => by
    by_cases hi : i < L
    · obtain ⟨v, hv⟩ := hA.done i (hall i hi)
      exact ⟨v, fun _ => hv⟩
    · exact ⟨undef, fun h => absurd h hi⟩
  obtain ⟨vs, hvs⟩ := Classical.axiomOfChoice hex
  refine ⟨vs, fun i hi => (hvs i hi).1, ?_⟩
  obtain ⟨t, d⟩ := a
  have hd := hA.defers
  dsimp only at hd
  subst hd
  congr 1
  apply Array.ext_getElem?
  intro k
  by_cases hk : ∃ i, i < L ∧ dstAt ops i = some k
  · obtain ⟨i, hi, hd⟩ := hk
    have ho : ops[i]? = some ops[i] := Array.getElem?_eq_getElem (by omega)
    have hd' : ops[i].dst = some k := by
      unfold dstAt at hd
      rw [ho] at hd
      exact hd
    obtain ⟨hlt, hu⟩ := (orderly_at h ho).2.2 k hd'
    rw [putAll_own ops vs k i hd _ _ hlt (List.mem_range.2 hi) (fun j _ hj => hu j hj)]
    exact (hvs i hi).2 k hd
  · rw [putAll_other ops vs k _ _ (fun i hi hd => hk ⟨i, List.mem_range.1 hi, hd⟩)]
    refine hA.rest k fun i hi hd => hk ⟨i, ?_, hd⟩
    have h1 := (Array.getElem?_eq_some_iff.1 hi).1
    have h2 := hA.size
    have h3 : i ≠ L := fun e => by rw [e, hnL] at hi; cases hi
    omega

/-- What is asked of the operation that turns what is known. -/
def StepX (P : Program) (ops : Array Oper) (Q : Exit → Act → World → Prop) (V : Bool → World → Prop) (R : Nat → Value → World → Prop) (a0 : Act) (i : Nat) (o : Oper) : Prop :=
  ∀ (a : Act) (w : World) (vs : Nat → Value), V false w → (∀ t, free ops i t = true → a.eval (.tmp t) = a0.eval (.tmp t)) →
    (∀ j, dep o j = true → R j (vs j) w ∧ ∀ d, dstAt ops j = some d → a.eval (.tmp d) = vs j) →
    o.wp P a w (fun a' w' => ∃ v, a' = a.put o.dst v ∧ V true w' ∧ R i v w' ∧ ∀ j x, j ≠ i → R j x w → R j x w') Q

theorem wpAny_last (h : orderly ops a0.tmps.size = true) (hh : hung ops = true) {L : Nat} {oL : Oper} (hsz : ops.size = L + 1) (hoL : ops[L]? = some oL) (X : Nat) (hXL : X < L) (hstep : ∀ i o, i < L → i ≠ X → ops[i]? = some o → ∀ b, StepOk P ops Q (V b) R a0 i o) (hX : ∀ o, ops[X]? = some o → StepX P ops Q V R a0 X o)
    (hend : ∀ (vs : Nat → Value) (w : World), V true w → (∀ i, i < L → R i (vs i) w) → oL.wp P { a0 with tmps := putAll ops vs (List.range L) a0.tmps } w (fun a' w' => Q .normal a' w') Q) :
    ∀ (fuel : Nat) (listed : Array Bool) (a : Act) (w : World), listed.toList.count false ≤ fuel → Amid ops (fun _ => True) R a0 listed a w → listed[L]? = some false → (∃ b, listed[X]? = some b ∧ V b w) → wpAny P .any ops Q fuel listed a w := by
  intro fuel
  induction fuel with
  | zero =>
    intro listed a w hc hA hnL hV
    exfalso
    have hn : false ∉ listed.toList := List.count_eq_zero.1 (by omega)
    obtain ⟨hl, he⟩ := Array.getElem?_eq_some_iff.1 hnL
    exact hn (by rw [← he]; simp)
  | succ fuel ih =>
    intro listed a w hc hA hnL hV
    refine ⟨fun hr => (by have := amid_listed h hA.size hr L (by omega); rw [hnL] at this; cases this), fun i hi => ?_⟩
    unfold Region.ready at hi
    obtain ⟨hi1, hi2⟩ := List.mem_filter.1 hi
    have hio : i < ops.size := List.mem_range.1 hi1
    have hil : i < listed.size := by rw [hA.size]; exact hio
    have ho : ops[i]? = some ops[i] := Array.getElem?_eq_getElem hio
    obtain ⟨hg, hback, hdst⟩ := orderly_at h ho
    simp only [Array.getD_eq_getD_getElem?, Array.getElem?_eq_getElem hil, ho, Option.map_some, Option.getD_some, Bool.and_eq_true, Bool.not_eq_true'] at hi2
    obtain ⟨hf, hdeps⟩ := hi2
    have hw : Region.wanted ops[i] (yielded ops a.tmps) = true := by simp [Region.wanted, hg]
    unfold wpOp
    rw [ho]
    simp only [hw, if_true]
    refine Or.inl ?_
    by_cases hiL : i = L
    · have e1 : ops[i] = oL := by
        have h1 : ops[i]? = some oL := by rw [hiL]; exact hoL
        rw [ho] at h1
        exact Option.some.inj h1
      have hr : ∀ e ∈ oL.after.toList, Region.binds .any e = true → listed[e.on]? = some true := fun e he hb => by
        rw [← e1] at he
        have hlt := hback e he hb
        have hd := Array.all_eq_true_iff_forall_mem.1 hdeps e (by simpa using he)
        rw [hb] at hd
        have hee : e.on < listed.size := by omega
        rw [Array.getElem?_eq_getElem hee] at hd ⊢
        simpa using hd
      have hall : ∀ i, i < L → listed[i]? = some true := fun i hi => hung_all h hh hsz hoL hA hr L i (by omega) hi
      obtain ⟨vs, hv, rfl⟩ := last_end h hsz hA hnL hall
      rw [e1]
      refine Oper.wp_mono ?_ (hend vs w (by obtain ⟨b, hb, hV⟩ := hV; rw [hall X hXL] at hb; rw [Option.some.inj hb]; exact hV) hv)
      intro a' w' hq
      have hre : Region.ready .any ops (listed.setIfInBounds i true) = [] := by
        unfold Region.ready
        refine List.filter_eq_nil_iff.2 fun k hk => ?_
        have hk := List.mem_range.1 hk
        have : (listed.setIfInBounds i true)[k]? = some true := by
          by_cases e : k = i
          · rw [e, Array.getElem?_setIfInBounds, if_pos rfl, if_pos hil]
          · rw [Array.getElem?_setIfInBounds, if_neg (fun e' => e e'.symm)]
            exact hall k (by omega)
        simp [Array.getD_eq_getD_getElem?, this]
      cases fuel with
      | zero => exact ⟨hre, hq⟩
      | succ fuel => exact ⟨fun _ => hq, fun k hk => by rw [hre] at hk; cases hk⟩
    have hex : ∀ j, ∃ v, listed[j]? = some true → R j v w ∧ ∀ d, dstAt ops j = some d → a.tmps[d]? = some v := fun j => by
      by_cases hj : listed[j]? = some true
      · obtain ⟨v, hv⟩ := hA.done j hj
        exact ⟨v, fun _ => hv⟩
      · exact ⟨undef, fun h => absurd h hj⟩
    obtain ⟨vs, hvs⟩ := Classical.axiomOfChoice hex
    have hmineX : (listed.setIfInBounds i true)[i]? = some true := by rw [Array.getElem?_setIfInBounds, if_pos rfl, if_pos hil]
    have hgo : (∀ t, free ops i t = true → a.eval (.tmp t) = a0.eval (.tmp t)) → (∀ j, dep ops[i] j = true → R j (vs j) w ∧ ∀ d, dstAt ops j = some d → a.eval (.tmp d) = vs j) →
        ops[i].wp P a w (fun a' w' => ∃ v, a' = a.put ops[i].dst v ∧ (∃ b, (listed.setIfInBounds i true)[X]? = some b ∧ V b w') ∧ R i v w' ∧ ∀ j x, j ≠ i → R j x w → R j x w') Q := by
      obtain ⟨b, hb, hVb⟩ := hV
      intro k1 k2
      by_cases hiX : i = X
      · have : b = false := by
          rw [← hiX, Array.getElem?_eq_getElem hil, hf] at hb
          exact (Option.some.inj hb).symm
        rw [this] at hVb
        refine Oper.wp_mono ?_ (hX ops[i] (by rw [← hiX]; exact ho) a w vs hVb (by rw [← hiX]; exact k1) k2)
        rintro a' w' ⟨v, h1, h2, h3, h4⟩
        exact ⟨v, h1, ⟨true, by rw [← hiX]; exact hmineX, h2⟩, by rw [hiX]; exact h3, by rw [hiX]; exact h4⟩
      · refine Oper.wp_mono ?_ (hstep i _ (by omega) hiX ho b a w vs hVb k1 k2)
        rintro a' w' ⟨v, h1, h2, h3, h4⟩
        exact ⟨v, h1, ⟨b, by rw [Array.getElem?_setIfInBounds, if_neg hiX]; exact hb, h2⟩, h3, fun j x _ h => h4 j x h⟩
    refine Oper.wp_mono ?_ (hgo ?_ ?_)
    · rintro a' w' ⟨v, rfl, hW', hR', hst⟩
      refine ih _ _ _ ?_ ?_ (by rw [Array.getElem?_setIfInBounds, if_neg hiL]; exact hnL) hW'
      · rw [Array.toList_setIfInBounds]
        have := List.count_set (a := true) (b := false) (l := listed.toList) (i := i) (by simpa using hil)
        rw [this]
        have e : (listed.toList[i]'(by simpa using hil)) = false := by simpa using hf
        rw [e]
        have hp : 0 < listed.toList.count false := List.count_pos_iff.2 (by rw [← e]; simp)
        rw [if_pos (by rfl), if_neg (by decide)]
        omega
      · have hin : ∀ j, (listed.setIfInBounds i true)[j]? = some true → j = i ∨ (j ≠ i ∧ listed[j]? = some true) := fun j hj => by
          by_cases e : j = i
          · exact Or.inl e
          · rw [Array.getElem?_setIfInBounds, if_neg (fun e' => e e'.symm)] at hj
            exact Or.inr ⟨e, hj⟩
        have hmine : (listed.setIfInBounds i true)[i]? = some true := by rw [Array.getElem?_setIfInBounds, if_pos rfl, if_pos hil]
        have hdi : dstAt ops i = ops[i].dst := by unfold dstAt; rw [ho]; rfl
        refine ⟨by simpa using hA.size, ?_, ?_, trivial, fun t ht => ?_, fun j hj => ?_, fun j oj hoj hj e he hbe => ?_⟩
        · cases hd : ops[i].dst <;> simp [Act.put, hA.tsize]
        · cases hd : ops[i].dst <;> simp [Act.put, hA.defers]
        · have h1 := ht i hmine
          have h2 := hA.rest t fun j hj => ht j (by
            by_cases e : j = i
            · rw [e]; exact hmine
            · rw [Array.getElem?_setIfInBounds, if_neg (fun e' => e e'.symm)]; exact hj)
          cases hd : ops[i].dst with
          | none => exact h2
          | some d =>
            have hne : d ≠ t := fun e => h1 (by rw [hdi, hd, e])
            simp only [Act.put]
            rw [Array.getElem?_setIfInBounds, if_neg hne]
            exact h2
        · rcases hin j hj with rfl | ⟨hne, hj'⟩
          · refine ⟨v, hR', fun d hd => ?_⟩
            rw [hdi] at hd
            have := (hdst d hd).1
            simp only [Act.put, hd]
            rw [Array.getElem?_setIfInBounds, if_pos rfl, if_pos (by rw [hA.tsize]; exact this)]
          · obtain ⟨u, hu1, hu2⟩ := hA.done j hj'
            refine ⟨u, hst j u hne hu1, fun d hd => ?_⟩
            cases hdd : ops[i].dst with
            | none => exact hu2 d hd
            | some d' =>
              have hne' : d' ≠ d := fun e => hne ((hdst d' hdd).2 j (by rw [e]; exact hd))
              simp only [Act.put]
              rw [Array.getElem?_setIfInBounds, if_neg hne']
              exact hu2 d hd
        · have hel : listed[e.on]? = some true := by
            rcases hin j hj with rfl | ⟨hne, hj'⟩
            · rw [ho] at hoj
              injection hoj with hoj
              subst hoj
              have hlt := hback e he hbe
              have hd := Array.all_eq_true_iff_forall_mem.1 hdeps e (by simpa using he)
              rw [hbe] at hd
              have hee : e.on < listed.size := by omega
              rw [Array.getElem?_eq_getElem hee] at hd ⊢
              simpa using hd
            · exact hA.closed j oj hoj hj' e he hbe
          by_cases hei : e.on = i
          · rw [hei]; exact hmine
          · rw [Array.getElem?_setIfInBounds, if_neg (fun e' => hei e'.symm)]; exact hel
    · intro t ht
      have := hA.rest t fun j hj hdj => by
        unfold dstAt at hdj
        cases hoj : ops[j]? with
        | none => rw [hoj] at hdj; cases hdj
        | some oj =>
          rw [hoj] at hdj
          obtain ⟨e, he, hbe⟩ := List.any_eq_true.1 (free_out ht hoj hdj)
          rw [Bool.and_eq_true] at hbe
          have hli := hA.closed j oj hoj hj e he hbe.1
          rw [show e.on = i by simpa using hbe.2, Array.getElem?_eq_getElem hil, hf] at hli
          cases hli
      simp only [Act.eval, Array.getD_eq_getD_getElem?, this]
    · intro j hj
      obtain ⟨e, he, hbe⟩ := List.any_eq_true.1 hj
      rw [Bool.and_eq_true] at hbe
      obtain ⟨hb, hej⟩ := hbe
      obtain rfl : e.on = j := by simpa using hej
      have hlt := hback e he hb
      have hd := Array.all_eq_true_iff_forall_mem.1 hdeps e (by simpa using he)
      rw [hb] at hd
      have hel : listed[e.on]? = some true := by
        have hee : e.on < listed.size := by omega
        rw [Array.getElem?_eq_getElem hee] at hd ⊢
        simpa using hd
      obtain ⟨h1, h2⟩ := hvs e.on hel
      refine ⟨h1, fun d hd => ?_⟩
      simp only [Act.eval, Array.getD_eq_getD_getElem?, h2 d hd, Option.getD_some]

/-- The temporaries that are written told ahead. -/
theorem wp_region_last {id : Nat} {a0 : Act} {w : World} (L X : Nat) (oL : Oper) (ds : List (Nat × Tmp)) (V : Bool → World → Prop) (R : Nat → Value → World → Prop) (hds : dstList ops (List.range L) = ds) (hm : P.follows .mixedOrders = true) (h : orderly ops a0.tmps.size = true) (hh : hung ops = true) (hsz : ops.size = L + 1) (hoL : ops[L]? = some oL) (hXL : X < L)
    (h0 : V false { w with drawn := w.drawn + 1 }) (hstep : ∀ i o, i < L → i ≠ X → ops[i]? = some o → ∀ b, StepOk P ops Q (V b) R a0 i o) (hX : ∀ o, ops[X]? = some o → StepX P ops Q V R a0 X o)
    (hend : ∀ (vs : Nat → Value) (w : World), V true w → (∀ i, i < L → R i (vs i) w) → oL.wp P { a0 with tmps := putPairs vs ds a0.tmps } w (fun a' w' => Q .normal a' w') Q) : (Code.region id ops true).wp P Q a0 w := by
  refine wp_region_any hm (wpAny_last h hh hsz hoL X hXL hstep hX (fun vs w hW hR => by rw [putAll_pairs, hds]; exact hend vs w hW hR) _ _ _ _ ?_ ⟨by simp, rfl, rfl, trivial, fun _ _ => rfl, fun i hi => ?_, fun i o _ hi => ?_⟩ ?_ ?_)
  · exact Nat.le_trans (List.count_le_length) (by simp)
  · simp [Array.getElem?_replicate] at hi
  · simp [Array.getElem?_replicate] at hi
  · simp [hsz]
  · refine ⟨false, ?_, h0⟩
    rw [Array.getElem?_replicate, if_pos (by omega)]
end
end Go.Proofs.YtpiacnnifdjlkaaDoor
