/-
  What meet of nodes.Auto does: a node's number; a node that was not met is noted.
-/
import Derived.Test.YtpiacnnifdjlkabDoorLc
import Derived.Test.YtpiacnnifdjlkabDoorRt
import Derived.Test.YtpiacnnifdjlkabDoorCz
import Derived.MapKept
import Derived.Laws.StructEq
/-
  An automaton of nodes while it grows: plain mathematics.
-/
namespace Go.Proofs.YtpiacnnifdjlkabDoor

def addN {ν : Type} [DecidableEq ν] (met : List ν) (x : ν) : List ν := if x ∈ met then met else met ++ [x]

section
variable {ν : Type} [DecidableEq ν]

theorem addN_mem {met : List ν} {x y : ν} : y ∈ addN met x ↔ y ∈ met ∨ y = x := by
  unfold addN
  split
  · rename_i h
    constructor
    · exact Or.inl
    · rintro (h1 | rfl)
      · exact h1
      · exact h
  · simp

theorem addN_num {met : List ν} {x y : ν} (h : y ∈ met) : numOf (addN met x) y = numOf met y := by
  unfold addN
  split
  · rfl
  · exact numOf_append _ h

theorem addN_nodup {met : List ν} {x : ν} (h : met.Nodup) : (addN met x).Nodup := by
  unfold addN
  split
  · exact h
  · rename_i hx
    rw [List.nodup_append]
    refine ⟨h, by simp, fun a ha b hb => ?_⟩
    rw [List.mem_singleton] at hb
    subst hb
    exact fun e => hx (by rw [← e]; exact ha)

theorem addN_get {met : List ν} {x y : ν} {i : Nat} (h : met[i]? = some y) : (addN met x)[i]? = some y := by
  unfold addN
  split
  · exact h
  · rw [List.getElem?_append_left (List.getElem?_eq_some_iff.1 h).1]
    exact h

theorem addN_take {met : List ν} {x : ν} {i : Nat} (h : i ≤ met.length) : (addN met x).take i = met.take i := by
  unfold addN
  split
  · rfl
  · rw [List.take_append_of_le_length h]

theorem addN_len {met : List ν} {x : ν} : met.length ≤ (addN met x).length := by
  unfold addN
  split
  · exact Nat.le_refl _
  · simp

/-- The first nodes are met. -/
structure First (first : List ν) (i : Nat) (met : List ν) (fs : List Int) : Prop where
  nodup : met.Nodup
  all : ∀ x, x ∈ met ↔ x ∈ first.take i
  fs : fs = (first.take i).map (fun x => (numOf met x : Int))

theorem First.nil (first : List ν) : First first 0 [] [] := ⟨List.nodup_nil, by simp, by simp⟩

theorem First.next {first : List ν} {i : Nat} {met : List ν} {fs : List Int} (h : First first i met fs) {x : ν} (hx : first[i]? = some x) : First first (i + 1) (addN met x) (fs ++ [(numOf (addN met x) x : Int)]) := by
  have e : first.take (i + 1) = first.take i ++ [x] := by
    rw [List.take_add_one, hx]; rfl
  refine ⟨addN_nodup h.nodup, fun y => ?_, ?_⟩
  · rw [addN_mem, h.all, e, List.mem_append, List.mem_singleton]
  · rw [e, List.map_append, h.fs]
    congr 1
    refine List.map_congr_left fun y hy => ?_
    rw [addN_num ((h.all y).2 hy)]

theorem nodup_sub {l k : List ν} (hn : l.Nodup) (h : ∀ x ∈ l, x ∈ k) : l.length ≤ k.length :=
  have h1 := nodup_le k.length (l.map (numOf k)) (by
    rw [List.Nodup, List.pairwise_map]
    exact List.Pairwise.imp_of_mem (fun {a b} ha hb hne e => hne (numOf_inj (h a ha) (h b hb) e)) hn) (fun q hq => by
    obtain ⟨x, hx, rfl⟩ := List.mem_map.1 hq
    exact numOf_lt (h x hx))
  by rwa [List.length_map] at h1

theorem First.few {first : List ν} {i : Nat} {met : List ν} {fs : List Int} (h : First first i met fs) (hi : i ≤ first.length) : met.length ≤ first.length := by
  have := nodup_sub h.nodup (fun x hx => (h.all x).1 hx)
  rw [List.length_take] at this
  omega

theorem First.fslen {first : List ν} {i : Nat} {met : List ν} {fs : List Int} (h : First first i met fs) : fs.length ≤ i := by
  rw [h.fs, List.length_map]
  exact List.length_take_le _ _

/-- While steps from node number i are met, of which these came. -/
structure Grow (first : List ν) (G : ν → Bool) (S : ν → List (Int × ν)) (i : Nat) (pre : List (Int × ν)) (met : List ν) (ss : List Stp) : Prop where
  nodup : met.Nodup
  first_met : ∀ x ∈ first, x ∈ met
  least : ∀ P : ν → Prop, (∀ x ∈ first, P x) → (∀ x, P x → ∀ p ∈ S x, P p.2) → (∀ p ∈ pre, ∃ x, met[i]? = some x ∧ p ∈ S x) → ∀ x ∈ met, P x
  le : i ≤ met.length
  targets : ∀ j, j < i → ∀ x, met[j]? = some x → ∀ p ∈ S x, p.2 ∈ met
  now : ∀ p ∈ pre, p.2 ∈ met
  steps : ∀ s, s ∈ ss ↔ (∃ j x c y, j < i ∧ met[j]? = some x ∧ (c, y) ∈ S x ∧ s = ⟨(j : Nat), c, (numOf met y : Nat)⟩) ∨ ∃ c y, (c, y) ∈ pre ∧ s = ⟨(i : Nat), c, (numOf met y : Nat)⟩
  apart : (∀ x, (S x).Nodup) → pre.Nodup → ss.Nodup

theorem Grow.begin_ {first : List ν} {G : ν → Bool} {S : ν → List (Int × ν)} {met : List ν} {fs : List Int} (h : First first first.length met fs) : Grow first G S 0 [] met [] := by
  have hm : ∀ x, x ∈ met ↔ x ∈ first := fun x => by rw [h.all, List.take_length]
  exact ⟨h.nodup, fun x hx => (hm x).2 hx, fun P h1 _ _ x hx => h1 x ((hm x).1 hx), Nat.zero_le _, fun j hj => absurd hj (Nat.not_lt_zero _), fun p hp => absurd hp (List.not_mem_nil), fun s => by simp, fun _ _ => List.nodup_nil⟩

theorem Grow.step {first : List ν} {G : ν → Bool} {S : ν → List (Int × ν)} {i : Nat} {pre : List (Int × ν)} {met : List ν} {ss : List Stp} (h : Grow first G S i pre met ss) {x : ν} (hx : met[i]? = some x) {c : Int} {y : ν} (hp : (c, y) ∈ S x) : Grow first G S i (pre ++ [(c, y)]) (addN met y) (ss ++ [⟨(i : Nat), c, (numOf (addN met y) y : Nat)⟩]) := by
  have hi : i < met.length := (List.getElem?_eq_some_iff.1 hx).1
  have hold : ∀ {j : Nat} {z : ν}, j < i → ((addN met y)[j]? = some z ↔ met[j]? = some z) := fun {j z} hj => by
    have h1 := addN_take (x := y) h.le
    have h2 : ((addN met y).take i)[j]? = (met.take i)[j]? := by rw [h1]
    rw [List.getElem?_take_of_lt hj, List.getElem?_take_of_lt hj] at h2
    rw [h2]
  refine ⟨addN_nodup h.nodup, fun z hz => addN_mem.2 (Or.inl (h.first_met z hz)), fun P h1 h2 h3 z hz => ?_, Nat.le_trans h.le addN_len, fun j hj z hz p hp => addN_mem.2 (Or.inl (h.targets j hj z ((hold hj).1 hz) p hp)), fun p hp => ?_, fun s => ?_, fun hS hn => ?_⟩
  · have h4 : ∀ p ∈ pre, ∃ x, met[i]? = some x ∧ p ∈ S x := fun p hp => by
      obtain ⟨x', hx', hm'⟩ := h3 p (List.mem_append_left _ hp)
      rw [addN_get hx] at hx'
      obtain rfl := Option.some.inj hx'
      exact ⟨x, hx, hm'⟩
    have h5 := h.least P h1 h2 h4
    rcases addN_mem.1 hz with h6 | rfl
    · exact h5 z h6
    · exact h2 x (h5 x (List.mem_of_getElem? hx)) _ hp
  · rcases List.mem_append.1 hp with h1 | h1
    · exact addN_mem.2 (Or.inl (h.now p h1))
    · rw [List.mem_singleton] at h1
      subst h1
      exact addN_mem.2 (Or.inr rfl)
  · rw [List.mem_append, List.mem_singleton, h.steps s]
    constructor
    · rintro ((⟨j, z, c', y', hj, hz, hm, rfl⟩ | ⟨c', y', hm, rfl⟩) | rfl)
      · exact Or.inl ⟨j, z, c', y', hj, (hold hj).2 hz, hm, by rw [addN_num (h.targets j hj z hz _ hm)]⟩
      · exact Or.inr ⟨c', y', List.mem_append_left _ hm, by rw [addN_num (h.now _ hm)]⟩
      · exact Or.inr ⟨c, y, by simp, rfl⟩
    · rintro (⟨j, z, c', y', hj, hz, hm, rfl⟩ | ⟨c', y', hm, rfl⟩)
      · exact Or.inl (Or.inl ⟨j, z, c', y', hj, (hold hj).1 hz, hm, by rw [addN_num (h.targets j hj z ((hold hj).1 hz) _ hm)]⟩)
      · rcases List.mem_append.1 hm with h1 | h1
        · exact Or.inl (Or.inr ⟨c', y', h1, by rw [addN_num (h.now _ h1)]⟩)
        · rw [List.mem_singleton] at h1
          injection h1 with h2 h3
          subst h2 h3
          exact Or.inr rfl
  · rw [List.nodup_append] at hn ⊢
    refine ⟨h.apart hS hn.1, by simp, fun a ha b hb e => ?_⟩
    rw [List.mem_singleton] at hb
    subst hb
    subst e
    rcases (h.steps _).1 ha with ⟨j, z, c', y', hj, hz, hm, e⟩ | ⟨c', y', hm, e⟩
    · injection e with e1 _ _
      have : i = j := Int.ofNat.inj e1
      omega
    · injection e with _ e2 e3
      have e4 : numOf (addN met y) y = numOf met y' := Int.ofNat.inj e3
      have e5 : y = y' := by
        rw [← addN_num (x := y) (h.now _ hm)] at e4
        exact numOf_inj (addN_mem.2 (Or.inr rfl)) (addN_mem.2 (Or.inl (h.now _ hm))) e4
      subst e5
      subst e2
      exact hn.2.2 _ hm _ (by simp) rfl

theorem Grow.next {first : List ν} {G : ν → Bool} {S : ν → List (Int × ν)} {i : Nat} {met : List ν} {ss : List Stp} {x : ν} (hx : met[i]? = some x) (h : Grow first G S i (S x) met ss) : Grow first G S (i + 1) [] met ss := by
  have hi : i < met.length := (List.getElem?_eq_some_iff.1 hx).1
  refine ⟨h.nodup, h.first_met, fun P h1 h2 _ => h.least P h1 h2 (fun p hp => ⟨x, hx, hp⟩), hi, fun j hj z hz p hp => ?_, fun p hp => absurd hp (List.not_mem_nil), fun s => ?_, fun hS _ => h.apart hS (hS x)⟩
  · by_cases e : j = i
    · subst e
      rw [hx] at hz
      obtain rfl := Option.some.inj hz
      exact h.now p hp
    · exact h.targets j (by omega) z hz p hp
  · rw [h.steps s]
    constructor
    · rintro (⟨j, z, c', y', hj, hz, hm, rfl⟩ | ⟨c', y', hm, rfl⟩)
      · exact Or.inl ⟨j, z, c', y', by omega, hz, hm, rfl⟩
      · exact Or.inl ⟨i, x, c', y', by omega, hx, hm, rfl⟩
    · rintro (⟨j, z, c', y', hj, hz, hm, rfl⟩ | ⟨c', y', hm, rfl⟩)
      · by_cases e : j = i
        · subst e
          rw [hx] at hz
          obtain rfl := Option.some.inj hz
          exact Or.inr ⟨c', y', hm, rfl⟩
        · exact Or.inl ⟨j, z, c', y', by omega, hz, hm, rfl⟩
      · cases hm

theorem Grow.done {first : List ν} {G : ν → Bool} {S : ν → List (Int × ν)} {met : List ν} {ss ss' : List Stp} {c : Int} (h : Grow first G S met.length [] met ss) (hp : ss'.Perm ss) : OfNodes first G S met ⟨((if met = [] then [false] else met.map G : List Bool).length : Nat), c, first.map (fun x => (numOf met x : Int)), if met = [] then [false] else met.map G, ss'⟩ := by
  refine ⟨h.nodup, h.first_met, fun P h1 h2 => h.least P h1 h2 (fun p hp => absurd hp (List.not_mem_nil)), fun x hx p hp => ?_, rfl, rfl, rfl, fun s => ?_⟩
  · obtain ⟨j, e⟩ := List.mem_iff_getElem?.1 hx
    exact h.targets j (List.getElem?_eq_some_iff.1 e).1 x e p hp
  · show s ∈ ss' ↔ _
    rw [hp.mem_iff, h.steps s]
    constructor
    · rintro (⟨j, z, c', y', hj, hz, hm, rfl⟩ | ⟨c', y', hm, rfl⟩)
      · exact ⟨j, z, c', y', hz, hm, rfl⟩
      · cases hm
    · rintro ⟨j, z, c', y', hz, hm, rfl⟩
      exact Or.inl ⟨j, z, c', y', (List.getElem?_eq_some_iff.1 hz).1, hz, hm, rfl⟩
end

end Go.Proofs.YtpiacnnifdjlkabDoor

/-
  A map of nodes to their numbers: what is looked up in it and stored.
-/
namespace Go.Proofs.YtpiacnnifdjlkabDoor
open Go.RowKit Go.Sort Go.MapKept

/-- A node's three cells. -/
def prEnc (x : Pair) : List Value := [.int .i64 (x.1 : Nat), .int .i64 (x.2.1 : Nat), .bool x.2.2]
abbrev prV (x : Pair) : Value := .agg (prEnc x).toArray

theorem prEnc_len (x : Pair) : (prEnc x).length = 3 := rfl

theorem prEnc_one (x : Pair) : ∀ v ∈ prEnc x, v.oneCell' = true := by
  intro v hv
  simp only [prEnc, List.mem_cons, List.not_mem_nil, or_false] at hv
  rcases hv with rfl | rfl | rfl <;> rfl

theorem prStruct : Tryd.prog.underlying 70 = some (.struct (Tryd.prog.fieldsOf 70)) := by kernel_rfl

theorem prEq (x y : Pair) (w : World) : (Op.equal 70 (prV x) (prV y)).run Tryd.prog w = .ok (decide (x = y)) w := by
  have hp : Tryd.prog.stoodInHeld 70 = false := by kernel_rfl
  obtain ⟨x1, x2, x3⟩ := x
  obtain ⟨y1, y2, y3⟩ := y
  unfold Op.equal Op.maxDepth
  rw [show (10000 : Nat) = 9999 + 1 from rfl, run_equalIn_struct w 9999 70 _ _ prStruct hp]
  simp only [Program.fieldsOf, Tryd.underlying70, prEnc]
  go_simp
  by_cases h1 : x1 = y1 <;> by_cases h2 : x2 = y2 <;> by_cases h3 : x3 = y3 <;> simp [h1, h2, h3] <;> omega

theorem prKey (x : Pair) (e : Bool) (w : World) : (Instr.checkKey e 10000 70 (prV x)).run Tryd.prog w = .ok () w := by
  obtain ⟨x1, x2, x3⟩ := x
  rw [show (10000 : Nat) = 9998 + 1 + 1 from rfl]
  generalize 9998 = d
  unfold Instr.checkKey
  simp only [Sem.run_bind, run_underlying Tryd.underlying70, Result.andThen_ok]
  rw [← Array.forIn_toList]
  simp [Instr.checkKey, go_sem, prEnc]

theorem prFind (x : Pair) (w : World) : ∀ (l : List MapEntry) (ms : List Pair) (i : Nat), l.length = ms.length → (∀ (j : Nat) (y : Pair), ms[j]? = some y → ∃ e, l[j]? = some e ∧ e.key = prV y ∧ e.val = .int .i64 ((i + j : Nat))) →
    (Instr.findAsking 70 (prV x) l i).run Tryd.prog w = .ok (if x ∈ ms then some (i + numOf ms x, .int .i64 ((i + numOf ms x : Nat))) else none) w
  | [], [], i, _, _ => by simp [Instr.findAsking]
  | [], _ :: _, _, h, _ => by simp at h
  | _ :: _, [], _, h, _ => by simp at h
  | e :: l, y :: ms, i, hl, h => by
    obtain ⟨e', he, hk, hv⟩ := h 0 y rfl
    obtain rfl : e = e' := by simpa using he
    have ih := prFind x w l ms (i + 1) (by simpa using hl) (fun j z hz => by
      obtain ⟨e2, h1, h2, h3⟩ := h (j + 1) z hz
      exact ⟨e2, h1, h2, by rw [h3]; congr 2; omega⟩)
    unfold Instr.findAsking
    simp only [Sem.run_bind, hk, prEq, Result.andThen_ok]
    by_cases hxy : x = y
    · rw [decide_eq_true hxy, if_pos rfl, if_pos (by rw [hxy]; simp), hv]
      have : numOf (y :: ms) x = 0 := by unfold numOf; rw [if_pos hxy]
      rw [this]
      rfl
    · rw [decide_eq_false hxy, if_neg (by simp), ih]
      have hm : x ∈ y :: ms ↔ x ∈ ms := by simp [hxy]
      by_cases hx : x ∈ ms
      · rw [if_pos hx, if_pos (hm.2 hx)]
        have : numOf (y :: ms) x = numOf ms x + 1 := by show (if x = y then 0 else numOf ms x + 1) = _; rw [if_neg hxy]
        rw [this, show i + 1 + numOf ms x = i + (numOf ms x + 1) by omega]
      · rw [if_neg hx, if_neg (fun h' => hx (hm.1 h'))]

theorem prFindKey (x : Pair) (w : World) (l : List MapEntry) (ms : List Pair) (hl : l.length = ms.length) (h : ∀ (j : Nat) (y : Pair), ms[j]? = some y → ∃ e, l[j]? = some e ∧ e.key = prV y ∧ e.val = .int .i64 (j : Nat)) :
    (Instr.findKey 70 (prV x) l).run Tryd.prog w = .ok (if x ∈ ms then some (numOf ms x, .int .i64 (numOf ms x : Nat)) else none) w := by
  have h1 := prFind x w l ms 0 hl (fun j y hy => by rw [Nat.zero_add]; exact h j y hy)
  rw [Nat.zero_add] at h1
  rw [← h1]
  unfold Instr.findKey
  simp only [Sem.run_bind, run_underlying Tryd.underlying70, Result.andThen_ok]
  cases l with
  | nil => simp [Instr.findNow, Instr.findAsking]
  | cons e l => simp [Instr.findNow, Instr.sameNow]

/-- The map in block r tells of these nodes their numbers. -/
def prMap (w : World) (r : Nat) (met : List Pair) : Prop :=
  ∃ es clock, w.heap[r]? = some (.map es clock) ∧ es.size = met.length ∧ ∀ (i : Nat) (x : Pair), met[i]? = some x → ∃ e, es[i]? = some e ∧ e.key = prV x ∧ e.val = .int .i64 (i : Nat)

theorem prMap.lt {w : World} {r : Nat} {met : List Pair} (h : prMap w r met) : r < w.heap.size := by
  obtain ⟨es, clock, hr, _⟩ := h
  exact (Array.getElem?_eq_some_iff.1 hr).1

theorem prMap.keep {w w' : World} {r : Nat} {met : List Pair} (h : prMap w r met) (hb : ∀ o, w.heap[r]? = some o → w'.heap[r]? = some o) : prMap w' r met := by
  obtain ⟨es, clock, hr, h2⟩ := h
  exact ⟨es, clock, hb _ hr, h2⟩

theorem prMap.not_cells {w : World} {r : Nat} {met : List Pair} (h : prMap w r met) : ∃ o : Obj, w.heap[r]? = some o ∧ o.isCells = false := by
  obtain ⟨es, clock, hr, _⟩ := h
  exact ⟨_, hr, rfl⟩

theorem prLookup {w : World} {r : Nat} {met : List Pair} (h : prMap w r met) (x : Pair) : (Instr.lookup 124 (.map (some r)) (prV x) true).run Tryd.prog w = .ok (.tuple #[.int .i64 ((if x ∈ met then numOf met x else 0 : Nat)), .bool (decide (x ∈ met))]) w := by
  obtain ⟨es, clock, hr, hl, hes⟩ := h
  have hf := prFindKey x w es.toList met (by simpa using hl) (fun j y hy => by obtain ⟨e, h1, h2⟩ := hes j y hy; exact ⟨e, by simpa using h1, h2⟩)
  have hk := prKey x es.isEmpty w
  unfold Instr.lookup
  simp only [Sem.run_bind, run_underlying Tryd.underlying124, Result.andThen_ok, Go.MapKept.run_getObj_map hr, Sem.run_pure, hk, hf]
  by_cases hx : x ∈ met
  · simp [hx]
  · simp [hx, go_sem]

theorem prUpdate {w : World} {r : Nat} {met : List Pair} (h : prMap w r met) (x : Pair) (hx : x ∉ met) : ∃ o, (Instr.mapUpdate 124 (.map (some r)) (prV x) (.int .i64 (met.length : Nat))).run Tryd.prog w = .ok () (w.putObj r o) ∧ prMap (w.putObj r o) r (met ++ [x]) := by
  obtain ⟨es, clock, hr, hl, hes⟩ := h
  have hf := prFindKey x w es.toList met (by simpa using hl) (fun j y hy => by obtain ⟨e, h1, h2⟩ := hes j y hy; exact ⟨e, by simpa using h1, h2⟩)
  have hk := prKey x false w
  rw [if_neg hx] at hf
  refine ⟨.map (es.push { key := prV x, val := .int .i64 (met.length : Nat), born := clock }) (clock + 1), ?_, _, _, World.putObj_heap_same (Array.getElem?_eq_some_iff.1 hr).1, by simp [hl], fun i y hy => ?_⟩
  · unfold Instr.mapUpdate
    simp only [Sem.run_bind, run_underlying Tryd.underlying124, Result.andThen_ok, Go.MapKept.run_getObj_map hr, hk, hf, Go.MapKept.run_setObj_map _ hr]
    rfl
  · by_cases hi : i < met.length
    · rw [List.getElem?_append_left hi] at hy
      obtain ⟨e, h1, h2⟩ := hes i y hy
      exact ⟨e, by rw [Array.getElem?_push, if_neg (by omega)]; exact h1, h2⟩
    · rw [List.getElem?_append_right (by omega)] at hy
      have hi2 : i = met.length := by
        have := (List.getElem?_eq_some_iff.1 hy).1
        simp at this
        omega
      subst hi2
      rw [Nat.sub_self] at hy
      obtain rfl : x = y := by simpa using hy
      refine ⟨{ key := prV x, val := .int .i64 (met.length : Nat), born := clock }, ?_, rfl, rfl⟩
      rw [show met.length = es.size from hl.symm]
      exact Array.getElem?_push_size

end Go.Proofs.YtpiacnnifdjlkabDoor

namespace Go.Proofs.YtpiacnnifdjlkabDoor
open Go.RowKit Go.Sort Go.MapKept

theorem prInfo : Tryd.prog.info? 70 = some Tryd.t70 := by kernel_rfl
theorem prEl : ElT 68 70 3 24 := ⟨Tryd.underlying68, ⟨_, .agg #[.int .i64 0, .int .i64 0, .bool false], prInfo, by kernel_rfl, rfl, by kernel_rfl, by kernel_rfl⟩, by decide, by decide⟩

/-- What meet has before it: the map, and the nodes that were met. -/
structure prMN (W : World) (base BN BT r : Nat) (met : List Pair) : Prop where
  bn : W.heap[BN]? = some (.cells #[.map (some r)] 124)
  bt : ∃ v, W.heap[BT]? = some (.cells #[v] 68) ∧ W.ownsRow base 70 3 v met.length (met.flatMap prEnc)
  mp : prMap W r met
  lo : base ≤ BN ∧ base ≤ BT ∧ base ≤ r ∧ base ≤ W.heap.size

/-- What meet may turn. -/
abbrev prS (BT r : Nat) : World → Nat → Prop := ownOf [(BT, 0)] [r, BT]

abbrev prAdd (met : List Pair) (x : Pair) : List Pair := addN met x

theorem prMN.apart {W : World} {base BN BT r : Nat} {met : List Pair} (h : prMN W base BN BT r met) : BN ≠ BT ∧ BN ≠ r ∧ BT ≠ r := by
  obtain ⟨v, hv, _⟩ := h.bt
  obtain ⟨o, ho, hc⟩ := h.mp.not_cells
  refine ⟨fun e => ?_, fun e => ?_, fun e => ?_⟩
  · have := h.bn
    rw [e, hv] at this
    injection this with this
    injection this with _ h2
    exact absurd h2 (by decide)
  · have := h.bn
    rw [e, ho] at this
    injection this with this
    subst this
    cases hc
  · rw [e, ho] at hv
    injection hv with hv
    subst hv
    cases hc

theorem prMN.below {W W' : World} {base BN BT r : Nat} {met : List Pair} (h : prMN W base BN BT r met) (hb : Below W.heap.size W W') : prMN W' base BN BT r met := by
  obtain ⟨v, hv, ho⟩ := h.bt
  exact ⟨belowRow hb h.bn, ⟨v, belowRow hb hv, owns_below ho hb⟩, h.mp.keep (fun o ho => belowRow hb ho), ⟨h.lo.1, h.lo.2.1, h.lo.2.2.1, Nat.le_trans h.lo.2.2.2 hb.size⟩⟩

/-- What is no part of it may turn. -/
theorem prMN.keep {W W' : World} {base BN BT r : Nat} {met : List Pair} (h : prMN W base BN BT r met) (hs : W.heap.size ≤ W'.heap.size) (hk : ∀ k o, W.heap[k]? = some o → k = BN ∨ prS BT r W k → W'.heap[k]? = some o) : prMN W' base BN BT r met := by
  obtain ⟨v, hv, ho⟩ := h.bt
  refine ⟨hk _ _ h.bn (Or.inl rfl), ⟨v, hk _ _ hv (Or.inr (Or.inl (by simp))), owns_kept ho (fun q hq => ?_)⟩, h.mp.keep (fun o ho => hk _ _ ho (Or.inr (Or.inl (by simp)))), ⟨h.lo.1, h.lo.2.1, h.lo.2.2.1, Nat.le_trans h.lo.2.2.2 hs⟩⟩
  have hlt := (ho.lt q hq).2
  have hq' : W.heap[q]? = some W.heap[q] := Array.getElem?_eq_getElem hlt
  rw [hk q _ hq' (Or.inr (Or.inr ⟨(BT, 0), by simp, v, cell_of_row W BT 0 _ _ _ hv, hq⟩)), hq']

theorem prRow_one {v u : Value} {W : World} {BT : Nat} (hv : W.heap[BT]? = some (.cells #[v] 68)) (hu : W.cell? ⟨BT, 0, none⟩ = some u) : u = v := by
  rw [cell_of_row W BT 0 _ _ _ hv] at hu
  exact (by simpa using hu : v = u).symm

/-- A node more in the row. -/
theorem prMN_add {W w8 : World} {base BN BT r g8 cap8 : Nat} {met : List Pair} {x : Pair} {v : Value} (hbt : W.heap[BT]? = some (.cells #[v] 68)) (hbn : W.heap[BN]? = some (.cells #[.map (some r)] 124)) (hmp : prMap W r (met ++ [x])) (hown : W.ownsRow base 70 3 v met.length (met.flatMap prEnc)) (hgr : W.grownBy w8 v.ownBlock) (hown8 : w8.ownsRow base 70 3 (.slice (some ⟨g8, 0, none⟩) (met.length + 1) cap8) (met.length + 1) (met.flatMap prEnc ++ prEnc x)) (hor : v.ownBlock = some g8 ∨ g8 = W.heap.size) (lo : base ≤ BN ∧ base ≤ BT ∧ base ≤ r ∧ base ≤ W.heap.size) :
    prMN (w8.setCell ⟨BT, 0, none⟩ (.slice (some ⟨g8, 0, none⟩) (met.length + 1) cap8)) base BN BT r (met ++ [x]) ∧ KE (prS BT r) W (w8.setCell ⟨BT, 0, none⟩ (.slice (some ⟨g8, 0, none⟩) (met.length + 1) cap8)) := by
  have hb1 : some BT ≠ v.ownBlock := fun e => row_apart hown hbt (by decide) BT e.symm rfl
  have hb2 : some BN ≠ v.ownBlock := fun e => row_apart hown hbn (by decide) BN e.symm rfl
  obtain ⟨o, hro, hrc⟩ := hmp.not_cells
  have hb3 : some r ≠ v.ownBlock := fun e => by
    obtain ⟨c', fz, hc⟩ := owns_cells hown r e.symm
    rw [hro] at hc
    injection hc with hc
    subst hc
    cases hrc
  have l1 := (Array.getElem?_eq_some_iff.1 hbt).1
  have l2 := (Array.getElem?_eq_some_iff.1 hbn).1
  have l3 := hmp.lt
  have n12 : BN ≠ BT := fun e => by
    rw [e, hbt] at hbn
    injection hbn with hbn
    injection hbn with _ h2
    exact absurd h2 (by decide)
  have n13 : r ≠ BT := fun e => by
    rw [e, hbt] at hro
    injection hro with hro
    subst hro
    cases hrc
  have hbt8 := (hgr.block BT l1 hb1).trans hbt
  have hset := box_set hbt8 0 (.slice (some ⟨g8, 0, none⟩) (met.length + 1) cap8)
  have hset' : (w8.setCell ⟨BT, 0, none⟩ (.slice (some ⟨g8, 0, none⟩) (met.length + 1) cap8)).heap[BT]? = some (.cells #[.slice (some ⟨g8, 0, none⟩) (met.length + 1) cap8] 68) := hset
  have hsz : (w8.setCell ⟨BT, 0, none⟩ (.slice (some ⟨g8, 0, none⟩) (met.length + 1) cap8)).heap.size = w8.heap.size := by simp [World.setCell]
  refine ⟨⟨?_, ⟨_, hset', ?_⟩, ?_, ⟨lo.1, lo.2.1, lo.2.2.1, by rw [hsz]; exact Nat.le_trans lo.2.2.2 hgr.size⟩⟩, ⟨hgr.os, hgr.tape, hgr.output, by rw [hsz]; exact hgr.size, fun k o hk hs => ?_, fun k hs => ?_⟩⟩
  · rw [heap_setCell_other _ _ _ _ n12, hgr.block BN l2 hb2]
    exact hbn
  · have h3 := owns_set hown8 hbt8 (by decide) 0 (.slice (some ⟨g8, 0, none⟩) (met.length + 1) cap8)
    rw [List.length_append, List.flatMap_append]
    simpa using h3
  · exact hmp.keep (fun o ho => by rw [heap_setCell_other _ _ _ _ n13, hgr.block r l3 hb3]; exact ho)
  · have k1 : k ≠ BT := fun e => hs (Or.inl (by simp [e]))
    have k2 : some k ≠ v.ownBlock := fun e => hs (Or.inr ⟨(BT, 0), by simp, v, cell_of_row W BT 0 _ _ _ hbt, e.symm⟩)
    rw [heap_setCell_other _ _ _ _ k1, hgr.block k (Array.getElem?_eq_some_iff.1 hk).1 k2]
    exact hk
  · rcases hs with h1 | ⟨p, hp, u, hu, hr⟩
    · exact Or.inl (Or.inl h1)
    · have ep : p = (BT, 0) := by simpa using hp
      subst ep
      have eu := prRow_one hset' hu
      subst eu
      have ek : g8 = k := by simpa [Value.ownBlock] using hr
      subst ek
      rcases hor with h1 | h1
      · exact Or.inl (Or.inr ⟨(BT, 0), by simp, v, cell_of_row W BT 0 _ _ _ hbt, h1⟩)
      · exact Or.inr ⟨by omega, by
          have h9 := (hown8.lt g8 rfl).2
          have h8 : (w8.setCell ⟨BT, 0, none⟩ (.slice (some ⟨g8, 0, none⟩) (met.length + 1) cap8)).heap.size = w8.heap.size := by simp [World.setCell]
          omega⟩

set_option maxRecDepth 100000 in
set_option maxHeartbeats 1000000 in
theorem prMeet {w : World} {base BN BT r : Nat} {met : List Pair} (x : Pair) (h : prMN w base BN BT r met) (hlen : met.length ≤ 900000) :
    Calls Tryd.prog 73 #[prV x, .pointer (some ⟨BN, 0, none⟩), .pointer (some ⟨BT, 0, none⟩)] w fun e w' => e = .returned (.int .i64 (numOf (prAdd met x) x : Nat)) ∧ prMN w' base BN BT r (prAdd met x) ∧ KE (prS BT r) w w' := by
  have HM := hide h
  have hap := h.apart
  obtain ⟨v, ebt, hown⟩ := h.bt
  obtain ⟨x1, x2, x3⟩ := x
  have hbn := below_new w (Obj.cells #[.int .i64 (x1 : Nat), .int .i64 (x2 : Nat), .bool x3] 70)
  have hD : Det w.heap.size (prS BT r) := det_ownOf (by simp) (by
    intro k hk
    simp at hk
    rcases hk with rfl | rfl
    · exact h.mp.lt
    · exact (Array.getElem?_eq_some_iff.1 ebt).1)
  have hlk := prLookup (h.mp.keep (fun o ho => belowRow hbn ho)) (x1, x2, x3)
  have hM1 := h.below hbn
  have hbox := one_new w (Obj.cells #[.int .i64 (x1 : Nat), .int .i64 (x2 : Nat), .bool x3] 70)
  have b0 := cell_of_row _ BN 0 _ _ _ hM1.bn
  have t0 := cell_of_row _ BT 0 _ _ _ (belowRow hbn ebt)
  have n1 : BN < w.heap.size := (Array.getElem?_eq_some_iff.1 h.bn).1
  have n2 : BT < w.heap.size := (Array.getElem?_eq_some_iff.1 ebt).1
  have HK1 := hide (KE.of_below hD (Nat.le_refl _) hbn)
  obtain ⟨ad, cp, rfl⟩ := owns_form hown
  unfold prV prEnc at hlk
  by_cases hx : (x1, x2, x3) ∈ met
  · have e1 : prAdd met (x1, x2, x3) = met := by unfold prAdd addN; rw [if_pos hx]
    rw [e1]
    rw [if_pos hx, decide_eq_true hx] at hlk
    have HM1 := hide hM1
    clear h hown ebt hM1 hx hbn hbox e1 hD
    generalize numOf met (x1, x2, x3) = nm at *
    show Calls Tryd.prog 73 #[.agg #[.int .i64 (x1 : Nat), .int .i64 (x2 : Nat), .bool x3], .pointer (some ⟨BN, 0, none⟩), .pointer (some ⟨BT, 0, none⟩)] w _
    go_enter Tryd.func73, Tryd.ntmps73
    go_wp2
    go_ret
    exact ⟨rfl, HM1.out, HK1.out⟩
  · have e1 : prAdd met (x1, x2, x3) = met ++ [(x1, x2, x3)] := by unfold prAdd addN; rw [if_neg hx]
    rw [e1, numOf_last hx]
    rw [if_neg hx, decide_eq_false hx] at hlk
    obtain ⟨o, hup, hmp⟩ := prUpdate hM1.mp (x1, x2, x3) hx
    unfold prV prEnc at hup
    have hne : ∀ k, k ≠ r → ((w.alloc (Obj.cells #[.int .i64 (x1 : Nat), .int .i64 (x2 : Nat), .bool x3] 70)).putObj r o).heap[k]? = (w.alloc (Obj.cells #[.int .i64 (x1 : Nat), .int .i64 (x2 : Nat), .bool x3] 70)).heap[k]? := fun k hk => World.putObj_heap_other hk
    have hs2 : ((w.alloc (Obj.cells #[.int .i64 (x1 : Nat), .int .i64 (x2 : Nat), .bool x3] 70)).putObj r o).heap.size = w.heap.size + 1 := by simp
    have hrlt : r < w.heap.size := h.mp.lt
    have hbt2 := (hne BT (by omega)).trans (belowRow hbn ebt)
    have hbn2 := (hne BN (by omega)).trans hM1.bn
    have hbox2 := (hne w.heap.size (by omega)).trans hbox
    have hown1 := owns_below hown hbn
    have hown2 : ((w.alloc (Obj.cells #[.int .i64 (x1 : Nat), .int .i64 (x2 : Nat), .bool x3] 70)).putObj r o).ownsRow base 70 3 (.slice ad met.length cp) met.length (met.flatMap prEnc) := owns_kept hown1 (fun q hq => hne q (fun e => by
      obtain ⟨c', fz, hc⟩ := owns_cells hown1 q hq
      obtain ⟨o2, ho2, hcc⟩ := hM1.mp.not_cells
      rw [e, ho2] at hc
      injection hc with hc
      subst hc
      cases hcc))
    have hK2 : KE (prS BT r) w ((w.alloc (Obj.cells #[.int .i64 (x1 : Nat), .int .i64 (x2 : Nat), .bool x3] 70)).putObj r o) := by
      refine HK1.out.trans ⟨rfl, rfl, rfl, by simp, fun k o' hk hs => (hne k (fun e => hs (Or.inl (by simp [e])))).trans hk, fun k hs => Or.inl ?_⟩
      rcases hs with h1 | ⟨p, hp, u, hu, hr⟩
      · exact Or.inl h1
      · have ep : p = (BT, 0) := by simpa using hp
        subst ep
        exact Or.inr ⟨(BT, 0), by simp, u, by rw [← cell_same (hne BT (by omega))]; exact hu, hr⟩
    have q0 := cell_of_row _ BT 0 _ _ _ hbt2
    have c0 := cell_of_row _ w.heap.size 0 _ _ _ hbox2
    have c1 := cell_of_row _ w.heap.size 1 _ _ _ hbox2
    have c2 := cell_of_row _ w.heap.size 2 _ _ _ hbox2
    generalize hW2 : (w.alloc (Obj.cells #[.int .i64 (x1 : Nat), .int .i64 (x2 : Nat), .bool x3] 70)).putObj r o = W2 at *
    have hnw := one_new W2 (Obj.cells #[.int .i64 (x1 : Nat), .int .i64 (x2 : Nat), .bool x3] 70)
    have hbn3 := below_new W2 (Obj.cells #[.int .i64 (x1 : Nat), .int .i64 (x2 : Nat), .bool x3] 70)
    have HoW := hide (owns_below hown2 hbn3)
    have HbW := hide (show base ≤ (W2.alloc (Obj.cells #[.int .i64 (x1 : Nat), .int .i64 (x2 : Nat), .bool x3] 70)).heap.size by simp; have := h.lo.2.2.2; omega)
    have HnW := hide hnw
    have HK2 := hide hK2
    have HB2 := hide (And.intro hbt2 (And.intro hbn2 (And.intro hmp hbn3)))
    have Hown2 := hide hown2
    have hn2 : BT < W2.heap.size := by omega
    have Hs2 := hide hs2
    have hn3 : w.heap.size < W2.heap.size := by omega
    clear hs2 h hown ebt hM1 hx hbn hbox e1 hD hown1 hown2 hK2 hbt2 hbn2 hmp hbn3 hnw hne hbox2 hW2
    show Calls Tryd.prog 73 #[.agg #[.int .i64 (x1 : Nat), .int .i64 (x2 : Nat), .bool x3], .pointer (some ⟨BN, 0, none⟩), .pointer (some ⟨BT, 0, none⟩)] w _
    go_enter Tryd.func73, Tryd.ntmps73
    go_wp2_with (at_builtin; refine wpList_append_one _ rfl (.tmp 20) (.tmp 22) 68 70 3 24 rfl prEl base _ _ _ rfl HoW.out W2.heap.size 1 (prEnc (x1, x2, x3)) rfl rfl (fun j u hu => (cell_of_row _ W2.heap.size j _ _ _ HnW.out).trans (by simpa [prEnc] using hu)) (prEnc_one _) hlen HbW.out ?_; intro g8 cap8 w8 hown8 hgrow8 hor8 hbase8; have hbt8 := (hgrow8.block BT (by simp; omega) (fun e => row_apart Hown2.out HB2.out.1 (by decide) BT e.symm rfl)).trans (belowRow HB2.out.2.2.2 HB2.out.1); have z0 := cell_of_row w8 BT 0 _ _ _ hbt8; have zf : ∀ o, w8.frozen? ⟨BT, o, none⟩ = false := (fun o => by simp [World.frozen?, hbt8]); have Hown8 := hide hown8; have Hgrow8 := hide hgrow8; have Hor8 := hide hor8; have Hbt8 := hide hbt8; clear hown8 hgrow8 hor8 hbt8)
    go_ret
    have hK3 := KE.of_below (S := prS BT r) (m := W2.heap.size) (det_ownOf (by simp) (by
      intro k hk
      simp at hk
      rcases hk with rfl | rfl
      · exact HB2.out.2.2.1.lt
      · exact hn2)) (Nat.le_refl _) HB2.out.2.2.2
    have hlo := HM.out.lo
    obtain ⟨h1, h2⟩ := prMN_add (belowRow HB2.out.2.2.2 HB2.out.1) (belowRow HB2.out.2.2.2 HB2.out.2.1) (HB2.out.2.2.1.keep (fun o ho => belowRow HB2.out.2.2.2 ho)) HoW.out Hgrow8.out Hown8.out Hor8.out ⟨hlo.1, hlo.2.1, hlo.2.2.1, HbW.out⟩
    exact ⟨rfl, h1, (HK2.out.trans hK3).trans h2⟩

end Go.Proofs.YtpiacnnifdjlkabDoor
