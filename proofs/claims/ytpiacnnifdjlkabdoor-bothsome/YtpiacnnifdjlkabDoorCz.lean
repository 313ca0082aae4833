/-
  Words without an end that an automaton takes; whether a lasso is taken hangs on its letters alone.
-/
import Derived.Test.YtpiacnnifdjlkabDoorRk
import Derived.Test.YtpiacnnifdjlkabDoorCq
/-
  A region that draws its order, in a round or not: operations that are waited for one by the other (phases) turn what is known of the world, the others don't; guards that are all met, or all not.
-/
namespace Go.Proofs.YtpiacnnifdjlkabDoor
open Go.RowKit

/-- What an operation does: a value, a call that returns, a round that ends. -/
def Goes (P : Program) (o : Oper) (a : Act) (w : World) (K : Value → World → Prop) : Prop :=
  (∃ v w', ((execOp a.eval o).run P w = .ok (.value v) w' ∨ ((execOp a.eval o).run P w = .ok .skip w' ∧ v = undef)) ∧ K v w') ∨
  (∃ f args, (execOp a.eval o).run P w = .ok (.enter f args) w ∧ Calls P f args w fun e w' => ∃ v, e = .returned v ∧ K v w') ∨
  (∃ n l f tmps assign body, (execOp a.eval o).run P w = .ok (.round l f tmps assign body) w ∧ RoundIn Fence.wide n P l f tmps assign body w fun e w' => ∃ v, e = .returned v ∧ K v w')

def fenceAt : Option Nat → Fence
  | none => Fence.wide
  | some l => Fence.wide.inRound l

theorem getD_mem' {xs : List Nat} {i : Nat} (h : i < xs.length) : xs.getD i 0 ∈ xs := by simp [List.getD, h]

theorem round_wide {n n' : Nat} {P : Program} {l : Nat} {f : FuncId} {tmps : Array Value} {assign body : Code} {w : World} {R : Ending → World → Prop} (h : RoundIn Fence.wide n P l f tmps assign body w R) : RoundIn Fence.wide n' P l f tmps assign body w R :=
  ⟨h.1, fun c cs _ => h.2 c cs (room_wide _)⟩

theorem goes_wpIn {P : Program} {Q : Exit → Act → World → Prop} {lr : Option Nat} {n : Nat} {o : Oper} {a : Act} {w : World} {K : Act → World → Prop} (hnd : ∀ c, o.op ≠ .defer c) (h : Goes P o a w fun v w' => K (a.put o.dst v) w') : o.wpIn (fenceAt lr) n P a w K Q := by
  unfold Oper.wpIn
  have hsem : Oper.semAt (fenceAt lr).round a.eval o = execOp a.eval o := Oper.semAt_eq _ _ _ hnd
  refine ⟨fun f _ => by cases lr <;> trivial, ?_⟩
  rw [hsem]
  rcases h with ⟨v, w', hr, hk⟩ | ⟨f, args, hr, hc⟩ | ⟨n', l, f, tmps, assign, body, hr, hc⟩
  · rcases hr with hr | ⟨hr, rfl⟩
    · rw [hr]; exact hk
    · rw [hr]; exact hk
  · rw [hr]
    simp only [Oper.uponIn]
    have hc' := callsIn_wide (n := n - 1).2 hc
    cases lr with
    | none => exact ⟨fun hd => by simp [fenceAt, Fence.wide] at hd, hc'.mono (fun e w' ⟨v, he, hk⟩ => by subst he; exact hk)⟩
    | some l => exact ⟨fun hd => by simp [fenceAt, Fence.wide] at hd, (CallsIn.inRound l hc').mono (fun e w' ⟨v, he, hk⟩ => by subst he; exact hk)⟩
  · rw [hr]
    simp only [Oper.uponIn]
    have hc' : RoundIn Fence.wide (n - 1) P l f tmps assign body w fun e w' => ∃ v, e = .returned v ∧ K (a.put o.dst v) w' := round_wide hc
    cases lr with
    | none => exact ⟨fun hd => by simp [fenceAt, Fence.wide] at hd, hc'.mono (fun e w' ⟨v, he, hk⟩ => by subst he; exact hk)⟩
    | some l0 =>
      have hc2 : RoundIn (Fence.wide.inRound l0) (n - 1) P l f tmps assign body w fun e w' => ∃ v, e = .returned v ∧ K (a.put o.dst v) w' := hc'
      exact ⟨fun hd => by simp [fenceAt, Fence.wide] at hd, hc2.mono (fun e w' ⟨v, he, hk⟩ => by subst he; exact hk)⟩

/-- What is asked of a region's text: each operation waits for earlier ones alone, and for the one that guards it; nothing is deferred; the temporaries are apart and lie. -/
def orderlyG (ops : Array Oper) (n : Nat) : Bool :=
  (List.range ops.size).all fun i => match ops[i]? with
    | none => false
    | some o => notDefer o.op && (match o.guard with | none => true | some (j, _) => dep o j) && o.after.toList.all (fun e => !Region.binds .any e || decide (e.on < i)) &&
      (match o.dst with
       | none => true
       | some d => decide (d < n) && (List.range ops.size).all fun j => i == j || dstAt ops j != some d)

/-- Does operation y wait for operation x, over others or not? -/
def needsF (ops : Array Oper) (x : Nat) : Nat → Nat → Bool
  | 0, _ => false
  | n + 1, y => match ops[y]? with
    | some o => o.after.toList.any fun e => Region.binds .any e && (e.on == x || needsF ops x n e.on)
    | none => false
def needsB (ops : Array Oper) (y x : Nat) : Bool := needsF ops x ops.size y

theorem needsF_done {ops : Array Oper} {listed : Array Bool} (hcl : ∀ (j : Nat) (oj : Oper), ops[j]? = some oj → listed[j]? = some true → ∀ k, dep oj k = true → listed[k]? = some true) {x : Nat} : ∀ (n y : Nat), needsF ops x n y = true → listed[y]? = some true → listed[x]? = some true
  | 0, _, h, _ => by cases h
  | n + 1, y, h, hy => by
    unfold needsF at h
    cases ho : ops[y]? with
    | none => rw [ho] at h; cases h
    | some o =>
      rw [ho] at h
      obtain ⟨e, he, hb⟩ := List.any_eq_true.1 h
      rw [Bool.and_eq_true, Bool.or_eq_true] at hb
      have hd : listed[e.on]? = some true := hcl y o ho hy e.on (List.any_eq_true.2 ⟨e, he, by rw [hb.1]; simp⟩)
      rcases hb.2 with h1 | h1
      · have e1 : e.on = x := by simpa using h1
        rw [← e1]; exact hd
      · exact needsF_done hcl n e.on h1 hd

theorem needsF_ready {ops : Array Oper} {listed : Array Bool} (hcl : ∀ (j : Nat) (oj : Oper), ops[j]? = some oj → listed[j]? = some true → ∀ k, dep oj k = true → listed[k]? = some true) {x n y : Nat} (h : needsF ops x n y = true) (hr : ∀ o, ops[y]? = some o → ∀ k, dep o k = true → listed[k]? = some true) : listed[x]? = some true := by
  cases n with
  | zero => cases h
  | succ n =>
    unfold needsF at h
    cases ho : ops[y]? with
    | none => rw [ho] at h; cases h
    | some o =>
      rw [ho] at h
      obtain ⟨e, he, hb⟩ := List.any_eq_true.1 h
      rw [Bool.and_eq_true, Bool.or_eq_true] at hb
      have hd : listed[e.on]? = some true := hr o ho e.on (List.any_eq_true.2 ⟨e, he, by rw [hb.1]; simp⟩)
      rcases hb.2 with h1 | h1
      · have e1 : e.on = x := by simpa using h1
        rw [← e1]; exact hd
      · exact needsF_done hcl n e.on h1 hd

/-- The phases' operations wait one for the other. -/
def phasesOk (ops : Array Oper) : List Nat → List (List Nat) → Bool
  | x :: y :: l, c :: cs => chainOk ops y x c && phasesOk ops (y :: l) cs
  | _, _ => true

theorem Goes.value {P : Program} {o : Oper} {a : Act} {w : World} {K : Value → World → Prop} {v : Value} {w' : World} (hr : (execOp a.eval o).run P w = .ok (.value v) w') (hk : K v w') : Goes P o a w K := Or.inl ⟨v, w', Or.inl hr, hk⟩

section
variable {P : Program} {ops : Array Oper} {Q : Exit → Act → World → Prop} {V : Nat → World → Prop} {R : Nat → Value → World → Prop} {a0 : Act}

theorem orderlyG_at (h : orderlyG ops a0.tmps.size = true) {i : Nat} {o : Oper} (hi : ops[i]? = some o) :
    (∀ c, o.op ≠ .defer c) ∧ (∀ j b, o.guard = some (j, b) → dep o j = true) ∧ (∀ e ∈ o.after.toList, Region.binds .any e = true → e.on < i) ∧ ∀ d, o.dst = some d → d < a0.tmps.size ∧ ∀ j, dstAt ops j = some d → j = i := by
  unfold orderlyG at h
  have hlt : i < ops.size := (Array.getElem?_eq_some_iff.1 hi).1
  have := List.all_eq_true.1 h i (List.mem_range.2 hlt)
  rw [hi] at this
  simp only [Bool.and_eq_true] at this
  obtain ⟨⟨⟨h0, h1⟩, h2⟩, h3⟩ := this
  refine ⟨fun c e => (by rw [e] at h0; cases h0), fun j b e => (by rw [e] at h1; exact h1), fun e he hb => ?_, fun d hd => ?_⟩
  · have := List.all_eq_true.1 h2 e he
    rw [hb] at this
    simpa using this
  · rw [hd] at h3
    simp only [Bool.and_eq_true, decide_eq_true_eq] at h3
    refine ⟨h3.1, fun j hj => ?_⟩
    have hjl : j < ops.size := by
      rcases Nat.lt_or_ge j ops.size with h | h
      · exact h
      · unfold dstAt at hj; rw [Array.getElem?_eq_none h] at hj; cases hj
    have := List.all_eq_true.1 h3.2 j (List.mem_range.2 hjl)
    rw [hj] at this
    have : i = j := by simpa using this
    exact this.symm

theorem listed_all (h : orderlyG ops a0.tmps.size = true) {listed : Array Bool} (hs : listed.size = ops.size) (hr : Region.ready .any ops listed = []) : ∀ i, i < ops.size → listed[i]? = some true := by
  intro i
  induction i using Nat.strongRecOn with
  | ind i ih =>
    intro hi
    have ho : ops[i]? = some ops[i] := Array.getElem?_eq_getElem hi
    have hl : listed[i]? = some (listed[i]'(by omega)) := Array.getElem?_eq_getElem (by omega)
    cases hb : listed[i]'(by omega) with
    | true => rw [hl, hb]
    | false =>
      exfalso
      have hm : i ∈ Region.ready .any ops listed := by
        unfold Region.ready
        refine List.mem_filter.2 ⟨List.mem_range.2 hi, ?_⟩
        rw [hb] at hl
        simp only [Array.getD_eq_getD_getElem?, hl, ho, Option.map_some, Option.getD_some, Bool.not_false, Bool.true_and]
        rw [Array.all_eq_true_iff_forall_mem]
        intro e he
        cases hbi : Region.binds .any e with
        | false => rfl
        | true =>
          have hlt := (orderlyG_at h ho).2.2.1 e (by simpa using he) hbi
          rw [ih e.on hlt (by omega)]
          rfl
      rw [hr] at hm
      cases hm

theorem amidG_end (h : orderlyG ops a0.tmps.size = true) {listed : Array Bool} {a : Act} {w : World} (hA : Amid ops (fun _ => True) R a0 listed a w) (hr : Region.ready .any ops listed = []) :
    ∃ vs : Nat → Value, (∀ i, i < ops.size → R i (vs i) w) ∧ a = { a0 with tmps := putAll ops vs (List.range ops.size) a0.tmps } := by
  have hall := listed_all h hA.size hr
  have hex : ∀ i, ∃ v, i < ops.size → R i v w ∧ ∀ d, dstAt ops i = some d → a.tmps[d]? = some v := fun i => by
    by_cases hi : i < ops.size
    · obtain ⟨v, hv⟩ := hA.done i (hall i hi)
      exact ⟨v, fun _ => hv⟩
    · exact ⟨undef, fun h => absurd h hi⟩
  obtain ⟨vs, hvs⟩ := Classical.axiomOfChoice hex
  refine ⟨vs, fun i hi => (hvs i hi).1, ?_⟩
  obtain ⟨t, d⟩ := a
  have hd := hA.defers
  dsimp only at hd
  subst hd
  congr 1
  apply Array.ext_getElem?
  intro k
  by_cases hk : ∃ i, i < ops.size ∧ dstAt ops i = some k
  · obtain ⟨i, hi, hd⟩ := hk
    have ho : ops[i]? = some ops[i] := Array.getElem?_eq_getElem hi
    have hd' : ops[i].dst = some k := by
      unfold dstAt at hd
      rw [ho] at hd
      exact hd
    obtain ⟨hlt, hu⟩ := (orderlyG_at h ho).2.2.2 k hd'
    rw [putAll_own ops vs k i hd _ _ hlt (List.mem_range.2 hi) (fun j _ hj => hu j hj)]
    exact (hvs i hi).2 k hd
  · rw [putAll_other ops vs k _ _ (fun i hi hd => hk ⟨i, List.mem_range.1 hi, hd⟩)]
    refine hA.rest k fun i hi hd => hk ⟨i, ?_, hd⟩
    have := (Array.getElem?_eq_some_iff.1 hi).1
    have := hA.size
    omega

/-- Where a phase's operation is ready, those of the phases ahead of it are done. -/
theorem phases_ahead {listed : Array Bool} (hcl : ∀ (j : Nat) (oj : Oper), ops[j]? = some oj → listed[j]? = some true → ∀ k, dep oj k = true → listed[k]? = some true) : ∀ (xs : List Nat) (cs : List (List Nat)), cs.length + 1 = xs.length → phasesOk ops xs cs = true → ∀ j, j < xs.length → (∀ k, (∃ o, ops[xs.getD j 0]? = some o ∧ dep o k = true) → listed[k]? = some true) → ∀ i, i < j → listed[xs.getD i 0]? = some true
  | [], _, _, _, j, hj, _, _, _ => absurd hj (Nat.not_lt_zero _)
  | [x], _, _, _, j, hj, _, i, hi => by
    have : j < 1 := hj
    omega
  | x :: y :: l, [], hl, _, _, _, _, _, _ => by simp at hl
  | x :: y :: l, c :: cs, hl, hp, j, hj, hr, i, hi => by
    unfold phasesOk at hp
    rw [Bool.and_eq_true] at hp
    cases j with
    | zero => omega
    | succ j =>
      have hr' : ∀ k, (∃ o, ops[(y :: l).getD j 0]? = some o ∧ dep o k = true) → listed[k]? = some true := hr
      have ih := phases_ahead hcl (y :: l) cs (by simpa using hl) hp.2 j (by simpa using hj) hr'
      have hy : j = 0 ∨ listed[y]? = some true := by
        cases j with
        | zero => exact Or.inl rfl
        | succ j => exact Or.inr (ih 0 (by omega))
      have hx : listed[x]? = some true := by
        rcases hy with rfl | hy
        · exact chain_ready hcl c hp.1 hr'
        · exact chain_done hcl c hp.1 hy
      cases i with
      | zero => exact hx
      | succ i => exact ih i (by omega)

/-- What is asked of an operation that is done in phase k, and leaves phase k'. -/
def StepP (P : Program) (ops : Array Oper) (V : Nat → World → Prop) (R : Nat → Value → World → Prop) (a0 : Act) (i : Nat) (o : Oper) (k k' : Nat) : Prop :=
  ∀ (a : Act) (w : World) (vs : Nat → Value), V k w → (∀ t, free ops i t = true → a.eval (.tmp t) = a0.eval (.tmp t)) →
    (∀ j, dep o j = true → R j (vs j) w ∧ ∀ d, dstAt ops j = some d → a.eval (.tmp d) = vs j) →
    Goes P o a w (fun v w' => V k' w' ∧ R i v w' ∧ ∀ j x, j ≠ i → needsB ops j i = false → R j x w → R j x w')

theorem goes_mono {o : Oper} {a : Act} {w : World} {K K' : Value → World → Prop} (h : ∀ v w', K v w' → K' v w') (hg : Goes P o a w K) : Goes P o a w K' := by
  rcases hg with ⟨v, w', hr, hk⟩ | ⟨f, args, hr, hc⟩ | ⟨n', l, f, tmps, assign, body, hr, hc⟩
  · exact Or.inl ⟨v, w', hr, h _ _ hk⟩
  · exact Or.inr (Or.inl ⟨f, args, hr, hc.mono fun e w' ⟨v, he, hk⟩ => ⟨v, he, h _ _ hk⟩⟩)
  · exact Or.inr (Or.inr ⟨n', l, f, tmps, assign, body, hr, hc.mono fun e w' ⟨v, he, hk⟩ => ⟨v, he, h _ _ hk⟩⟩)

theorem wpAnyIn_phases {lr : Option Nat} {n : Nat} (h : orderlyG ops a0.tmps.size = true) (gw : Bool) (hgd : ∀ (i : Nat) (o : Oper) (j : Nat) (b : Bool), ops[i]? = some o → o.guard = some (j, b) → (∃ d, dstAt ops j = some d) ∧ ∀ v w, R j v w → v = .bool (b == gw)) (hsk : gw = false → ∀ (i : Nat) (o : Oper) (g : Nat × Bool), ops[i]? = some o → o.guard = some g → ∀ w, R i undef w)
    (xs : List Nat) (cs : List (List Nat)) (hcs : cs.length + 1 = xs.length) (hxo : ∀ x ∈ xs, x < ops.size ∧ (gw = true ∨ ∃ o, ops[x]? = some o ∧ o.guard = none)) (hnx : xs.Nodup) (hph : phasesOk ops xs cs = true)
    (hpure : ∀ (i : Nat) (o : Oper), ops[i]? = some o → i ∉ xs → (gw = true ∨ o.guard = none) → ∀ k, k ≤ xs.length → (∀ j, j < k → needsB ops (xs.getD j 0) i = false) → (∀ j, j < xs.length → needsB ops i (xs.getD j 0) = true → j < k) → StepP P ops V R a0 i o k k) (hspec : ∀ k o, k < xs.length → ops[xs.getD k 0]? = some o → StepP P ops V R a0 (xs.getD k 0) o k (k + 1))
    (hend : ∀ (vs : Nat → Value) (w : World), V xs.length w → (∀ i, i < ops.size → R i (vs i) w) → Q .normal { a0 with tmps := putAll ops vs (List.range ops.size) a0.tmps } w) :
    ∀ (fuel : Nat) (listed : Array Bool) (a : Act) (w : World), listed.toList.count false ≤ fuel → Amid ops (fun _ => True) R a0 listed a w → (∃ k, k ≤ xs.length ∧ V k w ∧ ∀ j, j < xs.length → (listed[xs.getD j 0]? = some true ↔ j < k)) → wpAnyIn (fenceAt lr) n P .any ops Q fuel listed a w := by
  have hfin : ∀ (listed : Array Bool) (a : Act) (w : World), Amid ops (fun _ => True) R a0 listed a w → (∃ k, k ≤ xs.length ∧ V k w ∧ ∀ j, j < xs.length → (listed[xs.getD j 0]? = some true ↔ j < k)) → Region.ready .any ops listed = [] → Q .normal a w := by
    rintro listed a w hA ⟨k, hk, hV, hkk⟩ hr
    have hall := listed_all h hA.size hr
    obtain ⟨vs, hv, rfl⟩ := amidG_end h hA hr
    have : k = xs.length := by
      rcases Nat.lt_or_ge k xs.length with h1 | h1
      · have h2 := (hkk k h1).1 (hall _ (hxo _ (getD_mem' h1)).1)
        omega
      · omega
    subst this
    exact hend vs w hV hv
  intro fuel
  induction fuel with
  | zero =>
    intro listed a w hc hA hV
    have hr : Region.ready .any ops listed = [] := by
      unfold Region.ready
      refine List.filter_eq_nil_iff.2 fun i hi => ?_
      have hl : i < listed.size := by rw [hA.size]; exact List.mem_range.1 hi
      have hn : false ∉ listed.toList := List.count_eq_zero.1 (by omega)
      cases hb : listed[i] with
      | true => simp [Array.getD_eq_getD_getElem?, Array.getElem?_eq_getElem hl, hb]
      | false => exact absurd (by rw [← hb]; simp) hn
    exact ⟨hr, hfin listed a w hA hV hr⟩
  | succ fuel ih =>
    intro listed a w hc hA hV
    refine ⟨fun hr => hfin listed a w hA hV hr, fun i hi => ?_⟩
    unfold Region.ready at hi
    obtain ⟨hi1, hi2⟩ := List.mem_filter.1 hi
    have hio : i < ops.size := List.mem_range.1 hi1
    have hil : i < listed.size := by rw [hA.size]; exact hio
    have ho : ops[i]? = some ops[i] := Array.getElem?_eq_getElem hio
    obtain ⟨hnd, hguard, hback, hdst⟩ := orderlyG_at h ho
    simp only [Array.getD_eq_getD_getElem?, Array.getElem?_eq_getElem hil, ho, Option.map_some, Option.getD_some, Bool.and_eq_true, Bool.not_eq_true'] at hi2
    obtain ⟨hf, hdeps⟩ := hi2
    have hfi : listed[i]? = some false := by rw [Array.getElem?_eq_getElem hil, hf]
    have hdone : ∀ j, dep ops[i] j = true → listed[j]? = some true := fun j hj => by
      obtain ⟨e, he, hb, rfl⟩ := dep_out hj
      have hlt := hback e he hb
      have hd := Array.all_eq_true_iff_forall_mem.1 hdeps e (by simpa using he)
      rw [hb] at hd
      have hee : e.on < listed.size := by omega
      rw [Array.getElem?_eq_getElem hee] at hd ⊢
      simpa using hd
    have hcl : ∀ (j : Nat) (oj : Oper), ops[j]? = some oj → listed[j]? = some true → ∀ k, dep oj k = true → listed[k]? = some true := fun j oj hoj hj k hk => by
      obtain ⟨e, he, hbe, rfl⟩ := dep_out hk
      exact hA.closed j oj hoj hj e he hbe
    obtain ⟨k, hk, hVk, hkk⟩ := hV
    -- whatever it leaves, things go on
    have hnext : ∀ (v : Value) (w' : World) (k' : Nat), k' ≤ xs.length → V k' w' → (∀ j, j < xs.length → ((listed.setIfInBounds i true)[xs.getD j 0]? = some true ↔ j < k')) → R i v w' → (∀ j x, j ≠ i → needsB ops j i = false → R j x w → R j x w') → wpAnyIn (fenceAt lr) n P .any ops Q fuel (listed.setIfInBounds i true) (a.put ops[i].dst v) w' := by
      intro v w' k' hk' hV' hkk' hR' hst
      refine ih _ _ _ ?_ ?_ ⟨k', hk', hV', hkk'⟩
      · rw [Array.toList_setIfInBounds]
        have := List.count_set (a := true) (b := false) (l := listed.toList) (i := i) (by simpa using hil)
        rw [this]
        have e : (listed.toList[i]'(by simpa using hil)) = false := by simpa using hf
        rw [e]
        have hp : 0 < listed.toList.count false := List.count_pos_iff.2 (by rw [← e]; simp)
        rw [if_pos (by rfl), if_neg (by decide)]
        omega
      · have hin : ∀ j, (listed.setIfInBounds i true)[j]? = some true → j = i ∨ (j ≠ i ∧ listed[j]? = some true) := fun j hj => by
          by_cases e : j = i
          · exact Or.inl e
          · rw [Array.getElem?_setIfInBounds, if_neg (fun e' => e e'.symm)] at hj
            exact Or.inr ⟨e, hj⟩
        have hmine : (listed.setIfInBounds i true)[i]? = some true := by rw [Array.getElem?_setIfInBounds, if_pos rfl, if_pos hil]
        have hdi : dstAt ops i = ops[i].dst := by unfold dstAt; rw [ho]; rfl
        refine ⟨by simpa using hA.size, ?_, ?_, trivial, fun t ht => ?_, fun j hj => ?_, fun j oj hoj hj e he hbe => ?_⟩
        · cases hd : ops[i].dst <;> simp [Act.put, hA.tsize]
        · cases hd : ops[i].dst <;> simp [Act.put, hA.defers]
        · have h1 := ht i hmine
          have h2 := hA.rest t fun j hj => ht j (by
            by_cases e : j = i
            · rw [e]; exact hmine
            · rw [Array.getElem?_setIfInBounds, if_neg (fun e' => e e'.symm)]; exact hj)
          cases hd : ops[i].dst with
          | none => exact h2
          | some d =>
            have hne : d ≠ t := fun e => h1 (by rw [hdi, hd, e])
            simp only [Act.put]
            rw [Array.getElem?_setIfInBounds, if_neg hne]
            exact h2
        · rcases hin j hj with rfl | ⟨hne, hj'⟩
          · refine ⟨v, hR', fun d hd => ?_⟩
            rw [hdi] at hd
            have := (hdst d hd).1
            simp only [Act.put, hd]
            rw [Array.getElem?_setIfInBounds, if_pos rfl, if_pos (by rw [hA.tsize]; exact this)]
          · obtain ⟨u, hu1, hu2⟩ := hA.done j hj'
            have hnn : needsB ops j i = false := by
              cases hb : needsB ops j i with
              | false => rfl
              | true =>
                have := needsF_done hcl _ _ hb hj'
                rw [hfi] at this
                cases this
            refine ⟨u, hst j u hne hnn hu1, fun d hd => ?_⟩
            cases hdd : ops[i].dst with
            | none => exact hu2 d hd
            | some d' =>
              have hne' : d' ≠ d := fun e => hne ((hdst d' hdd).2 j (by rw [e]; exact hd))
              simp only [Act.put]
              rw [Array.getElem?_setIfInBounds, if_neg hne']
              exact hu2 d hd
        · have hel : listed[e.on]? = some true := by
            rcases hin j hj with rfl | ⟨hne, hj'⟩
            · rw [ho] at hoj
              injection hoj with hoj
              subst hoj
              exact hdone e.on (List.any_eq_true.2 ⟨e, he, by rw [hbe]; simp⟩)
            · exact hA.closed j oj hoj hj' e he hbe
          by_cases hei : e.on = i
          · rw [hei]; exact hmine
          · rw [Array.getElem?_setIfInBounds, if_neg (fun e' => hei e'.symm)]; exact hel
    have hsame : i ∉ xs → ∀ j, j < xs.length → ((listed.setIfInBounds i true)[xs.getD j 0]? = some true ↔ j < k) := fun hx j hj => by
      rw [Array.getElem?_setIfInBounds, if_neg (fun e => hx (by rw [e]; exact getD_mem' hj))]
      exact hkk j hj
    unfold wpOpIn
    rw [ho]
    simp only []
    by_cases hwant : Region.wanted ops[i] (yielded ops a.tmps) = true
    · rw [if_pos hwant]
      have hgg : gw = true ∨ ops[i].guard = none := by
        cases hg : ops[i].guard with
        | none => exact Or.inr rfl
        | some g =>
          obtain ⟨j, b⟩ := g
          left
          obtain ⟨⟨d, hd⟩, hb⟩ := hgd i _ j b ho hg
          obtain ⟨v, hv1, hv2⟩ := hA.done j (hdone j (hguard j b hg))
          have e1 := hb v w hv1
          have e2 := hv2 d hd
          unfold Region.wanted at hwant
          rw [hg] at hwant
          unfold yielded at hwant
          unfold dstAt at hd
          simp only [hd, Option.bind_some, e2, e1] at hwant
          cases gw with
          | true => rfl
          | false => cases b <;> simp at hwant
      have hex : ∀ j, ∃ v, listed[j]? = some true → R j v w ∧ ∀ d, dstAt ops j = some d → a.tmps[d]? = some v := fun j => by
        by_cases hj : listed[j]? = some true
        · obtain ⟨v, hv⟩ := hA.done j hj
          exact ⟨v, fun _ => hv⟩
        · exact ⟨undef, fun h => absurd h hj⟩
      obtain ⟨vs, hvs⟩ := Classical.axiomOfChoice hex
      have k1 : ∀ t, free ops i t = true → a.eval (.tmp t) = a0.eval (.tmp t) := fun t ht => by
        have := hA.rest t fun j hj hdj => by
          unfold dstAt at hdj
          cases hoj : ops[j]? with
          | none => rw [hoj] at hdj; cases hdj
          | some oj =>
            rw [hoj] at hdj
            have hli := hcl j oj hoj hj i (free_out ht hoj hdj)
            rw [hfi] at hli
            cases hli
        simp only [Act.eval, Array.getD_eq_getD_getElem?, this]
      have k2 : ∀ j, dep ops[i] j = true → R j (vs j) w ∧ ∀ d, dstAt ops j = some d → a.eval (.tmp d) = vs j := fun j hj => by
        obtain ⟨h1, h2⟩ := hvs j (hdone j hj)
        refine ⟨h1, fun d hd => ?_⟩
        simp only [Act.eval, Array.getD_eq_getD_getElem?, h2 d hd, Option.getD_some]
      by_cases hx : i ∈ xs
      · obtain ⟨j, hj, hji⟩ := List.mem_iff_getElem.1 hx
        have hjd : xs.getD j 0 = i := by simp [List.getD, hj, hji]
        have hjk : j = k := by
          have h1 : ¬ j < k := fun h2 => by
            have := (hkk j hj).2 h2
            rw [hjd, hfi] at this
            cases this
          rcases Nat.lt_or_ge k j with h2 | h2
          · have := phases_ahead hcl xs cs hcs hph j hj (fun m ⟨o', ho', hm⟩ => by
              rw [hjd, ho] at ho'
              obtain rfl := Option.some.inj ho'
              exact hdone m hm) k h2
            have := (hkk k (by omega)).1 this
            omega
          · omega
        subst hjk
        have hst := hspec j ops[i] hj (by rw [hjd]; exact ho)
        rw [hjd] at hst
        refine goes_wpIn hnd (goes_mono ?_ (hst a w vs hVk k1 k2))
        rintro v w' ⟨hV', hR', hkeep⟩
        refine hnext v w' (j + 1) (by omega) hV' (fun m hm => ?_) hR' hkeep
        by_cases em : m = j
        · rw [em, hjd, Array.getElem?_setIfInBounds, if_pos rfl, if_pos hil]; simp
        · rw [Array.getElem?_setIfInBounds, if_neg (fun e => em (by
            have h1 : xs[m]? = some i := by rw [e]; simp [List.getD, hm]
            have h2 : xs[j]? = some i := by rw [← hjd]; simp [List.getD, hj]
            exact (List.getElem?_inj hm hnx).1 (h1.trans h2.symm))), hkk m hm]
          omega
      · have hnn : ∀ j, j < k → needsB ops (xs.getD j 0) i = false := fun j hj => by
          cases hb : needsB ops (xs.getD j 0) i with
          | false => rfl
          | true =>
            have := needsF_done hcl _ _ hb ((hkk j (by omega)).2 hj)
            rw [hfi] at this
            cases this
        have hnr : ∀ j, j < xs.length → needsB ops i (xs.getD j 0) = true → j < k := fun j hj hb => (hkk j hj).1 (needsF_ready hcl hb (fun o' ho' m hm => by rw [ho] at ho'; obtain rfl := Option.some.inj ho'; exact hdone m hm))
        refine goes_wpIn hnd (goes_mono ?_ (hpure i _ ho hx hgg k hk hnn hnr a w vs hVk k1 k2))
        rintro v w' ⟨hV', hR', hkeep⟩
        exact hnext v w' k hk hV' (hsame hx) hR' hkeep
    · rw [if_neg hwant]
      refine ⟨fun f _ => by cases lr <;> trivial, ?_⟩
      cases hg : ops[i].guard with
      | none => exact absurd (by simp [Region.wanted, hg]) hwant
      | some g =>
        obtain ⟨j, b⟩ := g
        have hgw : gw = false := by
          obtain ⟨⟨d, hd⟩, hb⟩ := hgd i _ j b ho hg
          obtain ⟨v, hv1, hv2⟩ := hA.done j (hdone j (hguard j b hg))
          have e1 := hb v w hv1
          have e2 := hv2 d hd
          unfold Region.wanted at hwant
          rw [hg] at hwant
          unfold yielded at hwant
          unfold dstAt at hd
          simp only [hd, Option.bind_some, e2, e1] at hwant
          cases gw with
          | false => rfl
          | true => cases b <;> simp at hwant
        have hx : i ∉ xs := fun hx => by
          rcases (hxo i hx).2 with h1 | ⟨o', ho', h1⟩
          · rw [hgw] at h1; cases h1
          · rw [ho] at ho'
            obtain rfl := Option.some.inj ho'
            rw [hg] at h1
            cases h1
        exact hnext undef w k hk hVk (hsame hx) (hsk hgw i _ _ ho hg w) (fun _ _ _ _ h => h)

/-- A REGION BY PHASES. -/
theorem region_phases {lr : Option Nat} {n id : Nat} {w : World} (ds : List (Nat × Tmp)) (V : Nat → World → Prop) (R : Nat → Value → World → Prop) (hds : dstList ops (List.range ops.size) = ds) (hm : P.follows .mixedOrders = true) (h : orderlyG ops a0.tmps.size = true) (gw : Bool) (hgd : ∀ (i : Nat) (o : Oper) (j : Nat) (b : Bool), ops[i]? = some o → o.guard = some (j, b) → (∃ d, dstAt ops j = some d) ∧ ∀ v w, R j v w → v = .bool (b == gw)) (hsk : gw = false → ∀ (i : Nat) (o : Oper) (g : Nat × Bool), ops[i]? = some o → o.guard = some g → ∀ w, R i undef w)
    (xs : List Nat) (cs : List (List Nat)) (hcs : cs.length + 1 = xs.length) (hxo : ∀ x ∈ xs, x < ops.size ∧ (gw = true ∨ ∃ o, ops[x]? = some o ∧ o.guard = none)) (hnx : xs.Nodup) (hph : phasesOk ops xs cs = true) (h0 : V 0 { w with drawn := w.drawn + 1 })
    (hpure : ∀ (i : Nat) (o : Oper), ops[i]? = some o → i ∉ xs → (gw = true ∨ o.guard = none) → ∀ k, k ≤ xs.length → (∀ j, j < k → needsB ops (xs.getD j 0) i = false) → (∀ j, j < xs.length → needsB ops i (xs.getD j 0) = true → j < k) → StepP P ops V R a0 i o k k) (hspec : ∀ k o, k < xs.length → ops[xs.getD k 0]? = some o → StepP P ops V R a0 (xs.getD k 0) o k (k + 1))
    (hend : ∀ (vs : Nat → Value) (w : World), V xs.length w → (∀ i, i < ops.size → R i (vs i) w) → Q .normal { a0 with tmps := putPairs vs ds a0.tmps } w) : (Code.region id ops true).wpIn (fenceAt lr) n P Q a0 w := by
  refine wpIn_region_any hm (wpAnyIn_phases h gw hgd hsk xs cs hcs hxo hnx hph hpure hspec (fun vs w hV hR => by rw [putAll_pairs, hds]; exact hend vs w hV hR) _ _ _ _ ?_ ⟨by simp, rfl, rfl, trivial, fun _ _ => rfl, fun i hi => ?_, fun i o _ hi => ?_⟩ ⟨0, Nat.zero_le _, h0, fun j hj => ?_⟩)
  · exact Nat.le_trans (List.count_le_length) (by simp)
  · simp [Array.getElem?_replicate] at hi
  · simp [Array.getElem?_replicate] at hi
  · simp [Array.getElem?_replicate]

/-- No guards. -/
theorem region_phases0 {lr : Option Nat} {n id : Nat} {w : World} (ds : List (Nat × Tmp)) (V : Nat → World → Prop) (R : Nat → Value → World → Prop) (hds : dstList ops (List.range ops.size) = ds) (hm : P.follows .mixedOrders = true) (h : orderlyG ops a0.tmps.size = true) (hng : (ops.all fun o => o.guard.isNone) = true)
    (xs : List Nat) (cs : List (List Nat)) (hcs : cs.length + 1 = xs.length) (hxo : ∀ x ∈ xs, x < ops.size) (hnx : xs.Nodup) (hph : phasesOk ops xs cs = true) (h0 : V 0 { w with drawn := w.drawn + 1 })
    (hpure : ∀ (i : Nat) (o : Oper), ops[i]? = some o → i ∉ xs → ∀ k, k ≤ xs.length → (∀ j, j < k → needsB ops (xs.getD j 0) i = false) → (∀ j, j < xs.length → needsB ops i (xs.getD j 0) = true → j < k) → StepP P ops V R a0 i o k k) (hspec : ∀ k o, k < xs.length → ops[xs.getD k 0]? = some o → StepP P ops V R a0 (xs.getD k 0) o k (k + 1))
    (hend : ∀ (vs : Nat → Value) (w : World), V xs.length w → (∀ i, i < ops.size → R i (vs i) w) → Q .normal { a0 with tmps := putPairs vs ds a0.tmps } w) : (Code.region id ops true).wpIn (fenceAt lr) n P Q a0 w := by
  have hg : ∀ (i : Nat) (o : Oper), ops[i]? = some o → o.guard = none := fun i o ho => by
    rw [Array.all_eq_true'] at hng
    simpa using hng o (Array.mem_of_getElem? ho)
  exact region_phases ds V R hds hm h true (fun i o j b ho e => by rw [hg i o ho] at e; cases e) (fun e => by cases e) xs cs hcs (fun x hx => ⟨hxo x hx, Or.inl rfl⟩) hnx hph h0 (fun i o ho hx _ k hk hn hr => hpure i o ho hx k hk hn hr) hspec hend
end
end Go.Proofs.YtpiacnnifdjlkabDoor

namespace Go.Proofs.YtpiacnnifdjlkabDoor

/-- n steps of an automaton that reads a word without an end, from a place on. -/
def pathU (A : Aut) (u : Nat → Int) : Nat → Nat → Nat → Nat → Prop
  | 0, _, q, q' => q = q'
  | n + 1, t, q, q' => ∃ z : Nat, (∃ s ∈ A.steps, s.f = q ∧ s.l = u t ∧ s.t = z) ∧ pathU A u n (t + 1) z q'

/-- A word is taken: a good state, come to from a first one, is come to again and again. -/
def TakesU (A : Aut) (u : Nat → Int) : Prop :=
  ∃ i, i < A.first.length ∧ ∃ n q m, pathU A u n 0 (A.first.getD i 0).toNat q ∧ A.good.getD q false = true ∧ 0 < m ∧ ∀ j, pathU A u m (n + j * m) q q

theorem pathU_trans {A : Aut} {u : Nat → Int} : ∀ {n m t q q' q'' : Nat}, pathU A u n t q q' → pathU A u m (t + n) q' q'' → pathU A u (n + m) t q q''
  | 0, m, t, q, q', q'', h, k => by
    have h : q = q' := h
    subst h
    rw [Nat.zero_add]
    exact k
  | n + 1, m, t, q, q', q'', h, k => by
    obtain ⟨z, hz, h⟩ := h
    rw [Nat.succ_add]
    exact ⟨z, hz, pathU_trans h (by rw [show t + 1 + n = t + (n + 1) by omega]; exact k)⟩

section
variable {A : Aut} {hs ls : List Int}

theorem pl_far (hL : 0 < ls.length) {t : Nat} (h : hs.length ≤ t) : pl hs ls 0 t = hs.length + (t - hs.length) % ls.length := by
  rw [show t = hs.length + (t - hs.length) by omega, pl_add, pl_head hs ls hL _ (Nat.le_refl _), pl_loop hs ls hL, show hs.length + (t - hs.length) - hs.length = t - hs.length by omega]

theorem lat_pl (hL : 0 < ls.length) (t : Nat) : lat hs ls (pl hs ls 0 t) = lat hs ls t := by
  by_cases h : t < hs.length
  · rw [pl_head hs ls hL t (by omega)]
  · rw [pl_far hL (by omega)]
    unfold lat
    rw [if_neg (by omega), if_neg h, Nat.add_sub_cancel_left, Nat.mod_mod]

theorem goN_pathU (hL : 0 < ls.length) : ∀ (n t q : Nat) (y : Spot), goN (EdgeA A hs ls) n (pl hs ls 0 t, q) y ↔ y.1 = pl hs ls 0 (t + n) ∧ pathU A (lat hs ls) n t q y.2
  | 0, t, q, y => by
    constructor
    · intro h
      have h : (pl hs ls 0 t, q) = y := h
      subst h
      exact ⟨rfl, rfl⟩
    · rintro ⟨h1, h2⟩
      exact Prod.ext h1.symm h2
  | n + 1, t, q, y => by
    constructor
    · rintro ⟨z, ⟨h1, s, hs', e1, e2, e3⟩, h⟩
      have hz : z = (pl hs ls 0 (t + 1), z.2) := Prod.ext h1 rfl
      rw [hz] at h
      obtain ⟨k1, k2⟩ := (goN_pathU hL n (t + 1) z.2 y).1 h
      refine ⟨by rw [k1]; congr 1; omega, z.2, ⟨s, hs', e1, ?_, e3⟩, k2⟩
      rw [e2]
      exact lat_pl hL t
    · rintro ⟨h1, z, ⟨s, hs', e1, e2, e3⟩, h⟩
      refine ⟨(pl hs ls 0 (t + 1), z), ⟨rfl, s, hs', e1, ?_, e3⟩, (goN_pathU hL n (t + 1) z y).2 ⟨by rw [h1]; congr 1; omega, h⟩⟩
      rw [e2]
      exact (lat_pl hL t).symm

theorem pathU_times {u : Nat → Int} {n m q : Nat} (h : ∀ j, pathU A u m (n + j * m) q q) (j0 : Nat) : ∀ k, pathU A u (k * m) (n + j0 * m) q q
  | 0 => by rw [Nat.zero_mul]; rfl
  | k + 1 => by
    rw [Nat.succ_mul]
    refine pathU_trans (pathU_times h j0 k) ?_
    have := h (j0 + k)
    rw [Nat.add_mul] at this
    rw [Nat.add_assoc]
    exact this

/-- Whether a lasso is taken hangs on its letters alone. -/
theorem takes_word (hL : 0 < ls.length) : TakesA A hs ls ↔ TakesU A (lat hs ls) := by
  constructor
  · rintro ⟨i, hi, z, ⟨n, hn⟩, hg, m, hm⟩
    have hn' : goN (EdgeA A hs ls) n (pl hs ls 0 0, (A.first.getD i 0).toNat) z := hn
    obtain ⟨k1, k2⟩ := (goN_pathU hL n 0 _ z).1 hn'
    rw [Nat.zero_add] at k1
    refine ⟨i, hi, n, z.2, m + 1, k2, hg, Nat.succ_pos _, ?_⟩
    have hp : ∀ j, pl hs ls 0 (n + j * (m + 1)) = z.1 := by
      intro j
      induction j with
      | zero => rw [Nat.zero_mul, Nat.add_zero, k1]
      | succ j ih =>
        have hz : z = (pl hs ls 0 (n + j * (m + 1)), z.2) := Prod.ext ih.symm rfl
        have hm' := hm
        rw [show goN (EdgeA A hs ls) (m + 1) z z ↔ goN (EdgeA A hs ls) (m + 1) (pl hs ls 0 (n + j * (m + 1)), z.2) z by rw [← hz]] at hm'
        have := ((goN_pathU hL (m + 1) _ z.2 z).1 hm').1
        rw [Nat.succ_mul, ← Nat.add_assoc]
        exact this.symm
    intro j
    have hz : z = (pl hs ls 0 (n + j * (m + 1)), z.2) := Prod.ext (hp j).symm rfl
    have hm' := hm
    rw [show goN (EdgeA A hs ls) (m + 1) z z ↔ goN (EdgeA A hs ls) (m + 1) (pl hs ls 0 (n + j * (m + 1)), z.2) z by rw [← hz]] at hm'
    exact ((goN_pathU hL (m + 1) _ z.2 z).1 hm').2
  · rintro ⟨i, hi, n, q, m, hn, hg, hm, hc⟩
    have h1 := pathU_trans hn (by rw [Nat.zero_add]; have := pathU_times hc 0 hs.length; rwa [Nat.zero_mul, Nat.add_zero] at this)
    have h2 := pathU_times hc hs.length ls.length
    have hT : hs.length ≤ n + hs.length * m := Nat.le_trans (Nat.le_mul_of_pos_right _ hm) (Nat.le_add_left _ _)
    have hback : pl hs ls 0 (n + hs.length * m + ls.length * m) = pl hs ls 0 (n + hs.length * m) := by
      rw [pl_far hL (by omega), pl_far hL hT, show n + hs.length * m + ls.length * m - hs.length = n + hs.length * m - hs.length + ls.length * m by omega, Nat.add_mul_mod_self_left]
    refine ⟨i, hi, (pl hs ls 0 (n + hs.length * m), q), ⟨n + hs.length * m, (goN_pathU hL _ 0 _ _).2 ⟨by rw [Nat.zero_add], h1⟩⟩, hg, ls.length * m - 1, ?_⟩
    have hpos : 0 < ls.length * m := Nat.mul_pos hL hm
    rw [show ls.length * m - 1 + 1 = ls.length * m by omega]
    exact (goN_pathU hL _ _ q _).2 ⟨hback.symm, h2⟩
end

theorem takes_same {A : Aut} {hs ls hs' ls' : List Int} (hL : 0 < ls.length) (hL' : 0 < ls'.length) (h : ∀ t, lat hs ls t = lat hs' ls' t) : TakesA A hs ls ↔ TakesA A hs' ls' := by
  rw [takes_word hL, takes_word hL', show lat hs ls = lat hs' ls' from funext h]
end Go.Proofs.YtpiacnnifdjlkabDoor
