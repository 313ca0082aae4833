/-
  A region that draws its order, in a round of a range over a function: all its operations but the last only read, and the last waits for all of them.
-/
import Derived.Test.YtpiacnnifdjlkaaDoorBz
import Derived.RangeFuncNested
import Derived.RangeFuncBound
import Derived.RangeFuncCalls
import Derived.RangeFuncLeaves
import Derived.OwnWalkIn
import Derived.TacticsInMore
import Derived.LoopNIn
import Derived.LoopIn
import Derived.OrdersIn
namespace Go.Proofs.YtpiacnnifdjlkaaDoor
open Go.RowKit Go.Sort

section
variable {P : Program} {l n : Nat} {C : World → Prop} {md : Region.Mode} {ops : Array Oper} {oL : Oper} {Q' : Exit → Act → World → Prop} {Qa : Act → Prop}

theorem wpIn_of_quiet {o : Oper} {a : Act} {K : Act → Prop} {K' : Act → World → Prop} {w : World} (hnd : ∀ c, o.op ≠ .defer c) (hw : C w) (h : ∀ a w', C w' → K a → K' a w') (hh : o.quiet P a C K) :
    o.wpIn (Fence.wide.inRound l) n P a w K' Q' := by
  obtain ⟨v, h1, h2⟩ := hh
  have h3 := h1 w hw
  unfold Oper.quietAt at h3
  unfold Oper.wpIn
  refine ⟨fun f _ => trivial, ?_⟩
  rw [Fence.inRound_round, Oper.semAt_some l _ _ hnd]
  generalize (execOp a.eval o).run P w = r at *
  cases r with
  | ok x w' =>
    cases x <;> simp only [Oper.quietUpon] at h3 <;> simp only [Oper.uponIn]
    case value u =>
      obtain ⟨e1, e2⟩ := h3
      rw [e1, e2]
      exact h _ _ hw h2
    case skip =>
      obtain ⟨e1, e2⟩ := h3
      rw [e1, ← e2]
      exact h _ _ hw h2
    case enter f args =>
      obtain ⟨e1, hc⟩ := h3
      rw [e1]
      refine ⟨fun hd => by simp [Fence.wide] at hd, ?_⟩
      refine CallsIn.mono (CallsIn.inRound l (callsIn_wide.2 hc)) ?_
      rintro e w'' ⟨he, hw''⟩
      subst he
      exact h _ _ hw'' h2
  | halt x w' => simp only [Oper.quietUpon] at h3

theorem wanted_free {o : Oper} (h : o.guard = none) (y : Nat → Option Bool) : Region.wanted o y = true := by simp [Region.wanted, h]

theorem all_listed {listed : Array Bool} (hs : listed.size = ops.size) (hlt : ∀ (i : Nat) (o : Oper), ops[i]? = some o → ∀ e ∈ o.after, e.on < i) (h : Region.ready md ops listed = []) : ∀ i, i < ops.size → listed.getD i false = true := by
  intro i
  induction i using Nat.strongRecOn with
  | _ i ih =>
    intro hi
    cases hb : listed.getD i false with
    | true => rfl
    | false =>
      have : i ∈ Region.ready md ops listed := by
        rw [mem_ready]
        refine ⟨?_, ops[i], by simp [hi], fun e he _ => ih e.on (hlt i _ (by simp [hi]) e he) (by have := hlt i _ (by simp [hi]) e he; omega)⟩
        have : i < listed.size := by omega
        simp [Array.getD, this] at hb ⊢
        exact hb
      rw [h] at this
      cases this

theorem ready_push {listed : Array Bool} (hs : listed.size = ops.size) (hlt : ∀ (i : Nat) (o : Oper), ops[i]? = some o → ∀ e ∈ o.after, e.on < i) {i : Nat} (hi : i < ops.size) (h : i ∈ Region.ready md (ops.push oL) (listed.push false)) : i ∈ Region.ready md ops listed := by
  rw [mem_ready] at h ⊢
  obtain ⟨h1, o, ho, h2⟩ := h
  have ho' : ops[i]? = some o := by rw [Array.getElem?_push] at ho; rw [if_neg (by omega)] at ho; exact ho
  refine ⟨?_, o, ho', fun e he hb => ?_⟩
  · have : i < listed.size := by omega
    simpa [Array.getD, this, Array.getElem_push, Nat.lt_succ_of_lt this] using h1
  · have h3 := h2 e he hb
    have h4 := hlt i o ho' e he
    have : e.on < listed.size := by omega
    simpa [Array.getD, this, Array.getElem_push, Nat.lt_succ_of_lt this] using h3

theorem wpAnyIn_ended {F : Fence} {listed : Array Bool} {a : Act} {w : World} (h : Region.ready md ops listed = []) (hq : Q' .normal a w) : ∀ fuel, wpAnyIn F n P md ops Q' fuel listed a w
  | 0 => ⟨h, hq⟩
  | _ + 1 => ⟨fun _ => hq, fun i hi => by rw [h] at hi; cases hi⟩

theorem getD_set_off {xs : Array Bool} {i j : Nat} {b : Bool} (h : j ≠ i) : (xs.setIfInBounds i b).getD j false = xs.getD j false := by
  simp [Array.getD_eq_getD_getElem?, Ne.symm h]

/-- The reads in whatever order, then the last one. -/
theorem wpAnyIn_tail (hnd : ∀ (i : Nat) o, ops[i]? = some o → ∀ c, o.op ≠ .defer c) (hgd : ∀ (i : Nat) o, ops[i]? = some o → o.guard = none) (hgL : oL.guard = none)
    (hlast : ∀ i, i < ops.size → ∃ e ∈ oL.after, Region.binds md e = true ∧ (e.on = i ∨ ∃ o, ops[e.on]? = some o ∧ ∃ e' ∈ o.after, Region.binds md e' = true ∧ e'.on = i)) (hlt : ∀ (i : Nat) o, ops[i]? = some o → ∀ e ∈ o.after, e.on < i) (hltL : ∀ e ∈ oL.after, e.on < ops.size)
    (hQ : ∀ a w, C w → Qa a → oL.wpIn (Fence.wide.inRound l) n P a w (fun a w => Q' .normal a w) Q') :
    ∀ (fuel : Nat) (listed : Array Bool) (a : Act) (w : World), listed.size = ops.size → (∀ (j : Nat) o, ops[j]? = some o → listed.getD j false = true → ∀ e ∈ o.after, Region.binds md e = true → listed.getD e.on false = true) → C w → wpAnyQ P md ops C Qa fuel listed a → wpAnyIn (Fence.wide.inRound l) n P md (ops.push oL) Q' (fuel + 1) (listed.push false) a w := by
  have hdone : ∀ (fuel : Nat) (listed : Array Bool) (a : Act) (w : World), listed.size = ops.size → C w → Qa a → (∀ i, i < ops.size → listed.getD i false = true) → wpAnyIn (Fence.wide.inRound l) n P md (ops.push oL) Q' (fuel + 1) (listed.push false) a w := by
    intro fuel listed a w hs hw hqa hall
    have hno : ∀ i, i < ops.size → i ∉ Region.ready md (ops.push oL) (listed.push false) := fun i hi hm => by
      have h1 := (mem_ready.1 (ready_push hs hlt hi hm)).1
      have h2 := hall i hi
      have : i < listed.size := by omega
      simp [Array.getD, this] at h1 h2
      rw [h1] at h2; cases h2
    have hin : ops.size ∈ Region.ready md (ops.push oL) (listed.push false) := by
      rw [mem_ready]
      refine ⟨by rw [← hs]; simp [Array.getD], oL, by simp, fun e he _ => ?_⟩
      have h1 := hltL e he
      have h2 := hall e.on h1
      have : e.on < listed.size := by omega
      simpa [Array.getD, this, Array.getElem_push, Nat.lt_succ_of_lt this] using h2
    refine ⟨fun h => (by rw [h] at hin; cases hin), fun i hi => ?_⟩
    have hile : i = ops.size := by
      rcases Nat.lt_trichotomy i ops.size with h | h | h
      · exact absurd hi (hno i h)
      · exact h
      · obtain ⟨_, o, ho, _⟩ := mem_ready.1 hi
        rw [Array.getElem?_eq_none (by simp; omega)] at ho
        cases ho
    subst hile
    unfold wpOpIn
    rw [Array.getElem?_push_size]
    simp only [wanted_free hgL, if_true]
    refine Oper.wpIn_mono (fun a' w' hq => wpAnyIn_ended ?_ hq fuel) (hQ a w hw hqa)
    apply List.eq_nil_iff_forall_not_mem.2
    intro j hj
    obtain ⟨h1, o, ho, _⟩ := mem_ready.1 hj
    by_cases hjs : j = ops.size
    · subst hjs
      simp [Array.getD, hs] at h1
    · have hjl : j < ops.size := by
        rcases Nat.lt_trichotomy j ops.size with h | h | h
        · exact h
        · exact absurd h hjs
        · rw [Array.getElem?_eq_none (by simp; omega)] at ho; cases ho
      have h2 := hall j hjl
      have hj3 : j < listed.size := by omega
      rw [getD_set_ne true (Ne.symm hjs)] at h1
      simp [Array.getD, hj3, Array.getElem_push, Nat.lt_succ_of_lt hj3] at h1 h2
      rw [h1] at h2; cases h2
  intro fuel
  induction fuel with
  | zero =>
    intro listed a w hs hcl hw h
    exact hdone 0 listed a w hs hw h.2 (all_listed hs hlt h.1)
  | succ fuel ih =>
    intro listed a w hs hcl hw h
    by_cases hr : Region.ready md ops listed = []
    · exact hdone _ listed a w hs hw (h.1 hr) (all_listed hs hlt hr)
    · obtain ⟨i0, hi0⟩ := List.exists_mem_of_ne_nil _ hr
      refine ⟨fun h0 => ?_, fun i hi => ?_⟩
      · exfalso
        obtain ⟨h1, o, ho, h2⟩ := mem_ready.1 hi0
        have hlt0 : i0 < ops.size := (Array.getElem?_eq_some_iff.1 ho).1
        have : i0 ∈ Region.ready md (ops.push oL) (listed.push false) := by
          rw [mem_ready]
          have h5 : i0 < listed.size := by omega
          refine ⟨?_, o, by rw [Array.getElem?_push, if_neg (by omega)]; exact ho, fun e he hb => ?_⟩
          · simpa [Array.getD, h5, Array.getElem_push, Nat.lt_succ_of_lt h5] using h1
          · have h3 := h2 e he hb
            have h4 := hlt i0 o ho e he
            have h6 : e.on < listed.size := by omega
            simpa [Array.getD, h6, Array.getElem_push, Nat.lt_succ_of_lt h6] using h3
        rw [h0] at this
        cases this
      · by_cases hlt1 : i < ops.size
        · have hq := h.2 i (ready_push hs hlt hlt1 hi)
          unfold qOp at hq
          unfold wpOpIn
          rw [Array.getElem?_push, if_neg (by omega)]
          have ho : ops[i]? = some ops[i] := by simp [hlt1]
          rw [ho] at hq ⊢
          simp only [wanted_free (hgd i _ ho), if_true] at hq ⊢
          refine wpIn_of_quiet (hnd i _ ho) hw (fun a' w' hw' hk => ?_) hq
          have e : (listed.push false).setIfInBounds i true = (listed.setIfInBounds i true).push false := by
            have h5 : i < listed.size := by omega
            apply Array.ext_getElem?
            intro j
            simp only [Array.getElem?_setIfInBounds, Array.getElem?_push, Array.size_push, Array.size_setIfInBounds]
            by_cases h6 : i = j
            · subst h6; simp [h5, Nat.lt_succ_of_lt h5]; intro h7; omega
            · simp [h6]
          rw [e]
          refine ih _ a' w' (by simp [hs]) (fun j oj hj hlj ed he hb => ?_) hw' hk
          have hit : listed.getD ed.on false = true := by
            by_cases hji : j = i
            · rw [hji] at hj
              obtain ⟨_, o2, ho2, h2⟩ := mem_ready.1 (ready_push hs hlt hlt1 hi)
              rw [hj] at ho2
              cases ho2
              exact h2 ed he hb
            · rw [getD_set_off hji] at hlj
              exact hcl j oj hj hlj ed he hb
          by_cases hei : ed.on = i
          · rw [hei]
            have h5 : i < listed.size := by omega
            simp [Array.getD, h5]
          · rw [getD_set_off hei]
            exact hit
        · exfalso
          have hie : i = ops.size := by
            obtain ⟨_, o, ho, _⟩ := mem_ready.1 hi
            have := (Array.getElem?_eq_some_iff.1 ho).1
            simp at this
            omega
          subst hie
          obtain ⟨_, o, ho, h2⟩ := mem_ready.1 hi
          rw [Array.getElem?_push_size] at ho
          cases ho
          obtain ⟨h1, o, ho, _⟩ := mem_ready.1 hi0
          have hlt0 : i0 < ops.size := (Array.getElem?_eq_some_iff.1 ho).1
          obtain ⟨e, he, hb, hor⟩ := hlast i0 hlt0
          have h3 := h2 e he hb
          have h5 : e.on < listed.size := by have := hltL e he; omega
          have h6 : listed.getD e.on false = true := by simpa [Array.getD, h5, Array.getElem_push, Nat.lt_succ_of_lt h5] using h3
          have h7 : listed.getD i0 false = true := by
            rcases hor with rfl | ⟨o2, ho2, e2, he2, hb2, rfl⟩
            · exact h6
            · exact hcl _ o2 ho2 h6 e2 he2 hb2
          have h8 : i0 < listed.size := by omega
          simp [Array.getD, h8] at h1 h7
          rw [h1] at h7; cases h7

def notDefer : Op → Bool
  | .defer _ => false
  | _ => true

/-- What is asked of such a region: to be reckoned. -/
def tailOk (ops : List Oper) (oL : Oper) : Bool :=
  (List.range ops.length).all (fun i => match ops[i]? with
    | some o => notDefer o.op && o.guard.isNone && o.after.all (fun e => decide (e.on < i))
    | none => true) &&
  (oL.guard.isNone && oL.after.all (fun e => decide (e.on < ops.length)) && (List.range ops.length).all (fun i => oL.after.any (fun e => Region.binds .any e && (decide (e.on = i) || match ops[e.on]? with
    | some o => o.after.any (fun e' => Region.binds .any e' && decide (e'.on = i))
    | none => false))))

theorem wpIn_region_tail {id : Nat} {a : Act} {w : World} {l' : List Oper} (hm : P.follows .mixedOrders = true) (hB : Region.lexB .any l'.toArray = true) (hT : tailOk l' oL = true) (hC : C { w with drawn := w.drawn + 1 })
    (h : wpQuiet P l'.toArray C Qa l' a) (hQ : ∀ a w, C w → Qa a → oL.wpIn (Fence.wide.inRound l) n P a w (fun a w => Q' .normal a w) Q') :
    (Code.region id (l'.toArray.push oL) true).wpIn (Fence.wide.inRound l) n P Q' a w := by
  simp only [Region.lexB, Bool.and_eq_true] at hB
  simp only [tailOk, Bool.and_eq_true] at hT
  obtain ⟨h1, ⟨h2, h3⟩, h4⟩ := hT
  have key : ∀ (i : Nat) (o : Oper), l'.toArray[i]? = some o → notDefer o.op = true ∧ o.guard.isNone = true ∧ o.after.all (fun e => decide (e.on < i)) = true := by
    intro i o ho
    have hi : i < l'.length := by simpa using (Array.getElem?_eq_some_iff.1 ho).1
    have := (List.all_eq_true.1 h1) i (List.mem_range.2 hi)
    have ho' : l'[i]? = some o := by simpa using ho
    rw [ho'] at this
    simp only [Bool.and_eq_true] at this
    exact ⟨this.1.1, this.1.2, this.2⟩
  refine wpIn_region_any hm ?_
  have e1 : (l'.toArray.push oL).size = l'.length + 1 := by simp
  have e2 : Array.replicate (l'.toArray.push oL).size false = (Array.replicate l'.length false).push false := by rw [e1, Array.replicate_succ]
  rw [e1, Array.replicate_succ]
  refine wpAnyIn_tail (C := C) (Qa := Qa) ?_ ?_ (by simpa using h2) ?_ ?_ ?_ hQ l'.length _ a _ (by simp) (fun j o ho hl => ?_) hC ?_
  · intro i o ho c hc
    have := (key i o ho).1
    rw [hc] at this
    cases this
  · intro i o ho
    simpa using (key i o ho).2.1
  · intro i hi
    have := (List.all_eq_true.1 h4) i (List.mem_range.2 (by simpa using hi))
    obtain ⟨e, he, hb⟩ := Array.any_eq_true'.1 this
    simp only [Bool.and_eq_true, Bool.or_eq_true, decide_eq_true_eq] at hb
    refine ⟨e, he, hb.1, ?_⟩
    rcases hb.2 with h | h
    · exact .inl h
    · right
      cases ho : l'[e.on]? with
      | none => rw [ho] at h; cases h
      | some o =>
        rw [ho] at h
        obtain ⟨e', he', hb'⟩ := Array.any_eq_true'.1 h
        simp only [Bool.and_eq_true, decide_eq_true_eq] at hb'
        exact ⟨o, by simpa using ho, e', he', hb'.1, hb'.2⟩
  · intro i o ho e he
    have := (key i o ho).2.2
    rw [Array.all_eq_true'] at this
    simpa using this e he
  · intro e he
    rw [Array.all_eq_true'] at h3
    simpa using h3 e he
  · exfalso
    rw [Array.getD_eq_getD_getElem?, Array.getElem?_replicate] at hl
    split at hl <;> cases hl
  · have := wpAnyQ_lex (C := C) (md := .any) (P := P) (ops := l'.toArray) (Q := Qa) hB.1 l' 0 (Array.replicate l'.length false) a (by simp) (by simpa using hB.2) h
    simpa using this
end
end Go.Proofs.YtpiacnnifdjlkaaDoor
