/-
  A region that draws its order and whose last operation waits for all others, two of them (X, then Y) turning what is known of the world; and such a region in a round of a range over a function.
-/
import Derived.Test.YtpiacnnifdjlkabDoorBe
import Derived.Test.YtpiacnnifdjlkabDoorCa
namespace Go.Proofs.YtpiacnnifdjlkabDoor

/-- Each one of a chain waits for the next one. -/
def chainGo (ops : Array Oper) (x : Nat) : Nat → List Nat → Bool
  | y, [] => (match ops[y]? with | some o => dep o x | none => false)
  | y, z :: l => (match ops[y]? with | some o => dep o z | none => false) && chainGo ops x z l
def chainOk (ops : Array Oper) (y x : Nat) (l : List Nat) : Bool := decide (y ≠ x) && chainGo ops x y l

section
variable {P : Program} {ops : Array Oper} {Q : Exit → Act → World → Prop} {W : World → Prop} {V2 : Bool → Bool → World → Prop} {R : Nat → Value → World → Prop} {a0 : Act}

theorem chain_ne {y x : Nat} {l : List Nat} (h : chainOk ops y x l = true) : y ≠ x := by
  unfold chainOk at h
  rw [Bool.and_eq_true] at h
  exact of_decide_eq_true h.1

theorem chain_go {listed : Array Bool} (hcl : ∀ (j : Nat) (oj : Oper), ops[j]? = some oj → listed[j]? = some true → ∀ k, dep oj k = true → listed[k]? = some true) {x : Nat} : ∀ (l : List Nat) {y : Nat}, chainGo ops x y l = true → (∀ k, (∃ o, ops[y]? = some o ∧ dep o k = true) → listed[k]? = some true) → listed[x]? = some true
  | [], y, h, hr => by
    unfold chainGo at h
    cases ho : ops[y]? with
    | none => rw [ho] at h; cases h
    | some o => rw [ho] at h; exact hr x ⟨o, ho, h⟩
  | z :: l, y, h, hr => by
    unfold chainGo at h
    rw [Bool.and_eq_true] at h
    cases ho : ops[y]? with
    | none => rw [ho] at h; cases h.1
    | some o =>
      rw [ho] at h
      have hz := hr z ⟨o, ho, h.1⟩
      exact chain_go hcl l h.2 (fun k hk => by obtain ⟨oz, hoz, hk⟩ := hk; exact hcl z oz hoz hz k hk)

theorem chain_ready {listed : Array Bool} (hcl : ∀ (j : Nat) (oj : Oper), ops[j]? = some oj → listed[j]? = some true → ∀ k, dep oj k = true → listed[k]? = some true) {x i : Nat} (l : List Nat) (h : chainOk ops i x l = true) (hr : ∀ k, (∃ o, ops[i]? = some o ∧ dep o k = true) → listed[k]? = some true) : listed[x]? = some true := by
  unfold chainOk at h
  rw [Bool.and_eq_true] at h
  exact chain_go hcl l h.2 hr

theorem chain_done {listed : Array Bool} (hcl : ∀ (j : Nat) (oj : Oper), ops[j]? = some oj → listed[j]? = some true → ∀ k, dep oj k = true → listed[k]? = some true) {y x : Nat} (l : List Nat) (h : chainOk ops y x l = true) (hy : listed[y]? = some true) : listed[x]? = some true :=
  chain_ready hcl l h (fun k hk => by obtain ⟨o, ho, hk⟩ := hk; exact hcl y o ho hy k hk)

/-- As wpOp and wpAny, but that nothing is let out. -/
def wpOpL (P : Program) (ops : Array Oper) (Q : Exit → Act → World → Prop) (i : Nat) (K : Act → World → Prop) (a : Act) (w : World) : Prop :=
  match ops[i]? with
  | none => K a w
  | some o => if Region.wanted o (yielded ops a.tmps) then o.wp P a w K Q else K (a.put o.dst undef) w

def wpAnyL (P : Program) (ops : Array Oper) (Q : Exit → Act → World → Prop) : Nat → Array Bool → Act → World → Prop
  | 0, listed, a, w => Region.ready .any ops listed = [] ∧ Q .normal a w
  | fuel + 1, listed, a, w =>
    (Region.ready .any ops listed = [] → Q .normal a w) ∧
    ∀ i ∈ Region.ready .any ops listed, wpOpL P ops Q i (wpAnyL P ops Q fuel (listed.setIfInBounds i true)) a w

theorem wpAny_of_L : ∀ (fuel : Nat) (listed : Array Bool) (a : Act) (w : World), wpAnyL P ops Q fuel listed a w → wpAny P .any ops Q fuel listed a w
  | 0, _, _, _, h => h
  | fuel + 1, listed, a, w, h => by
    refine ⟨h.1, fun i hi => ?_⟩
    have h2 := h.2 i hi
    unfold wpOpL at h2
    unfold wpOp
    cases ho : ops[i]? with
    | none => rw [ho] at h2; exact wpAny_of_L fuel _ _ _ h2
    | some o =>
      rw [ho] at h2
      simp only [] at h2 ⊢
      split
      · rename_i hw
        simp only [hw, if_true] at h2
        exact Or.inl (Oper.wp_mono (fun a' w' h3 => wpAny_of_L fuel _ _ _ h3) h2)
      · rename_i hw
        simp only [hw] at h2
        exact wpAny_of_L fuel _ _ _ (by simpa using h2)

/-- What is asked of an operation that turns what is known. -/
def StepT (P : Program) (ops : Array Oper) (Q : Exit → Act → World → Prop) (V V' : World → Prop) (R : Nat → Value → World → Prop) (a0 : Act) (i : Nat) (o : Oper) : Prop :=
  ∀ (a : Act) (w : World) (vs : Nat → Value), V w → (∀ t, free ops i t = true → a.eval (.tmp t) = a0.eval (.tmp t)) →
    (∀ j, dep o j = true → R j (vs j) w ∧ ∀ d, dstAt ops j = some d → a.eval (.tmp d) = vs j) →
    o.wp P a w (fun a' w' => ∃ v, a' = a.put o.dst v ∧ V' w' ∧ R i v w' ∧ ∀ j x, j ≠ i → R j x w → R j x w') Q

theorem wpAny_two (h : orderly ops a0.tmps.size = true) (hh : hung ops = true) {L : Nat} {oL : Oper} (hsz : ops.size = L + 1) (hoL : ops[L]? = some oL) (X Y : Nat) (hXL : X < L) (hYL : Y < L) (ch : List Nat) (hch : chainOk ops Y X ch = true) (hstep : ∀ i o, i < L → i ≠ X → i ≠ Y → ops[i]? = some o → ∀ b c, StepOk P ops Q (V2 b c) R a0 i o) (hX : ∀ o, ops[X]? = some o → StepT P ops Q (V2 false false) (V2 true false) R a0 X o) (hY : ∀ o, ops[Y]? = some o → StepT P ops Q (V2 true false) (V2 true true) R a0 Y o)
    (hend : ∀ (vs : Nat → Value) (w : World), V2 true true w → (∀ i, i < L → R i (vs i) w) → oL.wp P { a0 with tmps := putAll ops vs (List.range L) a0.tmps } w (fun a' w' => Q .normal a' w') Q) :
    ∀ (fuel : Nat) (listed : Array Bool) (a : Act) (w : World), listed.toList.count false ≤ fuel → Amid ops (fun _ => True) R a0 listed a w → listed[L]? = some false → (∃ b c, listed[X]? = some b ∧ listed[Y]? = some c ∧ V2 b c w) → wpAnyL P ops Q fuel listed a w := by
  intro fuel
  induction fuel with
  | zero =>
    intro listed a w hc hA hnL hV
    exfalso
    have hn : false ∉ listed.toList := List.count_eq_zero.1 (by omega)
    obtain ⟨hl, he⟩ := Array.getElem?_eq_some_iff.1 hnL
    exact hn (by rw [← he]; simp)
  | succ fuel ih =>
    intro listed a w hc hA hnL hV
    refine ⟨fun hr => (by have := amid_listed h hA.size hr L (by omega); rw [hnL] at this; cases this), fun i hi => ?_⟩
    unfold Region.ready at hi
    obtain ⟨hi1, hi2⟩ := List.mem_filter.1 hi
    have hio : i < ops.size := List.mem_range.1 hi1
    have hil : i < listed.size := by rw [hA.size]; exact hio
    have ho : ops[i]? = some ops[i] := Array.getElem?_eq_getElem hio
    obtain ⟨hg, hback, hdst⟩ := orderly_at h ho
    simp only [Array.getD_eq_getD_getElem?, Array.getElem?_eq_getElem hil, ho, Option.map_some, Option.getD_some, Bool.and_eq_true, Bool.not_eq_true'] at hi2
    obtain ⟨hf, hdeps⟩ := hi2
    have hw : Region.wanted ops[i] (yielded ops a.tmps) = true := by simp [Region.wanted, hg]
    unfold wpOpL
    rw [ho]
    simp only [hw, if_true]
    by_cases hiL : i = L
    · have e1 : ops[i] = oL := by
        have h1 : ops[i]? = some oL := by rw [hiL]; exact hoL
        rw [ho] at h1
        exact Option.some.inj h1
      have hr : ∀ e ∈ oL.after.toList, Region.binds .any e = true → listed[e.on]? = some true := fun e he hb => by
        rw [← e1] at he
        have hlt := hback e he hb
        have hd := Array.all_eq_true_iff_forall_mem.1 hdeps e (by simpa using he)
        rw [hb] at hd
        have hee : e.on < listed.size := by omega
        rw [Array.getElem?_eq_getElem hee] at hd ⊢
        simpa using hd
      have hall : ∀ i, i < L → listed[i]? = some true := fun i hi => hung_all h hh hsz hoL hA hr L i (by omega) hi
      obtain ⟨vs, hv, rfl⟩ := last_end h hsz hA hnL hall
      rw [e1]
      refine Oper.wp_mono ?_ (hend vs w (by obtain ⟨b, c, hb, hc, hV⟩ := hV; rw [hall X hXL] at hb; rw [hall Y hYL] at hc; have e1 := Option.some.inj hb; have e2 := Option.some.inj hc; subst e1; subst e2; exact hV) hv)
      intro a' w' hq
      have hre : Region.ready .any ops (listed.setIfInBounds i true) = [] := by
        unfold Region.ready
        refine List.filter_eq_nil_iff.2 fun k hk => ?_
        have hk := List.mem_range.1 hk
        have : (listed.setIfInBounds i true)[k]? = some true := by
          by_cases e : k = i
          · rw [e, Array.getElem?_setIfInBounds, if_pos rfl, if_pos hil]
          · rw [Array.getElem?_setIfInBounds, if_neg (fun e' => e e'.symm)]
            exact hall k (by omega)
        simp [Array.getD_eq_getD_getElem?, this]
      cases fuel with
      | zero => exact ⟨hre, hq⟩
      | succ fuel => exact ⟨fun _ => hq, fun k hk => by rw [hre] at hk; cases hk⟩
    have hex : ∀ j, ∃ v, listed[j]? = some true → R j v w ∧ ∀ d, dstAt ops j = some d → a.tmps[d]? = some v := fun j => by
      by_cases hj : listed[j]? = some true
      · obtain ⟨v, hv⟩ := hA.done j hj
        exact ⟨v, fun _ => hv⟩
      · exact ⟨undef, fun h => absurd h hj⟩
    obtain ⟨vs, hvs⟩ := Classical.axiomOfChoice hex
    have hmineX : (listed.setIfInBounds i true)[i]? = some true := by rw [Array.getElem?_setIfInBounds, if_pos rfl, if_pos hil]
    have hgo : (∀ t, free ops i t = true → a.eval (.tmp t) = a0.eval (.tmp t)) → (∀ j, dep ops[i] j = true → R j (vs j) w ∧ ∀ d, dstAt ops j = some d → a.eval (.tmp d) = vs j) →
        ops[i].wp P a w (fun a' w' => ∃ v, a' = a.put ops[i].dst v ∧ (∃ b c, (listed.setIfInBounds i true)[X]? = some b ∧ (listed.setIfInBounds i true)[Y]? = some c ∧ V2 b c w') ∧ R i v w' ∧ ∀ j x, j ≠ i → R j x w → R j x w') Q := by
      obtain ⟨b, c, hb, hc, hVb⟩ := hV
      have hfi : listed[i]? = some false := by rw [Array.getElem?_eq_getElem hil, hf]
      intro k1 k2
      by_cases hiX : i = X
      · have e1 : b = false := by
          rw [← hiX, hfi] at hb
          exact (Option.some.inj hb).symm
        have hXY : X ≠ Y := fun e => by
          have := chain_ne hch
          exact this e.symm
        have e2 : c = false := by
          cases c with
          | false => rfl
          | true =>
            have := chain_done (fun j oj hoj hj k hk => by obtain ⟨e, he, hbe, rfl⟩ := dep_out hk; exact hA.closed j oj hoj hj e he hbe) ch hch hc
            rw [← hiX, hfi] at this
            cases this
        rw [e1, e2] at hVb
        refine Oper.wp_mono ?_ (hX ops[i] (by rw [← hiX]; exact ho) a w vs hVb (by rw [← hiX]; exact k1) k2)
        rintro a' w' ⟨v, h1, h2, h3, h4⟩
        exact ⟨v, h1, ⟨true, false, by rw [← hiX]; exact hmineX, by rw [Array.getElem?_setIfInBounds, if_neg (by rw [hiX]; exact hXY), hc, e2], h2⟩, by rw [hiX]; exact h3, by rw [hiX]; exact h4⟩
      · by_cases hiY : i = Y
        · have e2 : c = false := by
            rw [← hiY, hfi] at hc
            exact (Option.some.inj hc).symm
          have e1 : b = true := by
            have := chain_ready (fun j oj hoj hj k hk => by obtain ⟨e, he, hbe, rfl⟩ := dep_out hk; exact hA.closed j oj hoj hj e he hbe) ch hch (i := Y) (fun k hk => by
              have hoY : ops[Y]? = some ops[i] := by rw [← hiY]; exact ho
              obtain ⟨oY, hoY', hk⟩ := hk
              rw [hoY] at hoY'
              obtain rfl := Option.some.inj hoY'
              obtain ⟨e, he, hbe, rfl⟩ := dep_out hk
              have hlt := hback e he hbe
              have hd := Array.all_eq_true_iff_forall_mem.1 hdeps e (by simpa using he)
              rw [hbe] at hd
              have hee : e.on < listed.size := by omega
              rw [Array.getElem?_eq_getElem hee] at hd ⊢
              simpa using hd)
            rw [hb] at this
            exact Option.some.inj this
          rw [e1, e2] at hVb
          refine Oper.wp_mono ?_ (hY ops[i] (by rw [← hiY]; exact ho) a w vs hVb (by rw [← hiY]; exact k1) k2)
          rintro a' w' ⟨v, h1, h2, h3, h4⟩
          exact ⟨v, h1, ⟨true, true, by rw [Array.getElem?_setIfInBounds, if_neg hiX, hb, e1], by rw [← hiY]; exact hmineX, h2⟩, by rw [hiY]; exact h3, by rw [hiY]; exact h4⟩
        · refine Oper.wp_mono ?_ (hstep i _ (by omega) hiX hiY ho b c a w vs hVb k1 k2)
          rintro a' w' ⟨v, h1, h2, h3, h4⟩
          exact ⟨v, h1, ⟨b, c, by rw [Array.getElem?_setIfInBounds, if_neg hiX]; exact hb, by rw [Array.getElem?_setIfInBounds, if_neg hiY]; exact hc, h2⟩, h3, fun j x _ h => h4 j x h⟩
    refine Oper.wp_mono ?_ (hgo ?_ ?_)
    · rintro a' w' ⟨v, rfl, hW', hR', hst⟩
      refine ih _ _ _ ?_ ?_ (by rw [Array.getElem?_setIfInBounds, if_neg hiL]; exact hnL) hW'
      · rw [Array.toList_setIfInBounds]
        have := List.count_set (a := true) (b := false) (l := listed.toList) (i := i) (by simpa using hil)
        rw [this]
        have e : (listed.toList[i]'(by simpa using hil)) = false := by simpa using hf
        rw [e]
        have hp : 0 < listed.toList.count false := List.count_pos_iff.2 (by rw [← e]; simp)
        rw [if_pos (by rfl), if_neg (by decide)]
        omega
      · have hin : ∀ j, (listed.setIfInBounds i true)[j]? = some true → j = i ∨ (j ≠ i ∧ listed[j]? = some true) := fun j hj => by
          by_cases e : j = i
          · exact Or.inl e
          · rw [Array.getElem?_setIfInBounds, if_neg (fun e' => e e'.symm)] at hj
            exact Or.inr ⟨e, hj⟩
        have hmine : (listed.setIfInBounds i true)[i]? = some true := by rw [Array.getElem?_setIfInBounds, if_pos rfl, if_pos hil]
        have hdi : dstAt ops i = ops[i].dst := by unfold dstAt; rw [ho]; rfl
        refine ⟨by simpa using hA.size, ?_, ?_, trivial, fun t ht => ?_, fun j hj => ?_, fun j oj hoj hj e he hbe => ?_⟩
        · cases hd : ops[i].dst <;> simp [Act.put, hA.tsize]
        · cases hd : ops[i].dst <;> simp [Act.put, hA.defers]
        · have h1 := ht i hmine
          have h2 := hA.rest t fun j hj => ht j (by
            by_cases e : j = i
            · rw [e]; exact hmine
            · rw [Array.getElem?_setIfInBounds, if_neg (fun e' => e e'.symm)]; exact hj)
          cases hd : ops[i].dst with
          | none => exact h2
          | some d =>
            have hne : d ≠ t := fun e => h1 (by rw [hdi, hd, e])
            simp only [Act.put]
            rw [Array.getElem?_setIfInBounds, if_neg hne]
            exact h2
        · rcases hin j hj with rfl | ⟨hne, hj'⟩
          · refine ⟨v, hR', fun d hd => ?_⟩
            rw [hdi] at hd
            have := (hdst d hd).1
            simp only [Act.put, hd]
            rw [Array.getElem?_setIfInBounds, if_pos rfl, if_pos (by rw [hA.tsize]; exact this)]
          · obtain ⟨u, hu1, hu2⟩ := hA.done j hj'
            refine ⟨u, hst j u hne hu1, fun d hd => ?_⟩
            cases hdd : ops[i].dst with
            | none => exact hu2 d hd
            | some d' =>
              have hne' : d' ≠ d := fun e => hne ((hdst d' hdd).2 j (by rw [e]; exact hd))
              simp only [Act.put]
              rw [Array.getElem?_setIfInBounds, if_neg hne']
              exact hu2 d hd
        · have hel : listed[e.on]? = some true := by
            rcases hin j hj with rfl | ⟨hne, hj'⟩
            · rw [ho] at hoj
              injection hoj with hoj
              subst hoj
              have hlt := hback e he hbe
              have hd := Array.all_eq_true_iff_forall_mem.1 hdeps e (by simpa using he)
              rw [hbe] at hd
              have hee : e.on < listed.size := by omega
              rw [Array.getElem?_eq_getElem hee] at hd ⊢
              simpa using hd
            · exact hA.closed j oj hoj hj' e he hbe
          by_cases hei : e.on = i
          · rw [hei]; exact hmine
          · rw [Array.getElem?_setIfInBounds, if_neg (fun e' => hei e'.symm)]; exact hel
    · intro t ht
      have := hA.rest t fun j hj hdj => by
        unfold dstAt at hdj
        cases hoj : ops[j]? with
        | none => rw [hoj] at hdj; cases hdj
        | some oj =>
          rw [hoj] at hdj
          obtain ⟨e, he, hbe⟩ := List.any_eq_true.1 (free_out ht hoj hdj)
          rw [Bool.and_eq_true] at hbe
          have hli := hA.closed j oj hoj hj e he hbe.1
          rw [show e.on = i by simpa using hbe.2, Array.getElem?_eq_getElem hil, hf] at hli
          cases hli
      simp only [Act.eval, Array.getD_eq_getD_getElem?, this]
    · intro j hj
      obtain ⟨e, he, hbe⟩ := List.any_eq_true.1 hj
      rw [Bool.and_eq_true] at hbe
      obtain ⟨hb, hej⟩ := hbe
      obtain rfl : e.on = j := by simpa using hej
      have hlt := hback e he hb
      have hd := Array.all_eq_true_iff_forall_mem.1 hdeps e (by simpa using he)
      rw [hb] at hd
      have hel : listed[e.on]? = some true := by
        have hee : e.on < listed.size := by omega
        rw [Array.getElem?_eq_getElem hee] at hd ⊢
        simpa using hd
      obtain ⟨h1, h2⟩ := hvs e.on hel
      refine ⟨h1, fun d hd => ?_⟩
      simp only [Act.eval, Array.getD_eq_getD_getElem?, h2 d hd, Option.getD_some]


/-- All orders of such a region. -/
theorem orders_two {a0 : Act} {w : World} (L X Y : Nat) (ch : List Nat) (oL : Oper) (ds : List (Nat × Tmp)) (V2 : Bool → Bool → World → Prop) (R : Nat → Value → World → Prop) (hds : dstList ops (List.range L) = ds) (h : orderly ops a0.tmps.size = true) (hh : hung ops = true) (hsz : ops.size = L + 1) (hoL : ops[L]? = some oL) (hXL : X < L) (hYL : Y < L) (hch : chainOk ops Y X ch = true)
    (h0 : V2 false false { w with drawn := w.drawn + 1 }) (hstep : ∀ i o, i < L → i ≠ X → i ≠ Y → ops[i]? = some o → ∀ b c, StepOk P ops Q (V2 b c) R a0 i o) (hX : ∀ o, ops[X]? = some o → StepT P ops Q (V2 false false) (V2 true false) R a0 X o) (hY : ∀ o, ops[Y]? = some o → StepT P ops Q (V2 true false) (V2 true true) R a0 Y o)
    (hend : ∀ (vs : Nat → Value) (w : World), V2 true true w → (∀ i, i < L → R i (vs i) w) → oL.wp P { a0 with tmps := putPairs vs ds a0.tmps } w (fun a' w' => Q .normal a' w') Q) : wpAnyL P ops Q ops.size (Array.replicate ops.size false) a0 { w with drawn := w.drawn + 1 } := by
  refine wpAny_two h hh hsz hoL X Y hXL hYL ch hch hstep hX hY (fun vs w hW hR => by rw [putAll_pairs, hds]; exact hend vs w hW hR) _ _ _ _ ?_ ⟨by simp, rfl, rfl, trivial, fun _ _ => rfl, fun i hi => ?_, fun i o _ hi => ?_⟩ ?_ ?_
  · exact Nat.le_trans (List.count_le_length) (by simp)
  · simp [Array.getElem?_replicate] at hi
  · simp [Array.getElem?_replicate] at hi
  · simp [hsz]
  · refine ⟨false, false, ?_, ?_, h0⟩
    · rw [Array.getElem?_replicate, if_pos (by omega)]
    · rw [Array.getElem?_replicate, if_pos (by omega)]

theorem oper_inRound {l n : Nat} {o : Oper} {a : Act} {w : World} {K : Act → World → Prop} (hnd : ∀ c, o.op ≠ .defer c) (h : o.wp P a w K Q) : o.wpIn (Fence.wide.inRound l) n P a w K Q := by
  unfold Oper.wp at h
  unfold Oper.wpIn
  refine ⟨fun f _ => trivial, ?_⟩
  rw [Fence.inRound_round, Oper.semAt_some l _ _ hnd]
  generalize (execOp a.eval o).run P w = r at *
  cases r with
  | ok x w' =>
    cases x <;> simp only [Oper.upon] at h <;> simp only [Oper.uponIn] <;>
      first
        | exact h
        | exact ⟨fun hd => by simp [Fence.wide] at hd, CallsIn.inRound l (callsIn_wide.2 h)⟩
        | exact ⟨fun hd => by simp [Fence.wide] at hd, fun c cs _ => let ⟨v, w', r, s⟩ := h c cs; ⟨v, w', r, stepsIn_wide.2 s⟩⟩
        | exact h.elim
  | halt x w' => cases x <;> simp only [Oper.upon] at h <;> simp only [Oper.uponIn] <;> exact h

theorem orders_inRound {l n : Nat} (hnd : ∀ (i : Nat) o, ops[i]? = some o → ∀ c, o.op ≠ .defer c) : ∀ (fuel : Nat) (listed : Array Bool) (a : Act) (w : World), wpAnyL P ops Q fuel listed a w → wpAnyIn (Fence.wide.inRound l) n P .any ops Q fuel listed a w
  | 0, _, _, _, h => h
  | fuel + 1, listed, a, w, h => by
    refine ⟨h.1, fun i hi => ?_⟩
    have h2 := h.2 i hi
    unfold wpOpL at h2
    unfold wpOpIn
    cases ho : ops[i]? with
    | none => rw [ho] at h2; exact orders_inRound hnd fuel _ _ _ h2
    | some o =>
      rw [ho] at h2
      simp only [] at h2 ⊢
      split
      · rename_i hw
        simp only [hw, if_true] at h2
        exact Oper.wpIn_mono (fun a' w' h3 => orders_inRound hnd fuel _ _ _ h3) (oper_inRound (hnd i o ho) h2)
      · rename_i hw
        simp only [hw] at h2
        exact ⟨fun f _ => trivial, orders_inRound hnd fuel _ _ _ (by simpa using h2)⟩

def noDefer (ops : Array Oper) : Bool := ops.all fun o => notDefer o.op

theorem noDefer_out (h : noDefer ops = true) (i : Nat) (o : Oper) (ho : ops[i]? = some o) (c) : o.op ≠ .defer c := by
  intro e
  unfold noDefer at h
  rw [Array.all_eq_true'] at h
  have := h o (Array.mem_of_getElem? ho)
  rw [e] at this
  cases this

/-- A region that draws its order, by all its orders. -/
theorem wp_region_orders_any {id : Nat} {a0 : Act} {w : World} (hm : P.follows .mixedOrders = true) (h : wpAnyL P ops Q ops.size (Array.replicate ops.size false) a0 { w with drawn := w.drawn + 1 }) : (Code.region id ops true).wp P Q a0 w := wp_region_any hm (wpAny_of_L _ _ _ _ h)

/-- As it is in a round. -/
theorem wpIn_region_orders_any {l n id : Nat} {a0 : Act} {w : World} (hm : P.follows .mixedOrders = true) (hnd : noDefer ops = true) (h : wpAnyL P ops Q ops.size (Array.replicate ops.size false) a0 { w with drawn := w.drawn + 1 }) : (Code.region id ops true).wpIn (Fence.wide.inRound l) n P Q a0 w :=
  wpIn_region_any hm (orders_inRound (fun i o ho c => noDefer_out hnd i o ho c) _ _ _ _ h)
end
end Go.Proofs.YtpiacnnifdjlkabDoor
