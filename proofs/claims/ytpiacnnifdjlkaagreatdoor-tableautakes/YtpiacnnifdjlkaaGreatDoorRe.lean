/-
  Regions that append one element to a row of the call's own, in a field of a box: what they keep.
-/
import Derived.Test.YtpiacnnifdjlkaaGreatDoorTf
import Derived.Test.YtpiacnnifdjlkaaGreatDoorLa
/-
  A region that draws its order and whose last operation waits for all others: one obligation for each of those, whatever the order, then the last one; one of them (X) turns what is known of the world.
-/
namespace Go.Proofs.YtpiacnnifdjlkaaGreatDoor

/-- Each operation but the last is waited for by another one. -/
def hung (ops : Array Oper) : Bool := (List.range (ops.size - 1)).all fun i => (List.range ops.size).any fun k => match ops[k]? with
  | some o => dep o i
  | none => false

section
variable {P : Program} {ops : Array Oper} {Q : Exit → Act → World → Prop} {W : World → Prop} {V : Bool → World → Prop} {R : Nat → Value → World → Prop} {a0 : Act}

theorem dep_out {o : Oper} {i : Nat} (h : dep o i = true) : ∃ e ∈ o.after.toList, Region.binds .any e = true ∧ e.on = i := by
  obtain ⟨e, he, hbe⟩ := List.any_eq_true.1 h
  rw [Bool.and_eq_true] at hbe
  exact ⟨e, he, hbe.1, by simpa using hbe.2⟩

/-- Where the last one may go on, all others are done. -/
theorem hung_all (h : orderly ops a0.tmps.size = true) (hh : hung ops = true) {L : Nat} {oL : Oper} (hsz : ops.size = L + 1) (hoL : ops[L]? = some oL) {listed : Array Bool} {a : Act} {w : World} (hA : Amid ops W R a0 listed a w)
    (hr : ∀ e ∈ oL.after.toList, Region.binds .any e = true → listed[e.on]? = some true) : ∀ d i, L - i ≤ d → i < L → listed[i]? = some true := by
  intro d
  induction d with
  | zero => intro i h1 h2; omega
  | succ d ih =>
    intro i h1 h2
    have := List.all_eq_true.1 hh i (List.mem_range.2 (by omega))
    obtain ⟨k, hk, hd⟩ := List.any_eq_true.1 this
    have hk := List.mem_range.1 hk
    have ho : ops[k]? = some ops[k] := Array.getElem?_eq_getElem hk
    rw [ho] at hd
    obtain ⟨e, he, hb, rfl⟩ := dep_out hd
    have hlt := (orderly_at h ho).2.1 e he hb
    by_cases hkL : k = L
    · subst hkL
      rw [ho] at hoL
      obtain rfl := Option.some.inj hoL
      exact hr e he hb
    · exact hA.closed k _ ho (ih k (by omega) (by omega)) e he hb

theorem last_end (h : orderly ops a0.tmps.size = true) {L : Nat} (hsz : ops.size = L + 1) {listed : Array Bool} {a : Act} {w : World} (hA : Amid ops W R a0 listed a w) (hnL : listed[L]? = some false) (hall : ∀ i, i < L → listed[i]? = some true) :
    ∃ vs : Nat → Value, (∀ i, i < L → R i (vs i) w) ∧ a = { a0 with tmps := putAll ops vs (List.range L) a0.tmps } := by
  have hex : ∀ i, ∃ v, i < L → R i v w ∧ ∀ d, dstAt ops i = some d → a.tmps[d]? = some v := fun i => by
    by_cases hi : i < L
    · obtain ⟨v, hv⟩ := hA.done i (hall i hi)
      exact ⟨v, fun _ => hv⟩
    · exact ⟨undef, fun h => absurd h hi⟩
  obtain ⟨vs, hvs⟩ := Classical.axiomOfChoice hex
  refine ⟨vs, fun i hi => (hvs i hi).1, ?_⟩
  obtain ⟨t, d⟩ := a
  have hd := hA.defers
  dsimp only at hd
  subst hd
  congr 1
  apply Array.ext_getElem?
  intro k
  by_cases hk : ∃ i, i < L ∧ dstAt ops i = some k
  · obtain ⟨i, hi, hd⟩ := hk
    have ho : ops[i]? = some ops[i] := Array.getElem?_eq_getElem (by omega)
    have hd' : ops[i].dst = some k := by
      unfold dstAt at hd
      rw [ho] at hd
      exact hd
    obtain ⟨hlt, hu⟩ := (orderly_at h ho).2.2 k hd'
    rw [putAll_own ops vs k i hd _ _ hlt (List.mem_range.2 hi) (fun j _ hj => hu j hj)]
    exact (hvs i hi).2 k hd
  · rw [putAll_other ops vs k _ _ (fun i hi hd => hk ⟨i, List.mem_range.1 hi, hd⟩)]
    refine hA.rest k fun i hi hd => hk ⟨i, ?_, hd⟩
    have h1 := (Array.getElem?_eq_some_iff.1 hi).1
    have h2 := hA.size
    have h3 : i ≠ L := fun e => by rw [e, hnL] at hi; cases hi
    omega

/-- What is asked of the operation that turns what is known. -/
def StepX (P : Program) (ops : Array Oper) (Q : Exit → Act → World → Prop) (V : Bool → World → Prop) (R : Nat → Value → World → Prop) (a0 : Act) (i : Nat) (o : Oper) : Prop :=
  ∀ (a : Act) (w : World) (vs : Nat → Value), V false w → (∀ t, free ops i t = true → a.eval (.tmp t) = a0.eval (.tmp t)) →
    (∀ j, dep o j = true → R j (vs j) w ∧ ∀ d, dstAt ops j = some d → a.eval (.tmp d) = vs j) →
    o.wp P a w (fun a' w' => ∃ v, a' = a.put o.dst v ∧ V true w' ∧ R i v w' ∧ ∀ j x, j ≠ i → R j x w → R j x w') Q

theorem wpAny_last (h : orderly ops a0.tmps.size = true) (hh : hung ops = true) {L : Nat} {oL : Oper} (hsz : ops.size = L + 1) (hoL : ops[L]? = some oL) (X : Nat) (hXL : X < L) (hstep : ∀ i o, i < L → i ≠ X → ops[i]? = some o → ∀ b, StepOk P ops Q (V b) R a0 i o) (hX : ∀ o, ops[X]? = some o → StepX P ops Q V R a0 X o)
    (hend : ∀ (vs : Nat → Value) (w : World), V true w → (∀ i, i < L → R i (vs i) w) → oL.wp P { a0 with tmps := putAll ops vs (List.range L) a0.tmps } w (fun a' w' => Q .normal a' w') Q) :
    ∀ (fuel : Nat) (listed : Array Bool) (a : Act) (w : World), listed.toList.count false ≤ fuel → Amid ops (fun _ => True) R a0 listed a w → listed[L]? = some false → (∃ b, listed[X]? = some b ∧ V b w) → wpAny P .any ops Q fuel listed a w := by
  intro fuel
  induction fuel with
  | zero =>
    intro listed a w hc hA hnL hV
    exfalso
    have hn : false ∉ listed.toList := List.count_eq_zero.1 (by omega)
    obtain ⟨hl, he⟩ := Array.getElem?_eq_some_iff.1 hnL
    exact hn (by rw [← he]; simp)
  | succ fuel ih =>
    intro listed a w hc hA hnL hV
    refine ⟨fun hr => (by have := amid_listed h hA.size hr L (by omega); rw [hnL] at this; cases this), fun i hi => ?_⟩
    unfold Region.ready at hi
    obtain ⟨hi1, hi2⟩ := List.mem_filter.1 hi
    have hio : i < ops.size := List.mem_range.1 hi1
    have hil : i < listed.size := by rw [hA.size]; exact hio
    have ho : ops[i]? = some ops[i] := Array.getElem?_eq_getElem hio
    obtain ⟨hg, hback, hdst⟩ := orderly_at h ho
    simp only [Array.getD_eq_getD_getElem?, Array.getElem?_eq_getElem hil, ho, Option.map_some, Option.getD_some, Bool.and_eq_true, Bool.not_eq_true'] at hi2
    obtain ⟨hf, hdeps⟩ := hi2
    have hw : Region.wanted ops[i] (yielded ops a.tmps) = true := by simp [Region.wanted, hg]
    unfold wpOp
    rw [ho]
    simp only [hw, if_true]
    refine Or.inl ?_
    by_cases hiL : i = L
    · have e1 : ops[i] = oL := by
        have h1 : ops[i]? = some oL := by rw [hiL]; exact hoL
        rw [ho] at h1
        exact Option.some.inj h1
      have hr : ∀ e ∈ oL.after.toList, Region.binds .any e = true → listed[e.on]? = some true := fun e he hb => by
        rw [← e1] at he
        have hlt := hback e he hb
        have hd := Array.all_eq_true_iff_forall_mem.1 hdeps e (by simpa using he)
        rw [hb] at hd
        have hee : e.on < listed.size := by omega
        rw [Array.getElem?_eq_getElem hee] at hd ⊢
        simpa using hd
      have hall : ∀ i, i < L → listed[i]? = some true := fun i hi => hung_all h hh hsz hoL hA hr L i (by omega) hi
      obtain ⟨vs, hv, rfl⟩ := last_end h hsz hA hnL hall
      rw [e1]
      refine Oper.wp_mono ?_ (hend vs w (by obtain ⟨b, hb, hV⟩ := hV; rw [hall X hXL] at hb; rw [Option.some.inj hb]; exact hV) hv)
      intro a' w' hq
      have hre : Region.ready .any ops (listed.setIfInBounds i true) = [] := by
        unfold Region.ready
        refine List.filter_eq_nil_iff.2 fun k hk => ?_
        have hk := List.mem_range.1 hk
        have : (listed.setIfInBounds i true)[k]? = some true := by
          by_cases e : k = i
          · rw [e, Array.getElem?_setIfInBounds, if_pos rfl, if_pos hil]
          · rw [Array.getElem?_setIfInBounds, if_neg (fun e' => e e'.symm)]
            exact hall k (by omega)
        simp [Array.getD_eq_getD_getElem?, this]
      cases fuel with
      | zero => exact ⟨hre, hq⟩
      | succ fuel => exact ⟨fun _ => hq, fun k hk => by rw [hre] at hk; cases hk⟩
    have hex : ∀ j, ∃ v, listed[j]? = some true → R j v w ∧ ∀ d, dstAt ops j = some d → a.tmps[d]? = some v := fun j => by
      by_cases hj : listed[j]? = some true
      · obtain ⟨v, hv⟩ := hA.done j hj
        exact ⟨v, fun _ => hv⟩
      · exact ⟨undef, fun h => absurd h hj⟩
    obtain ⟨vs, hvs⟩ := Classical.axiomOfChoice hex
    have hmineX : (listed.setIfInBounds i true)[i]? = some true := by rw [Array.getElem?_setIfInBounds, if_pos rfl, if_pos hil]
    have hgo : (∀ t, free ops i t = true → a.eval (.tmp t) = a0.eval (.tmp t)) → (∀ j, dep ops[i] j = true → R j (vs j) w ∧ ∀ d, dstAt ops j = some d → a.eval (.tmp d) = vs j) →
        ops[i].wp P a w (fun a' w' => ∃ v, a' = a.put ops[i].dst v ∧ (∃ b, (listed.setIfInBounds i true)[X]? = some b ∧ V b w') ∧ R i v w' ∧ ∀ j x, j ≠ i → R j x w → R j x w') Q := by
      obtain ⟨b, hb, hVb⟩ := hV
      intro k1 k2
      by_cases hiX : i = X
      · have : b = false := by
          rw [← hiX, Array.getElem?_eq_getElem hil, hf] at hb
          exact (Option.some.inj hb).symm
        rw [this] at hVb
        refine Oper.wp_mono ?_ (hX ops[i] (by rw [← hiX]; exact ho) a w vs hVb (by rw [← hiX]; exact k1) k2)
        rintro a' w' ⟨v, h1, h2, h3, h4⟩
        exact ⟨v, h1, ⟨true, by rw [← hiX]; exact hmineX, h2⟩, by rw [hiX]; exact h3, by rw [hiX]; exact h4⟩
      · refine Oper.wp_mono ?_ (hstep i _ (by omega) hiX ho b a w vs hVb k1 k2)
        rintro a' w' ⟨v, h1, h2, h3, h4⟩
        exact ⟨v, h1, ⟨b, by rw [Array.getElem?_setIfInBounds, if_neg hiX]; exact hb, h2⟩, h3, fun j x _ h => h4 j x h⟩
    refine Oper.wp_mono ?_ (hgo ?_ ?_)
    · rintro a' w' ⟨v, rfl, hW', hR', hst⟩
      refine ih _ _ _ ?_ ?_ (by rw [Array.getElem?_setIfInBounds, if_neg hiL]; exact hnL) hW'
      · rw [Array.toList_setIfInBounds]
        have := List.count_set (a := true) (b := false) (l := listed.toList) (i := i) (by simpa using hil)
        rw [this]
        have e : (listed.toList[i]'(by simpa using hil)) = false := by simpa using hf
        rw [e]
        have hp : 0 < listed.toList.count false := List.count_pos_iff.2 (by rw [← e]; simp)
        rw [if_pos (by rfl), if_neg (by decide)]
        omega
      · have hin : ∀ j, (listed.setIfInBounds i true)[j]? = some true → j = i ∨ (j ≠ i ∧ listed[j]? = some true) := fun j hj => by
          by_cases e : j = i
          · exact Or.inl e
          · rw [Array.getElem?_setIfInBounds, if_neg (fun e' => e e'.symm)] at hj
            exact Or.inr ⟨e, hj⟩
        have hmine : (listed.setIfInBounds i true)[i]? = some true := by rw [Array.getElem?_setIfInBounds, if_pos rfl, if_pos hil]
        have hdi : dstAt ops i = ops[i].dst := by unfold dstAt; rw [ho]; rfl
        refine ⟨by simpa using hA.size, ?_, ?_, trivial, fun t ht => ?_, fun j hj => ?_, fun j oj hoj hj e he hbe => ?_⟩
        · cases hd : ops[i].dst <;> simp [Act.put, hA.tsize]
        · cases hd : ops[i].dst <;> simp [Act.put, hA.defers]
        · have h1 := ht i hmine
          have h2 := hA.rest t fun j hj => ht j (by
            by_cases e : j = i
            · rw [e]; exact hmine
            · rw [Array.getElem?_setIfInBounds, if_neg (fun e' => e e'.symm)]; exact hj)
          cases hd : ops[i].dst with
          | none => exact h2
          | some d =>
            have hne : d ≠ t := fun e => h1 (by rw [hdi, hd, e])
            simp only [Act.put]
            rw [Array.getElem?_setIfInBounds, if_neg hne]
            exact h2
        · rcases hin j hj with rfl | ⟨hne, hj'⟩
          · refine ⟨v, hR', fun d hd => ?_⟩
            rw [hdi] at hd
            have := (hdst d hd).1
            simp only [Act.put, hd]
            rw [Array.getElem?_setIfInBounds, if_pos rfl, if_pos (by rw [hA.tsize]; exact this)]
          · obtain ⟨u, hu1, hu2⟩ := hA.done j hj'
            refine ⟨u, hst j u hne hu1, fun d hd => ?_⟩
            cases hdd : ops[i].dst with
            | none => exact hu2 d hd
            | some d' =>
              have hne' : d' ≠ d := fun e => hne ((hdst d' hdd).2 j (by rw [e]; exact hd))
              simp only [Act.put]
              rw [Array.getElem?_setIfInBounds, if_neg hne']
              exact hu2 d hd
        · have hel : listed[e.on]? = some true := by
            rcases hin j hj with rfl | ⟨hne, hj'⟩
            · rw [ho] at hoj
              injection hoj with hoj
              subst hoj
              have hlt := hback e he hbe
              have hd := Array.all_eq_true_iff_forall_mem.1 hdeps e (by simpa using he)
              rw [hbe] at hd
              have hee : e.on < listed.size := by omega
              rw [Array.getElem?_eq_getElem hee] at hd ⊢
              simpa using hd
            · exact hA.closed j oj hoj hj' e he hbe
          by_cases hei : e.on = i
          · rw [hei]; exact hmine
          · rw [Array.getElem?_setIfInBounds, if_neg (fun e' => hei e'.symm)]; exact hel
    · intro t ht
      have := hA.rest t fun j hj hdj => by
        unfold dstAt at hdj
        cases hoj : ops[j]? with
        | none => rw [hoj] at hdj; cases hdj
        | some oj =>
          rw [hoj] at hdj
          obtain ⟨e, he, hbe⟩ := List.any_eq_true.1 (free_out ht hoj hdj)
          rw [Bool.and_eq_true] at hbe
          have hli := hA.closed j oj hoj hj e he hbe.1
          rw [show e.on = i by simpa using hbe.2, Array.getElem?_eq_getElem hil, hf] at hli
          cases hli
      simp only [Act.eval, Array.getD_eq_getD_getElem?, this]
    · intro j hj
      obtain ⟨e, he, hbe⟩ := List.any_eq_true.1 hj
      rw [Bool.and_eq_true] at hbe
      obtain ⟨hb, hej⟩ := hbe
      obtain rfl : e.on = j := by simpa using hej
      have hlt := hback e he hb
      have hd := Array.all_eq_true_iff_forall_mem.1 hdeps e (by simpa using he)
      rw [hb] at hd
      have hel : listed[e.on]? = some true := by
        have hee : e.on < listed.size := by omega
        rw [Array.getElem?_eq_getElem hee] at hd ⊢
        simpa using hd
      obtain ⟨h1, h2⟩ := hvs e.on hel
      refine ⟨h1, fun d hd => ?_⟩
      simp only [Act.eval, Array.getD_eq_getD_getElem?, h2 d hd, Option.getD_some]

/-- The temporaries that are written told ahead. -/
theorem wp_region_last {id : Nat} {a0 : Act} {w : World} (L X : Nat) (oL : Oper) (ds : List (Nat × Tmp)) (V : Bool → World → Prop) (R : Nat → Value → World → Prop) (hds : dstList ops (List.range L) = ds) (hm : P.follows .mixedOrders = true) (h : orderly ops a0.tmps.size = true) (hh : hung ops = true) (hsz : ops.size = L + 1) (hoL : ops[L]? = some oL) (hXL : X < L)
    (h0 : V false { w with drawn := w.drawn + 1 }) (hstep : ∀ i o, i < L → i ≠ X → ops[i]? = some o → ∀ b, StepOk P ops Q (V b) R a0 i o) (hX : ∀ o, ops[X]? = some o → StepX P ops Q V R a0 X o)
    (hend : ∀ (vs : Nat → Value) (w : World), V true w → (∀ i, i < L → R i (vs i) w) → oL.wp P { a0 with tmps := putPairs vs ds a0.tmps } w (fun a' w' => Q .normal a' w') Q) : (Code.region id ops true).wp P Q a0 w := by
  refine wp_region_any hm (wpAny_last h hh hsz hoL X hXL hstep hX (fun vs w hW hR => by rw [putAll_pairs, hds]; exact hend vs w hW hR) _ _ _ _ ?_ ⟨by simp, rfl, rfl, trivial, fun _ _ => rfl, fun i hi => ?_, fun i o _ hi => ?_⟩ ?_ ?_)
  · exact Nat.le_trans (List.count_le_length) (by simp)
  · simp [Array.getElem?_replicate] at hi
  · simp [Array.getElem?_replicate] at hi
  · simp [hsz]
  · refine ⟨false, ?_, h0⟩
    rw [Array.getElem?_replicate, if_pos (by omega)]
end
end Go.Proofs.YtpiacnnifdjlkaaGreatDoor

/-
  SameAuto of the reference, at two automata that read alike: true.
-/
namespace Go.Proofs.YtpiacnnifdjlkaaGreatDoor
open Go.RowKit Go.Sort

end Go.Proofs.YtpiacnnifdjlkaaGreatDoor

/-
  autoIs of the statements, where it is so: true.
-/
namespace Go.Proofs.YtpiacnnifdjlkaaGreatDoor
open Go.RowKit Go.Sort

def zeroA : Aut := ⟨0, 0, [], [], []⟩

theorem boolSl_nil (w : World) : BoolSl w (.slice none 0 0) [] := ⟨none, 0, rfl, by simp [maxLen], Or.inl rfl, fun _ => rfl, by simp⟩
theorem stepSl_nil (w : World) : StepSl w (.slice none 0 0) [] := ⟨none, 0, rfl, by simp [maxLen], Or.inl rfl, fun _ => rfl, by simp⟩

theorem autV_zero (w : World) : AutV w (.agg #[.int .i64 0, .int .i64 0, .slice none 0 0, .slice none 0 0, .slice none 0 0]) zeroA := ⟨_, _, _, rfl, intSl_nil w, boolSl_nil w, stepSl_nil w⟩

end Go.Proofs.YtpiacnnifdjlkaaGreatDoor

/-
  append of one element, of whatever type, to a slice of the call's own: in a plain region, and in one that draws its order.
-/
namespace Go.Proofs.YtpiacnnifdjlkaaGreatDoor
open Go.RowKit Go.Sort

/-- What is known of an element's type. -/
structure ElT (t e : TypeId) (sz by_ : Nat) : Prop where
  under : Tryz.prog.underlying t = some (.slice e)
  info : ∃ i z, Tryz.prog.info? e = some i ∧ i.zero = some z ∧ z.cells.size = sz ∧ i.size = sz ∧ i.bytes = by_
  pos : 0 < sz
  few : sz ≤ by_ ∧ by_ ≤ 64

theorem run_append_one (w : World) (ty t e base n sz by_ : Nat) (hT : ElT t e sz by_) (v : Value) (xs : List Value) (hown : w.ownsRow base e sz v n xs) (B c : Nat) (news : List Value) (hnl : news.length = sz) (hc : ∀ j u, news[j]? = some u → w.cell? ⟨B, j, none⟩ = some u) (h1 : ∀ u ∈ news, u.oneCell' = true) (hn : n ≤ 900000) (hbase : base ≤ w.heap.size) :
    ∃ g' cap' w', (Builtin.append_ #[t, t] ty #[v, .slice (some ⟨B, 0, none⟩) 1 c]).run Tryz.prog w = .ok (.slice (some ⟨g', 0, none⟩) (n + 1) cap') w' ∧ w'.ownsRow base e sz (.slice (some ⟨g', 0, none⟩) (n + 1) cap') (n + 1) (xs ++ news) ∧ w.grownBy w' v.ownBlock ∧ (v.ownBlock = some g' ∨ g' = w.heap.size) ∧ base ≤ g' := by
  obtain ⟨i, z, hi, hz, hzs, his, hib⟩ := hT.info
  have hp := hT.pos
  have hf := hT.few
  obtain ⟨v', w', hr, h2, h3, _, h5⟩ := run_append_own_at (P := Tryz.prog) w base t ty e i z sz by_ hT.under hi hz his hib hzs hp v n xs hown ⟨B, 0, none⟩ 1 c news (by omega) (fun j u hu => by rw [add_none, Nat.zero_add]; exact hc j u hu) h1 (by unfold maxLen; omega) (by have : (n + 1) * by_ ≤ 900001 * 64 := Nat.mul_le_mul (by omega) hf.2; omega) hbase
  obtain ⟨g', cap', rfl, hb⟩ := owns_slice h2
  refine ⟨g', cap', w', hr, h2, h3, ?_, hb⟩
  rcases h5 with h5 | h5
  · left; rw [← h5]; rfl
  · right; simpa [Value.ownBlock] using h5

theorem step_append_one {ops : Array Oper} {o : Oper} {a : Act} {K : Act → World → Prop} {Q : Exit → Act → World → Prop} {E : Prop} {w : World} (hgd : o.guard = none) (s x : Operand) (t e sz by_ : Nat)
    (ho : o.op = .call { callee := .builtin .append, args := #[s, x], argTypes := #[t, t] }) (hT : ElT t e sz by_) (base n : Nat) (v : Value) (xs : List Value) (hs : a.eval s = v)
    (hown : w.ownsRow base e sz v n xs) (B c : Nat) (news : List Value) (hx : a.eval x = .slice (some ⟨B, 0, none⟩) 1 c) (hnl : news.length = sz) (hc : ∀ j u, news[j]? = some u → w.cell? ⟨B, j, none⟩ = some u) (h1 : ∀ u ∈ news, u.oneCell' = true) (hn : n ≤ 900000) (hbase : base ≤ w.heap.size)
    (h : ∀ g' cap' w', w'.ownsRow base e sz (.slice (some ⟨g', 0, none⟩) (n + 1) cap') (n + 1) (xs ++ news) → w.grownBy w' v.ownBlock → (v.ownBlock = some g' ∨ g' = w.heap.size) → base ≤ g' → K (a.put o.dst (.slice (some ⟨g', 0, none⟩) (n + 1) cap')) w') :
    if Region.wanted o (yielded ops a.tmps) = true then Oper.wp Tryz.prog o a w K Q else E := by
  have hw : Region.wanted o (yielded ops a.tmps) = true := by simp [Region.wanted, hgd]
  rw [if_pos hw]
  obtain ⟨g', cap', w', hr, h2, h3, h4, h5⟩ := run_append_one w o.type t e base n sz by_ hT v xs hown B c news hnl hc h1 hn hbase
  unfold Oper.wp execOp
  simp only [ho, resolve, invoke, builtin, Sem.run_bind, Sem.run_pure, Result.andThen_ok, List.map_toArray, List.map_cons, List.map_nil, hs, hx, hr]
  exact h g' cap' w' h2 h3 h4 h5

theorem elInt : ElT 24 3 1 8 := ⟨Tryz.underlying24, ⟨_, .int .i64 0, intInfo, by kernel_rfl, rfl, by kernel_rfl, by kernel_rfl⟩, by decide, by decide⟩
theorem elBool : ElT 27 4 1 1 := ⟨Tryz.underlying27, ⟨_, .bool false, boolInfo, by kernel_rfl, rfl, by kernel_rfl, by kernel_rfl⟩, by decide, by decide⟩
theorem stepInfo : Tryz.prog.info? 62 = some Tryz.t62 := by kernel_rfl
theorem elStep : ElT 28 62 3 24 := ⟨Tryz.underlying28, ⟨_, .agg #[.int .i64 0, .int .i64 0, .int .i64 0], stepInfo, by kernel_rfl, rfl, by kernel_rfl, by kernel_rfl⟩, by decide, by decide⟩

/-- Rows of unlike elements lie in unlike blocks. -/
theorem rows_apart {w : World} {base base' e e' sz sz' n n' : Nat} {v v' : Value} {xs xs' : List Value} (h : w.ownsRow base e sz v n xs) (h' : w.ownsRow base' e' sz' v' n' xs') (hne : e ≠ e') {r : Nat} (hr : v.ownBlock = some r) (hr' : v'.ownBlock = some r) : False := by
  rcases h.2 with ⟨rfl, _⟩ | ⟨g, cap, cur, rfl, _, hg, _⟩
  · cases hr
  · rcases h'.2 with ⟨rfl, _⟩ | ⟨g', cap', cur', rfl, _, hg', _⟩
    · cases hr'
    · have e1 : g = r := by simpa [Value.ownBlock] using hr
      have e2 : g' = r := by simpa [Value.ownBlock] using hr'
      subst e1
      subst e2
      rw [hg] at hg'
      cases hg'
      exact hne rfl

/-- The row that the call owns is a row of its elements. -/
theorem owns_cells {w : World} {base : Nat} {e : TypeId} {size : Nat} {v : Value} {n : Nat} {xs : List Value} (h : w.ownsRow base e size v n xs) : ∀ g, v.ownBlock = some g → ∃ c fz, w.heap[g]? = some (.cells c e fz) := by
  intro g hg
  rcases h.2 with ⟨rfl, _⟩ | ⟨g', cap, cur, rfl, _, hc, _⟩
  · cases hg
  · have : g' = g := by simpa [Value.ownBlock] using hg
    subst this
    exact ⟨_, _, hc⟩

theorem wpList_append_one (w : World) {ops : Array Oper} {rest : List Oper} {o : Oper} {a : Act} {Q : Exit → Act → World → Prop} (hgd : o.guard = none) (s x : Operand) (t e sz by_ : Nat)
    (ho : o.op = .call { callee := .builtin .append, args := #[s, x], argTypes := #[t, t] }) (hT : ElT t e sz by_) (base n : Nat) (v : Value) (xs : List Value) (hs : a.eval s = v)
    (hown : w.ownsRow base e sz v n xs) (B c : Nat) (news : List Value) (hx : a.eval x = .slice (some ⟨B, 0, none⟩) 1 c) (hnl : news.length = sz) (hc : ∀ j u, news[j]? = some u → w.cell? ⟨B, j, none⟩ = some u) (h1 : ∀ u ∈ news, u.oneCell' = true) (hn : n ≤ 900000) (hbase : base ≤ w.heap.size)
    (h : ∀ g' cap' w', w'.ownsRow base e sz (.slice (some ⟨g', 0, none⟩) (n + 1) cap') (n + 1) (xs ++ news) → w.grownBy w' v.ownBlock → (v.ownBlock = some g' ∨ g' = w.heap.size) → base ≤ g' → wpList Tryz.prog ops Q rest (a.put o.dst (.slice (some ⟨g', 0, none⟩) (n + 1) cap')) w') : wpList Tryz.prog ops Q (o :: rest) a w := by
  obtain ⟨g', cap', w', hr, h2, h3, h4, h5⟩ := run_append_one w o.type t e base n sz by_ hT v xs hown B c news hnl hc h1 hn hbase
  refine wpList_plain hgd fun K hK => ?_
  unfold Oper.wp execOp
  simp only [ho, resolve, invoke, builtin, Sem.run_bind, Sem.run_pure, Result.andThen_ok, List.map_toArray, List.map_cons, List.map_nil, hs, hx, hr]
  exact hK _ _ (h g' cap' w' h2 h3 h4 h5)
end Go.Proofs.YtpiacnnifdjlkaaGreatDoor

namespace Go.Proofs.YtpiacnnifdjlkaaGreatDoor
open Go.RowKit Go.Sort

/-- All old blocks are as they were, but for one row of the call's own. -/
structure KR (base : Nat) (r : Option Nat) (w0 w : World) : Prop where
  below : Below base w0 w
  size : w0.heap.size ≤ w.heap.size
  keep : ∀ b, b < w0.heap.size → some b ≠ r → w.heap[b]? = w0.heap[b]?

theorem KR.refl (base : Nat) (r : Option Nat) (w : World) : KR base r w w := ⟨Below.refl _ _, Nat.le_refl _, fun _ _ _ => rfl⟩

theorem KR.drew {base : Nat} {r : Option Nat} {w0 w : World} (h : KR base r w0 w) : KR base r w0 { w with drawn := w.drawn + 1 } := ⟨h.below.drew, h.size, h.keep⟩

theorem KR.alloc {base : Nat} {r : Option Nat} {w0 w : World} (h : KR base r w0 w) (hb : base ≤ w0.heap.size) (o : Obj) : KR base r w0 (w.alloc o) :=
  ⟨h.below.alloc (Nat.le_trans hb h.size) o, by rw [World.size_alloc]; exact Nat.le_succ_of_le h.size, fun b h1 h2 => (heap_alloc_old w o (Nat.lt_of_lt_of_le h1 h.size)).trans (h.keep b h1 h2)⟩

theorem KR.grown {base : Nat} {r : Option Nat} {w0 w w' : World} (h : KR base r w0 w) (hg : w.grownBy w' r) (hb : base ≤ w0.heap.size) (hr : ∀ k, r = some k → base ≤ k) : KR base r w0 w' :=
  ⟨h.below.grown hg (Nat.le_trans hb h.size) hr, Nat.le_trans h.size hg.size, fun b h1 h2 => (hg.block b (Nat.lt_of_lt_of_le h1 h.size) h2).trans (h.keep b h1 h2)⟩

theorem KR.cell {base : Nat} {r : Option Nat} {w0 w : World} (h : KR base r w0 w) {b o : Nat} {v : Value} (hc : w0.cell? ⟨b, o, none⟩ = some v) (hne : some b ≠ r) : w.cell? ⟨b, o, none⟩ = some v :=
  (World.cell?_of_block (a := ⟨b, o, none⟩) (h.keep b (World.block_lt_of_cell? w0 _ hc) hne)).trans hc

theorem KR.block {base : Nat} {r : Option Nat} {w0 w : World} (h : KR base r w0 w) {b : Nat} {o : Obj} (hc : w0.heap[b]? = some o) (hne : some b ≠ r) : w.heap[b]? = some o :=
  (h.keep b (Array.getElem?_eq_some_iff.1 hc).1 hne).trans hc

/-- What is known in such a region: ahead of the append the row is owned as it was. -/
def VA (base e sz : Nat) (sv : Value) (n : Nat) (xs : List Value) (w0 : World) (b : Bool) (w : World) : Prop := KR base sv.ownBlock w0 w ∧ (b = false → w.ownsRow base e sz sv n xs)

/-- The new element, laid in a block of its own. -/
def NewEl (w0 : World) (news : List Value) (v : Value) (w : World) : Prop := ∃ B c, v = .slice (some ⟨B, 0, none⟩) 1 c ∧ w0.heap.size ≤ B ∧ ∀ j u, news[j]? = some u → w.cell? ⟨B, j, none⟩ = some u

/-- The row, one element longer. -/
def NewRow (base e sz n : Nat) (ys : List Value) (r0 : Option Nat) (s0 : Nat) (v : Value) (w : World) : Prop := ∃ g cap, v = .slice (some ⟨g, 0, none⟩) (n + 1) cap ∧ w.ownsRow base e sz v (n + 1) ys ∧ (r0 = some g ∨ s0 ≤ g)

theorem NewEl.alloc {w0 w : World} {news : List Value} {v : Value} (h : NewEl w0 news v w) (o : Obj) : NewEl w0 news v (w.alloc o) := by
  obtain ⟨B, c, rfl, hB, hc⟩ := h
  exact ⟨B, c, rfl, hB, fun j u hu => (World.cell?_alloc_past _ _ _ (World.block_lt_of_cell? w _ (hc j u hu))).trans (hc j u hu)⟩

theorem NewEl.grown {w0 w w' : World} {news : List Value} {v : Value} {r : Option Nat} (h : NewEl w0 news v w) (hg : w.grownBy w' r) (hr : ∀ k, r = some k → k < w0.heap.size) : NewEl w0 news v w' := by
  obtain ⟨B, c, rfl, hB, hc⟩ := h
  exact ⟨B, c, rfl, hB, fun j u hu => hg.cell (hc j u hu) (fun e => by have := hr B e.symm; omega)⟩

theorem NewRow.alloc {w : World} {base e sz n : Nat} {ys : List Value} {r0 : Option Nat} {s0 : Nat} {v : Value} (h : NewRow base e sz n ys r0 s0 v w) (o : Obj) : NewRow base e sz n ys r0 s0 v (w.alloc o) := by
  obtain ⟨g, cap, rfl, h, h'⟩ := h
  exact ⟨g, cap, rfl, h.alloc o, h'⟩

theorem el_new (cs : Array Value) (t : TypeId) : ∀ (w : World) j u, cs.toList[j]? = some u → (w.alloc (.cells cs t)).cell? ⟨w.heap.size, j, none⟩ = some u := fun w j u hu => by
  rw [cell_of_row _ _ j _ _ _ (one_new w (.cells cs t))]
  simpa using hu

section
variable {ops : Array Oper} {Q : Exit → Act → World → Prop} {R : Nat → Value → World → Prop} {a0 : Act} {i : Nat} {o : Oper}

/-- The element is laid. -/
theorem stepOk_el {base e sz : Nat} {sv : Value} {n : Nat} {xs : List Value} {w0 : World} {b : Bool} (hb : base ≤ w0.heap.size) (obj : Obj) (news : List Value) (c : Nat) (hnews : ∀ (w : World) j u, news[j]? = some u → (w.alloc obj).cell? ⟨w.heap.size, j, none⟩ = some u)
    (hrun : ∀ (a : Act) (w : World) (vs : Nat → Value), (∀ t, free ops i t = true → a.eval (.tmp t) = a0.eval (.tmp t)) → (∀ j, dep o j = true → R j (vs j) w ∧ ∀ d, dstAt ops j = some d → a.eval (.tmp d) = vs j) → (execOp a.eval o).run Tryz.prog w = .ok (.value (.slice (some ⟨w.heap.size, 0, none⟩) 1 c)) (w.alloc obj))
    (hR : ∀ v w, NewEl w0 news v w → R i v w) (hst : ∀ (w : World) j x, R j x w → R j x (w.alloc obj)) : StepOk Tryz.prog ops Q (VA base e sz sv n xs w0 b) R a0 i o := by
  refine stepOk_new fun a w vs hV he hd => ?_
  refine ⟨_, _, hrun a w vs he hd, ⟨hV.1.alloc hb obj, fun hb' => (hV.2 hb').alloc obj⟩, hR _ _ ⟨w.heap.size, c, rfl, hV.1.size, hnews w⟩, hst w⟩

/-- The row grows. -/
theorem stepX_app {base t e sz by_ : Nat} {sv : Value} {n : Nat} {xs news : List Value} {w0 : World} (hT : ElT t e sz by_) (hb : base ≤ w0.heap.size) (hown0 : w0.ownsRow base e sz sv n xs) (s x : Operand)
    (ho : o.op = .call { callee := .builtin .append, args := #[s, x], argTypes := #[t, t] }) (hnl : news.length = sz) (h1 : ∀ u ∈ news, u.oneCell' = true) (hn : n ≤ 900000)
    (hs : ∀ (a : Act) (w : World) (vs : Nat → Value), (∀ j, dep o j = true → R j (vs j) w ∧ ∀ d, dstAt ops j = some d → a.eval (.tmp d) = vs j) → a.eval s = sv ∧ NewEl w0 news (a.eval x) w)
    (hR : ∀ v w, NewRow base e sz n (xs ++ news) sv.ownBlock w0.heap.size v w → R i v w) (hst : ∀ (w w' : World), w.grownBy w' sv.ownBlock → ∀ j x, j ≠ i → R j x w → R j x w') : StepX Tryz.prog ops Q (VA base e sz sv n xs w0) R a0 i o := by
  intro a w vs hV he hd
  obtain ⟨e1, B, c, e2, hB, hc⟩ := hs a w vs hd
  obtain ⟨g', cap', w', hr, h2, h3, h4, h5⟩ := run_append_one w o.type t e base n sz by_ hT sv xs (hV.2 rfl) B c news hnl hc h1 hn (Nat.le_trans hb hV.1.size)
  have hr0 : ∀ k, sv.ownBlock = some k → base ≤ k := fun k hk => (hown0.lt k hk).1
  unfold Oper.wp execOp
  simp only [ho, resolve, invoke, builtin, Sem.run_bind, Sem.run_pure, Result.andThen_ok, List.map_toArray, List.map_cons, List.map_nil, e1, e2, hr]
  exact ⟨_, rfl, ⟨hV.1.grown h3 hb hr0, fun h => by cases h⟩, hR _ _ ⟨g', cap', rfl, h2, h4.imp id fun e => by rw [e]; exact hV.1.size⟩, hst w w' h3⟩
end

/-- What operation j has left: a value, told ahead; the element's block; the longer row. -/
def RR (Rp : Nat → Value → Prop) (jB jX base e sz n : Nat) (w0 : World) (news ys : List Value) (r0 : Option Nat) (j : Nat) (v : Value) (w : World) : Prop := Rp j v ∧ (j = jB → NewEl w0 news v w) ∧ (j = jX → NewRow base e sz n ys r0 w0.heap.size v w)

theorem RR.alloc {Rp : Nat → Value → Prop} {jB jX base e sz n : Nat} {w0 : World} {news ys : List Value} {r0 : Option Nat} {j : Nat} {v : Value} {w : World} (h : RR Rp jB jX base e sz n w0 news ys r0 j v w) (o : Obj) : RR Rp jB jX base e sz n w0 news ys r0 j v (w.alloc o) :=
  ⟨h.1, fun e => (h.2.1 e).alloc o, fun e => (h.2.2 e).alloc o⟩

section
variable {ops : Array Oper} {Q : Exit → Act → World → Prop} {a0 : Act}

/-- A REGION THAT APPENDS ONE ELEMENT TO THE ROW OF A BOX'S FIELD: its operations jB (the element's block) and jX (the append), the others but the last plain, the last one the field's store. -/
theorem wp_region_app {id : Nat} {w0 : World} (L jB jX : Nat) (oL : Oper) (ds : List (Nat × Tmp)) (Rp : Nat → Value → Prop) {base t e sz by_ n : Nat} {sv : Value} {xs : List Value} (news : List Value) (hT : ElT t e sz by_) (hb : base ≤ w0.heap.size) (hown0 : w0.ownsRow base e sz sv n xs) (hn : n ≤ 900000) (hnl : news.length = sz) (h1 : ∀ u ∈ news, u.oneCell' = true)
    (hds : dstList ops (List.range L) = ds) (hm : Tryz.prog.follows .mixedOrders = true) (h : orderly ops a0.tmps.size = true) (hh : hung ops = true) (hsz : ops.size = L + 1) (hoL : ops[L]? = some oL) (hXL : jX < L) (hBX : jB ≠ jX)
    (obj : Obj) (c : Nat) (hnews : ∀ (w : World) j u, news[j]? = some u → (w.alloc obj).cell? ⟨w.heap.size, j, none⟩ = some u) (tB : Rp jB = fun _ => True) (tX : Rp jX = fun _ => True)
    (hel : ∀ o, ops[jB]? = some o → ∀ (a : Act) (w : World) (vs : Nat → Value), (∀ t, free ops jB t = true → a.eval (.tmp t) = a0.eval (.tmp t)) → (∀ j, dep o j = true → RR Rp jB jX base e sz n w0 news (xs ++ news) sv.ownBlock j (vs j) w ∧ ∀ d, dstAt ops j = some d → a.eval (.tmp d) = vs j) → (execOp a.eval o).run Tryz.prog w = .ok (.value (.slice (some ⟨w.heap.size, 0, none⟩) 1 c)) (w.alloc obj))
    (oX : Oper) (hoX : ops[jX]? = some oX) (s x : Operand) (hopX : oX.op = .call { callee := .builtin .append, args := #[s, x], argTypes := #[t, t] })
    (hs : ∀ (a : Act) (w : World) (vs : Nat → Value), (∀ j, dep oX j = true → RR Rp jB jX base e sz n w0 news (xs ++ news) sv.ownBlock j (vs j) w ∧ ∀ d, dstAt ops j = some d → a.eval (.tmp d) = vs j) → a.eval s = sv ∧ NewEl w0 news (a.eval x) w)
    (hpure : ∀ i o, i < L → i ≠ jB → i ≠ jX → ops[i]? = some o → ∀ (a : Act) (w : World) (vs : Nat → Value), KR base sv.ownBlock w0 w → (∀ t, free ops i t = true → a.eval (.tmp t) = a0.eval (.tmp t)) → (∀ j, dep o j = true → RR Rp jB jX base e sz n w0 news (xs ++ news) sv.ownBlock j (vs j) w ∧ ∀ d, dstAt ops j = some d → a.eval (.tmp d) = vs j) → ∃ v, (execOp a.eval o).run Tryz.prog w = .ok (.value v) w ∧ Rp i v)
    (hend : ∀ (vs : Nat → Value) (w : World), KR base sv.ownBlock w0 w → (∀ i, i < L → Rp i (vs i)) → NewRow base e sz n (xs ++ news) sv.ownBlock w0.heap.size (vs jX) w → oL.wp Tryz.prog { a0 with tmps := putPairs vs ds a0.tmps } w (fun a' w' => Q .normal a' w') Q) : (Code.region id ops true).wp Tryz.prog Q a0 w0 := by
  refine wp_region_last L jX oL ds (VA base e sz sv n xs w0) (RR Rp jB jX base e sz n w0 news (xs ++ news) sv.ownBlock) hds hm h hh hsz hoL hXL ⟨(KR.refl _ _ _).drew, fun _ => owns_kept hown0 fun _ _ => rfl⟩ ?_ ?_ ?_
  · intro i o hi hiX ho b
    by_cases hiB : i = jB
    · subst hiB
      exact stepOk_el hb obj news c hnews (fun a w vs he hd => hel o ho a w vs he hd) (fun v w hv => ⟨by rw [tB]; trivial, fun _ => hv, fun e => absurd e hBX⟩) (fun w j x hj => hj.alloc obj)
    · refine stepOk_val fun a w vs hV he hd => ?_
      obtain ⟨v, hr, hv⟩ := hpure i o hi hiB hiX ho a w vs hV.1 he hd
      exact ⟨v, hr, hv, fun e => absurd e hiB, fun e => absurd e hiX⟩
  · intro o ho
    obtain rfl := Option.some.inj (ho.symm.trans hoX)
    exact stepX_app hT hb hown0 s x hopX hnl h1 hn hs (fun v w hv => ⟨by rw [tX]; trivial, fun e => absurd e.symm hBX, fun _ => hv⟩) (fun w w' hg j x hj hr => ⟨hr.1, fun e => (hr.2.1 e).grown hg (fun k hk => (hown0.lt k hk).2), fun e => absurd e hj⟩)
  · intro vs w hV hR
    exact hend vs w hV.1 (fun i hi => (hR i hi).1) ((hR jX hXL).2.2 rfl)

theorem wp_store_one {o : Oper} {t : TypeId} {ka kv : Nat} {a : Act} {w : World} {K : Act → World → Prop} {Q : Exit → Act → World → Prop} (ho : o.op = .store t (.tmp ka) (.tmp kv)) (hd : o.dst = none) (hsz : ∀ w, (sizeOf t).run Tryz.prog w = .ok 1 w) {p : Addr} {b : Option Addr} {n c : Nat} {v0 : Value} (ha : a.tmps[ka]?.getD undef = .pointer (some p)) (hv : a.tmps[kv]?.getD undef = .slice b n c) (hc : w.cell? p = some v0) (hz : w.frozen? p = false) (h : K a (w.setCell p (.slice b n c))) : o.wp Tryz.prog a w K Q := by
  unfold Oper.wp execOp
  simp [ho, go_sem, ha, hv, hsz, hc, hz]
  rw [hd]
  exact h

theorem sizeInts : ∀ w, (sizeOf 24).run Tryz.prog w = .ok 1 w := by intro w; simp [go_sem]
theorem sizeBools : ∀ w, (sizeOf 27).run Tryz.prog w = .ok 1 w := by intro w; simp [go_sem]
theorem sizeSteps : ∀ w, (sizeOf 28).run Tryz.prog w = .ok 1 w := by intro w; simp [go_sem]

/-- As wp_region_app, the field's store done. -/
theorem wp_region_put {id : Nat} {w0 : World} (L jB jX : Nat) (oL : Oper) (ds : List (Nat × Tmp)) (Rp : Nat → Value → Prop) {base t e sz by_ n : Nat} {sv : Value} {xs : List Value} (news : List Value) (hT : ElT t e sz by_) (hb : base ≤ w0.heap.size) (hown0 : w0.ownsRow base e sz sv n xs) (hn : n ≤ 900000) (hnl : news.length = sz) (h1 : ∀ u ∈ news, u.oneCell' = true)
    (hds : dstList ops (List.range L) = ds) (hm : Tryz.prog.follows .mixedOrders = true) (h : orderly ops a0.tmps.size = true) (hh : hung ops = true) (hsz : ops.size = L + 1) (hoL : ops[L]? = some oL) (hXL : jX < L) (hBX : jB ≠ jX)
    (obj : Obj) (c : Nat) (hnews : ∀ (w : World) j u, news[j]? = some u → (w.alloc obj).cell? ⟨w.heap.size, j, none⟩ = some u) (tB : Rp jB = fun _ => True) (tX : Rp jX = fun _ => True)
    (hel : ∀ o, ops[jB]? = some o → ∀ (a : Act) (w : World) (vs : Nat → Value), (∀ t, free ops jB t = true → a.eval (.tmp t) = a0.eval (.tmp t)) → (∀ j, dep o j = true → RR Rp jB jX base e sz n w0 news (xs ++ news) sv.ownBlock j (vs j) w ∧ ∀ d, dstAt ops j = some d → a.eval (.tmp d) = vs j) → (execOp a.eval o).run Tryz.prog w = .ok (.value (.slice (some ⟨w.heap.size, 0, none⟩) 1 c)) (w.alloc obj))
    (oX : Oper) (hoX : ops[jX]? = some oX) (s x : Operand) (hopX : oX.op = .call { callee := .builtin .append, args := #[s, x], argTypes := #[t, t] })
    (hs : ∀ (a : Act) (w : World) (vs : Nat → Value), (∀ j, dep oX j = true → RR Rp jB jX base e sz n w0 news (xs ++ news) sv.ownBlock j (vs j) w ∧ ∀ d, dstAt ops j = some d → a.eval (.tmp d) = vs j) → a.eval s = sv ∧ NewEl w0 news (a.eval x) w)
    (hpure : ∀ i o, i < L → i ≠ jB → i ≠ jX → ops[i]? = some o → ∀ (a : Act) (w : World) (vs : Nat → Value), KR base sv.ownBlock w0 w → (∀ t, free ops i t = true → a.eval (.tmp t) = a0.eval (.tmp t)) → (∀ j, dep o j = true → RR Rp jB jX base e sz n w0 news (xs ++ news) sv.ownBlock j (vs j) w ∧ ∀ d, dstAt ops j = some d → a.eval (.tmp d) = vs j) → ∃ v, (execOp a.eval o).run Tryz.prog w = .ok (.value v) w ∧ Rp i v)
    {tS : TypeId} {ka kv : Nat} (hopL : oL.op = .store tS (.tmp ka) (.tmp kv)) (hdL : oL.dst = none) (hszS : ∀ w, (sizeOf tS).run Tryz.prog w = .ok 1 w) {pb k : Nat} {cs : Array Value} {tb : TypeId} (hbox : w0.heap[pb]? = some (.cells cs tb)) (hne : some pb ≠ sv.ownBlock) (hk : k < cs.size)
    (hka : ∀ vs : Nat → Value, (∀ i, i < L → Rp i (vs i)) → (putPairs vs ds a0.tmps)[ka]?.getD undef = .pointer (some ⟨pb, k, none⟩)) (hkv : ∀ vs : Nat → Value, (putPairs vs ds a0.tmps)[kv]?.getD undef = vs jX)
    (hend : ∀ (vs : Nat → Value) (w : World) (g cap : Nat), KR base sv.ownBlock w0 w → (∀ i, i < L → Rp i (vs i)) → w.ownsRow base e sz (.slice (some ⟨g, 0, none⟩) (n + 1) cap) (n + 1) (xs ++ news) → (sv.ownBlock = some g ∨ w0.heap.size ≤ g) → Q .normal { a0 with tmps := putPairs vs ds a0.tmps } (w.setCell ⟨pb, k, none⟩ (.slice (some ⟨g, 0, none⟩) (n + 1) cap))) : (Code.region id ops true).wp Tryz.prog Q a0 w0 := by
  refine wp_region_app L jB jX oL ds Rp news hT hb hown0 hn hnl h1 hds hm h hh hsz hoL hXL hBX obj c hnews tB tX hel oX hoX s x hopX hs hpure ?_
  rintro vs w hV hRp ⟨g, cap, hvX, hrow, hwh⟩
  have hb1 := hV.block hbox hne
  rw [hvX] at hrow
  refine wp_store_one hopL hdL hszS (p := ⟨pb, k, none⟩) (hka vs hRp) ((hkv vs).trans hvX) (v0 := cs[k]) ?_ (frozen_of_row _ _ k _ _ hb1) (hend vs w g cap hV hRp hrow hwh)
  rw [cell_of_row _ _ k _ _ _ hb1]
  simp [hk]
end
end Go.Proofs.YtpiacnnifdjlkaaGreatDoor
