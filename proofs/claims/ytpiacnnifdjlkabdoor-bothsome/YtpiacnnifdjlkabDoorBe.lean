/-
  What period, piece and At of package word answer.
-/
import Derived.Test.YtpiacnnifdjlkabDoorBc
import Derived.Deep.RegionHeld3
import Derived.Deep.AppendLies
import Derived.Test.YtpiacnnifdjlkabDoorRb
/-
  append of a slice of ints onto a slice of the call's own; what CheckLasso tells.
-/
namespace Go.Proofs.YtpiacnnifdjlkabDoor
open Go.RowKit

theorem add_none (b off i : Nat) : (⟨b, off, none⟩ : Addr).add i = ⟨b, off + i, none⟩ := Go.WideShapes.add_plain b off i

theorem intInfo : Tryd.prog.info? 3 = some Tryd.t3 := by kernel_rfl

/-- append(v, s...), both of ints, v of the call's own. -/
theorem run_append_sl (w : World) (ty base : Nat) (v : Value) (n : Nat) (xs : List Value) (hown : w.ownsRow base 3 1 v n xs) (sv : Value) (zs : List Int) (hs : IntSl w sv zs)
    (h63 : n + zs.length ≤ 1000000) (hbase : base ≤ w.heap.size) :
    ∃ v' w', (Builtin.append_ #[22, 22] ty #[v, sv]).run Tryd.prog w = .ok v' w' ∧ w'.ownsRow base 3 1 v' (n + zs.length) (xs ++ zs.map (.int .i64)) ∧ w.grownBy w' v.ownBlock ∧ (v'.ownBlock = v.ownBlock ∨ v'.ownBlock = some w.heap.size) := by
  obtain ⟨a, cap, rfl, hm, hc, hn⟩ := hs
  cases a with
  | none =>
    have hz : zs = [] := by
      rcases hc with h | ⟨b, off, h, _⟩
      · exact h
      · cases h
    have hc0 := hn.1 rfl
    subst hz hc0
    refine ⟨v, w, run_append_owned_none w base 22 ty 3 Tryd.t3 1 Tryd.underlying22 intInfo v n xs hown, by simpa using hown, ⟨rfl, rfl, rfl, Nat.le_refl _, fun _ _ _ => rfl⟩, Or.inl rfl⟩
  | some a =>
    have hnews : ∀ j u, (zs.map (Value.int .i64))[j]? = some u → w.cell? (a.add j) = some u := by
      intro j u hu
      rcases hc with h | ⟨b, off, h, hcell⟩
      · subst h; simp at hu
      · cases h
        rw [add_none]
        rw [List.getElem?_map] at hu
        cases hj : zs[j]? with
        | none => rw [hj] at hu; simp at hu
        | some z =>
          rw [hj] at hu
          have hlt : j < zs.length := (List.getElem?_eq_some_iff.1 hj).1
          rw [hcell j hlt, List.getD, hj]
          simpa using hu
    obtain ⟨v', w', hr, h2, h3, _, h5⟩ := run_append_own_at (P := Tryd.prog) w base 22 ty 3 Tryd.t3 (.int .i64 0) 1 8 Tryd.underlying22 intInfo (by kernel_rfl) (by kernel_rfl) (by kernel_rfl) (by kernel_rfl) (by decide) v n xs hown a zs.length cap (zs.map (.int .i64)) (by simp) hnews (by intro u hu; obtain ⟨z, _, rfl⟩ := List.mem_map.1 hu; rfl) (by unfold maxLen; omega) (by omega) hbase
    exact ⟨v', w', hr, h2, h3, h5⟩

/-- A slice of the call's own, read. -/
theorem intSl_of_owns {w : World} {base : Nat} {v : Value} {zs : List Int} {n : Nat} (h : w.ownsRow base 3 1 v n (zs.map (.int .i64))) : IntSl w v zs := by
  have hl : zs.length = n := by simpa using h.1
  rcases h.2 with ⟨rfl, h0⟩ | ⟨g, cap, cur, rfl, hb, hg, hnc, hcm, hcs, htake⟩
  · have : zs = [] := List.eq_nil_of_length_eq_zero (by omega)
    subst this
    exact ⟨none, 0, rfl, by simp [maxLen], Or.inl rfl, fun _ => rfl, Nat.le_refl _⟩
  · subst hl
    refine ⟨some ⟨g, 0, none⟩, cap, rfl, by omega, Or.inr ⟨g, 0, rfl, fun i hi => ?_⟩, (fun h => by cases h), hnc⟩
    have := h.cells (g := g) rfl i (.int .i64 (zs.getD i 0)) (by simp [List.getD, hi])
    rwa [add_none] at this

theorem owns_empty {w : World} {base g : Nat} (h : w.heap[g]? = some (.cells #[] 3 (0, 0))) (hb : base ≤ g) : w.ownsRow base 3 1 (.slice (some ⟨g, 0, none⟩) 0 0) 0 [] :=
  ⟨rfl, .inr ⟨g, 0, #[], rfl, hb, h, Nat.le_refl _, by simp [maxLen], rfl, rfl⟩⟩

theorem heap_two (w : World) (o1 o2 : Obj) : ((w.alloc o1).alloc o2).drew.heap[w.heap.size + 1]? = some o2 := by
  have := heap_alloc_new (w.alloc o1) o2
  rw [World.size_alloc] at this
  exact this

/-- The same at a step of a region that draws its order. -/
theorem step_append_sl {ops : Array Oper} {o : Oper} {a : Act} {K : Act → World → Prop} {Q : Exit → Act → World → Prop} {E : Prop} {w : World} (hgd : o.guard = none) (s x : Operand)
    (ho : o.op = .call { callee := .builtin .append, args := #[s, x], argTypes := #[22, 22] })
    (base : Nat) (v : Value) (n : Nat) (xs : List Value) (hs : a.eval s = v) (hown : w.ownsRow base 3 1 v n xs) (sv : Value) (zs : List Int) (hx : a.eval x = sv) (hz : IntSl w sv zs)
    (h63 : n + zs.length ≤ 1000000) (hbase : base ≤ w.heap.size)
    (h : ∀ v' w', w'.ownsRow base 3 1 v' (n + zs.length) (xs ++ zs.map (.int .i64)) → Below base w w' → (∀ b o, b < base → w'.cell? ⟨b, o, none⟩ = w.cell? ⟨b, o, none⟩) → base ≤ w'.heap.size → K (a.put o.dst v') w') :
    if Region.wanted o (yielded ops a.tmps) = true then Oper.wp Tryd.prog o a w K Q else E := by
  have hw : Region.wanted o (yielded ops a.tmps) = true := by simp [Region.wanted, hgd]
  rw [if_pos hw]
  obtain ⟨v', w', hr, h2, h3, _⟩ := run_append_sl w o.type base v n xs hown sv zs hz h63 hbase
  have hb : Below base w w' := (Below.refl _ _).grown h3 hbase fun k hk => (hown.lt k hk).1
  unfold Oper.wp execOp
  simp only [ho, resolve, invoke, builtin, Sem.run_bind, Sem.run_pure, Result.andThen_ok, List.map_toArray, List.map_cons, List.map_nil, hs, hx, hr]
  exact h v' w' h2 hb (fun b o hlt => hb.cell (p := ⟨b, o, none⟩) hlt) (Nat.le_trans hbase hb.size)

set_option maxRecDepth 100000 in
set_option maxHeartbeats 400000 in
theorem checkLasso_many {w : World} (n : Int) (a0 a1 : Option Addr) (c0 c1 : Nat) (hs ls : List Int) (hh : IntSl w (.slice a0 hs.length c0) hs) (hl : IntSl w (.slice a1 ls.length c1) ls)
    (h2 : 1 ≤ n) (h3 : n ≤ 8) (h5 : hs.length ≤ 4000) (h6 : ls.length ≤ 4000) (h8 : ((ls.length : Int) == 0) = false) (q : Int) (hr : q = if (hs ++ ls).any (fun x => decide (x < 0) || decide (n ≤ x)) = true then 5 else 0) :
    Calls Tryd.prog 15 #[.agg #[.slice a0 hs.length c0, .slice a1 ls.length c1], .int .i64 n] w fun e w' => e = .returned (.int .i64 q) ∧ Below w.heap.size w w' := by
  have Hh : Hid (IntSl w (.slice a0 hs.length c0) hs) := hh
  have Hl : Hid (IntSl w (.slice a1 ls.length c1) ls) := hl
  have Hr : Hid _ := hr
  clear hh hl hr
  have hd : decide (1 ≤ n ∧ n ≤ 8) = true := by simp [h2, h3]
  go_enter Tryd.func15, Tryd.ntmps15
  go_wp2_with (fail)
  refine (between_any n 1 8 _).mono ?_
  rintro e w' ⟨rfl, rfl⟩
  go_wp2_with (fail)
  go_region_held3 (fun w' => w'.cell? ⟨w.heap.size, 0, none⟩ = some (.slice a0 hs.length c0) ∧ w'.cell? ⟨w.heap.size, 1, none⟩ = some (.slice a1 ls.length c1)) (go_keep) (first | (refine step_append_sl rfl (.tmp 24) (.tmp 26) rfl (w.heap.size + 1) _ 0 [] rfl ?_ _ hs rfl ?_ ?_ ?_ ?_; exact owns_empty (heap_two _ _ _) (Nat.le_refl _); exact Hh.out.below (by repeat (first | exact Below.refl _ _ | assumption | refine below_drewN ?_ _ | refine Below.drew ?_ | refine Below.alloc ?_ (by simp <;> omega) _ | refine below_trans ?_ (by assumption))); simp; omega; simp; intro v1 w1 hown1 hb1 hc1 hs1) | (refine step_append_sl rfl (.tmp 27) (.tmp 29) rfl (w.heap.size + 1) _ _ _ rfl hown1 _ ls rfl (Hl.out.below (Below.trans (by repeat (first | exact Below.refl _ _ | assumption | refine below_drewN ?_ _ | refine Below.drew ?_ | refine Below.alloc ?_ (by simp <;> omega) _ | refine below_trans ?_ (by assumption))) (hb1.mono (by simp)))) (by simp; omega) hs1 ?_; intro v2 w2 hown2 hb2 hc2 hs2))
  have hz : IntSl w2 v2 (hs ++ ls) := intSl_of_owns (n := 0 + hs.length + ls.length) (base := w.heap.size + 1) (by simpa using hown2)
  have hbw : Below w.heap.size w w2 := Below.trans (Below.trans (by repeat (first | exact Below.refl _ _ | assumption | refine below_drewN ?_ _ | refine Below.drew ?_ | refine Below.alloc ?_ (by simp <;> omega) _ | refine below_trans ?_ (by assumption))) (hb1.mono (by simp))) (hb2.mono (by simp))
  have hne : hs ++ ls ≠ [] := by
    intro h
    have : ls = [] := (List.append_eq_nil_iff.1 h).2
    subst this; simp at h8
  generalize hzs : hs ++ ls = zs at *
  obtain ⟨a, cap, rfl, hm, hz, -⟩ := hz
  rcases hz with hz | ⟨b, off, rfl, hcell⟩
  · exact absurd hz hne
  have hlen : zs.length ≤ 8000 := by rw [← hzs, List.length_append]; omega
  clear hown1 hb1 hc1 hs1 hown2 hb2 hc2 hs2 hne hzs hm
  go_wp2_with (fail)
  go_loopw [6] (fun i wr => ∃ k : Nat, k ≤ zs.length ∧ i = .int .i64 k ∧ (∀ j, j < k → (decide (zs.getD j 0 < 0) || decide (n ≤ zs.getD j 0)) = false) ∧ wr = w2) (fun i _ => zs.length - (intOf i).toNat)
  case atStart => exact ⟨0, Nat.zero_le _, rfl, fun j hj => by omega, rfl⟩
  case round =>
    obtain ⟨k, hk, rfl, htk, rfl⟩ := hrel
    have Htk : Hid (∀ j, j < k → (decide (zs.getD j 0 < 0) || decide (n ≤ zs.getD j 0)) = false) := htk
    clear htk
    by_cases hlt : k < zs.length
    · have hc := hcell k hlt
      clear hcell
      generalize hx : zs.getD k 0 = x at *
      have Hx : Hid (zs.getD k 0 = x) := hx
      clear hx
      go_wp2_with (fail)
      refine (between_any x 0 (n - 1) _).mono ?_
      rintro e w' ⟨rfl, rfl⟩
      by_cases hok : 0 ≤ x ∧ x ≤ n - 1
      · rw [decide_eq_true hok]
        have Hok : Hid (0 ≤ x ∧ x ≤ n - 1) := hok
        clear hok
        go_wp2
        go_roundw
        case rel => exact ⟨k + 1, by omega, by go_num, fun j hj => by
          by_cases e : j = k
          · subst e; rw [Hx.out]; have := Hok.out; simp; omega
          · exact Htk.out j (by omega), by first | rfl | trivial⟩
        case measure => simp [intOf]; omega
      · rw [decide_eq_false hok]
        have Hok : Hid (¬ (0 ≤ x ∧ x ≤ n - 1)) := hok
        clear hok
        go_wp2
        go_ret
        have : q = 5 := by
          rw [Hr.out, if_pos]
          rw [List.any_eq_true]
          refine ⟨x, ?_, ?_⟩
          · rw [← Hx.out]; simp [List.getD, hlt]
          · have := Hok.out; simp; omega
        subst this
        exact ⟨rfl, hbw⟩
    · go_wp2
      go_ret
      have : q = 0 := by
        rw [Hr.out, if_neg]
        rw [Bool.not_eq_true, List.any_eq_false]
        intro x hx
        obtain ⟨i, hi, rfl⟩ := List.mem_iff_getElem.1 hx
        have := Htk.out i (by omega)
        rw [show zs.getD i 0 = zs[i] by simp [List.getD, hi]] at this
        rw [this]; simp
      subst this
      exact ⟨rfl, hbw⟩

set_option maxHeartbeats 400000 in
theorem checkLasso_any {hv lv : Value} {hs ls : List Int} {w : World} (n : Int) (hh : IntSl w hv hs) (hl : IntSl w lv ls) :
    Calls Tryd.prog 15 #[.agg #[hv, lv], .int .i64 n] w fun e w' => e = .returned (.int .i64 (chk hs ls n)) ∧ Below w.heap.size w w' := by
  have Hh : Hid _ := hh
  have Hl : Hid _ := hl
  obtain ⟨a0, c0, rfl, hm0, -, -⟩ := hh
  obtain ⟨a1, c1, rfl, hm1, -, -⟩ := hl
  unfold maxLen at hm0 hm1
  by_cases h1 : n < 1 ∨ 8 < n
  · have e : chk hs ls n = 3 := by simp [chk, h1]
    rw [e]
    have hd : decide (1 ≤ n ∧ n ≤ 8) = false := by simp; omega
    clear e h1
    go_enter Tryd.func15, Tryd.ntmps15
    go_wp2_with (fail)
    refine (between_any n 1 8 _).mono ?_
    rintro e w' ⟨rfl, rfl⟩
    rw [hd]
    go_wp2
    go_ret
    exact ⟨rfl, (by repeat (first | exact Below.refl _ _ | assumption | refine below_drewN ?_ _ | refine Below.drew ?_ | refine Below.alloc ?_ (by simp <;> omega) _ | refine below_trans ?_ (by assumption)))⟩
  have h2 : 1 ≤ n := by omega
  have h3 : n ≤ 8 := by omega
  have hd : decide (1 ≤ n ∧ n ≤ 8) = true := by simp [h2, h3]
  by_cases h4 : 4000 < hs.length ∨ 4000 < ls.length
  · have e : chk hs ls n = 2 := by simp [chk, h1, h4]
    rw [e]
    clear e h1
    by_cases h5 : 4000 < hs.length
    · clear h4
      go_enter Tryd.func15, Tryd.ntmps15
      go_wp2_with (fail)
      refine (between_any n 1 8 _).mono ?_
      rintro e w' ⟨rfl, rfl⟩
      rw [hd]
      go_wp2
      go_ret
      exact ⟨rfl, (by repeat (first | exact Below.refl _ _ | assumption | refine below_drewN ?_ _ | refine Below.drew ?_ | refine Below.alloc ?_ (by simp <;> omega) _ | refine below_trans ?_ (by assumption)))⟩
    · have h6 : hs.length ≤ 4000 := by omega
      have h7 : 4000 < ls.length := by omega
      clear h5 h4
      go_enter Tryd.func15, Tryd.ntmps15
      go_wp2_with (fail)
      refine (between_any n 1 8 _).mono ?_
      rintro e w' ⟨rfl, rfl⟩
      rw [hd]
      go_wp2
      go_ret
      exact ⟨rfl, (by repeat (first | exact Below.refl _ _ | assumption | refine below_drewN ?_ _ | refine Below.drew ?_ | refine Below.alloc ?_ (by simp <;> omega) _ | refine below_trans ?_ (by assumption)))⟩
  have h5 : hs.length ≤ 4000 := by omega
  have h6 : ls.length ≤ 4000 := by omega
  by_cases h7 : ls.length = 0
  · have e : chk hs ls n = 1 := by unfold chk; rw [if_neg h1, if_neg h4, if_pos h7]
    rw [e]
    have h8 : ((ls.length : Int) == 0) = true := by simpa using h7
    clear e h1 h4 h7
    go_enter Tryd.func15, Tryd.ntmps15
    go_wp2_with (fail)
    refine (between_any n 1 8 _).mono ?_
    rintro e w' ⟨rfl, rfl⟩
    rw [hd]
    go_wp2
    go_ret
    exact ⟨rfl, (by repeat (first | exact Below.refl _ _ | assumption | refine below_drewN ?_ _ | refine Below.drew ?_ | refine Below.alloc ?_ (by simp <;> omega) _ | refine below_trans ?_ (by assumption)))⟩
  have e : chk hs ls n = if (hs ++ ls).any (fun x => decide (x < 0) || decide (n ≤ x)) then 5 else 0 := by simp only [chk, h1, h4, h7, if_false]
  rw [e]
  exact checkLasso_many n a0 a1 c0 c1 hs ls Hh.out Hl.out h2 h3 h5 h6 (by rw [beq_eq_false_iff_ne]; omega) _ rfl

end Go.Proofs.YtpiacnnifdjlkabDoor

/-
  Texts joined in a region (Ra).
-/
namespace Go.Proofs.YtpiacnnifdjlkabDoor
open Go.RowKit Go.Sort

/-- The temporaries that a region's operations write. -/
def dstList (ops : Array Oper) : List Nat → List (Nat × Tmp)
  | [] => []
  | i :: l => match dstAt ops i with
    | some d => (i, d) :: dstList ops l
    | none => dstList ops l

def putPairs (vs : Nat → Value) : List (Nat × Tmp) → Array Value → Array Value
  | [], t => t
  | (i, d) :: l, t => putPairs vs l (t.setIfInBounds d (vs i))

theorem putAll_pairs (ops : Array Oper) (vs : Nat → Value) : ∀ (l : List Nat) (t : Array Value), putAll ops vs l t = putPairs vs (dstList ops l) t
  | [], _ => rfl
  | i :: l, t => by
    rw [putAll, dstList, putAll_pairs ops vs l]
    cases dstAt ops i <;> rfl

/-- As wp_region_amid, the temporaries that are written told ahead. -/
theorem wp_region_told {P : Program} {ops : Array Oper} {Q : Exit → Act → World → Prop} {id : Nat} {a0 : Act} {w : World} (ds : List (Nat × Tmp)) (W : World → Prop) (R : Nat → Value → World → Prop) (hds : dstList ops (List.range ops.size) = ds) (hm : P.follows .mixedOrders = true) (h : orderly ops a0.tmps.size = true)
    (h0 : W { w with drawn := w.drawn + 1 }) (hstep : ∀ i o, ops[i]? = some o → StepOk P ops Q W R a0 i o)
    (hend : ∀ (vs : Nat → Value) (w : World), W w → (∀ i, i < ops.size → R i (vs i) w) → Q .normal { a0 with tmps := putPairs vs ds a0.tmps } w) : (Code.region id ops true).wp P Q a0 w :=
  wp_region_amid W R hm h h0 hstep (fun vs w hW hR => by rw [putAll_pairs, hds]; exact hend vs w hW hR)

theorem cell_kept {w w' : World} {b o : Nat} {v : Value} (h : w.cell? ⟨b, o, none⟩ = some v) (hb : Below w.heap.size w w') : w'.cell? ⟨b, o, none⟩ = some v := (hb.cell (p := ⟨b, o, none⟩) (World.block_lt_of_cell? w _ h)).trans h

theorem texts_app (l m : List UInt8) : (⟨l.toArray⟩ : ByteArray) ++ ⟨m.toArray⟩ = ⟨(l ++ m).toArray⟩ := by
  apply ByteArray.ext
  simp

theorem run_join (A B : List UInt8) (h : A.length + B.length ≤ 1000000) (W : World) : (binOp .add 9 (.string ⟨A.toArray⟩) (.string ⟨B.toArray⟩)).run Tryd.prog W = .ok (.string ⟨(A ++ B).toArray⟩) W := by
  have h1 : (⟨A.toArray⟩ : ByteArray).size = A.length := by simp [ByteArray.size]
  have h2 : (⟨B.toArray⟩ : ByteArray).size = B.length := by simp [ByteArray.size]
  rw [← texts_app]
  simp [go_sem, h1, h2]
  omega

theorem op_join {a : Act} {o : Oper} {x y : Operand} (A B : List UInt8) (W : World) (ho : o.op = .binOp .add 9 x y 9) (hx : a.eval x = .string ⟨A.toArray⟩) (hy : a.eval y = .string ⟨B.toArray⟩) (h : A.length + B.length ≤ 1000000) : (execOp a.eval o).run Tryd.prog W = .ok (.value (.string ⟨(A ++ B).toArray⟩)) W := by
  unfold execOp
  simp only [ho, hx, hy]
  have hr := run_join A B h W
  simp [eqGuard, hr]
end Go.Proofs.YtpiacnnifdjlkabDoor

/-
  A region that draws its order and whose last operation waits for all others: one obligation for each of those, whatever the order, then the last one; one of them (X) turns what is known of the world.
-/
namespace Go.Proofs.YtpiacnnifdjlkabDoor

/-- Each operation but the last is waited for by another one. -/
def hung (ops : Array Oper) : Bool := (List.range (ops.size - 1)).all fun i => (List.range ops.size).any fun k => match ops[k]? with
  | some o => dep o i
  | none => false

section
variable {P : Program} {ops : Array Oper} {Q : Exit → Act → World → Prop} {W : World → Prop} {V : Bool → World → Prop} {R : Nat → Value → World → Prop} {a0 : Act}

theorem dep_out {o : Oper} {i : Nat} (h : dep o i = true) : ∃ e ∈ o.after.toList, Region.binds .any e = true ∧ e.on = i := by
  obtain ⟨e, he, hbe⟩ := List.any_eq_true.1 h
  rw [Bool.and_eq_true] at hbe
  exact ⟨e, he, hbe.1, by simpa using hbe.2⟩

/-- Where the last one may go on, all others are done. -/
theorem hung_all (h : orderly ops a0.tmps.size = true) (hh : hung ops = true) {L : Nat} {oL : Oper} (hsz : ops.size = L + 1) (hoL : ops[L]? = some oL) {listed : Array Bool} {a : Act} {w : World} (hA : Amid ops W R a0 listed a w)
    (hr : ∀ e ∈ oL.after.toList, Region.binds .any e = true → listed[e.on]? = some true) : ∀ d i, L - i ≤ d → i < L → listed[i]? = some true := by
  intro d
  induction d with
  | zero => intro i h1 h2; omega
  | succ d ih =>
    intro i h1 h2
    have := List.all_eq_true.1 hh i (List.mem_range.2 (by omega))
    obtain ⟨k, hk, hd⟩ := List.any_eq_true.1 this
    have hk := List.mem_range.1 hk
    have ho : ops[k]? = some ops[k] := Array.getElem?_eq_getElem hk
    rw [ho] at hd
    obtain ⟨e, he, hb, rfl⟩ := dep_out hd
    have hlt := (orderly_at h ho).2.1 e he hb
    by_cases hkL : k = L
    · subst hkL
      rw [ho] at hoL
      obtain rfl := Option.some.inj hoL
      exact hr e he hb
    · exact hA.closed k _ ho (ih k (by omega) (by omega)) e he hb

theorem last_end (h : orderly ops a0.tmps.size = true) {L : Nat} (hsz : ops.size = L + 1) {listed : Array Bool} {a : Act} {w : World} (hA : Amid ops W R a0 listed a w) (hnL : listed[L]? = some false) (hall : ∀ i, i < L → listed[i]? = some true) :
    ∃ vs : Nat → Value, (∀ i, i < L → R i (vs i) w) ∧ a = { a0 with tmps := putAll ops vs (List.range L) a0.tmps } := by
  have hex : ∀ i, ∃ v, i < L → R i v w ∧ ∀ d, dstAt ops i = some d → a.tmps[d]? = some v := fun i => by
    by_cases hi : i < L
    · obtain ⟨v, hv⟩ := hA.done i (hall i hi)
      exact ⟨v, fun _ => hv⟩
    · exact ⟨undef, fun h => absurd h hi⟩
  obtain ⟨vs, hvs⟩ := Classical.axiomOfChoice hex
  refine ⟨vs, fun i hi => (hvs i hi).1, ?_⟩
  obtain ⟨t, d⟩ := a
  have hd := hA.defers
  dsimp only at hd
  subst hd
  congr 1
  apply Array.ext_getElem?
  intro k
  by_cases hk : ∃ i, i < L ∧ dstAt ops i = some k
  · obtain ⟨i, hi, hd⟩ := hk
    have ho : ops[i]? = some ops[i] := Array.getElem?_eq_getElem (by omega)
    have hd' : ops[i].dst = some k := by
      unfold dstAt at hd
      rw [ho] at hd
      exact hd
    obtain ⟨hlt, hu⟩ := (orderly_at h ho).2.2 k hd'
    rw [putAll_own ops vs k i hd _ _ hlt (List.mem_range.2 hi) (fun j _ hj => hu j hj)]
    exact (hvs i hi).2 k hd
  · rw [putAll_other ops vs k _ _ (fun i hi hd => hk ⟨i, List.mem_range.1 hi, hd⟩)]
    refine hA.rest k fun i hi hd => hk ⟨i, ?_, hd⟩
    have h1 := (Array.getElem?_eq_some_iff.1 hi).1
    have h2 := hA.size
    have h3 : i ≠ L := fun e => by rw [e, hnL] at hi; cases hi
    omega

/-- What is asked of the operation that turns what is known. -/
def StepX (P : Program) (ops : Array Oper) (Q : Exit → Act → World → Prop) (V : Bool → World → Prop) (R : Nat → Value → World → Prop) (a0 : Act) (i : Nat) (o : Oper) : Prop :=
  ∀ (a : Act) (w : World) (vs : Nat → Value), V false w → (∀ t, free ops i t = true → a.eval (.tmp t) = a0.eval (.tmp t)) →
    (∀ j, dep o j = true → R j (vs j) w ∧ ∀ d, dstAt ops j = some d → a.eval (.tmp d) = vs j) →
    o.wp P a w (fun a' w' => ∃ v, a' = a.put o.dst v ∧ V true w' ∧ R i v w' ∧ ∀ j x, j ≠ i → R j x w → R j x w') Q

theorem wpAny_last (h : orderly ops a0.tmps.size = true) (hh : hung ops = true) {L : Nat} {oL : Oper} (hsz : ops.size = L + 1) (hoL : ops[L]? = some oL) (X : Nat) (hXL : X < L) (hstep : ∀ i o, i < L → i ≠ X → ops[i]? = some o → ∀ b, StepOk P ops Q (V b) R a0 i o) (hX : ∀ o, ops[X]? = some o → StepX P ops Q V R a0 X o)
    (hend : ∀ (vs : Nat → Value) (w : World), V true w → (∀ i, i < L → R i (vs i) w) → oL.wp P { a0 with tmps := putAll ops vs (List.range L) a0.tmps } w (fun a' w' => Q .normal a' w') Q) :
    ∀ (fuel : Nat) (listed : Array Bool) (a : Act) (w : World), listed.toList.count false ≤ fuel → Amid ops (fun _ => True) R a0 listed a w → listed[L]? = some false → (∃ b, listed[X]? = some b ∧ V b w) → wpAny P .any ops Q fuel listed a w := by
  intro fuel
  induction fuel with
  | zero =>
    intro listed a w hc hA hnL hV
    exfalso
    have hn : false ∉ listed.toList := List.count_eq_zero.1 (by omega)
    obtain ⟨hl, he⟩ := Array.getElem?_eq_some_iff.1 hnL
    exact hn (by rw [← he]; simp)
  | succ fuel ih =>
    intro listed a w hc hA hnL hV
    refine ⟨fun hr => (by have := amid_listed h hA.size hr L (by omega); rw [hnL] at this; cases this), fun i hi => ?_⟩
    unfold Region.ready at hi
    obtain ⟨hi1, hi2⟩ := List.mem_filter.1 hi
    have hio : i < ops.size := List.mem_range.1 hi1
    have hil : i < listed.size := by rw [hA.size]; exact hio
    have ho : ops[i]? = some ops[i] := Array.getElem?_eq_getElem hio
    obtain ⟨hg, hback, hdst⟩ := orderly_at h ho
    simp only [Array.getD_eq_getD_getElem?, Array.getElem?_eq_getElem hil, ho, Option.map_some, Option.getD_some, Bool.and_eq_true, Bool.not_eq_true'] at hi2
    obtain ⟨hf, hdeps⟩ := hi2
    have hw : Region.wanted ops[i] (yielded ops a.tmps) = true := by simp [Region.wanted, hg]
    unfold wpOp
    rw [ho]
    simp only [hw, if_true]
    refine Or.inl ?_
    by_cases hiL : i = L
    · have e1 : ops[i] = oL := by
        have h1 : ops[i]? = some oL := by rw [hiL]; exact hoL
        rw [ho] at h1
        exact Option.some.inj h1
      have hr : ∀ e ∈ oL.after.toList, Region.binds .any e = true → listed[e.on]? = some true := fun e he hb => by
        rw [← e1] at he
        have hlt := hback e he hb
        have hd := Array.all_eq_true_iff_forall_mem.1 hdeps e (by simpa using he)
        rw [hb] at hd
        have hee : e.on < listed.size := by omega
        rw [Array.getElem?_eq_getElem hee] at hd ⊢
        simpa using hd
      have hall : ∀ i, i < L → listed[i]? = some true := fun i hi => hung_all h hh hsz hoL hA hr L i (by omega) hi
      obtain ⟨vs, hv, rfl⟩ := last_end h hsz hA hnL hall
      rw [e1]
      refine Oper.wp_mono ?_ (hend vs w (by obtain ⟨b, hb, hV⟩ := hV; rw [hall X hXL] at hb; rw [Option.some.inj hb]; exact hV) hv)
      intro a' w' hq
      have hre : Region.ready .any ops (listed.setIfInBounds i true) = [] := by
        unfold Region.ready
        refine List.filter_eq_nil_iff.2 fun k hk => ?_
        have hk := List.mem_range.1 hk
        have : (listed.setIfInBounds i true)[k]? = some true := by
          by_cases e : k = i
          · rw [e, Array.getElem?_setIfInBounds, if_pos rfl, if_pos hil]
          · rw [Array.getElem?_setIfInBounds, if_neg (fun e' => e e'.symm)]
            exact hall k (by omega)
        simp [Array.getD_eq_getD_getElem?, this]
      cases fuel with
      | zero => exact ⟨hre, hq⟩
      | succ fuel => exact ⟨fun _ => hq, fun k hk => by rw [hre] at hk; cases hk⟩
    have hex : ∀ j, ∃ v, listed[j]? = some true → R j v w ∧ ∀ d, dstAt ops j = some d → a.tmps[d]? = some v := fun j => by
      by_cases hj : listed[j]? = some true
      · obtain ⟨v, hv⟩ := hA.done j hj
        exact ⟨v, fun _ => hv⟩
      · exact ⟨undef, fun h => absurd h hj⟩
    obtain ⟨vs, hvs⟩ := Classical.axiomOfChoice hex
    have hmineX : (listed.setIfInBounds i true)[i]? = some true := by rw [Array.getElem?_setIfInBounds, if_pos rfl, if_pos hil]
    have hgo : (∀ t, free ops i t = true → a.eval (.tmp t) = a0.eval (.tmp t)) → (∀ j, dep ops[i] j = true → R j (vs j) w ∧ ∀ d, dstAt ops j = some d → a.eval (.tmp d) = vs j) →
        ops[i].wp P a w (fun a' w' => ∃ v, a' = a.put ops[i].dst v ∧ (∃ b, (listed.setIfInBounds i true)[X]? = some b ∧ V b w') ∧ R i v w' ∧ ∀ j x, j ≠ i → R j x w → R j x w') Q := by
      obtain ⟨b, hb, hVb⟩ := hV
      intro k1 k2
      by_cases hiX : i = X
      · have : b = false := by
          rw [← hiX, Array.getElem?_eq_getElem hil, hf] at hb
          exact (Option.some.inj hb).symm
        rw [this] at hVb
        refine Oper.wp_mono ?_ (hX ops[i] (by rw [← hiX]; exact ho) a w vs hVb (by rw [← hiX]; exact k1) k2)
        rintro a' w' ⟨v, h1, h2, h3, h4⟩
        exact ⟨v, h1, ⟨true, by rw [← hiX]; exact hmineX, h2⟩, by rw [hiX]; exact h3, by rw [hiX]; exact h4⟩
      · refine Oper.wp_mono ?_ (hstep i _ (by omega) hiX ho b a w vs hVb k1 k2)
        rintro a' w' ⟨v, h1, h2, h3, h4⟩
        exact ⟨v, h1, ⟨b, by rw [Array.getElem?_setIfInBounds, if_neg hiX]; exact hb, h2⟩, h3, fun j x _ h => h4 j x h⟩
    refine Oper.wp_mono ?_ (hgo ?_ ?_)
    · rintro a' w' ⟨v, rfl, hW', hR', hst⟩
      refine ih _ _ _ ?_ ?_ (by rw [Array.getElem?_setIfInBounds, if_neg hiL]; exact hnL) hW'
      · rw [Array.toList_setIfInBounds]
        have := List.count_set (a := true) (b := false) (l := listed.toList) (i := i) (by simpa using hil)
        rw [this]
        have e : (listed.toList[i]'(by simpa using hil)) = false := by simpa using hf
        rw [e]
        have hp : 0 < listed.toList.count false := List.count_pos_iff.2 (by rw [← e]; simp)
        rw [if_pos (by rfl), if_neg (by decide)]
        omega
      · have hin : ∀ j, (listed.setIfInBounds i true)[j]? = some true → j = i ∨ (j ≠ i ∧ listed[j]? = some true) := fun j hj => by
          by_cases e : j = i
          · exact Or.inl e
          · rw [Array.getElem?_setIfInBounds, if_neg (fun e' => e e'.symm)] at hj
            exact Or.inr ⟨e, hj⟩
        have hmine : (listed.setIfInBounds i true)[i]? = some true := by rw [Array.getElem?_setIfInBounds, if_pos rfl, if_pos hil]
        have hdi : dstAt ops i = ops[i].dst := by unfold dstAt; rw [ho]; rfl
        refine ⟨by simpa using hA.size, ?_, ?_, trivial, fun t ht => ?_, fun j hj => ?_, fun j oj hoj hj e he hbe => ?_⟩
        · cases hd : ops[i].dst <;> simp [Act.put, hA.tsize]
        · cases hd : ops[i].dst <;> simp [Act.put, hA.defers]
        · have h1 := ht i hmine
          have h2 := hA.rest t fun j hj => ht j (by
            by_cases e : j = i
            · rw [e]; exact hmine
            · rw [Array.getElem?_setIfInBounds, if_neg (fun e' => e e'.symm)]; exact hj)
          cases hd : ops[i].dst with
          | none => exact h2
          | some d =>
            have hne : d ≠ t := fun e => h1 (by rw [hdi, hd, e])
            simp only [Act.put]
            rw [Array.getElem?_setIfInBounds, if_neg hne]
            exact h2
        · rcases hin j hj with rfl | ⟨hne, hj'⟩
          · refine ⟨v, hR', fun d hd => ?_⟩
            rw [hdi] at hd
            have := (hdst d hd).1
            simp only [Act.put, hd]
            rw [Array.getElem?_setIfInBounds, if_pos rfl, if_pos (by rw [hA.tsize]; exact this)]
          · obtain ⟨u, hu1, hu2⟩ := hA.done j hj'
            refine ⟨u, hst j u hne hu1, fun d hd => ?_⟩
            cases hdd : ops[i].dst with
            | none => exact hu2 d hd
            | some d' =>
              have hne' : d' ≠ d := fun e => hne ((hdst d' hdd).2 j (by rw [e]; exact hd))
              simp only [Act.put]
              rw [Array.getElem?_setIfInBounds, if_neg hne']
              exact hu2 d hd
        · have hel : listed[e.on]? = some true := by
            rcases hin j hj with rfl | ⟨hne, hj'⟩
            · rw [ho] at hoj
              injection hoj with hoj
              subst hoj
              have hlt := hback e he hbe
              have hd := Array.all_eq_true_iff_forall_mem.1 hdeps e (by simpa using he)
              rw [hbe] at hd
              have hee : e.on < listed.size := by omega
              rw [Array.getElem?_eq_getElem hee] at hd ⊢
              simpa using hd
            · exact hA.closed j oj hoj hj' e he hbe
          by_cases hei : e.on = i
          · rw [hei]; exact hmine
          · rw [Array.getElem?_setIfInBounds, if_neg (fun e' => hei e'.symm)]; exact hel
    · intro t ht
      have := hA.rest t fun j hj hdj => by
        unfold dstAt at hdj
        cases hoj : ops[j]? with
        | none => rw [hoj] at hdj; cases hdj
        | some oj =>
          rw [hoj] at hdj
          obtain ⟨e, he, hbe⟩ := List.any_eq_true.1 (free_out ht hoj hdj)
          rw [Bool.and_eq_true] at hbe
          have hli := hA.closed j oj hoj hj e he hbe.1
          rw [show e.on = i by simpa using hbe.2, Array.getElem?_eq_getElem hil, hf] at hli
          cases hli
      simp only [Act.eval, Array.getD_eq_getD_getElem?, this]
    · intro j hj
      obtain ⟨e, he, hbe⟩ := List.any_eq_true.1 hj
      rw [Bool.and_eq_true] at hbe
      obtain ⟨hb, hej⟩ := hbe
      obtain rfl : e.on = j := by simpa using hej
      have hlt := hback e he hb
      have hd := Array.all_eq_true_iff_forall_mem.1 hdeps e (by simpa using he)
      rw [hb] at hd
      have hel : listed[e.on]? = some true := by
        have hee : e.on < listed.size := by omega
        rw [Array.getElem?_eq_getElem hee] at hd ⊢
        simpa using hd
      obtain ⟨h1, h2⟩ := hvs e.on hel
      refine ⟨h1, fun d hd => ?_⟩
      simp only [Act.eval, Array.getD_eq_getD_getElem?, h2 d hd, Option.getD_some]

/-- The temporaries that are written told ahead. -/
theorem wp_region_last {id : Nat} {a0 : Act} {w : World} (L X : Nat) (oL : Oper) (ds : List (Nat × Tmp)) (V : Bool → World → Prop) (R : Nat → Value → World → Prop) (hds : dstList ops (List.range L) = ds) (hm : P.follows .mixedOrders = true) (h : orderly ops a0.tmps.size = true) (hh : hung ops = true) (hsz : ops.size = L + 1) (hoL : ops[L]? = some oL) (hXL : X < L)
    (h0 : V false { w with drawn := w.drawn + 1 }) (hstep : ∀ i o, i < L → i ≠ X → ops[i]? = some o → ∀ b, StepOk P ops Q (V b) R a0 i o) (hX : ∀ o, ops[X]? = some o → StepX P ops Q V R a0 X o)
    (hend : ∀ (vs : Nat → Value) (w : World), V true w → (∀ i, i < L → R i (vs i) w) → oL.wp P { a0 with tmps := putPairs vs ds a0.tmps } w (fun a' w' => Q .normal a' w') Q) : (Code.region id ops true).wp P Q a0 w := by
  refine wp_region_any hm (wpAny_last h hh hsz hoL X hXL hstep hX (fun vs w hW hR => by rw [putAll_pairs, hds]; exact hend vs w hW hR) _ _ _ _ ?_ ⟨by simp, rfl, rfl, trivial, fun _ _ => rfl, fun i hi => ?_, fun i o _ hi => ?_⟩ ?_ ?_)
  · exact Nat.le_trans (List.count_le_length) (by simp)
  · simp [Array.getElem?_replicate] at hi
  · simp [Array.getElem?_replicate] at hi
  · simp [hsz]
  · refine ⟨false, ?_, h0⟩
    rw [Array.getElem?_replicate, if_pos (by omega)]
end
end Go.Proofs.YtpiacnnifdjlkabDoor

namespace Go.Proofs.YtpiacnnifdjlkabDoor
open Go.RowKit

/-- p letters, again and again, make up the list, and p goes into its length. -/
def IsPer (ls : List Int) (p : Nat) : Prop := 1 ≤ p ∧ p ≤ ls.length ∧ ls.length % p = 0 ∧ ls.drop p = ls.take (ls.length - p)

def LeastPer (ls : List Int) (p : Nat) : Prop := IsPer ls p ∧ ∀ q, IsPer ls q → p ≤ q

theorem intSl_drop {w : World} {b off cap p : Nat} {ls : List Int} (hm : ls.length ≤ maxLen) (hc : ∀ i, i < ls.length → w.cell? ⟨b, off + i, none⟩ = some (.int .i64 (ls.getD i 0))) (hcap : ls.length ≤ cap) (hp : p < ls.length) :
    IntSl w (.slice (some ⟨b, off + p, none⟩) (ls.length - p) (cap - p)) (ls.drop p) := by
  refine ⟨some ⟨b, off + p, none⟩, cap - p, by simp, by simp; omega, Or.inr ⟨b, off + p, rfl, fun i hi => ?_⟩, (fun h => by cases h), by simp; omega⟩
  rw [List.length_drop] at hi
  rw [show off + p + i = off + (p + i) by omega, hc (p + i) (by omega)]
  simp [List.getD]

theorem intSl_take {w : World} {b off cap p : Nat} {ls : List Int} (hm : ls.length ≤ maxLen) (hc : ∀ i, i < ls.length → w.cell? ⟨b, off + i, none⟩ = some (.int .i64 (ls.getD i 0))) (hcap : ls.length ≤ cap) (hp : p ≤ ls.length) :
    IntSl w (.slice (some ⟨b, off, none⟩) p cap) (ls.take p) := by
  refine ⟨some ⟨b, off, none⟩, cap, by simp; omega, by simp; omega, Or.inr ⟨b, off, rfl, fun i hi => ?_⟩, (fun h => by cases h), by simp; omega⟩
  rw [List.length_take] at hi
  rw [hc i (by omega)]
  simp [List.getD, show i < p by omega]

set_option maxRecDepth 100000 in
set_option maxHeartbeats 400000 in
theorem period_go {w : World} (b off cap : Nat) (ls : List Int) (hm : ls.length ≤ 4000) (hpos : 0 < ls.length) (hc : ∀ i, i < ls.length → w.cell? ⟨b, off + i, none⟩ = some (.int .i64 (ls.getD i 0))) (hcap : ls.length ≤ cap) :
    Calls Tryd.prog 45 #[.slice (some ⟨b, off, none⟩) ls.length cap] w fun e w' => ∃ p : Nat, e = .returned (.int .i64 p) ∧ LeastPer ls p ∧ ∃ m, w' = w.drewN m := by
  have Hc : Hid (∀ i, i < ls.length → w.cell? ⟨b, off + i, none⟩ = some (.int .i64 (ls.getD i 0))) := hc
  clear hc
  generalize hn : ls.length = n at *
  have Hn : Hid (ls.length = n) := hn
  clear hn
  go_enter Tryd.func45, Tryd.ntmps45
  go_wp2_with (fail)
  go_loopw [4] (fun i wr => ∃ k : Nat, 1 ≤ k ∧ k ≤ n ∧ i = .int .i64 k ∧ (∀ j, j < k → ¬ IsPer ls j) ∧ ∃ m, wr = w.drewN m) (fun i _ => n - (intOf i).toNat)
  case atStart => exact ⟨1, Nat.le_refl _, by omega, rfl, fun j hj h => by have := h.1; omega, 0, rfl⟩
  case round =>
    obtain ⟨k, hk1, hk, rfl, htk, m, rfl⟩ := hrel
    have Htk : Hid (∀ j, j < k → ¬ IsPer ls j) := htk
    clear htk
    have hk0 : ((k : Int) == 0) = false := by rw [beq_eq_false_iff_ne]; omega
    have hk2 : ¬ (k : Int) = 0 := by omega
    by_cases hlt : k < n
    · by_cases hmod : n % k = 0
      · have hg : ((n : Int) % k == 0) = true := by rw [beq_iff_eq]; omega
        have Hmod : Hid (n % k = 0) := hmod
        clear hmod
        have HE : Hid (∀ j, Calls Tryd.prog 80 #[.slice (some ⟨b, off + k, none⟩) (n - k) (cap - k), .slice (some ⟨b, off, none⟩) (n - k) cap] (w.drewN (m + j)) fun e w' => e = .returned (.bool (decide (ls.drop k = ls.take (n - k)))) ∧ ∃ j', w' = w.drewN (m + j')) := fun j => by
          have hl := Hn.out
          subst hl
          exact (equal_any (w := w.drewN (m + j)) (intSl_drop (by unfold maxLen; omega) Hc.out hcap hlt) (intSl_take (by unfold maxLen; omega) Hc.out hcap (by omega))).mono fun e w' ⟨he, j', hw⟩ => ⟨he, j + j', by rw [hw, World.drewN_drewN, Nat.add_assoc]⟩
        generalize hr : decide (ls.drop k = ls.take (n - k)) = r at HE
        have Hr : Hid (decide (ls.drop k = ls.take (n - k)) = r) := hr
        clear hr
        go_wp2_with (fail)
        refine wp_region_quiet_lit (by kernel_rfl) (by kernel_rfl) ?_
        repeat (go_big_quiet_step (exact HE.out _))
        refine wpQuiet_nil ?_
        intro _ hw'; obtain ⟨nq, hw''⟩ := hw'; subst hw''
        cases r with
        | false =>
          go_wp2
          go_roundw
          case rel => exact ⟨k + 1, by omega, by omega, by go_num, fun j hj => by
            by_cases e : j = k
            · subst e
              intro h
              have := h.2.2.2
              rw [Hn.out] at this
              have hf := Hr.out
              rw [decide_eq_false_iff_not] at hf
              exact hf this
            · exact Htk.out j (by omega), m + nq, by first | rfl | trivial⟩
          case measure => simp [intOf]; omega
        | true =>
          go_wp2
          go_ret
          refine ⟨k, rfl, ⟨⟨hk1, by rw [Hn.out]; omega, by rw [Hn.out]; exact Hmod.out, by rw [Hn.out]; exact of_decide_eq_true Hr.out⟩, fun q hq => ?_⟩, m + nq, by rw [World.drewN_drewN]⟩
          rcases Nat.lt_or_ge q k with h | h
          · exact absurd hq (Htk.out q h)
          · exact h
      · have hg : ((n : Int) % k == 0) = false := by rw [beq_eq_false_iff_ne]; omega
        have Hmod : Hid (¬ n % k = 0) := hmod
        clear hmod
        go_wp2_with (fail)
        refine wp_region_quiet_lit (by kernel_rfl) (by kernel_rfl) ?_
        repeat (go_big_quiet_step (fail))
        refine wpQuiet_nil ?_
        intro _ hw'; obtain ⟨nq, hw''⟩ := hw'; subst hw''
        go_wp2
        go_roundw
        case rel => exact ⟨k + 1, by omega, by omega, by go_num, fun j hj => by
          by_cases e : j = k
          · subst e
            intro h
            have := h.2.2.1
            rw [Hn.out] at this
            exact Hmod.out this
          · exact Htk.out j (by omega), m + nq, by first | rfl | trivial⟩
        case measure => simp [intOf]; omega
    · go_wp2_with (fail)
      go_ret
      have hkn : k = n := by omega
      subst hkn
      refine ⟨k, rfl, ⟨⟨hk1, by rw [Hn.out]; omega, by rw [Hn.out]; simp, by rw [Hn.out]; simp [← Hn.out]⟩, fun q hq => ?_⟩, m, rfl⟩
      rcases Nat.lt_or_ge q k with h | h
      · exact absurd hq (Htk.out q h)
      · exact h

theorem period_any {w : World} {v : Value} {ls : List Int} (hv : IntSl w v ls) (hm : ls.length ≤ 4000) (hpos : 0 < ls.length) :
    Calls Tryd.prog 45 #[v] w fun e w' => ∃ p : Nat, e = .returned (.int .i64 p) ∧ LeastPer ls p ∧ ∃ m, w' = w.drewN m := by
  obtain ⟨a, cap, rfl, hm', hc, hn⟩ := hv
  rcases hc with h | ⟨b, off, rfl, hc⟩
  · subst h; simp at hpos
  · exact period_go b off cap ls hm hpos hc hn.2
end Go.Proofs.YtpiacnnifdjlkabDoor
