/-
  append of a slice of ints onto a slice of the call's own; what CheckLasso tells.
-/
import Derived.Test.YtpiacnnifdjlkaaBc
import Derived.Deep.RegionHeld3
import Derived.Deep.AppendLies
namespace Go.Proofs.Ytpiacnnifdjlkaa
open Go.RowKit

theorem add_none (b off i : Nat) : (⟨b, off, none⟩ : Addr).add i = ⟨b, off + i, none⟩ := Go.WideShapes.add_plain b off i

theorem intInfo : Try.prog.info? 3 = some Try.t3 := by kernel_rfl

/-- append(v, s...), both of ints, v of the call's own. -/
theorem run_append_sl (w : World) (ty base : Nat) (v : Value) (n : Nat) (xs : List Value) (hown : w.ownsRow base 3 1 v n xs) (sv : Value) (zs : List Int) (hs : IntSl w sv zs)
    (h63 : n + zs.length ≤ 1000000) (hbase : base ≤ w.heap.size) :
    ∃ v' w', (Builtin.append_ #[24, 24] ty #[v, sv]).run Try.prog w = .ok v' w' ∧ w'.ownsRow base 3 1 v' (n + zs.length) (xs ++ zs.map (.int .i64)) ∧ w.grownBy w' v.ownBlock ∧ (v'.ownBlock = v.ownBlock ∨ v'.ownBlock = some w.heap.size) := by
  obtain ⟨a, cap, rfl, hm, hc, hn⟩ := hs
  cases a with
  | none =>
    have hz : zs = [] := by
      rcases hc with h | ⟨b, off, h, _⟩
      · exact h
      · cases h
    have hc0 := hn.1 rfl
    subst hz hc0
    refine ⟨v, w, run_append_owned_none w base 24 ty 3 Try.t3 1 Try.underlying24 intInfo v n xs hown, by simpa using hown, ⟨rfl, rfl, rfl, Nat.le_refl _, fun _ _ _ => rfl⟩, Or.inl rfl⟩
  | some a =>
    have hnews : ∀ j u, (zs.map (Value.int .i64))[j]? = some u → w.cell? (a.add j) = some u := by
      intro j u hu
      rcases hc with h | ⟨b, off, h, hcell⟩
      · subst h; simp at hu
      · cases h
        rw [add_none]
        rw [List.getElem?_map] at hu
        cases hj : zs[j]? with
        | none => rw [hj] at hu; simp at hu
        | some z =>
          rw [hj] at hu
          have hlt : j < zs.length := (List.getElem?_eq_some_iff.1 hj).1
          rw [hcell j hlt, List.getD, hj]
          simpa using hu
    obtain ⟨v', w', hr, h2, h3, _, h5⟩ := run_append_own_at (P := Try.prog) w base 24 ty 3 Try.t3 (.int .i64 0) 1 8 Try.underlying24 intInfo (by kernel_rfl) (by kernel_rfl) (by kernel_rfl) (by kernel_rfl) (by decide) v n xs hown a zs.length cap (zs.map (.int .i64)) (by simp) hnews (by intro u hu; obtain ⟨z, _, rfl⟩ := List.mem_map.1 hu; rfl) (by unfold maxLen; omega) (by omega) hbase
    exact ⟨v', w', hr, h2, h3, h5⟩

/-- A slice of the call's own, read. -/
theorem intSl_of_owns {w : World} {base : Nat} {v : Value} {zs : List Int} {n : Nat} (h : w.ownsRow base 3 1 v n (zs.map (.int .i64))) : IntSl w v zs := by
  have hl : zs.length = n := by simpa using h.1
  rcases h.2 with ⟨rfl, h0⟩ | ⟨g, cap, cur, rfl, hb, hg, hnc, hcm, hcs, htake⟩
  · have : zs = [] := List.eq_nil_of_length_eq_zero (by omega)
    subst this
    exact ⟨none, 0, rfl, by simp [maxLen], Or.inl rfl, fun _ => rfl, Nat.le_refl _⟩
  · subst hl
    refine ⟨some ⟨g, 0, none⟩, cap, rfl, by omega, Or.inr ⟨g, 0, rfl, fun i hi => ?_⟩, (fun h => by cases h), hnc⟩
    have := h.cells (g := g) rfl i (.int .i64 (zs.getD i 0)) (by simp [List.getD, hi])
    rwa [add_none] at this

theorem owns_empty {w : World} {base g : Nat} (h : w.heap[g]? = some (.cells #[] 3 (0, 0))) (hb : base ≤ g) : w.ownsRow base 3 1 (.slice (some ⟨g, 0, none⟩) 0 0) 0 [] :=
  ⟨rfl, .inr ⟨g, 0, #[], rfl, hb, h, Nat.le_refl _, by simp [maxLen], rfl, rfl⟩⟩

theorem heap_two (w : World) (o1 o2 : Obj) : ((w.alloc o1).alloc o2).drew.heap[w.heap.size + 1]? = some o2 := by
  have := heap_alloc_new (w.alloc o1) o2
  rw [World.size_alloc] at this
  exact this

/-- The same at a step of a region that draws its order. -/
theorem step_append_sl {ops : Array Oper} {o : Oper} {a : Act} {K : Act → World → Prop} {Q : Exit → Act → World → Prop} {E : Prop} {w : World} (hgd : o.guard = none) (s x : Operand)
    (ho : o.op = .call { callee := .builtin .append, args := #[s, x], argTypes := #[24, 24] })
    (base : Nat) (v : Value) (n : Nat) (xs : List Value) (hs : a.eval s = v) (hown : w.ownsRow base 3 1 v n xs) (sv : Value) (zs : List Int) (hx : a.eval x = sv) (hz : IntSl w sv zs)
    (h63 : n + zs.length ≤ 1000000) (hbase : base ≤ w.heap.size)
    (h : ∀ v' w', w'.ownsRow base 3 1 v' (n + zs.length) (xs ++ zs.map (.int .i64)) → Below base w w' → (∀ b o, b < base → w'.cell? ⟨b, o, none⟩ = w.cell? ⟨b, o, none⟩) → base ≤ w'.heap.size → K (a.put o.dst v') w') :
    if Region.wanted o (yielded ops a.tmps) = true then Oper.wp Try.prog o a w K Q else E := by
  have hw : Region.wanted o (yielded ops a.tmps) = true := by simp [Region.wanted, hgd]
  rw [if_pos hw]
  obtain ⟨v', w', hr, h2, h3, _⟩ := run_append_sl w o.type base v n xs hown sv zs hz h63 hbase
  have hb : Below base w w' := (Below.refl _ _).grown h3 hbase fun k hk => (hown.lt k hk).1
  unfold Oper.wp execOp
  simp only [ho, resolve, invoke, builtin, Sem.run_bind, Sem.run_pure, Result.andThen_ok, List.map_toArray, List.map_cons, List.map_nil, hs, hx, hr]
  exact h v' w' h2 hb (fun b o hlt => hb.cell (p := ⟨b, o, none⟩) hlt) (Nat.le_trans hbase hb.size)

set_option maxRecDepth 100000 in
set_option maxHeartbeats 400000 in
theorem checkLasso_many {w : World} (n : Int) (a0 a1 : Option Addr) (c0 c1 : Nat) (hs ls : List Int) (hh : IntSl w (.slice a0 hs.length c0) hs) (hl : IntSl w (.slice a1 ls.length c1) ls)
    (h2 : 1 ≤ n) (h3 : n ≤ 8) (h5 : hs.length ≤ 4000) (h6 : ls.length ≤ 4000) (h8 : ((ls.length : Int) == 0) = false) (q : Int) (hr : q = if (hs ++ ls).any (fun x => decide (x < 0) || decide (n ≤ x)) = true then 5 else 0) :
    Calls Try.prog 7 #[.agg #[.slice a0 hs.length c0, .slice a1 ls.length c1], .int .i64 n] w fun e w' => e = .returned (.int .i64 q) ∧ Below w.heap.size w w' := by
  have Hh : Hid (IntSl w (.slice a0 hs.length c0) hs) := hh
  have Hl : Hid (IntSl w (.slice a1 ls.length c1) ls) := hl
  have Hr : Hid _ := hr
  clear hh hl hr
  have hd : decide (1 ≤ n ∧ n ≤ 8) = true := by simp [h2, h3]
  go_enter Try.func7, Try.ntmps7
  go_wp2_with (fail)
  refine (between_any n 1 8 _).mono ?_
  rintro e w' ⟨rfl, rfl⟩
  go_wp2_with (fail)
  go_region_held3 (fun w' => w'.cell? ⟨w.heap.size, 0, none⟩ = some (.slice a0 hs.length c0) ∧ w'.cell? ⟨w.heap.size, 1, none⟩ = some (.slice a1 ls.length c1)) (go_keep) (first | (refine step_append_sl rfl (.tmp 24) (.tmp 26) rfl (w.heap.size + 1) _ 0 [] rfl ?_ _ hs rfl ?_ ?_ ?_ ?_; exact owns_empty (heap_two _ _ _) (Nat.le_refl _); exact Hh.out.below (by repeat (first | exact Below.refl _ _ | assumption | refine below_drewN ?_ _ | refine Below.drew ?_ | refine Below.alloc ?_ (by simp <;> omega) _ | refine below_trans ?_ (by assumption))); simp; omega; simp; intro v1 w1 hown1 hb1 hc1 hs1) | (refine step_append_sl rfl (.tmp 27) (.tmp 29) rfl (w.heap.size + 1) _ _ _ rfl hown1 _ ls rfl (Hl.out.below (Below.trans (by repeat (first | exact Below.refl _ _ | assumption | refine below_drewN ?_ _ | refine Below.drew ?_ | refine Below.alloc ?_ (by simp <;> omega) _ | refine below_trans ?_ (by assumption))) (hb1.mono (by simp)))) (by simp; omega) hs1 ?_; intro v2 w2 hown2 hb2 hc2 hs2))
  have hz : IntSl w2 v2 (hs ++ ls) := intSl_of_owns (n := 0 + hs.length + ls.length) (base := w.heap.size + 1) (by simpa using hown2)
  have hbw : Below w.heap.size w w2 := Below.trans (Below.trans (by repeat (first | exact Below.refl _ _ | assumption | refine below_drewN ?_ _ | refine Below.drew ?_ | refine Below.alloc ?_ (by simp <;> omega) _ | refine below_trans ?_ (by assumption))) (hb1.mono (by simp))) (hb2.mono (by simp))
  have hne : hs ++ ls ≠ [] := by
    intro h
    have : ls = [] := (List.append_eq_nil_iff.1 h).2
    subst this; simp at h8
  generalize hzs : hs ++ ls = zs at *
  obtain ⟨a, cap, rfl, hm, hz, -⟩ := hz
  rcases hz with hz | ⟨b, off, rfl, hcell⟩
  · exact absurd hz hne
  have hlen : zs.length ≤ 8000 := by rw [← hzs, List.length_append]; omega
  clear hown1 hb1 hc1 hs1 hown2 hb2 hc2 hs2 hne hzs hm
  go_wp2_with (fail)
  go_loopw [6] (fun i wr => ∃ k : Nat, k ≤ zs.length ∧ i = .int .i64 k ∧ (∀ j, j < k → (decide (zs.getD j 0 < 0) || decide (n ≤ zs.getD j 0)) = false) ∧ wr = w2) (fun i _ => zs.length - (intOf i).toNat)
  case atStart => exact ⟨0, Nat.zero_le _, rfl, fun j hj => by omega, rfl⟩
  case round =>
    obtain ⟨k, hk, rfl, htk, rfl⟩ := hrel
    have Htk : Hid (∀ j, j < k → (decide (zs.getD j 0 < 0) || decide (n ≤ zs.getD j 0)) = false) := htk
    clear htk
    by_cases hlt : k < zs.length
    · have hc := hcell k hlt
      clear hcell
      generalize hx : zs.getD k 0 = x at *
      have Hx : Hid (zs.getD k 0 = x) := hx
      clear hx
      go_wp2_with (fail)
      refine (between_any x 0 (n - 1) _).mono ?_
      rintro e w' ⟨rfl, rfl⟩
      by_cases hok : 0 ≤ x ∧ x ≤ n - 1
      · rw [decide_eq_true hok]
        have Hok : Hid (0 ≤ x ∧ x ≤ n - 1) := hok
        clear hok
        go_wp2
        go_roundw
        case rel => exact ⟨k + 1, by omega, by go_num, fun j hj => by
          by_cases e : j = k
          · subst e; rw [Hx.out]; have := Hok.out; simp; omega
          · exact Htk.out j (by omega), by first | rfl | trivial⟩
        case measure => simp [intOf]; omega
      · rw [decide_eq_false hok]
        have Hok : Hid (¬ (0 ≤ x ∧ x ≤ n - 1)) := hok
        clear hok
        go_wp2
        go_ret
        have : q = 5 := by
          rw [Hr.out, if_pos]
          rw [List.any_eq_true]
          refine ⟨x, ?_, ?_⟩
          · rw [← Hx.out]; simp [List.getD, hlt]
          · have := Hok.out; simp; omega
        subst this
        exact ⟨rfl, hbw⟩
    · go_wp2
      go_ret
      have : q = 0 := by
        rw [Hr.out, if_neg]
        rw [Bool.not_eq_true, List.any_eq_false]
        intro x hx
        obtain ⟨i, hi, rfl⟩ := List.mem_iff_getElem.1 hx
        have := Htk.out i (by omega)
        rw [show zs.getD i 0 = zs[i] by simp [List.getD, hi]] at this
        rw [this]; simp
      subst this
      exact ⟨rfl, hbw⟩

set_option maxHeartbeats 400000 in
theorem checkLasso_any {hv lv : Value} {hs ls : List Int} {w : World} (n : Int) (hh : IntSl w hv hs) (hl : IntSl w lv ls) :
    Calls Try.prog 7 #[.agg #[hv, lv], .int .i64 n] w fun e w' => e = .returned (.int .i64 (chk hs ls n)) ∧ Below w.heap.size w w' := by
  have Hh : Hid _ := hh
  have Hl : Hid _ := hl
  obtain ⟨a0, c0, rfl, hm0, -, -⟩ := hh
  obtain ⟨a1, c1, rfl, hm1, -, -⟩ := hl
  unfold maxLen at hm0 hm1
  by_cases h1 : n < 1 ∨ 8 < n
  · have e : chk hs ls n = 3 := by simp [chk, h1]
    rw [e]
    have hd : decide (1 ≤ n ∧ n ≤ 8) = false := by simp; omega
    clear e h1
    go_enter Try.func7, Try.ntmps7
    go_wp2_with (fail)
    refine (between_any n 1 8 _).mono ?_
    rintro e w' ⟨rfl, rfl⟩
    rw [hd]
    go_wp2
    go_ret
    exact ⟨rfl, (by repeat (first | exact Below.refl _ _ | assumption | refine below_drewN ?_ _ | refine Below.drew ?_ | refine Below.alloc ?_ (by simp <;> omega) _ | refine below_trans ?_ (by assumption)))⟩
  have h2 : 1 ≤ n := by omega
  have h3 : n ≤ 8 := by omega
  have hd : decide (1 ≤ n ∧ n ≤ 8) = true := by simp [h2, h3]
  by_cases h4 : 4000 < hs.length ∨ 4000 < ls.length
  · have e : chk hs ls n = 2 := by simp [chk, h1, h4]
    rw [e]
    clear e h1
    by_cases h5 : 4000 < hs.length
    · clear h4
      go_enter Try.func7, Try.ntmps7
      go_wp2_with (fail)
      refine (between_any n 1 8 _).mono ?_
      rintro e w' ⟨rfl, rfl⟩
      rw [hd]
      go_wp2
      go_ret
      exact ⟨rfl, (by repeat (first | exact Below.refl _ _ | assumption | refine below_drewN ?_ _ | refine Below.drew ?_ | refine Below.alloc ?_ (by simp <;> omega) _ | refine below_trans ?_ (by assumption)))⟩
    · have h6 : hs.length ≤ 4000 := by omega
      have h7 : 4000 < ls.length := by omega
      clear h5 h4
      go_enter Try.func7, Try.ntmps7
      go_wp2_with (fail)
      refine (between_any n 1 8 _).mono ?_
      rintro e w' ⟨rfl, rfl⟩
      rw [hd]
      go_wp2
      go_ret
      exact ⟨rfl, (by repeat (first | exact Below.refl _ _ | assumption | refine below_drewN ?_ _ | refine Below.drew ?_ | refine Below.alloc ?_ (by simp <;> omega) _ | refine below_trans ?_ (by assumption)))⟩
  have h5 : hs.length ≤ 4000 := by omega
  have h6 : ls.length ≤ 4000 := by omega
  by_cases h7 : ls.length = 0
  · have e : chk hs ls n = 1 := by unfold chk; rw [if_neg h1, if_neg h4, if_pos h7]
    rw [e]
    have h8 : ((ls.length : Int) == 0) = true := by simpa using h7
    clear e h1 h4 h7
    go_enter Try.func7, Try.ntmps7
    go_wp2_with (fail)
    refine (between_any n 1 8 _).mono ?_
    rintro e w' ⟨rfl, rfl⟩
    rw [hd]
    go_wp2
    go_ret
    exact ⟨rfl, (by repeat (first | exact Below.refl _ _ | assumption | refine below_drewN ?_ _ | refine Below.drew ?_ | refine Below.alloc ?_ (by simp <;> omega) _ | refine below_trans ?_ (by assumption)))⟩
  have e : chk hs ls n = if (hs ++ ls).any (fun x => decide (x < 0) || decide (n ≤ x)) then 5 else 0 := by simp only [chk, h1, h4, h7, if_false]
  rw [e]
  exact checkLasso_many n a0 a1 c0 c1 hs ls Hh.out Hl.out h2 h3 h5 h6 (by rw [beq_eq_false_iff_ne]; omega) _ rfl

end Go.Proofs.Ytpiacnnifdjlkaa
