/-
  What piece, At and Least of package word answer.
-/
import Derived.Test.YtpiacnnifdjlkabDoorBc
import Derived.Deep.RegionHeld3
import Derived.Deep.AppendLies
/-
  append of a slice of ints onto a slice of the call's own; what CheckLasso tells.
-/
namespace Go.Proofs.YtpiacnnifdjlkabDoor
open Go.RowKit

theorem add_none (b off i : Nat) : (⟨b, off, none⟩ : Addr).add i = ⟨b, off + i, none⟩ := Go.WideShapes.add_plain b off i

theorem intInfo : Tryd.prog.info? 3 = some Tryd.t3 := by kernel_rfl

/-- append(v, s...), both of ints, v of the call's own. -/
theorem run_append_sl (w : World) (ty base : Nat) (v : Value) (n : Nat) (xs : List Value) (hown : w.ownsRow base 3 1 v n xs) (sv : Value) (zs : List Int) (hs : IntSl w sv zs)
    (h63 : n + zs.length ≤ 1000000) (hbase : base ≤ w.heap.size) :
    ∃ v' w', (Builtin.append_ #[22, 22] ty #[v, sv]).run Tryd.prog w = .ok v' w' ∧ w'.ownsRow base 3 1 v' (n + zs.length) (xs ++ zs.map (.int .i64)) ∧ w.grownBy w' v.ownBlock ∧ (v'.ownBlock = v.ownBlock ∨ v'.ownBlock = some w.heap.size) := by
  obtain ⟨a, cap, rfl, hm, hc, hn⟩ := hs
  cases a with
  | none =>
    have hz : zs = [] := by
      rcases hc with h | ⟨b, off, h, _⟩
      · exact h
      · cases h
    have hc0 := hn.1 rfl
    subst hz hc0
    refine ⟨v, w, run_append_owned_none w base 22 ty 3 Tryd.t3 1 Tryd.underlying22 intInfo v n xs hown, by simpa using hown, ⟨rfl, rfl, rfl, Nat.le_refl _, fun _ _ _ => rfl⟩, Or.inl rfl⟩
  | some a =>
    have hnews : ∀ j u, (zs.map (Value.int .i64))[j]? = some u → w.cell? (a.add j) = some u := by
      intro j u hu
      rcases hc with h | ⟨b, off, h, hcell⟩
      · subst h; simp at hu
      · cases h
        rw [add_none]
        rw [List.getElem?_map] at hu
        cases hj : zs[j]? with
        | none => rw [hj] at hu; simp at hu
        | some z =>
          rw [hj] at hu
          have hlt : j < zs.length := (List.getElem?_eq_some_iff.1 hj).1
          rw [hcell j hlt, List.getD, hj]
          simpa using hu
    obtain ⟨v', w', hr, h2, h3, _, h5⟩ := run_append_own_at (P := Tryd.prog) w base 22 ty 3 Tryd.t3 (.int .i64 0) 1 8 Tryd.underlying22 intInfo (by kernel_rfl) (by kernel_rfl) (by kernel_rfl) (by kernel_rfl) (by decide) v n xs hown a zs.length cap (zs.map (.int .i64)) (by simp) hnews (by intro u hu; obtain ⟨z, _, rfl⟩ := List.mem_map.1 hu; rfl) (by unfold maxLen; omega) (by omega) hbase
    exact ⟨v', w', hr, h2, h3, h5⟩

/-- A slice of the call's own, read. -/
theorem intSl_of_owns {w : World} {base : Nat} {v : Value} {zs : List Int} {n : Nat} (h : w.ownsRow base 3 1 v n (zs.map (.int .i64))) : IntSl w v zs := by
  have hl : zs.length = n := by simpa using h.1
  rcases h.2 with ⟨rfl, h0⟩ | ⟨g, cap, cur, rfl, hb, hg, hnc, hcm, hcs, htake⟩
  · have : zs = [] := List.eq_nil_of_length_eq_zero (by omega)
    subst this
    exact ⟨none, 0, rfl, by simp [maxLen], Or.inl rfl, fun _ => rfl, Nat.le_refl _⟩
  · subst hl
    refine ⟨some ⟨g, 0, none⟩, cap, rfl, by omega, Or.inr ⟨g, 0, rfl, fun i hi => ?_⟩, (fun h => by cases h), hnc⟩
    have := h.cells (g := g) rfl i (.int .i64 (zs.getD i 0)) (by simp [List.getD, hi])
    rwa [add_none] at this

theorem owns_empty {w : World} {base g : Nat} (h : w.heap[g]? = some (.cells #[] 3 (0, 0))) (hb : base ≤ g) : w.ownsRow base 3 1 (.slice (some ⟨g, 0, none⟩) 0 0) 0 [] :=
  ⟨rfl, .inr ⟨g, 0, #[], rfl, hb, h, Nat.le_refl _, by simp [maxLen], rfl, rfl⟩⟩

theorem heap_two (w : World) (o1 o2 : Obj) : ((w.alloc o1).alloc o2).drew.heap[w.heap.size + 1]? = some o2 := by
  have := heap_alloc_new (w.alloc o1) o2
  rw [World.size_alloc] at this
  exact this

/-- The same at a step of a region that draws its order. -/
theorem step_append_sl {ops : Array Oper} {o : Oper} {a : Act} {K : Act → World → Prop} {Q : Exit → Act → World → Prop} {E : Prop} {w : World} (hgd : o.guard = none) (s x : Operand)
    (ho : o.op = .call { callee := .builtin .append, args := #[s, x], argTypes := #[22, 22] })
    (base : Nat) (v : Value) (n : Nat) (xs : List Value) (hs : a.eval s = v) (hown : w.ownsRow base 3 1 v n xs) (sv : Value) (zs : List Int) (hx : a.eval x = sv) (hz : IntSl w sv zs)
    (h63 : n + zs.length ≤ 1000000) (hbase : base ≤ w.heap.size)
    (h : ∀ v' w', w'.ownsRow base 3 1 v' (n + zs.length) (xs ++ zs.map (.int .i64)) → Below base w w' → (∀ b o, b < base → w'.cell? ⟨b, o, none⟩ = w.cell? ⟨b, o, none⟩) → base ≤ w'.heap.size → K (a.put o.dst v') w') :
    if Region.wanted o (yielded ops a.tmps) = true then Oper.wp Tryd.prog o a w K Q else E := by
  have hw : Region.wanted o (yielded ops a.tmps) = true := by simp [Region.wanted, hgd]
  rw [if_pos hw]
  obtain ⟨v', w', hr, h2, h3, _⟩ := run_append_sl w o.type base v n xs hown sv zs hz h63 hbase
  have hb : Below base w w' := (Below.refl _ _).grown h3 hbase fun k hk => (hown.lt k hk).1
  unfold Oper.wp execOp
  simp only [ho, resolve, invoke, builtin, Sem.run_bind, Sem.run_pure, Result.andThen_ok, List.map_toArray, List.map_cons, List.map_nil, hs, hx, hr]
  exact h v' w' h2 hb (fun b o hlt => hb.cell (p := ⟨b, o, none⟩) hlt) (Nat.le_trans hbase hb.size)

set_option maxRecDepth 100000 in
set_option maxHeartbeats 400000 in
theorem checkLasso_many {w : World} (n : Int) (a0 a1 : Option Addr) (c0 c1 : Nat) (hs ls : List Int) (hh : IntSl w (.slice a0 hs.length c0) hs) (hl : IntSl w (.slice a1 ls.length c1) ls)
    (h2 : 1 ≤ n) (h3 : n ≤ 8) (h5 : hs.length ≤ 4000) (h6 : ls.length ≤ 4000) (h8 : ((ls.length : Int) == 0) = false) (q : Int) (hr : q = if (hs ++ ls).any (fun x => decide (x < 0) || decide (n ≤ x)) = true then 5 else 0) :
    Calls Tryd.prog 15 #[.agg #[.slice a0 hs.length c0, .slice a1 ls.length c1], .int .i64 n] w fun e w' => e = .returned (.int .i64 q) ∧ Below w.heap.size w w' := by
  have Hh : Hid (IntSl w (.slice a0 hs.length c0) hs) := hh
  have Hl : Hid (IntSl w (.slice a1 ls.length c1) ls) := hl
  have Hr : Hid _ := hr
  clear hh hl hr
  have hd : decide (1 ≤ n ∧ n ≤ 8) = true := by simp [h2, h3]
  go_enter Tryd.func15, Tryd.ntmps15
  go_wp2_with (fail)
  refine (between_any n 1 8 _).mono ?_
  rintro e w' ⟨rfl, rfl⟩
  go_wp2_with (fail)
  go_region_held3 (fun w' => w'.cell? ⟨w.heap.size, 0, none⟩ = some (.slice a0 hs.length c0) ∧ w'.cell? ⟨w.heap.size, 1, none⟩ = some (.slice a1 ls.length c1)) (go_keep) (first | (refine step_append_sl rfl (.tmp 24) (.tmp 26) rfl (w.heap.size + 1) _ 0 [] rfl ?_ _ hs rfl ?_ ?_ ?_ ?_; exact owns_empty (heap_two _ _ _) (Nat.le_refl _); exact Hh.out.below (by repeat (first | exact Below.refl _ _ | assumption | refine below_drewN ?_ _ | refine Below.drew ?_ | refine Below.alloc ?_ (by simp <;> omega) _ | refine below_trans ?_ (by assumption))); simp; omega; simp; intro v1 w1 hown1 hb1 hc1 hs1) | (refine step_append_sl rfl (.tmp 27) (.tmp 29) rfl (w.heap.size + 1) _ _ _ rfl hown1 _ ls rfl (Hl.out.below (Below.trans (by repeat (first | exact Below.refl _ _ | assumption | refine below_drewN ?_ _ | refine Below.drew ?_ | refine Below.alloc ?_ (by simp <;> omega) _ | refine below_trans ?_ (by assumption))) (hb1.mono (by simp)))) (by simp; omega) hs1 ?_; intro v2 w2 hown2 hb2 hc2 hs2))
  have hz : IntSl w2 v2 (hs ++ ls) := intSl_of_owns (n := 0 + hs.length + ls.length) (base := w.heap.size + 1) (by simpa using hown2)
  have hbw : Below w.heap.size w w2 := Below.trans (Below.trans (by repeat (first | exact Below.refl _ _ | assumption | refine below_drewN ?_ _ | refine Below.drew ?_ | refine Below.alloc ?_ (by simp <;> omega) _ | refine below_trans ?_ (by assumption))) (hb1.mono (by simp))) (hb2.mono (by simp))
  have hne : hs ++ ls ≠ [] := by
    intro h
    have : ls = [] := (List.append_eq_nil_iff.1 h).2
    subst this; simp at h8
  generalize hzs : hs ++ ls = zs at *
  obtain ⟨a, cap, rfl, hm, hz, -⟩ := hz
  rcases hz with hz | ⟨b, off, rfl, hcell⟩
  · exact absurd hz hne
  have hlen : zs.length ≤ 8000 := by rw [← hzs, List.length_append]; omega
  clear hown1 hb1 hc1 hs1 hown2 hb2 hc2 hs2 hne hzs hm
  go_wp2_with (fail)
  go_loopw [6] (fun i wr => ∃ k : Nat, k ≤ zs.length ∧ i = .int .i64 k ∧ (∀ j, j < k → (decide (zs.getD j 0 < 0) || decide (n ≤ zs.getD j 0)) = false) ∧ wr = w2) (fun i _ => zs.length - (intOf i).toNat)
  case atStart => exact ⟨0, Nat.zero_le _, rfl, fun j hj => by omega, rfl⟩
  case round =>
    obtain ⟨k, hk, rfl, htk, rfl⟩ := hrel
    have Htk : Hid (∀ j, j < k → (decide (zs.getD j 0 < 0) || decide (n ≤ zs.getD j 0)) = false) := htk
    clear htk
    by_cases hlt : k < zs.length
    · have hc := hcell k hlt
      clear hcell
      generalize hx : zs.getD k 0 = x at *
      have Hx : Hid (zs.getD k 0 = x) := hx
      clear hx
      go_wp2_with (fail)
      refine (between_any x 0 (n - 1) _).mono ?_
      rintro e w' ⟨rfl, rfl⟩
      by_cases hok : 0 ≤ x ∧ x ≤ n - 1
      · rw [decide_eq_true hok]
        have Hok : Hid (0 ≤ x ∧ x ≤ n - 1) := hok
        clear hok
        go_wp2
        go_roundw
        case rel => exact ⟨k + 1, by omega, by go_num, fun j hj => by
          by_cases e : j = k
          · subst e; rw [Hx.out]; have := Hok.out; simp; omega
          · exact Htk.out j (by omega), by first | rfl | trivial⟩
        case measure => simp [intOf]; omega
      · rw [decide_eq_false hok]
        have Hok : Hid (¬ (0 ≤ x ∧ x ≤ n - 1)) := hok
        clear hok
        go_wp2
        go_ret
        have : q = 5 := by
          rw [Hr.out, if_pos]
          rw [List.any_eq_true]
          refine ⟨x, ?_, ?_⟩
          · rw [← Hx.out]; simp [List.getD, hlt]
          · have := Hok.out; simp; omega
        subst this
        exact ⟨rfl, hbw⟩
    · go_wp2
      go_ret
      have : q = 0 := by
        rw [Hr.out, if_neg]
        rw [Bool.not_eq_true, List.any_eq_false]
        intro x hx
        obtain ⟨i, hi, rfl⟩ := List.mem_iff_getElem.1 hx
        have := Htk.out i (by omega)
        rw [show zs.getD i 0 = zs[i] by simp [List.getD, hi]] at this
        rw [this]; simp
      subst this
      exact ⟨rfl, hbw⟩

set_option maxHeartbeats 400000 in
theorem checkLasso_any {hv lv : Value} {hs ls : List Int} {w : World} (n : Int) (hh : IntSl w hv hs) (hl : IntSl w lv ls) :
    Calls Tryd.prog 15 #[.agg #[hv, lv], .int .i64 n] w fun e w' => e = .returned (.int .i64 (chk hs ls n)) ∧ Below w.heap.size w w' := by
  have Hh : Hid _ := hh
  have Hl : Hid _ := hl
  obtain ⟨a0, c0, rfl, hm0, -, -⟩ := hh
  obtain ⟨a1, c1, rfl, hm1, -, -⟩ := hl
  unfold maxLen at hm0 hm1
  by_cases h1 : n < 1 ∨ 8 < n
  · have e : chk hs ls n = 3 := by simp [chk, h1]
    rw [e]
    have hd : decide (1 ≤ n ∧ n ≤ 8) = false := by simp; omega
    clear e h1
    go_enter Tryd.func15, Tryd.ntmps15
    go_wp2_with (fail)
    refine (between_any n 1 8 _).mono ?_
    rintro e w' ⟨rfl, rfl⟩
    rw [hd]
    go_wp2
    go_ret
    exact ⟨rfl, (by repeat (first | exact Below.refl _ _ | assumption | refine below_drewN ?_ _ | refine Below.drew ?_ | refine Below.alloc ?_ (by simp <;> omega) _ | refine below_trans ?_ (by assumption)))⟩
  have h2 : 1 ≤ n := by omega
  have h3 : n ≤ 8 := by omega
  have hd : decide (1 ≤ n ∧ n ≤ 8) = true := by simp [h2, h3]
  by_cases h4 : 4000 < hs.length ∨ 4000 < ls.length
  · have e : chk hs ls n = 2 := by simp [chk, h1, h4]
    rw [e]
    clear e h1
    by_cases h5 : 4000 < hs.length
    · clear h4
      go_enter Tryd.func15, Tryd.ntmps15
      go_wp2_with (fail)
      refine (between_any n 1 8 _).mono ?_
      rintro e w' ⟨rfl, rfl⟩
      rw [hd]
      go_wp2
      go_ret
      exact ⟨rfl, (by repeat (first | exact Below.refl _ _ | assumption | refine below_drewN ?_ _ | refine Below.drew ?_ | refine Below.alloc ?_ (by simp <;> omega) _ | refine below_trans ?_ (by assumption)))⟩
    · have h6 : hs.length ≤ 4000 := by omega
      have h7 : 4000 < ls.length := by omega
      clear h5 h4
      go_enter Tryd.func15, Tryd.ntmps15
      go_wp2_with (fail)
      refine (between_any n 1 8 _).mono ?_
      rintro e w' ⟨rfl, rfl⟩
      rw [hd]
      go_wp2
      go_ret
      exact ⟨rfl, (by repeat (first | exact Below.refl _ _ | assumption | refine below_drewN ?_ _ | refine Below.drew ?_ | refine Below.alloc ?_ (by simp <;> omega) _ | refine below_trans ?_ (by assumption)))⟩
  have h5 : hs.length ≤ 4000 := by omega
  have h6 : ls.length ≤ 4000 := by omega
  by_cases h7 : ls.length = 0
  · have e : chk hs ls n = 1 := by unfold chk; rw [if_neg h1, if_neg h4, if_pos h7]
    rw [e]
    have h8 : ((ls.length : Int) == 0) = true := by simpa using h7
    clear e h1 h4 h7
    go_enter Tryd.func15, Tryd.ntmps15
    go_wp2_with (fail)
    refine (between_any n 1 8 _).mono ?_
    rintro e w' ⟨rfl, rfl⟩
    rw [hd]
    go_wp2
    go_ret
    exact ⟨rfl, (by repeat (first | exact Below.refl _ _ | assumption | refine below_drewN ?_ _ | refine Below.drew ?_ | refine Below.alloc ?_ (by simp <;> omega) _ | refine below_trans ?_ (by assumption)))⟩
  have e : chk hs ls n = if (hs ++ ls).any (fun x => decide (x < 0) || decide (n ≤ x)) then 5 else 0 := by simp only [chk, h1, h4, h7, if_false]
  rw [e]
  exact checkLasso_many n a0 a1 c0 c1 hs ls Hh.out Hl.out h2 h3 h5 h6 (by rw [beq_eq_false_iff_ne]; omega) _ rfl

end Go.Proofs.YtpiacnnifdjlkabDoor

/-
  What period, piece and At of package word answer.
-/
namespace Go.Proofs.YtpiacnnifdjlkabDoor
open Go.RowKit

/-- p letters, again and again, make up the list, and p goes into its length. -/
def IsPer (ls : List Int) (p : Nat) : Prop := 1 ≤ p ∧ p ≤ ls.length ∧ ls.length % p = 0 ∧ ls.drop p = ls.take (ls.length - p)

def LeastPer (ls : List Int) (p : Nat) : Prop := IsPer ls p ∧ ∀ q, IsPer ls q → p ≤ q

theorem intSl_drop {w : World} {b off cap p : Nat} {ls : List Int} (hm : ls.length ≤ maxLen) (hc : ∀ i, i < ls.length → w.cell? ⟨b, off + i, none⟩ = some (.int .i64 (ls.getD i 0))) (hcap : ls.length ≤ cap) (hp : p < ls.length) :
    IntSl w (.slice (some ⟨b, off + p, none⟩) (ls.length - p) (cap - p)) (ls.drop p) := by
  refine ⟨some ⟨b, off + p, none⟩, cap - p, by simp, by simp; omega, Or.inr ⟨b, off + p, rfl, fun i hi => ?_⟩, (fun h => by cases h), by simp; omega⟩
  rw [List.length_drop] at hi
  rw [show off + p + i = off + (p + i) by omega, hc (p + i) (by omega)]
  simp [List.getD]

theorem intSl_take {w : World} {b off cap p : Nat} {ls : List Int} (hm : ls.length ≤ maxLen) (hc : ∀ i, i < ls.length → w.cell? ⟨b, off + i, none⟩ = some (.int .i64 (ls.getD i 0))) (hcap : ls.length ≤ cap) (hp : p ≤ ls.length) :
    IntSl w (.slice (some ⟨b, off, none⟩) p cap) (ls.take p) := by
  refine ⟨some ⟨b, off, none⟩, cap, by simp; omega, by simp; omega, Or.inr ⟨b, off, rfl, fun i hi => ?_⟩, (fun h => by cases h), by simp; omega⟩
  rw [List.length_take] at hi
  rw [hc i (by omega)]
  simp [List.getD, show i < p by omega]

set_option maxRecDepth 100000 in
set_option maxHeartbeats 400000 in
theorem period_go {w : World} (b off cap : Nat) (ls : List Int) (hm : ls.length ≤ 4000) (hpos : 0 < ls.length) (hc : ∀ i, i < ls.length → w.cell? ⟨b, off + i, none⟩ = some (.int .i64 (ls.getD i 0))) (hcap : ls.length ≤ cap) :
    Calls Tryd.prog 45 #[.slice (some ⟨b, off, none⟩) ls.length cap] w fun e w' => ∃ p : Nat, e = .returned (.int .i64 p) ∧ LeastPer ls p ∧ ∃ m, w' = w.drewN m := by
  have Hc : Hid (∀ i, i < ls.length → w.cell? ⟨b, off + i, none⟩ = some (.int .i64 (ls.getD i 0))) := hc
  clear hc
  generalize hn : ls.length = n at *
  have Hn : Hid (ls.length = n) := hn
  clear hn
  go_enter Tryd.func45, Tryd.ntmps45
  go_wp2_with (fail)
  go_loopw [4] (fun i wr => ∃ k : Nat, 1 ≤ k ∧ k ≤ n ∧ i = .int .i64 k ∧ (∀ j, j < k → ¬ IsPer ls j) ∧ ∃ m, wr = w.drewN m) (fun i _ => n - (intOf i).toNat)
  case atStart => exact ⟨1, Nat.le_refl _, by omega, rfl, fun j hj h => by have := h.1; omega, 0, rfl⟩
  case round =>
    obtain ⟨k, hk1, hk, rfl, htk, m, rfl⟩ := hrel
    have Htk : Hid (∀ j, j < k → ¬ IsPer ls j) := htk
    clear htk
    have hk0 : ((k : Int) == 0) = false := by rw [beq_eq_false_iff_ne]; omega
    have hk2 : ¬ (k : Int) = 0 := by omega
    by_cases hlt : k < n
    · by_cases hmod : n % k = 0
      · have hg : ((n : Int) % k == 0) = true := by rw [beq_iff_eq]; omega
        have Hmod : Hid (n % k = 0) := hmod
        clear hmod
        have HE : Hid (∀ j, Calls Tryd.prog 80 #[.slice (some ⟨b, off + k, none⟩) (n - k) (cap - k), .slice (some ⟨b, off, none⟩) (n - k) cap] (w.drewN (m + j)) fun e w' => e = .returned (.bool (decide (ls.drop k = ls.take (n - k)))) ∧ ∃ j', w' = w.drewN (m + j')) := fun j => by
          have hl := Hn.out
          subst hl
          exact (equal_any (w := w.drewN (m + j)) (intSl_drop (by unfold maxLen; omega) Hc.out hcap hlt) (intSl_take (by unfold maxLen; omega) Hc.out hcap (by omega))).mono fun e w' ⟨he, j', hw⟩ => ⟨he, j + j', by rw [hw, World.drewN_drewN, Nat.add_assoc]⟩
        generalize hr : decide (ls.drop k = ls.take (n - k)) = r at HE
        have Hr : Hid (decide (ls.drop k = ls.take (n - k)) = r) := hr
        clear hr
        go_wp2_with (fail)
        refine wp_region_quiet_lit (by kernel_rfl) (by kernel_rfl) ?_
        repeat (go_big_quiet_step (exact HE.out _))
        refine wpQuiet_nil ?_
        intro _ hw'; obtain ⟨nq, hw''⟩ := hw'; subst hw''
        cases r with
        | false =>
          go_wp2
          go_roundw
          case rel => exact ⟨k + 1, by omega, by omega, by go_num, fun j hj => by
            by_cases e : j = k
            · subst e
              intro h
              have := h.2.2.2
              rw [Hn.out] at this
              have hf := Hr.out
              rw [decide_eq_false_iff_not] at hf
              exact hf this
            · exact Htk.out j (by omega), m + nq, by first | rfl | trivial⟩
          case measure => simp [intOf]; omega
        | true =>
          go_wp2
          go_ret
          refine ⟨k, rfl, ⟨⟨hk1, by rw [Hn.out]; omega, by rw [Hn.out]; exact Hmod.out, by rw [Hn.out]; exact of_decide_eq_true Hr.out⟩, fun q hq => ?_⟩, m + nq, by rw [World.drewN_drewN]⟩
          rcases Nat.lt_or_ge q k with h | h
          · exact absurd hq (Htk.out q h)
          · exact h
      · have hg : ((n : Int) % k == 0) = false := by rw [beq_eq_false_iff_ne]; omega
        have Hmod : Hid (¬ n % k = 0) := hmod
        clear hmod
        go_wp2_with (fail)
        refine wp_region_quiet_lit (by kernel_rfl) (by kernel_rfl) ?_
        repeat (go_big_quiet_step (fail))
        refine wpQuiet_nil ?_
        intro _ hw'; obtain ⟨nq, hw''⟩ := hw'; subst hw''
        go_wp2
        go_roundw
        case rel => exact ⟨k + 1, by omega, by omega, by go_num, fun j hj => by
          by_cases e : j = k
          · subst e
            intro h
            have := h.2.2.1
            rw [Hn.out] at this
            exact Hmod.out this
          · exact Htk.out j (by omega), m + nq, by first | rfl | trivial⟩
        case measure => simp [intOf]; omega
    · go_wp2_with (fail)
      go_ret
      have hkn : k = n := by omega
      subst hkn
      refine ⟨k, rfl, ⟨⟨hk1, by rw [Hn.out]; omega, by rw [Hn.out]; simp, by rw [Hn.out]; simp [← Hn.out]⟩, fun q hq => ?_⟩, m, rfl⟩
      rcases Nat.lt_or_ge q k with h | h
      · exact absurd hq (Htk.out q h)
      · exact h

theorem period_any {w : World} {v : Value} {ls : List Int} (hv : IntSl w v ls) (hm : ls.length ≤ 4000) (hpos : 0 < ls.length) :
    Calls Tryd.prog 45 #[v] w fun e w' => ∃ p : Nat, e = .returned (.int .i64 p) ∧ LeastPer ls p ∧ ∃ m, w' = w.drewN m := by
  obtain ⟨a, cap, rfl, hm', hc, hn⟩ := hv
  rcases hc with h | ⟨b, off, rfl, hc⟩
  · subst h; simp at hpos
  · exact period_go b off cap ls hm hpos hc hn.2
end Go.Proofs.YtpiacnnifdjlkabDoor

namespace Go.Proofs.YtpiacnnifdjlkabDoor
open Go.RowKit

def zeroInts (c : Nat) : Array Value := Array.replicate c (.int .i64 0)

theorem make_ints (c : Nat) (h : c ≤ 1000000) (w : World) : (Instr.makeSlice 22 (.int .i64 c) (.int .i64 c)).run Tryd.prog w = .ok (.slice (some ⟨w.heap.size, 0, none⟩) c c) (w.alloc (.cells (zeroInts c) 3)) := by
  have hz : Tryd.t3.zero = some (.int .i64 0) := by kernel_rfl
  have hb : Tryd.t3.bytes = 8 := by kernel_rfl
  have hs : Tryd.t3.size = 1 := by kernel_rfl
  rw [run_make w 22 3 Tryd.t3 (.int .i64 0) Tryd.underlying22 intInfo hz .i64 .i64 c c (by omega) (by omega) (by rw [hb]; omega) (by omega)]
  have e : madeCells (Value.cells (.int .i64 0)) (c * 1) = zeroInts c := by
    apply Array.ext
    · simp [size_madeCells, zeroInts]
    · intro i h1 h2
      simp [madeCells, zeroInts, Value.cells, Nat.mod_one]
  rw [hs, Int.toNat_natCast, e]

def pieceOf (hs ls : List Int) (f c : Nat) : List Int := (List.range c).map fun j => lat hs ls (f + j)

def pieceAt (hs ls : List Int) (f k j : Nat) : Int := if j < k then lat hs ls (f + j) else 0

theorem pieceAt_same (hs ls : List Int) (f k : Nat) : pieceAt hs ls f (k + 1) k = lat hs ls (f + k) := by simp [pieceAt]
theorem pieceAt_other (hs ls : List Int) (f k j : Nat) (h : j ≠ k) : pieceAt hs ls f (k + 1) j = pieceAt hs ls f k j := by
  unfold pieceAt
  by_cases h1 : j < k
  · rw [if_pos (by omega), if_pos h1]
  · rw [if_neg (by omega), if_neg h1]

set_option maxRecDepth 100000 in
set_option maxHeartbeats 400000 in
theorem piece_any {w : World} {hv lv : Value} {hs ls : List Int} (hh : IntSl w hv hs) (hl : IntSl w lv ls) (hne : ls ≠ []) (f c : Nat) (hf : f ≤ 1000000) (hc : c ≤ 1000000) :
    Calls Tryd.prog 47 #[.agg #[hv, lv], .int .i64 f, .int .i64 c] w fun e w' => ∃ v, e = .returned v ∧ IntSl w' v (pieceOf hs ls f c) ∧ Below w.heap.size w w' ∧ (∀ k, v.ownBlock = some k → w.heap.size ≤ k) := by
  have hmk := make_ints c hc
  have HL : Hid (∀ w1, Below w.heap.size w w1 → ∀ i : Int, 0 ≤ i → i ≤ 9223372036854775807 → Calls Tryd.prog 46 #[.agg #[hv, lv], .int .i64 i] w1 fun e w' => e = .returned (.int .i64 (lat hs ls i.toNat)) ∧ Below w1.heap.size w1 w') :=
    fun w1 hb i h0 hi => letterAt_any (hh.below hb) (hl.below hb) i h0 hi hne
  clear hh hl hne
  go_enter Tryd.func47, Tryd.ntmps47
  go_wp2_with (fail)
  go_loopw [13] (fun i wr => ∃ k : Nat, k ≤ c ∧ i = .int .i64 k ∧ Below w.heap.size w wr ∧ w.heap.size + 2 ≤ wr.heap.size ∧ wr.cell? ⟨w.heap.size, 0, none⟩ = some hv ∧ wr.cell? ⟨w.heap.size, 1, none⟩ = some lv ∧ (∀ j, j < c → wr.cell? ⟨w.heap.size + 1, j, none⟩ = some (.int .i64 (pieceAt hs ls f k j)) ∧ wr.frozen? ⟨w.heap.size + 1, j, none⟩ = false)) (fun i _ => c - (intOf i).toNat)
  case atStart =>
    refine ⟨0, Nat.zero_le _, rfl, (by repeat (first | exact Below.refl _ _ | assumption | refine below_drewN ?_ _ | refine Below.drew ?_ | refine Below.alloc ?_ (by simp <;> omega) _ | refine below_trans ?_ (by assumption))), by simp, by simp, by simp, fun j hj => ⟨?_, by simp⟩⟩
    simp [zeroInts, pieceAt, hj]
  case round =>
    obtain ⟨k, hk, rfl, hb, hsz, hc0, hc1, hcells⟩ := hrel
    by_cases hlt : k < c
    · obtain ⟨hck, hfk⟩ := hcells k hlt
      have Hcells : Hid _ := hcells
      clear hcells
      go_wp2_with (fail)
      refine (HL.out wr hb _ ?_ ?_).mono ?_
      · omega
      · omega
      rintro e w1 ⟨rfl, hb1⟩
      generalize hx : lat hs ls ((f : Int) + (k : Int)).toNat = x
      have Hx : Hid (lat hs ls (f + k) = x) := by rw [show f + k = ((f : Int) + (k : Int)).toNat by omega]; exact hx
      clear hx
      have h10 : w1.cell? ⟨w.heap.size, 0, none⟩ = some hv := by rw [hb1.cell (by simp <;> omega)]; exact hc0
      have h11 : w1.cell? ⟨w.heap.size, 1, none⟩ = some lv := by rw [hb1.cell (by simp <;> omega)]; exact hc1
      have h1k : w1.cell? ⟨w.heap.size + 1, k, none⟩ = some (.int .i64 (pieceAt hs ls f k k)) := by rw [hb1.cell (by simp <;> omega)]; exact hck
      have f1k : w1.frozen? ⟨w.heap.size + 1, k, none⟩ = false := by rw [hb1.frozen (by simp <;> omega)]; exact hfk
      have hs1 := hb1.size
      have hbw := below_trans hb hb1
      clear hc0 hc1 hck hfk
      go_wp2
      go_roundw
      case rel =>
        refine ⟨k + 1, by omega, by go_num, hbw.setCell (by simp) _, ?_, ?_, ?_, ?_⟩
        · simp [World.setCell]; omega
        · rw [World.cell?_setCell_other _ _ _ _ (by simp)]; exact h10
        · rw [World.cell?_setCell_other _ _ _ _ (by simp)]; exact h11
        · intro j hj
          obtain ⟨p1, p2⟩ := Hcells.out j hj
          refine ⟨?_, by simp; rw [hb1.frozen (by simp <;> omega)]; exact p2⟩
          by_cases e : j = k
          · subst e
            rw [World.cell?_setCell_same _ _ _ h1k, pieceAt_same, Hx.out]
          · rw [World.cell?_setCell_other _ _ _ _ (by simp <;> omega), pieceAt_other _ _ _ _ _ e, hb1.cell (by simp <;> omega)]
            exact p1
      case measure => simp [intOf]; omega
    · have hkc : k = c := by omega
      subst hkc
      have Hcells : Hid _ := hcells
      clear hcells
      go_wp2
      go_ret
      refine ⟨_, rfl, ?_, hb, fun q hq => by simp [Value.ownBlock] at hq; omega⟩
      refine ⟨some ⟨w.heap.size + 1, 0, none⟩, k, by simp [pieceOf], by simp [pieceOf, maxLen]; omega, Or.inr ⟨w.heap.size + 1, 0, rfl, fun i hi => ?_⟩, (fun h => by cases h), by simp [pieceOf]⟩
      have hi' : i < k := by simpa [pieceOf] using hi
      rw [Nat.zero_add, (Hcells.out i hi').1]
      simp [pieceAt, pieceOf, hi', List.getD]

set_option maxHeartbeats 400000 in
theorem at_bad {w : World} {hv lv : Value} {hs ls : List Int} (hh : IntSl w hv hs) (hl : IntSl w lv ls) (n i : Int) (h : (chk hs ls n != 0) = true) :
    Calls Tryd.prog 28 #[.agg #[hv, lv], .int .i64 n, .int .i64 i] w fun e w' => e = .returned (.tuple #[.int .i64 0, .int .i64 (chk hs ls n)]) ∧ Below w.heap.size w w' := by
  have HC : Hid (∀ w1, Below w.heap.size w w1 → Calls Tryd.prog 29 #[.agg #[hv, lv], .int .i64 n] w1 fun e w' => e = .returned (.int .i64 (chk hs ls n)) ∧ Below w1.heap.size w1 w') := fun w1 hb => check_any n (hh.below hb) (hl.below hb)
  clear hh hl
  generalize chk hs ls n = c at *
  go_enter Tryd.func28, Tryd.ntmps28
  go_wp2_with (fail)
  refine (HC.out _ (by repeat (first | exact Below.refl _ _ | assumption | refine below_drewN ?_ _ | refine Below.drew ?_ | refine Below.alloc ?_ (by simp <;> omega) _ | refine below_trans ?_ (by assumption)))).mono ?_
  rintro e w1 ⟨rfl, hb1⟩
  have hbw : Below w.heap.size w w1 := below_trans (by repeat (first | exact Below.refl _ _ | assumption | refine below_drewN ?_ _ | refine Below.drew ?_ | refine Below.alloc ?_ (by simp <;> omega) _ | refine below_trans ?_ (by assumption))) hb1
  go_wp2
  go_ret2
  exact ⟨rfl, hbw⟩

set_option maxHeartbeats 400000 in
theorem at_neg {w : World} {hv lv : Value} {hs ls : List Int} (hh : IntSl w hv hs) (hl : IntSl w lv ls) (n i : Int) (h : chk hs ls n = 0) (hi : i < 0) :
    Calls Tryd.prog 28 #[.agg #[hv, lv], .int .i64 n, .int .i64 i] w fun e w' => e = .returned (.tuple #[.int .i64 0, .int .i64 3]) ∧ Below w.heap.size w w' := by
  have HC : Hid (∀ w1, Below w.heap.size w w1 → Calls Tryd.prog 29 #[.agg #[hv, lv], .int .i64 n] w1 fun e w' => e = .returned (.int .i64 0) ∧ Below w1.heap.size w1 w') := fun w1 hb => by
    have := check_any n (hh.below hb) (hl.below hb)
    rwa [h] at this
  clear hh hl h
  go_enter Tryd.func28, Tryd.ntmps28
  go_wp2_with (fail)
  refine (HC.out _ (by repeat (first | exact Below.refl _ _ | assumption | refine below_drewN ?_ _ | refine Below.drew ?_ | refine Below.alloc ?_ (by simp <;> omega) _ | refine below_trans ?_ (by assumption)))).mono ?_
  rintro e w1 ⟨rfl, hb1⟩
  have hbw : Below w.heap.size w w1 := below_trans (by repeat (first | exact Below.refl _ _ | assumption | refine below_drewN ?_ _ | refine Below.drew ?_ | refine Below.alloc ?_ (by simp <;> omega) _ | refine below_trans ?_ (by assumption))) hb1
  go_wp2
  go_ret2
  exact ⟨rfl, hbw⟩

set_option maxHeartbeats 400000 in
theorem at_good {w : World} {hv lv : Value} {hs ls : List Int} (hh : IntSl w hv hs) (hl : IntSl w lv ls) (hne : ls ≠ []) (n i : Int) (h : chk hs ls n = 0) (hi : 0 ≤ i) (hi' : i ≤ 9223372036854775807) :
    Calls Tryd.prog 28 #[.agg #[hv, lv], .int .i64 n, .int .i64 i] w fun e w' => e = .returned (.tuple #[.int .i64 (lat hs ls i.toNat), .int .i64 0]) ∧ Below w.heap.size w w' := by
  have HC : Hid (∀ w1, Below w.heap.size w w1 → Calls Tryd.prog 29 #[.agg #[hv, lv], .int .i64 n] w1 fun e w' => e = .returned (.int .i64 0) ∧ Below w1.heap.size w1 w') := fun w1 hb => by
    have := check_any n (hh.below hb) (hl.below hb)
    rwa [h] at this
  have HL : Hid (∀ w1, Below w.heap.size w w1 → Calls Tryd.prog 46 #[.agg #[hv, lv], .int .i64 i] w1 fun e w' => e = .returned (.int .i64 (lat hs ls i.toNat)) ∧ Below w1.heap.size w1 w') :=
    fun w1 hb => letterAt_any (hh.below hb) (hl.below hb) i hi hi' hne
  clear hh hl h hne
  generalize lat hs ls i.toNat = x at *
  go_enter Tryd.func28, Tryd.ntmps28
  go_wp2_with (fail)
  refine (HC.out _ (by repeat (first | exact Below.refl _ _ | assumption | refine below_drewN ?_ _ | refine Below.drew ?_ | refine Below.alloc ?_ (by simp <;> omega) _ | refine below_trans ?_ (by assumption)))).mono ?_
  rintro e w1 ⟨rfl, hb1⟩
  have hbw : Below w.heap.size w w1 := below_trans (by repeat (first | exact Below.refl _ _ | assumption | refine below_drewN ?_ _ | refine Below.drew ?_ | refine Below.alloc ?_ (by simp <;> omega) _ | refine below_trans ?_ (by assumption))) hb1
  have h10 : w1.cell? ⟨w.heap.size, 0, none⟩ = some hv := by rw [hb1.cell (by simp <;> omega)]; simp
  have h11 : w1.cell? ⟨w.heap.size, 1, none⟩ = some lv := by rw [hb1.cell (by simp <;> omega)]; simp
  go_wp2_with (fail)
  refine (HL.out _ hbw).mono ?_
  rintro e w2 ⟨rfl, hb2⟩
  go_wp2
  go_ret2
  exact ⟨rfl, below_trans hbw hb2⟩
end Go.Proofs.YtpiacnnifdjlkabDoor
