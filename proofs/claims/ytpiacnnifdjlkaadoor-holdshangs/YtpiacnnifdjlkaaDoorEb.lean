/-
  The map of signs; what countTemporal, checkNode and formula.Check answer.
-/
import Derived.Test.YtpiacnnifdjlkaaDoorBc
import Derived.Deep.RegionHeld3
import Derived.Deep.AppendLies
import Derived.KernelRfl
import Derived.MapKept
/-
  append of a slice of ints onto a slice of the call's own; what CheckLasso tells.
-/
namespace Go.Proofs.YtpiacnnifdjlkaaDoor
open Go.RowKit

theorem add_none (b off i : Nat) : (⟨b, off, none⟩ : Addr).add i = ⟨b, off + i, none⟩ := Go.WideShapes.add_plain b off i

theorem intInfo : Tryd.prog.info? 3 = some Tryd.t3 := by kernel_rfl

/-- append(v, s...), both of ints, v of the call's own. -/
theorem run_append_sl (w : World) (ty base : Nat) (v : Value) (n : Nat) (xs : List Value) (hown : w.ownsRow base 3 1 v n xs) (sv : Value) (zs : List Int) (hs : IntSl w sv zs)
    (h63 : n + zs.length ≤ 1000000) (hbase : base ≤ w.heap.size) :
    ∃ v' w', (Builtin.append_ #[22, 22] ty #[v, sv]).run Tryd.prog w = .ok v' w' ∧ w'.ownsRow base 3 1 v' (n + zs.length) (xs ++ zs.map (.int .i64)) ∧ w.grownBy w' v.ownBlock ∧ (v'.ownBlock = v.ownBlock ∨ v'.ownBlock = some w.heap.size) := by
  obtain ⟨a, cap, rfl, hm, hc, hn⟩ := hs
  cases a with
  | none =>
    have hz : zs = [] := by
      rcases hc with h | ⟨b, off, h, _⟩
      · exact h
      · cases h
    have hc0 := hn.1 rfl
    subst hz hc0
    refine ⟨v, w, run_append_owned_none w base 22 ty 3 Tryd.t3 1 Tryd.underlying22 intInfo v n xs hown, by simpa using hown, ⟨rfl, rfl, rfl, Nat.le_refl _, fun _ _ _ => rfl⟩, Or.inl rfl⟩
  | some a =>
    have hnews : ∀ j u, (zs.map (Value.int .i64))[j]? = some u → w.cell? (a.add j) = some u := by
      intro j u hu
      rcases hc with h | ⟨b, off, h, hcell⟩
      · subst h; simp at hu
      · cases h
        rw [add_none]
        rw [List.getElem?_map] at hu
        cases hj : zs[j]? with
        | none => rw [hj] at hu; simp at hu
        | some z =>
          rw [hj] at hu
          have hlt : j < zs.length := (List.getElem?_eq_some_iff.1 hj).1
          rw [hcell j hlt, List.getD, hj]
          simpa using hu
    obtain ⟨v', w', hr, h2, h3, _, h5⟩ := run_append_own_at (P := Tryd.prog) w base 22 ty 3 Tryd.t3 (.int .i64 0) 1 8 Tryd.underlying22 intInfo (by kernel_rfl) (by kernel_rfl) (by kernel_rfl) (by kernel_rfl) (by decide) v n xs hown a zs.length cap (zs.map (.int .i64)) (by simp) hnews (by intro u hu; obtain ⟨z, _, rfl⟩ := List.mem_map.1 hu; rfl) (by unfold maxLen; omega) (by omega) hbase
    exact ⟨v', w', hr, h2, h3, h5⟩

/-- A slice of the call's own, read. -/
theorem intSl_of_owns {w : World} {base : Nat} {v : Value} {zs : List Int} {n : Nat} (h : w.ownsRow base 3 1 v n (zs.map (.int .i64))) : IntSl w v zs := by
  have hl : zs.length = n := by simpa using h.1
  rcases h.2 with ⟨rfl, h0⟩ | ⟨g, cap, cur, rfl, hb, hg, hnc, hcm, hcs, htake⟩
  · have : zs = [] := List.eq_nil_of_length_eq_zero (by omega)
    subst this
    exact ⟨none, 0, rfl, by simp [maxLen], Or.inl rfl, fun _ => rfl, Nat.le_refl _⟩
  · subst hl
    refine ⟨some ⟨g, 0, none⟩, cap, rfl, by omega, Or.inr ⟨g, 0, rfl, fun i hi => ?_⟩, (fun h => by cases h), hnc⟩
    have := h.cells (g := g) rfl i (.int .i64 (zs.getD i 0)) (by simp [List.getD, hi])
    rwa [add_none] at this

theorem owns_empty {w : World} {base g : Nat} (h : w.heap[g]? = some (.cells #[] 3 (0, 0))) (hb : base ≤ g) : w.ownsRow base 3 1 (.slice (some ⟨g, 0, none⟩) 0 0) 0 [] :=
  ⟨rfl, .inr ⟨g, 0, #[], rfl, hb, h, Nat.le_refl _, by simp [maxLen], rfl, rfl⟩⟩

theorem heap_two (w : World) (o1 o2 : Obj) : ((w.alloc o1).alloc o2).drew.heap[w.heap.size + 1]? = some o2 := by
  have := heap_alloc_new (w.alloc o1) o2
  rw [World.size_alloc] at this
  exact this

/-- The same at a step of a region that draws its order. -/
theorem step_append_sl {ops : Array Oper} {o : Oper} {a : Act} {K : Act → World → Prop} {Q : Exit → Act → World → Prop} {E : Prop} {w : World} (hgd : o.guard = none) (s x : Operand)
    (ho : o.op = .call { callee := .builtin .append, args := #[s, x], argTypes := #[22, 22] })
    (base : Nat) (v : Value) (n : Nat) (xs : List Value) (hs : a.eval s = v) (hown : w.ownsRow base 3 1 v n xs) (sv : Value) (zs : List Int) (hx : a.eval x = sv) (hz : IntSl w sv zs)
    (h63 : n + zs.length ≤ 1000000) (hbase : base ≤ w.heap.size)
    (h : ∀ v' w', w'.ownsRow base 3 1 v' (n + zs.length) (xs ++ zs.map (.int .i64)) → Below base w w' → (∀ b o, b < base → w'.cell? ⟨b, o, none⟩ = w.cell? ⟨b, o, none⟩) → base ≤ w'.heap.size → K (a.put o.dst v') w') :
    if Region.wanted o (yielded ops a.tmps) = true then Oper.wp Tryd.prog o a w K Q else E := by
  have hw : Region.wanted o (yielded ops a.tmps) = true := by simp [Region.wanted, hgd]
  rw [if_pos hw]
  obtain ⟨v', w', hr, h2, h3, _⟩ := run_append_sl w o.type base v n xs hown sv zs hz h63 hbase
  have hb : Below base w w' := (Below.refl _ _).grown h3 hbase fun k hk => (hown.lt k hk).1
  unfold Oper.wp execOp
  simp only [ho, resolve, invoke, builtin, Sem.run_bind, Sem.run_pure, Result.andThen_ok, List.map_toArray, List.map_cons, List.map_nil, hs, hx, hr]
  exact h v' w' h2 hb (fun b o hlt => hb.cell (p := ⟨b, o, none⟩) hlt) (Nat.le_trans hbase hb.size)

set_option maxRecDepth 100000 in
set_option maxHeartbeats 400000 in
theorem checkLasso_many {w : World} (n : Int) (a0 a1 : Option Addr) (c0 c1 : Nat) (hs ls : List Int) (hh : IntSl w (.slice a0 hs.length c0) hs) (hl : IntSl w (.slice a1 ls.length c1) ls)
    (h2 : 1 ≤ n) (h3 : n ≤ 8) (h5 : hs.length ≤ 4000) (h6 : ls.length ≤ 4000) (h8 : ((ls.length : Int) == 0) = false) (q : Int) (hr : q = if (hs ++ ls).any (fun x => decide (x < 0) || decide (n ≤ x)) = true then 5 else 0) :
    Calls Tryd.prog 26 #[.agg #[.slice a0 hs.length c0, .slice a1 ls.length c1], .int .i64 n] w fun e w' => e = .returned (.int .i64 q) ∧ Below w.heap.size w w' := by
  have Hh : Hid (IntSl w (.slice a0 hs.length c0) hs) := hh
  have Hl : Hid (IntSl w (.slice a1 ls.length c1) ls) := hl
  have Hr : Hid _ := hr
  clear hh hl hr
  have hd : decide (1 ≤ n ∧ n ≤ 8) = true := by simp [h2, h3]
  go_enter Tryd.func26, Tryd.ntmps26
  go_wp2_with (fail)
  refine (between_any n 1 8 _).mono ?_
  rintro e w' ⟨rfl, rfl⟩
  go_wp2_with (fail)
  go_region_held3 (fun w' => w'.cell? ⟨w.heap.size, 0, none⟩ = some (.slice a0 hs.length c0) ∧ w'.cell? ⟨w.heap.size, 1, none⟩ = some (.slice a1 ls.length c1)) (go_keep) (first | (refine step_append_sl rfl (.tmp 24) (.tmp 26) rfl (w.heap.size + 1) _ 0 [] rfl ?_ _ hs rfl ?_ ?_ ?_ ?_; exact owns_empty (heap_two _ _ _) (Nat.le_refl _); exact Hh.out.below (by repeat (first | exact Below.refl _ _ | assumption | refine below_drewN ?_ _ | refine Below.drew ?_ | refine Below.alloc ?_ (by simp <;> omega) _ | refine below_trans ?_ (by assumption))); simp; omega; simp; intro v1 w1 hown1 hb1 hc1 hs1) | (refine step_append_sl rfl (.tmp 27) (.tmp 29) rfl (w.heap.size + 1) _ _ _ rfl hown1 _ ls rfl (Hl.out.below (Below.trans (by repeat (first | exact Below.refl _ _ | assumption | refine below_drewN ?_ _ | refine Below.drew ?_ | refine Below.alloc ?_ (by simp <;> omega) _ | refine below_trans ?_ (by assumption))) (hb1.mono (by simp)))) (by simp; omega) hs1 ?_; intro v2 w2 hown2 hb2 hc2 hs2))
  have hz : IntSl w2 v2 (hs ++ ls) := intSl_of_owns (n := 0 + hs.length + ls.length) (base := w.heap.size + 1) (by simpa using hown2)
  have hbw : Below w.heap.size w w2 := Below.trans (Below.trans (by repeat (first | exact Below.refl _ _ | assumption | refine below_drewN ?_ _ | refine Below.drew ?_ | refine Below.alloc ?_ (by simp <;> omega) _ | refine below_trans ?_ (by assumption))) (hb1.mono (by simp))) (hb2.mono (by simp))
  have hne : hs ++ ls ≠ [] := by
    intro h
    have : ls = [] := (List.append_eq_nil_iff.1 h).2
    subst this; simp at h8
  generalize hzs : hs ++ ls = zs at *
  obtain ⟨a, cap, rfl, hm, hz, -⟩ := hz
  rcases hz with hz | ⟨b, off, rfl, hcell⟩
  · exact absurd hz hne
  have hlen : zs.length ≤ 8000 := by rw [← hzs, List.length_append]; omega
  clear hown1 hb1 hc1 hs1 hown2 hb2 hc2 hs2 hne hzs hm
  go_wp2_with (fail)
  go_loopw [6] (fun i wr => ∃ k : Nat, k ≤ zs.length ∧ i = .int .i64 k ∧ (∀ j, j < k → (decide (zs.getD j 0 < 0) || decide (n ≤ zs.getD j 0)) = false) ∧ wr = w2) (fun i _ => zs.length - (intOf i).toNat)
  case atStart => exact ⟨0, Nat.zero_le _, rfl, fun j hj => by omega, rfl⟩
  case round =>
    obtain ⟨k, hk, rfl, htk, rfl⟩ := hrel
    have Htk : Hid (∀ j, j < k → (decide (zs.getD j 0 < 0) || decide (n ≤ zs.getD j 0)) = false) := htk
    clear htk
    by_cases hlt : k < zs.length
    · have hc := hcell k hlt
      clear hcell
      generalize hx : zs.getD k 0 = x at *
      have Hx : Hid (zs.getD k 0 = x) := hx
      clear hx
      go_wp2_with (fail)
      refine (between_any x 0 (n - 1) _).mono ?_
      rintro e w' ⟨rfl, rfl⟩
      by_cases hok : 0 ≤ x ∧ x ≤ n - 1
      · rw [decide_eq_true hok]
        have Hok : Hid (0 ≤ x ∧ x ≤ n - 1) := hok
        clear hok
        go_wp2
        go_roundw
        case rel => exact ⟨k + 1, by omega, by go_num, fun j hj => by
          by_cases e : j = k
          · subst e; rw [Hx.out]; have := Hok.out; simp; omega
          · exact Htk.out j (by omega), by first | rfl | trivial⟩
        case measure => simp [intOf]; omega
      · rw [decide_eq_false hok]
        have Hok : Hid (¬ (0 ≤ x ∧ x ≤ n - 1)) := hok
        clear hok
        go_wp2
        go_ret
        have : q = 5 := by
          rw [Hr.out, if_pos]
          rw [List.any_eq_true]
          refine ⟨x, ?_, ?_⟩
          · rw [← Hx.out]; simp [List.getD, hlt]
          · have := Hok.out; simp; omega
        subst this
        exact ⟨rfl, hbw⟩
    · go_wp2
      go_ret
      have : q = 0 := by
        rw [Hr.out, if_neg]
        rw [Bool.not_eq_true, List.any_eq_false]
        intro x hx
        obtain ⟨i, hi, rfl⟩ := List.mem_iff_getElem.1 hx
        have := Htk.out i (by omega)
        rw [show zs.getD i 0 = zs[i] by simp [List.getD, hi]] at this
        rw [this]; simp
      subst this
      exact ⟨rfl, hbw⟩

set_option maxHeartbeats 400000 in
theorem checkLasso_any {hv lv : Value} {hs ls : List Int} {w : World} (n : Int) (hh : IntSl w hv hs) (hl : IntSl w lv ls) :
    Calls Tryd.prog 26 #[.agg #[hv, lv], .int .i64 n] w fun e w' => e = .returned (.int .i64 (chk hs ls n)) ∧ Below w.heap.size w w' := by
  have Hh : Hid _ := hh
  have Hl : Hid _ := hl
  obtain ⟨a0, c0, rfl, hm0, -, -⟩ := hh
  obtain ⟨a1, c1, rfl, hm1, -, -⟩ := hl
  unfold maxLen at hm0 hm1
  by_cases h1 : n < 1 ∨ 8 < n
  · have e : chk hs ls n = 3 := by simp [chk, h1]
    rw [e]
    have hd : decide (1 ≤ n ∧ n ≤ 8) = false := by simp; omega
    clear e h1
    go_enter Tryd.func26, Tryd.ntmps26
    go_wp2_with (fail)
    refine (between_any n 1 8 _).mono ?_
    rintro e w' ⟨rfl, rfl⟩
    rw [hd]
    go_wp2
    go_ret
    exact ⟨rfl, (by repeat (first | exact Below.refl _ _ | assumption | refine below_drewN ?_ _ | refine Below.drew ?_ | refine Below.alloc ?_ (by simp <;> omega) _ | refine below_trans ?_ (by assumption)))⟩
  have h2 : 1 ≤ n := by omega
  have h3 : n ≤ 8 := by omega
  have hd : decide (1 ≤ n ∧ n ≤ 8) = true := by simp [h2, h3]
  by_cases h4 : 4000 < hs.length ∨ 4000 < ls.length
  · have e : chk hs ls n = 2 := by simp [chk, h1, h4]
    rw [e]
    clear e h1
    by_cases h5 : 4000 < hs.length
    · clear h4
      go_enter Tryd.func26, Tryd.ntmps26
      go_wp2_with (fail)
      refine (between_any n 1 8 _).mono ?_
      rintro e w' ⟨rfl, rfl⟩
      rw [hd]
      go_wp2
      go_ret
      exact ⟨rfl, (by repeat (first | exact Below.refl _ _ | assumption | refine below_drewN ?_ _ | refine Below.drew ?_ | refine Below.alloc ?_ (by simp <;> omega) _ | refine below_trans ?_ (by assumption)))⟩
    · have h6 : hs.length ≤ 4000 := by omega
      have h7 : 4000 < ls.length := by omega
      clear h5 h4
      go_enter Tryd.func26, Tryd.ntmps26
      go_wp2_with (fail)
      refine (between_any n 1 8 _).mono ?_
      rintro e w' ⟨rfl, rfl⟩
      rw [hd]
      go_wp2
      go_ret
      exact ⟨rfl, (by repeat (first | exact Below.refl _ _ | assumption | refine below_drewN ?_ _ | refine Below.drew ?_ | refine Below.alloc ?_ (by simp <;> omega) _ | refine below_trans ?_ (by assumption)))⟩
  have h5 : hs.length ≤ 4000 := by omega
  have h6 : ls.length ≤ 4000 := by omega
  by_cases h7 : ls.length = 0
  · have e : chk hs ls n = 1 := by unfold chk; rw [if_neg h1, if_neg h4, if_pos h7]
    rw [e]
    have h8 : ((ls.length : Int) == 0) = true := by simpa using h7
    clear e h1 h4 h7
    go_enter Tryd.func26, Tryd.ntmps26
    go_wp2_with (fail)
    refine (between_any n 1 8 _).mono ?_
    rintro e w' ⟨rfl, rfl⟩
    rw [hd]
    go_wp2
    go_ret
    exact ⟨rfl, (by repeat (first | exact Below.refl _ _ | assumption | refine below_drewN ?_ _ | refine Below.drew ?_ | refine Below.alloc ?_ (by simp <;> omega) _ | refine below_trans ?_ (by assumption)))⟩
  have e : chk hs ls n = if (hs ++ ls).any (fun x => decide (x < 0) || decide (n ≤ x)) then 5 else 0 := by simp only [chk, h1, h4, h7, if_false]
  rw [e]
  exact checkLasso_many n a0 a1 c0 c1 hs ls Hh.out Hl.out h2 h3 h5 h6 (by rw [beq_eq_false_iff_ne]; omega) _ rfl

end Go.Proofs.YtpiacnnifdjlkaaDoor

/-
  What holds of a word, as plain mathematics: a row that is filled from behind, twice through the loop, is what is looked for along the word.
-/
namespace Go.Proofs.YtpiacnnifdjlkaaDoor

/-- A node: kind, A, B, N. -/
structure Nd where
  k : Int
  a : Int
  b : Int
  n : Int

def nd0 : Nd := ⟨0, 0, 0, 0⟩

/-- By a rule, from a place on, so many places; behind them e. -/
def look (r : Nat → Bool → Bool) (e : Bool) : Nat → Nat → Bool
  | 0, _ => e
  | m + 1, i => r i (look r e m (i + 1))

theorem look_split (r : Nat → Bool → Bool) (e : Bool) (b : Nat) : ∀ a i, look r e (a + b) i = look r (look r e b (i + a)) a i
  | 0, i => by simp [look]
  | a + 1, i => by
    rw [Nat.add_right_comm]
    show r i (look r e (a + b) (i + 1)) = r i (look r (look r e b (i + (a + 1))) a (i + 1))
    rw [look_split r e b a (i + 1), show i + 1 + a = i + (a + 1) by omega]

theorem look_congr (r s : Nat → Bool → Bool) (e : Bool) : ∀ m i, (∀ k, i ≤ k → k < i + m → r k = s k) → look r e m i = look s e m i
  | 0, _, _ => rfl
  | m + 1, i, h => by
    show r i (look r e m (i + 1)) = s i (look s e m (i + 1))
    rw [look_congr r s e m (i + 1) (fun k h1 h2 => h k (by omega) (by omega)), h i (by omega) (by omega)]

theorem look_shift (r : Nat → Bool → Bool) (e : Bool) (p : Nat) : ∀ m i, (∀ k, i ≤ k → r (k + p) = r k) → look r e m (i + p) = look r e m i
  | 0, _, _ => rfl
  | m + 1, i, h => by
    show r (i + p) (look r e m (i + p + 1)) = r i (look r e m (i + 1))
    rw [show i + p + 1 = i + 1 + p by omega, look_shift r e p m (i + 1) (fun k hk => h k (by omega)), h i (Nat.le_refl _)]

def Mono (r : Nat → Bool → Bool) : Prop := ∀ i, (∃ c, ∀ x, r i x = c) ∨ (∀ x, r i x = x)

theorem look_decided (r : Nat → Bool → Bool) (e : Bool) (c : Bool) : ∀ d M N i, d < M → d < N → (∀ x, r (i + d) x = c) → look r e M i = look r e N i
  | 0, M + 1, N + 1, i, _, _, h => by
    have h' : ∀ x, r i x = c := h
    show r i _ = r i _
    rw [h', h']
  | d + 1, M + 1, N + 1, i, h1, h2, h => by
    show r i (look r e M (i + 1)) = r i (look r e N (i + 1))
    rw [look_decided r e c d M N (i + 1) (by omega) (by omega) (by rw [show i + 1 + d = i + (d + 1) by omega]; exact h)]

theorem look_ident (r : Nat → Bool → Bool) (e : Bool) : ∀ M i, (∀ d x, r (i + d) x = x) → look r e M i = e
  | 0, _, _ => rfl
  | M + 1, i, h => by
    show r i (look r e M (i + 1)) = e
    rw [look_ident r e M (i + 1) (fun d x => by rw [show i + 1 + d = i + (d + 1) by omega]; exact h _ _)]
    exact h 0 e

theorem ident_all (r : Nat → Bool → Bool) (h p N i : Nat) (hp : 0 < p) (hpN : p ≤ N) (hi : h + p ≤ i + N) (hper : ∀ k, h ≤ k → r (k + p) = r k) (hN : ∀ d, d < N → ∀ x, r (i + d) x = x) : ∀ d x, r (i + d) x = x := by
  intro d
  induction d using Nat.strongRecOn with
  | ind d ih =>
    intro x
    by_cases hd : d < N
    · exact hN d hd x
    · have e : i + d = i + (d - p) + p := by omega
      rw [e, hper (i + (d - p)) (by omega)]
      exact ih (d - p) (by omega) x

theorem look_stab (r : Nat → Bool → Bool) (e : Bool) (h p N M i : Nat) (hm : Mono r) (hp : 0 < p) (hpN : p ≤ N) (hi : h + p ≤ i + N) (hper : ∀ k, h ≤ k → r (k + p) = r k) (hM : N ≤ M) : look r e M i = look r e N i := by
  by_cases hex : ∃ d, d < N ∧ ∃ c, ∀ x, r (i + d) x = c
  · obtain ⟨d, hd, c, hc⟩ := hex
    exact look_decided r e c d M N i (by omega) hd hc
  · have hN : ∀ d, d < N → ∀ x, r (i + d) x = x := fun d hd => by
      rcases hm (i + d) with hc | hx
      · exact absurd ⟨d, hd, hc⟩ hex
      · exact hx
    have ha := ident_all r h p N i hp hpN hi hper hN
    rw [look_ident r e M i ha, look_ident r e N i ha]

/-- The place of head and loop at which a word stands. -/
def plc (h p k : Nat) : Nat := if k < h + p then k else h + (k - h) % p

theorem plc_lt (h p k : Nat) (hp : 0 < p) : plc h p k < h + p := by
  unfold plc
  split
  · assumption
  · have := Nat.mod_lt (k - h) hp; omega

theorem plc_small {h p k : Nat} (hk : k < h + p) : plc h p k = k := by unfold plc; rw [if_pos hk]

theorem plc_add (h p k : Nat) (hk : h ≤ k) : plc h p (k + p) = plc h p k := by
  have e : plc h p (k + p) = h + (k - h) % p := by
    unfold plc
    rw [if_neg (by omega), show k + p - h = (k - h) + p by omega, Nat.add_mod_right]
  rw [e]
  unfold plc
  split
  · rename_i h1
    rw [Nat.mod_eq_of_lt (by omega)]; omega
  · rfl

theorem plc_step (h p k : Nat) (hk : h + p ≤ k) : plc h p k = plc h p (k - p) := by
  have := plc_add h p (k - p) (by omega)
  rw [show k - p + p = k by omega] at this
  exact this

/-- What three passes from behind leave at a place is what is looked for along the word. -/
theorem passes (u : Nat → Bool → Bool) (e : Bool) (h p : Nat) (hp : 0 < p) (hm : Mono u) (j : Nat) (hj : j < h + p) :
    (if j < h then look u (look u (look u e p h) p h) (h - j) j else look u (look u e p h) (h + p - j) j) = look (fun k => u (plc h p k)) e (h + p) j := by
  have hper : ∀ k, h ≤ k → (fun k => u (plc h p k)) (k + p) = (fun k => u (plc h p k)) k := fun k hk => by
    show u (plc h p (k + p)) = u (plc h p k)
    rw [plc_add h p k hk]
  have hmr : Mono (fun k => u (plc h p k)) := fun i => hm _
  have hcon : ∀ e m i, i + m ≤ h + p → look u e m i = look (fun k => u (plc h p k)) e m i := fun e m i him =>
    look_congr _ _ e m i fun k h1 h2 => by show u k = u (plc h p k); rw [plc_small (by omega)]
  generalize hr : (fun k => u (plc h p k)) = r at *
  have e1 : look u e p h = look r e p (h + p) := by rw [hcon e p h (by omega), look_shift r e p p h hper]
  have e2 : ∀ i, i ≤ h + p → look u (look u e p h) (h + p - i) i = look r e (h + p - i + p) i := fun i hi => by
    rw [hcon _ _ _ (by omega), e1, look_split r e p (h + p - i) i, show i + (h + p - i) = h + p by omega]
  split
  · rename_i hjh
    have e3 : look u (look u e p h) p h = look r e (p + p) h := by
      have := e2 h (by omega)
      rwa [show h + p - h = p by omega] at this
    rw [e3, hcon _ _ _ (by omega)]
    have e4 := look_split r e (p + p) (h - j) j
    rw [show j + (h - j) = h by omega] at e4
    rw [← e4, look_stab r e h p (h - j + p) (h - j + (p + p)) j hmr hp (by omega) (by omega) hper (by omega), look_stab r e h p (h - j + p) (h + p) j hmr hp (by omega) (by omega) hper (by omega)]
  · rename_i hjh
    rw [e2 j (by omega), look_stab r e h p p (h + p - j + p) j hmr hp (by omega) (by omega) hper (by omega), look_stab r e h p p (h + p) j hmr hp (by omega) (by omega) hper (by omega)]

/-- What a row says at a place. -/
def bt (T : List (List Bool)) (a : Int) (i : Nat) : Bool := (T.getD a.toNat []).getD i false

def nxp (h p i : Nat) : Nat := if i + 1 = h + p then h else i + 1

theorem plc_next {h p i : Nat} (hp : 0 < p) (hi : i < h + p) : plc h p (i + 1) = nxp h p i := by
  unfold nxp
  split
  · rename_i e
    rw [e, plc_add h p h (Nat.le_refl _), plc_small (by omega)]
  · exact plc_small (by omega)

/-- Does a node hold at a place, by the rows of those that it is made of and by whether it does at the next one? -/
def ruleB (T : List (List Bool)) (h p : Nat) (L : Nat → Int) (x : Nd) (i : Nat) (nx : Bool) : Bool :=
  if x.k = 2 then decide (L i / 2 ^ x.n.toNat % 2 = 1)
  else if x.k = 3 then !bt T x.a i
  else if x.k = 4 then bt T x.a i && bt T x.b i
  else if x.k = 5 then bt T x.a i || bt T x.b i
  else if x.k = 6 then bt T x.a (nxp h p i)
  else if x.k = 7 then bt T x.b i || bt T x.a i && nx
  else if x.k = 8 then bt T x.b i && (bt T x.a i || nx)
  else true

theorem rule_mono (T : List (List Bool)) (h p : Nat) (L : Nat → Int) (x : Nd) : Mono (ruleB T h p L x) := by
  intro i
  unfold ruleB
  by_cases h2 : x.k = 2
  · left; simp only [if_pos h2]; exact ⟨_, fun _ => rfl⟩
  simp only [if_neg h2]
  by_cases h3 : x.k = 3
  · left; simp only [if_pos h3]; exact ⟨_, fun _ => rfl⟩
  simp only [if_neg h3]
  by_cases h4 : x.k = 4
  · left; simp only [if_pos h4]; exact ⟨_, fun _ => rfl⟩
  simp only [if_neg h4]
  by_cases h5 : x.k = 5
  · left; simp only [if_pos h5]; exact ⟨_, fun _ => rfl⟩
  simp only [if_neg h5]
  by_cases h6 : x.k = 6
  · left; simp only [if_pos h6]; exact ⟨_, fun _ => rfl⟩
  simp only [if_neg h6]
  by_cases h7 : x.k = 7
  · simp only [if_pos h7]
    cases bt T x.b i with
    | true => left; exact ⟨true, fun _ => rfl⟩
    | false =>
      cases bt T x.a i with
      | true => right; intro y; simp
      | false => left; exact ⟨false, fun _ => rfl⟩
  simp only [if_neg h7]
  by_cases h8 : x.k = 8
  · simp only [if_pos h8]
    cases bt T x.b i with
    | false => left; exact ⟨false, fun _ => rfl⟩
    | true =>
      cases bt T x.a i with
      | false => right; intro y; simp
      | true => left; exact ⟨true, fun _ => rfl⟩
  simp only [if_neg h8]
  left; exact ⟨true, fun _ => rfl⟩

/-- What holds of a node at a place. -/
def valB (T : List (List Bool)) (h p : Nat) (L : Nat → Int) (x : Nd) (j : Nat) : Bool := look (fun k => ruleB T h p L x (plc h p k)) (decide (x.k = 8)) (h + p) j

theorem valB_flat {T : List (List Bool)} {h p : Nat} {L : Nat → Int} {x : Nd} {j : Nat} (hp : 0 < p) (hj : j < h + p) (h7 : x.k ≠ 7) (h8 : x.k ≠ 8) (y : Bool) : valB T h p L x j = ruleB T h p L x j y := by
  unfold valB
  obtain ⟨m, hm⟩ : ∃ m, h + p = m + 1 := ⟨h + p - 1, by omega⟩
  have e : look (fun k => ruleB T h p L x (plc h p k)) (decide (x.k = 8)) (h + p) j = ruleB T h p L x (plc h p j) (look (fun k => ruleB T h p L x (plc h p k)) (decide (x.k = 8)) m (j + 1)) := by rw [hm]; rfl
  rw [e, plc_small hj]
  simp only [ruleB, if_neg h7, if_neg h8]

/-- A node's row, and the rows of all nodes. -/
def rowV (T : List (List Bool)) (h p : Nat) (L : Nat → Int) (x : Nd) : List Bool := (List.range (h + p)).map (valB T h p L x)

theorem rowV_len (T : List (List Bool)) (h p : Nat) (L : Nat → Int) (x : Nd) : (rowV T h p L x).length = h + p := by simp [rowV]

theorem rowV_get (T : List (List Bool)) (h p : Nat) (L : Nat → Int) (x : Nd) (j : Nat) (hj : j < h + p) : (rowV T h p L x).getD j false = valB T h p L x j := by simp [rowV, List.getD, hj]

def tabN (F : List Nd) (h p : Nat) (L : Nat → Int) : Nat → List (List Bool)
  | 0 => []
  | m + 1 => tabN F h p L m ++ [rowV (tabN F h p L m) h p L (F.getD m nd0)]

theorem tabN_len (F : List Nd) (h p : Nat) (L : Nat → Int) : ∀ m, (tabN F h p L m).length = m
  | 0 => rfl
  | m + 1 => by simp [tabN, tabN_len F h p L m]

theorem tabN_get (F : List Nd) (h p : Nat) (L : Nat → Int) (i : Nat) : ∀ m, i < m → (tabN F h p L m).getD i [] = rowV (tabN F h p L i) h p L (F.getD i nd0)
  | 0, hi => by omega
  | m + 1, hi => by
    by_cases e : i = m
    · subst e
      simp [tabN, List.getD, tabN_len]
    · have := tabN_get F h p L i m (by omega)
      rw [← this]
      have hl := tabN_len F h p L m
      simp [tabN, List.getD, List.getElem?_append, hl, show i < m by omega]

theorem tabN_row (F : List Nd) (h p : Nat) (L : Nat → Int) (i m : Nat) (hi : i < m) : ((tabN F h p L m).getD i []).length = h + p := by
  rw [tabN_get F h p L i m hi, rowV_len]
end Go.Proofs.YtpiacnnifdjlkaaDoor

namespace Go.Proofs.YtpiacnnifdjlkaaDoor
open Go.RowKit Go.Sort

/-- A sign: its text, how many parts, does a number stand behind it, is it one of the three, its opposite. -/
structure Sg where
  text : List UInt8
  parts : Int
  num : Bool
  temp : Bool
  opp : Int

def sgV (s : Sg) : Value := .agg #[.string ⟨s.text.toArray⟩, .int .i64 s.parts, .bool s.num, .bool s.temp, .int .i64 s.opp]

def sgOf (k : Int) : Option Sg :=
  if k = 1 then some ⟨[116, 114, 117, 101], 0, false, false, 0⟩ else if k = 2 then some ⟨[112], 0, true, false, 0⟩ else if k = 3 then some ⟨[33], 1, false, false, 0⟩
  else if k = 4 then some ⟨[38], 2, false, false, 5⟩ else if k = 5 then some ⟨[124], 2, false, false, 4⟩ else if k = 6 then some ⟨[88], 1, false, true, 6⟩
  else if k = 7 then some ⟨[85], 2, false, true, 8⟩ else if k = 8 then some ⟨[82], 2, false, true, 7⟩ else none

def sg0 : Sg := ⟨[], 0, false, false, 0⟩

def sgAt (k : Int) (b : Nat) : MapEntry := { key := .int .i64 k, val := sgV ((sgOf k).getD sg0), born := b }

theorem set_last {α : Type} (xs : Array α) (a b : α) : (xs.push a).setIfInBounds xs.size b = xs.push b := by
  apply Array.ext
  · simp
  · intro i h1 h2
    simp only [Array.size_setIfInBounds, Array.size_push] at h1
    rw [Array.getElem_setIfInBounds (by simpa using h1), Array.getElem_push, Array.getElem_push]
    by_cases e : xs.size = i
    · subst e; simp
    · have : i < xs.size := by omega
      simp [e, this]

theorem ins_sign (w : World) (es : Array MapEntry) (c : Nat) (p : Int) (v : Value) (h : Instr.findNow (.int .i64) (.int .i64 p) es.toList 0 = some none) :
    (Instr.mapUpdate 108 (.map (some w.heap.size)) (.int .i64 p) v).run Tryd.prog (w.alloc (.map es c)) = .ok () (w.alloc (.map (es.push { key := .int .i64 p, val := v, born := c }) (c + 1))) := by
  have hr : (w.alloc (.map es c)).heap[w.heap.size]? = some (.map es c) := heap_alloc_new w _
  have hk : MapKept.IsKey (.int .i64) (.int .i64 p) := by simp [MapKept.IsKey]
  have hd := Tryd.underlying3
  simp [Instr.mapUpdate, run_underlying Tryd.underlying108, Go.MapKept.run_getObj_map hr, Go.MapKept.run_checkKey hd hk, Go.MapKept.run_findKey hd h, Go.MapKept.run_setObj_map _ hr, Result.andThen]
  exact congrArg (fun h => ({ w with heap := h } : World)) (set_last w.heap _ _)

set_option maxRecDepth 100000 in
set_option maxHeartbeats 1000000 in
theorem signs_any (w : World) :
    Calls Tryd.prog 72 #[] w fun e w' => ∃ r, e = .returned (.map (some r)) ∧ w'.heap[r]? = some (.map #[sgAt 1 0, sgAt 2 1, sgAt 3 2, sgAt 4 3, sgAt 5 4, sgAt 6 5, sgAt 7 6, sgAt 8 7] 8) ∧ w.heap.size ≤ r ∧ Below w.heap.size w w' := by
  have h1 := ins_sign w #[] 0 1 (sgV ((sgOf 1).getD sg0)) rfl
  have h2 := ins_sign w #[sgAt 1 0] 1 2 (sgV ((sgOf 2).getD sg0)) rfl
  have h3 := ins_sign w #[sgAt 1 0, sgAt 2 1] 2 3 (sgV ((sgOf 3).getD sg0)) rfl
  have h4 := ins_sign w #[sgAt 1 0, sgAt 2 1, sgAt 3 2] 3 4 (sgV ((sgOf 4).getD sg0)) rfl
  have h5 := ins_sign w #[sgAt 1 0, sgAt 2 1, sgAt 3 2, sgAt 4 3] 4 5 (sgV ((sgOf 5).getD sg0)) rfl
  have h6 := ins_sign w #[sgAt 1 0, sgAt 2 1, sgAt 3 2, sgAt 4 3, sgAt 5 4] 5 6 (sgV ((sgOf 6).getD sg0)) rfl
  have h7 := ins_sign w #[sgAt 1 0, sgAt 2 1, sgAt 3 2, sgAt 4 3, sgAt 5 4, sgAt 6 5] 6 7 (sgV ((sgOf 7).getD sg0)) rfl
  have h8 := ins_sign w #[sgAt 1 0, sgAt 2 1, sgAt 3 2, sgAt 4 3, sgAt 5 4, sgAt 6 5, sgAt 7 6] 7 8 (sgV ((sgOf 8).getD sg0)) rfl
  have hE : ∀ (k : Int) (b : Nat), ({ key := .int .i64 k, val := sgV ((sgOf k).getD sg0), born := b } : MapEntry) = sgAt k b := fun _ _ => rfl
  simp only [List.push_toArray, List.cons_append, List.nil_append, hE, Nat.reduceAdd] at h1 h2 h3 h4 h5 h6 h7 h8
  have e1 : sgV ((sgOf 1).getD sg0) = .agg #[.string ⟨#[116, 114, 117, 101]⟩, .int .i64 0, .bool false, .bool false, .int .i64 0] := rfl
  have e2 : sgV ((sgOf 2).getD sg0) = .agg #[.string ⟨#[112]⟩, .int .i64 0, .bool true, .bool false, .int .i64 0] := rfl
  have e3 : sgV ((sgOf 3).getD sg0) = .agg #[.string ⟨#[33]⟩, .int .i64 1, .bool false, .bool false, .int .i64 0] := rfl
  have e4 : sgV ((sgOf 4).getD sg0) = .agg #[.string ⟨#[38]⟩, .int .i64 2, .bool false, .bool false, .int .i64 5] := rfl
  have e5 : sgV ((sgOf 5).getD sg0) = .agg #[.string ⟨#[124]⟩, .int .i64 2, .bool false, .bool false, .int .i64 4] := rfl
  have e6 : sgV ((sgOf 6).getD sg0) = .agg #[.string ⟨#[88]⟩, .int .i64 1, .bool false, .bool true, .int .i64 6] := rfl
  have e7 : sgV ((sgOf 7).getD sg0) = .agg #[.string ⟨#[85]⟩, .int .i64 2, .bool false, .bool true, .int .i64 8] := rfl
  have e8 : sgV ((sgOf 8).getD sg0) = .agg #[.string ⟨#[82]⟩, .int .i64 2, .bool false, .bool true, .int .i64 7] := rfl
  rw [e1] at h1; rw [e2] at h2; rw [e3] at h3; rw [e4] at h4; rw [e5] at h5; rw [e6] at h6; rw [e7] at h7; rw [e8] at h8
  clear e1 e2 e3 e4 e5 e6 e7 e8 hE
  have hmk : ∀ w : World, (Instr.makeMap 108 none).run Tryd.prog w = .ok (.map (some w.heap.size)) (w.alloc (.map #[] 0)) := fun _ => rfl
  go_enter Tryd.func72, Tryd.ntmps72
  go_wp2_with (fail)
  go_ret
  exact ⟨w.heap.size, rfl, heap_alloc_new w _, Nat.le_refl _, below_new w _⟩

/-- The map of signs lies in this block. -/
def SgMap (w : World) (r : Nat) : Prop := w.heap[r]? = some (.map #[sgAt 1 0, sgAt 2 1, sgAt 3 2, sgAt 4 3, sgAt 5 4, sgAt 6 5, sgAt 7 6, sgAt 8 7] 8)

theorem SgMap.lt {w : World} {r : Nat} (h : SgMap w r) : r < w.heap.size := (Array.getElem?_eq_some_iff.1 h).1

theorem SgMap.below {w w' : World} {r : Nat} (h : SgMap w r) (hb : Below w.heap.size w w') : SgMap w' r := (hb.block r h.lt).trans h

theorem find_sign (k : Int) : (sgOf k = none ∧ Instr.findNow (.int .i64) (.int .i64 k) [sgAt 1 0, sgAt 2 1, sgAt 3 2, sgAt 4 3, sgAt 5 4, sgAt 6 5, sgAt 7 6, sgAt 8 7] 0 = some none) ∨
    ∃ s i, sgOf k = some s ∧ Instr.findNow (.int .i64) (.int .i64 k) [sgAt 1 0, sgAt 2 1, sgAt 3 2, sgAt 4 3, sgAt 5 4, sgAt 6 5, sgAt 7 6, sgAt 8 7] 0 = some (some (i, sgV s)) := by
  by_cases h1 : k = 1
  · subst h1; exact .inr ⟨_, 0, rfl, rfl⟩
  by_cases h2 : k = 2
  · subst h2; exact .inr ⟨_, 1, rfl, rfl⟩
  by_cases h3 : k = 3
  · subst h3; exact .inr ⟨_, 2, rfl, rfl⟩
  by_cases h4 : k = 4
  · subst h4; exact .inr ⟨_, 3, rfl, rfl⟩
  by_cases h5 : k = 5
  · subst h5; exact .inr ⟨_, 4, rfl, rfl⟩
  by_cases h6 : k = 6
  · subst h6; exact .inr ⟨_, 5, rfl, rfl⟩
  by_cases h7 : k = 7
  · subst h7; exact .inr ⟨_, 6, rfl, rfl⟩
  by_cases h8 : k = 8
  · subst h8; exact .inr ⟨_, 7, rfl, rfl⟩
  left
  refine ⟨by simp [sgOf, h1, h2, h3, h4, h5, h6, h7, h8], ?_⟩
  have b1 : (k == 1) = false := by simpa using h1
  have b2 : (k == 2) = false := by simpa using h2
  have b3 : (k == 3) = false := by simpa using h3
  have b4 : (k == 4) = false := by simpa using h4
  have b5 : (k == 5) = false := by simpa using h5
  have b6 : (k == 6) = false := by simpa using h6
  have b7 : (k == 7) = false := by simpa using h7
  have b8 : (k == 8) = false := by simpa using h8
  simp [Instr.findNow, Instr.sameNow, sgAt, b1, b2, b3, b4, b5, b6, b7, b8]

set_option maxRecDepth 100000 in
theorem lookup_none {w : World} {r c : Nat} {es : Array MapEntry} {k : Int} (hr : w.heap[r]? = some (.map es c)) (h : Instr.findNow (.int .i64) (.int .i64 k) es.toList 0 = some none) :
    (Instr.lookup 108 (.map (some r)) (.int .i64 k) false).run Tryd.prog w = .ok (sgV sg0) w ∧ (Instr.lookup 108 (.map (some r)) (.int .i64 k) true).run Tryd.prog w = .ok (.tuple #[sgV sg0, .bool false]) w := by
  have hkey : MapKept.IsKey (.int .i64) (.int .i64 k) := by simp [MapKept.IsKey]
  have hk := MapKept.run_checkKey (P := Tryd.prog) (w := w) Tryd.underlying3 hkey es.isEmpty 9999
  have hf := MapKept.run_findKey (P := Tryd.prog) (w := w) Tryd.underlying3 h
  have hz : sgV sg0 = .agg #[.string ⟨#[]⟩, .int .i64 0, .bool false, .bool false, .int .i64 0] := rfl
  have hzz : (zeroValue 119 : Sem Value).run Tryd.prog w = .ok (.agg #[.string ⟨#[]⟩, .int .i64 0, .bool false, .bool false, .int .i64 0]) w := rfl
  rw [hz]
  constructor
  · simp [Instr.lookup, run_underlying Tryd.underlying108, Go.MapKept.run_getObj_map hr, hk, hf, hzz]
  · simp [Instr.lookup, run_underlying Tryd.underlying108, Go.MapKept.run_getObj_map hr, hk, hf, hzz]

theorem lookup_some {w : World} {r c i : Nat} {es : Array MapEntry} {k : Int} {v : Value} (hr : w.heap[r]? = some (.map es c)) (h : Instr.findNow (.int .i64) (.int .i64 k) es.toList 0 = some (some (i, v))) :
    (Instr.lookup 108 (.map (some r)) (.int .i64 k) false).run Tryd.prog w = .ok v w ∧ (Instr.lookup 108 (.map (some r)) (.int .i64 k) true).run Tryd.prog w = .ok (.tuple #[v, .bool true]) w := by
  have hkey : MapKept.IsKey (.int .i64) (.int .i64 k) := by simp [MapKept.IsKey]
  have hk := MapKept.run_checkKey (P := Tryd.prog) (w := w) Tryd.underlying3 hkey es.isEmpty 9999
  have hf := MapKept.run_findKey (P := Tryd.prog) (w := w) Tryd.underlying3 h
  constructor
  · simp [Instr.lookup, run_underlying Tryd.underlying108, Go.MapKept.run_getObj_map hr, hk, hf]
  · simp [Instr.lookup, run_underlying Tryd.underlying108, Go.MapKept.run_getObj_map hr, hk, hf]

theorem run_lookup_sign {w : World} {r : Nat} (h : SgMap w r) (k : Int) :
    (Instr.lookup 108 (.map (some r)) (.int .i64 k) false).run Tryd.prog w = .ok (sgV ((sgOf k).getD sg0)) w ∧ (Instr.lookup 108 (.map (some r)) (.int .i64 k) true).run Tryd.prog w = .ok (.tuple #[sgV ((sgOf k).getD sg0), .bool (sgOf k).isSome]) w := by
  rcases find_sign k with ⟨h1, h2⟩ | ⟨s, i, h1, h2⟩
  · rw [h1]; exact lookup_none h h2
  · rw [h1]; exact lookup_some h h2

set_option maxHeartbeats 400000 in
theorem ahead_any (x n : Int) (a : Addr) (w : World) (ha : w.cell? a = some (.int .i64 n)) :
    Calls Tryd.prog 108 #[.int .i64 x, .pointer (some a)] w fun e w' => e = .returned (.bool (decide (0 ≤ x ∧ x < n))) ∧ w' = w := by
  by_cases h1 : 0 ≤ x
  · go_enter Tryd.func108, Tryd.ntmps108
    go_wp2
    go_ret
    exact ⟨by simp [h1], rfl⟩
  · have h2 : x < 0 := by omega
    have e : decide (0 ≤ x ∧ x < n) = false := by simp; omega
    rw [e]
    clear h1 e
    go_enter Tryd.func108, Tryd.ntmps108
    go_wp2
    go_ret
    exact ⟨rfl, rfl⟩

end Go.Proofs.YtpiacnnifdjlkaaDoor
