/-
  Plain facts: the shortest list that, again and again, makes up a loop, and the least shift of a word, are one.
-/
import Derived.Test.YtpiacnnifdjlkaaDoorBg
import Derived.Deep.RegionLaw
import Derived.Deep.CutBlock
import Derived.Deep.DeepCutAuto
/-
  What LeastOf of the reference answers.
-/
namespace Go.Proofs.YtpiacnnifdjlkaaDoor
open Go.RowKit Go.Sort

/-- What stands behind the head is the same n further on, all along. -/
def IsShift (hs ls : List Int) (n : Nat) : Prop := ∀ i, hs.length ≤ i → i < hs.length + ls.length → lat hs ls i = lat hs ls (i + n)

def LeastShift (hs ls : List Int) (n : Nat) : Prop := 1 ≤ n ∧ n ≤ ls.length ∧ IsShift hs ls n ∧ ∀ q, 1 ≤ q → IsShift hs ls q → n ≤ q

theorem isShift_all (hs ls : List Int) : IsShift hs ls ls.length := by
  intro i h1 h2
  unfold lat
  rw [if_neg (by omega), if_neg (by omega)]
  congr 1
  rw [show i + ls.length - hs.length = (i - hs.length) + ls.length by omega, Nat.add_mod_right]

theorem grown_of_below {w w' : World} (h : Below w.heap.size w w') : w.grownBy w' none := ⟨h.os, h.tape, h.output, h.size, fun k hk _ => h.block k hk⟩

theorem owns_below {w w' : World} {base : Nat} {e : TypeId} {size : Nat} {v : Value} {n : Nat} {xs : List Value} (h : w.ownsRow base e size v n xs) (hb : Below w.heap.size w w') : w'.ownsRow base e size v n xs :=
  h.kept (grown_of_below hb) (by cases hv : v.ownBlock <;> simp)

theorem owns_form {w : World} {base : Nat} {e : TypeId} {size : Nat} {v : Value} {n : Nat} {xs : List Value} (h : w.ownsRow base e size v n xs) : ∃ a cap, v = .slice a n cap := by
  rcases h.2 with ⟨rfl, rfl⟩ | ⟨g, cap, cur, rfl, _⟩
  · exact ⟨none, 0, rfl⟩
  · exact ⟨_, _, rfl⟩

/-- append at a step of a region that draws its order; the new slice written out. -/
theorem step_append_sl2 {ops : Array Oper} {o : Oper} {a : Act} {K : Act → World → Prop} {Q : Exit → Act → World → Prop} {E : Prop} {w : World} (hgd : o.guard = none) (s x : Operand)
    (ho : o.op = .call { callee := .builtin .append, args := #[s, x], argTypes := #[22, 22] })
    (base : Nat) (v : Value) (n : Nat) (xs : List Value) (hs : a.eval s = v) (hown : w.ownsRow base 3 1 v n xs) (sv : Value) (zs : List Int) (hx : a.eval x = sv) (hz : IntSl w sv zs)
    (h63 : n + zs.length ≤ 1000000) (hbase : base ≤ w.heap.size)
    (h : ∀ ad cap w', w'.ownsRow base 3 1 (.slice ad (n + zs.length) cap) (n + zs.length) (xs ++ zs.map (.int .i64)) → Below base w w' → (∀ b o, b < base → w'.cell? ⟨b, o, none⟩ = w.cell? ⟨b, o, none⟩) → (∀ b o, b < base → w'.frozen? ⟨b, o, none⟩ = w.frozen? ⟨b, o, none⟩) → base ≤ w'.heap.size → K (a.put o.dst (.slice ad (n + zs.length) cap)) w') :
    if Region.wanted o (yielded ops a.tmps) = true then Oper.wp Tryd.prog o a w K Q else E :=
  step_append_sl hgd s x ho base v n xs hs hown sv zs hx hz h63 hbase fun v' w' h2 hb hc hsz => by
    obtain ⟨ad, cap, rfl⟩ := owns_form h2
    exact h ad cap w' h2 hb hc (fun b o hlt => hb.frozen (p := ⟨b, o, none⟩) hlt) hsz

/-- A call of a Go function at a step of a region that draws its order. -/
theorem step_call {ops : Array Oper} {o : Oper} {a : Act} {K : Act → World → Prop} {Q : Exit → Act → World → Prop} {E : Prop} {w : World} (hgd : o.guard = none) (f : Nat) (args : List Operand) (tys : Array TypeId)
    (ho : o.op = .call { callee := .value (.func f), args := args.toArray, argTypes := tys }) (hf : ∀ args w, (callFunc f args).run Tryd.prog w = .ok (.enter f args) w)
    (h : Calls Tryd.prog f (args.map a.eval).toArray w fun e w' => ∃ v, e = .returned v ∧ K (a.put o.dst v) w') :
    if Region.wanted o (yielded ops a.tmps) = true then Oper.wp Tryd.prog o a w K Q else E := by
  have hw : Region.wanted o (yielded ops a.tmps) = true := by simp [Region.wanted, hgd]
  rw [if_pos hw]
  have hrun : (execOp a.eval o).run Tryd.prog w = .ok (.enter f (args.map a.eval).toArray) w := by
    unfold execOp
    simp only [ho, resolve, Deferred.ofValue, invoke, Sem.run_bind, Sem.run_pure, Result.andThen_ok, List.map_toArray, Act.eval, Array.empty_append, Array.append_empty, hf]
  unfold Oper.wp
  rw [hrun, Oper.upon_enter]
  exact h.mono fun e w' ⟨v, he, hk⟩ => by subst he; exact hk

theorem intSl_one (w : World) (g : Nat) (x : Int) (h : w.cell? ⟨g, 0, none⟩ = some (.int .i64 x)) : IntSl w (.slice (some ⟨g, 0, none⟩) 1 1) [x] :=
  ⟨_, _, rfl, by simp [maxLen], Or.inr ⟨g, 0, rfl, fun i hi => by
    have : i = 0 := by simpa using hi
    subst this
    exact h⟩, (fun h => by cases h), by simp⟩

theorem IntSl.belowB {w w' : World} {v : Value} {zs : List Int} {B : Nat} (h : IntSl w v zs) (hb : Below B w w') (hk : ∀ k, v.ownBlock = some k → k < B) : IntSl w' v zs := by
  obtain ⟨a, cap, rfl, hm, h, hn⟩ := h
  refine ⟨a, cap, rfl, hm, ?_, hn⟩
  rcases h with h | ⟨b, off, rfl, hc⟩
  · exact Or.inl h
  · exact Or.inr ⟨b, off, rfl, fun i hi => by rw [hb.cell (p := ⟨b, off + i, none⟩) (hk b rfl)]; exact hc i hi⟩

theorem pieceOf_succ (hs ls : List Int) (f m : Nat) : pieceOf hs ls f (m + 1) = pieceOf hs ls f m ++ [lat hs ls (f + m)] := by
  simp [pieceOf, List.range_succ]

set_option maxRecDepth 100000 in
set_option maxHeartbeats 1000000 in
theorem leastOf_any {w : World} {hv lv : Value} {hs ls : List Int} (hh : IntSl w hv hs) (hl : IntSl w lv ls) (hl1 : hs.length ≤ 4000) (hl2 : ls.length ≤ 4000) (hl3 : 0 < ls.length) :
    Calls Tryd.prog 27 #[.agg #[hv, lv]] w fun e w' => ∃ v1 v2 p k, e = .returned (.agg #[v1, v2]) ∧ LeastShift hs ls p ∧ LeastHead hs ls p k ∧ IntSl w' v1 (pieceOf hs ls 0 k) ∧ IntSl w' v2 (pieceOf hs ls k p) ∧ Below w.heap.size w w' := by
  have hne : ls ≠ [] := List.length_pos_iff.1 hl3
  have HL : Hid (∀ w1, Below w.heap.size w w1 → ∀ i : Int, 0 ≤ i → i ≤ 9223372036854775807 → Calls Tryd.prog 28 #[.agg #[hv, lv], .int .i64 i] w1 fun e w' => e = .returned (.int .i64 (lat hs ls i.toNat)) ∧ Below w1.heap.size w1 w') :=
    fun w1 hb i h0 hi => letterAtR_any (hh.below hb) (hl.below hb) i h0 hi hne
  obtain ⟨a0, c0, rfl, hm0, -, -⟩ := hh
  obtain ⟨a1, c1, rfl, hm1, -, -⟩ := hl
  clear hne hm0 hm1
  go_enter Tryd.func27, Tryd.ntmps27
  go_wp2_with (fail)
  generalize hW0 : (w.alloc (Obj.cells #[Value.slice a0 hs.length c0, Value.slice a1 ls.length c1] 44)).alloc (Obj.cells #[Value.slice none 0 0, Value.slice none 0 0] 44) = W0
  have hbW : Below w.heap.size w W0 := by rw [← hW0]; exact (by repeat (first | exact Below.refl _ _ | assumption | refine below_drewN ?_ _ | refine Below.drew ?_ | refine Below.alloc ?_ (by simp <;> omega) _ | refine below_trans ?_ (by assumption)))
  have hsz : W0.heap.size = w.heap.size + 2 := by rw [← hW0]; simp
  have hB : ∀ {w' : World}, Below W0.heap.size W0 w' → w'.cell? ⟨w.heap.size, 0, none⟩ = some (.slice a0 hs.length c0) ∧ w'.cell? ⟨w.heap.size, 1, none⟩ = some (.slice a1 ls.length c1) ∧ w'.cell? ⟨w.heap.size + 1, 0, none⟩ = some (.slice none 0 0) ∧ w'.cell? ⟨w.heap.size + 1, 1, none⟩ = some (.slice none 0 0) ∧ w'.frozen? ⟨w.heap.size + 1, 0, none⟩ = false ∧ w'.frozen? ⟨w.heap.size + 1, 1, none⟩ = false := by
    intro w' hb
    refine ⟨?_, ?_, ?_, ?_, ?_, ?_⟩
    · rw [hb.cell (by rw [hsz]; simp), ← hW0]; simp
    · rw [hb.cell (by rw [hsz]; simp), ← hW0]; simp
    · rw [hb.cell (by rw [hsz]; simp), ← hW0]; simp
    · rw [hb.cell (by rw [hsz]; simp), ← hW0]; simp
    · rw [hb.frozen (by rw [hsz]; simp), ← hW0]; simp
    · rw [hb.frozen (by rw [hsz]; simp), ← hW0]; simp
  clear hW0
  have HB : Hid (∀ {w' : World}, Below W0.heap.size W0 w' → _) := hB
  clear hB
  have Hsz : Hid (W0.heap.size = w.heap.size + 2) := hsz
  clear hsz
  go_loopw [4] (fun i wr => ∃ n : Nat, 1 ≤ n ∧ n ≤ ls.length ∧ i = .int .i64 n ∧ (∀ q, 1 ≤ q → q < n → ¬ IsShift hs ls q) ∧ Below W0.heap.size W0 wr) (fun i _ => ls.length - (intOf i).toNat)
  case atStart => exact ⟨1, Nat.le_refl _, hl3, rfl, fun q h1 h2 => by omega, Below.refl _ _⟩
  case round =>
    obtain ⟨n, hn1, hn2, rfl, htk, hbr⟩ := hrel
    have Htk := hide htk
    clear htk
    obtain ⟨x0, x1, -, -, -, -⟩ := HB.out hbr
    go_wp2_with (fail)
    go_loopw [5, 6] (fun s i wr => ∃ (m : Nat) (b : Bool), hs.length ≤ m ∧ m ≤ hs.length + ls.length ∧ s = .bool b ∧ i = .int .i64 m ∧ (b = true → ∀ j, hs.length ≤ j → j < m → lat hs ls j = lat hs ls (j + n)) ∧ (b = false → ¬ IsShift hs ls n) ∧ Below W0.heap.size W0 wr) (fun _ i _ => hs.length + ls.length - (intOf i).toNat)
    case atStart => exact ⟨hs.length, true, Nat.le_refl _, by omega, rfl, rfl, (fun _ j h1 h2 => by omega), (fun h => by cases h), hbr⟩
    case round =>
      obtain ⟨m, b, hm1, hm2, rfl, rfl, hb1, hb2, hbr2⟩ := hrel
      have Hb1 := hide hb1
      have Hb2 := hide hb2
      clear hb1 hb2 x0 x1 hbr
      obtain ⟨x0, x1, -, -, -, -⟩ := HB.out hbr2
      cases b with
      | false =>
        have Hns : Hid (¬ IsShift hs ls n) := Hb2.out rfl
        have Hnn : Hid (n < ls.length) := by
          show n < ls.length
          rcases Nat.lt_or_ge n ls.length with h | h
          · exact h
          · have : n = ls.length := by omega
            exact absurd (this ▸ isShift_all hs ls) (this ▸ Hns.out)
        have hnn := Hnn.out
        by_cases hmm : m < hs.length + ls.length
        all_goals
          go_wp2
          go_roundw
          case rel => exact ⟨n + 1, by omega, by omega, by go_num, fun q h1 h2 => by
            by_cases e : q = n
            · subst e; exact Hns.out
            · exact Htk.out q h1 (by omega), hbr2⟩
          case measure => simp [intOf]; omega
      | true =>
        by_cases hmm : m < hs.length + ls.length
        · have k0 := cell_regrown x0
          have k1 := cell_regrown x1
          have cL : ∀ d os (i : Int), 0 ≤ i → i ≤ 9223372036854775807 → Calls Tryd.prog 28 #[.agg #[.slice a0 hs.length c0, .slice a1 ls.length c1], .int .i64 i] (grow (redrawn _ d) os) fun e w'' => e = .returned (.int .i64 (lat hs ls i.toNat)) ∧ ∃ p : Regrown, w'' = grow (redrawn _ p.d) p.os :=
            fun d os i h0 hi => Calls.regrown_of (HL.out _ (below_trans (below_trans hbW hbr2) (below_regrown _ d os)) i h0 hi)
          have CL := hide cL
          clear cL
          go_wp2_with (fail)
          refine wp_region_quiet_below (by kernel_rfl) (by kernel_rfl) ?_
          repeat (go_big_quiet_step (exact CL.out _ _ _ (by omega) (by omega)))
          refine wpQuiet_nil ?_
          intro _ hw'
          obtain ⟨⟨dq, osq⟩, hw''⟩ := hw'
          subst hw''
          have hbq := below_trans hbr2 (below_regrown _ dq osq)
          clear k0 k1 x0 x1 CL
          dsimp only at hbq ⊢
          generalize hwq : grow (redrawn _ dq) osq = wq at hbq ⊢
          clear hwq
          generalize hr : (lat hs ls m == lat hs ls (m + n)) = r
          have Hr := hide hr
          clear hr
          go_wp2
          go_roundw
          case rel =>
            refine ⟨m + 1, r, by omega, by omega, rfl, by go_num, ?_, ?_, hbq⟩
            · intro hrt j h1 h2
              subst hrt
              by_cases e : j = m
              · subst e; exact beq_iff_eq.1 Hr.out
              · exact Hb1.out (by first | rfl | trivial) j h1 (by omega)
            · intro hrf hsh
              subst hrf
              exact beq_eq_false_iff_ne.1 Hr.out (hsh m hm1 hmm)
          case measure => simp [intOf]; omega
        · have Hsh : Hid (LeastShift hs ls n) := ⟨hn1, hn2, fun i h1 h2 => Hb1.out (by first | rfl | trivial) i h1 (by omega), fun q h1 h2 => by
            rcases Nat.lt_or_ge q n with h | h
            · exact absurd h2 (Htk.out q h1 h)
            · exact h⟩
          clear Hb1 Hb2 Htk
          go_upto_block 4 with (fail)
          go_cut [7] (fun s7 wc => ∃ k : Nat, s7 = .int .i64 k ∧ LeastHead hs ls n k ∧ Below W0.heap.size W0 wc)
          case first =>
            go_wp2_with (fail)
            go_loopw [7] (fun i wr => ∃ k : Nat, k ≤ hs.length ∧ i = .int .i64 k ∧ (∀ j, k ≤ j → j < hs.length → lat hs ls j = lat hs ls (j + n)) ∧ Below W0.heap.size W0 wr) (fun i _ => (intOf i).toNat)
            case atStart => exact ⟨hs.length, Nat.le_refl _, rfl, (fun j h1 h2 => by omega), hbr2⟩
            case round =>
              obtain ⟨k, hk, rfl, htk, hbr⟩ := hrel
              have Htk := hide htk
              clear htk hbr2 x0 x1
              obtain ⟨x0, x1, x2, x3, x4, x5⟩ := HB.out hbr
              by_cases hpos : 0 < k
              · have k0 := cell_regrown x0
                have k1 := cell_regrown x1
                have cL : ∀ d os (i : Int), 0 ≤ i → i ≤ 9223372036854775807 → Calls Tryd.prog 28 #[.agg #[.slice a0 hs.length c0, .slice a1 ls.length c1], .int .i64 i] (grow (redrawn _ d) os) fun e w'' => e = .returned (.int .i64 (lat hs ls i.toNat)) ∧ ∃ p : Regrown, w'' = grow (redrawn _ p.d) p.os :=
                  fun d os i h0 hi => Calls.regrown_of (HL.out _ (below_trans (below_trans hbW hbr) (below_regrown _ d os)) i h0 hi)
                have CL := hide cL
                clear cL
                go_wp2_with (fail)
                refine wp_region_quiet_below (by kernel_rfl) (by kernel_rfl) ?_
                repeat (go_big_quiet_step (exact CL.out _ _ _ (by omega) (by omega)))
                refine wpQuiet_nil ?_
                intro _ hw'
                obtain ⟨⟨dq, osq⟩, hw''⟩ := hw'
                subst hw''
                have hbq := below_trans hbr (below_regrown _ dq osq)
                clear k0 k1 x0 x1 x2 x3 x4 x5 CL
                dsimp only at hbq ⊢
                generalize hwq : grow (redrawn _ dq) osq = wq at hbq ⊢
                clear hwq
                generalize hr : (lat hs ls (k - 1) == lat hs ls (k - 1 + n)) = r
                have Hr := hide hr
                clear hr
                cases r with
                | true =>
                  go_wp2
                  go_roundw
                  case rel => exact ⟨k - 1, by omega, by go_num, fun j h1 h2 => by
                    by_cases e : j = k - 1
                    · subst e; exact beq_iff_eq.1 Hr.out
                    · exact Htk.out j (by omega) h2, hbq⟩
                  case measure => simp [intOf]; omega
                | false =>
                  have Hd : Hid (LeastHead hs ls n k) := ⟨hk, Htk.out, Or.inr (beq_eq_false_iff_ne.1 Hr.out)⟩
                  go_wp2_with (fail)
                  go_meet
                  exact ⟨k, rfl, Hd.out, hbq⟩
              · have hd0 : decide (0 < k) = false := by simp; omega
                have Hd : Hid (LeastHead hs ls n k) := ⟨hk, Htk.out, Or.inl (by omega)⟩
                clear Htk hpos
                go_wp2_with (fail)
                refine wp_region_quiet_below (by kernel_rfl) (by kernel_rfl) ?_
                repeat (go_big_quiet_step (fail))
                refine wpQuiet_nil ?_
                intro _ hw'
                obtain ⟨⟨dq, osq⟩, hw''⟩ := hw'
                subst hw''
                have hbq := below_trans hbr (below_regrown _ dq osq)
                clear x0 x1 x2 x3 x4 x5
                dsimp only at hbq ⊢
                generalize hwq : grow (redrawn _ dq) osq = wq at hbq ⊢
                clear hwq hd0
                go_wp2_with (fail)
                go_meet
                exact ⟨k, rfl, Hd.out, hbq⟩
          case rest =>
            obtain ⟨k, rfl, hd, hbc⟩ := hcut
            have Hd := hide hd
            have hk : k ≤ hs.length := hd.1
            clear hd x0 x1 hbr2
            go_wp2_with (fail)
            go_loopw [9] (fun i wr => ∃ (m : Nat) (ad : Option Addr) (cap : Nat), m ≤ k ∧ i = .int .i64 m ∧ wr.cell? ⟨wc.heap.size, 0, none⟩ = some (.slice ad m cap) ∧ wr.cell? ⟨wc.heap.size, 1, none⟩ = some (.slice none 0 0) ∧ wr.frozen? ⟨wc.heap.size, 0, none⟩ = false ∧ wr.frozen? ⟨wc.heap.size, 1, none⟩ = false ∧ wr.ownsRow (wc.heap.size + 1) 3 1 (.slice ad m cap) m ((pieceOf hs ls 0 m).map (.int .i64)) ∧ Below wc.heap.size wc wr ∧ wc.heap.size + 1 ≤ wr.heap.size) (fun i _ => k - (intOf i).toNat)
            case atStart => exact ⟨0, none, 0, Nat.zero_le _, rfl, by simp, by simp, by simp, by simp, World.ownsRow_nil _ _ _ _, (by repeat (first | exact Below.refl _ _ | assumption | refine below_drewN ?_ _ | refine Below.drew ?_ | refine Below.alloc ?_ (by simp <;> omega) _ | refine below_trans ?_ (by assumption))), by simp⟩
            case round =>
              obtain ⟨m, ad, cap, hmk, rfl, y0, y1, f0, f1, hown, hbG, hszG⟩ := hrel
              have Hown := hide hown
              clear hown
              have hbR := below_trans (below_trans hbW hbc) hbG
              obtain ⟨x0, x1, -, -, -, -⟩ := HB.out (below_trans hbc hbG)
              by_cases hlt : m < k
              · have HL2 : Hid (∀ w1, Below w.heap.size w w1 → wc.heap.size + 1 ≤ w1.heap.size → ∀ i : Int, 0 ≤ i → i ≤ 9223372036854775807 → Calls Tryd.prog 28 #[.agg #[.slice a0 hs.length c0, .slice a1 ls.length c1], .int .i64 i] w1 fun e w' => e = .returned (.int .i64 (lat hs ls i.toNat)) ∧ Below w1.heap.size w1 w' ∧ (∀ b o, b < wc.heap.size + 1 → w'.cell? ⟨b, o, none⟩ = w1.cell? ⟨b, o, none⟩) ∧ (∀ b o, b < wc.heap.size + 1 → w'.frozen? ⟨b, o, none⟩ = w1.frozen? ⟨b, o, none⟩)) := fun w1 hb hsz i h0 hi =>
                  (HL.out w1 hb i h0 hi).mono fun e w' ⟨he, hb'⟩ => ⟨he, hb', fun b o h => hb'.cell (p := ⟨b, o, none⟩) (by simp; omega), fun b o h => hb'.frozen (p := ⟨b, o, none⟩) (by simp; omega)⟩
                go_wp2_with (fail)
                go_region_law (first | (refine step_call rfl 28 [.tmp 70, .tmp 71] _ rfl Tryd.call28 ?_; refine (HL2.out _ ?_ ?_ _ ?_ ?_).mono ?_; exact Below.drew hbR; exact hszG; omega; omega; rintro e w3 ⟨rfl, hb3, hc3, hf3⟩; refine ⟨_, rfl, ?_⟩; have hb3' := below_trans (Below.drew (Below.refl _ _)) hb3; have hgs : wc.heap.size < w3.heap.size := Nat.lt_of_lt_of_le hszG hb3'.size; have y3 : ∀ o, (w3.alloc o).cell? ⟨wc.heap.size, 0, none⟩ = some (.slice ad m cap) := fun o => (World.cell?_alloc_past _ _ _ hgs).trans ((hc3 _ _ (Nat.lt_succ_self _)).trans y0)) | (refine step_append_sl2 rfl (.tmp 69) (.tmp 73) rfl (wc.heap.size + 1) _ m ((pieceOf hs ls 0 m).map (.int .i64)) rfl ?_ _ [lat hs ls m] rfl ?_ ?_ ?_ ?_; exact (owns_below Hown.out hb3').alloc _; refine intSl_one _ _ _ ?_; simp; show m + 1 ≤ 1000000; omega; have := hb3'.size; simp; omega; intro ad5 cap5 w5 hown5 hb5 hc5 hf5 hsz5; have z0 : w5.cell? ⟨wc.heap.size, 0, none⟩ = some (.slice ad m cap) := (hc5 _ _ (Nat.lt_succ_self _)).trans ((World.cell?_alloc_past _ _ _ hgs).trans ((hc3 _ _ (Nat.lt_succ_self _)).trans y0)); have z1 : w5.cell? ⟨wc.heap.size, 1, none⟩ = some (.slice none 0 0) := (hc5 _ _ (Nat.lt_succ_self _)).trans ((World.cell?_alloc_past _ _ _ hgs).trans ((hc3 _ _ (Nat.lt_succ_self _)).trans y1)); have g0 : w5.frozen? ⟨wc.heap.size, 0, none⟩ = false := (hf5 _ _ (Nat.lt_succ_self _)).trans ((World.frozen?_alloc_past _ _ _ hgs).trans ((hf3 _ _ (Nat.lt_succ_self _)).trans f0)); have g1 : w5.frozen? ⟨wc.heap.size, 1, none⟩ = false := (hf5 _ _ (Nat.lt_succ_self _)).trans ((World.frozen?_alloc_past _ _ _ hgs).trans ((hf3 _ _ (Nat.lt_succ_self _)).trans f1))))
                all_goals
                  have hw5 : Below wc.heap.size wc w5 := ((hbG.trans (hb3'.mono (by omega))).alloc (by omega) _).trans (hb5.mono (by omega))
                  have ho5 : (w5.setCell ⟨wc.heap.size, 0, none⟩ (.slice ad5 (m + 1) cap5)).ownsRow (wc.heap.size + 1) 3 1 (.slice ad5 (m + 1) cap5) (m + 1) ((pieceOf hs ls 0 (m + 1)).map (.int .i64)) := by
                    rw [pieceOf_succ, List.map_append, Nat.zero_add]
                    exact ownsRow_setCell_below hown5 (by simp) _
                  have Ho5 := hide ho5
                  clear ho5 hown5 hc3 hf3 hc5 hf5 y3 hb3 hb5 hb3' HL2 x0 x1 y0 y1 f0 f1
                  go_wp2
                  go_roundw
                  case rel =>
                    have hrel : ∃ (m' : Nat) (ad' : Option Addr) (cap' : Nat), m' ≤ k ∧ (Value.int .i64 ((m : Int) + 1)) = .int .i64 m' ∧ (w5.setCell ⟨wc.heap.size, 0, none⟩ (.slice ad5 (m + 1) cap5)).cell? ⟨wc.heap.size, 0, none⟩ = some (.slice ad' m' cap') ∧ (w5.setCell ⟨wc.heap.size, 0, none⟩ (.slice ad5 (m + 1) cap5)).cell? ⟨wc.heap.size, 1, none⟩ = some (.slice none 0 0) ∧ (w5.setCell ⟨wc.heap.size, 0, none⟩ (.slice ad5 (m + 1) cap5)).frozen? ⟨wc.heap.size, 0, none⟩ = false ∧ (w5.setCell ⟨wc.heap.size, 0, none⟩ (.slice ad5 (m + 1) cap5)).frozen? ⟨wc.heap.size, 1, none⟩ = false ∧ (w5.setCell ⟨wc.heap.size, 0, none⟩ (.slice ad5 (m + 1) cap5)).ownsRow (wc.heap.size + 1) 3 1 (.slice ad' m' cap') m' ((pieceOf hs ls 0 m').map (.int .i64)) ∧ Below wc.heap.size wc (w5.setCell ⟨wc.heap.size, 0, none⟩ (.slice ad5 (m + 1) cap5)) ∧ wc.heap.size + 1 ≤ (w5.setCell ⟨wc.heap.size, 0, none⟩ (.slice ad5 (m + 1) cap5)).heap.size :=
                      ⟨m + 1, ad5, cap5, by omega, by go_num, World.cell?_setCell_same _ _ _ z0, (World.cell?_setCell_other _ _ _ _ (by simp)).trans z1, (World.frozen?_setCell _ _ _ _).trans g0, (World.frozen?_setCell _ _ _ _).trans g1, Ho5.out, hw5.setCell (by simp) _, by simp [World.setCell]; omega⟩
                    first
                      | exact hrel
                      | ((repeat apply Exists.intro); exact ⟨hrel, rfl⟩)
                  case measure => simp [intOf]; omega
              · have hmk' : m = k := by omega
                subst hmk'
                have hz0 : IntSl _ (.slice ad m cap) (pieceOf hs ls 0 m) := intSl_of_owns Hown.out
                have hbk : ∀ q, (Value.slice ad m cap).ownBlock = some q → wc.heap.size + 1 ≤ q ∧ q < _ := Hown.out.lt
                obtain ⟨B1, hB1⟩ : ∃ B : Nat, wr.heap.size = B := ⟨_, rfl⟩
                rw [hB1] at hbk hszG
                have Hz0 := hide hz0
                have Hbk := hide hbk
                clear hz0 hbk Hown x0 x1
                go_wp2_with (fail)
                go_loopw [10] (fun i wr => ∃ (j : Nat) (ad1 : Option Addr) (cap1 : Nat), j ≤ n ∧ i = .int .i64 ((m + j : Nat) : Int) ∧ wr.cell? ⟨wc.heap.size, 0, none⟩ = some (.slice ad m cap) ∧ wr.cell? ⟨wc.heap.size, 1, none⟩ = some (.slice ad1 j cap1) ∧ wr.frozen? ⟨wc.heap.size, 0, none⟩ = false ∧ wr.frozen? ⟨wc.heap.size, 1, none⟩ = false ∧ wr.ownsRow B1 3 1 (.slice ad1 j cap1) j ((pieceOf hs ls m j).map (.int .i64)) ∧ IntSl wr (.slice ad m cap) (pieceOf hs ls 0 m) ∧ Below wc.heap.size wc wr ∧ B1 ≤ wr.heap.size) (fun i _ => m + n - (intOf i).toNat)
                case atStart => exact ⟨0, none, 0, Nat.zero_le _, rfl, y0, y1, f0, f1, World.ownsRow_nil _ _ _ _, Hz0.out, hbG, by rw [hB1]; exact Nat.le_refl _⟩
                case round =>
                  clear y0 y1 f0 f1 hbG Hz0 hB1 hbR
                  obtain ⟨j, ad1, cap1, hjn, rfl, y0, y1, f0, f1, hown, hz0, hbG, hszB⟩ := hrel
                  have Hown := hide hown
                  have Hz0 := hide hz0
                  clear hown hz0
                  have hbR := below_trans (below_trans hbW hbc) hbG
                  by_cases hlt : j < n
                  · obtain ⟨x0, x1, -, -, -, -⟩ := HB.out (below_trans hbc hbG)
                    have HL2 : Hid (∀ w1, Below w.heap.size w w1 → wc.heap.size + 1 ≤ w1.heap.size → ∀ i : Int, 0 ≤ i → i ≤ 9223372036854775807 → Calls Tryd.prog 28 #[.agg #[.slice a0 hs.length c0, .slice a1 ls.length c1], .int .i64 i] w1 fun e w' => e = .returned (.int .i64 (lat hs ls i.toNat)) ∧ Below w1.heap.size w1 w' ∧ (∀ b o, b < wc.heap.size + 1 → w'.cell? ⟨b, o, none⟩ = w1.cell? ⟨b, o, none⟩) ∧ (∀ b o, b < wc.heap.size + 1 → w'.frozen? ⟨b, o, none⟩ = w1.frozen? ⟨b, o, none⟩)) := fun w1 hb hsz i h0 hi =>
                      (HL.out w1 hb i h0 hi).mono fun e w' ⟨he, hb'⟩ => ⟨he, hb', fun b o h => hb'.cell (p := ⟨b, o, none⟩) (by simp; omega), fun b o h => hb'.frozen (p := ⟨b, o, none⟩) (by simp; omega)⟩
                    go_wp2_with (fail)
                    go_region_law (first | (refine step_call rfl 28 [.tmp 86, .tmp 87] _ rfl Tryd.call28 ?_; refine (HL2.out _ ?_ ?_ _ ?_ ?_).mono ?_; exact Below.drew hbR; exact Nat.le_trans hszG hszB; omega; omega; rintro e w3 ⟨rfl, hb3, hc3, hf3⟩; refine ⟨_, rfl, ?_⟩; have hb3' := below_trans (Below.drew (Below.refl _ _)) hb3; have hgs : wc.heap.size < w3.heap.size := Nat.lt_of_lt_of_le (Nat.le_trans hszG hszB) hb3'.size; have y3 : ∀ o, (w3.alloc o).cell? ⟨wc.heap.size, 1, none⟩ = some (.slice ad1 j cap1) := fun o => (World.cell?_alloc_past _ _ _ hgs).trans ((hc3 _ _ (Nat.lt_succ_self _)).trans y1)) | (refine step_append_sl2 rfl (.tmp 85) (.tmp 89) rfl B1 _ j ((pieceOf hs ls m j).map (.int .i64)) rfl ?_ _ [lat hs ls ((m : Int) + (j : Int)).toNat] rfl ?_ ?_ ?_ ?_; exact (owns_below Hown.out hb3').alloc _; refine intSl_one _ _ _ ?_; simp; show j + 1 ≤ 1000000; omega; have := hb3'.size; simp; omega; intro ad5 cap5 w5 hown5 hb5 hc5 hf5 hsz5; have hgB : wc.heap.size < B1 := hszG; have z0 : w5.cell? ⟨wc.heap.size, 0, none⟩ = some (.slice ad m cap) := (hc5 _ _ hgB).trans ((World.cell?_alloc_past _ _ _ hgs).trans ((hc3 _ _ (Nat.lt_succ_self _)).trans y0)); have z1 : w5.cell? ⟨wc.heap.size, 1, none⟩ = some (.slice ad1 j cap1) := (hc5 _ _ hgB).trans ((World.cell?_alloc_past _ _ _ hgs).trans ((hc3 _ _ (Nat.lt_succ_self _)).trans y1)); have g0 : w5.frozen? ⟨wc.heap.size, 0, none⟩ = false := (hf5 _ _ hgB).trans ((World.frozen?_alloc_past _ _ _ hgs).trans ((hf3 _ _ (Nat.lt_succ_self _)).trans f0)); have g1 : w5.frozen? ⟨wc.heap.size, 1, none⟩ = false := (hf5 _ _ hgB).trans ((World.frozen?_alloc_past _ _ _ hgs).trans ((hf3 _ _ (Nat.lt_succ_self _)).trans f1))))
                    all_goals
                      have hw5 : Below wc.heap.size wc w5 := ((hbG.trans (hb3'.mono (by omega))).alloc (by omega) _).trans (hb5.mono (by omega))
                      have ho5 : (w5.setCell ⟨wc.heap.size, 1, none⟩ (.slice ad5 (j + 1) cap5)).ownsRow B1 3 1 (.slice ad5 (j + 1) cap5) (j + 1) ((pieceOf hs ls m (j + 1)).map (.int .i64)) := by
                        rw [pieceOf_succ, List.map_append]
                        rw [show ((m : Int) + (j : Int)).toNat = m + j by omega] at hown5
                        exact ownsRow_setCell_below hown5 (by simp; omega) _
                      have hz5 : IntSl (w5.setCell ⟨wc.heap.size, 1, none⟩ (.slice ad5 (j + 1) cap5)) (.slice ad m cap) (pieceOf hs ls 0 m) :=
                        (((Hz0.out.below hb3').below (below_new _ _)).belowB hb5 (fun q hq => (Hbk.out q hq).2)).setCell (fun q hq => by have := (Hbk.out q hq).1; simp; omega) _
                      have Ho5 := hide ho5
                      have Hz5 := hide hz5
                      clear ho5 hz5 hown5 hc3 hf3 hc5 hf5 y3 hb3 hb5 hb3' HL2 x0 x1 y0 y1 f0 f1
                      go_wp2
                      go_roundw
                      case rel =>
                        have hrel : ∃ (j' : Nat) (ad' : Option Addr) (cap' : Nat), j' ≤ n ∧ (Value.int .i64 ((m : Int) + (j : Int) + 1)) = .int .i64 ((m + j' : Nat) : Int) ∧ (w5.setCell ⟨wc.heap.size, 1, none⟩ (.slice ad5 (j + 1) cap5)).cell? ⟨wc.heap.size, 0, none⟩ = some (.slice ad m cap) ∧ (w5.setCell ⟨wc.heap.size, 1, none⟩ (.slice ad5 (j + 1) cap5)).cell? ⟨wc.heap.size, 1, none⟩ = some (.slice ad' j' cap') ∧ (w5.setCell ⟨wc.heap.size, 1, none⟩ (.slice ad5 (j + 1) cap5)).frozen? ⟨wc.heap.size, 0, none⟩ = false ∧ (w5.setCell ⟨wc.heap.size, 1, none⟩ (.slice ad5 (j + 1) cap5)).frozen? ⟨wc.heap.size, 1, none⟩ = false ∧ (w5.setCell ⟨wc.heap.size, 1, none⟩ (.slice ad5 (j + 1) cap5)).ownsRow B1 3 1 (.slice ad' j' cap') j' ((pieceOf hs ls m j').map (.int .i64)) ∧ IntSl (w5.setCell ⟨wc.heap.size, 1, none⟩ (.slice ad5 (j + 1) cap5)) (.slice ad m cap) (pieceOf hs ls 0 m) ∧ Below wc.heap.size wc (w5.setCell ⟨wc.heap.size, 1, none⟩ (.slice ad5 (j + 1) cap5)) ∧ B1 ≤ (w5.setCell ⟨wc.heap.size, 1, none⟩ (.slice ad5 (j + 1) cap5)).heap.size :=
                          ⟨j + 1, ad5, cap5, by omega, by go_num, (World.cell?_setCell_other _ _ _ _ (by simp)).trans z0, World.cell?_setCell_same _ _ _ z1, (World.frozen?_setCell _ _ _ _).trans g0, (World.frozen?_setCell _ _ _ _).trans g1, Ho5.out, Hz5.out, hw5.setCell (by simp) _, by simp [World.setCell]; omega⟩
                        first
                          | exact hrel
                          | ((repeat apply Exists.intro); exact ⟨hrel, rfl⟩)
                      case measure => simp [intOf]; omega
                  · obtain ⟨x0, x1, x2, x3, x4, x5⟩ := HB.out (below_trans hbc hbG)
                    have hjn' : j = n := by omega
                    subst hjn'
                    have hz1 : IntSl _ (.slice ad1 j cap1) (pieceOf hs ls m j) := intSl_of_owns Hown.out
                    have hbk1 : ∀ q, (Value.slice ad1 j cap1).ownBlock = some q → B1 ≤ q ∧ q < _ := Hown.out.lt
                    have hwc := hbc.size
                    have hsz := Hsz.out
                    have Hv3 := hide ((Hz0.out.setCell (a := ⟨w.heap.size + 1, 0, none⟩) (fun q hq => by have := (Hbk.out q hq).1; simp; omega) (.slice ad m cap)).setCell (a := ⟨w.heap.size + 1, 1, none⟩) (fun q hq => by have := (Hbk.out q hq).1; simp; omega) (.slice ad1 j cap1))
                    have Hv4 := hide ((hz1.setCell (a := ⟨w.heap.size + 1, 0, none⟩) (fun q hq => by have := (hbk1 q hq).1; simp; omega) (.slice ad m cap)).setCell (a := ⟨w.heap.size + 1, 1, none⟩) (fun q hq => by have := (hbk1 q hq).1; simp; omega) (.slice ad1 j cap1))
                    have Hbf := hide ((hbR.setCell (p := ⟨w.heap.size + 1, 0, none⟩) (by simp) (.slice ad m cap)).setCell (p := ⟨w.heap.size + 1, 1, none⟩) (by simp) (.slice ad1 j cap1))
                    clear hz1 hbk1 hsz hwc Hown Hz0 Hbk hbR
                    go_wp2
                    exact bodyPost_ret (v := .agg #[.slice ad m cap, .slice ad1 j cap1]) (by simp [results, Tryd.results27, go_sem, x2, x3]) rfl ⟨_, _, j, m, rfl, Hsh.out, Hd.out, Hv3.out, Hv4.out, Hbf.out⟩
end Go.Proofs.YtpiacnnifdjlkaaDoor

namespace Go.Proofs.YtpiacnnifdjlkaaDoor
open Go.RowKit

def cyc (ls : List Int) (j : Nat) : Int := ls.getD (j % ls.length) 0

theorem lat_cyc (hs ls : List Int) (j : Nat) : lat hs ls (hs.length + j) = cyc ls j := by
  unfold lat cyc
  rw [if_neg (by omega), Nat.add_sub_cancel_left]

theorem cyc_mod (ls : List Int) (j : Nat) : cyc ls (j % ls.length) = cyc ls j := by
  unfold cyc
  rw [Nat.mod_mod]

theorem cyc_len (ls : List Int) (j : Nat) : cyc ls (j + ls.length) = cyc ls j := by
  unfold cyc
  rw [Nat.add_mod_right]

/-- The word behind its head is the same n further on. -/
def Period (ls : List Int) (n : Nat) : Prop := ∀ j, cyc ls j = cyc ls (j + n)

theorem period_of_shift {hs ls : List Int} {n : Nat} (h0 : 0 < ls.length) (h : IsShift hs ls n) : Period ls n := by
  intro j
  have h1 := h (hs.length + j % ls.length) (by omega) (by have := Nat.mod_lt j h0; omega)
  rw [lat_cyc, Nat.add_assoc, lat_cyc, cyc_mod] at h1
  rw [h1]
  unfold cyc
  rw [Nat.mod_add_mod]

theorem shift_of_period {hs ls : List Int} {n : Nat} (h : Period ls n) : IsShift hs ls n := by
  intro i h1 _
  obtain ⟨j, rfl⟩ : ∃ j, i = hs.length + j := ⟨i - hs.length, by omega⟩
  rw [lat_cyc, Nat.add_assoc, lat_cyc]
  exact h j

theorem period_mul {ls : List Int} {n : Nat} (h : Period ls n) (q j : Nat) : cyc ls j = cyc ls (j + n * q) := by
  induction q with
  | zero => rfl
  | succ q ih => rw [ih, h (j + n * q), Nat.mul_succ, Nat.add_assoc]

theorem per_step {ls : List Int} {p : Nat} (h : IsPer ls p) (j : Nat) (hj : j + p < ls.length) : ls.getD (j + p) 0 = ls.getD j 0 := by
  have h4 := h.2.2.2
  have h1 : (ls.drop p).getD j 0 = (ls.take (ls.length - p)).getD j 0 := by rw [h4]
  simp only [List.getD, List.getElem?_drop, List.getElem?_take] at h1
  rw [if_pos (by omega), Nat.add_comm p j] at h1
  exact h1

theorem per_mul {ls : List Int} {p : Nat} (h : IsPer ls p) (r q : Nat) (hj : r + p * q < ls.length) : ls.getD (r + p * q) 0 = ls.getD r 0 := by
  induction q with
  | zero => rfl
  | succ q ih =>
    rw [Nat.mul_succ, ← Nat.add_assoc] at hj ⊢
    rw [per_step h _ hj, ih (by omega)]

theorem period_of_per {ls : List Int} {p : Nat} (h : IsPer ls p) : Period ls p := by
  have h0 : 0 < ls.length := by have := h.1; have := h.2.1; omega
  have key : ∀ i, i < ls.length → cyc ls i = ls.getD (i % p) 0 := by
    intro i hi
    have e : i % p + p * (i / p) = i := Nat.mod_add_div i p
    unfold cyc
    rw [Nat.mod_eq_of_lt hi]
    have := per_mul h (i % p) (i / p) (by rw [e]; exact hi)
    rw [e] at this
    exact this
  have dv : p ∣ ls.length := Nat.dvd_of_mod_eq_zero h.2.2.1
  have all : ∀ j, cyc ls j = ls.getD (j % p) 0 := by
    intro j
    rw [← cyc_mod, key _ (Nat.mod_lt _ h0), Nat.mod_mod_of_dvd _ dv]
  intro j
  rw [all j, all (j + p), Nat.add_mod_right]

theorem per_of_period {ls : List Int} {n : Nat} (h1 : 1 ≤ n) (h2 : n ≤ ls.length) (hd : ls.length % n = 0) (h : Period ls n) : IsPer ls n := by
  refine ⟨h1, h2, hd, ?_⟩
  apply List.ext_getElem
  · simp
  · intro i hi1 hi2
    have hi : i < ls.length - n := by simpa using hi1
    have e := h i
    unfold cyc at e
    rw [Nat.mod_eq_of_lt (by omega), Nat.mod_eq_of_lt (show i + n < ls.length by omega)] at e
    simp [List.getD, show i < ls.length by omega, show i + n < ls.length by omega] at e
    simp [e, Nat.add_comm]

theorem least_same {hs ls : List Int} {n p : Nat} (hn : LeastShift hs ls n) (hp : LeastPer ls p) : n = p := by
  obtain ⟨h1, h2, h3, h4⟩ := hn
  have h0 : 0 < ls.length := by omega
  have hpn := period_of_shift h0 h3
  have hmod : ls.length % n = 0 := by
    rcases Nat.eq_zero_or_pos (ls.length % n) with h | h
    · exact h
    · have hr : Period ls (ls.length % n) := by
        intro j
        have e : ls.length % n + n * (ls.length / n) = ls.length := Nat.mod_add_div _ _
        have := period_mul hpn (ls.length / n) (j + ls.length % n)
        rw [Nat.add_assoc, e, cyc_len] at this
        exact this.symm
      have := h4 _ h (shift_of_period hr)
      have := Nat.mod_lt ls.length (show 0 < n by omega)
      omega
  have a := hp.2 n (per_of_period h1 h2 hmod hpn)
  have b := h4 p hp.1.1 (shift_of_period (period_of_per hp.1))
  omega

theorem head_same {hs ls : List Int} {p k k' : Nat} (h : LeastHead hs ls p k) (h' : LeastHead hs ls p k') : k = k' := by
  have aux : ∀ {a b : Nat}, LeastHead hs ls p a → LeastHead hs ls p b → ¬ a < b := by
    intro a b ha hb hlt
    rcases hb.2.2 with h | h
    · omega
    · exact h (ha.2.1 (b - 1) (by omega) (by have := hb.1; omega))
  have := aux h h'
  have := aux h' h
  omega

/-- The least lasso of a word, and the same of the reference, have the same letters. -/
theorem leasts_same {hs ls : List Int} {p k p' k' : Nat} (hp : LeastPer ls p) (hk : LeastHead hs ls p k) (hp' : LeastShift hs ls p') (hk' : LeastHead hs ls p' k') : pieceOf hs ls 0 k = pieceOf hs ls 0 k' ∧ pieceOf hs ls k p = pieceOf hs ls k' p' := by
  have e := least_same hp' hp
  subst e
  have e2 := head_same hk hk'
  subst e2
  exact ⟨rfl, rfl⟩
end Go.Proofs.YtpiacnnifdjlkaaDoor
