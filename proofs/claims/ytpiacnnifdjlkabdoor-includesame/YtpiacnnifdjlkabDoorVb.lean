/-
  The mathematics of find.Word: a good state that leads back to itself.
-/
import Derived.Test.YtpiacnnifdjlkabDoorXk
import Derived.Test.YtpiacnnifdjlkabDoorWa
/-
  Package include: the letters' boxes.
-/
namespace Go.Proofs.YtpiacnnifdjlkabDoor
open Go.RowKit Go.Sort Go.MapKept

/-- A part of a row of one's own. -/
theorem own_range {W : World} {base e sz g n cap : Nat} {xs : List Value} (h : W.ownsRow base e sz (.slice (some ⟨g, 0, none⟩) n cap) n xs) (o m : Nat) : W.rangeAt g o ((xs.drop o).take m) := by
  intro j v hv
  rw [List.getElem?_take] at hv
  split at hv
  · rw [List.getElem?_drop] at hv
    have := h.cells (g := g) rfl (o + j) v hv
    rwa [add_none, Nat.zero_add] at this
  · cases hv

theorem flat_part {α : Type} {f : α → List Value} {k : Nat} : ∀ (l : List α) (c : Nat) (hc : c < l.length), (∀ x ∈ l, (f x).length = k) → ((l.flatMap f).drop (c * k)).take k = f l[c]
  | x :: l, 0, _, h => by
    rw [List.flatMap_cons, Nat.zero_mul, List.drop_zero, List.take_append_of_le_length (by rw [h x (List.mem_cons_self ..)]; omega), List.take_of_length_le (by rw [h x (List.mem_cons_self ..)]; omega)]
    rfl
  | x :: l, c + 1, hc, h => by
    have hx := h x (List.mem_cons_self ..)
    rw [List.flatMap_cons, show (c + 1) * k = (f x).length + c * k by rw [hx, Nat.add_mul]; omega, ← List.drop_drop, List.drop_left]
    exact flat_part l c (by simpa using hc) (fun y hy => h y (List.mem_cons_of_mem _ hy))

theorem own_box {W : World} {base g n cap : Nat} {bs : List Bx} (h : W.ownsRow base 111 18 (.slice (some ⟨g, 0, none⟩) n cap) n (bs.flatMap bxE)) (hok : ∀ b ∈ bs, bOk b) {c : Nat} (hc : c < bs.length) : (Instr.loadAt 111 (.pointer (some ⟨g, c * 18, none⟩))).run Tryd.prog W = .ok (bxV bs[c]) W := by
  have hr := own_range h (c * 18) 18
  rw [flat_part bs c hc (fun x hx => bxE_len (hok x hx))] at hr
  exact run_loadAt_mid (P := Tryd.prog) W g (c * 18) 111 (bxE bs[c]) _ hr boxUnder rfl (by rw [boxSize, bxE_len (hok _ (List.getElem_mem hc))])

theorem own_entryBox {W : World} {base g n cap : Nat} {E : List En} (h : W.ownsRow base 144 20 (.slice (some ⟨g, 0, none⟩) n cap) n (E.flatMap enE)) (hok : ∀ x ∈ E, bOk x.1) {c : Nat} (hc : c < E.length) : (Instr.loadAt 111 (.pointer (some ⟨g, c * 20, none⟩))).run Tryd.prog W = .ok (bxV E[c].1) W := by
  have hr := own_range h (c * 20) 20
  have hk := hok _ (List.getElem_mem hc)
  rw [flat_part E c hc (fun x hx => enE_len (hok x hx))] at hr
  exact run_loadAt_mid (P := Tryd.prog) W g (c * 20) 111 (bxE E[c].1) _ (fun j v hv => hr j v (by
    unfold enE
    rw [List.getElem?_append_left (List.getElem?_eq_some_iff.1 hv).1]
    exact hv)) boxUnder rfl (by rw [boxSize, bxE_len hk])

theorem auto_load {W : World} {b : Nat} {c : Array Value} (h : W.heap[b]? = some (.cells c 26)) (hz : c.size = 5) : (Instr.loadAt 26 (.pointer (some ⟨b, 0, none⟩))).run Tryd.prog W = .ok (.agg c) W := by
  have hr := range_row h 0 5
  rw [List.drop_zero, List.take_of_length_le (by simp [hz])] at hr
  have := run_loadAt_mid (P := Tryd.prog) W b 0 26 c.toList _ hr Tryd.underlying26 rfl (by rw [show (Tryd.prog.info? 26).map (·.size) = some 5 by kernel_rfl]; simp [hz])
  simpa using this

theorem bxInfo : Tryd.prog.info? 111 = some Tryd.t111 := by kernel_rfl
theorem bxZero : Tryd.t111.zero = some (.agg (tE (List.replicate 18 0)).toArray) := by kernel_rfl
theorem bxEl : ElT 140 111 18 18 := ⟨Tryd.underlying140, ⟨_, _, bxInfo, bxZero, by kernel_rfl, by kernel_rfl, by kernel_rfl⟩, by decide, by decide⟩
theorem bxE_one (b : Bx) : ∀ v ∈ bxE b, v.oneCell' = true := by
  intro v hv
  have := bx_one b
  rw [Array.all_eq_true_iff_forall_mem] at this
  exact this v (by simpa using hv)
theorem bxSlice {b : Bx} (h : bOk b) (w : World) : (Instr.buildSlice 140 1 #[(0, bxV b)]).run Tryd.prog w = .ok (.slice (some ⟨w.heap.size, 0, none⟩) 1 1) (w.alloc (.cells (bxE b).toArray 111)) :=
  slice_one Tryd.underlying140 bxInfo bxZero (m := 18) (by kernel_rfl) (bxE_len h) (by omega) (by omega) w

/-- The letters' boxes. -/
def letB (A B : Aut) (c : Nat) : Bx := (letT A (c : Nat), letT B (c : Nat))
def lets (A B : Aut) (k : Nat) : List Bx := (List.range k).map (letB A B)
theorem lets_len (A B : Aut) (k : Nat) : (lets A B k).length = k := by simp [lets]
theorem lets_snoc (A B : Aut) (k : Nat) : lets A B (k + 1) = lets A B k ++ [letB A B k] := by simp [lets, List.range_succ]
theorem letB_ok (A B : Aut) (c : Nat) : bOk (letB A B c) := ⟨tOk_let _ _, tOk_let _ _⟩
theorem lets_ok (A B : Aut) (k : Nat) : ∀ b ∈ lets A B k, bOk b := by
  intro b hb
  obtain ⟨c, _, rfl⟩ := List.mem_map.1 hb
  exact letB_ok A B c
theorem lets_at (A B : Aut) {k c : Nat} (hc : c < (lets A B k).length) : (lets A B k)[c] = letB A B c := by simp [lets]

end Go.Proofs.YtpiacnnifdjlkabDoor

/-
  Package include: all boxes.
-/
namespace Go.Proofs.YtpiacnnifdjlkabDoor
open Go.RowKit Go.Sort Go.MapKept

/-- What the letters' loop has before it. -/
def BxL (w wr : World) (ca cb : Array Value) (A B : Aut) (i : Nat) (sv : Value) : Prop :=
  wr.ownsRow (w.heap.size + 2) 111 18 sv i ((lets A B i).flatMap bxE) ∧ Below w.heap.size w wr ∧ wr.heap[w.heap.size]? = some (.cells ca 26) ∧ wr.heap[w.heap.size + 1]? = some (.cells cb 26) ∧ w.heap.size + 2 ≤ wr.heap.size

/-- What is told of all boxes. -/
structure BoxesMade (A B : Aut) (m : Nat) (w w' : World) (v : Value) (E : List En) : Prop where
  own : w'.ownsRow w.heap.size 144 20 v E.length (E.flatMap enE)
  bfs : Bfs bxNone (bxNext A B) m E.length (enB bxNone E) (enA bxNone E) (enL bxNone E)
  ok : ∀ x ∈ E, bOk x.1
  few : E.length ≤ 387420489
  bl : Below w.heap.size w w'

theorem bfs_add {A B : Aut} {m : Nat} {E : List En} {at_ c : Nat} (h : BfsI bxNone (bxNext A B) m E at_ c) (ha : at_ < E.length) (hc : c < m) : BfsI bxNone (bxNext A B) m (addE E (bxNext A B (enB bxNone E at_) c, at_, c)) at_ (c + 1) := by
  unfold addE
  split
  · rename_i hm
    exact h.met hm
  · rename_i hm
    exact h.more ha hc hm

theorem addE_ok {E : List En} {x : En} (h : ∀ y ∈ E, bOk y.1) (hx : bOk x.1) : ∀ y ∈ addE E x, bOk y.1 := by
  intro y hy
  unfold addE at hy
  split at hy
  · exact h y hy
  · rcases List.mem_append.1 hy with hy | hy
    · exact h y hy
    · have : y = x := by simpa using hy
      rw [this]
      exact hx

theorem enB_at {E : List En} {k : Nat} (h : k < E.length) : enB bxNone E k = E[k].1 := by simp [enB, List.getD, h]

theorem owns_some {w : World} {base e size n : Nat} {v : Value} {xs : List Value} (h : w.ownsRow base e size v n xs) (hn : 0 < n) : ∃ g cap, v = .slice (some ⟨g, 0, none⟩) n cap := by
  rcases h.2 with ⟨_, h0⟩ | ⟨g, cap, cur, rfl, hb, _⟩
  · omega
  · exact ⟨g, cap, rfl⟩

theorem owns_lowX {w : World} {base base' e size n : Nat} {v : Value} {xs : List Value} (h : w.ownsRow base e size v n xs) (hb : base' ≤ base) : w.ownsRow base' e size v n xs := by
  refine ⟨h.1, ?_⟩
  rcases h.2 with h1 | ⟨g, cap, cur, h1, h2, h3⟩
  · exact Or.inl h1
  · exact Or.inr ⟨g, cap, cur, h1, Nat.le_trans hb h2, h3⟩

/-- A function's value with two boxes is called. -/
theorem wp_closure2 {o : Oper} {a : Act} {W : World} {K : Act → World → Prop} {Q : Exit → Act → World → Prop} {k x : Nat} {f : FuncId} {ats : Array TypeId} {v p q : Value} (ho : o.op = .call { callee := .value (.tmp k), args := #[.tmp x], argTypes := ats }) (hk : a.tmps[k]?.getD undef = .func (.func f) #[] #[p, q]) (hx : a.tmps[x]?.getD undef = v) (hcf : (callFunc f #[v, p, q]).run Tryd.prog W = .ok (.enter f #[v, p, q]) W)
    (hc : Calls Tryd.prog f #[v, p, q] W fun e w' => ∃ u, e = .returned u ∧ K (a.put o.dst u) w') : o.wp Tryd.prog a W K Q := by
  have hr : (execOp a.eval o).run Tryd.prog W = .ok (.enter f #[v, p, q]) W := by
    unfold execOp
    simp [ho, go_sem, hk, hx, hcf]
  unfold Oper.wp
  rw [hr, Oper.upon_enter]
  exact hc.mono fun e w' ⟨u, he, h⟩ => by subst he; exact h

/-- What the search has before it. -/
structure BxS (A B : Aut) (mN S0 : Nat) (wL wr : World) (E : List En) (at_ c : Nat) : Prop where
  en : EnI wr S0 (S0 + 1 + 1) S0 (S0 + 1) E
  bfs : BfsI bxNone (bxNext A B) mN E at_ c
  ok : ∀ x ∈ E, bOk x.1
  bl : Below S0 wL wr

theorem BxS.few {A B : Aut} {mN S0 : Nat} {wL wr : World} {E : List En} {at_ c : Nat} (h : BxS A B mN S0 wL wr E at_ c) : E.length ≤ 387420489 := by
  have := few_boxes h.bfs.nodup (fun b hb => by
    obtain ⟨x, hx, rfl⟩ := List.mem_map.1 hb
    exact h.ok x hx)
  simpa using this

set_option maxRecDepth 100000 in
set_option maxHeartbeats 1000000 in
theorem boxes_any {w : World} {va vb : Value} {A B : Aut} {mN : Nat} (hA : AutV w va A) (hB : AutV w vb B) (hRA : Right A) (hRB : Right B) (h3A : A.n ≤ 3) (h3B : B.n ≤ 3) (hm : A.m = (mN : Nat)) (hm2 : mN ≤ 2) :
    Calls Tryd.prog 64 #[va, vb] w fun e w' => ∃ v E, e = .returned v ∧ BoxesMade A B mN w w' v E := by
  have HA : Hid (∀ W, Below w.heap.size w W → ∀ c : Int, Calls Tryd.prog 88 #[va, .int .i64 c] W fun e w' => e = .returned (tV (letT A c)) ∧ Below W.heap.size W w') := hide fun W hb c => letterTab_any (hA.below hb) hRA h3A c
  have HB : Hid (∀ W, Below w.heap.size w W → ∀ c : Int, Calls Tryd.prog 88 #[vb, .int .i64 c] W fun e w' => e = .returned (tV (letT B c)) ∧ Below W.heap.size W w') := hide fun W hb c => letterTab_any (hB.below hb) hRB h3B c
  obtain ⟨fv, gv, sv, rfl, h1, h2, h3⟩ := hA
  obtain ⟨a1, c1, rfl, -⟩ := h1
  obtain ⟨a2, c2, rfl, -⟩ := h2
  obtain ⟨a3, c3, rfl, -⟩ := h3
  obtain ⟨fv, gv, sv, rfl, h1, h2, h3⟩ := hB
  obtain ⟨a4, c4, rfl, -⟩ := h1
  obtain ⟨a5, c5, rfl, -⟩ := h2
  obtain ⟨a6, c6, rfl, -⟩ := h3
  rw [hm] at HA ⊢
  clear hm h3A h3B hRA hRB
  generalize A.n = nA at *
  generalize B.n = nB at *
  generalize B.m = mB at *
  generalize A.first.length = l1 at *
  generalize A.good.length = l2 at *
  generalize A.steps.length = l3 at *
  generalize B.first.length = l4 at *
  generalize B.good.length = l5 at *
  generalize B.steps.length = l6 at *
  have HS : Hid (BxL w ((w.alloc (Obj.cells #[Value.int .i64 nA, .int .i64 (mN : Nat), .slice a1 l1 c1, .slice a2 l2 c2, .slice a3 l3 c3] 26)).alloc (Obj.cells #[Value.int .i64 nB, .int .i64 mB, .slice a4 l4 c4, .slice a5 l5 c5, .slice a6 l6 c6] 26)) #[Value.int .i64 nA, .int .i64 (mN : Nat), .slice a1 l1 c1, .slice a2 l2 c2, .slice a3 l3 c3] #[Value.int .i64 nB, .int .i64 mB, .slice a4 l4 c4, .slice a5 l5 c5, .slice a6 l6 c6] A B 0 (.slice none 0 0)) := hide (by
    obtain ⟨h1, h2⟩ := two_alloc w (Obj.cells #[Value.int .i64 nA, .int .i64 (mN : Nat), .slice a1 l1 c1, .slice a2 l2 c2, .slice a3 l3 c3] 26) (Obj.cells #[Value.int .i64 nB, .int .i64 mB, .slice a4 l4 c4, .slice a5 l5 c5, .slice a6 l6 c6] 26)
    exact ⟨⟨rfl, .inl ⟨rfl, rfl⟩⟩, (by repeat (first | exact Below.refl _ _ | assumption | refine below_drewN ?_ _ | refine Below.drew ?_ | refine Below.alloc ?_ (by simp <;> omega) _ | refine below_trans ?_ (by assumption))), h1, h2, by simp⟩)
  go_enter Tryd.func64, Tryd.ntmps64
  go_wp2_with (fail)
  generalize ((w.alloc (Obj.cells #[Value.int .i64 nA, .int .i64 (mN : Nat), .slice a1 l1 c1, .slice a2 l2 c2, .slice a3 l3 c3] 26)).alloc (Obj.cells #[Value.int .i64 nB, .int .i64 mB, .slice a4 l4 c4, .slice a5 l5 c5, .slice a6 l6 c6] 26)) = W0 at *
  go_loopw [5, 15] (fun sv iv wr => ∃ i : Nat, i ≤ mN ∧ iv = .int .i64 i ∧ Hid (BxL w wr #[Value.int .i64 nA, .int .i64 (mN : Nat), .slice a1 l1 c1, .slice a2 l2 c2, .slice a3 l3 c3] #[Value.int .i64 nB, .int .i64 mB, .slice a4 l4 c4, .slice a5 l5 c5, .slice a6 l6 c6] A B i sv)) (fun _ iv _ => mN - (intOf iv).toNat)
  case atStart => exact ⟨0, by omega, rfl, HS⟩
  case round =>
    obtain ⟨i, hi, rfl, ho1⟩ := hrel
    by_cases hlt : i < mN
    · go_wp2_with (fail)
      rename_i Q' K hK
      have hsz := ho1.out.2.2.2.2
      obtain ⟨sv, hsv⟩ : ∃ sv, sv = u5 := ⟨_, rfl⟩
      subst hsv
      refine wp_region_push 8 9 10 7 0 [(0, 18), (1, 19), (2, 20), (3, 21), (4, 22), (5, 23), (6, 24), (7, 25), (8, 26), (9, 27)] (fun j => match j with | 0 => sv | 1 => .agg #[Value.int .i64 nA, .int .i64 (mN : Nat), .slice a1 l1 c1, .slice a2 l2 c2, .slice a3 l3 c3] | 2 => .int .i64 (i : Nat) | 3 => tV (letT A (i : Nat)) | 4 => .agg #[Value.int .i64 nB, .int .i64 mB, .slice a4 l4 c4, .slice a5 l5 c5, .slice a6 l6 c6] | 5 => .int .i64 (i : Nat) | 6 => tV (letT B (i : Nat)) | 7 => bxV (letB A B i) | 8 => undef | 9 => undef | _ => undef) (base := w.heap.size + 2) (n := i) (kb := 25) (ks := 18) (kx := 26) (kX := 27) (kd := 5) (sv := sv) (xs := (lets A B i).flatMap bxE) (bxE (letB A B i)) bxEl (by omega) (bxE_len (letB_ok A B i)) (bxE_one _) (by kernel_rfl) (by kernel_rfl) (by kernel_rfl) (by kernel_rfl) (by kernel_rfl) (by omega) (by kernel_rfl) (by omega) (by kernel_rfl) (by kernel_rfl) (by omega) (by kernel_rfl) (by kernel_rfl) (fun vs => by kernel_rfl) ho1.out.1 hsz (bxSlice (letB_ok A B i)) ?_ ?_
      · clear hK
        intro j o hj hjB hjX ho
        match j, ho with
        | 0, ho =>
          obtain rfl := Option.some.inj ho
          intro a W hW he hd
          have e5 : a.tmps[5]?.getD undef = sv := he 5 (by kernel_rfl)
          exact Or.inl (by simp [execOp, go_sem, e5])
        | 1, ho =>
          obtain rfl := Option.some.inj ho
          intro a W hW he hd
          have e2 : a.tmps[2]?.getD undef = .pointer (some ⟨w.heap.size, 0, none⟩) := he 2 (by kernel_rfl)
          exact Or.inl (exec_load (auto_load ((hW.block _ (by omega)).trans ho1.out.2.2.1) rfl) rfl ((eval_tmp a 2).trans e2))
        | 2, ho =>
          obtain rfl := Option.some.inj ho
          intro a W hW he hd
          have e6 : a.tmps[6]?.getD undef = .int .i64 (i : Nat) := he 6 (by kernel_rfl)
          exact Or.inl (by simp [execOp, go_sem, e6])
        | 3, ho =>
          obtain rfl := Option.some.inj ho
          intro a W hW he hd
          have v1 : a.tmps[19]?.getD undef = .agg #[Value.int .i64 nA, .int .i64 (mN : Nat), .slice a1 l1 c1, .slice a2 l2 c2, .slice a3 l3 c3] := hd 1 19 (by omega) (by omega) (by kernel_rfl) (by kernel_rfl)
          have v2 : a.tmps[20]?.getD undef = .int .i64 (i : Nat) := hd 2 20 (by omega) (by omega) (by kernel_rfl) (by kernel_rfl)
          refine Or.inr ⟨88, #[.agg #[Value.int .i64 nA, .int .i64 (mN : Nat), .slice a1 l1 c1, .slice a2 l2 c2, .slice a3 l3 c3], .int .i64 (i : Nat)], by simp [execOp, go_sem, v1, v2], (HA.out W (ho1.out.2.1.trans (hW.mono (by omega))) (i : Nat)).mono ?_⟩
          rintro e W' ⟨rfl, hb'⟩
          exact ⟨rfl, hb'⟩
        | 4, ho =>
          obtain rfl := Option.some.inj ho
          intro a W hW he hd
          have e3 : a.tmps[3]?.getD undef = .pointer (some ⟨w.heap.size + 1, 0, none⟩) := he 3 (by kernel_rfl)
          exact Or.inl (exec_load (auto_load ((hW.block _ (by omega)).trans ho1.out.2.2.2.1) rfl) rfl ((eval_tmp a 3).trans e3))
        | 5, ho =>
          obtain rfl := Option.some.inj ho
          intro a W hW he hd
          have e6 : a.tmps[6]?.getD undef = .int .i64 (i : Nat) := he 6 (by kernel_rfl)
          exact Or.inl (by simp [execOp, go_sem, e6])
        | 6, ho =>
          obtain rfl := Option.some.inj ho
          intro a W hW he hd
          have v4 : a.tmps[22]?.getD undef = .agg #[Value.int .i64 nB, .int .i64 mB, .slice a4 l4 c4, .slice a5 l5 c5, .slice a6 l6 c6] := hd 4 22 (by omega) (by omega) (by kernel_rfl) (by kernel_rfl)
          have v5 : a.tmps[23]?.getD undef = .int .i64 (i : Nat) := hd 5 23 (by omega) (by omega) (by kernel_rfl) (by kernel_rfl)
          refine Or.inr ⟨88, #[.agg #[Value.int .i64 nB, .int .i64 mB, .slice a4 l4 c4, .slice a5 l5 c5, .slice a6 l6 c6], .int .i64 (i : Nat)], by simp [execOp, go_sem, v4, v5], (HB.out W (ho1.out.2.1.trans (hW.mono (by omega))) (i : Nat)).mono ?_⟩
          rintro e W' ⟨rfl, hb'⟩
          exact ⟨rfl, hb'⟩
        | 7, ho =>
          obtain rfl := Option.some.inj ho
          intro a W hW he hd
          have v3 : a.tmps[21]?.getD undef = tV (letT A (i : Nat)) := hd 3 21 (by omega) (by omega) (by kernel_rfl) (by kernel_rfl)
          have v6 : a.tmps[24]?.getD undef = tV (letT B (i : Nat)) := hd 6 24 (by omega) (by omega) (by kernel_rfl) (by kernel_rfl)
          exact Or.inl (exec_build (build_box (tOk_let A _).1 (tOk_let B _).1 W) rfl (by simp [eval_tmp, v3, v6]))
        | 8, _ => exact absurd rfl (by first | exact hjB | exact hjX)
        | 9, _ => exact absurd rfl (by first | exact hjB | exact hjX)
        | n + 10, _ => exact absurd hj (by omega)
      · intro vs W g cap hW hW2 hvs hX hown
        rw [hX]
        have hL : (lets A B i).flatMap bxE ++ bxE (letB A B i) = (lets A B (i + 1)).flatMap bxE := by rw [lets_snoc, List.flatMap_append]; simp
        rw [hL] at hown
        have HO : Hid (BxL w W #[Value.int .i64 nA, .int .i64 (mN : Nat), .slice a1 l1 c1, .slice a2 l2 c2, .slice a3 l3 c3] #[Value.int .i64 nB, .int .i64 mB, .slice a4 l4 c4, .slice a5 l5 c5, .slice a6 l6 c6] A B (i + 1) (.slice (some ⟨g, 0, none⟩) (i + 1) cap)) := hide ⟨hown, ho1.out.2.1.trans (hW.mono (by omega)), (hW.block _ (by omega)).trans ho1.out.2.2.1, (hW.block _ (by omega)).trans ho1.out.2.2.2.1, by omega⟩
        clear hL hown hX hvs hW hW2
        simp only [putPairs, Act.put, List.setIfInBounds_toArray, List.set_cons_succ, List.set_cons_zero]
        go_wp2_with (fail)
        go_roundw
        case rel => exact ⟨i + 1, by omega, by go_num, HO⟩
        case measure => simp [intOf]; omega
    · have hiM : i = mN := by omega
      subst hiM
      obtain ⟨sv, hsv⟩ : ∃ sv, sv = u5 := ⟨_, rfl⟩
      subst hsv
      have hmk : ∀ w : World, (Instr.makeMap 142 none).run Tryd.prog w = .ok (.map (some w.heap.size)) (w.alloc (.map #[] 0)) := fun _ => rfl
      go_wp2_with (fail)
      have HE0 : Hid (EnI (((wr.alloc (Obj.cells #[Value.slice none 0 0] 102)).alloc (Obj.map #[] 0)).alloc (Obj.cells #[Value.map (some (wr.heap.size + 1))] 142)) wr.heap.size (wr.heap.size + 1 + 1) wr.heap.size (wr.heap.size + 1) []) := hide (by
        obtain ⟨h1, h2, h3⟩ := three_alloc wr (Obj.cells #[Value.slice none 0 0] 102) (Obj.map #[] 0) (Obj.cells #[Value.map (some (wr.heap.size + 1))] 142)
        exact ⟨h3, ⟨_, h1, ⟨rfl, .inl ⟨rfl, rfl⟩⟩⟩, ⟨fun y hy => by simp at hy, #[], 0, h2, rfl, fun i x hx => by simp at hx⟩, ⟨by omega, by omega, by omega, by simp; omega⟩⟩)
      have HB0 : Hid (Below wr.heap.size wr (((wr.alloc (Obj.cells #[Value.slice none 0 0] 102)).alloc (Obj.map #[] 0)).alloc (Obj.cells #[Value.map (some (wr.heap.size + 1))] 142))) := hide (by repeat (first | exact Below.refl _ _ | assumption | refine below_drewN ?_ _ | refine Below.drew ?_ | refine Below.alloc ?_ (by simp <;> omega) _ | refine below_trans ?_ (by assumption)))
      generalize ((wr.alloc (Obj.cells #[Value.slice none 0 0] 102)).alloc (Obj.map #[] 0)).alloc (Obj.cells #[Value.map (some (wr.heap.size + 1))] 142) = W3 at *
      clear hmk hlt hi
      refine nothing_any.mono ?_
      rintro e w4 ⟨rfl, hb4⟩
      have HE4 := hide (HE0.out.below hb4)
      have HB4 := hide (below_trans HB0.out hb4)
      have HBe := hide (build_entry0 bOk_none w4)
      clear hb4 HE0 HB0
      go_wp2_with (first | (show wpList _ _ _ (⟨some 33, _, _, _, _, _⟩ :: _) _ _; refine wpl_build1 HBe.out rfl rfl rfl ?_))
      refine (note_any (x := (bxNone, 0, 0)) HE4.out bOk_none (by simp)).mono ?_
      rintro e w5 ⟨rfl, hE5, hb5⟩
      have HS5 : Hid (BxS A B i wr.heap.size wr w5 [(bxNone, 0, 0)] 0 0) := hide ⟨hE5, BfsI.begin, fun x hx => by
        have : x = (bxNone, 0, 0) := by simpa using hx
        rw [this]
        exact bOk_none, HB4.out.trans hb5⟩
      clear hE5 hb5 HE4 HB4 HBe
      obtain ⟨wL, hwL⟩ : ∃ wL, wL = wr := ⟨_, rfl⟩
      subst hwL
      go_wp2_with (fail)
      obtain ⟨asv, csv, hsvf⟩ := owns_form ho1.out.1
      subst hsvf
      go_loopw [10] (fun atv wr => ∃ (at_ : Nat) (E : List En), atv = .int .i64 at_ ∧ Hid (BxS A B i wL.heap.size wL wr E at_ 0)) (fun atv _ => 387420490 - (intOf atv).toNat)
      case atStart => exact ⟨0, _, rfl, HS5⟩
      case round =>
        obtain ⟨at_, E, rfl, hS⟩ := hrel
        obtain ⟨ev, hbt, hoE⟩ := hS.out.en.bt
        obtain ⟨ae, cp, rfl⟩ := owns_form hoE
        have q0 := cell_of_row _ _ 0 _ _ _ hbt
        have hfew := hS.out.few
        have HoE0 := hide hoE
        clear hbt hoE
        by_cases hat : at_ < E.length
        · go_wp2_with (fail)
          clear q0
          obtain ⟨w1, hw1⟩ : ∃ w1, w1 = wr := ⟨_, rfl⟩
          subst hw1
          go_loopw [43] (fun cv wr => ∃ (c : Nat) (E : List En), c ≤ i ∧ cv = .int .i64 c ∧ Hid (BxS A B i wL.heap.size wL wr E at_ c ∧ at_ < E.length)) (fun cv _ => i - (intOf cv).toNat)
          case atStart => exact ⟨0, E, by omega, rfl, hide ⟨hS.out, hat⟩⟩
          case round =>
            clear hS hfew hat
            obtain ⟨c, E, hc, rfl, hS⟩ := hrel
            by_cases hci : c < i
            · obtain ⟨hS', hat⟩ := hS.out
              have hfew := hS'.few
              obtain ⟨ev, hbt, hoE⟩ := hS'.en.bt
              obtain ⟨gE, cp, rfl⟩ := owns_some hoE (by omega)
              obtain ⟨gL, cL, hL⟩ := owns_some ho1.out.1 (by omega)
              injection hL with hL1 hL2 hL3
              subst hL1
              subst hL3
              have HLc : Hid ((Instr.loadAt 111 (.pointer (some ⟨gL, c * 18, none⟩))).run Tryd.prog wr = .ok (bxV (letB A B c)) wr) := hide (by
                have := own_box (owns_below ho1.out.1 hS'.bl) (lets_ok A B i) (c := c) (by rw [lets_len]; exact hci)
                rw [lets_at] at this
                exact this)
              have hlb := bxE_len (letB_ok A B c)
              have HSt := hide (run_storeAt_new (P := Tryd.prog) wr 111 #[Value.int .u8 0, Value.int .u8 0, Value.int .u8 0, Value.int .u8 0, Value.int .u8 0, Value.int .u8 0, Value.int .u8 0, Value.int .u8 0, Value.int .u8 0, Value.int .u8 0, Value.int .u8 0, Value.int .u8 0, Value.int .u8 0, Value.int .u8 0, Value.int .u8 0, Value.int .u8 0, Value.int .u8 0, Value.int .u8 0] (bxE (letB A B c)).toArray (by rw [boxSize]; simp [hlb]) (by simp [hlb]) (bx_one _))
              have hb5 := below_new wr (Obj.cells (bxE (letB A B c)).toArray 111)
              have HN5 := hide (one_new wr (Obj.cells (bxE (letB A B c)).toArray 111))
              have HoE := hide (owns_below hoE hb5)
              have Hbt := hide (belowRow hb5 hbt)
              have Hen := hide (hS'.en.below hb5)
              have Hok := hide hS'.ok
              have Hbl := hide (hS'.bl.trans (hb5.mono hS'.bl.size))
              have Hbf := hide hS'.bfs
              have Hnx : Hid (bOk (thenT E[at_].1.1 (letT A (c : Nat)), thenT E[at_].1.2 (letT B (c : Nat)))) := hide ⟨tOk_then (hS'.ok _ (List.getElem_mem hat)).1 (tOk_let _ _), tOk_then (hS'.ok _ (List.getElem_mem hat)).2 (tOk_let _ _)⟩
              clear hb5 hbt hoE hlb hS' hS
              go_wp2_with (first | (show wpList _ _ _ (⟨some 47, _, _, _, _, _⟩ :: _) _ _; refine wpl_load HLc.out rfl rfl rfl ?_) | (show wpList _ _ _ (⟨none, _, _, _, _, _⟩ :: _) _ _; refine wpl_store HSt.out rfl rfl rfl rfl ?_))
              generalize wr.alloc (Obj.cells (bxE (letB A B c)).toArray 111) = W5 at *
              clear HLc HSt
              rename_i Q' K hK
              refine wp_region_upto 11 [(0, 48), (1, 49), (2, 50), (3, 51), (4, 52), (5, 53), (6, 54), (7, 55), (8, 56), (9, 57), (10, 58)] (fun j => match j with | 0 => .func (.func 89) #[] #[.pointer (some ⟨wL.heap.size + 1 + 1, 0, none⟩), .pointer (some ⟨wL.heap.size, 0, none⟩)] | 1 => .slice (some ⟨gE, 0, none⟩) E.length cp | 2 => .int .i64 (at_ : Nat) | 3 => .pointer (some ⟨gE, at_ * 20, none⟩) | 4 => .pointer (some ⟨gE, at_ * 20, none⟩) | 5 => bxV E[at_].1 | 6 => bxV (letB A B c) | 7 => bxV (thenT E[at_].1.1 (letT A (c : Nat)), thenT E[at_].1.2 (letT B (c : Nat))) | 8 => .int .i64 (at_ : Nat) | 9 => .int .i64 (c : Nat) | 10 => enV ((thenT E[at_].1.1 (letT A (c : Nat)), thenT E[at_].1.2 (letT B (c : Nat))), at_, c) | _ => undef) (fun W => Below W5.heap.size W5 W) (.call { callee := .value (.tmp 48), args := #[.tmp 58], argTypes := #[144] }) (some 59) (by kernel_rfl) (by kernel_rfl) (by kernel_rfl) (by kernel_rfl) (by kernel_rfl) (by kernel_rfl) (by kernel_rfl) (by omega) (Below.drew (Below.refl _ _)) ?_ ?_
              · clear hK
                intro j o hj ho
                match j, ho with
                | 0, ho =>
                  obtain rfl := Option.some.inj ho
                  intro a W hW he hd
                  have e9 : a.tmps[9]?.getD undef = .func (.func 89) #[] #[.pointer (some ⟨wL.heap.size + 1 + 1, 0, none⟩), .pointer (some ⟨wL.heap.size, 0, none⟩)] := he 9 (by kernel_rfl)
                  exact Or.inl (by simp [execOp, go_sem, e9])
                | 1, ho =>
                  obtain rfl := Option.some.inj ho
                  intro a W hW he hd
                  have e7 : a.tmps[7]?.getD undef = .pointer (some ⟨wL.heap.size, 0, none⟩) := he 7 (by kernel_rfl)
                  have q0 := cell_of_row W _ 0 _ _ _ (belowRow hW Hbt.out)
                  exact Or.inl (by simp [execOp, go_sem, e7, q0])
                | 2, ho =>
                  obtain rfl := Option.some.inj ho
                  intro a W hW he hd
                  have e10 : a.tmps[10]?.getD undef = .int .i64 (at_ : Nat) := he 10 (by kernel_rfl)
                  exact Or.inl (by simp [execOp, go_sem, e10])
                | 3, ho =>
                  obtain rfl := Option.some.inj ho
                  intro a W hW he hd
                  have v1 : a.tmps[49]?.getD undef = .slice (some ⟨gE, 0, none⟩) E.length cp := hd 1 49 (by kernel_rfl) (by kernel_rfl)
                  have v2 : a.tmps[50]?.getD undef = .int .i64 (at_ : Nat) := hd 2 50 (by kernel_rfl) (by kernel_rfl)
                  exact Or.inl (by simp [execOp, go_sem, v1, v2, hat])
                | 4, ho =>
                  obtain rfl := Option.some.inj ho
                  intro a W hW he hd
                  have v3 : a.tmps[51]?.getD undef = .pointer (some ⟨gE, at_ * 20, none⟩) := hd 3 51 (by kernel_rfl) (by kernel_rfl)
                  exact Or.inl (by simp [execOp, go_sem, v3])
                | 5, ho =>
                  obtain rfl := Option.some.inj ho
                  intro a W hW he hd
                  have v4 : a.tmps[52]?.getD undef = .pointer (some ⟨gE, at_ * 20, none⟩) := hd 4 52 (by kernel_rfl) (by kernel_rfl)
                  exact Or.inl (exec_load (own_entryBox (owns_below HoE.out hW) Hok.out hat) rfl ((eval_tmp a 52).trans v4))
                | 6, ho =>
                  obtain rfl := Option.some.inj ho
                  intro a W hW he hd
                  have e12 : a.tmps[12]?.getD undef = .pointer (some ⟨wr.heap.size, 0, none⟩) := he 12 (by kernel_rfl)
                  exact Or.inl (exec_load (load_row (belowRow hW HN5.out) boxUnder (by rw [boxSize]; simp [bxE_len (letB_ok A B c)])) rfl ((eval_tmp a 12).trans e12))
                | 7, ho =>
                  obtain rfl := Option.some.inj ho
                  intro a W hW he hd
                  have v5 : a.tmps[53]?.getD undef = bxV E[at_].1 := hd 5 53 (by kernel_rfl) (by kernel_rfl)
                  have v6 : a.tmps[54]?.getD undef = bxV (letB A B c) := hd 6 54 (by kernel_rfl) (by kernel_rfl)
                  refine Or.inr ⟨91, #[bxV E[at_].1, bxV (letB A B c)], by simp [execOp, go_sem, v5, v6], (boxThen_any (Hok.out _ (List.getElem_mem hat)) (letB_ok A B c)).mono ?_⟩
                  rintro e W' ⟨rfl, hb'⟩
                  exact ⟨rfl, below_trans hW hb'⟩
                | 8, ho =>
                  obtain rfl := Option.some.inj ho
                  intro a W hW he hd
                  have e10 : a.tmps[10]?.getD undef = .int .i64 (at_ : Nat) := he 10 (by kernel_rfl)
                  exact Or.inl (by simp [execOp, go_sem, e10])
                | 9, ho =>
                  obtain rfl := Option.some.inj ho
                  intro a W hW he hd
                  have e11 : a.tmps[11]?.getD undef = .int .i64 (c : Nat) := he 11 (by kernel_rfl)
                  exact Or.inl (by simp [execOp, go_sem, e11])
                | 10, ho =>
                  obtain rfl := Option.some.inj ho
                  intro a W hW he hd
                  have v7 : a.tmps[55]?.getD undef = bxV (thenT E[at_].1.1 (letT A (c : Nat)), thenT E[at_].1.2 (letT B (c : Nat))) := hd 7 55 (by kernel_rfl) (by kernel_rfl)
                  have v8 : a.tmps[56]?.getD undef = .int .i64 (at_ : Nat) := hd 8 56 (by kernel_rfl) (by kernel_rfl)
                  have v9 : a.tmps[57]?.getD undef = .int .i64 (c : Nat) := hd 9 57 (by kernel_rfl) (by kernel_rfl)
                  exact Or.inl (exec_build (build_entry Hnx.out at_ c W) rfl (by simp [eval_tmp, v7, v8, v9]))
                | n + 11, _ => exact absurd hj (by omega)
              · intro W hW o h1 h2
                have hn := note_any (x := ((thenT E[at_].1.1 (letT A (c : Nat)), thenT E[at_].1.2 (letT B (c : Nat))), at_, c)) (Hen.out.below hW) Hnx.out (by omega)
                refine wp_closure2 h1 (by kernel_rfl) (by kernel_rfl) (by simp [go_sem]) (hn.mono ?_)
                rintro e w' ⟨rfl, hE', hb'⟩
                refine ⟨_, rfl, ?_⟩
                rw [h2]
                have HS' : Hid (BxS A B i wL.heap.size wL w' (addE E ((thenT E[at_].1.1 (letT A (c : Nat)), thenT E[at_].1.2 (letT B (c : Nat))), at_, c)) at_ (c + 1) ∧ at_ < (addE E ((thenT E[at_].1.1 (letT A (c : Nat)), thenT E[at_].1.2 (letT B (c : Nat))), at_, c)).length) := hide ⟨⟨hE', by
                  have := bfs_add Hbf.out hat hci
                  rw [enB_at hat] at this
                  exact this, addE_ok Hok.out Hnx.out, (Hbl.out.trans (hW.mono Hen.out.lo.2.2.2)).trans hb'⟩, by
                  unfold addE
                  split
                  · exact hat
                  · simp; omega⟩
                clear hn hE' hb' hW
                simp only [putPairs, Act.put, List.setIfInBounds_toArray, List.set_cons_succ, List.set_cons_zero]
                go_wp2_with (fail)
                go_roundw
                case rel => exact ⟨c + 1, _, by omega, by go_num, HS'⟩
                case measure => simp [intOf]; omega
            · have hci : c = i := by omega
              subst hci
              have HE := hide (hS.out.1.bfs.next hS.out.2)
              have hatb : at_ < 387420489 := Nat.lt_of_lt_of_le hS.out.2 hS.out.1.few
              go_wp2_with (fail)
              go_roundw
              case rel => exact ⟨at_ + 1, E, by go_num, hide ⟨hS.out.1.en, HE.out, hS.out.1.ok, hS.out.1.bl⟩⟩
              case measure => simp [intOf]; omega
        · have HD := hide (hS.out.bfs.done (by omega))
          have HM : Hid (BoxesMade A B i w wr (.slice ae E.length cp) E) := hide ⟨owns_lowX HoE0.out (by have := ho1.out.2.2.2.2; omega), HD.out, hS.out.ok, hfew, ho1.out.2.1.trans (hS.out.bl.mono (by have := ho1.out.2.2.2.2; omega))⟩
          go_wp2_with (fail)
          go_ret
          exact ⟨_, E, rfl, HM.out⟩

end Go.Proofs.YtpiacnnifdjlkabDoor

namespace Go.Proofs.YtpiacnnifdjlkabDoor

/-- What find.Word asks of an automaton: no limit is held. -/
structure RightW (A : Aut) : Prop where
  n0 : 0 ≤ A.n
  n3 : A.n ≤ 900000
  good : (A.good.length : Int) = A.n
  few : A.steps.length ≤ 100000000
  ffew : A.first.length ≤ 900000
  m8 : A.m ≤ 8
  first : ∀ x ∈ A.first, 0 ≤ x ∧ x < A.n
  steps : ∀ s ∈ A.steps, 0 ≤ s.f ∧ s.f < A.n ∧ 0 ≤ s.l ∧ s.l < A.m ∧ 0 ≤ s.t ∧ s.t < A.n
  sorted : A.steps.Pairwise (fun a b => a.f ≤ b.f)

/-- Letters, at least one and not too many, that lead from one of some states to this one. -/
def WayTo (A : Aut) (from_ : List Int) (us : List Int) (y : Nat) : Prop := us ≠ [] ∧ (us.length : Int) ≤ A.n ∧ ∃ x ∈ from_, wayL A us x.toNat y

/-- None of some states leads to one that is looked for. -/
def NoWay (A : Aut) (from_ : List Int) (F : Nat → Bool) : Prop := ∀ x ∈ from_, ∀ us y, us ≠ [] → wayL A us x.toNat y → F y = false

/-- A good state leads back to itself. -/
def BackB (A : Aut) (F : Nat → Bool) : Prop := ∀ q : Nat, (q : Int) < A.n → (F q = true ↔ A.good.getD q false = true ∧ ∃ us, us ≠ [] ∧ wayL A us q q)

theorem wayL_letters {A : Aut} (h : RightW A) : ∀ {us : List Int} {x y : Nat}, wayL A us x y → ∀ c ∈ us, 0 ≤ c ∧ c < A.m
  | [], _, _, _ => fun c hc => (by cases hc)
  | c :: us, x, y, hw => by
    obtain ⟨z, ⟨s, hs, _, e2, _⟩, h2⟩ := hw
    intro d hd
    rcases List.mem_cons.1 hd with rfl | hd
    · have := h.steps s hs; omega
    · exact wayL_letters h h2 d hd

theorem wayL_end {A : Aut} (h : RightW A) : ∀ {us : List Int} {x y : Nat}, wayL A us x y → (x : Int) < A.n → (y : Int) < A.n
  | [], _, _, hw, hx => by have e : _ = _ := hw; rw [← e]; exact hx
  | c :: us, x, y, hw, hx => by
    obtain ⟨z, ⟨s, hs, _, _, e3⟩, h2⟩ := hw
    exact wayL_end h h2 (by have := h.steps s hs; omega)

/-- Where no first state leads back, and none leads to such a one, no word is taken. -/
theorem none_taken {A : Aut} {F : Nat → Bool} (hA : RightW A) (hF : BackB A F) (h0 : ∀ x ∈ A.first, F x.toNat = false) (h1 : NoWay A A.first F) (u : Nat → Int) : ¬ TakesU A u := by
  intro h
  obtain ⟨i, hi, us, vs, g, hu, hg, hv, hw⟩ := way_of_takes h
  have hm : A.first.getD i 0 ∈ A.first := getD_mem hi
  have hlt : (g : Int) < A.n := wayL_end hA hu (by have := hA.first _ hm; omega)
  have hFg : F g = true := (hF g hlt).2 ⟨hg, vs, List.length_pos_iff.1 hv, hw⟩
  by_cases hn : us = []
  · subst hn
    have e : (A.first.getD i 0).toNat = g := hu
    rw [← e, h0 _ hm] at hFg
    cases hFg
  · rw [h1 _ hm us g hn hu] at hFg
    cases hFg

/-- A way to a good state, and from there back, is taken. -/
theorem some_taken {A : Aut} {us vs : List Int} {g : Nat} (h1 : (∃ x ∈ A.first, wayL A us x.toNat g)) (hg : A.good.getD g false = true) (h2 : wayL A vs g g) (hv : vs ≠ []) : TakesU A (lat us vs) := by
  obtain ⟨x, hx, hw⟩ := h1
  obtain ⟨i, hi, rfl⟩ := List.mem_iff_getElem.1 hx
  exact takes_of_way (i := i) hi (by rw [show A.first.getD i 0 = A.first[i] by simp [List.getD, hi]]; exact hw) hg h2 (List.length_pos_iff.2 hv)

/-- What is to be gone through: those from which the search began, then those that were met. -/
def XS (from_ : List Int) (ord : List Nat) : List Int := from_ ++ ord.map (fun q : Nat => (q : Int))

/-- The same within the steps of one state: those that were gone by lead to what was met. -/
structure LookI (A : Aut) (N : Nat) (F : Nat → Bool) (from_ : List Int) (ord : List Nat) (by_ : Nat → Stp) (k : Nat) (pre : List Stp) : Prop where
  look : Look A N F from_ ord by_ k
  here : ∀ s ∈ pre, ∃ y ∈ ord, s.t = (y : Nat)

theorem XS_len (from_ : List Int) (ord : List Nat) : (XS from_ ord).length = from_.length + ord.length := by simp [XS]

theorem XS_more {from_ : List Int} {ord : List Nat} {t k : Nat} (h : k < from_.length + ord.length) : (XS from_ (ord ++ [t])).getD k 0 = (XS from_ ord).getD k 0 := by
  unfold XS
  rw [List.map_append, ← List.append_assoc]
  exact getD_append_left (by simp; omega)

theorem XS_snoc (from_ : List Int) (ord : List Nat) (t : Nat) : XS from_ (ord ++ [t]) = XS from_ ord ++ [(t : Int)] := by
  unfold XS
  rw [List.map_append, ← List.append_assoc]
  rfl

theorem XS_at {from_ : List Int} {ord : List Nat} {k : Nat} (h : k < from_.length + ord.length) : (XS from_ ord).getD k 0 ∈ from_ ∨ ∃ q ∈ ord, (XS from_ ord).getD k 0 = (q : Nat) := by
  have hm : (XS from_ ord).getD k 0 ∈ XS from_ ord := getD_mem (by rw [XS_len]; exact h)
  unfold XS at hm ⊢
  rcases List.mem_append.1 hm with h1 | h1
  · exact Or.inl h1
  · obtain ⟨q, hq, e⟩ := List.mem_map.1 h1
    exact Or.inr ⟨q, hq, e.symm⟩

theorem look_nil (A : Aut) (N : Nat) (F : Nat → Bool) (from_ : List Int) (by_ : Nat → Stp) : Look A N F from_ [] by_ 0 := ⟨ByOk.nil A from_ by_, fun q h => (by cases h), fun q h => (by cases h), fun j h => absurd h (Nat.not_lt_zero _)⟩

theorem Look.begin_ {A : Aut} {N : Nat} {F : Nat → Bool} {from_ : List Int} {ord : List Nat} {by_ : Nat → Stp} {k : Nat} (h : Look A N F from_ ord by_ k) : LookI A N F from_ ord by_ k [] := ⟨h, fun s hs => (by cases hs)⟩

theorem LookI.skip {A : Aut} {N : Nat} {F : Nat → Bool} {from_ : List Int} {ord : List Nat} {by_ : Nat → Stp} {k : Nat} {pre : List Stp} (h : LookI A N F from_ ord by_ k pre) {s : Stp} {t : Nat} (ht : s.t = t) (hm : t ∈ ord) : LookI A N F from_ ord by_ k (pre ++ [s]) :=
  ⟨h.look, fun x hx => by
    rcases List.mem_append.1 hx with h1 | h1
    · exact h.here x h1
    · rw [List.mem_singleton] at h1
      subst h1
      exact ⟨t, hm, ht⟩⟩

theorem LookI.new {A : Aut} {N : Nat} {F : Nat → Bool} {from_ : List Int} {ord : List Nat} {by_ : Nat → Stp} {k : Nat} {pre : List Stp} (h : LookI A N F from_ ord by_ k pre) (hk : k < from_.length + ord.length) {s : Stp} {t : Nat} (hs : s ∈ A.steps) (ht : s.t = t) (hn : t ∉ ord) (hfx : s.f = (XS from_ ord).getD k 0) : ByOk A from_ (ord ++ [t]) (setBy by_ s) := by
  refine h.look.ok.meet hs ht hn ?_
  rw [hfx]
  exact XS_at hk

theorem LookI.meet {A : Aut} {N : Nat} {F : Nat → Bool} {from_ : List Int} {ord : List Nat} {by_ : Nat → Stp} {k : Nat} {pre : List Stp} (h : LookI A N F from_ ord by_ k pre) (hk : k < from_.length + ord.length) {s : Stp} {t : Nat} (hs : s ∈ A.steps) (ht : s.t = t) (htN : t < N) (hn : t ∉ ord) (hfx : s.f = (XS from_ ord).getD k 0) (hF : F t = false) : LookI A N F from_ (ord ++ [t]) (setBy by_ s) k (pre ++ [s]) := by
  refine ⟨⟨h.new hk hs ht hn hfx, fun q hq => ?_, fun q hq => ?_, fun j hj x hx e => ?_⟩, fun x hx => ?_⟩
  · rcases List.mem_append.1 hq with h1 | h1
    · exact h.look.range q h1
    · rw [List.mem_singleton] at h1; omega
  · rcases List.mem_append.1 hq with h1 | h1
    · exact h.look.not q h1
    · rw [List.mem_singleton] at h1; rw [h1]; exact hF
  · have e2 : x.f = (XS from_ ord).getD j 0 := by rw [← XS_more (t := t) (by omega)]; exact e
    obtain ⟨y, hy, e3⟩ := h.look.closed j hj x hx e2
    exact ⟨y, List.mem_append_left _ hy, e3⟩
  · rcases List.mem_append.1 hx with h1 | h1
    · obtain ⟨y, hy, e3⟩ := h.here x h1
      exact ⟨y, List.mem_append_left _ hy, e3⟩
    · rw [List.mem_singleton] at h1
      subst h1
      exact ⟨t, List.mem_append_right _ (List.mem_singleton.2 rfl), ht⟩

theorem LookI.done {A : Aut} {N : Nat} {F : Nat → Bool} {from_ : List Int} {ord : List Nat} {by_ : Nat → Stp} {k : Nat} {pre : List Stp} (h : LookI A N F from_ ord by_ k pre) (hp : ∀ s ∈ A.steps, s.f = (XS from_ ord).getD k 0 → s ∈ pre) : Look A N F from_ ord by_ (k + 1) :=
  ⟨h.look.ok, h.look.range, h.look.not, fun j hj s hs e => by
    by_cases ej : j = k
    · subst ej
      exact h.here s (hp s hs e)
    · exact h.look.closed j (by omega) s hs e⟩

theorem Look.noWay {A : Aut} {N : Nat} {F : Nat → Bool} {from_ : List Int} {ord : List Nat} {by_ : Nat → Stp} {k : Nat} (h : Look A N F from_ ord by_ k) (hk : from_.length + ord.length ≤ k) (h0 : ∀ x ∈ from_, 0 ≤ x) : NoWay A from_ F :=
  fun _ hx _ _ hne hw => h.done hk h0 hx hw hne

end Go.Proofs.YtpiacnnifdjlkabDoor
