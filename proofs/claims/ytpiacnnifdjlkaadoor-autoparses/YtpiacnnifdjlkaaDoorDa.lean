/-
  What Go's library answers where package auto calls it: numbers' numerals, texts parted.
-/
import Derived.Test.YtpiacnnifdjlkaaDoorCu
import Derived.Shelf.Strconv.AppendIntPublic10
import Derived.Shelf.Strconv.Itoa3
import Derived.Shelf.Strings.Cut
import Derived.Shelf.Strings.Split
import Derived.Ground.NamesProg
/-
  SameAuto of the reference, at two automata that read alike: true.
-/
namespace Go.Proofs.YtpiacnnifdjlkaaDoor
open Go.RowKit Go.Sort

set_option maxRecDepth 100000 in
set_option maxHeartbeats 2000000 in
theorem sameAuto_same {w : World} {v v' : Value} {A : Aut} (h : AutV w v A) (h' : AutV w v' A) :
    Calls Tryd.prog 23 #[v, v'] w fun e w' => e = .returned (.bool true) ∧ Below w.heap.size w w' := by
  obtain ⟨fv, gv, sv, rfl, i1, i2, i3⟩ := h
  obtain ⟨fv', gv', sv', rfl, k1, k2, k3⟩ := h'
  have HI := hide (fun w1 (hb : Below w.heap.size w w1) => sameInts_any (i1.below hb) (k1.below hb))
  obtain ⟨a1, c1, rfl, -⟩ := i1
  obtain ⟨b1, d1, rfl, -⟩ := k1
  obtain ⟨a2, c2, rfl, hm2, hc2, -⟩ := i2
  obtain ⟨b2, d2, rfl, -, hk2, -⟩ := k2
  obtain ⟨a3, c3, rfl, hm3, hc3, -⟩ := i3
  obtain ⟨b3, d3, rfl, -, hk3, -⟩ := k3
  unfold maxLen at hm2 hm3
  have Hc2 := hide hc2
  have Hk2 := hide hk2
  have Hc3 := hide hc3
  have Hk3 := hide hk3
  clear hc2 hk2 hc3 hk3
  obtain ⟨n, m, first, good, steps⟩ := A
  dsimp only at *
  have ed : decide (first = first) = true := by simp
  rw [ed] at HI
  generalize first.length = L1 at *
  generalize hl2 : good.length = L2 at *
  generalize hl3 : steps.length = L3 at *
  have HL2 := hide hl2
  have HL3 := hide hl3
  clear hl2 hl3 ed
  go_enter Tryd.func23, Tryd.ntmps23
  have hbW : Below w.heap.size w ((w.alloc (Obj.cells #[Value.int .i64 n, .int .i64 m, .slice a1 L1 c1, .slice a2 L2 c2, .slice a3 L3 c3] 26)).alloc (Obj.cells #[Value.int .i64 n, .int .i64 m, .slice b1 L1 d1, .slice b2 L2 d2, .slice b3 L3 d3] 26)) := (by repeat (first | exact Below.refl _ _ | assumption | refine below_drewN ?_ _ | refine Below.drew ?_ | refine Below.alloc ?_ (by simp <;> omega) _ | refine below_trans ?_ (by assumption)))
  go_wp2_with (go_at_call 60; refine (HI.out _ hbW).mono ?_; rintro e w' ⟨rfl, nd, rfl⟩)
  have q := two_alloc w (Obj.cells #[Value.int .i64 n, .int .i64 m, .slice a1 L1 c1, .slice a2 L2 c2, .slice a3 L3 c3] 26) (Obj.cells #[Value.int .i64 n, .int .i64 m, .slice b1 L1 d1, .slice b2 L2 d2, .slice b3 L3 d3] 26)
  have hbX : Below w.heap.size w (((w.alloc (Obj.cells #[Value.int .i64 n, .int .i64 m, .slice a1 L1 c1, .slice a2 L2 c2, .slice a3 L3 c3] 26)).alloc (Obj.cells #[Value.int .i64 n, .int .i64 m, .slice b1 L1 d1, .slice b2 L2 d2, .slice b3 L3 d3] 26)).drewN nd) := below_drewN hbW _
  have q1 : (((w.alloc (Obj.cells #[Value.int .i64 n, .int .i64 m, .slice a1 L1 c1, .slice a2 L2 c2, .slice a3 L3 c3] 26)).alloc (Obj.cells #[Value.int .i64 n, .int .i64 m, .slice b1 L1 d1, .slice b2 L2 d2, .slice b3 L3 d3] 26)).drewN nd).heap[w.heap.size]? = some (Obj.cells #[Value.int .i64 n, .int .i64 m, .slice a1 L1 c1, .slice a2 L2 c2, .slice a3 L3 c3] 26) := q.1
  have q2 : (((w.alloc (Obj.cells #[Value.int .i64 n, .int .i64 m, .slice a1 L1 c1, .slice a2 L2 c2, .slice a3 L3 c3] 26)).alloc (Obj.cells #[Value.int .i64 n, .int .i64 m, .slice b1 L1 d1, .slice b2 L2 d2, .slice b3 L3 d3] 26)).drewN nd).heap[w.heap.size + 1]? = some (Obj.cells #[Value.int .i64 n, .int .i64 m, .slice b1 L1 d1, .slice b2 L2 d2, .slice b3 L3 d3] 26) := q.2
  have hszX : (((w.alloc (Obj.cells #[Value.int .i64 n, .int .i64 m, .slice a1 L1 c1, .slice a2 L2 c2, .slice a3 L3 c3] 26)).alloc (Obj.cells #[Value.int .i64 n, .int .i64 m, .slice b1 L1 d1, .slice b2 L2 d2, .slice b3 L3 d3] 26)).drewN nd).heap.size = w.heap.size + 2 := by simp
  generalize ((w.alloc (Obj.cells #[Value.int .i64 n, .int .i64 m, .slice a1 L1 c1, .slice a2 L2 c2, .slice a3 L3 c3] 26)).alloc (Obj.cells #[Value.int .i64 n, .int .i64 m, .slice b1 L1 d1, .slice b2 L2 d2, .slice b3 L3 d3] 26)).drewN nd = W0 at hbX q1 q2 hszX ⊢
  clear q hbW HI
  go_loopw [5] (fun s5 wr => ∃ i : Nat, s5 = .int .i64 i ∧ i ≤ L2 ∧ Below W0.heap.size W0 wr) (fun s5 _ => L2 - (intOf s5).toNat)
  case atStart => exact ⟨0, rfl, Nat.zero_le _, Below.refl _ _⟩
  case round =>
    obtain ⟨i, rfl, hi, hbr⟩ := hrel
    have e0 := belowRow hbr q1
    have e1 := belowRow hbr q2
    have hbR := below_trans hbX hbr
    have x3 := cell_of_row wr _ 3 _ _ _ e0
    have y3 := cell_of_row wr _ 3 _ _ _ e1
    by_cases hlt : i < L2
    · have hls : i < good.length := by rw [HL2.out]; exact hlt
      obtain ⟨b, off, rfl, hcell⟩ : ∃ b off, a2 = some ⟨b, off, none⟩ ∧ ∀ i, i < L2 → w.cell? ⟨b, off + i, none⟩ = some (.bool (good.getD i false)) := by
        rcases Hc2.out with h | h
        · rw [h] at hls; simp at hls
        · exact h
      obtain ⟨b', off', rfl, hcell'⟩ : ∃ b off, b2 = some ⟨b, off, none⟩ ∧ ∀ i, i < L2 → w.cell? ⟨b, off + i, none⟩ = some (.bool (good.getD i false)) := by
        rcases Hk2.out with h | h
        · rw [h] at hls; simp at hls
        · exact h
      have d0 := hcell i hlt
      have d0 := (hbR.cell (World.block_lt_of_cell? w _ d0)).trans d0
      have d1 := hcell' i hlt
      have d1 := (hbR.cell (World.block_lt_of_cell? w _ d1)).trans d1
      clear hcell hcell'
      generalize good.getD i false = z at *
      have k3 := cell_regrown x3
      have l3 := cell_regrown y3
      have j0 := cell_regrown d0
      have j1 := cell_regrown d1
      have ez : (z != z) = false := by simp
      clear e0 e1 d0 d1
      go_wp2_with (fail)
      refine wp_region_quiet_below (by kernel_rfl) (by kernel_rfl) ?_
      (repeat (go_big_quiet_step (fail)))
      refine wpQuiet_nil ?_
      intro _ hw'
      obtain ⟨⟨dq, osq⟩, hw''⟩ := hw'
      subst hw''
      have HBq := hide (below_trans hbr (below_regrown wr dq osq))
      clear k3 l3 j0 j1 x3 y3 hbr hbR
      dsimp only
      generalize grow (redrawn wr dq) osq = wq at HBq ⊢
      go_wp2
      go_roundw
      case rel => exact ⟨i + 1, by go_num, by omega, HBq.out⟩
      case measure => simp [intOf]; omega
    · obtain rfl : L2 = i := by omega
      clear hi
      go_wp2_with (fail)
      go_loopw [6] (fun s6 wr => ∃ i : Nat, s6 = .int .i64 i ∧ i ≤ L3 ∧ Below W0.heap.size W0 wr) (fun s6 _ => L3 - (intOf s6).toNat)
      case atStart => exact ⟨0, rfl, Nat.zero_le _, hbr⟩
      case round =>
        obtain ⟨i, rfl, hi, hbr⟩ := hrel
        clear e0 e1 hbR x3 y3
        have e0 := belowRow hbr q1
        have e1 := belowRow hbr q2
        have hbR := below_trans hbX hbr
        have x4 := cell_of_row wr _ 4 _ _ _ e0
        have y4 := cell_of_row wr _ 4 _ _ _ e1
        by_cases hlt : i < L3
        · have hls : i < steps.length := by rw [HL3.out]; exact hlt
          obtain ⟨b, off, rfl, hcell⟩ : ∃ b off, a3 = some ⟨b, off, none⟩ ∧ ∀ i, i < L3 → w.cell? ⟨b, off + i * 3, none⟩ = some (.int .i64 (steps.getD i stp0).f) ∧ w.cell? ⟨b, off + i * 3 + 1, none⟩ = some (.int .i64 (steps.getD i stp0).l) ∧ w.cell? ⟨b, off + i * 3 + 2, none⟩ = some (.int .i64 (steps.getD i stp0).t) := by
            rcases Hc3.out with h | h
            · rw [h] at hls; simp at hls
            · exact h
          obtain ⟨b', off', rfl, hcell'⟩ : ∃ b off, b3 = some ⟨b, off, none⟩ ∧ ∀ i, i < L3 → w.cell? ⟨b, off + i * 3, none⟩ = some (.int .i64 (steps.getD i stp0).f) ∧ w.cell? ⟨b, off + i * 3 + 1, none⟩ = some (.int .i64 (steps.getD i stp0).l) ∧ w.cell? ⟨b, off + i * 3 + 2, none⟩ = some (.int .i64 (steps.getD i stp0).t) := by
            rcases Hk3.out with h | h
            · rw [h] at hls; simp at hls
            · exact h
          obtain ⟨u0, u1, u2⟩ := hcell i hlt
          obtain ⟨v0, v1, v2⟩ := hcell' i hlt
          have j0 := cell_regrown ((hbR.cell (World.block_lt_of_cell? w _ u0)).trans u0)
          have j1 := cell_regrown ((hbR.cell (World.block_lt_of_cell? w _ u1)).trans u1)
          have j2 := cell_regrown ((hbR.cell (World.block_lt_of_cell? w _ u2)).trans u2)
          have l0 := cell_regrown ((hbR.cell (World.block_lt_of_cell? w _ v0)).trans v0)
          have l1 := cell_regrown ((hbR.cell (World.block_lt_of_cell? w _ v1)).trans v1)
          have l2 := cell_regrown ((hbR.cell (World.block_lt_of_cell? w _ v2)).trans v2)
          have k4 := cell_regrown x4
          have m4 := cell_regrown y4
          clear hcell hcell' u0 u1 u2 v0 v1 v2 e0 e1
          generalize steps.getD i stp0 = st at *
          obtain ⟨sf, sl, st⟩ := st
          dsimp only at *
          go_wp2_with (fail)
          refine wp_region_quiet_below (by kernel_rfl) (by kernel_rfl) ?_
          (repeat (go_big_quiet_step (fail)))
          refine wpQuiet_nil ?_
          intro _ hw'
          obtain ⟨⟨dq, osq⟩, hw''⟩ := hw'
          subst hw''
          have HBq := hide (below_trans hbr (below_regrown wr dq osq))
          clear j0 j1 j2 l0 l1 l2 k4 m4 x4 y4 hbr hbR
          dsimp only
          generalize grow (redrawn wr dq) osq = wq at HBq ⊢
          go_wp2
          go_roundw
          case rel => exact ⟨i + 1, by go_num, by omega, HBq.out⟩
          case measure => simp [intOf]; omega
        · obtain rfl : L3 = i := by omega
          clear hi
          go_wp2
          go_ret
          exact ⟨rfl, hbR⟩
end Go.Proofs.YtpiacnnifdjlkaaDoor

/-
  autoIs of the statements, where it is so: true.
-/
namespace Go.Proofs.YtpiacnnifdjlkaaDoor
open Go.RowKit Go.Sort

def zeroA : Aut := ⟨0, 0, [], [], []⟩

theorem boolSl_nil (w : World) : BoolSl w (.slice none 0 0) [] := ⟨none, 0, rfl, by simp [maxLen], Or.inl rfl, fun _ => rfl, by simp⟩
theorem stepSl_nil (w : World) : StepSl w (.slice none 0 0) [] := ⟨none, 0, rfl, by simp [maxLen], Or.inl rfl, fun _ => rfl, by simp⟩

theorem autV_zero (w : World) : AutV w (.agg #[.int .i64 0, .int .i64 0, .slice none 0 0, .slice none 0 0, .slice none 0 0]) zeroA := ⟨_, _, _, rfl, intSl_nil w, boolSl_nil w, stepSl_nil w⟩

set_option maxRecDepth 100000 in
set_option maxHeartbeats 1000000 in
theorem autoIs_same {w : World} {v v' : Value} {A A' : Aut} (c : Int) (h : AutV w v A) (h' : AutV w v' A') (h0 : c = 0 → A' = A) (h1 : c ≠ 0 → A = zeroA) :
    Calls Tryd.prog 20 #[v, .int .i64 c, .int .i64 c, v'] w fun e w' => e = .returned (.bool true) ∧ Below w.heap.size w w' := by
  have HS := hide (fun (hc : c = 0) w1 (hb : Below w.heap.size w w1) => sameAuto_same (h.below hb) (by have := h'.below hb; rw [h0 hc] at this; exact this))
  have HZ := hide (fun (hc : c ≠ 0) w1 (hb : Below w.heap.size w w1) => sameAuto_same (h.below hb) (by rw [h1 hc]; exact autV_zero w1))
  obtain ⟨fv, gv, sv, rfl, i1, i2, i3⟩ := h
  obtain ⟨fv', gv', sv', rfl, k1, k2, k3⟩ := h'
  obtain ⟨a1, c1, rfl, -⟩ := i1
  obtain ⟨b1, d1, rfl, -⟩ := k1
  obtain ⟨a2, c2, rfl, -⟩ := i2
  obtain ⟨b2, d2, rfl, -⟩ := k2
  obtain ⟨a3, c3, rfl, -⟩ := i3
  obtain ⟨b3, d3, rfl, -⟩ := k3
  clear h0 h1
  generalize A.n = n at *
  generalize A.m = m at *
  generalize A.first.length = L1 at *
  generalize A.good.length = L2 at *
  generalize A.steps.length = L3 at *
  generalize A'.n = n' at *
  generalize A'.m = m' at *
  generalize A'.first.length = M1 at *
  generalize A'.good.length = M2 at *
  generalize A'.steps.length = M3 at *
  by_cases hc : c = 0
  · have HS' := hide (HS.out hc)
    subst hc
    clear HS HZ
    go_enter Tryd.func20, Tryd.ntmps20
    go_wp2_with (fail)
    have hb : Below w.heap.size w ((w.alloc (Obj.cells #[Value.int .i64 n, .int .i64 m, .slice a1 L1 c1, .slice a2 L2 c2, .slice a3 L3 c3] 26)).alloc (Obj.cells #[Value.int .i64 n', .int .i64 m', .slice b1 M1 d1, .slice b2 M2 d2, .slice b3 M3 d3] 26)) := (by repeat (first | exact Below.refl _ _ | assumption | refine below_drewN ?_ _ | refine Below.drew ?_ | refine Below.alloc ?_ (by simp <;> omega) _ | refine below_trans ?_ (by assumption)))
    refine (HS'.out _ hb).mono ?_
    rintro e w1 ⟨rfl, hb1⟩
    have B1 := below_trans hb hb1
    go_wp2
    go_ret
    exact ⟨rfl, B1⟩
  · have HZ' := hide (HZ.out hc)
    have hd : (c != 0) = true := by simpa using hc
    have hd2 : (c == c) = true := by simp
    clear HS HZ hc
    go_enter Tryd.func20, Tryd.ntmps20
    go_wp2_with (fail)
    have hb : Below w.heap.size w ((w.alloc (Obj.cells #[Value.int .i64 n, .int .i64 m, .slice a1 L1 c1, .slice a2 L2 c2, .slice a3 L3 c3] 26)).alloc (Obj.cells #[Value.int .i64 0, .int .i64 0, .slice none 0 0, .slice none 0 0, .slice none 0 0] 26)) := (by repeat (first | exact Below.refl _ _ | assumption | refine below_drewN ?_ _ | refine Below.drew ?_ | refine Below.alloc ?_ (by simp <;> omega) _ | refine below_trans ?_ (by assumption)))
    refine (HZ'.out _ hb).mono ?_
    rintro e w1 ⟨rfl, hb1⟩
    have B1 := below_trans hb hb1
    go_wp2
    go_ret
    exact ⟨rfl, B1⟩
end Go.Proofs.YtpiacnnifdjlkaaDoor

/-
  append of one element, of whatever type, to a slice of the call's own: in a plain region, and in one that draws its order.
-/
namespace Go.Proofs.YtpiacnnifdjlkaaDoor
open Go.RowKit Go.Sort

/-- What is known of an element's type. -/
structure ElT (t e : TypeId) (sz by_ : Nat) : Prop where
  under : Tryd.prog.underlying t = some (.slice e)
  info : ∃ i z, Tryd.prog.info? e = some i ∧ i.zero = some z ∧ z.cells.size = sz ∧ i.size = sz ∧ i.bytes = by_
  pos : 0 < sz
  few : sz ≤ by_ ∧ by_ ≤ 64

theorem run_append_one (w : World) (ty t e base n sz by_ : Nat) (hT : ElT t e sz by_) (v : Value) (xs : List Value) (hown : w.ownsRow base e sz v n xs) (B c : Nat) (news : List Value) (hnl : news.length = sz) (hc : ∀ j u, news[j]? = some u → w.cell? ⟨B, j, none⟩ = some u) (h1 : ∀ u ∈ news, u.oneCell' = true) (hn : n ≤ 900000) (hbase : base ≤ w.heap.size) :
    ∃ g' cap' w', (Builtin.append_ #[t, t] ty #[v, .slice (some ⟨B, 0, none⟩) 1 c]).run Tryd.prog w = .ok (.slice (some ⟨g', 0, none⟩) (n + 1) cap') w' ∧ w'.ownsRow base e sz (.slice (some ⟨g', 0, none⟩) (n + 1) cap') (n + 1) (xs ++ news) ∧ w.grownBy w' v.ownBlock ∧ (v.ownBlock = some g' ∨ g' = w.heap.size) ∧ base ≤ g' := by
  obtain ⟨i, z, hi, hz, hzs, his, hib⟩ := hT.info
  have hp := hT.pos
  have hf := hT.few
  obtain ⟨v', w', hr, h2, h3, _, h5⟩ := run_append_own_at (P := Tryd.prog) w base t ty e i z sz by_ hT.under hi hz his hib hzs hp v n xs hown ⟨B, 0, none⟩ 1 c news (by omega) (fun j u hu => by rw [add_none, Nat.zero_add]; exact hc j u hu) h1 (by unfold maxLen; omega) (by have : (n + 1) * by_ ≤ 900001 * 64 := Nat.mul_le_mul (by omega) hf.2; omega) hbase
  obtain ⟨g', cap', rfl, hb⟩ := owns_slice h2
  refine ⟨g', cap', w', hr, h2, h3, ?_, hb⟩
  rcases h5 with h5 | h5
  · left; rw [← h5]; rfl
  · right; simpa [Value.ownBlock] using h5

theorem step_append_one {ops : Array Oper} {o : Oper} {a : Act} {K : Act → World → Prop} {Q : Exit → Act → World → Prop} {E : Prop} {w : World} (hgd : o.guard = none) (s x : Operand) (t e sz by_ : Nat)
    (ho : o.op = .call { callee := .builtin .append, args := #[s, x], argTypes := #[t, t] }) (hT : ElT t e sz by_) (base n : Nat) (v : Value) (xs : List Value) (hs : a.eval s = v)
    (hown : w.ownsRow base e sz v n xs) (B c : Nat) (news : List Value) (hx : a.eval x = .slice (some ⟨B, 0, none⟩) 1 c) (hnl : news.length = sz) (hc : ∀ j u, news[j]? = some u → w.cell? ⟨B, j, none⟩ = some u) (h1 : ∀ u ∈ news, u.oneCell' = true) (hn : n ≤ 900000) (hbase : base ≤ w.heap.size)
    (h : ∀ g' cap' w', w'.ownsRow base e sz (.slice (some ⟨g', 0, none⟩) (n + 1) cap') (n + 1) (xs ++ news) → w.grownBy w' v.ownBlock → (v.ownBlock = some g' ∨ g' = w.heap.size) → base ≤ g' → K (a.put o.dst (.slice (some ⟨g', 0, none⟩) (n + 1) cap')) w') :
    if Region.wanted o (yielded ops a.tmps) = true then Oper.wp Tryd.prog o a w K Q else E := by
  have hw : Region.wanted o (yielded ops a.tmps) = true := by simp [Region.wanted, hgd]
  rw [if_pos hw]
  obtain ⟨g', cap', w', hr, h2, h3, h4, h5⟩ := run_append_one w o.type t e base n sz by_ hT v xs hown B c news hnl hc h1 hn hbase
  unfold Oper.wp execOp
  simp only [ho, resolve, invoke, builtin, Sem.run_bind, Sem.run_pure, Result.andThen_ok, List.map_toArray, List.map_cons, List.map_nil, hs, hx, hr]
  exact h g' cap' w' h2 h3 h4 h5

theorem elInt : ElT 22 3 1 8 := ⟨Tryd.underlying22, ⟨_, .int .i64 0, intInfo, by kernel_rfl, rfl, by kernel_rfl, by kernel_rfl⟩, by decide, by decide⟩
theorem elBool : ElT 23 4 1 1 := ⟨Tryd.underlying23, ⟨_, .bool false, boolInfo, by kernel_rfl, rfl, by kernel_rfl, by kernel_rfl⟩, by decide, by decide⟩
theorem stepInfo : Tryd.prog.info? 81 = some Tryd.t81 := by kernel_rfl
theorem elStep : ElT 24 81 3 24 := ⟨Tryd.underlying24, ⟨_, .agg #[.int .i64 0, .int .i64 0, .int .i64 0], stepInfo, by kernel_rfl, rfl, by kernel_rfl, by kernel_rfl⟩, by decide, by decide⟩

/-- Rows of unlike elements lie in unlike blocks. -/
theorem rows_apart {w : World} {base base' e e' sz sz' n n' : Nat} {v v' : Value} {xs xs' : List Value} (h : w.ownsRow base e sz v n xs) (h' : w.ownsRow base' e' sz' v' n' xs') (hne : e ≠ e') {r : Nat} (hr : v.ownBlock = some r) (hr' : v'.ownBlock = some r) : False := by
  rcases h.2 with ⟨rfl, _⟩ | ⟨g, cap, cur, rfl, _, hg, _⟩
  · cases hr
  · rcases h'.2 with ⟨rfl, _⟩ | ⟨g', cap', cur', rfl, _, hg', _⟩
    · cases hr'
    · have e1 : g = r := by simpa [Value.ownBlock] using hr
      have e2 : g' = r := by simpa [Value.ownBlock] using hr'
      subst e1
      subst e2
      rw [hg] at hg'
      cases hg'
      exact hne rfl

/-- The row that the call owns is a row of its elements. -/
theorem owns_cells {w : World} {base : Nat} {e : TypeId} {size : Nat} {v : Value} {n : Nat} {xs : List Value} (h : w.ownsRow base e size v n xs) : ∀ g, v.ownBlock = some g → ∃ c fz, w.heap[g]? = some (.cells c e fz) := by
  intro g hg
  rcases h.2 with ⟨rfl, _⟩ | ⟨g', cap, cur, rfl, _, hc, _⟩
  · cases hg
  · have : g' = g := by simpa [Value.ownBlock] using hg
    subst this
    exact ⟨_, _, hc⟩

theorem wpList_append_one (w : World) {ops : Array Oper} {rest : List Oper} {o : Oper} {a : Act} {Q : Exit → Act → World → Prop} (hgd : o.guard = none) (s x : Operand) (t e sz by_ : Nat)
    (ho : o.op = .call { callee := .builtin .append, args := #[s, x], argTypes := #[t, t] }) (hT : ElT t e sz by_) (base n : Nat) (v : Value) (xs : List Value) (hs : a.eval s = v)
    (hown : w.ownsRow base e sz v n xs) (B c : Nat) (news : List Value) (hx : a.eval x = .slice (some ⟨B, 0, none⟩) 1 c) (hnl : news.length = sz) (hc : ∀ j u, news[j]? = some u → w.cell? ⟨B, j, none⟩ = some u) (h1 : ∀ u ∈ news, u.oneCell' = true) (hn : n ≤ 900000) (hbase : base ≤ w.heap.size)
    (h : ∀ g' cap' w', w'.ownsRow base e sz (.slice (some ⟨g', 0, none⟩) (n + 1) cap') (n + 1) (xs ++ news) → w.grownBy w' v.ownBlock → (v.ownBlock = some g' ∨ g' = w.heap.size) → base ≤ g' → wpList Tryd.prog ops Q rest (a.put o.dst (.slice (some ⟨g', 0, none⟩) (n + 1) cap')) w') : wpList Tryd.prog ops Q (o :: rest) a w := by
  obtain ⟨g', cap', w', hr, h2, h3, h4, h5⟩ := run_append_one w o.type t e base n sz by_ hT v xs hown B c news hnl hc h1 hn hbase
  refine wpList_plain hgd fun K hK => ?_
  unfold Oper.wp execOp
  simp only [ho, resolve, invoke, builtin, Sem.run_bind, Sem.run_pure, Result.andThen_ok, List.map_toArray, List.map_cons, List.map_nil, hs, hx, hr]
  exact hK _ _ (h g' cap' w' h2 h3 h4 h5)
end Go.Proofs.YtpiacnnifdjlkaaDoor

namespace Go.Proofs
open Go.Shelf

def YtpiacnnifdjlkaaDoor.laysAppendInt_ren : Go.Shelf.Ren := ⟨fun | 176 => 87 | 249 => 115 | 288 => 147 | 283 => 160 | 284 => 161 | 285 => 162 | 286 => 163 | 129 => 173 | 317 => 172 | 318 => 174 | 319 => 175 | 320 => 176 | 337 => 180 | 338 => 171 | n => n, fun | 37 => 106 | 2 => 2 | 3 => 3 | 53 => 141 | 4 => 4 | 9 => 9 | 171 => 195 | 0 => 0 | 173 => 198 | 212 => 205 | 51 => 206 | 5 => 5 | 20 => 20 | 213 => 207 | 46 => 188 | 232 => 217 | 233 => 211 | n => n, fun | 17 => 1 | 18 => 5 | 19 => 2 | n => n⟩
theorem YtpiacnnifdjlkaaDoor.laysAppendInt : Go.Proofs.LaysM.n176 Tryd.prog YtpiacnnifdjlkaaDoor.laysAppendInt_ren := {
  mixed := by kernel_rfl
  f129 := Tryd.func173.trans (congrArg some (by kernel_rfl))
  f176 := Tryd.func87.trans (congrArg some (by kernel_rfl))
  f249 := Tryd.func115.trans (congrArg some (by kernel_rfl))
  f283 := Tryd.func160.trans (congrArg some (by kernel_rfl))
  f284 := Tryd.func161.trans (congrArg some (by kernel_rfl))
  f285 := Tryd.func162.trans (congrArg some (by kernel_rfl))
  f286 := Tryd.func163.trans (congrArg some (by kernel_rfl))
  f288 := Tryd.func147.trans (congrArg some (by kernel_rfl))
  f317 := Tryd.func172.trans (congrArg some (by kernel_rfl))
  f318 := Tryd.func174.trans (congrArg some (by kernel_rfl))
  f319 := Tryd.func175.trans (congrArg some (by kernel_rfl))
  f320 := Tryd.func176.trans (congrArg some (by kernel_rfl))
  f337 := Tryd.func180.trans (congrArg some (by kernel_rfl))
  f338 := Tryd.func171.trans (congrArg some (by kernel_rfl))
  t0 := Tryd.underlying0
  a0 := Tryd.isAgg0
  z0 := Tryd.sizeOf0
  v0 := Tryd.zeroValue0
  t2 := Tryd.underlying2
  a2 := Tryd.isAgg2
  z2 := Tryd.sizeOf2
  v2 := Tryd.zeroValue2
  t3 := Tryd.underlying3
  a3 := Tryd.isAgg3
  z3 := Tryd.sizeOf3
  v3 := Tryd.zeroValue3
  t4 := Tryd.underlying4
  a4 := Tryd.isAgg4
  z4 := Tryd.sizeOf4
  v4 := Tryd.zeroValue4
  t5 := Tryd.underlying5
  a5 := Tryd.isAgg5
  z5 := Tryd.sizeOf5
  v5 := Tryd.zeroValue5
  t9 := Tryd.underlying9
  a9 := Tryd.isAgg9
  z9 := Tryd.sizeOf9
  v9 := Tryd.zeroValue9
  t20 := Tryd.underlying20
  a20 := Tryd.isAgg20
  z20 := Tryd.sizeOf20
  v20 := Tryd.zeroValue20
  t37 := Tryd.underlying106
  a37 := Tryd.isAgg106
  z37 := Tryd.sizeOf106
  v37 := Tryd.zeroValue106
  t46 := Tryd.underlying188
  a46 := Tryd.isAgg188
  z46 := Tryd.sizeOf188
  v46 := Tryd.zeroValue188
  t51 := Tryd.underlying206
  a51 := Tryd.isAgg206
  z51 := Tryd.sizeOf206
  v51 := Tryd.zeroValue206
  t53 := Tryd.underlying141
  a53 := Tryd.isAgg141
  z53 := Tryd.sizeOf141
  v53 := Tryd.zeroValue141
  t171 := Tryd.underlying195
  a171 := Tryd.isAgg195
  z171 := Tryd.sizeOf195
  v171 := Tryd.zeroValue195
  t173 := Tryd.underlying198
  a173 := Tryd.isAgg198
  z173 := Tryd.sizeOf198
  v173 := Tryd.zeroValue198
  t212 := Tryd.underlying205
  a212 := Tryd.isAgg205
  z212 := Tryd.sizeOf205
  v212 := Tryd.zeroValue205
  t213 := Tryd.underlying207
  a213 := Tryd.isAgg207
  z213 := Tryd.sizeOf207
  t232 := Tryd.underlying217
  a232 := Tryd.isAgg217
  z232 := Tryd.sizeOf217
  v232 := Tryd.zeroValue217
  t233 := Tryd.underlying211
  a233 := Tryd.isAgg211
  z233 := Tryd.sizeOf211
  v233 := Tryd.zeroValue211
  g17 := by kernel_rfl
  g18 := by kernel_rfl
  g19 := by kernel_rfl
  i0 := by kernel_rfl
  i2 := by kernel_rfl
  i3 := by kernel_rfl
  i4 := by kernel_rfl
  i5 := by kernel_rfl
  i9 := by kernel_rfl
  i20 := by kernel_rfl
  i37 := by kernel_rfl
  i46 := by kernel_rfl
  i51 := by kernel_rfl
  i53 := by kernel_rfl
  i171 := by kernel_rfl
  i173 := by kernel_rfl
  i212 := by kernel_rfl
  i232 := by kernel_rfl
  i233 := by kernel_rfl
  m17 := by kernel_rfl
  m18 := by kernel_rfl
  m19 := by kernel_rfl }
def YtpiacnnifdjlkaaDoor.laysItoa_ren : Go.Shelf.Ren := ⟨fun | 171 => 84 | 243 => 114 | 246 => 146 | 283 => 160 | 284 => 161 | 285 => 162 | 286 => 163 | 129 => 173 | 317 => 172 | 318 => 174 | 319 => 175 | 320 => 176 | 337 => 180 | 338 => 171 | n => n, fun | 3 => 3 | 9 => 9 | 2 => 2 | 4 => 4 | 171 => 195 | 0 => 0 | 53 => 141 | 37 => 106 | 5 => 5 | 173 => 198 | 212 => 205 | 51 => 206 | 20 => 20 | 213 => 207 | 46 => 188 | 232 => 217 | 233 => 211 | n => n, fun | 17 => 1 | 18 => 5 | 19 => 2 | n => n⟩
theorem YtpiacnnifdjlkaaDoor.laysItoa : Go.Proofs.LaysM.n171 Tryd.prog YtpiacnnifdjlkaaDoor.laysItoa_ren := {
  mixed := by kernel_rfl
  f129 := Tryd.func173.trans (congrArg some (by kernel_rfl))
  f171 := Tryd.func84.trans (congrArg some (by kernel_rfl))
  f243 := Tryd.func114.trans (congrArg some (by kernel_rfl))
  f246 := Tryd.func146.trans (congrArg some (by kernel_rfl))
  f283 := Tryd.func160.trans (congrArg some (by kernel_rfl))
  f284 := Tryd.func161.trans (congrArg some (by kernel_rfl))
  f285 := Tryd.func162.trans (congrArg some (by kernel_rfl))
  f286 := Tryd.func163.trans (congrArg some (by kernel_rfl))
  f317 := Tryd.func172.trans (congrArg some (by kernel_rfl))
  f318 := Tryd.func174.trans (congrArg some (by kernel_rfl))
  f319 := Tryd.func175.trans (congrArg some (by kernel_rfl))
  f320 := Tryd.func176.trans (congrArg some (by kernel_rfl))
  f337 := Tryd.func180.trans (congrArg some (by kernel_rfl))
  f338 := Tryd.func171.trans (congrArg some (by kernel_rfl))
  t0 := Tryd.underlying0
  a0 := Tryd.isAgg0
  z0 := Tryd.sizeOf0
  v0 := Tryd.zeroValue0
  t2 := Tryd.underlying2
  a2 := Tryd.isAgg2
  z2 := Tryd.sizeOf2
  v2 := Tryd.zeroValue2
  t3 := Tryd.underlying3
  a3 := Tryd.isAgg3
  z3 := Tryd.sizeOf3
  v3 := Tryd.zeroValue3
  t4 := Tryd.underlying4
  a4 := Tryd.isAgg4
  z4 := Tryd.sizeOf4
  v4 := Tryd.zeroValue4
  t5 := Tryd.underlying5
  a5 := Tryd.isAgg5
  z5 := Tryd.sizeOf5
  v5 := Tryd.zeroValue5
  t9 := Tryd.underlying9
  a9 := Tryd.isAgg9
  z9 := Tryd.sizeOf9
  v9 := Tryd.zeroValue9
  t20 := Tryd.underlying20
  a20 := Tryd.isAgg20
  z20 := Tryd.sizeOf20
  v20 := Tryd.zeroValue20
  t37 := Tryd.underlying106
  a37 := Tryd.isAgg106
  z37 := Tryd.sizeOf106
  v37 := Tryd.zeroValue106
  t46 := Tryd.underlying188
  a46 := Tryd.isAgg188
  z46 := Tryd.sizeOf188
  v46 := Tryd.zeroValue188
  t51 := Tryd.underlying206
  a51 := Tryd.isAgg206
  z51 := Tryd.sizeOf206
  v51 := Tryd.zeroValue206
  t53 := Tryd.underlying141
  a53 := Tryd.isAgg141
  z53 := Tryd.sizeOf141
  v53 := Tryd.zeroValue141
  t171 := Tryd.underlying195
  a171 := Tryd.isAgg195
  z171 := Tryd.sizeOf195
  v171 := Tryd.zeroValue195
  t173 := Tryd.underlying198
  a173 := Tryd.isAgg198
  z173 := Tryd.sizeOf198
  v173 := Tryd.zeroValue198
  t212 := Tryd.underlying205
  a212 := Tryd.isAgg205
  z212 := Tryd.sizeOf205
  v212 := Tryd.zeroValue205
  t213 := Tryd.underlying207
  a213 := Tryd.isAgg207
  z213 := Tryd.sizeOf207
  t232 := Tryd.underlying217
  a232 := Tryd.isAgg217
  z232 := Tryd.sizeOf217
  v232 := Tryd.zeroValue217
  t233 := Tryd.underlying211
  a233 := Tryd.isAgg211
  z233 := Tryd.sizeOf211
  v233 := Tryd.zeroValue211
  g17 := by kernel_rfl
  g18 := by kernel_rfl
  g19 := by kernel_rfl
  i0 := by kernel_rfl
  i2 := by kernel_rfl
  i3 := by kernel_rfl
  i4 := by kernel_rfl
  i5 := by kernel_rfl
  i9 := by kernel_rfl
  i20 := by kernel_rfl
  i37 := by kernel_rfl
  i46 := by kernel_rfl
  i51 := by kernel_rfl
  i53 := by kernel_rfl
  i171 := by kernel_rfl
  i173 := by kernel_rfl
  i212 := by kernel_rfl
  i232 := by kernel_rfl
  i233 := by kernel_rfl
  m17 := by kernel_rfl
  m18 := by kernel_rfl
  m19 := by kernel_rfl }
def YtpiacnnifdjlkaaDoor.laysCut_ren : Go.Shelf.Ren := ⟨fun | 145 => 93 | 220 => 121 | 219 => 149 | 217 => 164 | 225 => 165 | 224 => 166 | 267 => 167 | 266 => 177 | 314 => 178 | n => n, fun | 9 => 9 | 4 => 4 | 59 => 135 | 3 => 3 | 5 => 5 | 46 => 188 | 146 => 209 | 51 => 206 | n => n, fun | 1 => 0 | n => n⟩
theorem YtpiacnnifdjlkaaDoor.laysCut : Go.Proofs.Lays.n145 Tryd.prog YtpiacnnifdjlkaaDoor.laysCut_ren := {
  mixed := by kernel_rfl
  f145 := Tryd.func93.trans (congrArg some (by kernel_rfl))
  f217 := Tryd.func164.trans (congrArg some (by kernel_rfl))
  f219 := Tryd.func149.trans (congrArg some (by kernel_rfl))
  f220 := Tryd.func121.trans (congrArg some (by kernel_rfl))
  f224 := Tryd.func166.trans (congrArg some (by kernel_rfl))
  f225 := Tryd.func165.trans (congrArg some (by kernel_rfl))
  f266 := Tryd.func177.trans (congrArg some (by kernel_rfl))
  f267 := Tryd.func167.trans (congrArg some (by kernel_rfl))
  f314 := Tryd.func178.trans (congrArg some (by kernel_rfl))
  t3 := Tryd.underlying3
  a3 := Tryd.isAgg3
  z3 := Tryd.sizeOf3
  v3 := Tryd.zeroValue3
  t4 := Tryd.underlying4
  a4 := Tryd.isAgg4
  z4 := Tryd.sizeOf4
  v4 := Tryd.zeroValue4
  t5 := Tryd.underlying5
  a5 := Tryd.isAgg5
  z5 := Tryd.sizeOf5
  v5 := Tryd.zeroValue5
  t9 := Tryd.underlying9
  a9 := Tryd.isAgg9
  z9 := Tryd.sizeOf9
  v9 := Tryd.zeroValue9
  t46 := Tryd.underlying188
  a46 := Tryd.isAgg188
  z46 := Tryd.sizeOf188
  v46 := Tryd.zeroValue188
  t51 := Tryd.underlying206
  a51 := Tryd.isAgg206
  z51 := Tryd.sizeOf206
  v51 := Tryd.zeroValue206
  t59 := Tryd.underlying135
  a59 := Tryd.isAgg135
  z59 := Tryd.sizeOf135
  v59 := Tryd.zeroValue135
  t146 := Tryd.underlying209
  a146 := Tryd.isAgg209
  z146 := Tryd.sizeOf209
  v146 := Tryd.zeroValue209
  g1 := by kernel_rfl }
def YtpiacnnifdjlkaaDoor.laysSplit_ren : Go.Shelf.Ren := ⟨fun | 146 => 95 | 221 => 126 | 268 => 152 | 138 => 153 | 143 => 154 | 195 => 168 | 197 => 169 | 218 => 170 | 219 => 149 | 260 => 179 | 217 => 164 | 225 => 165 | 224 => 166 | 267 => 167 | 266 => 177 | 314 => 178 | n => n, fun | 9 => 9 | 31 => 87 | 3 => 3 | 4 => 4 | 0 => 0 | 105 => 202 | 21 => 21 | 5 => 5 | 46 => 188 | 119 => 213 | 139 => 216 | 138 => 215 | 146 => 209 | 51 => 206 | n => n, fun | 1 => 0 | 3 => 3 | 4 => 4 | n => n⟩
theorem YtpiacnnifdjlkaaDoor.laysSplit : Go.Proofs.Lays.n146 Tryd.prog YtpiacnnifdjlkaaDoor.laysSplit_ren := {
  mixed := by kernel_rfl
  f138 := Tryd.func153.trans (congrArg some (by kernel_rfl))
  f143 := Tryd.func154.trans (congrArg some (by kernel_rfl))
  f146 := Tryd.func95.trans (congrArg some (by kernel_rfl))
  f195 := Tryd.func168.trans (congrArg some (by kernel_rfl))
  f197 := Tryd.func169.trans (congrArg some (by kernel_rfl))
  f217 := Tryd.func164.trans (congrArg some (by kernel_rfl))
  f218 := Tryd.func170.trans (congrArg some (by kernel_rfl))
  f219 := Tryd.func149.trans (congrArg some (by kernel_rfl))
  f221 := Tryd.func126.trans (congrArg some (by kernel_rfl))
  f224 := Tryd.func166.trans (congrArg some (by kernel_rfl))
  f225 := Tryd.func165.trans (congrArg some (by kernel_rfl))
  f260 := Tryd.func179.trans (congrArg some (by kernel_rfl))
  f266 := Tryd.func177.trans (congrArg some (by kernel_rfl))
  f267 := Tryd.func167.trans (congrArg some (by kernel_rfl))
  f268 := Tryd.func152.trans (congrArg some (by kernel_rfl))
  f314 := Tryd.func178.trans (congrArg some (by kernel_rfl))
  t0 := Tryd.underlying0
  a0 := Tryd.isAgg0
  z0 := Tryd.sizeOf0
  v0 := Tryd.zeroValue0
  t3 := Tryd.underlying3
  a3 := Tryd.isAgg3
  z3 := Tryd.sizeOf3
  v3 := Tryd.zeroValue3
  t4 := Tryd.underlying4
  a4 := Tryd.isAgg4
  z4 := Tryd.sizeOf4
  v4 := Tryd.zeroValue4
  t5 := Tryd.underlying5
  a5 := Tryd.isAgg5
  z5 := Tryd.sizeOf5
  v5 := Tryd.zeroValue5
  t9 := Tryd.underlying9
  a9 := Tryd.isAgg9
  z9 := Tryd.sizeOf9
  v9 := Tryd.zeroValue9
  t21 := Tryd.underlying21
  a21 := Tryd.isAgg21
  z21 := Tryd.sizeOf21
  v21 := Tryd.zeroValue21
  t31 := Tryd.underlying87
  a31 := Tryd.isAgg87
  z31 := Tryd.sizeOf87
  v31 := Tryd.zeroValue87
  t46 := Tryd.underlying188
  a46 := Tryd.isAgg188
  z46 := Tryd.sizeOf188
  v46 := Tryd.zeroValue188
  t51 := Tryd.underlying206
  a51 := Tryd.isAgg206
  z51 := Tryd.sizeOf206
  v51 := Tryd.zeroValue206
  t105 := Tryd.underlying202
  a105 := Tryd.isAgg202
  z105 := Tryd.sizeOf202
  v105 := Tryd.zeroValue202
  t119 := Tryd.underlying213
  a119 := Tryd.isAgg213
  z119 := Tryd.sizeOf213
  t138 := Tryd.underlying215
  a138 := Tryd.isAgg215
  z138 := Tryd.sizeOf215
  v138 := Tryd.zeroValue215
  t139 := Tryd.underlying216
  a139 := Tryd.isAgg216
  z139 := Tryd.sizeOf216
  v139 := Tryd.zeroValue216
  t146 := Tryd.underlying209
  a146 := Tryd.isAgg209
  z146 := Tryd.sizeOf209
  v146 := Tryd.zeroValue209
  g1 := by kernel_rfl
  g3 := by kernel_rfl
  g4 := by kernel_rfl }
end Go.Proofs
namespace Go.Proofs.YtpiacnnifdjlkaaDoor
open Go.RowKit Go.Sort Go.Shelf

theorem appendInt_any (B n : Nat) (i : Int) (h0 : -9223372036854775808 ≤ i) (h1 : i ≤ 9223372036854775807) (sv : Value) (xs : List Value) (w : World) (hown : w.ownsRow B 5 1 sv n xs) (hB : B ≤ w.heap.size) (hlim : n + 21 ≤ 140737488355328) (htab : Lib.TabBelow Tryd.prog B w "internal/strconv.uint64pow10" .u64 Lib.pow10Tab) :
    Calls Tryd.prog 87 #[sv, .int .i64 i, .int .i64 10] w fun e w' => ∃ v', e = .returned v' ∧ w'.ownsRow B 5 1 v' (n + (Lib.itoa i).length) (xs ++ Lib.byteCells (Lib.itoa i)) ∧ Below B w w' ∧ Lib.OthersKept 5 none w w' :=
  Any.strconv_AppendInt_10 laysAppendInt B n i h0 h1 sv xs w hown hB hlim htab

theorem itoa_any (n : Int) (h0 : -9223372036854775808 ≤ n) (h1 : n ≤ 9223372036854775807) (w : World) (htab : Lib.TabIs Tryd.prog w "internal/strconv.uint64pow10" .u64 Lib.pow10Tab) :
    Calls Tryd.prog 84 #[.int .i64 n] w fun e w' => e = .returned (.string ⟨(Lib.itoa n).toArray⟩) ∧ Below w.heap.size w w' :=
  (Any.strconv_Itoa laysItoa n h0 h1 w htab).mono fun e w' ⟨he, k, os, hw⟩ => ⟨he, by
    subst hw
    exact ⟨rfl, rfl, rfl, by simp [grow], fun i hi => by simp [grow, Array.getElem?_append, hi]⟩⟩

theorem cut_any (s sep : ByteArray) (m : Int) (w : World) (hs : s.size < 4294967281) (hm : w.cell? ⟨0, 0, none⟩ = some (.int .i64 m)) :
    Calls Tryd.prog 93 #[.string s, .string sep] w fun e w' => e = .returned (.tuple #[.string ⟨(Lib.cut s.data.toList sep.data.toList).1.toArray⟩, .string ⟨(Lib.cut s.data.toList sep.data.toList).2.1.toArray⟩, .bool (Lib.cut s.data.toList sep.data.toList).2.2]) ∧ ∃ n, w' = w.drewN n :=
  Any.strings_Cut laysCut s sep m w hs hm

theorem split_any (s sep : ByteArray) (m : Int) (w : World) (hs : s.size < 4294967281) (hm : w.cell? ⟨0, 0, none⟩ = some (.int .i64 m)) (h1 : 1 ≤ sep.size) :
    Calls Tryd.prog 95 #[.string s, .string sep] w fun e w' => e = .returned (.slice (some ⟨w.heap.size, 0, none⟩) (Lib.countB s sep + 1) (Lib.countB s sep + 1)) ∧ w' = w.alloc (.cells ((Lib.splitB sep 0 (Lib.countB s sep) s).map Value.string).toArray 9) :=
  Any.strings_Split laysSplit (by kernel_rfl) s sep m w hs hm h1
end Go.Proofs.YtpiacnnifdjlkaaDoor
