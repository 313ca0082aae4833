/-
  What steps.From answers: an iterator over the steps from one state.
-/
import Derived.Test.YtpiacnnifdjlkaaDoorCa
namespace Go.Proofs.YtpiacnnifdjlkaaDoor
open Go.RowKit Go.Sort
attribute [local go_sem] Oper.semAt_some

/-- All but one block, of those that were there, is kept. -/
structure KB (m g : Nat) (W W' : World) : Prop where
  os : W'.os = W.os
  tape : W'.tape = W.tape
  output : W'.output = W.output
  size : W.heap.size ≤ W'.heap.size
  block : ∀ k, k < m → k ≠ g → W'.heap[k]? = W.heap[k]?

theorem KB.refl (m g : Nat) (W : World) : KB m g W W := ⟨rfl, rfl, rfl, Nat.le_refl _, fun _ _ _ => rfl⟩
theorem KB.trans {m g : Nat} {A B C : World} (h : KB m g A B) (k : KB m g B C) : KB m g A C :=
  ⟨k.os.trans h.os, k.tape.trans h.tape, k.output.trans h.output, Nat.le_trans h.size k.size, fun i hi hn => (k.block i hi hn).trans (h.block i hi hn)⟩
theorem KB.of_below {m g : Nat} {W W' : World} (h : Below W.heap.size W W') (hm : m ≤ W.heap.size) : KB m g W W' := ⟨h.os, h.tape, h.output, h.size, fun k hk _ => h.block k (by omega)⟩
theorem KB.cell {m g : Nat} {W W' : World} (h : KB m g W W') {a : Addr} (hm : a.block < m) (hg : a.block ≠ g) : W'.cell? a = W.cell? a := World.cell?_of_block (w := W) (h.block a.block hm hg)

/-- A step from that state, of an automaton that is right. -/
def GS (st : Int) (N : Nat) (x : Stp) : Prop := x.f = st ∧ 0 ≤ x.l ∧ x.l < 8 ∧ 0 ≤ x.t ∧ x.t < N

set_option maxHeartbeats 400000 in
theorem from_any (n m : Int) (fv gv sv : Value) (st : Int) (w : World) :
    Calls Tryd.prog 89 #[.agg #[.int .i64 n, .int .i64 m, fv, gv, sv], .int .i64 st] w fun e w' => e = .returned (.func (.func 116) #[] #[.pointer (some ⟨w.heap.size, 0, none⟩), .pointer (some ⟨w.heap.size + 1, 0, none⟩)]) ∧ w' = (w.alloc (.cells #[.int .i64 n, .int .i64 m, fv, gv, sv] 26)).alloc (.cells #[.int .i64 st] 3) := by
  go_enter Tryd.func89, Tryd.ntmps89
  go_wp2
  go_ret
  exact ⟨rfl, rfl⟩

theorem stp_getD (ss : List Stp) (k : Nat) (h : k < ss.length) : ss.getD k stp0 = ss[k] := by simp [List.getD, h]

theorem from_filter (ss : List Stp) (st : Int) (k i : Nat) (hlo : ∀ j, j < k → (ss.getD j stp0).f < st) (hall : ∀ j, k ≤ j → j < k + i → (ss.getD j stp0).f = st) (hhi : ∀ j, k + i ≤ j → j < ss.length → (ss.getD j stp0).f ≠ st) (hk : k + i ≤ ss.length) :
    ss.filter (fun x => decide (x.f = st)) = (ss.drop k).take i := by
  have e : ss = ss.take k ++ ((ss.drop k).take i ++ ss.drop (k + i)) := by
    rw [← List.drop_drop, List.take_append_drop, List.take_append_drop]
  have h1 : (ss.take k).filter (fun x => decide (x.f = st)) = [] := by
    rw [List.filter_eq_nil_iff]
    intro x hx
    obtain ⟨j, hj, rfl⟩ := List.mem_iff_getElem.1 hx
    have hj' : j < k := by simp at hj; omega
    have := hlo j hj'
    rw [stp_getD _ _ (by omega)] at this
    rw [List.getElem_take]
    simp; omega
  have h2 : ((ss.drop k).take i).filter (fun x => decide (x.f = st)) = (ss.drop k).take i := by
    rw [List.filter_eq_self]
    intro x hx
    obtain ⟨j, hj, rfl⟩ := List.mem_iff_getElem.1 hx
    have hj' : j < i := by simp at hj; omega
    have := hall (k + j) (by omega) (by omega)
    rw [stp_getD _ _ (by omega)] at this
    rw [List.getElem_take, List.getElem_drop]
    simp [this]
  have h3 : (ss.drop (k + i)).filter (fun x => decide (x.f = st)) = [] := by
    rw [List.filter_eq_nil_iff]
    intro x hx
    obtain ⟨j, hj, rfl⟩ := List.mem_iff_getElem.1 hx
    have hj' : k + i + j < ss.length := by simp at hj; omega
    have := hhi (k + i + j) (by omega) hj'
    rw [stp_getD _ _ hj'] at this
    rw [List.getElem_drop]
    simp [this]
  conv => lhs; rw [e]
  rw [List.filter_append, List.filter_append, h1, h2, h3]
  simp

theorem take_snoc_getD (ss : List Stp) (k i : Nat) (h : k + i < ss.length) : (ss.drop k).take (i + 1) = (ss.drop k).take i ++ [ss.getD (k + i) stp0] := by
  rw [List.take_add_one, List.getElem?_drop, List.getElem?_eq_getElem h, stp_getD _ _ h]
  rfl

set_option maxRecDepth 100000 in
set_option maxHeartbeats 2000000 in
theorem fromOne_in {ss : List Stp} {b off cap : Nat} (n l B1 B2 m g N : Nat) (st : Int) (J Jx : List { x : Stp // GS st N x } → World → Prop)
    (hY : ∀ (pre : List { x : Stp // GS st N x }) (x : { x : Stp // GS st N x }) (W1 : World), J pre W1 → pre.length < ss.length → YieldAt Fence.wide (n - 1) Tryd.prog l #[.agg #[.int .i64 x.1.f, .int .i64 x.1.l, .int .i64 x.1.t]] W1 fun e W' =>
      (e = .returned (.bool true) ∧ J (pre ++ [x]) W' ∧ KB m g W1 W') ∨ (e = .returned (.bool false) ∧ Jx (pre ++ [x]) W'))
    (W : World) (hJ : AbidesFrom W.heap.size J) (hm : m ≤ W.heap.size) (hB1 : W.cell? ⟨B1, 4, none⟩ = some (.slice (some ⟨b, off, none⟩) ss.length cap)) (hB2 : W.cell? ⟨B2, 0, none⟩ = some (.int .i64 st)) (hb2 : B2 < m ∧ B2 ≠ g) (hbs : b < m ∧ b ≠ g)
    (hlen : ss.length ≤ 6000) (hcap : ss.length ≤ cap) (hc : ∀ i, i < ss.length → W.cell? ⟨b, off + i * 3, none⟩ = some (.int .i64 (ss.getD i stp0).f) ∧ W.cell? ⟨b, off + i * 3 + 1, none⟩ = some (.int .i64 (ss.getD i stp0).l) ∧ W.cell? ⟨b, off + i * 3 + 2, none⟩ = some (.int .i64 (ss.getD i stp0).t))
    (hmono : ∀ i j, i ≤ j → j < ss.length → (ss.getD i stp0).f ≤ (ss.getD j stp0).f) (hgs : ∀ x, x ∈ ss → x.f = st → GS st N x) (h0 : J [] W) :
    CallsIn Fence.wide n Tryd.prog 116 #[.func (.yield l) #[] #[], .pointer (some ⟨B1, 0, none⟩), .pointer (some ⟨B2, 0, none⟩)] W fun e W' => (∃ v, e = .returned v) ∧
      ((∃ xs, (xs.map (·.1)) = ss.filter (fun x => decide (x.f = st)) ∧ J xs W') ∨ (∃ pre, Jx pre W')) := by
  have HS := hide (bsf_go ss b off cap st W hlen hc hmono)
  refine callsIn_of_wp Tryd.func116 rfl trivial ?_ rfl
  simp only [Tryd.ntmps116, List.size_toArray, List.length_cons, List.length_nil, Nat.reduceAdd, Nat.reduceSub, Array.replicate_succ, Array.replicate_zero, List.push_toArray, List.append_toArray, List.nil_append, List.cons_append]
  have Hc := hide hc
  have HY := hide hY
  have Hgs := hide hgs
  have HJ := hide hJ
  clear hc hY hgs hJ
  gi_wp2_with (fail)
  refine ⟨trivial, fun h => by simp [Fence.wide] at h, (callsIn_wide.2 HS.out).mono ?_⟩
  rintro e w1 ⟨k0, q0, rfl, hk0, hlo, hhi, hb1⟩
  have Hlo := hide hlo
  have Hhi := hide hhi
  clear hlo hhi
  have x1 : w1.cell? ⟨B1, 4, none⟩ = some (.slice (some ⟨b, off, none⟩) ss.length cap) := (hb1.cell (World.block_lt_of_cell? W _ hB1)).trans hB1
  have hK1 : KB m g W w1 := KB.of_below hb1 hm
  have hJ1 : J [] w1 := HJ.out [] W w1 none h0 (grown_of_below hb1) (fun r e => by cases e)
  have hbl := hbs.1
  have HJ1 := hide hJ1
  clear hJ1 h0 HS
  have Hmo := hide hmono
  clear hmono
  by_cases hkl : k0 < ss.length
  · have hne : ¬ cap = k0 := by omega
    have hne2 : ¬ k0 = cap := by omega
    have hle0 : k0 ≤ cap := by omega
    gi_wp2_with (fail)
    gi_loopw [20] (fun iv wr => ∃ i : Nat, iv = .int .i64 i ∧ k0 + i ≤ ss.length ∧ (∃ pre, pre.map (·.1) = (ss.drop k0).take i ∧ J pre wr) ∧ (∀ j, k0 ≤ j → j < k0 + i → (ss.getD j stp0).f = st) ∧ KB m g W wr) (fun iv _ => ss.length - k0 - (intOf iv).toNat)
    case atStart => exact ⟨0, rfl, by omega, ⟨[], by simp, HJ1.out⟩, (fun j h1 h2 => by omega), hK1⟩
    case round =>
      obtain ⟨i, rfl, hi, ⟨pre, hpre, hJp⟩, hall, hK⟩ := hrel
      have Hpre := hide hpre
      have HJp := hide hJp
      have Hall := hide hall
      clear hpre hJp hall
      by_cases hil : k0 + i < ss.length
      · have hil2 : i < ss.length - k0 := by omega
        obtain ⟨d0, d1, d2⟩ := Hc.out (k0 + i) hil
        have ea : off + (k0 + i) * 3 = off + k0 * 3 + i * 3 := by omega
        rw [ea] at d0 d1 d2
        rw [← hK.cell (a := ⟨b, _, none⟩) hbs.1 hbs.2] at d0 d1 d2
        have y2 : wr.cell? ⟨B2, 0, none⟩ = some (.int .i64 st) := by rw [hK.cell (a := ⟨B2, 0, none⟩) hb2.1 hb2.2]; exact hB2
        generalize hx : ss.getD (k0 + i) stp0 = x at *
        have Hx := hide hx
        clear hx
        have hxm : x ∈ ss := by
          rw [← Hx.out, stp_getD _ _ hil]
          exact List.getElem_mem _
        have Hxm := hide hxm
        clear hxm
        have hlb : B2 < wr.heap.size := World.block_lt_of_cell? _ _ y2
        by_cases hfs : x.f = st
        · have hd : (x.f != st) = false := by simp [hfs]
          have Hfs := hide hfs
          clear hfs
          have hlt' : pre.length < ss.length := by
            have := congrArg List.length Hpre.out
            simp at this
            omega
          have hJa : J pre (wr.alloc (Obj.cells #[Value.int .i64 x.f, .int .i64 x.l, .int .i64 x.t] 81)) := HJ.out pre wr _ none HJp.out (World.grownBy_alloc _ _ _) (fun r e => by cases e)
          obtain ⟨fn, tmps, assign, body, hy, hR⟩ := HY.out pre ⟨x, Hgs.out x Hxm.out Hfs.out⟩ _ hJa hlt'
          dsimp only at hy
          have HR := hide hR
          clear hR
          gi_wp2_with (fail)
          refine ⟨fun h => by simp [Fence.wide] at h, HR.out.mono ?_⟩
          rintro e W3 (⟨rfl, hJ3, hk3⟩ | ⟨rfl, hJx3⟩)
          · have HJ3 := hide hJ3
            clear hJ3
            have hk4 : KB m g W W3 := (hK.trans (KB.of_below (below_new wr _) (Nat.le_trans hm hK.size))).trans hk3
            gi_wp2
            go_roundw
            case rel =>
              refine ⟨i + 1, by go_num, by omega, ⟨pre ++ [⟨x, Hgs.out x Hxm.out Hfs.out⟩], ?_, HJ3.out⟩, fun j h1 h2 => ?_, hk4⟩
              · rw [take_snoc_getD ss k0 i hil, Hx.out, List.map_append, Hpre.out]
                rfl
              · by_cases hj : j = k0 + i
                · subst hj; rw [Hx.out]; exact Hfs.out
                · exact Hall.out j h1 (by omega)
            case measure => simp [intOf]; omega
          · have HJx3 := hide hJx3
            clear hJx3
            gi_wp2
            refine bodyPost_ret (results_none rfl _ _ _) rfl ?_
            exact ⟨⟨_, rfl⟩, .inr ⟨_, HJx3.out⟩⟩
        · have hd : (x.f != st) = true := by simp [hfs]
          have Hfs := hide hfs
          clear hfs
          gi_wp2
          refine ⟨fun _ h => (by cases h), ?_⟩
          gi_wp2
          refine bodyPost_ret (results_none rfl _ _ _) rfl ?_
          refine ⟨⟨_, rfl⟩, .inl ⟨pre, ?_, HJ.out pre wr _ none HJp.out (World.grownBy_alloc _ _ _) (fun r e => by cases e)⟩⟩
          rw [Hpre.out]
          refine (from_filter ss st k0 i Hlo.out Hall.out (fun j h1 h2 => ?_) hi).symm
          have h3 := Hmo.out (k0 + i) j h1 h2
          have h4 := Hhi.out (k0 + i) (by omega) hil
          rw [Hx.out] at h3 h4
          have h5 : x.f ≠ st := Hfs.out
          omega
      · gi_wp2
        go_end0
        refine ⟨⟨_, rfl⟩, .inl ⟨pre, ?_, HJp.out⟩⟩
        rw [Hpre.out]
        exact (from_filter ss st k0 i Hlo.out Hall.out (fun j h1 h2 => by omega) hi).symm
  · have hke : k0 = ss.length := by omega
    subst hke
    have hfin : ([] : List { x : Stp // GS st N x }).map (·.1) = ss.filter (fun x => decide (x.f = st)) := by
      rw [from_filter ss st ss.length 0 Hlo.out (fun j h1 h2 => by omega) (fun j h1 h2 => by omega) (by omega)]
      simp
    have Hfin := hide hfin
    clear hfin
    gi_wp2_with (fail)
    all_goals
      refine wpIn_loop_rounds 1 ?_
      rw [roundsIn_succ]
      gi_wp2
      go_end0
      exact ⟨⟨_, rfl⟩, .inl ⟨[], Hfin.out, HJ1.out⟩⟩
end Go.Proofs.YtpiacnnifdjlkaaDoor
