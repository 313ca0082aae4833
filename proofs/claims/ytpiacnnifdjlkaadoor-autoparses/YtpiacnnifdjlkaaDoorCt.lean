/-
  What meet of auto.reached does: a state that was not met is marked, and is to be gone through.
-/
import Derived.Test.YtpiacnnifdjlkaaDoorCp
import Derived.Deep.Grids
import Derived.Deep.Strs
/-
  What an automaton among the arguments reads as.
-/
namespace Go.Proofs.YtpiacnnifdjlkaaDoor
open Go.ChangeShapes Go.WideShapes Go.ChangeAt Go.RowKit Go.Deep
set_option maxRecDepth 100000

theorem cellsBool : Tryd.prog.cellsOf 4 = 1 := by kernel_rfl
theorem cellsStep : Tryd.prog.cellsOf 81 = 3 := by kernel_rfl
theorem cellsAuto : Tryd.prog.cellsOf 26 = 5 := by kernel_rfl

/-- An address at which a cell can be read is a plain one. -/
theorem plain_addr {W : World} {a : Addr} {v : Value} (h : W.cell? (a.add 0) = some v) : ∃ b off, a = ⟨b, off, none⟩ := by
  obtain ⟨b, off, spot⟩ := a
  simp only [Addr.add, if_true, World.cell?] at h
  split at h
  · cases spot with
    | none => exact ⟨b, off, rfl⟩
    | some s => simp at h
  · cases h

theorem boolSl_of_trod {H : Type} {enc : TypeId × Value → H} {W : World} {n : Nat} {u : Value} {y : DataW H × List MemPlace} (h : DataW.trod enc Tryd.prog W 0 (fun _ => true) true n 23 [u] = some y) :
    ∃ zs, BoolSl W u zs := by
  rcases open_bools Tryd.underlying23 Tryd.underlying4 cellsBool h with ⟨hcs, _⟩ | ⟨a, len, cap, B, hcs, _, hl, hm, _, hcell⟩
  · simp only [List.cons.injEq, and_true] at hcs
    subst hcs
    exact ⟨[], .none, 0, rfl, by simp [maxLen], Or.inl rfl, fun _ => rfl, by simp⟩
  · simp only [List.cons.injEq, and_true] at hcs
    subst hcs
    have hlen : ((List.range len).map B).length = len := by simp
    refine ⟨(List.range len).map B, some a, cap, by rw [hlen], by rw [hlen]; omega, ?_, fun e => (by cases e), by rw [hlen]; exact hl⟩
    by_cases h0 : len = 0
    · left
      rw [h0]
      rfl
    · right
      obtain ⟨b, off, rfl⟩ := plain_addr (hcell 0 (by omega))
      refine ⟨b, off, rfl, fun i hi => ?_⟩
      rw [hlen] at hi
      have ci := hcell i (by omega)
      rw [add_none] at ci
      rw [ci]
      congr 2
      simp [List.getD, hi]

theorem one_int {H : Type} {enc : TypeId × Value → H} {W : World} {n : Nat} {c : Value} {y : DataW H × List MemPlace} (h : DataW.trod enc Tryd.prog W 0 (fun _ => true) true n 3 [c] = some y) : ∃ z, c = .int .i64 z ∧ (Lit.int .i64 z).wf = true := by
  obtain ⟨z, hc, _, hw⟩ := DataW.trod_int Tryd.underlying3 h
  simp only [List.cons.injEq, and_true] at hc
  exact ⟨z, hc, hw⟩

theorem three_of {cs : List Value} (h : cs.length = 3) : ∃ c0 c1 c2, cs = [c0, c1, c2] := by
  match cs, h with
  | [c0, c1, c2], _ => exact ⟨c0, c1, c2, rfl⟩

theorem five_of {cs : Array Value} (h : cs.size = 5) : ∃ c0 c1 c2 c3 c4, cs = #[c0, c1, c2, c3, c4] := by
  obtain ⟨l⟩ := cs
  match l, h with
  | [c0, c1, c2, c3, c4], _ => exact ⟨c0, c1, c2, c3, c4, rfl⟩

theorem step_of_trod {H : Type} {enc : TypeId × Value → H} {W : World} {n : Nat} {cs : List Value} {y : DataW H × List MemPlace} (h : DataW.trod enc Tryd.prog W 0 (fun _ => true) true n 81 cs = some y) :
    ∃ s : Stp, cs = [.int .i64 s.f, .int .i64 s.l, .int .i64 s.t] := by
  obtain ⟨y0, y1, y2, m, _, hl, h0, h1, h2⟩ := trod_struct3 Tryd.underlying81 h
  rw [cellsStep] at hl
  obtain ⟨c0, c1, c2, rfl⟩ := three_of hl
  have e := cellsInt
  dsimp only at h0 h1 h2
  rw [e] at h0 h1 h2
  obtain ⟨z0, rfl, _⟩ := one_int h0
  obtain ⟨z1, rfl, _⟩ := one_int h1
  obtain ⟨z2, rfl, _⟩ := one_int h2
  exact ⟨⟨z0, z1, z2⟩, rfl⟩

theorem stepSl_of_trod {H : Type} {enc : TypeId × Value → H} {W : World} {n : Nat} {u : Value} {y : DataW H × List MemPlace} (h : DataW.trod enc Tryd.prog W 0 (fun _ => true) true n 24 [u] = some y) :
    ∃ zs, StepSl W u zs := by
  rcases open_slice Tryd.underlying24 h with ⟨hcs, _⟩ | ⟨a, len, cap, m, k, D, Pl, hcs, _, hl, hm, hmm, _, hel⟩
  · simp only [List.cons.injEq, and_true] at hcs
    subst hcs
    exact ⟨[], .none, 0, rfl, by simp [maxLen], Or.inl rfl, fun _ => rfl, by simp⟩
  · simp only [List.cons.injEq, and_true] at hcs
    subst hcs
    simp only [if_true] at hmm
    subst hmm
    rw [cellsStep] at hel
    have each : ∀ i, i < m → ∃ s : Stp, W.cell? ((a.add (i * 3)).add 0) = some (.int .i64 s.f) ∧ W.cell? ((a.add (i * 3)).add 1) = some (.int .i64 s.l) ∧ W.cell? ((a.add (i * 3)).add 2) = some (.int .i64 s.t) := by
      intro i hi
      obtain ⟨cs', hc, ht⟩ := hel i hi
      obtain ⟨s, rfl⟩ := step_of_trod ht
      obtain ⟨_, _, hcell⟩ := World.cells?_some hc
      exact ⟨s, hcell 0 (by omega), hcell 1 (by omega), hcell 2 (by omega)⟩
    obtain ⟨S, hS⟩ := @choose_lt Stp ⟨stp0⟩ _ _ each
    have hlen : ((List.range len).map S).length = len := by simp
    refine ⟨(List.range len).map S, some a, m, by rw [hlen], by rw [hlen]; omega, ?_, fun e => (by cases e), by rw [hlen]; exact hl⟩
    by_cases h0 : len = 0
    · left
      rw [h0]
      rfl
    · right
      have c0 := (hS 0 (by omega)).1
      rw [Nat.zero_mul] at c0
      have c00 : W.cell? (a.add 0) = some (.int .i64 (S 0).f) := c0
      obtain ⟨b, off, rfl⟩ := plain_addr c00
      refine ⟨b, off, rfl, fun i hi => ?_⟩
      rw [hlen] at hi
      obtain ⟨q0, q1, q2⟩ := hS i (by omega)
      rw [add_none, add_none] at q0 q1 q2
      have e : ((List.range len).map S).getD i stp0 = S i := by simp [List.getD, hi]
      rw [e]
      exact ⟨q0, q1, q2⟩

theorem auto_of_trod {H : Type} {enc : TypeId × Value → H} {W : World} {r : Reach} {b0 : Nat} {v : Value} {d : DataW H} {p : List MemPlace} (hv : Value.okWide Tryd.prog W r b0 26 v) (h : DataW.Trod enc Tryd.prog W 0 (fun _ => true) true 26 v d p) :
    ∃ A, AutV W v A := by
  obtain ⟨cs, rfl, hsz⟩ := okWide_struct Tryd.underlying26 hv
  obtain ⟨c0, c1, c2, c3, c4, rfl⟩ := five_of (hsz.trans cellsAuto)
  obtain ⟨fuel, hf⟩ := h
  obtain ⟨xs, n, _, _, _, hlen, hfs⟩ := DataW.trod_struct Tryd.underlying26 hf
  have hx : xs.length = 5 := hlen
  have key : ∀ i (hi : i < 5), xs[i]? = some (xs[i]'(by omega)) := fun i hi => List.getElem?_eq_getElem (by omega)
  have t0 : DataW.trod enc Tryd.prog W 0 (fun _ => true) true n 3 (List.take (Tryd.prog.cellsOf 3) (List.drop 0 [c0, c1, c2, c3, c4])) = some (xs[0]'(by omega)) := (hfs 0 _ rfl).trans (key 0 (by omega))
  have t1 : DataW.trod enc Tryd.prog W 0 (fun _ => true) true n 3 (List.take (Tryd.prog.cellsOf 3) (List.drop 1 [c0, c1, c2, c3, c4])) = some (xs[1]'(by omega)) := (hfs 1 _ rfl).trans (key 1 (by omega))
  have t2 : DataW.trod enc Tryd.prog W 0 (fun _ => true) true n 22 (List.take (Tryd.prog.cellsOf 22) (List.drop 2 [c0, c1, c2, c3, c4])) = some (xs[2]'(by omega)) := (hfs 2 _ rfl).trans (key 2 (by omega))
  have t3 : DataW.trod enc Tryd.prog W 0 (fun _ => true) true n 23 (List.take (Tryd.prog.cellsOf 23) (List.drop 3 [c0, c1, c2, c3, c4])) = some (xs[3]'(by omega)) := (hfs 3 _ rfl).trans (key 3 (by omega))
  have t4 : DataW.trod enc Tryd.prog W 0 (fun _ => true) true n 24 (List.take (Tryd.prog.cellsOf 24) (List.drop 4 [c0, c1, c2, c3, c4])) = some (xs[4]'(by omega)) := (hfs 4 _ rfl).trans (key 4 (by omega))
  have e3 := cellsInt
  have e22 : Tryd.prog.cellsOf 22 = 1 := by kernel_rfl
  have e23 : Tryd.prog.cellsOf 23 = 1 := by kernel_rfl
  have e24 : Tryd.prog.cellsOf 24 = 1 := by kernel_rfl
  rw [e3] at t0 t1
  rw [e22] at t2
  rw [e23] at t3
  rw [e24] at t4
  obtain ⟨z0, rfl, _⟩ := one_int t0
  obtain ⟨z1, rfl, _⟩ := one_int t1
  obtain ⟨fs, i2, _⟩ := intSl_of_trod t2
  obtain ⟨gs, i3⟩ := boolSl_of_trod t3
  obtain ⟨ss, i4⟩ := stepSl_of_trod t4
  exact ⟨⟨z0, z1, fs, gs, ss⟩, c2, c3, c4, rfl, i2, i3, i4⟩
end Go.Proofs.YtpiacnnifdjlkaaDoor

/-
  steps.From as a loop takes it whose rounds turn several blocks.
-/
namespace Go.Proofs.YtpiacnnifdjlkaaDoor
open Go.RowKit Go.Sort
attribute [local go_sem] Oper.semAt_some

/-- All but some blocks, of those that were there, are kept. -/
structure KX (m : Nat) (X : List Nat) (W W' : World) : Prop where
  os : W'.os = W.os
  tape : W'.tape = W.tape
  output : W'.output = W.output
  size : W.heap.size ≤ W'.heap.size
  block : ∀ k, k < m → k ∉ X → W'.heap[k]? = W.heap[k]?

theorem KX.refl (m : Nat) (X : List Nat) (W : World) : KX m X W W := ⟨rfl, rfl, rfl, Nat.le_refl _, fun _ _ _ => rfl⟩
theorem KX.trans {m : Nat} {X : List Nat} {A B C : World} (h : KX m X A B) (k : KX m X B C) : KX m X A C :=
  ⟨k.os.trans h.os, k.tape.trans h.tape, k.output.trans h.output, Nat.le_trans h.size k.size, fun i hi hn => (k.block i hi hn).trans (h.block i hi hn)⟩
theorem KX.of_below {m : Nat} {X : List Nat} {W W' : World} (h : Below W.heap.size W W') (hm : m ≤ W.heap.size) : KX m X W W' := ⟨h.os, h.tape, h.output, h.size, fun k hk _ => h.block k (by omega)⟩
theorem KX.cell {m : Nat} {X : List Nat} {W W' : World} (h : KX m X W W') {a : Addr} (hm : a.block < m) (hg : a.block ∉ X) : W'.cell? a = W.cell? a := World.cell?_of_block (w := W) (h.block a.block hm hg)
theorem KX.mono {m m' : Nat} {X X' : List Nat} {W W' : World} (h : KX m X W W') (hm : m' ≤ m) (hX : ∀ x ∈ X, x ∈ X' ∨ m' ≤ x) : KX m' X' W W' :=
  ⟨h.os, h.tape, h.output, h.size, fun k hk hn => h.block k (by omega) (fun hx => by rcases hX k hx with h | h; exact hn h; omega)⟩
theorem KX.set (m : Nat) (X : List Nat) (W : World) (g o : Nat) (v : Value) (hg : g ∈ X) : KX m X W (W.setCell ⟨g, o, none⟩ v) :=
  ⟨rfl, rfl, rfl, by simp [World.setCell], fun k _ hk => heap_setCell_other W _ _ k (fun e => hk (by rw [e]; exact hg))⟩
theorem KX.grownBy {m : Nat} {X : List Nat} {W W' : World} {row : Option Nat} (hg : W.grownBy W' row) (hm : m ≤ W.heap.size) (hr : ∀ r, row = some r → r ∈ X ∨ m ≤ r) : KX m X W W' :=
  ⟨hg.os, hg.tape, hg.output, hg.size, fun k hk hn => hg.block k (by omega) (fun e => by rcases hr k e.symm with h | h; exact hn h; omega)⟩

set_option maxRecDepth 100000 in
set_option maxHeartbeats 2000000 in
theorem fromOneX_in {ss : List Stp} {b off cap : Nat} (n l B1 B2 m : Nat) (X : List Nat) (N : Nat) (st : Int) (J Jx : List { x : Stp // GS st N x } → World → Prop)
    (hY : ∀ (pre : List { x : Stp // GS st N x }) (x : { x : Stp // GS st N x }) (W1 : World), J pre W1 → pre.length < ss.length → YieldAt Fence.wide (n - 1) Tryd.prog l #[.agg #[.int .i64 x.1.f, .int .i64 x.1.l, .int .i64 x.1.t]] W1 fun e W' =>
      (e = .returned (.bool true) ∧ J (pre ++ [x]) W' ∧ KX m X W1 W') ∨ (e = .returned (.bool false) ∧ Jx (pre ++ [x]) W'))
    (W : World) (hJ : AbidesFrom W.heap.size J) (hm : m ≤ W.heap.size) (hB1 : W.cell? ⟨B1, 4, none⟩ = some (.slice (some ⟨b, off, none⟩) ss.length cap)) (hB2 : W.cell? ⟨B2, 0, none⟩ = some (.int .i64 st)) (hb2 : B2 < m ∧ B2 ∉ X) (hbs : b < m ∧ b ∉ X)
    (hlen : ss.length ≤ 6000) (hcap : ss.length ≤ cap) (hc : ∀ i, i < ss.length → W.cell? ⟨b, off + i * 3, none⟩ = some (.int .i64 (ss.getD i stp0).f) ∧ W.cell? ⟨b, off + i * 3 + 1, none⟩ = some (.int .i64 (ss.getD i stp0).l) ∧ W.cell? ⟨b, off + i * 3 + 2, none⟩ = some (.int .i64 (ss.getD i stp0).t))
    (hmono : ∀ i j, i ≤ j → j < ss.length → (ss.getD i stp0).f ≤ (ss.getD j stp0).f) (hgs : ∀ x, x ∈ ss → x.f = st → GS st N x) (h0 : J [] W) :
    CallsIn Fence.wide n Tryd.prog 116 #[.func (.yield l) #[] #[], .pointer (some ⟨B1, 0, none⟩), .pointer (some ⟨B2, 0, none⟩)] W fun e W' => (∃ v, e = .returned v) ∧
      ((∃ xs, (xs.map (·.1)) = ss.filter (fun x => decide (x.f = st)) ∧ J xs W') ∨ (∃ pre, Jx pre W')) := by
  have HS := hide (bsf_go ss b off cap st W hlen hc hmono)
  refine callsIn_of_wp Tryd.func116 rfl trivial ?_ rfl
  simp only [Tryd.ntmps116, List.size_toArray, List.length_cons, List.length_nil, Nat.reduceAdd, Nat.reduceSub, Array.replicate_succ, Array.replicate_zero, List.push_toArray, List.append_toArray, List.nil_append, List.cons_append]
  have Hc := hide hc
  have HY := hide hY
  have Hgs := hide hgs
  have HJ := hide hJ
  clear hc hY hgs hJ
  gi_wp2_with (fail)
  refine ⟨trivial, fun h => by simp [Fence.wide] at h, (callsIn_wide.2 HS.out).mono ?_⟩
  rintro e w1 ⟨k0, q0, rfl, hk0, hlo, hhi, hb1⟩
  have Hlo := hide hlo
  have Hhi := hide hhi
  clear hlo hhi
  have x1 : w1.cell? ⟨B1, 4, none⟩ = some (.slice (some ⟨b, off, none⟩) ss.length cap) := (hb1.cell (World.block_lt_of_cell? W _ hB1)).trans hB1
  have hK1 : KX m X W w1 := KX.of_below hb1 hm
  have hJ1 : J [] w1 := HJ.out [] W w1 none h0 (grown_of_below hb1) (fun r e => by cases e)
  have hbl := hbs.1
  have HJ1 := hide hJ1
  clear hJ1 h0 HS
  have Hmo := hide hmono
  clear hmono
  by_cases hkl : k0 < ss.length
  · have hne : ¬ cap = k0 := by omega
    have hne2 : ¬ k0 = cap := by omega
    have hle0 : k0 ≤ cap := by omega
    gi_wp2_with (fail)
    gi_loopw [20] (fun iv wr => ∃ i : Nat, iv = .int .i64 i ∧ k0 + i ≤ ss.length ∧ (∃ pre, pre.map (·.1) = (ss.drop k0).take i ∧ J pre wr) ∧ (∀ j, k0 ≤ j → j < k0 + i → (ss.getD j stp0).f = st) ∧ KX m X W wr) (fun iv _ => ss.length - k0 - (intOf iv).toNat)
    case atStart => exact ⟨0, rfl, by omega, ⟨[], by simp, HJ1.out⟩, (fun j h1 h2 => by omega), hK1⟩
    case round =>
      obtain ⟨i, rfl, hi, ⟨pre, hpre, hJp⟩, hall, hK⟩ := hrel
      have Hpre := hide hpre
      have HJp := hide hJp
      have Hall := hide hall
      clear hpre hJp hall
      by_cases hil : k0 + i < ss.length
      · have hil2 : i < ss.length - k0 := by omega
        obtain ⟨d0, d1, d2⟩ := Hc.out (k0 + i) hil
        have ea : off + (k0 + i) * 3 = off + k0 * 3 + i * 3 := by omega
        rw [ea] at d0 d1 d2
        rw [← hK.cell (a := ⟨b, _, none⟩) hbs.1 hbs.2] at d0 d1 d2
        have y2 : wr.cell? ⟨B2, 0, none⟩ = some (.int .i64 st) := by rw [hK.cell (a := ⟨B2, 0, none⟩) hb2.1 hb2.2]; exact hB2
        generalize hx : ss.getD (k0 + i) stp0 = x at *
        have Hx := hide hx
        clear hx
        have hxm : x ∈ ss := by
          rw [← Hx.out, stp_getD _ _ hil]
          exact List.getElem_mem _
        have Hxm := hide hxm
        clear hxm
        have hlb : B2 < wr.heap.size := World.block_lt_of_cell? _ _ y2
        by_cases hfs : x.f = st
        · have hd : (x.f != st) = false := by simp [hfs]
          have Hfs := hide hfs
          clear hfs
          have hlt' : pre.length < ss.length := by
            have := congrArg List.length Hpre.out
            simp at this
            omega
          have hJa : J pre (wr.alloc (Obj.cells #[Value.int .i64 x.f, .int .i64 x.l, .int .i64 x.t] 81)) := HJ.out pre wr _ none HJp.out (World.grownBy_alloc _ _ _) (fun r e => by cases e)
          obtain ⟨fn, tmps, assign, body, hy, hR⟩ := HY.out pre ⟨x, Hgs.out x Hxm.out Hfs.out⟩ _ hJa hlt'
          dsimp only at hy
          have HR := hide hR
          clear hR
          gi_wp2_with (fail)
          refine ⟨fun h => by simp [Fence.wide] at h, HR.out.mono ?_⟩
          rintro e W3 (⟨rfl, hJ3, hk3⟩ | ⟨rfl, hJx3⟩)
          · have HJ3 := hide hJ3
            clear hJ3
            have hk4 : KX m X W W3 := (hK.trans (KX.of_below (below_new wr _) (Nat.le_trans hm hK.size))).trans hk3
            gi_wp2
            go_roundw
            case rel =>
              refine ⟨i + 1, by go_num, by omega, ⟨pre ++ [⟨x, Hgs.out x Hxm.out Hfs.out⟩], ?_, HJ3.out⟩, fun j h1 h2 => ?_, hk4⟩
              · rw [take_snoc_getD ss k0 i hil, Hx.out, List.map_append, Hpre.out]
                rfl
              · by_cases hj : j = k0 + i
                · subst hj; rw [Hx.out]; exact Hfs.out
                · exact Hall.out j h1 (by omega)
            case measure => simp [intOf]; omega
          · have HJx3 := hide hJx3
            clear hJx3
            gi_wp2
            refine bodyPost_ret (results_none rfl _ _ _) rfl ?_
            exact ⟨⟨_, rfl⟩, .inr ⟨_, HJx3.out⟩⟩
        · have hd : (x.f != st) = true := by simp [hfs]
          have Hfs := hide hfs
          clear hfs
          gi_wp2
          refine ⟨fun _ h => (by cases h), ?_⟩
          gi_wp2
          refine bodyPost_ret (results_none rfl _ _ _) rfl ?_
          refine ⟨⟨_, rfl⟩, .inl ⟨pre, ?_, HJ.out pre wr _ none HJp.out (World.grownBy_alloc _ _ _) (fun r e => by cases e)⟩⟩
          rw [Hpre.out]
          refine (from_filter ss st k0 i Hlo.out Hall.out (fun j h1 h2 => ?_) hi).symm
          have h3 := Hmo.out (k0 + i) j h1 h2
          have h4 := Hhi.out (k0 + i) (by omega) hil
          rw [Hx.out] at h3 h4
          have h5 : x.f ≠ st := Hfs.out
          omega
      · gi_wp2
        go_end0
        refine ⟨⟨_, rfl⟩, .inl ⟨pre, ?_, HJp.out⟩⟩
        rw [Hpre.out]
        exact (from_filter ss st k0 i Hlo.out Hall.out (fun j h1 h2 => by omega) hi).symm
  · have hke : k0 = ss.length := by omega
    subst hke
    have hfin : ([] : List { x : Stp // GS st N x }).map (·.1) = ss.filter (fun x => decide (x.f = st)) := by
      rw [from_filter ss st ss.length 0 Hlo.out (fun j h1 h2 => by omega) (fun j h1 h2 => by omega) (by omega)]
      simp
    have Hfin := hide hfin
    clear hfin
    gi_wp2_with (fail)
    all_goals
      refine wpIn_loop_rounds 1 ?_
      rw [roundsIn_succ]
      gi_wp2
      go_end0
      exact ⟨⟨_, rfl⟩, .inl ⟨[], Hfin.out, HJ1.out⟩⟩
theorem fromSeqX {ss : List Stp} {a : Option Addr} {cap : Nat} (n B1 B2 m : Nat) (X : List Nat) (N : Nat) (st : Int) (w0 : World) (hm : m ≤ w0.heap.size) (hB1 : w0.cell? ⟨B1, 4, none⟩ = some (.slice a ss.length cap)) (hB2 : w0.cell? ⟨B2, 0, none⟩ = some (.int .i64 st)) (hb2 : B2 < m ∧ B2 ∉ X)
    (hS : StepSl w0 (.slice a ss.length cap) ss) (hlt : ∀ b off, ss ≠ [] → a = some ⟨b, off, none⟩ → b < m ∧ b ∉ X) (hlen : ss.length ≤ 6000)
    (hmono : ∀ i j, i ≤ j → j < ss.length → (ss.getD i stp0).f ≤ (ss.getD j stp0).f) (hgs : ∀ x, x ∈ ss → x.f = st → GS st N x) :
    SeqStopsK Fence.wide n Tryd.prog 116 #[.pointer (some ⟨B1, 0, none⟩), .pointer (some ⟨B2, 0, none⟩)] (fun x : { x : Stp // GS st N x } => #[.agg #[.int .i64 x.1.f, .int .i64 x.1.l, .int .i64 x.1.t]]) (KX m X)
      (fun xs => xs.map (·.1) = ss.filter (fun x => decide (x.f = st))) (fun _ => True) ss.length w0 := by
  intro l J Jx W hb hJ hJx hY h0
  have hx1 := (hb.cell (World.block_lt_of_cell? w0 _ hB1)).trans hB1
  have hx2 := (hb.cell (World.block_lt_of_cell? w0 _ hB2)).trans hB2
  have hS' := hS.below hb
  obtain ⟨a', cap', e, _, hz, hn, hcap⟩ := hS'
  cases e
  rcases hz with rfl | ⟨b, off, rfl, hc⟩
  · refine (fromZero_in hn n l B1 B2 st J W hx1 hx2 h0).mono ?_
    rintro e W' ⟨hv, hj⟩
    exact ⟨hv, .inl ⟨[], rfl, hj⟩⟩
  · by_cases hnil : ss = []
    · subst hnil
      refine (fromZero_in hn n l B1 B2 st J W hx1 hx2 h0).mono ?_
      rintro e W' ⟨hv, hj⟩
      exact ⟨hv, .inl ⟨[], rfl, hj⟩⟩
    · refine (fromOneX_in n l B1 B2 m X N st J Jx hY W hJ (Nat.le_trans hm hb.size) hx1 hx2 hb2 (hlt b off hnil rfl) hlen hcap hc hmono hgs h0).mono ?_
      rintro e W' ⟨hv, h⟩
      refine ⟨hv, ?_⟩
      rcases h with h | ⟨pre, h⟩
      · exact .inl h
      · exact .inr ⟨pre, trivial, h⟩
end Go.Proofs.YtpiacnnifdjlkaaDoor

namespace Go.Proofs.YtpiacnnifdjlkaaDoor
open Go.RowKit Go.Sort

theorem owns_slice {w : World} {base : Nat} {e : TypeId} {size : Nat} {v : Value} {n : Nat} {xs : List Value} (h : w.ownsRow base e size v (n + 1) xs) : ∃ g cap, v = .slice (some ⟨g, 0, none⟩) (n + 1) cap ∧ base ≤ g := by
  rcases h.2 with ⟨_, h0⟩ | ⟨g, cap, cur, rfl, hb, _⟩
  · omega
  · exact ⟨g, cap, rfl, hb⟩

theorem wpList_append_int (w : World) {ops : Array Oper} {rest : List Oper} {o : Oper} {a : Act} {Q : Exit → Act → World → Prop} (hgd : o.guard = none) (s x : Operand)
    (ho : o.op = .call { callee := .builtin .append, args := #[s, x], argTypes := #[22, 22] }) (base n : Nat) (v : Value) (xs : List Value) (hs : a.eval s = v)
    (hown : w.ownsRow base 3 1 v n xs) (B c : Nat) (z : Int) (hx : a.eval x = .slice (some ⟨B, 0, none⟩) 1 c) (hc : 1 ≤ c) (h0 : w.cell? ⟨B, 0, none⟩ = some (.int .i64 z)) (hn : n ≤ 900000) (hbase : base ≤ w.heap.size)
    (h : ∀ g' cap' w', w'.ownsRow base 3 1 (.slice (some ⟨g', 0, none⟩) (n + 1) cap') (n + 1) (xs ++ [.int .i64 z]) → w.grownBy w' v.ownBlock → (v.ownBlock = some g' ∨ g' = w.heap.size) → base ≤ g' → wpList Tryd.prog ops Q rest (a.put o.dst (.slice (some ⟨g', 0, none⟩) (n + 1) cap')) w') : wpList Tryd.prog ops Q (o :: rest) a w := by
  have hz : IntSl w (.slice (some ⟨B, 0, none⟩) 1 c) [z] := ⟨_, _, rfl, by simp [maxLen], Or.inr ⟨B, 0, rfl, fun i hi => by
    have : i = 0 := by simpa using hi
    subst this
    exact h0⟩, fun e => (by cases e), by simpa using hc⟩
  obtain ⟨v', w', hr, h2, h3, h4⟩ := run_append_sl w o.type base v n xs hown _ [z] hz (by simp; omega) hbase
  have h2' : w'.ownsRow base 3 1 v' (n + 1) (xs ++ [.int .i64 z]) := h2
  obtain ⟨g', cap', rfl, hb⟩ := owns_slice h2'
  refine wpList_plain hgd fun K hK => ?_
  unfold Oper.wp execOp
  simp only [ho, resolve, invoke, builtin, Sem.run_bind, Sem.run_pure, Result.andThen_ok, List.map_toArray, List.map_cons, List.map_nil, hs, hx, hr]
  refine hK _ _ (h g' cap' w' h2' h3 ?_ hb)
  rcases h4 with h4 | h4
  · left; rw [← h4]; rfl
  · right; simpa [Value.ownBlock] using h4

/-- What meet has before it: the marks, and what is to be gone through. -/
structure MT (W : World) (base BM BT gM N : Nat) (f : Nat → Bool) (xs : List Int) : Prop where
  bm : W.heap[BM]? = some (.cells #[.slice (some ⟨gM, 0, none⟩) N N] 23)
  bt : ∃ v, W.heap[BT]? = some (.cells #[v] 22) ∧ W.ownsRow base 3 1 v xs.length (xs.map (.int .i64))
  br : BR W gM N f
  lo : BM < base ∧ BT < base ∧ gM < base ∧ base ≤ W.heap.size ∧ BM ≠ BT ∧ gM ≠ BM ∧ gM ≠ BT

/-- The list's row lies among the blocks that may turn. -/
def RowIn (m : Nat) (X : List Nat) (BT : Nat) (W : World) : Prop := ∀ v r, W.heap[BT]? = some (.cells #[v] 22) → v.ownBlock = some r → r ∈ X ∨ m ≤ r

def addF (f : Nat → Bool) (s : Nat) : Nat → Bool := fun i => f i || decide (i = s)

theorem owns_kept {w w' : World} {base : Nat} {e : TypeId} {size : Nat} {v : Value} {n : Nat} {xs : List Value} (h : w.ownsRow base e size v n xs) (hk : ∀ r, v.ownBlock = some r → w'.heap[r]? = w.heap[r]?) : w'.ownsRow base e size v n xs := by
  refine ⟨h.1, ?_⟩
  rcases h.2 with h2 | ⟨g, cap, cur, rfl, hb, hg, r⟩
  · exact .inl h2
  · exact .inr ⟨g, cap, cur, rfl, hb, by rw [hk g rfl]; exact hg, r⟩

/-- What grows one row that the call owns leaves all that is no cells. -/
theorem grown_others {w w' : World} {base : Nat} {e : TypeId} {size : Nat} {v : Value} {n : Nat} {xs : List Value} (hg : w.grownBy w' v.ownBlock) (h : w.ownsRow base e size v n xs) : KeepsOthers w w' := by
  refine ⟨hg.size, fun k o hk ho => ?_⟩
  refine (hg.block k (Array.getElem?_eq_some_iff.1 hk).1 (fun e => ?_)).trans hk
  rcases h.2 with ⟨rfl, _⟩ | ⟨g, cap, cur, rfl, hb, hgr, _⟩
  · cases e
  · have : k = g := by simpa [Value.ownBlock] using e
    subst this
    rw [hgr] at hk
    cases hk
    cases ho

set_option maxRecDepth 100000 in
set_option maxHeartbeats 1000000 in
theorem meet_any {w : World} {base BM BT gM N m : Nat} {X : List Nat} {f : Nat → Bool} {xs : List Int} (s : Nat) (hMT : MT w base BM BT gM N f xs) (hs : s < N) (hlen : xs.length ≤ 900000) (hm : m ≤ w.heap.size) (hXM : gM ∈ X) (hXT : BT ∈ X) (hrow : RowIn m X BT w) :
    Calls Tryd.prog 88 #[.int .i64 (s : Nat), .pointer (some ⟨BM, 0, none⟩), .pointer (some ⟨BT, 0, none⟩)] w fun e w' => (∃ v, e = .returned v) ∧ MT w' base BM BT gM N (addF f s) (if f s then xs else xs ++ [(s : Int)]) ∧ KX m X w w' ∧ RowIn m X BT w' ∧ KeepsOthers w w' := by
  have HMT := hide hMT
  obtain ⟨v, ebt, hown⟩ := hMT.bt
  have b0 := cell_of_row w BM 0 _ _ _ hMT.bm
  have t0 := cell_of_row w BT 0 _ _ _ ebt
  have g0 := hMT.br.cell s hs
  have gs := hMT.br.soft
  have hlo := hMT.lo
  have tf : ∀ o, w.frozen? ⟨BT, o, none⟩ = false := fun o => by simp [World.frozen?, ebt]
  generalize hfs : f s = fs at *
  have Hfs := hide hfs
  have Hown := hide hown
  have Hebt := hide ebt
  have Hrow := hide hrow
  clear hMT hown ebt hrow hfs
  cases fs
  · have hne1 : ¬ gM = BM := by omega
    have hne2 : ¬ gM = BT := by omega
    have n1 : gM < w.heap.size := by omega
    have n2 : BT < w.heap.size := by omega
    have n3 : BM < w.heap.size := by omega
    obtain ⟨ad, cp, rfl⟩ := owns_form Hown.out
    have hw1 := below_new (w.setCell ⟨gM, s, none⟩ (.bool true)) (Obj.cells #[Value.int .i64 (s : Nat)] 3)
    have hsz : (w.setCell ⟨gM, s, none⟩ (.bool true)).heap.size = w.heap.size := by simp [World.setCell]
    have hsame : ∀ k, k ≠ gM → k < w.heap.size → ((w.setCell ⟨gM, s, none⟩ (.bool true)).alloc (Obj.cells #[Value.int .i64 (s : Nat)] 3)).heap[k]? = w.heap[k]? := fun k h1 h2 => by
      rw [hw1.block k (by rw [hsz]; exact h2), heap_setCell_other _ _ _ _ h1]
    have HownW := hide (owns_kept (w' := (w.setCell ⟨gM, s, none⟩ (.bool true)).alloc (Obj.cells #[Value.int .i64 (s : Nat)] 3)) Hown.out (fun r hr => hsame r (by have := (Hown.out.lt r hr).1; omega) (Hown.out.lt r hr).2))
    have hnew : ((w.setCell ⟨gM, s, none⟩ (.bool true)).alloc (Obj.cells #[Value.int .i64 (s : Nat)] 3)).heap[w.heap.size]? = some (Obj.cells #[Value.int .i64 (s : Nat)] 3) := by
      have := one_new (w.setCell ⟨gM, s, none⟩ (.bool true)) (Obj.cells #[Value.int .i64 (s : Nat)] 3)
      rwa [hsz] at this
    have Hc0 := hide (cell_of_row _ _ 0 _ _ _ hnew)
    have HszW := hide (show base ≤ ((w.setCell ⟨gM, s, none⟩ (.bool true)).alloc (Obj.cells #[Value.int .i64 (s : Nat)] 3)).heap.size by simp [World.setCell]; omega)
    have HszW2 := hide (show ((w.setCell ⟨gM, s, none⟩ (.bool true)).alloc (Obj.cells #[Value.int .i64 (s : Nat)] 3)).heap.size = w.heap.size + 1 by simp [World.setCell])
    have HBTW := hide (hsame BT (by omega) n2)
    have HBMW := hide (hsame BM (by omega) n3)
    have HBR1 := hide ((HMT.out.br.set s hs).old hw1)
    have HKX1 := hide ((KX.set m X w gM s (.bool true) hXM).trans (KX.of_below hw1 (by rw [hsz]; exact hm)))
    clear hw1 hsz hsame hnew
    go_enter Tryd.func88, Tryd.ntmps88
    go_wp2_with (at_builtin; refine wpList_append_int _ rfl (.tmp 12) (.tmp 14) rfl base xs.length _ (xs.map (.int .i64)) rfl HownW.out w.heap.size 1 (s : Int) rfl (by decide) Hc0.out hlen HszW.out ?_; intro g8 cap8 w8 hown8 hgrow8 hor8 hbase8; have hbt8 := (hgrow8.block BT (by have := HszW2.out; omega) (fun e => by have := (Hown.out.lt BT e.symm).1; omega)).trans (HBTW.out.trans Hebt.out); have z0 := cell_of_row w8 BT 0 _ _ _ hbt8; have zf : ∀ o, w8.frozen? ⟨BT, o, none⟩ = false := (fun o => by simp [World.frozen?, hbt8]); have Hown8 := hide hown8; have Hgrow8 := hide hgrow8; have Hor8 := hide hor8; have Hbt8 := hide hbt8; clear hown8 hgrow8 hor8 hbt8)
    go_end0
    have hbt8 := Hbt8.out
    have hl8 := (Array.getElem?_eq_some_iff.1 hbt8).1
    have hgr := Hgrow8.out
    have hkeep8 : ∀ k, k < base → w8.heap[k]? = ((w.setCell ⟨gM, s, none⟩ (.bool true)).alloc (Obj.cells #[Value.int .i64 (s : Nat)] 3)).heap[k]? := fun k hk => hgr.block k (by have := HszW2.out; omega) (fun e => by have := (Hown.out.lt k e.symm).1; omega)
    refine ⟨⟨_, rfl⟩, ⟨?_, ⟨_, heap_setCell_row 0 _ hbt8, ?_⟩, ?_, ?_⟩, ?_, ?_, ((KeepsOthers.setCell _ _ _).trans (KeepsOthers.alloc _ _)).trans ((grown_others hgr HownW.out).trans (KeepsOthers.setCell _ _ _))⟩
    · rw [heap_setCell_other _ _ _ _ (show BM ≠ BT by omega), hkeep8 BM (by omega), HBMW.out]
      exact HMT.out.bm
    · have := owns_kept (w' := w8.setCell ⟨BT, 0, none⟩ (.slice (some ⟨g8, 0, none⟩) (xs.length + 1) cap8)) Hown8.out (fun r hr => heap_setCell_other _ _ _ _ (by have := (Hown8.out.lt r hr).1; show r ≠ BT; omega))
      simpa using this
    · exact (HBR1.out.of_block (hkeep8 gM (by omega))).far 0 _ (by omega)
    · have := hgr.size
      rw [HszW2.out] at this
      refine ⟨by omega, by omega, by omega, ?_, by omega, by omega, by omega⟩
      simp [World.setCell]; omega
    · refine (HKX1.out.trans (KX.grownBy hgr (by have := HszW2.out; omega) (fun r hr => Hrow.out _ r Hebt.out hr))).trans (KX.set m X w8 BT 0 _ hXT)
    · intro v' r hv' hr
      rw [heap_setCell_row 0 _ hbt8] at hv'
      have e : v' = .slice (some ⟨g8, 0, none⟩) (xs.length + 1) cap8 := by
        injection hv' with h1
        injection h1 with h2
        have := congrArg (fun a => a[0]?) h2
        simpa using this.symm
      subst e
      have er : r = g8 := by simpa [Value.ownBlock] using hr.symm
      subst er
      rcases Hor8.out with h | h
      · exact Hrow.out _ r Hebt.out h
      · right
        rw [h, HszW2.out]
        omega
  · go_enter Tryd.func88, Tryd.ntmps88
    go_wp2
    go_end0
    refine ⟨⟨_, rfl⟩, ?_, KX.refl _ _ _, Hrow.out, KeepsOthers.refl _⟩
    have h := HMT.out
    exact ⟨h.bm, h.bt, h.br.congr (fun i _ => by unfold addF; by_cases e : i = s; rw [e, Hfs.out]; rfl; simp [e]), h.lo⟩
end Go.Proofs.YtpiacnnifdjlkaaDoor
