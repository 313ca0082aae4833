/-
  What readLine of package auto reads.
-/
import Derived.Test.YtpiacnnifdjlkaaDoorJb
/-
  What readStep of package auto reads.
-/
namespace Go.Proofs.YtpiacnnifdjlkaaDoor
open Go.RowKit Go.Sort

theorem RA.old {w : World} {base pb : Nat} {fv gv sv : Value} {A : Aut} (h : RA w base pb fv gv sv A) : base ≤ w.heap.size := Nat.le_trans h.hb (Nat.le_of_lt (Array.getElem?_eq_some_iff.1 h.box).1)

theorem stepB_three {T0 T1 T2 : List UInt8} : stepB [T0, T1, T2] = okWs [T0, T1, T2] := rfl

/-- A row of three numbers of the call's own. -/
theorem owns_three {w : World} {base : Nat} {v : Value} {x y z : Int} (h : w.ownsRow base 3 1 v 3 [.int .i64 x, .int .i64 y, .int .i64 z]) : ∃ g cap, v = .slice (some ⟨g, 0, none⟩) 3 cap ∧ 3 ≤ cap ∧ base ≤ g ∧ w.cell? ⟨g, 0, none⟩ = some (.int .i64 x) ∧ w.cell? ⟨g, 1, none⟩ = some (.int .i64 y) ∧ w.cell? ⟨g, 2, none⟩ = some (.int .i64 z) := by
  rcases h.2 with ⟨_, h0⟩ | ⟨g, cap, cur, rfl, hb, hg, h1, _⟩
  · cases h0
  · have hc := h.cells (g := g) rfl
    refine ⟨g, cap, rfl, h1, hb, ?_, ?_, ?_⟩
    · have := hc 0 _ rfl; rwa [add_none] at this
    · have := hc 1 _ rfl; rwa [add_none] at this
    · have := hc 2 _ rfl; rwa [add_none] at this

set_option maxRecDepth 100000 in
set_option maxHeartbeats 1000000 in
theorem readStep_any {w : World} {v : Value} {Ts : List (List UInt8)} {base pb : Nat} {fv gv sv : Value} {A : Aut} (hR : RA w base pb fv gv sv A) (hv : StrSl w v Ts) (h0 : 0 < Ts.length) (hl : A.steps.length ≤ 100000) :
    Calls Tryd.prog 125 #[.pointer (some ⟨pb, 0, none⟩), v] w fun e w' => LineOk base pb { A with steps := A.steps ++ [stepW Ts] } (stepB Ts) w e w' := by
  have HR := hide hR
  have HV := hide hv
  obtain ⟨b, off, cap, rfl, hcap, hm, -⟩ := strSl_cell hv h0
  clear hv
  unfold maxLen at hm
  by_cases h3 : Ts.length = 3
  · have HN := hide (numbers_any HV.out (by omega))
    obtain ⟨T0, T1, T2, rfl⟩ := three_words h3
    clear hR HV
    go_enter Tryd.func125, Tryd.ntmps125
    go_wp2_with (fail)
    refine HN.out.mono ?_
    rintro e w1 ⟨v1, rfl, hok, hbad, hb1⟩
    rw [← stepB_three] at *
    cases hs : stepB [T0, T1, T2] with
    | false =>
      obtain rfl := hbad hs
      have HZ := hide hs
      have HB := hide (hb1.mono HR.out.old)
      clear hs hok hbad hb1
      go_wp2_with (fail)
      go_ret
      exact ⟨by rw [HZ.out]; rfl, HB.out, fun h => absurd (HZ.out.symm.trans h) (by decide)⟩
    | true =>
      have ho := hok hs
      have HZ := hide hs
      have HB := hide (hb1.mono HR.out.old)
      have HR1 := hide (HR.out.below hb1)
      have HNB := hide (show w.heap.size ≤ w1.heap.size from hb1.size)
      have e3 : (valsW [T0, T1, T2]).map (Value.int .i64) = [.int .i64 (stepW [T0, T1, T2]).f, .int .i64 (stepW [T0, T1, T2]).l, .int .i64 (stepW [T0, T1, T2]).t] := rfl
      rw [e3, show (valsW [T0, T1, T2]).length = 3 from rfl] at ho
      clear e3 hok hbad hb1 hs
      generalize hSt : stepW [T0, T1, T2] = st at *
      have HSt := hide hSt
      clear hSt
      obtain ⟨sf, sl, st⟩ := st
      dsimp only at *
      obtain ⟨rb, rc, rfl, hrc, hrb, n0, n1, n2⟩ := owns_three ho
      have q4 := cell_of_row _ _ 4 _ _ _ HR1.out.box
      have hsv : ∃ a n c, sv = .slice a n c := by
        rcases HR1.out.s.2 with ⟨rfl, _⟩ | ⟨g, cp, cur, rfl, -⟩
        · exact ⟨_, _, _, rfl⟩
        · exact ⟨_, _, _, rfl⟩
      have HAp := hide HR1.out.apart.2.2
      have HRb := hide (show some rb ≠ sv.ownBlock from fun e => by have := (HR.out.s.lt rb e.symm).2; omega)
      clear ho
      go_wp2_with (fail)
      rename_i Q' K hK
      refine wp_region_put 19 15 16 _ [(0, 17), (1, 18), (2, 19), (3, 20), (4, 21), (5, 22), (6, 23), (7, 24), (8, 25), (9, 26), (10, 27), (11, 28), (12, 29), (13, 30), (14, 31), (15, 32), (16, 33), (17, 34), (18, 35)] (fun j v => match j with | 0 => v = .pointer (some ⟨pb, 0, none⟩) | 1 => v = .pointer (some ⟨pb, 0, none⟩) | 2 => v = .pointer (some ⟨pb, 0, none⟩) | 3 => v = .pointer (some ⟨pb, 4, none⟩) | 4 => v = sv | 5 => v = .slice (some ⟨rb, 0, none⟩) 3 rc | 6 => v = .pointer (some ⟨rb, 0, none⟩) | 7 => v = .int .i64 sf | 8 => v = .slice (some ⟨rb, 0, none⟩) 3 rc | 9 => v = .pointer (some ⟨rb, 1, none⟩) | 10 => v = .int .i64 sl | 11 => v = .slice (some ⟨rb, 0, none⟩) 3 rc | 12 => v = .pointer (some ⟨rb, 2, none⟩) | 13 => v = .int .i64 st | 14 => v = .agg #[.int .i64 sf, .int .i64 sl, .int .i64 st] | 15 => True | 16 => True | 17 => v = .pointer (some ⟨pb, 0, none⟩) | 18 => v = .pointer (some ⟨pb, 4, none⟩) | _ => True) [.int .i64 sf, .int .i64 sl, .int .i64 st] elStep HR1.out.old HR1.out.s (by omega) rfl (by intro u hu; simp at hu; (try (rcases hu with rfl | rfl | rfl <;> rfl)); (try (subst hu; rfl))) (by kernel_rfl) (by kernel_rfl) (by kernel_rfl) (by kernel_rfl) (by kernel_rfl) rfl (by decide) (by decide) (.cells #[.int .i64 sf, .int .i64 sl, .int .i64 st] 81) 1 (el_new #[.int .i64 sf, .int .i64 sl, .int .i64 st] 81) rfl rfl ?_ _ rfl (.tmp 21) (.tmp 32) rfl ?_ ?_ rfl rfl sizeSteps HR1.out.box HAp.out (by decide : 4 < 5) ?_ (fun vs => by simp [putPairs]) ?_
      · intro o ho a W vs he hd
        obtain rfl := Option.some.inj ho
        clear ho
        have v14 : a.tmps[31]?.getD undef = .agg #[.int .i64 sf, .int .i64 sl, .int .i64 st] := (dep_val hd 14 31 (by kernel_rfl) (by kernel_rfl)).1
        simp [execOp, go_sem, v14]
      · intro a W vs hd
        have v1 : a.tmps[21]?.getD undef = sv := (dep_val hd 4 21 (by kernel_rfl) (by kernel_rfl)).1
        exact ⟨(eval_tmp a 21).trans v1, by rw [eval_tmp]; exact (dep_val hd 15 32 (by kernel_rfl) (by kernel_rfl)).2.1 rfl⟩
      · intro j o hj hjB hjX ho a W vs hV he hd
        match j, hj, hjB, hjX, ho with
        | 0, hj, hjB, hjX, ho =>
          obtain rfl := Option.some.inj ho
          clear ho
          have e0 : a.tmps[0]?.getD undef = .pointer (some ⟨pb, 0, none⟩) := free_val he 0 (by kernel_rfl)
          exact ⟨.pointer (some ⟨pb, 0, none⟩), by simp [execOp, go_sem, e0], rfl⟩
        | 1, hj, hjB, hjX, ho =>
          obtain rfl := Option.some.inj ho
          clear ho
          have e0 : a.tmps[0]?.getD undef = .pointer (some ⟨pb, 0, none⟩) := free_val he 0 (by kernel_rfl)
          exact ⟨.pointer (some ⟨pb, 0, none⟩), by simp [execOp, go_sem, e0], rfl⟩
        | 2, hj, hjB, hjX, ho =>
          obtain rfl := Option.some.inj ho
          clear ho
          have v1 : a.tmps[18]?.getD undef = .pointer (some ⟨pb, 0, none⟩) := (dep_val hd 1 18 (by kernel_rfl) (by kernel_rfl)).1
          exact ⟨.pointer (some ⟨pb, 0, none⟩), by simp [execOp, go_sem, v1], rfl⟩
        | 3, hj, hjB, hjX, ho =>
          obtain rfl := Option.some.inj ho
          clear ho
          have v2 : a.tmps[19]?.getD undef = .pointer (some ⟨pb, 0, none⟩) := (dep_val hd 2 19 (by kernel_rfl) (by kernel_rfl)).1
          exact ⟨.pointer (some ⟨pb, 4, none⟩), by simp [execOp, go_sem, v2], rfl⟩
        | 4, hj, hjB, hjX, ho =>
          obtain rfl := Option.some.inj ho
          clear ho
          have v3 : a.tmps[20]?.getD undef = .pointer (some ⟨pb, 4, none⟩) := (dep_val hd 3 20 (by kernel_rfl) (by kernel_rfl)).1
          have c0 := hV.cell q4 HAp.out
          exact ⟨sv, by simp [execOp, go_sem, v3, c0], rfl⟩
        | 5, hj, hjB, hjX, ho =>
          obtain rfl := Option.some.inj ho
          clear ho
          have e5 : a.tmps[5]?.getD undef = .slice (some ⟨rb, 0, none⟩) 3 rc := free_val he 5 (by kernel_rfl)
          exact ⟨.slice (some ⟨rb, 0, none⟩) 3 rc, by simp [execOp, go_sem, e5], rfl⟩
        | 6, hj, hjB, hjX, ho =>
          obtain rfl := Option.some.inj ho
          clear ho
          have v5 : a.tmps[22]?.getD undef = .slice (some ⟨rb, 0, none⟩) 3 rc := (dep_val hd 5 22 (by kernel_rfl) (by kernel_rfl)).1
          exact ⟨.pointer (some ⟨rb, 0, none⟩), by simp [execOp, go_sem, v5], rfl⟩
        | 7, hj, hjB, hjX, ho =>
          obtain rfl := Option.some.inj ho
          clear ho
          have v6 : a.tmps[23]?.getD undef = .pointer (some ⟨rb, 0, none⟩) := (dep_val hd 6 23 (by kernel_rfl) (by kernel_rfl)).1
          have c0 := hV.cell n0 HRb.out
          exact ⟨.int .i64 sf, by simp [execOp, go_sem, v6, c0], rfl⟩
        | 8, hj, hjB, hjX, ho =>
          obtain rfl := Option.some.inj ho
          clear ho
          have e5 : a.tmps[5]?.getD undef = .slice (some ⟨rb, 0, none⟩) 3 rc := free_val he 5 (by kernel_rfl)
          exact ⟨.slice (some ⟨rb, 0, none⟩) 3 rc, by simp [execOp, go_sem, e5], rfl⟩
        | 9, hj, hjB, hjX, ho =>
          obtain rfl := Option.some.inj ho
          clear ho
          have v8 : a.tmps[25]?.getD undef = .slice (some ⟨rb, 0, none⟩) 3 rc := (dep_val hd 8 25 (by kernel_rfl) (by kernel_rfl)).1
          exact ⟨.pointer (some ⟨rb, 1, none⟩), by simp [execOp, go_sem, v8], rfl⟩
        | 10, hj, hjB, hjX, ho =>
          obtain rfl := Option.some.inj ho
          clear ho
          have v9 : a.tmps[26]?.getD undef = .pointer (some ⟨rb, 1, none⟩) := (dep_val hd 9 26 (by kernel_rfl) (by kernel_rfl)).1
          have c0 := hV.cell n1 HRb.out
          exact ⟨.int .i64 sl, by simp [execOp, go_sem, v9, c0], rfl⟩
        | 11, hj, hjB, hjX, ho =>
          obtain rfl := Option.some.inj ho
          clear ho
          have e5 : a.tmps[5]?.getD undef = .slice (some ⟨rb, 0, none⟩) 3 rc := free_val he 5 (by kernel_rfl)
          exact ⟨.slice (some ⟨rb, 0, none⟩) 3 rc, by simp [execOp, go_sem, e5], rfl⟩
        | 12, hj, hjB, hjX, ho =>
          obtain rfl := Option.some.inj ho
          clear ho
          have v11 : a.tmps[28]?.getD undef = .slice (some ⟨rb, 0, none⟩) 3 rc := (dep_val hd 11 28 (by kernel_rfl) (by kernel_rfl)).1
          exact ⟨.pointer (some ⟨rb, 2, none⟩), by simp [execOp, go_sem, v11], rfl⟩
        | 13, hj, hjB, hjX, ho =>
          obtain rfl := Option.some.inj ho
          clear ho
          have v12 : a.tmps[29]?.getD undef = .pointer (some ⟨rb, 2, none⟩) := (dep_val hd 12 29 (by kernel_rfl) (by kernel_rfl)).1
          have c0 := hV.cell n2 HRb.out
          exact ⟨.int .i64 st, by simp [execOp, go_sem, v12, c0], rfl⟩
        | 14, hj, hjB, hjX, ho =>
          obtain rfl := Option.some.inj ho
          clear ho
          have v7 : a.tmps[24]?.getD undef = .int .i64 sf := (dep_val hd 7 24 (by kernel_rfl) (by kernel_rfl)).1
          have v10 : a.tmps[27]?.getD undef = .int .i64 sl := (dep_val hd 10 27 (by kernel_rfl) (by kernel_rfl)).1
          have v13 : a.tmps[30]?.getD undef = .int .i64 st := (dep_val hd 13 30 (by kernel_rfl) (by kernel_rfl)).1
          exact ⟨.agg #[.int .i64 sf, .int .i64 sl, .int .i64 st], by simp [execOp, go_sem, v7, v10, v13], rfl⟩
        | 15, hj, hjB, hjX, ho =>
          exact absurd rfl hjB
        | 16, hj, hjB, hjX, ho =>
          exact absurd rfl hjX
        | 17, hj, hjB, hjX, ho =>
          obtain rfl := Option.some.inj ho
          clear ho
          have v0 : a.tmps[17]?.getD undef = .pointer (some ⟨pb, 0, none⟩) := (dep_val hd 0 17 (by kernel_rfl) (by kernel_rfl)).1
          exact ⟨.pointer (some ⟨pb, 0, none⟩), by simp [execOp, go_sem, v0], rfl⟩
        | 18, hj, hjB, hjX, ho =>
          obtain rfl := Option.some.inj ho
          clear ho
          have v17 : a.tmps[34]?.getD undef = .pointer (some ⟨pb, 0, none⟩) := (dep_val hd 17 34 (by kernel_rfl) (by kernel_rfl)).1
          exact ⟨.pointer (some ⟨pb, 4, none⟩), by simp [execOp, go_sem, v17], rfl⟩
        | j + 19, hj, hjB, hjX, ho => exact absurd hj (by omega)
      · intro vs hRp
        have hva : vs 18 = .pointer (some ⟨pb, 4, none⟩) := hRp 18 (by decide)
        simp [putPairs, hva]
      · intro vs W g9 c9 hV hRp hrow hwh
        refine hK _ _ ?_
        have HF := hide (HR1.out.appStep (z := ⟨sf, sl, st⟩) hV hrow)
        have HBF := hide (HB.out.trans (below_set hV.below HR.out.hb 4 (.slice (some ⟨g9, 0, none⟩) (A.steps.length + 1) c9)))
        clear hrow hV hRp
        simp only [putPairs]
        go_wp2_with (fail)
        go_ret
        exact ⟨by rw [HZ.out]; rfl, HBF.out, fun _ => by rw [HSt.out]; exact ⟨_, _, _, HF.out⟩⟩
  · have HZ := hide (show stepB Ts = false by unfold stepB; rw [decide_eq_false h3]; rfl)
    generalize Ts.length = L at *
    have g3 : ((L : Int) != 3) = true := by simp; omega
    clear hR HR HV
    go_enter Tryd.func125, Tryd.ntmps125
    go_wp2_with (fail)
    go_ret
    exact ⟨by rw [HZ.out]; rfl, Below.refl _ _, fun h => absurd (HZ.out.symm.trans h) (by decide)⟩
end Go.Proofs.YtpiacnnifdjlkaaDoor

/-
  What readGood of package auto reads.
-/
namespace Go.Proofs.YtpiacnnifdjlkaaDoor
open Go.RowKit Go.Sort

theorem markL_nil (n : Nat) : markL n [] = List.replicate n false := by
  unfold markL
  refine List.ext_getElem (by simp) fun i h1 h2 => by simp

theorem markL_len (n : Nat) (zs : List Int) : (markL n zs).length = n := by simp [markL]

theorem markL_snoc (n : Nat) (zs : List Int) (z : Nat) : markL n (zs ++ [(z : Int)]) = (markL n zs).set z true := by
  refine List.ext_getElem (by simp [markL]) fun i h1 h2 => ?_
  rw [List.getElem_set]
  by_cases e : z = i
  · subst e
    simp [markL]
  · rw [if_neg e]
    have e' : ¬ (z : Int) = (i : Int) := by omega
    simp [markL, e']

theorem markL_take (n : Nat) (zs : List Int) (i : Nat) (h : i < zs.length) (h0 : 0 ≤ zs.getD i 0) : markL n (zs.take (i + 1)) = (markL n (zs.take i)).set (zs.getD i 0).toNat true := by
  rw [List.take_add_one, List.getElem?_eq_getElem h]
  have e : zs[i] = ((zs.getD i 0).toNat : Int) := by simp [List.getD, h] at h0 ⊢; omega
  rw [Option.toList_some, e]
  exact markL_snoc n _ _

/-- The last of so many. -/
def lastZ (zs : List Int) (i : Nat) : Int := if i = 0 then -1 else zs.getD (i - 1) 0

theorem lastZ_succ (zs : List Int) (i : Nat) : lastZ zs (i + 1) = zs.getD i 0 := by simp [lastZ]

theorem rises_step (n : Int) (zs : List Int) (i : Nat) (h : i < zs.length) : risesB n (lastZ zs i) (zs.drop i) = (decide (lastZ zs i < zs.getD i 0) && decide (zs.getD i 0 < n) && risesB n (lastZ zs (i + 1)) (zs.drop (i + 1))) := by
  have e : zs.drop i = zs.getD i 0 :: zs.drop (i + 1) := by
    rw [List.drop_eq_getElem_cons h]
    simp [List.getD, h]
  rw [e, risesB, lastZ_succ]

/-- A mark is set in the row of what is good. -/
theorem RA.mark {w : World} {base pb g N : Nat} {fv sv : Value} {A : Aut} (h : RA w base pb fv (.slice (some ⟨g, 0, none⟩) N N) sv A) (z : Nat) : RA (w.setCell ⟨g, z, none⟩ (.bool true)) base pb fv (.slice (some ⟨g, 0, none⟩) N N) sv { A with good := A.good.set z true } := by
  have hne : pb ≠ g := fun e => h.apart.2.1 (by rw [e]; rfl)
  have hfg := rows_far h.f h.g (by decide)
  have hsg := rows_far h.s h.g (by decide)
  obtain ⟨hl, hg⟩ := h.g
  rcases hg with ⟨hg, _⟩ | ⟨g', cap, cur, e, hb, hg, h1, h2, hs, ht⟩
  · cases hg
  · injection e with e1 e2 e3
    injection e1 with e1
    injection e1 with e1
    subst e1
    subst e3
    have hgl : A.good.length = N := e2.symm
    refine ⟨(heap_setCell_other w _ _ pb hne).trans h.box, owns_kept h.f fun r hr => heap_setCell_other w _ _ r (fun e => hfg r hr (by rw [e]; rfl)), ?_, owns_kept h.s fun r hr => heap_setCell_other w _ _ r (fun e => hsg r hr (by rw [e]; rfl)), h.hb⟩
    refine ⟨by simp, Or.inr ⟨g, N, _, by simp [hgl], hb, box_set hg z (.bool true), by simp [hgl], h2, by simpa using hs, ?_⟩⟩
    have e4 : cur.toList = A.good.map .bool := by
      rw [← ht, List.take_of_length_le]
      simp [hs, hgl]
    rw [Array.toList_setIfInBounds, e4, List.map_set]
    exact List.take_of_length_le (by simp)

theorem RA.good_cell {w : World} {base pb g N : Nat} {fv sv : Value} {A : Aut} (h : RA w base pb fv (.slice (some ⟨g, 0, none⟩) N N) sv A) (z : Nat) (hz : z < N) : (∃ u, w.cell? ⟨g, z, none⟩ = some (.bool u)) ∧ w.frozen? ⟨g, z, none⟩ = false := by
  obtain ⟨hl, hg⟩ := h.g
  rcases hg with ⟨hg, _⟩ | ⟨g', cap, cur, e, hb, hg, h1, h2, hs, ht⟩
  · cases hg
  · injection e with e1 e2 e3
    injection e1 with e1
    injection e1 with e1
    subst e1
    subst e3
    have hgl : A.good.length = N := e2.symm
    have e4 : cur.toList = A.good.map .bool := by
      rw [← ht, List.take_of_length_le]
      simp [hs, hgl]
    refine ⟨⟨A.good.getD z false, ?_⟩, frozen_of_row _ _ z _ _ hg⟩
    rw [cell_of_row _ _ z _ _ _ hg]
    have : cur[z]? = cur.toList[z]? := by simp
    rw [this, e4]
    simp [List.getD, hgl, hz]

/-- The row of what is good is made. -/
theorem RA.made {w : World} {base pb N : Nat} {fv gv sv : Value} {A : Aut} (h : RA w base pb fv gv sv A) (hN : N ≤ 300) : RA ((w.alloc (.cells (falses N) 4)).setCell ⟨pb, 3, none⟩ (.slice (some ⟨w.heap.size, 0, none⟩) N N)) base pb fv (.slice (some ⟨w.heap.size, 0, none⟩) N N) sv { A with good := markL N [] } := by
  have hb := h.below (below_new w (.cells (falses N) 4))
  have hnew := one_new w (.cells (falses N) 4)
  have hlt : pb < w.heap.size := (Array.getElem?_eq_some_iff.1 h.box).1
  refine ⟨box_set hb.box 3 _, owns_set hb.f hb.box (by decide) _ _, ?_, owns_set hb.s hb.box (by decide) _ _, h.hb⟩
  rw [markL_nil]
  refine ⟨by simp, Or.inr ⟨w.heap.size, N, falses N, by simp, h.old, (heap_setCell_other _ _ _ _ (by simp; omega)).trans hnew, by simp, by unfold maxLen; omega, by simp [falses], ?_⟩⟩
  simp [falses]

set_option maxRecDepth 100000 in
set_option maxHeartbeats 2000000 in
theorem readGood_any {w : World} {v : Value} {Ts : List (List UInt8)} {base pb : Nat} {fv gv sv : Value} {A : Aut} (hR : RA w base pb fv gv sv A) (hv : StrSl w v Ts) (h0 : 0 < Ts.length) (hl : Ts.length ≤ 200000) (hn1 : 1 ≤ A.n) (hn3 : A.n ≤ 300) :
    Calls Tryd.prog 124 #[.pointer (some ⟨pb, 0, none⟩), v] w fun e w' => LineOk base pb { A with good := markL A.n.toNat (valsW Ts.tail) } (goodB A.n Ts) w e w' := by
  have HR := hide hR
  obtain ⟨b, off, cap, rfl, hcap, hm, hc⟩ := strSl_cell hv h0
  clear hv
  have d0 := hc 0 h0
  unfold maxLen at hm
  have hoff : ∃ off2, (cap = 1 → off2 = off) ∧ (cap ≠ 1 → off2 = off + 1) ∧ StrSl w (.slice (some ⟨b, off2, none⟩) Ts.tail.length (cap - 1)) Ts.tail := by
    by_cases h1 : cap = 1
    · refine ⟨off, fun _ => rfl, fun h => absurd h1 h, ?_⟩
      have ht : Ts.tail = [] := List.eq_nil_of_length_eq_zero (by rw [List.length_tail]; omega)
      rw [ht]
      exact ⟨_, _, rfl, by unfold maxLen; simp, Or.inl rfl, (fun h => by cases h), by simp⟩
    · refine ⟨off + 1, fun h => absurd h h1, fun _ => rfl, ?_⟩
      refine ⟨_, _, rfl, by unfold maxLen; rw [List.length_tail]; omega, ?_, (fun h => by cases h), by rw [List.length_tail]; omega⟩
      by_cases ht : Ts.tail = []
      · exact Or.inl ht
      · refine Or.inr ⟨b, off + 1, rfl, fun i hi => ?_⟩
        rw [List.length_tail] at hi
        have := hc (i + 1) (by omega)
        rw [show off + (i + 1) = off + 1 + i by omega] at this
        rw [this]
        congr 3
        cases Ts with
        | nil => simp at h0
        | cons t r => simp [List.getD]
  obtain ⟨off2, ho1, ho2, hT⟩ := hoff
  have HN := hide (numbers_any hT (by rw [List.length_tail]; omega))
  rw [List.length_tail] at HN
  have HLt := hide (show Ts.tail.length ≤ 200000 by rw [List.length_tail]; omega)
  clear hc hT hR
  obtain ⟨N, hN⟩ := Int.eq_ofNat_of_zero_le (show 0 ≤ A.n by omega)
  have HNe := hide hN
  have HX := hide HR.out.box
  rw [hN] at HX hn1 hn3
  have hd0 : w.cell? ⟨b, off, none⟩ = some (.string ⟨(Ts.getD 0 []).toArray⟩) := by simpa using d0
  have HG := hide (show goodB A.n Ts = (okWs Ts.tail && decide (Ts.getD 0 [] = wGood) && risesB N (-1) (valsW Ts.tail)) by unfold goodB; rw [hN])
  clear d0 hN
  generalize Ts.length = L at *
  generalize hT0 : Ts.getD 0 [] = T0 at *
  generalize hqq : okWs Ts.tail = ok at *
  have HQ := hide hqq
  clear hT0 hqq
  by_cases hc1 : cap = 1
  · have ho := ho1 hc1
    subst ho
    subst hc1
    have hz1 : L - 1 = 0 := by omega
    rw [hz1, show (1 - 1 : Nat) = 0 from rfl] at HN
    clear ho1 ho2
    go_enter Tryd.func124, Tryd.ntmps124
    go_wp2_with (fail)
    refine HN.out.mono ?_
    rintro e w1 ⟨v1, rfl, hok, hbad, hb1⟩
    rw [HQ.out]
    cases ok with
    | false =>
      obtain rfl := hbad HQ.out
      have HZ := hide (show goodB A.n Ts = false by rw [HG.out]; rfl)
      have HB := hide (hb1.mono HR.out.old)
      clear hok hbad hb1 hd0 HG
      go_wp2_with (fail)
      go_ret
      exact ⟨by rw [HZ.out]; rfl, HB.out, fun h => absurd (HZ.out.symm.trans h) (by decide)⟩
    | true =>
      have ho := hok HQ.out
      have HB := hide (hb1.mono HR.out.old)
      have hR1 := HR.out.below hb1
      have d0 := cell_kept hd0 hb1
      have hpl : pb < w1.heap.size := (Array.getElem?_eq_some_iff.1 hR1.box).1
      have HLt1 := hide (show (valsW Ts.tail).length ≤ 200000 by unfold valsW; rw [List.length_map]; exact HLt.out)
      have HP := hide (show ∀ z ∈ valsW Ts.tail, 0 ≤ z by intro z hz; unfold valsW at hz; obtain ⟨T, _, rfl⟩ := List.mem_map.1 hz; omega)
      have hI := intSl_of_owns ho
      have HO := hide ho
      clear hok hbad hb1 hd0 ho
      by_cases e0 : T0 = wGood
      · have t0 : (!T0 == [103, 111, 111, 100]) = false := by rw [e0]; rfl
        rw [decide_eq_true e0] at HG
        clear e0
        have hx1 := hR1.box
        rw [HNe.out] at hx1
        have q0 := cell_of_row _ _ 0 _ _ _ hx1
        have q3 := cell_of_row _ _ 3 _ _ _ hx1
        have x3 := frozen_of_row _ _ 3 _ _ hx1
        have hmk := make_bools N (by omega) w1
        have hM := hide (hR1.made (N := N) (by omega))
        have HBM := hide (below_set (HB.out.alloc (Nat.le_trans HR.out.old (by have := HB.out.size; exact this)) (.cells (falses N) 4)) HR.out.hb 3 (.slice (some ⟨w1.heap.size, 0, none⟩) N N))
        have HIM := hide (((hI.below (below_new w1 (.cells (falses N) 4)))).setCell (a := ⟨pb, 3, none⟩) (fun k hk => row_apart HO.out hx1 (by decide) k hk) (.slice (some ⟨w1.heap.size, 0, none⟩) N N))
        have HFar := hide (show ∀ k, v1.ownBlock = some k → k ≠ w1.heap.size from fun k hk => by have := (HO.out.lt k hk).2; omega)
        rw [World.setCell_alloc_past _ _ _ _ hpl] at hM HBM HIM
        generalize hZs : valsW Ts.tail = zs at *
        have HZs := hide hZs
        clear hZs
        obtain ⟨a1, c1, rfl, hm1, -⟩ := hI
        unfold maxLen at hm1
        clear hx1 hR1 HN
        generalize hLz : zs.length = Lz at *
        have HLz := hide hLz
        clear hLz
        go_wp2_with (fail)
        go_loopw [7, 34] (fun s7 s34 wr => ∃ i : Nat, s34 = .int .i64 i ∧ i ≤ Lz ∧ s7 = .int .i64 (lastZ zs i) ∧ Hid (RA wr base pb fv (.slice (some ⟨w1.heap.size, 0, none⟩) N N) sv { A with good := markL N (zs.take i) }) ∧ Hid (IntSl wr (.slice a1 Lz c1) zs) ∧ Hid (Below base w wr) ∧ Hid (risesB N (lastZ zs i) (zs.drop i) = risesB N (-1) zs)) (fun _ s34 _ => Lz - (intOf s34).toNat)
        case atStart => exact ⟨0, rfl, Nat.zero_le _, rfl, hM, HIM, HBM, hide rfl⟩
        case round =>
          clear q0 q3 x3 hmk d0
          obtain ⟨i, rfl, hi, rfl, hRA, hIS, hBB, hRi⟩ := hrel
          have hxr := hRA.out.box
          dsimp only at hxr
          rw [HNe.out] at hxr
          have q0 := cell_of_row _ _ 0 _ _ _ hxr
          have q3 := cell_of_row _ _ 3 _ _ _ hxr
          by_cases hlt : i < Lz
          · have hls : i < zs.length := by rw [HLz.out]; exact hlt
            obtain ⟨a', cap', e, _, hzz, _⟩ := hIS.out
            injection e with e1 e2 e3
            subst e1
            rcases hzz with hzz | ⟨b1, off1, e, hcell⟩
            · rw [hzz] at hls; simp at hls
            subst e
            have d1 := hcell i hls
            have h0z := HP.out _ (show zs.getD i 0 ∈ zs by simp [List.getD, hls])
            have HRs := hide (rises_step N zs i hls)
            have HMk := hide (markL_take N zs i hls h0z)
            have HLs := hide (lastZ_succ zs i)
            generalize zs.getD i 0 = z at *
            generalize lastZ zs i = la at *
            clear hcell e2 e3 hls
            obtain ⟨zn, rfl⟩ := Int.eq_ofNat_of_zero_le h0z
            by_cases k1 : la < zn
            · by_cases k2 : (zn : Int) < N
              · obtain ⟨⟨u, hu⟩, hzf⟩ := hRA.out.good_cell zn (by omega)
                have HMr := hide (hRA.out.mark zn)
                have HRi := hide (HRs.out.symm.trans hRi.out)
                rw [decide_eq_true k1, decide_eq_true k2] at HRi
                have HI2 := hide (hIS.out.setCell (a := ⟨w1.heap.size, zn, none⟩) HFar.out (.bool true))
                have HB2 := hide (below_set hBB.out (Nat.le_trans HR.out.old (by have := HB.out.size; exact this)) zn (.bool true))
                clear hRA hIS hBB hRi hxr HRs
                go_wp2_with (fail)
                go_roundw
                case rel => exact ⟨i + 1, by go_num, by omega, by rw [HLs.out], hide (by rw [HMk.out]; exact HMr.out), HI2, HB2, hide (by simpa using HRi.out)⟩
                case measure => simp [intOf]; omega
              · have k2' : (N : Int) ≤ zn := by omega
                have HZ := hide (show goodB A.n Ts = false by rw [HG.out, ← hRi.out, HRs.out, decide_eq_false k2]; simp)
                clear k2 hRi HRs hxr
                go_wp2_with (fail)
                go_ret
                exact ⟨by rw [HZ.out]; rfl, hBB.out, fun h => absurd (HZ.out.symm.trans h) (by decide)⟩
            · have k1' : (zn : Int) ≤ la := by omega
              have HZ := hide (show goodB A.n Ts = false by rw [HG.out, ← hRi.out, HRs.out, decide_eq_false k1]; simp)
              clear k1 hRi HRs hxr
              go_wp2_with (fail)
              go_ret
              exact ⟨by rw [HZ.out]; rfl, hBB.out, fun h => absurd (HZ.out.symm.trans h) (by decide)⟩
          · obtain rfl : Lz = i := by omega
            have e1 : zs.take Lz = zs := by rw [← HLz.out]; exact List.take_length
            have e2 : zs.drop Lz = [] := by rw [← HLz.out]; exact List.drop_length
            have HZ := hide (show goodB A.n Ts = true by rw [HG.out, ← hRi.out, e2]; rfl)
            have HF := hide hRA.out
            rw [e1] at HF
            clear e1 e2 hRi hRA hxr
            go_wp2_with (fail)
            go_ret
            exact ⟨by rw [HZ.out]; rfl, hBB.out, fun _ => ⟨_, _, _, by rw [show markL A.n.toNat (valsW Ts.tail) = markL N zs by rw [HNe.out, Int.toNat_natCast, HZs.out]]; exact HF.out⟩⟩
      · have t0 : (!T0 == [103, 111, 111, 100]) = true := by simpa [wGood] using e0
        have HZ := hide (show goodB A.n Ts = false by rw [HG.out, decide_eq_false e0]; rfl)
        obtain ⟨a1, c1, rfl, hm1, -⟩ := hI
        clear e0 hR1
        go_wp2_with (fail)
        go_ret
        exact ⟨by rw [HZ.out]; rfl, HB.out, fun h => absurd (HZ.out.symm.trans h) (by decide)⟩
  · have ho := ho2 hc1
    subst ho
    clear ho1 ho2
    go_enter Tryd.func124, Tryd.ntmps124
    go_wp2_with (fail)
    refine HN.out.mono ?_
    rintro e w1 ⟨v1, rfl, hok, hbad, hb1⟩
    rw [HQ.out]
    cases ok with
    | false =>
      obtain rfl := hbad HQ.out
      have HZ := hide (show goodB A.n Ts = false by rw [HG.out]; rfl)
      have HB := hide (hb1.mono HR.out.old)
      clear hok hbad hb1 hd0 HG
      go_wp2_with (fail)
      go_ret
      exact ⟨by rw [HZ.out]; rfl, HB.out, fun h => absurd (HZ.out.symm.trans h) (by decide)⟩
    | true =>
      have ho := hok HQ.out
      have HB := hide (hb1.mono HR.out.old)
      have hR1 := HR.out.below hb1
      have d0 := cell_kept hd0 hb1
      have hpl : pb < w1.heap.size := (Array.getElem?_eq_some_iff.1 hR1.box).1
      have HLt1 := hide (show (valsW Ts.tail).length ≤ 200000 by unfold valsW; rw [List.length_map]; exact HLt.out)
      have HP := hide (show ∀ z ∈ valsW Ts.tail, 0 ≤ z by intro z hz; unfold valsW at hz; obtain ⟨T, _, rfl⟩ := List.mem_map.1 hz; omega)
      have hI := intSl_of_owns ho
      have HO := hide ho
      clear hok hbad hb1 hd0 ho
      by_cases e0 : T0 = wGood
      · have t0 : (!T0 == [103, 111, 111, 100]) = false := by rw [e0]; rfl
        rw [decide_eq_true e0] at HG
        clear e0
        have hx1 := hR1.box
        rw [HNe.out] at hx1
        have q0 := cell_of_row _ _ 0 _ _ _ hx1
        have q3 := cell_of_row _ _ 3 _ _ _ hx1
        have x3 := frozen_of_row _ _ 3 _ _ hx1
        have hmk := make_bools N (by omega) w1
        have hM := hide (hR1.made (N := N) (by omega))
        have HBM := hide (below_set (HB.out.alloc (Nat.le_trans HR.out.old (by have := HB.out.size; exact this)) (.cells (falses N) 4)) HR.out.hb 3 (.slice (some ⟨w1.heap.size, 0, none⟩) N N))
        have HIM := hide (((hI.below (below_new w1 (.cells (falses N) 4)))).setCell (a := ⟨pb, 3, none⟩) (fun k hk => row_apart HO.out hx1 (by decide) k hk) (.slice (some ⟨w1.heap.size, 0, none⟩) N N))
        have HFar := hide (show ∀ k, v1.ownBlock = some k → k ≠ w1.heap.size from fun k hk => by have := (HO.out.lt k hk).2; omega)
        rw [World.setCell_alloc_past _ _ _ _ hpl] at hM HBM HIM
        generalize hZs : valsW Ts.tail = zs at *
        have HZs := hide hZs
        clear hZs
        obtain ⟨a1, c1, rfl, hm1, -⟩ := hI
        unfold maxLen at hm1
        clear hx1 hR1 HN
        generalize hLz : zs.length = Lz at *
        have HLz := hide hLz
        clear hLz
        go_wp2_with (fail)
        go_loopw [7, 34] (fun s7 s34 wr => ∃ i : Nat, s34 = .int .i64 i ∧ i ≤ Lz ∧ s7 = .int .i64 (lastZ zs i) ∧ Hid (RA wr base pb fv (.slice (some ⟨w1.heap.size, 0, none⟩) N N) sv { A with good := markL N (zs.take i) }) ∧ Hid (IntSl wr (.slice a1 Lz c1) zs) ∧ Hid (Below base w wr) ∧ Hid (risesB N (lastZ zs i) (zs.drop i) = risesB N (-1) zs)) (fun _ s34 _ => Lz - (intOf s34).toNat)
        case atStart => exact ⟨0, rfl, Nat.zero_le _, rfl, hM, HIM, HBM, hide rfl⟩
        case round =>
          clear q0 q3 x3 hmk d0
          obtain ⟨i, rfl, hi, rfl, hRA, hIS, hBB, hRi⟩ := hrel
          have hxr := hRA.out.box
          dsimp only at hxr
          rw [HNe.out] at hxr
          have q0 := cell_of_row _ _ 0 _ _ _ hxr
          have q3 := cell_of_row _ _ 3 _ _ _ hxr
          by_cases hlt : i < Lz
          · have hls : i < zs.length := by rw [HLz.out]; exact hlt
            obtain ⟨a', cap', e, _, hzz, _⟩ := hIS.out
            injection e with e1 e2 e3
            subst e1
            rcases hzz with hzz | ⟨b1, off1, e, hcell⟩
            · rw [hzz] at hls; simp at hls
            subst e
            have d1 := hcell i hls
            have h0z := HP.out _ (show zs.getD i 0 ∈ zs by simp [List.getD, hls])
            have HRs := hide (rises_step N zs i hls)
            have HMk := hide (markL_take N zs i hls h0z)
            have HLs := hide (lastZ_succ zs i)
            generalize zs.getD i 0 = z at *
            generalize lastZ zs i = la at *
            clear hcell e2 e3 hls
            obtain ⟨zn, rfl⟩ := Int.eq_ofNat_of_zero_le h0z
            by_cases k1 : la < zn
            · by_cases k2 : (zn : Int) < N
              · obtain ⟨⟨u, hu⟩, hzf⟩ := hRA.out.good_cell zn (by omega)
                have HMr := hide (hRA.out.mark zn)
                have HRi := hide (HRs.out.symm.trans hRi.out)
                rw [decide_eq_true k1, decide_eq_true k2] at HRi
                have HI2 := hide (hIS.out.setCell (a := ⟨w1.heap.size, zn, none⟩) HFar.out (.bool true))
                have HB2 := hide (below_set hBB.out (Nat.le_trans HR.out.old (by have := HB.out.size; exact this)) zn (.bool true))
                clear hRA hIS hBB hRi hxr HRs
                go_wp2_with (fail)
                go_roundw
                case rel => exact ⟨i + 1, by go_num, by omega, by rw [HLs.out], hide (by rw [HMk.out]; exact HMr.out), HI2, HB2, hide (by simpa using HRi.out)⟩
                case measure => simp [intOf]; omega
              · have k2' : (N : Int) ≤ zn := by omega
                have HZ := hide (show goodB A.n Ts = false by rw [HG.out, ← hRi.out, HRs.out, decide_eq_false k2]; simp)
                clear k2 hRi HRs hxr
                go_wp2_with (fail)
                go_ret
                exact ⟨by rw [HZ.out]; rfl, hBB.out, fun h => absurd (HZ.out.symm.trans h) (by decide)⟩
            · have k1' : (zn : Int) ≤ la := by omega
              have HZ := hide (show goodB A.n Ts = false by rw [HG.out, ← hRi.out, HRs.out, decide_eq_false k1]; simp)
              clear k1 hRi HRs hxr
              go_wp2_with (fail)
              go_ret
              exact ⟨by rw [HZ.out]; rfl, hBB.out, fun h => absurd (HZ.out.symm.trans h) (by decide)⟩
          · obtain rfl : Lz = i := by omega
            have e1 : zs.take Lz = zs := by rw [← HLz.out]; exact List.take_length
            have e2 : zs.drop Lz = [] := by rw [← HLz.out]; exact List.drop_length
            have HZ := hide (show goodB A.n Ts = true by rw [HG.out, ← hRi.out, e2]; rfl)
            have HF := hide hRA.out
            rw [e1] at HF
            clear e1 e2 hRi hRA hxr
            go_wp2_with (fail)
            go_ret
            exact ⟨by rw [HZ.out]; rfl, hBB.out, fun _ => ⟨_, _, _, by rw [show markL A.n.toNat (valsW Ts.tail) = markL N zs by rw [HNe.out, Int.toNat_natCast, HZs.out]]; exact HF.out⟩⟩
      · have t0 : (!T0 == [103, 111, 111, 100]) = true := by simpa [wGood] using e0
        have HZ := hide (show goodB A.n Ts = false by rw [HG.out, decide_eq_false e0]; rfl)
        obtain ⟨a1, c1, rfl, hm1, -⟩ := hI
        clear e0 hR1
        go_wp2_with (fail)
        go_ret
        exact ⟨by rw [HZ.out]; rfl, HB.out, fun h => absurd (HZ.out.symm.trans h) (by decide)⟩
end Go.Proofs.YtpiacnnifdjlkaaDoor

namespace Go.Proofs.YtpiacnnifdjlkaaDoor
open Go.RowKit Go.Sort

theorem owns_lower {w : World} {base base' e sz n : Nat} {v : Value} {xs : List Value} (h : w.ownsRow base' e sz v n xs) (hb : base ≤ base') : w.ownsRow base e sz v n xs := by
  obtain ⟨h1, h2⟩ := h
  refine ⟨h1, ?_⟩
  rcases h2 with h2 | ⟨g, cap, cur, h3, h4, h5⟩
  · exact Or.inl h2
  · exact Or.inr ⟨g, cap, cur, h3, Nat.le_trans hb h4, h5⟩

theorem readFirst_line {w : World} {v : Value} {Ts : List (List UInt8)} {base pb : Nat} {fv gv sv : Value} {A : Aut} (hR : RA w base pb fv gv sv A) (hv : StrSl w v Ts) (h0 : 0 < Ts.length) (hl : Ts.length ≤ 200000) (hne : ∀ k, v.ownBlock = some k → k ≠ pb) :
    Calls Tryd.prog 123 #[.pointer (some ⟨pb, 0, none⟩), v] w fun e w' => LineOk base pb { A with first := valsW Ts.tail } (firstB Ts) w e w' := by
  refine (readFirst_any hR.box hv h0 hl hne).mono ?_
  rintro e w' ⟨w1, v1, ⟨v2, e2, hok, hbad, hb1⟩, rfl, rfl⟩
  injection e2 with e2
  injection e2 with e2
  have e3 : v1 = v2 := by
    have := congrArg (fun a => a[0]?) e2
    simpa using this
  subst e3
  have hR1 := hR.below hb1
  refine ⟨rfl, below_set (hb1.mono hR.old) hR.hb _ _, fun h => ?_⟩
  unfold firstB at h
  have ho := owns_lower (hok ((Bool.and_eq_true _ _).mp h).1) hR.old
  exact ⟨v1, gv, sv, box_set hR1.box 2 v1, owns_set ho hR1.box (by decide) _ _, owns_set hR1.g hR1.box (by decide) _ _, owns_set hR1.s hR1.box (by decide) _ _, hR.hb⟩

/-- What is asked of the automaton ahead of line i. -/
def Ahead (i : Nat) (A : Aut) : Prop := (i = 0 → A = zeroA) ∧ (1 ≤ i → 1 ≤ A.n ∧ A.n ≤ 300) ∧ A.steps.length ≤ i

set_option maxRecDepth 100000 in
set_option maxHeartbeats 1000000 in
theorem readLine_any {w : World} {v : Value} {Ts : List (List UInt8)} {base pb i : Nat} {fv gv sv : Value} {A : Aut} (hR : RA w base pb fv gv sv A) (hv : StrSl w v Ts) (h0 : 0 < Ts.length) (hl : Ts.length ≤ 200000) (hne : ∀ k, v.ownBlock = some k → k ≠ pb) (hA : Ahead i A) (hi : i ≤ 100000) :
    Calls Tryd.prog 94 #[.pointer (some ⟨pb, 0, none⟩), .int .i64 ((i : Int) + 1), v] w fun e w' => LineOk base pb (lineA i Ts A) (lineB i Ts A) w e w' := by
  obtain ⟨b, off, cap, hvv, -⟩ := strSl_cell hv h0
  by_cases i0 : i = 0
  · subst i0
    obtain rfl := hA.1 rfl
    have HC := hide (readSize_any hR hv h0 hne)
    subst hvv
    clear hR hv h0 hl hne hA hi
    generalize Ts.length = L at *
    show Calls Tryd.prog 94 #[.pointer (some ⟨pb, 0, none⟩), .int .i64 1, .slice (some ⟨b, off, none⟩) L cap] w _
    go_enter Tryd.func94, Tryd.ntmps94
    go_wp2_with (fail)
    refine HC.out.mono ?_
    rintro e w1 ⟨rfl, h1, h2⟩
    have H1 := hide h1
    have H2 := hide h2
    clear h1 h2
    go_wp2_with (fail)
    go_ret
    exact ⟨rfl, H1.out, H2.out⟩
  by_cases i1 : i = 1
  · subst i1
    have HC := hide (readFirst_line hR hv h0 hl hne)
    subst hvv
    clear hR hv h0 hl hne hA hi
    generalize Ts.length = L at *
    show Calls Tryd.prog 94 #[.pointer (some ⟨pb, 0, none⟩), .int .i64 2, .slice (some ⟨b, off, none⟩) L cap] w _
    go_enter Tryd.func94, Tryd.ntmps94
    go_wp2_with (fail)
    refine HC.out.mono ?_
    rintro e w1 ⟨rfl, h1, h2⟩
    have H1 := hide h1
    have H2 := hide h2
    clear h1 h2
    go_wp2_with (fail)
    go_ret
    exact ⟨rfl, H1.out, H2.out⟩
  by_cases i2 : i = 2
  · subst i2
    have hn := hA.2.1 (by omega)
    have HC := hide (readGood_any hR hv h0 hl hn.1 hn.2)
    subst hvv
    clear hR hv h0 hl hne hA hi hn
    generalize Ts.length = L at *
    show Calls Tryd.prog 94 #[.pointer (some ⟨pb, 0, none⟩), .int .i64 3, .slice (some ⟨b, off, none⟩) L cap] w _
    go_enter Tryd.func94, Tryd.ntmps94
    go_wp2_with (fail)
    refine HC.out.mono ?_
    rintro e w1 ⟨rfl, h1, h2⟩
    have H1 := hide h1
    have H2 := hide h2
    clear h1 h2
    go_wp2_with (fail)
    go_ret
    exact ⟨rfl, H1.out, H2.out⟩
  · have HC := hide (readStep_any hR hv h0 (by have := hA.2.2; omega))
    have HB := hide (show lineB i Ts A = stepB Ts by unfold lineB; rw [if_neg i0, if_neg i1, if_neg i2])
    have HA := hide (show lineA i Ts A = { A with steps := A.steps ++ [stepW Ts] } by unfold lineA; rw [if_neg i0, if_neg i1, if_neg i2])
    have g1 : (((i : Int) + 1) == 1) = false := by rw [beq_eq_false_iff_ne]; omega
    have g2 : (((i : Int) + 1) == 2) = false := by rw [beq_eq_false_iff_ne]; omega
    have g3 : (((i : Int) + 1) == 3) = false := by rw [beq_eq_false_iff_ne]; omega
    subst hvv
    clear hR hv h0 hl hne hA hi i0 i1 i2
    generalize Ts.length = L at *
    generalize (i : Int) + 1 = k at *
    go_enter Tryd.func94, Tryd.ntmps94
    go_wp2_with (fail)
    refine HC.out.mono ?_
    rintro e w1 ⟨rfl, h1, h2⟩
    have H1 := hide h1
    have H2 := hide h2
    clear h1 h2
    go_wp2_with (fail)
    go_ret
    rw [HB.out, HA.out]
    exact ⟨rfl, H1.out, H2.out⟩
end Go.Proofs.YtpiacnnifdjlkaaDoor
