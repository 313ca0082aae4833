/-
  What ReadAuto of the reference answers.
-/
import Derived.Test.YtpiacnnifdjlkaaDoorJb
import Derived.Test.YtpiacnnifdjlkaaDoorJw
/-
  Regions that draw their order and only read, but for their last operation.
-/
namespace Go.Proofs.YtpiacnnifdjlkaaDoor
open Go.RowKit Go.Sort

section
variable {ops : Array Oper} {Q : Exit → Act → World → Prop} {a0 : Act}

theorem wp_region_reads {id : Nat} {w0 : World} (L : Nat) (oL : Oper) (ds : List (Nat × Tmp)) (Rp : Nat → Value → Prop) (hds : dstList ops (List.range L) = ds) (hm : Tryd.prog.follows .mixedOrders = true) (h : orderly ops a0.tmps.size = true) (hh : hung ops = true) (hsz : ops.size = L + 1) (hoL : ops[L]? = some oL) (hL : 0 < L)
    (hpure : ∀ i o, i < L → ops[i]? = some o → ∀ (a : Act) (vs : Nat → Value), (∀ t, free ops i t = true → a.eval (.tmp t) = a0.eval (.tmp t)) → (∀ j, dep o j = true → Rp j (vs j) ∧ ∀ d, dstAt ops j = some d → a.eval (.tmp d) = vs j) → ∃ v, (execOp a.eval o).run Tryd.prog w0.drew = .ok (.value v) w0.drew ∧ Rp i v)
    (hend : ∀ (vs : Nat → Value), (∀ i, i < L → Rp i (vs i)) → oL.wp Tryd.prog { a0 with tmps := putPairs vs ds a0.tmps } w0.drew (fun a' w' => Q .normal a' w') Q) : (Code.region id ops true).wp Tryd.prog Q a0 w0 := by
  have hok : ∀ i o, i < L → ops[i]? = some o → StepOk Tryd.prog ops Q (fun w => w = w0.drew) (fun j v _ => Rp j v) a0 i o := fun i o hi ho => stepOk_val fun a w vs hw he hd => by
    subst hw
    exact hpure i o hi ho a vs he hd
  refine wp_region_last L 0 oL ds (fun _ w => w = w0.drew) (fun j v _ => Rp j v) hds hm h hh hsz hoL hL rfl (fun i o hi _ ho _ => hok i o hi ho) ?_ ?_
  · intro o ho a w vs hV he hd
    refine Oper.wp_mono ?_ (hok 0 o hL ho a w vs hV he hd)
    rintro a' w' ⟨v, h1, h2, h3, h4⟩
    exact ⟨v, h1, h2, h3, fun j x _ hx => h4 j x hx⟩
  · intro vs w hw hR
    subst hw
    exact hend vs hR

theorem wp_store_true {o : Oper} {ka : Nat} {a : Act} {w : World} {K : Act → World → Prop} (ho : o.op = .store 4 (.tmp ka) (.const (.bool true))) (hd : o.dst = none) {p : Addr} {v0 : Value} (ha : a.tmps[ka]?.getD undef = .pointer (some p)) (hc : w.cell? p = some v0) (hz : w.frozen? p = false) (h : K a (w.setCell p (.bool true))) : o.wp Tryd.prog a w K Q := by
  unfold Oper.wp execOp
  simp [ho, go_sem, ha, hc, hz]
  rw [hd]
  exact h
end

theorem dep_read {ops : Array Oper} {o : Oper} {a : Act} {vs : Nat → Value} {Rp : Nat → Value → Prop} (hd : ∀ j, dep o j = true → Rp j (vs j) ∧ ∀ d, dstAt ops j = some d → a.eval (.tmp d) = vs j) (j d : Nat) (h1 : dep o j = true) (h2 : dstAt ops j = some d) : Rp j (a.tmps[d]?.getD undef) := by
  obtain ⟨h, h'⟩ := hd j h1
  rw [← eval_tmp, h' d h2]
  exact h
end Go.Proofs.YtpiacnnifdjlkaaDoor

/-
  Regions that draw their order, read, and at last store a true.
-/
namespace Go.Proofs.YtpiacnnifdjlkaaDoor
open Go.RowKit Go.Sort

theorem wp_region_readstore {ops : Array Oper} {Q : Exit → Act → World → Prop} {a0 : Act} {id : Nat} {w0 : World} (L : Nat) (ds : List (Nat × Tmp)) (Rp : Nat → Value → Prop) (ka : Nat) (p : Addr) {v0 : Value} (hds : dstList ops (List.range L) = ds) (hm : Tryd.prog.follows .mixedOrders = true) (h : orderly ops a0.tmps.size = true) (hh : hung ops = true) (hsz : ops.size = L + 1) (hop : ops[L]?.map (fun o => (o.op, o.dst)) = some (.store 4 (.tmp ka) (.const (.bool true)), none)) (hL : 0 < L)
    (hc : w0.drew.cell? p = some v0) (hz : w0.drew.frozen? p = false)
    (hlast : ∀ vs : Nat → Value, (∀ i, i < L → Rp i (vs i)) → (putPairs vs ds a0.tmps)[ka]?.getD undef = .pointer (some p))
    (hpure : ∀ i o, i < L → ops[i]? = some o → ∀ (a : Act) (vs : Nat → Value), (∀ t, free ops i t = true → a.eval (.tmp t) = a0.eval (.tmp t)) → (∀ j, dep o j = true → Rp j (vs j) ∧ ∀ d, dstAt ops j = some d → a.eval (.tmp d) = vs j) → ∃ v, (execOp a.eval o).run Tryd.prog w0.drew = .ok (.value v) w0.drew ∧ Rp i v)
    (hend : ∀ (vs : Nat → Value), Q .normal { a0 with tmps := putPairs vs ds a0.tmps } (w0.drew.setCell p (.bool true))) : (Code.region id ops true).wp Tryd.prog Q a0 w0 := by
  cases ho : ops[L]? with
  | none => rw [ho] at hop; cases hop
  | some oL =>
    rw [ho] at hop
    have e := Option.some.inj hop
    refine wp_region_reads L oL ds Rp hds hm h hh hsz ho hL hpure fun vs hR => ?_
    exact wp_store_true (congrArg Prod.fst e) (congrArg Prod.snd e) (hlast vs hR) hc hz (hend vs)

theorem put7_last (vs : Nat → Value) (T : Array Value) (h : 215 < T.size) : (putPairs vs [(0, 209), (1, 210), (2, 211), (3, 212), (4, 213), (5, 214), (6, 215)] T)[215]?.getD undef = vs 6 := by
  simp [putPairs, h]
end Go.Proofs.YtpiacnnifdjlkaaDoor

/-
  At which line a text is none.
-/
namespace Go.Proofs.YtpiacnnifdjlkaaDoor

theorem readL_num : ∀ (L : List (List UInt8)) (i : Nat) (A : Aut), (readL i A L).2 = 0 ∨ i + 1 ≤ (readL i A L).2 := by
  intro L
  induction L with
  | nil => intro i A; exact Or.inr (Nat.le_refl _)
  | cons l L ih =>
    intro i A
    cases L with
    | nil =>
      unfold readL
      split
      · exact Or.inl rfl
      · exact Or.inr (Nat.le_refl _)
    | cons l2 L =>
      unfold readL
      split
      · rcases ih (i + 1) (lineA i (spl 32 l) A) with h | h
        · exact Or.inl h
        · exact Or.inr (by omega)
      · exact Or.inr (Nat.le_refl _)

theorem prsN_of {S : List UInt8} (hS : S.length ≤ 100000) : prsN S = (readT S).2 := by
  unfold prsN
  rw [if_neg (by omega)]

end Go.Proofs.YtpiacnnifdjlkaaDoor

namespace Go.Proofs.YtpiacnnifdjlkaaDoor
open Go.RowKit Go.Sort

set_option maxRecDepth 100000 in
set_option maxHeartbeats 20000000 in
theorem readAuto_0 {w : World} (S : List UInt8) (hS : S.length ≤ 100000) (hcl : prsN S = 1) : Calls Tryd.prog 22 #[.string ⟨S.toArray⟩] w fun e w' => Parsed S w e w' := by
  have hsz : (⟨S.toArray⟩ : ByteArray).size = S.length := by simp [ByteArray.size]
  have hg : ¬ ((100000 : Int) < (S.length : Int)) := by omega
  have HC := hide hcl
  clear hcl
  have hrn := one_new w (Obj.cells #[.int .i64 0, .int .i64 0, .slice none 0 0, .slice none 0 0, .slice none 0 0] 26)
  have hbn := below_new w (Obj.cells #[.int .i64 0, .int .i64 0, .slice none 0 0, .slice none 0 0, .slice none 0 0] 26)
  go_enter Tryd.func22, Tryd.ntmps22
  go_wp2_with (fail)
  go_fit (cut10_any S hS _)
  rintro e w1 ⟨v5, rfl, hst, hb1⟩
  have HSt5 := hide hst
  obtain ⟨lb, lo, lc, rfl, hlc, hlm, -⟩ := strSl_cell hst (List.length_pos_iff.2 (spl_ne 10 S))
  unfold maxLen at hlm
  have HRes := hide (belowRow hb1 hrn)
  have HBw := hide (below_trans hbn hb1)
  have HMem := hide (show ∀ x ∈ spl 10 S, x.length ≤ 100000 from fun x hx => Nat.le_trans (spl_mem hx).2 hS)
  have HLn := hide (show 0 < (spl 10 S).length ∧ (spl 10 S).length ≤ 100001 from ⟨List.length_pos_iff.2 (spl_ne 10 S), by have := spl_len 10 S; omega⟩)
  have HRd := hide (show readL 0 zeroA ((spl 10 S).drop 0) = readT S from rfl)
  have hS0 : w.heap.size < w1.heap.size := (Array.getElem?_eq_some_iff.1 HRes.out).1
  generalize spl 10 S = Ls at *
  have HX2 := hide (one_new w1 (Obj.cells #[.int .i64 0, .int .i64 0, .slice none 0 0, .slice none 0 0, .slice none 0 0] 26))
  have HB2 := hide (below_new w1 (Obj.cells #[.int .i64 0, .int .i64 0, .slice none 0 0, .slice none 0 0, .slice none 0 0] 26))
  generalize hB : w1.heap.size = B at *
  have HwB := hide hB
  have hSB : w.heap.size ≤ B := by omega
  generalize hn : Ls.length = n at *
  have Hn := hide hn
  clear hb1 hrn hbn hst hn
  have hn1 : 0 < n := HLn.out.1
  have hn2 : n ≤ 100001 := HLn.out.2
  go_wp2_with (fail)
  clear hB
  go_loopw [7] (fun s7 wr => ∃ (i : Nat) (A : Aut) (fv gv sv : Value), s7 = .int .i64 i ∧ i < n ∧ Hid (readL i A (Ls.drop i) = readT S) ∧ Hid (RA wr B B fv gv sv (refA i A)) ∧ Hid (Below B w1 wr) ∧ Hid (Ahead i A) ∧ Hid (i = 1 ∨ i = 2 → ∃ g, gv = .slice (some ⟨g, 0, none⟩) A.n.toNat A.n.toNat)) (fun s7 _ => n - (intOf s7).toNat)
  case atStart => exact ⟨0, zeroA, _, _, _, rfl, hn1, HRd, hide (RA.new HX2.out (Nat.le_refl _)), hide HB2.out, hide ⟨fun _ => rfl, fun h => (by omega), by simp [zeroA]⟩, hide (fun h => (by omega))⟩
  case round =>
    obtain ⟨i, A, fv, gv, sv, rfl, hin, hrd, hRA, hB1, hah, hgv⟩ := hrel
    have hls : i < Ls.length := by rw [Hn.out]; exact hin
    have dl := cell_kept' (strSl_get HSt5.out hls) hB1.out (by rw [← HwB.out]; exact World.block_lt_of_cell? w1 _ (strSl_get HSt5.out hls))
    have hll := HMem.out (Ls.getD i []) (by simp [List.getD, hls])
    have HM1 := hide (readL_more (Ls := Ls) (i := i) (A := A))
    have HO1 := hide (readL_one (Ls := Ls) (i := i) (A := A))
    rw [Hn.out, hrd.out] at HM1 HO1
    have HK := hide (show prsN S = 0 ∨ i + 1 ≤ prsN S by rw [prsN_of hS, ← hrd.out]; exact readL_num _ _ _)
    generalize Ls.getD i [] = l at *
    by_cases i0 : i = 0
    · by_cases hlast : i + 1 = n
      · have g0 : ((i : Int) == 0) = true := by rw [i0]; rfl
        have h3 : decide ((3 : Int) ≤ (i : Int)) = false := decide_eq_false (by omega)
        have h3n : ¬ (3 : Int) ≤ (i : Int) := by omega
        have hok : decide ((i : Int) < (n : Int) - 1) = false := decide_eq_false (by omega)
        have hok2 : ¬ ((i : Int) < (n : Int) - 1) := by omega
        have HE := hide (parsed_err hS (show (zeroA, i + 1) = readT S by rw [HO1.out hlast, if_neg (by omega)]))
        have HI := hide i0
        clear i0
        have HLst := hide hlast
        clear hlast
        go_wp2_with (fail)
        go_fit (cut32_any l hll wr)
        rintro e w4 ⟨v8, rfl, hst, hb4⟩
        have HSt := hide hst
        obtain ⟨b8, o8, c8, rfl, hc8, hm8, hw8⟩ := strSl_cell hst (List.length_pos_iff.2 (spl_ne 32 l))
        unfold maxLen at hm8
        have HR4 := hide (hRA.out.below hb4)
        have B4 := hB1.out.trans (hb4.mono hRA.out.old)
        have HL8 := hide (show (spl 32 l).length ≤ 100001 by have := spl_len 32 l; omega)
        have HN8 := hide (show 0 < (spl 32 l).length from List.length_pos_iff.2 (spl_ne 32 l))
        clear hst hb4 hB1 hRA dl
        generalize spl 32 l = Ts at *
        generalize Ts.length = L8 at *
        clear hw8
        have hres := (B4.block w.heap.size hS0).trans HRes.out
        have BW := HBw.out.trans (B4.mono hSB)
        have hF := fivePut_box hres (.int .i64 0) (.int .i64 0) (.slice none 0 0) (.slice none 0 0) (.slice none 0 0)
        have HBF := hide (fivePut_below BW (Nat.le_refl _) (.int .i64 0) (.int .i64 0) (.slice none 0 0) (.slice none 0 0) (.slice none 0 0))
        have y0 := cell_of_row _ _ 0 _ _ _ hres
        have y1 := cell_of_row _ _ 1 _ _ _ hres
        have y2 := cell_of_row _ _ 2 _ _ _ hres
        have y3 := cell_of_row _ _ 3 _ _ _ hres
        have y4 := cell_of_row _ _ 4 _ _ _ hres
        have z0 := frozen_of_row _ _ 0 _ _ hres
        have z1 := frozen_of_row _ _ 1 _ _ hres
        have z2 := frozen_of_row _ _ 2 _ _ hres
        have z3 := frozen_of_row _ _ 3 _ _ hres
        have z4 := frozen_of_row _ _ 4 _ _ hres
        have f0 := cell_of_row _ _ 0 _ _ _ hF
        have f1 := cell_of_row _ _ 1 _ _ _ hF
        have f2 := cell_of_row _ _ 2 _ _ _ hF
        have f3 := cell_of_row _ _ 3 _ _ _ hF
        have f4 := cell_of_row _ _ 4 _ _ _ hF
        unfold fivePut at f0 f1 f2 f3 f4 HBF
        clear hF
        go_wp2_with (fail)
        refine bodyPost_ret (v := .tuple #[.agg #[.int .i64 0, .int .i64 0, .slice none 0 0, .slice none 0 0, .slice none 0 0], .int .i64 ((i : Int) + 1), .int .i64 1]) (by simp [results, Tryd.results22, go_sem, f0, f1, f2, f3, f4]) rfl ⟨.agg #[.int .i64 0, .int .i64 0, .slice none 0 0, .slice none 0 0, .slice none 0 0], ?_, ?_, HBF.out⟩
        · rw [HE.out.1, HE.out.2.1]; rfl
        · rw [HE.out.2.2]; exact autO_zero _ _
      · have hmr : i + 1 < n := by omega
        have g0 : ((i : Int) == 0) = true := by rw [i0]; rfl
        have h3 : decide ((3 : Int) ≤ (i : Int)) = false := decide_eq_false (by omega)
        have h3n : ¬ (3 : Int) ≤ (i : Int) := by omega
        have hok : decide ((i : Int) < (n : Int) - 1) = true := decide_eq_true (by omega)
        have hok2 : (i : Int) < (n : Int) - 1 := by omega
        have HLB := hide (show lineB i (spl 32 l) A = sizeB (spl 32 l) by unfold lineB; rw [if_pos i0])
        have HLA := hide (show lineA i (spl 32 l) A = ⟨((numW ((spl 32 l).getD 1 [])).getD 0 : Nat), ((numW ((spl 32 l).getD 3 [])).getD 0 : Nat), [], [], []⟩ by unfold lineA; rw [if_pos i0])
        have HI := hide i0
        clear i0
        go_wp2_with (fail)
        go_fit (cut32_any l hll wr)
        rintro e w4 ⟨v8, rfl, hst, hb4⟩
        have HSt := hide hst
        obtain ⟨b8, o8, c8, rfl, hc8, hm8, hw8⟩ := strSl_cell hst (List.length_pos_iff.2 (spl_ne 32 l))
        unfold maxLen at hm8
        have HR4 := hide (hRA.out.below hb4)
        have B4 := hB1.out.trans (hb4.mono hRA.out.old)
        have HL8 := hide (show (spl 32 l).length ≤ 100001 by have := spl_len 32 l; omega)
        have HN8 := hide (show 0 < (spl 32 l).length from List.length_pos_iff.2 (spl_ne 32 l))
        clear hst hb4 hB1 hRA dl
        generalize spl 32 l = Ts at *
        by_cases h4 : Ts.length = 4
        · obtain ⟨T0, T1, T2, T3, rfl⟩ := four_words h4
          have d0 := hw8 0 (by simp)
          have d1 := hw8 1 (by simp)
          have d2 := hw8 2 (by simp)
          have d3 := hw8 3 (by simp)
          simp only [List.getD_cons_zero, List.getD_cons_succ, Nat.add_zero] at d0 d1 d2 d3
          simp only [List.getD_cons_zero, List.getD_cons_succ, List.length_cons, List.length_nil] at *
          have HSz := hide (show sizeB [T0, T1, T2, T3] = (decide (T0 = wStates) && decide (T2 = wLetters) && (numW T1).isSome && (numW T3).isSome && decide (1 ≤ (numW T1).getD 0) && decide ((numW T1).getD 0 ≤ 300)) from rfl)
          clear hw8 h4
          by_cases e0 : T0 = wStates
          · by_cases e2 : T2 = wLetters
            · have t0 : (T0 == [115, 116, 97, 116, 101, 115]) = true := by rw [e0]; rfl
              have t2 : (T2 == [108, 101, 116, 116, 101, 114, 115]) = true := by rw [e2]; rfl
              rw [decide_eq_true e0, decide_eq_true e2] at HSz
              clear e0 e2
              go_wp2_with (fail)
              go_fit (undigit_any T1 w4)
              rintro e w5 ⟨u1, rfl, hu1, hb5⟩
              have d3' := cell_kept d3 hb5
              have B5 := B4.trans (hb5.mono HR4.out.old)
              have HR5 := hide (HR4.out.below hb5)
              clear d0 d1 d2 d3 hb5 B4
              go_wp2_with (fail)
              go_fit (undigit_any T3 w5)
              rintro e w6 ⟨u3, rfl, hu3, hb6⟩
              have B6 := B5.trans (hb6.mono HR5.out.old)
              have HR6 := hide (HR5.out.below hb6)
              clear d3' hb6 B5 HR4 HR5
              cases hs1 : (numW T1).isSome with
              | false =>
                rw [hs1] at HSz
                have HF := hide (show sizeB [T0, T1, T2, T3] = false by rw [HSz.out]; rfl)
                have HE := hide (parsed_err hS (show (zeroA, i + 1) = readT S by rw [HM1.out (by omega), HLB.out, HF.out]; rfl))
                cases (numW T3).isSome with
                | false =>
                  have hres := (B6.block w.heap.size hS0).trans HRes.out
                  have BW := HBw.out.trans (B6.mono hSB)
                  have hF := fivePut_box hres (.int .i64 0) (.int .i64 0) (.slice none 0 0) (.slice none 0 0) (.slice none 0 0)
                  have HBF := hide (fivePut_below BW (Nat.le_refl _) (.int .i64 0) (.int .i64 0) (.slice none 0 0) (.slice none 0 0) (.slice none 0 0))
                  have y0 := cell_of_row _ _ 0 _ _ _ hres
                  have y1 := cell_of_row _ _ 1 _ _ _ hres
                  have y2 := cell_of_row _ _ 2 _ _ _ hres
                  have y3 := cell_of_row _ _ 3 _ _ _ hres
                  have y4 := cell_of_row _ _ 4 _ _ _ hres
                  have z0 := frozen_of_row _ _ 0 _ _ hres
                  have z1 := frozen_of_row _ _ 1 _ _ hres
                  have z2 := frozen_of_row _ _ 2 _ _ hres
                  have z3 := frozen_of_row _ _ 3 _ _ hres
                  have z4 := frozen_of_row _ _ 4 _ _ hres
                  have f0 := cell_of_row _ _ 0 _ _ _ hF
                  have f1 := cell_of_row _ _ 1 _ _ _ hF
                  have f2 := cell_of_row _ _ 2 _ _ _ hF
                  have f3 := cell_of_row _ _ 3 _ _ _ hF
                  have f4 := cell_of_row _ _ 4 _ _ _ hF
                  unfold fivePut at f0 f1 f2 f3 f4 HBF
                  clear hF
                  go_wp2_with (fail)
                  refine bodyPost_ret (v := .tuple #[.agg #[.int .i64 0, .int .i64 0, .slice none 0 0, .slice none 0 0, .slice none 0 0], .int .i64 ((i : Int) + 1), .int .i64 1]) (by simp [results, Tryd.results22, go_sem, f0, f1, f2, f3, f4]) rfl ⟨.agg #[.int .i64 0, .int .i64 0, .slice none 0 0, .slice none 0 0, .slice none 0 0], ?_, ?_, HBF.out⟩
                  · rw [HE.out.1, HE.out.2.1]; rfl
                  · rw [HE.out.2.2]; exact autO_zero _ _
                | true =>
                  have hres := (B6.block w.heap.size hS0).trans HRes.out
                  have BW := HBw.out.trans (B6.mono hSB)
                  have hF := fivePut_box hres (.int .i64 0) (.int .i64 0) (.slice none 0 0) (.slice none 0 0) (.slice none 0 0)
                  have HBF := hide (fivePut_below BW (Nat.le_refl _) (.int .i64 0) (.int .i64 0) (.slice none 0 0) (.slice none 0 0) (.slice none 0 0))
                  have y0 := cell_of_row _ _ 0 _ _ _ hres
                  have y1 := cell_of_row _ _ 1 _ _ _ hres
                  have y2 := cell_of_row _ _ 2 _ _ _ hres
                  have y3 := cell_of_row _ _ 3 _ _ _ hres
                  have y4 := cell_of_row _ _ 4 _ _ _ hres
                  have z0 := frozen_of_row _ _ 0 _ _ hres
                  have z1 := frozen_of_row _ _ 1 _ _ hres
                  have z2 := frozen_of_row _ _ 2 _ _ hres
                  have z3 := frozen_of_row _ _ 3 _ _ hres
                  have z4 := frozen_of_row _ _ 4 _ _ hres
                  have f0 := cell_of_row _ _ 0 _ _ _ hF
                  have f1 := cell_of_row _ _ 1 _ _ _ hF
                  have f2 := cell_of_row _ _ 2 _ _ _ hF
                  have f3 := cell_of_row _ _ 3 _ _ _ hF
                  have f4 := cell_of_row _ _ 4 _ _ _ hF
                  unfold fivePut at f0 f1 f2 f3 f4 HBF
                  clear hF
                  go_wp2_with (fail)
                  refine bodyPost_ret (v := .tuple #[.agg #[.int .i64 0, .int .i64 0, .slice none 0 0, .slice none 0 0, .slice none 0 0], .int .i64 ((i : Int) + 1), .int .i64 1]) (by simp [results, Tryd.results22, go_sem, f0, f1, f2, f3, f4]) rfl ⟨.agg #[.int .i64 0, .int .i64 0, .slice none 0 0, .slice none 0 0, .slice none 0 0], ?_, ?_, HBF.out⟩
                  · rw [HE.out.1, HE.out.2.1]; rfl
                  · rw [HE.out.2.2]; exact autO_zero _ _
              | true =>
                rw [hs1] at HSz
                have hu1' := hu1 hs1
                cases hs3 : (numW T3).isSome with
                | false =>
                  rw [hs3] at HSz
                  have HF := hide (show sizeB [T0, T1, T2, T3] = false by rw [HSz.out]; rfl)
                  have HE := hide (parsed_err hS (show (zeroA, i + 1) = readT S by rw [HM1.out (by omega), HLB.out, HF.out]; rfl))
                  have hres := (B6.block w.heap.size hS0).trans HRes.out
                  have BW := HBw.out.trans (B6.mono hSB)
                  have hF := fivePut_box hres (.int .i64 0) (.int .i64 0) (.slice none 0 0) (.slice none 0 0) (.slice none 0 0)
                  have HBF := hide (fivePut_below BW (Nat.le_refl _) (.int .i64 0) (.int .i64 0) (.slice none 0 0) (.slice none 0 0) (.slice none 0 0))
                  have y0 := cell_of_row _ _ 0 _ _ _ hres
                  have y1 := cell_of_row _ _ 1 _ _ _ hres
                  have y2 := cell_of_row _ _ 2 _ _ _ hres
                  have y3 := cell_of_row _ _ 3 _ _ _ hres
                  have y4 := cell_of_row _ _ 4 _ _ _ hres
                  have z0 := frozen_of_row _ _ 0 _ _ hres
                  have z1 := frozen_of_row _ _ 1 _ _ hres
                  have z2 := frozen_of_row _ _ 2 _ _ hres
                  have z3 := frozen_of_row _ _ 3 _ _ hres
                  have z4 := frozen_of_row _ _ 4 _ _ hres
                  have f0 := cell_of_row _ _ 0 _ _ _ hF
                  have f1 := cell_of_row _ _ 1 _ _ _ hF
                  have f2 := cell_of_row _ _ 2 _ _ _ hF
                  have f3 := cell_of_row _ _ 3 _ _ _ hF
                  have f4 := cell_of_row _ _ 4 _ _ _ hF
                  unfold fivePut at f0 f1 f2 f3 f4 HBF
                  clear hF
                  go_wp2_with (fail)
                  refine bodyPost_ret (v := .tuple #[.agg #[.int .i64 0, .int .i64 0, .slice none 0 0, .slice none 0 0, .slice none 0 0], .int .i64 ((i : Int) + 1), .int .i64 1]) (by simp [results, Tryd.results22, go_sem, f0, f1, f2, f3, f4]) rfl ⟨.agg #[.int .i64 0, .int .i64 0, .slice none 0 0, .slice none 0 0, .slice none 0 0], ?_, ?_, HBF.out⟩
                  · rw [HE.out.1, HE.out.2.1]; rfl
                  · rw [HE.out.2.2]; exact autO_zero _ _
                | true =>
                  rw [hs3] at HSz
                  have hu3' := hu3 hs3
                  subst hu1'
                  subst hu3'
                  clear hu1 hu3 hs1 hs3
                  generalize hN : (numW T1).getD 0 = N at *
                  generalize hM : (numW T3).getD 0 = M at *
                  clear hN hM
                  by_cases hb : 1 ≤ (N : Int) ∧ (N : Int) ≤ 300
                  · have HF := hide (show sizeB [T0, T1, T2, T3] = true by rw [HSz.out, decide_eq_true (show 1 ≤ N by omega), decide_eq_true (show N ≤ 300 by omega)]; rfl)
                    have HLt := hide (HLB.out.trans HF.out)
                    have HRdN := hide (show readL (i + 1) (lineA i [T0, T1, T2, T3] A) (Ls.drop (i + 1)) = readT S by rw [HM1.out (by omega), HLt.out]; rfl)
                    have HBt := hide (between_yes hb.1 hb.2 w6)
                    have hmk := make_bools N (by omega) w6
                    have hplt : B < w6.heap.size := (Array.getElem?_eq_some_iff.1 HR6.out.box).1
                    have HRn := hide (RA.sized (m := (M : Nat)) HR6.out.box rfl (Nat.le_refl B) (show N ≤ 300 by omega))
                    have HBn := hide ((fivePut_below B6 (Nat.le_refl B) (.int .i64 (N : Nat)) (.int .i64 (M : Nat)) (.slice none 0 0) (.slice (some ⟨w6.heap.size, 0, none⟩) N N) (.slice none 0 0)).alloc (by rw [fivePut_size]; omega) (Obj.cells (falses N) 4))
                    have HRef := hide (show refA (i + 1) (lineA i [T0, T1, T2, T3] A) = ⟨(N : Nat), (M : Nat), [], markL N [], []⟩ by unfold refA; rw [if_pos (by have := HI.out; omega), HLA.out]; simp)
                    have HGv := hide (show (lineA i [T0, T1, T2, T3] A).n.toNat = N by rw [HLA.out]; simp)
                    unfold fivePut at HRn HBn
                    have x0 := cell_of_row _ _ 0 _ _ _ HR6.out.box
                    have x1 := cell_of_row _ _ 1 _ _ _ HR6.out.box
                    have x2 := cell_of_row _ _ 2 _ _ _ HR6.out.box
                    have x3 := cell_of_row _ _ 3 _ _ _ HR6.out.box
                    have x4 := cell_of_row _ _ 4 _ _ _ HR6.out.box
                    have xz0 := frozen_of_row _ _ 0 _ _ HR6.out.box
                    have xz1 := frozen_of_row _ _ 1 _ _ HR6.out.box
                    have xz2 := frozen_of_row _ _ 2 _ _ HR6.out.box
                    have xz3 := frozen_of_row _ _ 3 _ _ HR6.out.box
                    have xz4 := frozen_of_row _ _ 4 _ _ HR6.out.box
                    clear hb HR6
                    have hmore : i + 1 < n := by omega
                    go_wp2_with (fail)
                    go_fit HBt.out
                    rintro e w7 ⟨rfl, rfl⟩
                    go_wp2_with (fail)
                    go_roundw
                    case rel => exact ⟨i + 1, lineA i [T0, T1, T2, T3] A, _, _, _, by go_num, hmore, HRdN, hide (by rw [HRef.out]; exact HRn.out), HBn, hide (hah.out.next HLt.out), hide (fun _ => ⟨_, by rw [HGv.out]⟩)⟩
                    case measure => simp [intOf]; omega
                  · have HF := hide (show sizeB [T0, T1, T2, T3] = false by
                      rw [HSz.out]
                      by_cases h1 : 1 ≤ N
                      · rw [decide_eq_false (show ¬ N ≤ 300 by omega)]; simp
                      · rw [decide_eq_false h1]; simp)
                    have HE := hide (parsed_err hS (show (zeroA, i + 1) = readT S by rw [HM1.out (by omega), HLB.out, HF.out]; rfl))
                    have HBt := hide (between_no hb w6)
                    clear hb
                    go_wp2_with (fail)
                    go_fit HBt.out
                    rintro e w7 ⟨rfl, rfl⟩
                    have hres := (B6.block w.heap.size hS0).trans HRes.out
                    have BW := HBw.out.trans (B6.mono hSB)
                    have hF := fivePut_box hres (.int .i64 0) (.int .i64 0) (.slice none 0 0) (.slice none 0 0) (.slice none 0 0)
                    have HBF := hide (fivePut_below BW (Nat.le_refl _) (.int .i64 0) (.int .i64 0) (.slice none 0 0) (.slice none 0 0) (.slice none 0 0))
                    have y0 := cell_of_row _ _ 0 _ _ _ hres
                    have y1 := cell_of_row _ _ 1 _ _ _ hres
                    have y2 := cell_of_row _ _ 2 _ _ _ hres
                    have y3 := cell_of_row _ _ 3 _ _ _ hres
                    have y4 := cell_of_row _ _ 4 _ _ _ hres
                    have z0 := frozen_of_row _ _ 0 _ _ hres
                    have z1 := frozen_of_row _ _ 1 _ _ hres
                    have z2 := frozen_of_row _ _ 2 _ _ hres
                    have z3 := frozen_of_row _ _ 3 _ _ hres
                    have z4 := frozen_of_row _ _ 4 _ _ hres
                    have f0 := cell_of_row _ _ 0 _ _ _ hF
                    have f1 := cell_of_row _ _ 1 _ _ _ hF
                    have f2 := cell_of_row _ _ 2 _ _ _ hF
                    have f3 := cell_of_row _ _ 3 _ _ _ hF
                    have f4 := cell_of_row _ _ 4 _ _ _ hF
                    unfold fivePut at f0 f1 f2 f3 f4 HBF
                    clear hF
                    go_wp2_with (fail)
                    refine bodyPost_ret (v := .tuple #[.agg #[.int .i64 0, .int .i64 0, .slice none 0 0, .slice none 0 0, .slice none 0 0], .int .i64 ((i : Int) + 1), .int .i64 1]) (by simp [results, Tryd.results22, go_sem, f0, f1, f2, f3, f4]) rfl ⟨.agg #[.int .i64 0, .int .i64 0, .slice none 0 0, .slice none 0 0, .slice none 0 0], ?_, ?_, HBF.out⟩
                    · rw [HE.out.1, HE.out.2.1]; rfl
                    · rw [HE.out.2.2]; exact autO_zero _ _
            · have t0 : (T0 == [115, 116, 97, 116, 101, 115]) = true := by rw [e0]; rfl
              have t2 : (T2 == [108, 101, 116, 116, 101, 114, 115]) = false := by rw [beq_eq_false_iff_ne]; exact e2
              have HF := hide (show sizeB [T0, T1, T2, T3] = false by rw [HSz.out, decide_eq_false e2]; simp)
              have HE := hide (parsed_err hS (show (zeroA, i + 1) = readT S by rw [HM1.out (by omega), HLB.out, HF.out]; rfl))
              clear e0 e2
              have hres := (B4.block w.heap.size hS0).trans HRes.out
              have BW := HBw.out.trans (B4.mono hSB)
              have hF := fivePut_box hres (.int .i64 0) (.int .i64 0) (.slice none 0 0) (.slice none 0 0) (.slice none 0 0)
              have HBF := hide (fivePut_below BW (Nat.le_refl _) (.int .i64 0) (.int .i64 0) (.slice none 0 0) (.slice none 0 0) (.slice none 0 0))
              have y0 := cell_of_row _ _ 0 _ _ _ hres
              have y1 := cell_of_row _ _ 1 _ _ _ hres
              have y2 := cell_of_row _ _ 2 _ _ _ hres
              have y3 := cell_of_row _ _ 3 _ _ _ hres
              have y4 := cell_of_row _ _ 4 _ _ _ hres
              have z0 := frozen_of_row _ _ 0 _ _ hres
              have z1 := frozen_of_row _ _ 1 _ _ hres
              have z2 := frozen_of_row _ _ 2 _ _ hres
              have z3 := frozen_of_row _ _ 3 _ _ hres
              have z4 := frozen_of_row _ _ 4 _ _ hres
              have f0 := cell_of_row _ _ 0 _ _ _ hF
              have f1 := cell_of_row _ _ 1 _ _ _ hF
              have f2 := cell_of_row _ _ 2 _ _ _ hF
              have f3 := cell_of_row _ _ 3 _ _ _ hF
              have f4 := cell_of_row _ _ 4 _ _ _ hF
              unfold fivePut at f0 f1 f2 f3 f4 HBF
              clear hF
              go_wp2_with (fail)
              refine bodyPost_ret (v := .tuple #[.agg #[.int .i64 0, .int .i64 0, .slice none 0 0, .slice none 0 0, .slice none 0 0], .int .i64 ((i : Int) + 1), .int .i64 1]) (by simp [results, Tryd.results22, go_sem, f0, f1, f2, f3, f4]) rfl ⟨.agg #[.int .i64 0, .int .i64 0, .slice none 0 0, .slice none 0 0, .slice none 0 0], ?_, ?_, HBF.out⟩
              · rw [HE.out.1, HE.out.2.1]; rfl
              · rw [HE.out.2.2]; exact autO_zero _ _
          · have t0 : (T0 == [115, 116, 97, 116, 101, 115]) = false := by rw [beq_eq_false_iff_ne]; exact e0
            have HF := hide (show sizeB [T0, T1, T2, T3] = false by rw [HSz.out, decide_eq_false e0]; simp)
            have HE := hide (parsed_err hS (show (zeroA, i + 1) = readT S by rw [HM1.out (by omega), HLB.out, HF.out]; rfl))
            clear e0
            have hres := (B4.block w.heap.size hS0).trans HRes.out
            have BW := HBw.out.trans (B4.mono hSB)
            have hF := fivePut_box hres (.int .i64 0) (.int .i64 0) (.slice none 0 0) (.slice none 0 0) (.slice none 0 0)
            have HBF := hide (fivePut_below BW (Nat.le_refl _) (.int .i64 0) (.int .i64 0) (.slice none 0 0) (.slice none 0 0) (.slice none 0 0))
            have y0 := cell_of_row _ _ 0 _ _ _ hres
            have y1 := cell_of_row _ _ 1 _ _ _ hres
            have y2 := cell_of_row _ _ 2 _ _ _ hres
            have y3 := cell_of_row _ _ 3 _ _ _ hres
            have y4 := cell_of_row _ _ 4 _ _ _ hres
            have z0 := frozen_of_row _ _ 0 _ _ hres
            have z1 := frozen_of_row _ _ 1 _ _ hres
            have z2 := frozen_of_row _ _ 2 _ _ hres
            have z3 := frozen_of_row _ _ 3 _ _ hres
            have z4 := frozen_of_row _ _ 4 _ _ hres
            have f0 := cell_of_row _ _ 0 _ _ _ hF
            have f1 := cell_of_row _ _ 1 _ _ _ hF
            have f2 := cell_of_row _ _ 2 _ _ _ hF
            have f3 := cell_of_row _ _ 3 _ _ _ hF
            have f4 := cell_of_row _ _ 4 _ _ _ hF
            unfold fivePut at f0 f1 f2 f3 f4 HBF
            clear hF
            go_wp2_with (fail)
            refine bodyPost_ret (v := .tuple #[.agg #[.int .i64 0, .int .i64 0, .slice none 0 0, .slice none 0 0, .slice none 0 0], .int .i64 ((i : Int) + 1), .int .i64 1]) (by simp [results, Tryd.results22, go_sem, f0, f1, f2, f3, f4]) rfl ⟨.agg #[.int .i64 0, .int .i64 0, .slice none 0 0, .slice none 0 0, .slice none 0 0], ?_, ?_, HBF.out⟩
            · rw [HE.out.1, HE.out.2.1]; rfl
            · rw [HE.out.2.2]; exact autO_zero _ _
        · have HF := hide (show sizeB Ts = false by unfold sizeB; rw [decide_eq_false h4]; simp)
          have HE := hide (parsed_err hS (show (zeroA, i + 1) = readT S by rw [HM1.out (by omega), HLB.out, HF.out]; rfl))
          generalize Ts.length = L8 at *
          have g4 : ((L8 : Int) == 4) = false := by rw [beq_eq_false_iff_ne]; omega
          clear h4 hw8
          have hres := (B4.block w.heap.size hS0).trans HRes.out
          have BW := HBw.out.trans (B4.mono hSB)
          have hF := fivePut_box hres (.int .i64 0) (.int .i64 0) (.slice none 0 0) (.slice none 0 0) (.slice none 0 0)
          have HBF := hide (fivePut_below BW (Nat.le_refl _) (.int .i64 0) (.int .i64 0) (.slice none 0 0) (.slice none 0 0) (.slice none 0 0))
          have y0 := cell_of_row _ _ 0 _ _ _ hres
          have y1 := cell_of_row _ _ 1 _ _ _ hres
          have y2 := cell_of_row _ _ 2 _ _ _ hres
          have y3 := cell_of_row _ _ 3 _ _ _ hres
          have y4 := cell_of_row _ _ 4 _ _ _ hres
          have z0 := frozen_of_row _ _ 0 _ _ hres
          have z1 := frozen_of_row _ _ 1 _ _ hres
          have z2 := frozen_of_row _ _ 2 _ _ hres
          have z3 := frozen_of_row _ _ 3 _ _ hres
          have z4 := frozen_of_row _ _ 4 _ _ hres
          have f0 := cell_of_row _ _ 0 _ _ _ hF
          have f1 := cell_of_row _ _ 1 _ _ _ hF
          have f2 := cell_of_row _ _ 2 _ _ _ hF
          have f3 := cell_of_row _ _ 3 _ _ _ hF
          have f4 := cell_of_row _ _ 4 _ _ _ hF
          unfold fivePut at f0 f1 f2 f3 f4 HBF
          clear hF
          go_wp2_with (fail)
          refine bodyPost_ret (v := .tuple #[.agg #[.int .i64 0, .int .i64 0, .slice none 0 0, .slice none 0 0, .slice none 0 0], .int .i64 ((i : Int) + 1), .int .i64 1]) (by simp [results, Tryd.results22, go_sem, f0, f1, f2, f3, f4]) rfl ⟨.agg #[.int .i64 0, .int .i64 0, .slice none 0 0, .slice none 0 0, .slice none 0 0], ?_, ?_, HBF.out⟩
          · rw [HE.out.1, HE.out.2.1]; rfl
          · rw [HE.out.2.2]; exact autO_zero _ _
    by_cases i1 : i = 1
    · by_cases hlast : i + 1 = n
      · exact absurd HK.out (by have h1 := HC.out; omega)
      · have hmr : i + 1 < n := by omega
        exact absurd HK.out (by have h1 := HC.out; omega)
    by_cases i2 : i = 2
    · by_cases hlast : i + 1 = n
      · exact absurd HK.out (by have h1 := HC.out; omega)
      · have hmr : i + 1 < n := by omega
        exact absurd HK.out (by have h1 := HC.out; omega)
    · by_cases hlast : i + 1 = n
      · exact absurd HK.out (by have h1 := HC.out; omega)
      · have hmr : i + 1 < n := by omega
        exact absurd HK.out (by have h1 := HC.out; omega)
end Go.Proofs.YtpiacnnifdjlkaaDoor
