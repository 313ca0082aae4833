/-
  What ReadAuto of the reference answers.
-/
import Derived.Test.YtpiacnnifdjlkaaDoorKe
namespace Go.Proofs.YtpiacnnifdjlkaaDoor
open Go.RowKit Go.Sort

set_option maxRecDepth 100000 in
set_option maxHeartbeats 20000000 in
theorem readAuto_3 {w : World} (S : List UInt8) (hS : S.length ≤ 100000) (hcl : (prsN S = 0 ∨ 4 ≤ prsN S)) : Calls Tryd.prog 22 #[.string ⟨S.toArray⟩] w fun e w' => Parsed S w e w' := by
  have hsz : (⟨S.toArray⟩ : ByteArray).size = S.length := by simp [ByteArray.size]
  have hg : ¬ ((100000 : Int) < (S.length : Int)) := by omega
  have HC := hide hcl
  clear hcl
  have hrn := one_new w (Obj.cells #[.int .i64 0, .int .i64 0, .slice none 0 0, .slice none 0 0, .slice none 0 0] 26)
  have hbn := below_new w (Obj.cells #[.int .i64 0, .int .i64 0, .slice none 0 0, .slice none 0 0, .slice none 0 0] 26)
  go_enter Tryd.func22, Tryd.ntmps22
  go_wp2_with (fail)
  go_fit (cut10_any S hS _)
  rintro e w1 ⟨v5, rfl, hst, hb1⟩
  have HSt5 := hide hst
  obtain ⟨lb, lo, lc, rfl, hlc, hlm, -⟩ := strSl_cell hst (List.length_pos_iff.2 (spl_ne 10 S))
  unfold maxLen at hlm
  have HRes := hide (belowRow hb1 hrn)
  have HBw := hide (below_trans hbn hb1)
  have HMem := hide (show ∀ x ∈ spl 10 S, x.length ≤ 100000 from fun x hx => Nat.le_trans (spl_mem hx).2 hS)
  have HLn := hide (show 0 < (spl 10 S).length ∧ (spl 10 S).length ≤ 100001 from ⟨List.length_pos_iff.2 (spl_ne 10 S), by have := spl_len 10 S; omega⟩)
  have HRd := hide (show readL 0 zeroA ((spl 10 S).drop 0) = readT S from rfl)
  have hS0 : w.heap.size < w1.heap.size := (Array.getElem?_eq_some_iff.1 HRes.out).1
  generalize spl 10 S = Ls at *
  have HX2 := hide (one_new w1 (Obj.cells #[.int .i64 0, .int .i64 0, .slice none 0 0, .slice none 0 0, .slice none 0 0] 26))
  have HB2 := hide (below_new w1 (Obj.cells #[.int .i64 0, .int .i64 0, .slice none 0 0, .slice none 0 0, .slice none 0 0] 26))
  generalize hB : w1.heap.size = B at *
  have HwB := hide hB
  have hSB : w.heap.size ≤ B := by omega
  generalize hn : Ls.length = n at *
  have Hn := hide hn
  clear hb1 hrn hbn hst hn
  have hn1 : 0 < n := HLn.out.1
  have hn2 : n ≤ 100001 := HLn.out.2
  go_wp2_with (fail)
  clear hB
  go_loopw [7] (fun s7 wr => ∃ (i : Nat) (A : Aut) (fv gv sv : Value), s7 = .int .i64 i ∧ i < n ∧ Hid (readL i A (Ls.drop i) = readT S) ∧ Hid (RA wr B B fv gv sv (refA i A)) ∧ Hid (Below B w1 wr) ∧ Hid (Ahead i A) ∧ Hid (i = 1 ∨ i = 2 → ∃ g, gv = .slice (some ⟨g, 0, none⟩) A.n.toNat A.n.toNat)) (fun s7 _ => n - (intOf s7).toNat)
  case atStart => exact ⟨0, zeroA, _, _, _, rfl, hn1, HRd, hide (RA.new HX2.out (Nat.le_refl _)), hide HB2.out, hide ⟨fun _ => rfl, fun h => (by omega), by simp [zeroA]⟩, hide (fun h => (by omega))⟩
  case round =>
    obtain ⟨i, A, fv, gv, sv, rfl, hin, hrd, hRA, hB1, hah, hgv⟩ := hrel
    have hls : i < Ls.length := by rw [Hn.out]; exact hin
    have dl := cell_kept' (strSl_get HSt5.out hls) hB1.out (by rw [← HwB.out]; exact World.block_lt_of_cell? w1 _ (strSl_get HSt5.out hls))
    have hll := HMem.out (Ls.getD i []) (by simp [List.getD, hls])
    have HM1 := hide (readL_more (Ls := Ls) (i := i) (A := A))
    have HO1 := hide (readL_one (Ls := Ls) (i := i) (A := A))
    rw [Hn.out, hrd.out] at HM1 HO1
    have HK := hide (show prsN S = 0 ∨ i + 1 ≤ prsN S by rw [prsN_of hS, ← hrd.out]; exact readL_num _ _ _)
    generalize Ls.getD i [] = l at *
    by_cases i0 : i = 0
    · by_cases hlast : i + 1 = n
      · exact absurd (parsed_err hS (show (zeroA, i + 1) = readT S by rw [HO1.out hlast, if_neg (by omega)])).2.1 (by have h1 := HC.out; omega)
      · have hmr : i + 1 < n := by omega
        have g0 : ((i : Int) == 0) = true := by rw [i0]; rfl
        have h3 : decide ((3 : Int) ≤ (i : Int)) = false := decide_eq_false (by omega)
        have h3n : ¬ (3 : Int) ≤ (i : Int) := by omega
        have hok : decide ((i : Int) < (n : Int) - 1) = true := decide_eq_true (by omega)
        have hok2 : (i : Int) < (n : Int) - 1 := by omega
        have HLB := hide (show lineB i (spl 32 l) A = sizeB (spl 32 l) by unfold lineB; rw [if_pos i0])
        have HLA := hide (show lineA i (spl 32 l) A = ⟨((numW ((spl 32 l).getD 1 [])).getD 0 : Nat), ((numW ((spl 32 l).getD 3 [])).getD 0 : Nat), [], [], []⟩ by unfold lineA; rw [if_pos i0])
        have HI := hide i0
        clear i0
        go_wp2_with (fail)
        go_fit (cut32_any l hll wr)
        rintro e w4 ⟨v8, rfl, hst, hb4⟩
        have HSt := hide hst
        obtain ⟨b8, o8, c8, rfl, hc8, hm8, hw8⟩ := strSl_cell hst (List.length_pos_iff.2 (spl_ne 32 l))
        unfold maxLen at hm8
        have HR4 := hide (hRA.out.below hb4)
        have B4 := hB1.out.trans (hb4.mono hRA.out.old)
        have HL8 := hide (show (spl 32 l).length ≤ 100001 by have := spl_len 32 l; omega)
        have HN8 := hide (show 0 < (spl 32 l).length from List.length_pos_iff.2 (spl_ne 32 l))
        clear hst hb4 hB1 hRA dl
        generalize spl 32 l = Ts at *
        by_cases h4 : Ts.length = 4
        · obtain ⟨T0, T1, T2, T3, rfl⟩ := four_words h4
          have d0 := hw8 0 (by simp)
          have d1 := hw8 1 (by simp)
          have d2 := hw8 2 (by simp)
          have d3 := hw8 3 (by simp)
          simp only [List.getD_cons_zero, List.getD_cons_succ, Nat.add_zero] at d0 d1 d2 d3
          simp only [List.getD_cons_zero, List.getD_cons_succ, List.length_cons, List.length_nil] at *
          have HSz := hide (show sizeB [T0, T1, T2, T3] = (decide (T0 = wStates) && decide (T2 = wLetters) && (numW T1).isSome && (numW T3).isSome && decide (1 ≤ (numW T1).getD 0) && decide ((numW T1).getD 0 ≤ 300)) from rfl)
          clear hw8 h4
          by_cases e0 : T0 = wStates
          · by_cases e2 : T2 = wLetters
            · have t0 : (T0 == [115, 116, 97, 116, 101, 115]) = true := by rw [e0]; rfl
              have t2 : (T2 == [108, 101, 116, 116, 101, 114, 115]) = true := by rw [e2]; rfl
              rw [decide_eq_true e0, decide_eq_true e2] at HSz
              clear e0 e2
              go_wp2_with (fail)
              go_fit (undigit_any T1 w4)
              rintro e w5 ⟨u1, rfl, hu1, hb5⟩
              have d3' := cell_kept d3 hb5
              have B5 := B4.trans (hb5.mono HR4.out.old)
              have HR5 := hide (HR4.out.below hb5)
              clear d0 d1 d2 d3 hb5 B4
              go_wp2_with (fail)
              go_fit (undigit_any T3 w5)
              rintro e w6 ⟨u3, rfl, hu3, hb6⟩
              have B6 := B5.trans (hb6.mono HR5.out.old)
              have HR6 := hide (HR5.out.below hb6)
              clear d3' hb6 B5 HR4 HR5
              cases hs1 : (numW T1).isSome with
              | false =>
                rw [hs1] at HSz
                have HF := hide (show sizeB [T0, T1, T2, T3] = false by rw [HSz.out]; rfl)
                have HE := hide (parsed_err hS (show (zeroA, i + 1) = readT S by rw [HM1.out (by omega), HLB.out, HF.out]; rfl))
                cases (numW T3).isSome with
                | false =>
                  exact absurd HE.out.2.1 (by have h1 := HC.out; have h2 := HI.out; omega)
                | true =>
                  exact absurd HE.out.2.1 (by have h1 := HC.out; have h2 := HI.out; omega)
              | true =>
                rw [hs1] at HSz
                have hu1' := hu1 hs1
                cases hs3 : (numW T3).isSome with
                | false =>
                  rw [hs3] at HSz
                  have HF := hide (show sizeB [T0, T1, T2, T3] = false by rw [HSz.out]; rfl)
                  have HE := hide (parsed_err hS (show (zeroA, i + 1) = readT S by rw [HM1.out (by omega), HLB.out, HF.out]; rfl))
                  exact absurd HE.out.2.1 (by have h1 := HC.out; have h2 := HI.out; omega)
                | true =>
                  rw [hs3] at HSz
                  have hu3' := hu3 hs3
                  subst hu1'
                  subst hu3'
                  clear hu1 hu3 hs1 hs3
                  generalize hN : (numW T1).getD 0 = N at *
                  generalize hM : (numW T3).getD 0 = M at *
                  clear hN hM
                  by_cases hb : 1 ≤ (N : Int) ∧ (N : Int) ≤ 300
                  · have HF := hide (show sizeB [T0, T1, T2, T3] = true by rw [HSz.out, decide_eq_true (show 1 ≤ N by omega), decide_eq_true (show N ≤ 300 by omega)]; rfl)
                    have HLt := hide (HLB.out.trans HF.out)
                    have HRdN := hide (show readL (i + 1) (lineA i [T0, T1, T2, T3] A) (Ls.drop (i + 1)) = readT S by rw [HM1.out (by omega), HLt.out]; rfl)
                    have HBt := hide (between_yes hb.1 hb.2 w6)
                    have hmk := make_bools N (by omega) w6
                    have hplt : B < w6.heap.size := (Array.getElem?_eq_some_iff.1 HR6.out.box).1
                    have HRn := hide (RA.sized (m := (M : Nat)) HR6.out.box rfl (Nat.le_refl B) (show N ≤ 300 by omega))
                    have HBn := hide ((fivePut_below B6 (Nat.le_refl B) (.int .i64 (N : Nat)) (.int .i64 (M : Nat)) (.slice none 0 0) (.slice (some ⟨w6.heap.size, 0, none⟩) N N) (.slice none 0 0)).alloc (by rw [fivePut_size]; omega) (Obj.cells (falses N) 4))
                    have HRef := hide (show refA (i + 1) (lineA i [T0, T1, T2, T3] A) = ⟨(N : Nat), (M : Nat), [], markL N [], []⟩ by unfold refA; rw [if_pos (by have := HI.out; omega), HLA.out]; simp)
                    have HGv := hide (show (lineA i [T0, T1, T2, T3] A).n.toNat = N by rw [HLA.out]; simp)
                    unfold fivePut at HRn HBn
                    have x0 := cell_of_row _ _ 0 _ _ _ HR6.out.box
                    have x1 := cell_of_row _ _ 1 _ _ _ HR6.out.box
                    have x2 := cell_of_row _ _ 2 _ _ _ HR6.out.box
                    have x3 := cell_of_row _ _ 3 _ _ _ HR6.out.box
                    have x4 := cell_of_row _ _ 4 _ _ _ HR6.out.box
                    have xz0 := frozen_of_row _ _ 0 _ _ HR6.out.box
                    have xz1 := frozen_of_row _ _ 1 _ _ HR6.out.box
                    have xz2 := frozen_of_row _ _ 2 _ _ HR6.out.box
                    have xz3 := frozen_of_row _ _ 3 _ _ HR6.out.box
                    have xz4 := frozen_of_row _ _ 4 _ _ HR6.out.box
                    clear hb HR6
                    have hmore : i + 1 < n := by omega
                    go_wp2_with (fail)
                    go_fit HBt.out
                    rintro e w7 ⟨rfl, rfl⟩
                    go_wp2_with (fail)
                    go_roundw
                    case rel => exact ⟨i + 1, lineA i [T0, T1, T2, T3] A, _, _, _, by go_num, hmore, HRdN, hide (by rw [HRef.out]; exact HRn.out), HBn, hide (hah.out.next HLt.out), hide (fun _ => ⟨_, by rw [HGv.out]⟩)⟩
                    case measure => simp [intOf]; omega
                  · have HF := hide (show sizeB [T0, T1, T2, T3] = false by
                      rw [HSz.out]
                      by_cases h1 : 1 ≤ N
                      · rw [decide_eq_false (show ¬ N ≤ 300 by omega)]; simp
                      · rw [decide_eq_false h1]; simp)
                    have HE := hide (parsed_err hS (show (zeroA, i + 1) = readT S by rw [HM1.out (by omega), HLB.out, HF.out]; rfl))
                    have HBt := hide (between_no hb w6)
                    clear hb
                    go_wp2_with (fail)
                    go_fit HBt.out
                    rintro e w7 ⟨rfl, rfl⟩
                    exact absurd HE.out.2.1 (by have h1 := HC.out; have h2 := HI.out; omega)
            · have t0 : (T0 == [115, 116, 97, 116, 101, 115]) = true := by rw [e0]; rfl
              have t2 : (T2 == [108, 101, 116, 116, 101, 114, 115]) = false := by rw [beq_eq_false_iff_ne]; exact e2
              have HF := hide (show sizeB [T0, T1, T2, T3] = false by rw [HSz.out, decide_eq_false e2]; simp)
              have HE := hide (parsed_err hS (show (zeroA, i + 1) = readT S by rw [HM1.out (by omega), HLB.out, HF.out]; rfl))
              clear e0 e2
              exact absurd HE.out.2.1 (by have h1 := HC.out; have h2 := HI.out; omega)
          · have t0 : (T0 == [115, 116, 97, 116, 101, 115]) = false := by rw [beq_eq_false_iff_ne]; exact e0
            have HF := hide (show sizeB [T0, T1, T2, T3] = false by rw [HSz.out, decide_eq_false e0]; simp)
            have HE := hide (parsed_err hS (show (zeroA, i + 1) = readT S by rw [HM1.out (by omega), HLB.out, HF.out]; rfl))
            clear e0
            exact absurd HE.out.2.1 (by have h1 := HC.out; have h2 := HI.out; omega)
        · have HF := hide (show sizeB Ts = false by unfold sizeB; rw [decide_eq_false h4]; simp)
          have HE := hide (parsed_err hS (show (zeroA, i + 1) = readT S by rw [HM1.out (by omega), HLB.out, HF.out]; rfl))
          generalize Ts.length = L8 at *
          have g4 : ((L8 : Int) == 4) = false := by rw [beq_eq_false_iff_ne]; omega
          clear h4 hw8
          exact absurd HE.out.2.1 (by have h1 := HC.out; have h2 := HI.out; omega)
    by_cases i1 : i = 1
    · by_cases hlast : i + 1 = n
      · exact absurd (parsed_err hS (show (zeroA, i + 1) = readT S by rw [HO1.out hlast, if_neg (by omega)])).2.1 (by have h1 := HC.out; omega)
      · have hmr : i + 1 < n := by omega
        have g0 : ((i : Int) == 0) = false := by rw [i1]; rfl
        have g1 : ((i : Int) == 1) = true := by rw [i1]; rfl
        have h3 : decide ((3 : Int) ≤ (i : Int)) = false := decide_eq_false (by omega)
        have h3n : ¬ (3 : Int) ≤ (i : Int) := by omega
        have hok : decide ((i : Int) < (n : Int) - 1) = true := decide_eq_true (by omega)
        have hok2 : (i : Int) < (n : Int) - 1 := by omega
        have HLB := hide (show lineB i (spl 32 l) A = firstB (spl 32 l) by unfold lineB; rw [if_neg (by omega), if_pos i1])
        have HLA := hide (show lineA i (spl 32 l) A = { A with first := valsW (spl 32 l).tail } by unfold lineA; rw [if_neg (by omega), if_pos i1])
        have HRi := hide (show refA i A = { A with good := markL A.n.toNat [] } by unfold refA; rw [if_pos (by omega)])
        have HFB := hide (show firstB (spl 32 l) = (okWs (spl 32 l).tail && decide ((spl 32 l).getD 0 [] = wFirst)) from rfl)
        have HI := hide i1
        clear i1
        go_wp2_with (fail)
        go_fit (cut32_any l hll wr)
        rintro e w4 ⟨v8, rfl, hst, hb4⟩
        have HSt := hide hst
        obtain ⟨b8, o8, c8, rfl, hc8, hm8, hw8⟩ := strSl_cell hst (List.length_pos_iff.2 (spl_ne 32 l))
        unfold maxLen at hm8
        have HR4 := hide (hRA.out.below hb4)
        have B4 := hB1.out.trans (hb4.mono hRA.out.old)
        have HL8 := hide (show (spl 32 l).length ≤ 100001 by have := spl_len 32 l; omega)
        have HN8 := hide (show 0 < (spl 32 l).length from List.length_pos_iff.2 (spl_ne 32 l))
        clear hst hb4 hB1 hRA dl
        have d0 := hw8 0 HN8.out
        simp only [Nat.add_zero] at d0
        have HUn := hide (undigits_any 1 HSt.out (by have := HL8.out; omega) (by have := HN8.out; omega))
        generalize hTs : spl 32 l = Ts at *
        clear hTs hw8
        go_wp2_with (fail)
        go_fit HUn.out
        rintro e w5 ⟨v1, rfl, hok1, hbad1, hb5⟩
        have B5 := B4.trans (hb5.mono HR4.out.old)
        have HR5 := hide (HR4.out.below hb5)
        have d5 := cell_kept d0 hb5
        have hv1 : ∃ q1 q2 q3, v1 = .slice q1 q2 q3 := by
          cases h : okWs (Ts.drop 1) with
          | false => exact ⟨none, 0, 0, hbad1 h⟩
          | true =>
            rcases (hok1 h).2 with ⟨rfl, _⟩ | ⟨g, cp, cur, rfl, -⟩
            · exact ⟨_, _, _, rfl⟩
            · exact ⟨_, _, _, rfl⟩
        have HOk1 := hide hok1
        have HBd1 := hide hbad1
        have hsz5 : w4.heap.size ≤ w5.heap.size := hb5.size
        have hl8 : 0 < Ts.length := HN8.out
        clear hok1 hbad1 hb5 d0 B4 HUn HSt
        rw [List.drop_one] at HOk1 HBd1 ⊢
        have x2 := cell_of_row _ _ 2 _ _ _ HR5.out.box
        have xz2 := frozen_of_row _ _ 2 _ _ HR5.out.box
        obtain ⟨q1, q2, q3, rfl⟩ := hv1
        have B6 := below_set B5 (Nat.le_refl B) 2 (.slice q1 q2 q3)
        generalize Ts.getD 0 [] = T0 at *
        cases hok : okWs Ts.tail with
        | false =>
          have HE := hide (parsed_err hS (show (zeroA, i + 1) = readT S by rw [HM1.out (by omega), HLB.out, HFB.out, hok]; rfl))
          by_cases e0 : T0 = wFirst
          · have t0 : (T0 == [102, 105, 114, 115, 116]) = true := by rw [e0]; rfl
            generalize Ts.length = L8 at *
            clear e0 hok
            exact absurd HE.out.2.1 (by have h1 := HC.out; have h2 := HI.out; omega)
          · have t0 : (T0 == [102, 105, 114, 115, 116]) = false := by rw [beq_eq_false_iff_ne]; exact e0
            generalize Ts.length = L8 at *
            clear e0 hok
            exact absurd HE.out.2.1 (by have h1 := HC.out; have h2 := HI.out; omega)
        | true =>
          by_cases e0 : T0 = wFirst
          · have t0 : (T0 == [102, 105, 114, 115, 116]) = true := by rw [e0]; rfl
            have HLt := hide (show lineB i Ts A = true by rw [HLB.out, HFB.out, hok, decide_eq_true e0]; rfl)
            have HRdN := hide (show readL (i + 1) (lineA i Ts A) (Ls.drop (i + 1)) = readT S by rw [HM1.out (by omega), HLt.out]; rfl)
            have hR5 := HR5.out
            rw [HRi.out] at hR5
            have HRn := hide (show RA (w5.setCell ⟨B, 2, none⟩ (.slice q1 q2 q3)) B B (.slice q1 q2 q3) gv sv { A with good := markL A.n.toNat [], first := valsW Ts.tail } from ⟨box_set hR5.box 2 _, owns_set (owns_lower (HOk1.out hok) HR4.out.old) hR5.box (by decide) _ _, owns_set hR5.g hR5.box (by decide) _ _, owns_set hR5.s hR5.box (by decide) _ _, Nat.le_refl _⟩)
            have HBn := hide B6
            have HRef := hide (show refA (i + 1) (lineA i Ts A) = { A with good := markL A.n.toNat [], first := valsW Ts.tail } by unfold refA; rw [if_pos (by have := HI.out; omega), HLA.out])
            have HGv := hide (show (lineA i Ts A).n = A.n by rw [HLA.out])
            have hmore : i + 1 < n := by omega
            generalize Ts.length = L8 at *
            clear e0 hok hR5
            go_wp2_with (fail)
            go_roundw
            case rel => exact ⟨i + 1, lineA i Ts A, _, _, _, by go_num, hmore, HRdN, hide (by rw [HRef.out]; exact HRn.out), HBn, hide (hah.out.next HLt.out), hide (fun _ => by rw [HGv.out]; exact hgv.out (Or.inl HI.out))⟩
            case measure => simp [intOf]; omega
          · have t0 : (T0 == [102, 105, 114, 115, 116]) = false := by rw [beq_eq_false_iff_ne]; exact e0
            have HE := hide (parsed_err hS (show (zeroA, i + 1) = readT S by rw [HM1.out (by omega), HLB.out, HFB.out, decide_eq_false e0, Bool.and_false]; rfl))
            generalize Ts.length = L8 at *
            clear e0 hok
            exact absurd HE.out.2.1 (by have h1 := HC.out; have h2 := HI.out; omega)
    by_cases i2 : i = 2
    · by_cases hlast : i + 1 = n
      · exact absurd (parsed_err hS (show (zeroA, i + 1) = readT S by rw [HO1.out hlast, if_neg (by omega)])).2.1 (by have h1 := HC.out; omega)
      · have hmr : i + 1 < n := by omega
        have g0 : ((i : Int) == 0) = false := by rw [i2]; rfl
        have g1 : ((i : Int) == 1) = false := by rw [i2]; rfl
        have g2 : ((i : Int) == 2) = true := by rw [i2]; rfl
        have h3 : decide ((3 : Int) ≤ (i : Int)) = false := decide_eq_false (by omega)
        have h3n : ¬ (3 : Int) ≤ (i : Int) := by omega
        have hok : decide ((i : Int) < (n : Int) - 1) = true := decide_eq_true (by omega)
        have hok2 : (i : Int) < (n : Int) - 1 := by omega
        have HLB := hide (show lineB i (spl 32 l) A = goodB A.n (spl 32 l) by unfold lineB; rw [if_neg (by omega), if_neg (by omega), if_pos i2])
        have HLA := hide (show lineA i (spl 32 l) A = { A with good := markL A.n.toNat (valsW (spl 32 l).tail) } by unfold lineA; rw [if_neg (by omega), if_neg (by omega), if_pos i2])
        have HRi := hide (show refA i A = { A with good := markL A.n.toNat [] } by unfold refA; rw [if_pos (by omega)])
        have HFB := hide (show goodB A.n (spl 32 l) = (okWs (spl 32 l).tail && decide ((spl 32 l).getD 0 [] = wGood) && risesB A.n (-1) (valsW (spl 32 l).tail)) from rfl)
        have HI := hide i2
        clear i2
        go_wp2_with (fail)
        go_fit (cut32_any l hll wr)
        rintro e w4 ⟨v8, rfl, hst, hb4⟩
        have HSt := hide hst
        obtain ⟨b8, o8, c8, rfl, hc8, hm8, hw8⟩ := strSl_cell hst (List.length_pos_iff.2 (spl_ne 32 l))
        unfold maxLen at hm8
        have HR4 := hide (hRA.out.below hb4)
        have B4 := hB1.out.trans (hb4.mono hRA.out.old)
        have HL8 := hide (show (spl 32 l).length ≤ 100001 by have := spl_len 32 l; omega)
        have HN8 := hide (show 0 < (spl 32 l).length from List.length_pos_iff.2 (spl_ne 32 l))
        clear hst hb4 hB1 hRA dl
        have d0 := hw8 0 HN8.out
        simp only [Nat.add_zero] at d0
        have HUn := hide (undigits_any 1 HSt.out (by have := HL8.out; omega) (by have := HN8.out; omega))
        generalize hTs : spl 32 l = Ts at *
        clear hTs hw8
        go_wp2_with (fail)
        go_fit HUn.out
        rintro e w5 ⟨v1, rfl, hok1, hbad1, hb5⟩
        have B5 := B4.trans (hb5.mono HR4.out.old)
        have HR5 := hide (HR4.out.below hb5)
        have d5 := cell_kept d0 hb5
        have hv1 : ∃ q1 q2 q3, v1 = .slice q1 q2 q3 := by
          cases h : okWs (Ts.drop 1) with
          | false => exact ⟨none, 0, 0, hbad1 h⟩
          | true =>
            rcases (hok1 h).2 with ⟨rfl, _⟩ | ⟨g, cp, cur, rfl, -⟩
            · exact ⟨_, _, _, rfl⟩
            · exact ⟨_, _, _, rfl⟩
        have HOk1 := hide hok1
        have HBd1 := hide hbad1
        have hsz5 : w4.heap.size ≤ w5.heap.size := hb5.size
        have hl8 : 0 < Ts.length := HN8.out
        clear hok1 hbad1 hb5 d0 B4 HUn HSt
        rw [List.drop_one] at HOk1 HBd1 ⊢
        generalize Ts.getD 0 [] = T0 at *
        cases hok : okWs Ts.tail with
        | false =>
          have HE := hide (parsed_err hS (show (zeroA, i + 1) = readT S by rw [HM1.out (by omega), HLB.out, HFB.out, hok]; rfl))
          obtain ⟨q1, q2, q3, rfl⟩ := hv1
          by_cases e0 : T0 = wGood
          · have t0 : (T0 == [103, 111, 111, 100]) = true := by rw [e0]; rfl
            generalize Ts.length = L8 at *
            clear e0 hok HR5
            exact absurd HE.out.2.1 (by have h1 := HC.out; have h2 := HI.out; omega)
          · have t0 : (T0 == [103, 111, 111, 100]) = false := by rw [beq_eq_false_iff_ne]; exact e0
            generalize Ts.length = L8 at *
            clear e0 hok HR5
            exact absurd HE.out.2.1 (by have h1 := HC.out; have h2 := HI.out; omega)
        | true =>
          have hoB := HOk1.out hok
          by_cases e0 : T0 = wGood
          · have t0 : (T0 == [103, 111, 111, 100]) = true := by rw [e0]; rfl
            have HFB2 := hide (show goodB A.n Ts = risesB A.n (-1) (valsW Ts.tail) by rw [HFB.out, hok, decide_eq_true e0]; rfl)
            obtain ⟨g, rfl⟩ := hgv.out (Or.inr HI.out)
            have hAn := hah.out.2.1 (by have := HI.out; omega)
            obtain ⟨N, hN⟩ := Int.eq_ofNat_of_zero_le (show 0 ≤ A.n by omega)
            have HNe := hide hN
            have hR5 := HR5.out
            rw [HRi.out] at hR5
            rw [hN, Int.toNat_natCast] at hR5
            have HNt := hide (show A.n.toNat = N by omega)
            have hN3 : N ≤ 300 := by omega
            have hP : ∀ z ∈ valsW Ts.tail, 0 ≤ z := by intro z hz; unfold valsW at hz; obtain ⟨T, _, rfl⟩ := List.mem_map.1 hz; omega
            have HP := hide hP
            have hI := intSl_of_owns hoB
            have hfar : ∀ b, v1.ownBlock = some b → b ≠ g := fun b hb e => by
              have h1 := (hoB.lt b hb).1
              have h2 := (HR4.out.g.lt g (by rw [HNt.out]; rfl)).2
              omega
            have HFar := hide hfar
            have hfarB : ∀ b, v1.ownBlock = some b → b ≠ B := row_apart hoB hR5.box (by decide)
            clear hok hN hP hfar HOk1 HBd1 hAn
            generalize hzs : valsW Ts.tail = zs at *
            have HZs := hide hzs
            clear hzs hoB
            have HI5 := hide hI
            obtain ⟨q1, q3, rfl, hm1, -⟩ := hI
            unfold maxLen at hm1
            generalize hLz : zs.length = Lz at *
            have HLz := hide hLz
            clear hLz hv1
            generalize Ts.length = L8 at *
            clear e0
            have HR5n := hide hR5
            have HB5 := hide B5
            clear hR5 HR5 B5
            go_wp2_with (fail)
            go_loopw [9, 18] (fun s9 s18 wr => ∃ (k : Nat) (ok : Bool), s9 = .bool ok ∧ s18 = .int .i64 k ∧ k ≤ Lz ∧ Hid (IntSl wr (.slice q1 Lz q3) zs) ∧ Hid (Below B w1 wr) ∧ Hid (ok = true → RA wr B B fv (.slice (some ⟨g, 0, none⟩) N N) sv ⟨(N : Nat), A.m, A.first, markL N (zs.take k), A.steps⟩ ∧ risesB N (lastZ zs k) (zs.drop k) = risesB N (-1) zs) ∧ Hid (ok = false → risesB N (-1) zs = false) ∧ Hid (wr.heap[B]? = some (.cells #[.int .i64 (N : Nat), .int .i64 A.m, fv, .slice (some ⟨g, 0, none⟩) N N, sv] 26))) (fun _ s18 _ => Lz - (intOf s18).toNat)
            case atStart => exact ⟨0, true, rfl, rfl, Nat.zero_le _, HI5, HB5, hide (fun _ => ⟨HR5n.out, rfl⟩), hide (fun h => (by cases h)), hide HR5n.out.box⟩
            case round =>
              obtain ⟨k, ok, rfl, rfl, hk, hIS, hB1, hRt, hFf, hbx⟩ := hrel
              cases ok with
              | false =>
                have HE := hide (parsed_err hS (show (zeroA, i + 1) = readT S by rw [HM1.out (by omega), HLB.out, HFB2.out, HNe.out, hFf.out rfl]; rfl))
                have B5 := hB1.out
                by_cases hlt : k < Lz
                · exact absurd HE.out.2.1 (by have h1 := HC.out; have h2 := HI.out; omega)
                · exact absurd HE.out.2.1 (by have h1 := HC.out; have h2 := HI.out; omega)
              | true =>
                obtain ⟨hRA5, hrs⟩ := hRt.out rfl
                have q0c := cell_of_row _ _ 0 _ _ _ hbx.out
                have q3c := cell_of_row _ _ 3 _ _ _ hbx.out
                by_cases hlt : k < Lz
                · have hls2 : k < zs.length := by rw [HLz.out]; exact hlt
                  obtain ⟨a', cap', e, _, hzz, _⟩ := hIS.out
                  injection e with e1 e2 e3
                  subst e1
                  rcases hzz with hzz | ⟨q0, qo, e, hcell⟩
                  · rw [hzz] at hls2; simp at hls2
                  subst e
                  have cz := hcell k hls2
                  have h0z := HP.out _ (show zs.getD k 0 ∈ zs by simp [List.getD, hls2])
                  have HRs := hide (rises_step N zs k hls2)
                  have HMk := hide (markL_take N zs k hls2 h0z)
                  have HLs := hide (lastZ_succ zs k)
                  have hprev : k ≠ 0 → wr.cell? ⟨q0, qo + (k - 1), none⟩ = some (.int .i64 (lastZ zs k)) := fun hk0 => by
                    have := hcell (k - 1) (by omega)
                    rw [this]
                    unfold lastZ
                    rw [if_neg hk0]
                  have hl0 : k = 0 → lastZ zs k = -1 := fun h => by unfold lastZ; rw [if_pos h]
                  generalize zs.getD k 0 = z at *
                  generalize lastZ zs k = la at *
                  clear hcell e2 e3 hls2 hRt hFf
                  obtain ⟨zn, rfl⟩ := Int.eq_ofNat_of_zero_le h0z
                  have hkZ : (k : Int) < (Lz : Int) := by omega
                  have hBg : B ≤ g := (hRA5.g.lt g rfl).1
                  by_cases k2z : (zn : Int) < (N : Int)
                  · by_cases k1 : la < zn
                    · have HRi2 := hide (HRs.out.symm.trans hrs)
                      rw [decide_eq_true k1, decide_eq_true k2z] at HRi2
                      by_cases hk0 : k = 0
                      case' pos =>
                        have hkk : ((k : Int) == 0) = true := by rw [hk0]; rfl
                        clear hprev hl0 hk0
                      case' neg =>
                        have hkk : ((k : Int) == 0) = false := by rw [beq_eq_false_iff_ne]; omega
                        have hpr := hprev hk0
                        have hkm : ((k : Int) - 1).toNat = k - 1 := by omega
                        have hk1a : 0 ≤ (k : Int) - 1 := by omega
                        have hk1b : (k : Int) - 1 < (Lz : Int) := by omega
                        clear hprev hl0 hk0
                      all_goals
                        go_wp2_with (fail)
                        (refine wp_region_quiet_lit (by kernel_rfl) (by kernel_rfl) ?_; (repeat (go_big_quiet_step (fail))); refine wpQuiet_nil ?_; intro _ hw'; obtain ⟨nq, hw''⟩ := hw'; subst hw'')
                        have hbq := below_drawn wr nq
                        have hbd : Below wr.heap.size wr (wr.drewN nq).drew := hbq.drew
                        generalize wr.drewN nq = wq at *
                        have hRd := hRA5.below hbd
                        have c3 := cell_of_row _ _ 3 _ _ _ hRd.box
                        have HMr := hide (hRd.mark zn)
                        obtain ⟨⟨u, hu⟩, hzf⟩ := hRd.good_cell zn (by omega)
                        have HI2 := hide ((hIS.out.below hbd).setCell (a := ⟨g, zn, none⟩) HFar.out (.bool true))
                        have HB2 := hide (below_set (hB1.out.trans (hbd.mono hRA5.old)) hBg zn (.bool true))
                        have cz0 := cz
                        clear cz
                        have cz := cell_kept cz0 hbd
                        clear cz0 hbq hRd hRA5
                        go_wp2_with (fail)
                        rename_i Q' K hK
                        refine wp_region_readstore 7 [(0, 209), (1, 210), (2, 211), (3, 212), (4, 213), (5, 214), (6, 215)] (fun j v => match j with | 0 => v = .pointer (some ⟨B, 3, none⟩) | 1 => v = .slice (some ⟨g, 0, none⟩) N N | 2 => v = .slice (some ⟨q0, qo, none⟩) Lz q3 | 3 => v = .int .i64 (k : Nat) | 4 => v = .pointer (some ⟨q0, qo + k, none⟩) | 5 => v = .int .i64 (zn : Nat) | 6 => v = .pointer (some ⟨g, zn, none⟩) | _ => True) 215 ⟨g, zn, none⟩ (by kernel_rfl) (by kernel_rfl) (by kernel_rfl) (by kernel_rfl) (by kernel_rfl) (by kernel_rfl) (by decide) hu hzf (fun vs hRp => (put7_last vs _ (of_decide_eq_true (by kernel_rfl))).trans (hRp 6 (by decide))) ?_ ?_
                        · intro j o hj ho a vs he hd
                          match j, hj, ho with
                          | 0, hj, ho =>
                            obtain rfl := Option.some.inj ho
                            have e6 : a.tmps[6]?.getD undef = .pointer (some ⟨B, 0, none⟩) := free_val he 6 (by kernel_rfl)
                            exact ⟨.pointer (some ⟨B, 3, none⟩), by simp [execOp, go_sem, e6], rfl⟩
                          | 1, hj, ho =>
                            obtain rfl := Option.some.inj ho
                            have v0 : a.tmps[209]?.getD undef = .pointer (some ⟨B, 3, none⟩) := (eval_tmp a 209).symm.trans (((hd 0 (by kernel_rfl)).2 209 (by kernel_rfl)).trans (hd 0 (by kernel_rfl)).1)
                            exact ⟨.slice (some ⟨g, 0, none⟩) N N, by simp [execOp, go_sem, v0, c3], rfl⟩
                          | 2, hj, ho =>
                            obtain rfl := Option.some.inj ho
                            have e16 : a.tmps[16]?.getD undef = .slice (some ⟨q0, qo, none⟩) Lz q3 := free_val he 16 (by kernel_rfl)
                            exact ⟨.slice (some ⟨q0, qo, none⟩) Lz q3, by simp [execOp, go_sem, e16], rfl⟩
                          | 3, hj, ho =>
                            obtain rfl := Option.some.inj ho
                            have e18 : a.tmps[18]?.getD undef = .int .i64 (k : Nat) := free_val he 18 (by kernel_rfl)
                            exact ⟨.int .i64 (k : Nat), by simp [execOp, go_sem, e18], rfl⟩
                          | 4, hj, ho =>
                            obtain rfl := Option.some.inj ho
                            have v2 : a.tmps[211]?.getD undef = .slice (some ⟨q0, qo, none⟩) Lz q3 := (eval_tmp a 211).symm.trans (((hd 2 (by kernel_rfl)).2 211 (by kernel_rfl)).trans (hd 2 (by kernel_rfl)).1)
                            have v3 : a.tmps[212]?.getD undef = .int .i64 (k : Nat) := (eval_tmp a 212).symm.trans (((hd 3 (by kernel_rfl)).2 212 (by kernel_rfl)).trans (hd 3 (by kernel_rfl)).1)
                            exact ⟨.pointer (some ⟨q0, qo + k, none⟩), by simp [execOp, go_sem, v2, v3, hkZ], rfl⟩
                          | 5, hj, ho =>
                            obtain rfl := Option.some.inj ho
                            have v4 : a.tmps[213]?.getD undef = .pointer (some ⟨q0, qo + k, none⟩) := (eval_tmp a 213).symm.trans (((hd 4 (by kernel_rfl)).2 213 (by kernel_rfl)).trans (hd 4 (by kernel_rfl)).1)
                            exact ⟨.int .i64 (zn : Nat), by simp [execOp, go_sem, v4, cz], rfl⟩
                          | 6, hj, ho =>
                            obtain rfl := Option.some.inj ho
                            have v1 : a.tmps[210]?.getD undef = .slice (some ⟨g, 0, none⟩) N N := (eval_tmp a 210).symm.trans (((hd 1 (by kernel_rfl)).2 210 (by kernel_rfl)).trans (hd 1 (by kernel_rfl)).1)
                            have v5 : a.tmps[214]?.getD undef = .int .i64 (zn : Nat) := (eval_tmp a 214).symm.trans (((hd 5 (by kernel_rfl)).2 214 (by kernel_rfl)).trans (hd 5 (by kernel_rfl)).1)
                            exact ⟨.pointer (some ⟨g, zn, none⟩), by simp [execOp, go_sem, v1, v5, k2z], rfl⟩
                          | j + 7, hj, ho => exact absurd hj (by omega)
                        · intro vs
                          refine hK _ _ ?_
                          simp only [putPairs]
                          go_wp2_with (fail)
                          go_roundw
                          case rel => exact ⟨k + 1, true, rfl, by go_num, by omega, HI2, HB2, hide (fun _ => ⟨by rw [HMk.out, Int.toNat_natCast]; exact HMr.out, by simpa using HRi2.out⟩), hide (fun h => (by cases h)), hide HMr.out.box⟩
                          case measure => simp [intOf]; omega
                    · have hk0 : k ≠ 0 := fun h => by have := hl0 h; omega
                      have hkk : ((k : Int) == 0) = false := by rw [beq_eq_false_iff_ne]; omega
                      have hpr := hprev hk0
                      have hkm : ((k : Int) - 1).toNat = k - 1 := by omega
                      have hk1a : 0 ≤ (k : Int) - 1 := by omega
                      have hk1b : (k : Int) - 1 < (Lz : Int) := by omega
                      have HZf := hide (show risesB N (-1) zs = false by rw [← hrs, HRs.out, decide_eq_false k1]; rfl)
                      exact absurd (parsed_err hS (show (zeroA, i + 1) = readT S by rw [HM1.out (by omega), HLB.out, HFB2.out, HNe.out, HZf.out]; rfl)).2.1 (by have h1 := HC.out; have h2 := HI.out; omega)
                  · have HZf := hide (show risesB N (-1) zs = false by rw [← hrs, HRs.out, decide_eq_false k2z, Bool.and_false]; rfl)
                    have k2d : decide (zn < N) = false := decide_eq_false (by omega)
                    exact absurd (parsed_err hS (show (zeroA, i + 1) = readT S by rw [HM1.out (by omega), HLB.out, HFB2.out, HNe.out, HZf.out]; rfl)).2.1 (by have h1 := HC.out; have h2 := HI.out; omega)
                · obtain rfl : Lz = k := by omega
                  have e1 : zs.take Lz = zs := by rw [← HLz.out]; exact List.take_length
                  have e2 : zs.drop Lz = [] := by rw [← HLz.out]; exact List.drop_length
                  have HLt := hide (show lineB i Ts A = true by rw [HLB.out, HFB2.out, HNe.out, ← hrs, e2]; rfl)
                  have HRdN := hide (show readL (i + 1) (lineA i Ts A) (Ls.drop (i + 1)) = readT S by rw [HM1.out (by omega), HLt.out]; rfl)
                  have hRn := hRA5
                  rw [e1] at hRn
                  have HRn := hide hRn
                  have HBn := hide hB1.out
                  have HRef := hide (show refA (i + 1) (lineA i Ts A) = ⟨(N : Nat), A.m, A.first, markL N zs, A.steps⟩ by unfold refA; rw [if_neg (by have := HI.out; omega), HLA.out, HNt.out, HNe.out])
                  have hmore : i + 1 < n := by omega
                  clear e1 e2 hRn hRA5 hrs hRt hFf
                  go_wp2_with (fail)
                  go_roundw
                  case rel => exact ⟨i + 1, lineA i Ts A, _, _, _, by go_num, hmore, HRdN, hide (by rw [HRef.out]; exact HRn.out), HBn, hide (hah.out.next HLt.out), hide (fun h => (by have := HI.out; omega))⟩
                  case measure => simp [intOf]; omega
          · have t0 : (T0 == [103, 111, 111, 100]) = false := by rw [beq_eq_false_iff_ne]; exact e0
            have HE := hide (parsed_err hS (show (zeroA, i + 1) = readT S by rw [HM1.out (by omega), HLB.out, HFB.out, decide_eq_false e0, Bool.and_false]; rfl))
            obtain ⟨q1, q2, q3, rfl⟩ := hv1
            generalize Ts.length = L8 at *
            clear e0 hok HR5 hoB
            exact absurd HE.out.2.1 (by have h1 := HC.out; have h2 := HI.out; omega)
    · by_cases hlast : i + 1 = n
      · by_cases he : l = []
        · have HEn := hide (parsed_end hS (show (A, 0) = readT S by rw [HO1.out hlast, if_pos ⟨by omega, he⟩]))
          have HRi := hide (show refA i A = A by unfold refA; rw [if_neg (by omega)])
          have hR0 := hRA.out
          rw [HRi.out] at hR0
          have g0 : ((i : Int) == 0) = false := by rw [beq_eq_false_iff_ne]; omega
          have g1 : ((i : Int) == 1) = false := by rw [beq_eq_false_iff_ne]; omega
          have g2 : ((i : Int) == 2) = false := by rw [beq_eq_false_iff_ne]; omega
          have h3 : decide ((3 : Int) ≤ (i : Int)) = true := decide_eq_true (by omega)
          have hok : decide ((i : Int) < (n : Int) - 1) = false := decide_eq_false (by omega)
          have hok2 : ¬ ((i : Int) < (n : Int) - 1) := by omega
          have hne : ((i : Int) == (n : Int) - 1) = true := by rw [beq_iff_eq]; omega
          have hle : l.isEmpty = true := by rw [he]; rfl
          have HLst := hide hlast
          clear hlast
          have HB0 := hide hB1.out
          have HRa := hide hR0
          clear he hRA hB1 hR0
          obtain ⟨a1, c1, a2, c2, a3, c3, rfl, rfl, rfl⟩ := HRa.out.slices
          have HAv := hide HRa.out.aut
          have HOw := hide HRa.out.own
          have x0 := cell_of_row _ _ 0 _ _ _ HRa.out.box
          have x1 := cell_of_row _ _ 1 _ _ _ HRa.out.box
          have x2 := cell_of_row _ _ 2 _ _ _ HRa.out.box
          have x3 := cell_of_row _ _ 3 _ _ _ HRa.out.box
          have x4 := cell_of_row _ _ 4 _ _ _ HRa.out.box
          go_wp2_with (fail)
          go_fit (checkAutoR_any HAv.out)
          rintro e w5 ⟨rfl, hb5⟩
          have B5 := HB0.out.trans (hb5.mono HRa.out.old)
          have hbx := belowRow hb5 HRa.out.box
          have HO5 := hide (HOw.out.below hb5)
          have hres := (B5.block w.heap.size hS0).trans HRes.out
          have BW := HBw.out.trans (B5.mono hSB)
          obtain ⟨r1, r2, r3, r4⟩ := HEn.out
          clear x0 x1 x2 x3 x4 hb5 dl
          by_cases hc : chkA A = 0
          · have HPA := hide (r3 hc)
            have HE1 := hide (r1.trans hc)
            have HN1 := hide r2
            rw [hc]
            have hF := fivePut_box hres (.int .i64 A.n) (.int .i64 A.m) (.slice a1 A.first.length c1) (.slice a2 A.good.length c2) (.slice a3 A.steps.length c3)
            have HAF := hide (HO5.out.five hres (.int .i64 A.n) (.int .i64 A.m) (.slice a1 A.first.length c1) (.slice a2 A.good.length c2) (.slice a3 A.steps.length c3))
            have HBF := hide (fivePut_below BW (Nat.le_refl _) (.int .i64 A.n) (.int .i64 A.m) (.slice a1 A.first.length c1) (.slice a2 A.good.length c2) (.slice a3 A.steps.length c3))
            have x0 := cell_of_row _ _ 0 _ _ _ hbx
            have x1 := cell_of_row _ _ 1 _ _ _ hbx
            have x2 := cell_of_row _ _ 2 _ _ _ hbx
            have x3 := cell_of_row _ _ 3 _ _ _ hbx
            have x4 := cell_of_row _ _ 4 _ _ _ hbx
            have y0 := cell_of_row _ _ 0 _ _ _ hres
            have y1 := cell_of_row _ _ 1 _ _ _ hres
            have y2 := cell_of_row _ _ 2 _ _ _ hres
            have y3 := cell_of_row _ _ 3 _ _ _ hres
            have y4 := cell_of_row _ _ 4 _ _ _ hres
            have z0 := frozen_of_row _ _ 0 _ _ hres
            have z1 := frozen_of_row _ _ 1 _ _ hres
            have z2 := frozen_of_row _ _ 2 _ _ hres
            have z3 := frozen_of_row _ _ 3 _ _ hres
            have z4 := frozen_of_row _ _ 4 _ _ hres
            have f0 := cell_of_row _ _ 0 _ _ _ hF
            have f1 := cell_of_row _ _ 1 _ _ _ hF
            have f2 := cell_of_row _ _ 2 _ _ _ hF
            have f3 := cell_of_row _ _ 3 _ _ _ hF
            have f4 := cell_of_row _ _ 4 _ _ _ hF
            unfold fivePut at f0 f1 f2 f3 f4 HBF HAF
            clear hF hc r1 r2 r3 r4
            go_wp2_with (fail)
            refine bodyPost_ret (v := .tuple #[.agg #[.int .i64 A.n, .int .i64 A.m, .slice a1 A.first.length c1, .slice a2 A.good.length c2, .slice a3 A.steps.length c3], .int .i64 0, .int .i64 0]) (by simp [results, Tryd.results22, go_sem, f0, f1, f2, f3, f4]) rfl ⟨.agg #[.int .i64 A.n, .int .i64 A.m, .slice a1 A.first.length c1, .slice a2 A.good.length c2, .slice a3 A.steps.length c3], ?_, ?_, HBF.out⟩
            · rw [HE1.out, HN1.out]; rfl
            · rw [HPA.out]; exact HAF.out.lower hSB
          · have hd : (chkA A != 0) = true := by simpa using hc
            have HPA := hide (r4 hc)
            have HE1 := hide r1
            have HN1 := hide r2
            have hF := fivePut_box hres (.int .i64 0) (.int .i64 0) (.slice none 0 0) (.slice none 0 0) (.slice none 0 0)
            have HBF := hide (fivePut_below BW (Nat.le_refl _) (.int .i64 0) (.int .i64 0) (.slice none 0 0) (.slice none 0 0) (.slice none 0 0))
            have y0 := cell_of_row _ _ 0 _ _ _ hres
            have y1 := cell_of_row _ _ 1 _ _ _ hres
            have y2 := cell_of_row _ _ 2 _ _ _ hres
            have y3 := cell_of_row _ _ 3 _ _ _ hres
            have y4 := cell_of_row _ _ 4 _ _ _ hres
            have z0 := frozen_of_row _ _ 0 _ _ hres
            have z1 := frozen_of_row _ _ 1 _ _ hres
            have z2 := frozen_of_row _ _ 2 _ _ hres
            have z3 := frozen_of_row _ _ 3 _ _ hres
            have z4 := frozen_of_row _ _ 4 _ _ hres
            have f0 := cell_of_row _ _ 0 _ _ _ hF
            have f1 := cell_of_row _ _ 1 _ _ _ hF
            have f2 := cell_of_row _ _ 2 _ _ _ hF
            have f3 := cell_of_row _ _ 3 _ _ _ hF
            have f4 := cell_of_row _ _ 4 _ _ _ hF
            unfold fivePut at f0 f1 f2 f3 f4 HBF
            clear hF hc r1 r2 r3 r4
            go_wp2_with (fail)
            refine bodyPost_ret (v := .tuple #[.agg #[.int .i64 0, .int .i64 0, .slice none 0 0, .slice none 0 0, .slice none 0 0], .int .i64 0, .int .i64 (chkA A)]) (by simp [results, Tryd.results22, go_sem, f0, f1, f2, f3, f4]) rfl ⟨.agg #[.int .i64 0, .int .i64 0, .slice none 0 0, .slice none 0 0, .slice none 0 0], ?_, ?_, HBF.out⟩
            · rw [HE1.out, HN1.out]; rfl
            · rw [HPA.out]; exact autO_zero _ _
        · have HE := hide (parsed_err hS (show (zeroA, i + 1) = readT S by rw [HO1.out hlast, if_neg (fun h => he h.2)]))
          have g0 : ((i : Int) == 0) = false := by rw [beq_eq_false_iff_ne]; omega
          have g1 : ((i : Int) == 1) = false := by rw [beq_eq_false_iff_ne]; omega
          have g2 : ((i : Int) == 2) = false := by rw [beq_eq_false_iff_ne]; omega
          have h3 : decide ((3 : Int) ≤ (i : Int)) = true := decide_eq_true (by omega)
          have hok : decide ((i : Int) < (n : Int) - 1) = false := decide_eq_false (by omega)
          have hok2 : ¬ ((i : Int) < (n : Int) - 1) := by omega
          have hne : ((i : Int) == (n : Int) - 1) = true := by rw [beq_iff_eq]; omega
          have hle : l.isEmpty = false := by cases l with | nil => exact absurd rfl he | cons b r => rfl
          have HLst := hide hlast
          clear hlast
          clear he
          go_wp2_with (fail)
          go_fit (cut32_any l hll wr)
          rintro e w4 ⟨v8, rfl, hst, hb4⟩
          have HSt := hide hst
          obtain ⟨b8, o8, c8, rfl, hc8, hm8, hw8⟩ := strSl_cell hst (List.length_pos_iff.2 (spl_ne 32 l))
          unfold maxLen at hm8
          have HR4 := hide (hRA.out.below hb4)
          have B4 := hB1.out.trans (hb4.mono hRA.out.old)
          have HL8 := hide (show (spl 32 l).length ≤ 100001 by have := spl_len 32 l; omega)
          have HN8 := hide (show 0 < (spl 32 l).length from List.length_pos_iff.2 (spl_ne 32 l))
          clear hst hb4 hB1 hRA dl
          have d0 := hw8 0 HN8.out
          simp only [Nat.add_zero] at d0
          have HUn := hide (undigits_any 0 HSt.out (by have := HL8.out; omega) (by have := HN8.out; omega))
          generalize hTs : spl 32 l = Ts at *
          clear hTs hw8
          go_wp2_with (fail)
          go_fit HUn.out
          rintro e w5 ⟨v1, rfl, hok1, hbad1, hb5⟩
          have B5 := B4.trans (hb5.mono HR4.out.old)
          have HR5 := hide (HR4.out.below hb5)
          have d5 := cell_kept d0 hb5
          have hv1 : ∃ q1 q2 q3, v1 = .slice q1 q2 q3 := by
            cases h : okWs (Ts.drop 0) with
            | false => exact ⟨none, 0, 0, hbad1 h⟩
            | true =>
              rcases (hok1 h).2 with ⟨rfl, _⟩ | ⟨g, cp, cur, rfl, -⟩
              · exact ⟨_, _, _, rfl⟩
              · exact ⟨_, _, _, rfl⟩
          have HOk1 := hide hok1
          have HBd1 := hide hbad1
          have hsz5 : w4.heap.size ≤ w5.heap.size := hb5.size
          have hl8 : 0 < Ts.length := HN8.out
          clear hok1 hbad1 hb5 d0 B4 HUn HSt
          obtain ⟨q1, q2, q3, rfl⟩ := hv1
          generalize okWs (Ts.drop 0) = okd at *
          generalize Ts.length = L8 at *
          clear HR5
          have hres := (B5.block w.heap.size hS0).trans HRes.out
          have BW := HBw.out.trans (B5.mono hSB)
          have hF := fivePut_box hres (.int .i64 0) (.int .i64 0) (.slice none 0 0) (.slice none 0 0) (.slice none 0 0)
          have HBF := hide (fivePut_below BW (Nat.le_refl _) (.int .i64 0) (.int .i64 0) (.slice none 0 0) (.slice none 0 0) (.slice none 0 0))
          have y0 := cell_of_row _ _ 0 _ _ _ hres
          have y1 := cell_of_row _ _ 1 _ _ _ hres
          have y2 := cell_of_row _ _ 2 _ _ _ hres
          have y3 := cell_of_row _ _ 3 _ _ _ hres
          have y4 := cell_of_row _ _ 4 _ _ _ hres
          have z0 := frozen_of_row _ _ 0 _ _ hres
          have z1 := frozen_of_row _ _ 1 _ _ hres
          have z2 := frozen_of_row _ _ 2 _ _ hres
          have z3 := frozen_of_row _ _ 3 _ _ hres
          have z4 := frozen_of_row _ _ 4 _ _ hres
          have f0 := cell_of_row _ _ 0 _ _ _ hF
          have f1 := cell_of_row _ _ 1 _ _ _ hF
          have f2 := cell_of_row _ _ 2 _ _ _ hF
          have f3 := cell_of_row _ _ 3 _ _ _ hF
          have f4 := cell_of_row _ _ 4 _ _ _ hF
          unfold fivePut at f0 f1 f2 f3 f4 HBF
          clear hF
          go_wp2_with (fail)
          refine bodyPost_ret (v := .tuple #[.agg #[.int .i64 0, .int .i64 0, .slice none 0 0, .slice none 0 0, .slice none 0 0], .int .i64 ((i : Int) + 1), .int .i64 1]) (by simp [results, Tryd.results22, go_sem, f0, f1, f2, f3, f4]) rfl ⟨.agg #[.int .i64 0, .int .i64 0, .slice none 0 0, .slice none 0 0, .slice none 0 0], ?_, ?_, HBF.out⟩
          · rw [HE.out.1, HE.out.2.1]; rfl
          · rw [HE.out.2.2]; exact autO_zero _ _
      · have hmr : i + 1 < n := by omega
        have g0 : ((i : Int) == 0) = false := by rw [beq_eq_false_iff_ne]; omega
        have g1 : ((i : Int) == 1) = false := by rw [beq_eq_false_iff_ne]; omega
        have g2 : ((i : Int) == 2) = false := by rw [beq_eq_false_iff_ne]; omega
        have h3 : decide ((3 : Int) ≤ (i : Int)) = true := decide_eq_true (by omega)
        have hok : decide ((i : Int) < (n : Int) - 1) = true := decide_eq_true (by omega)
        have hok2 : (i : Int) < (n : Int) - 1 := by omega
        have hne : ((i : Int) == (n : Int) - 1) = false := by rw [beq_eq_false_iff_ne]; omega
        have HLB := hide (show lineB i (spl 32 l) A = stepB (spl 32 l) by unfold lineB; rw [if_neg (by omega), if_neg (by omega), if_neg (by omega)])
        have HLA := hide (show lineA i (spl 32 l) A = { A with steps := A.steps ++ [stepW (spl 32 l)] } by unfold lineA; rw [if_neg (by omega), if_neg (by omega), if_neg (by omega)])
        have HRi := hide (show refA i A = A by unfold refA; rw [if_neg (by omega)])
        have HRj := hide (show ∀ A', refA (i + 1) A' = A' from fun A' => by unfold refA; rw [if_neg (by omega)])
        have HFB := hide (show stepB (spl 32 l) = (decide ((spl 32 l).length = 3) && okWs (spl 32 l)) from rfl)
        go_wp2_with (fail)
        go_fit (cut32_any l hll wr)
        rintro e w4 ⟨v8, rfl, hst, hb4⟩
        have HSt := hide hst
        obtain ⟨b8, o8, c8, rfl, hc8, hm8, hw8⟩ := strSl_cell hst (List.length_pos_iff.2 (spl_ne 32 l))
        unfold maxLen at hm8
        have HR4 := hide (hRA.out.below hb4)
        have B4 := hB1.out.trans (hb4.mono hRA.out.old)
        have HL8 := hide (show (spl 32 l).length ≤ 100001 by have := spl_len 32 l; omega)
        have HN8 := hide (show 0 < (spl 32 l).length from List.length_pos_iff.2 (spl_ne 32 l))
        clear hst hb4 hB1 hRA dl
        have d0 := hw8 0 HN8.out
        simp only [Nat.add_zero] at d0
        have HUn := hide (undigits_any 0 HSt.out (by have := HL8.out; omega) (by have := HN8.out; omega))
        generalize hTs : spl 32 l = Ts at *
        clear hTs hw8
        go_wp2_with (fail)
        go_fit HUn.out
        rintro e w5 ⟨v1, rfl, hok1, hbad1, hb5⟩
        have B5 := B4.trans (hb5.mono HR4.out.old)
        have HR5 := hide (HR4.out.below hb5)
        have d5 := cell_kept d0 hb5
        have hv1 : ∃ q1 q2 q3, v1 = .slice q1 q2 q3 := by
          cases h : okWs (Ts.drop 0) with
          | false => exact ⟨none, 0, 0, hbad1 h⟩
          | true =>
            rcases (hok1 h).2 with ⟨rfl, _⟩ | ⟨g, cp, cur, rfl, -⟩
            · exact ⟨_, _, _, rfl⟩
            · exact ⟨_, _, _, rfl⟩
        have HOk1 := hide hok1
        have HBd1 := hide hbad1
        have hsz5 : w4.heap.size ≤ w5.heap.size := hb5.size
        have hl8 : 0 < Ts.length := HN8.out
        clear hok1 hbad1 hb5 d0 B4 HUn HSt
        rw [List.drop_zero] at HOk1 HBd1 ⊢
        cases hok : okWs Ts with
        | false =>
          have HE := hide (parsed_err hS (show (zeroA, i + 1) = readT S by rw [HM1.out (by omega), HLB.out, HFB.out, hok, Bool.and_false]; rfl))
          obtain ⟨q1, q2, q3, rfl⟩ := hv1
          generalize Ts.length = L8 at *
          clear hok
          have hres := (B5.block w.heap.size hS0).trans HRes.out
          have BW := HBw.out.trans (B5.mono hSB)
          have hF := fivePut_box hres (.int .i64 0) (.int .i64 0) (.slice none 0 0) (.slice none 0 0) (.slice none 0 0)
          have HBF := hide (fivePut_below BW (Nat.le_refl _) (.int .i64 0) (.int .i64 0) (.slice none 0 0) (.slice none 0 0) (.slice none 0 0))
          have y0 := cell_of_row _ _ 0 _ _ _ hres
          have y1 := cell_of_row _ _ 1 _ _ _ hres
          have y2 := cell_of_row _ _ 2 _ _ _ hres
          have y3 := cell_of_row _ _ 3 _ _ _ hres
          have y4 := cell_of_row _ _ 4 _ _ _ hres
          have z0 := frozen_of_row _ _ 0 _ _ hres
          have z1 := frozen_of_row _ _ 1 _ _ hres
          have z2 := frozen_of_row _ _ 2 _ _ hres
          have z3 := frozen_of_row _ _ 3 _ _ hres
          have z4 := frozen_of_row _ _ 4 _ _ hres
          have f0 := cell_of_row _ _ 0 _ _ _ hF
          have f1 := cell_of_row _ _ 1 _ _ _ hF
          have f2 := cell_of_row _ _ 2 _ _ _ hF
          have f3 := cell_of_row _ _ 3 _ _ _ hF
          have f4 := cell_of_row _ _ 4 _ _ _ hF
          unfold fivePut at f0 f1 f2 f3 f4 HBF
          clear hF
          go_wp2_with (fail)
          refine bodyPost_ret (v := .tuple #[.agg #[.int .i64 0, .int .i64 0, .slice none 0 0, .slice none 0 0, .slice none 0 0], .int .i64 ((i : Int) + 1), .int .i64 1]) (by simp [results, Tryd.results22, go_sem, f0, f1, f2, f3, f4]) rfl ⟨.agg #[.int .i64 0, .int .i64 0, .slice none 0 0, .slice none 0 0, .slice none 0 0], ?_, ?_, HBF.out⟩
          · rw [HE.out.1, HE.out.2.1]; rfl
          · rw [HE.out.2.2]; exact autO_zero _ _
        | true =>
          have ho := owns_lower (HOk1.out hok) HR4.out.old
          by_cases h3w : Ts.length = 3
          · have HLt := hide (show lineB i Ts A = true by rw [HLB.out, HFB.out, hok, decide_eq_true h3w]; rfl)
            have HRdN := hide (show readL (i + 1) (lineA i Ts A) (Ls.drop (i + 1)) = readT S by rw [HM1.out (by omega), HLt.out]; rfl)
            have hmore : i + 1 < n := by omega
            obtain ⟨T0, T1, T2, rfl⟩ := three_words h3w
            have e3 : (valsW [T0, T1, T2]).map (Value.int .i64) = [.int .i64 (stepW [T0, T1, T2]).f, .int .i64 (stepW [T0, T1, T2]).l, .int .i64 (stepW [T0, T1, T2]).t] := rfl
            have hoB := HOk1.out hok
            rw [e3, show (valsW [T0, T1, T2]).length = 3 from rfl] at hoB
            have HRef := hide (show refA (i + 1) (lineA i [T0, T1, T2] A) = { A with steps := A.steps ++ [stepW [T0, T1, T2]] } by rw [HRj.out, HLA.out])
            have hR5 : Hid (RA w5 B B fv gv sv A) := by have := HR5.out; rw [HRi.out] at this; exact hide this
            generalize hTs3 : ([T0, T1, T2] : List (List UInt8)) = Ts at *
            generalize hSt : stepW Ts = stp at *
            clear hSt hTs3 e3 ho h3w hok
            obtain ⟨sf, sl, st⟩ := stp
            dsimp only at *
            obtain ⟨q0, q3, rfl, hrc, hrb, n0, n1, n2⟩ := owns_three hoB
            have q4 := cell_of_row _ _ 4 _ _ _ hR5.out.box
            have HAp := hide hR5.out.apart.2.2
            have HRb := hide (show some q0 ≠ sv.ownBlock from fun e => by have := (HR4.out.s.lt q0 e.symm).2; omega)
            generalize Ts.length = L8 at *
            clear hoB hv1
            go_wp2_with (fail)
            rename_i Q' K hK
            refine wp_region_put 15 12 13 _ [(0, 76), (1, 77), (2, 78), (3, 79), (4, 80), (5, 81), (6, 82), (7, 83), (8, 84), (9, 85), (10, 86), (11, 87), (12, 88), (13, 89), (14, 90)] (fun j v => match j with | 0 => v = .pointer (some ⟨B, 4, none⟩) | 1 => v = sv | 2 => v = .slice (some ⟨q0, 0, none⟩) 3 q3 | 3 => v = .pointer (some ⟨q0, 0, none⟩) | 4 => v = .int .i64 sf | 5 => v = .slice (some ⟨q0, 0, none⟩) 3 q3 | 6 => v = .pointer (some ⟨q0, 1, none⟩) | 7 => v = .int .i64 sl | 8 => v = .slice (some ⟨q0, 0, none⟩) 3 q3 | 9 => v = .pointer (some ⟨q0, 2, none⟩) | 10 => v = .int .i64 st | 11 => v = .agg #[.int .i64 sf, .int .i64 sl, .int .i64 st] | 12 => True | 13 => True | 14 => v = .pointer (some ⟨B, 4, none⟩) | _ => True) [.int .i64 sf, .int .i64 sl, .int .i64 st] elStep hR5.out.old hR5.out.s (by have := hah.out.2.2; omega) rfl (by intro u hu; simp at hu; (try (rcases hu with rfl | rfl | rfl <;> rfl)); (try (subst hu; rfl))) (by kernel_rfl) (by kernel_rfl) (by kernel_rfl) (by kernel_rfl) (by kernel_rfl) rfl (by decide) (by decide) (.cells #[.int .i64 sf, .int .i64 sl, .int .i64 st] 81) 1 (el_new #[.int .i64 sf, .int .i64 sl, .int .i64 st] 81) rfl rfl ?_ _ rfl (.tmp 77) (.tmp 88) rfl ?_ ?_ rfl rfl sizeSteps hR5.out.box HAp.out (by decide : 4 < 5) ?_ (fun vs => by simp [putPairs]) ?_
            · intro o ho a W vs he hd
              obtain rfl := Option.some.inj ho
              clear ho
              have v11 : a.tmps[87]?.getD undef = .agg #[.int .i64 sf, .int .i64 sl, .int .i64 st] := (dep_val hd 11 87 (by kernel_rfl) (by kernel_rfl)).1
              simp [execOp, go_sem, v11]
            · intro a W vs hd
              have v1 : a.tmps[77]?.getD undef = sv := (dep_val hd 1 77 (by kernel_rfl) (by kernel_rfl)).1
              exact ⟨(eval_tmp a 77).trans v1, by rw [eval_tmp]; exact (dep_val hd 12 88 (by kernel_rfl) (by kernel_rfl)).2.1 rfl⟩
            · intro j o hj hjB hjX ho a W vs hV he hd
              match j, hj, hjB, hjX, ho with
              | 0, hj, hjB, hjX, ho =>
                obtain rfl := Option.some.inj ho
                clear ho
                have e6 : a.tmps[6]?.getD undef = .pointer (some ⟨B, 0, none⟩) := free_val he 6 (by kernel_rfl)
                exact ⟨.pointer (some ⟨B, 4, none⟩), by simp [execOp, go_sem, e6], rfl⟩
              | 1, hj, hjB, hjX, ho =>
                obtain rfl := Option.some.inj ho
                clear ho
                have v0 : a.tmps[76]?.getD undef = .pointer (some ⟨B, 4, none⟩) := (dep_val hd 0 76 (by kernel_rfl) (by kernel_rfl)).1
                have c0 := hV.cell q4 HAp.out
                exact ⟨sv, by simp [execOp, go_sem, v0, c0], rfl⟩
              | 2, hj, hjB, hjX, ho =>
                obtain rfl := Option.some.inj ho
                clear ho
                have e19 : a.tmps[19]?.getD undef = .slice (some ⟨q0, 0, none⟩) 3 q3 := free_val he 19 (by kernel_rfl)
                exact ⟨.slice (some ⟨q0, 0, none⟩) 3 q3, by simp [execOp, go_sem, e19], rfl⟩
              | 3, hj, hjB, hjX, ho =>
                obtain rfl := Option.some.inj ho
                clear ho
                have v2 : a.tmps[78]?.getD undef = .slice (some ⟨q0, 0, none⟩) 3 q3 := (dep_val hd 2 78 (by kernel_rfl) (by kernel_rfl)).1
                exact ⟨.pointer (some ⟨q0, 0, none⟩), by simp [execOp, go_sem, v2], rfl⟩
              | 4, hj, hjB, hjX, ho =>
                obtain rfl := Option.some.inj ho
                clear ho
                have v3 : a.tmps[79]?.getD undef = .pointer (some ⟨q0, 0, none⟩) := (dep_val hd 3 79 (by kernel_rfl) (by kernel_rfl)).1
                have c0 := hV.cell n0 HRb.out
                exact ⟨.int .i64 sf, by simp [execOp, go_sem, v3, c0], rfl⟩
              | 5, hj, hjB, hjX, ho =>
                obtain rfl := Option.some.inj ho
                clear ho
                have e19 : a.tmps[19]?.getD undef = .slice (some ⟨q0, 0, none⟩) 3 q3 := free_val he 19 (by kernel_rfl)
                exact ⟨.slice (some ⟨q0, 0, none⟩) 3 q3, by simp [execOp, go_sem, e19], rfl⟩
              | 6, hj, hjB, hjX, ho =>
                obtain rfl := Option.some.inj ho
                clear ho
                have v5 : a.tmps[81]?.getD undef = .slice (some ⟨q0, 0, none⟩) 3 q3 := (dep_val hd 5 81 (by kernel_rfl) (by kernel_rfl)).1
                exact ⟨.pointer (some ⟨q0, 1, none⟩), by simp [execOp, go_sem, v5], rfl⟩
              | 7, hj, hjB, hjX, ho =>
                obtain rfl := Option.some.inj ho
                clear ho
                have v6 : a.tmps[82]?.getD undef = .pointer (some ⟨q0, 1, none⟩) := (dep_val hd 6 82 (by kernel_rfl) (by kernel_rfl)).1
                have c0 := hV.cell n1 HRb.out
                exact ⟨.int .i64 sl, by simp [execOp, go_sem, v6, c0], rfl⟩
              | 8, hj, hjB, hjX, ho =>
                obtain rfl := Option.some.inj ho
                clear ho
                have e19 : a.tmps[19]?.getD undef = .slice (some ⟨q0, 0, none⟩) 3 q3 := free_val he 19 (by kernel_rfl)
                exact ⟨.slice (some ⟨q0, 0, none⟩) 3 q3, by simp [execOp, go_sem, e19], rfl⟩
              | 9, hj, hjB, hjX, ho =>
                obtain rfl := Option.some.inj ho
                clear ho
                have v8 : a.tmps[84]?.getD undef = .slice (some ⟨q0, 0, none⟩) 3 q3 := (dep_val hd 8 84 (by kernel_rfl) (by kernel_rfl)).1
                exact ⟨.pointer (some ⟨q0, 2, none⟩), by simp [execOp, go_sem, v8], rfl⟩
              | 10, hj, hjB, hjX, ho =>
                obtain rfl := Option.some.inj ho
                clear ho
                have v9 : a.tmps[85]?.getD undef = .pointer (some ⟨q0, 2, none⟩) := (dep_val hd 9 85 (by kernel_rfl) (by kernel_rfl)).1
                have c0 := hV.cell n2 HRb.out
                exact ⟨.int .i64 st, by simp [execOp, go_sem, v9, c0], rfl⟩
              | 11, hj, hjB, hjX, ho =>
                obtain rfl := Option.some.inj ho
                clear ho
                have v4 : a.tmps[80]?.getD undef = .int .i64 sf := (dep_val hd 4 80 (by kernel_rfl) (by kernel_rfl)).1
                have v7 : a.tmps[83]?.getD undef = .int .i64 sl := (dep_val hd 7 83 (by kernel_rfl) (by kernel_rfl)).1
                have v10 : a.tmps[86]?.getD undef = .int .i64 st := (dep_val hd 10 86 (by kernel_rfl) (by kernel_rfl)).1
                exact ⟨.agg #[.int .i64 sf, .int .i64 sl, .int .i64 st], by simp [execOp, go_sem, v4, v7, v10], rfl⟩
              | 12, hj, hjB, hjX, ho =>
                exact absurd rfl hjB
              | 13, hj, hjB, hjX, ho =>
                exact absurd rfl hjX
              | 14, hj, hjB, hjX, ho =>
                obtain rfl := Option.some.inj ho
                clear ho
                have e6 : a.tmps[6]?.getD undef = .pointer (some ⟨B, 0, none⟩) := free_val he 6 (by kernel_rfl)
                exact ⟨.pointer (some ⟨B, 4, none⟩), by simp [execOp, go_sem, e6], rfl⟩
              | j + 15, hj, hjB, hjX, ho => exact absurd hj (by omega)
            · intro vs hRp
              have hva : vs 14 = .pointer (some ⟨B, 4, none⟩) := hRp 14 (by decide)
              simp [putPairs, hva]
            · intro vs W g9 c9 hV hRp hrow hwh
              refine hK _ _ ?_
              have HRn := hide (hR5.out.appStep (z := ⟨sf, sl, st⟩) hV hrow)
              have HBn := hide (below_set (B5.trans hV.below) (Nat.le_refl B) 4 (.slice (some ⟨g9, 0, none⟩) (A.steps.length + 1) c9))
              clear hrow hV hRp
              simp only [putPairs]
              go_wp2_with (fail)
              go_roundw
              case rel => exact ⟨i + 1, lineA i Ts A, _, _, _, by go_num, hmore, HRdN, hide (by rw [HRef.out]; exact HRn.out), HBn, hide (hah.out.next HLt.out), hide (fun h => (by omega))⟩
              case measure => simp [intOf]; omega
          · have HE := hide (parsed_err hS (show (zeroA, i + 1) = readT S by rw [HM1.out (by omega), HLB.out, HFB.out, decide_eq_false h3w]; rfl))
            have hlv : (valsW Ts).length = Ts.length := by unfold valsW; rw [List.length_map]
            rw [hlv] at ho
            obtain ⟨q1, q3, rfl, -⟩ := intSl_of_owns ho
            rw [hlv] at *
            generalize Ts.length = L8 at *
            have hl3 : ((L8 : Int) == 3) = false := by rw [beq_eq_false_iff_ne]; omega
            clear ho h3w hok hlv hv1
            have hres := (B5.block w.heap.size hS0).trans HRes.out
            have BW := HBw.out.trans (B5.mono hSB)
            have hF := fivePut_box hres (.int .i64 0) (.int .i64 0) (.slice none 0 0) (.slice none 0 0) (.slice none 0 0)
            have HBF := hide (fivePut_below BW (Nat.le_refl _) (.int .i64 0) (.int .i64 0) (.slice none 0 0) (.slice none 0 0) (.slice none 0 0))
            have y0 := cell_of_row _ _ 0 _ _ _ hres
            have y1 := cell_of_row _ _ 1 _ _ _ hres
            have y2 := cell_of_row _ _ 2 _ _ _ hres
            have y3 := cell_of_row _ _ 3 _ _ _ hres
            have y4 := cell_of_row _ _ 4 _ _ _ hres
            have z0 := frozen_of_row _ _ 0 _ _ hres
            have z1 := frozen_of_row _ _ 1 _ _ hres
            have z2 := frozen_of_row _ _ 2 _ _ hres
            have z3 := frozen_of_row _ _ 3 _ _ hres
            have z4 := frozen_of_row _ _ 4 _ _ hres
            have f0 := cell_of_row _ _ 0 _ _ _ hF
            have f1 := cell_of_row _ _ 1 _ _ _ hF
            have f2 := cell_of_row _ _ 2 _ _ _ hF
            have f3 := cell_of_row _ _ 3 _ _ _ hF
            have f4 := cell_of_row _ _ 4 _ _ _ hF
            unfold fivePut at f0 f1 f2 f3 f4 HBF
            clear hF
            go_wp2_with (fail)
            refine bodyPost_ret (v := .tuple #[.agg #[.int .i64 0, .int .i64 0, .slice none 0 0, .slice none 0 0, .slice none 0 0], .int .i64 ((i : Int) + 1), .int .i64 1]) (by simp [results, Tryd.results22, go_sem, f0, f1, f2, f3, f4]) rfl ⟨.agg #[.int .i64 0, .int .i64 0, .slice none 0 0, .slice none 0 0, .slice none 0 0], ?_, ?_, HBF.out⟩
            · rw [HE.out.1, HE.out.2.1]; rfl
            · rw [HE.out.2.2]; exact autO_zero _ _
end Go.Proofs.YtpiacnnifdjlkaaDoor
