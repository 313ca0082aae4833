/-
  What a formula and a lasso among the arguments read as.
-/
import Derived.Test.YtpiacnnifdjlkaaDoorGa
import Derived.Test.YtpiacnnifdjlkaaDoorEo
import Derived.WalkKit
import Derived.ProofKit
import Derived.OpenShut
import Derived.Carry
import Derived.Deep.DeepHandedRow
import Derived.Lib.SmallJoins
import Derived.Deep.Grids
import Derived.Deep.Strs
/-
  HoldsHangs answers true.
-/
namespace Go.Proofs.YtpiacnnifdjlkaaDoor
open Go.RowKit Go.Sort

set_option maxRecDepth 100000 in
set_option maxHeartbeats 8000000 in
theorem holdsHangs_any {w : World} {fv hv lv : Value} {F : List Nd} {hs ls : List Int} (hF : NodeSl w fv F) (hh : IntSl w hv hs) (hl : IntSl w lv ls) (ht : Lib.TabBelow Tryd.prog w.heap.size w "internal/strconv.uint64pow10" .u64 Lib.pow10Tab) :
    Calls Tryd.prog 12 #[fv, .agg #[hv, lv]] w fun e w' => e = .returned (.bool true) ∧ Below w.heap.size w w' := by
  have HTb : Hid (∀ W, Below w.heap.size w W → Calls Tryd.prog 45 #[fv, .agg #[hv, lv]] W fun e w' => ∃ v, e = .returned (.tuple #[v, .int .i64 (chkT F hs ls)]) ∧ (chkT F hs ls = 0 → GridSl w' v (tabF F hs ls)) ∧ (chkT F hs ls ≠ 0 → v = .slice none 0 0) ∧ Below W.heap.size W w') := hide fun W hb => table_any (hF.below hb) (hh.below hb) (hl.below hb)
  have HHo : Hid (∀ W v G, Below w.heap.size w W → NodeSl W v G → Calls Tryd.prog 46 #[v, .agg #[hv, lv]] W fun e w' => e = .returned (.tuple #[.bool (if chkT G hs ls = 0 then ((tabF G hs ls).getD (G.length - 1) []).getD 0 false else false), .int .i64 (chkT G hs ls)]) ∧ Below W.heap.size W w') := hide fun W v G hb hG => holds_any hG (hh.below hb) (hl.below hb)
  have HNg : Hid (∀ W, Below w.heap.size w W → Calls Tryd.prog 35 #[fv] W fun e w' => ∃ v, e = .returned (.tuple #[v, .int .i64 (chkNeg F)]) ∧ (chkNeg F = 0 → NodeSl w' v (negF F)) ∧ (chkNeg F ≠ 0 → v = .slice none 0 0) ∧ Below W.heap.size W w') := hide fun W hb => negate_any (hF.below hb)
  have HFB : Hid (∀ W, Below w.heap.size w W → Calls Tryd.prog 39 #[] W fun e w' => e = .returned (.bool true) ∧ Below W.heap.size W w') := hide fun W hb => formulaBegun_any (tab_below ht hb)
  have HF := hide hF
  obtain ⟨a, c, rfl, hm, -⟩ := hF
  obtain ⟨a0, c0, rfl, -⟩ := hh
  obtain ⟨a1, c1, rfl, -⟩ := hl
  unfold maxLen at hm
  by_cases hq : chkT F hs ls = 0
  · rw [hq] at HTb
    have hq1 : chkF F = 0 := by
      unfold chkT at hq
      by_cases h : chkF F = 0
      · exact h
      · rw [if_neg h] at hq; exact hq
    have hq2 : chk hs ls 8 = 0 := by
      unfold chkT at hq
      rwa [if_pos hq1] at hq
    obtain ⟨hM0, hM12, hall⟩ := chkF_ok hq1
    obtain ⟨k1, k2, k3, -⟩ := chk_ok hq2
    have HALL := hide hall
    have HQ := hide hq
    have HQ2 := hide hq2
    have HQ1 := hide hq1
    have hlen : ∀ j, j < (tabF F hs ls).length → ((tabF F hs ls).getD j []).length = hs.length + ls.length := fun j hj => by
      rw [tabF_len] at hj
      exact tab_len F _ _ _ j hj
    have HLEN := hide hlen
    have HTL := hide (tabF_len F hs ls)
    clear hq hq1 hq2 hall hlen ht
    go_enter Tryd.func12, Tryd.ntmps12
    go_wp2_with (fail)
    refine (holdsBegun_any _).mono ?_
    rintro e w1 ⟨rfl, hb1⟩
    have hB1 := below_trans (below_new w (Obj.cells #[.slice a0 hs.length c0, .slice a1 ls.length c1] 44)) hb1
    have j0 : w1.cell? ⟨w.heap.size, 0, none⟩ = some (.slice a0 hs.length c0) := cell_keep (by simp) hb1
    have j1 : w1.cell? ⟨w.heap.size, 1, none⟩ = some (.slice a1 ls.length c1) := cell_keep (by simp) hb1
    clear hb1
    go_wp2_with (fail)
    refine (HFB.out _ hB1).mono ?_
    rintro e w2 ⟨rfl, hb2⟩
    have hB2 := below_trans hB1 hb2
    have j0 := cell_keep j0 hb2
    have j1 := cell_keep j1 hb2
    clear hb2 hB1 HFB
    go_wp2_with (fail)
    refine (HTb.out _ hB2).mono ?_
    rintro e w3 ⟨tv, rfl, hg3, -, hb3⟩
    have hg3 := hg3 (by first | rfl | trivial)
    have hB3 := below_trans hB2 hb3
    have j0 := cell_keep j0 hb3
    have j1 := cell_keep j1 hb3
    obtain ⟨R, tc, htv, hrows⟩ := hg3.rows (N := hs.length + ls.length) (by rw [HTL.out]; omega) (by omega) HLEN.out
    rw [HTL.out] at htv hrows
    subst htv
    have HR := hide hrows
    have HB3 := hide hB3
    clear hg3 hb3 HTb hrows hB2 hB3
    have hMM : ((F.length : Int) != F.length) = false := by simp
    go_wp2_with (fail)
    have eN : (hs.length : Int) + (ls.length : Int) = ((hs.length + ls.length : Nat) : Int) := by omega
    rw [eN]
    clear eN
    generalize hN : hs.length + ls.length = N at *
    have HN := hide hN
    clear hN
    have hHN : hs.length < N := by have := HN.out; omega
    have hN8 : N ≤ 8000 := by have := HN.out; omega
    have hN0 : 0 < N := by omega
    have HV : Hid (∀ j p, j < F.length → p < N → ((tabF F hs ls).getD j []).getD p false = vF F hs.length ls.length (fun i => (hs ++ ls).getD i 0) j p) := hide fun j p hj hp => tab_vF F _ _ _ F.length j p hj (by rw [HN.out]; exact hp)
    have HX : Hid (∀ j p, j < F.length → p < N → vF F hs.length ls.length (fun i => (hs ++ ls).getD i 0) j p = ruleV (vF F hs.length ls.length (fun i => (hs ++ ls).getD i 0) (F.getD j nd0).a.toNat) (vF F hs.length ls.length (fun i => (hs ++ ls).getD i 0) (F.getD j nd0).b.toNat) hs.length ls.length (fun i => (hs ++ ls).getD i 0) (F.getD j nd0) p (vF F hs.length ls.length (fun i => (hs ++ ls).getD i 0) j (nxp hs.length ls.length p))) := hide fun j p hj hp => vF_next HALL.out k3 hj (by rw [HN.out]; exact hp)
    have HE0 := hide (show vF (negF F) hs.length ls.length (fun i => (hs ++ ls).getD i 0) ((negF F).length - 1) 0 = !(vF F hs.length ls.length (fun i => (hs ++ ls).getD i 0) (F.length - 1) 0) from neg_holds HALL.out hM0 k3 0 (by omega))
    have HNX : Hid (∀ p, nxp hs.length ls.length p = if p + 1 = N then hs.length else p + 1) := hide fun p => by unfold nxp; rw [HN.out]
    have HH1 : Hid (∀ W, Below w.heap.size w W → Calls Tryd.prog 46 #[.slice a F.length c, .agg #[.slice a0 hs.length c0, .slice a1 ls.length c1]] W fun e w' => e = .returned (.tuple #[.bool (vF F hs.length ls.length (fun i => (hs ++ ls).getD i 0) (F.length - 1) 0), .int .i64 0]) ∧ Below W.heap.size W w') := hide fun W hb => by
      have := HHo.out W _ F hb (HF.out.below hb)
      rw [HQ.out, if_pos rfl, HV.out (F.length - 1) 0 (by omega) hN0] at this
      exact this
    have HH2 : Hid (chkNeg F = 0 → ∀ W v, Below w.heap.size w W → NodeSl W v (negF F) → Calls Tryd.prog 46 #[v, .agg #[.slice a0 hs.length c0, .slice a1 ls.length c1]] W fun e w' => e = .returned (.tuple #[.bool (!(vF F hs.length ls.length (fun i => (hs ++ ls).getD i 0) (F.length - 1) 0)), .int .i64 0]) ∧ Below W.heap.size W w') := hide fun hn W v hb hv => by
      have hcn : chkF (negF F) = 0 := by
        unfold chkNeg at hn
        rwa [if_pos HQ1.out] at hn
      have hct : chkT (negF F) hs ls = 0 := by unfold chkT; rw [if_pos hcn]; exact HQ2.out
      have := HHo.out W v (negF F) hb hv
      rw [hct, if_pos rfl] at this
      have h0 := (chkF_ok hcn).1
      have e1 := tab_vF (negF F) hs.length ls.length (fun i => (hs ++ ls).getD i 0) (negF F).length ((negF F).length - 1) 0 (by omega) (by omega)
      have e2 : ((tabF (negF F) hs ls).getD ((negF F).length - 1) []).getD 0 false = !(vF F hs.length ls.length (fun i => (hs ++ ls).getD i 0) (F.length - 1) 0) := e1.trans HE0.out
      rw [e2] at this
      exact this
    generalize vF F hs.length ls.length (fun i => (hs ++ ls).getD i 0) = V at *
    have HJ := hide (And.intro j0 j1)
    go_loopw [8] (fun iv wr => ∃ i : Nat, i ≤ F.length ∧ iv = .int .i64 i ∧ Hid (Below w3.heap.size w3 wr)) (fun iv _ => F.length - (intOf iv).toNat)
    case atStart => exact ⟨0, Nat.zero_le _, rfl, hide (Below.refl _ _)⟩
    case round =>
      obtain ⟨i, hi, rfl, hbr⟩ := hrel
      clear j0 j1
      by_cases hlt : i < F.length
      · have hFr := HF.out.below (below_trans HB3.out hbr.out)
        obtain ⟨fa, fc, hfv, -, hfc, -⟩ := hFr
        rcases hfc with hfc | ⟨fb, fo, he, hfc⟩
        · rw [hfc] at hlt; simp at hlt
        injection hfv with e1 e2 e3
        subst e1
        subst he
        obtain ⟨d0, d1, d2, d3⟩ := hfc i hlt
        obtain ⟨hkk, ⟨xa0, xa1, -⟩, ⟨xb0, xb1, -⟩, -⟩ := node_ok (HALL.out i hlt)
        have HXi := hide (fun p => HX.out i p hlt)
        generalize F.getD i nd0 = x at *
        obtain ⟨k, xa, xb, xn⟩ := x
        dsimp only at *
        clear hfc e2 e3
        go_wp2_with (fail)
        obtain ⟨wq, hwq⟩ : ∃ wq, wq = wr.alloc (Obj.cells #[.int .i64 k, .int .i64 xa, .int .i64 xb, .int .i64 xn] 74) := ⟨_, rfl⟩
        rw [← hwq]
        have hbq : Below w3.heap.size w3 wq := by rw [hwq]; exact below_trans hbr.out (below_new _ _)
        have hxq : wq.heap[wr.heap.size]? = some (Obj.cells #[.int .i64 k, .int .i64 xa, .int .i64 xb, .int .i64 xn] 74) := by rw [hwq]; exact heap_alloc_new _ _
        have n0 := cell_of_row _ _ 0 _ _ _ hxq
        have n1 := cell_of_row _ _ 1 _ _ _ hxq
        have n2 := cell_of_row _ _ 2 _ _ _ hxq
        have j0 := cell_keep HJ.out.1 hbq
        have HRq : Hid (∀ j, j < F.length → ∃ b o c', wq.cell? ⟨R, j, none⟩ = some (.slice (some ⟨b, o, none⟩) N c') ∧ ∀ p, p < N → wq.cell? ⟨b, o + p, none⟩ = some (.bool (V j p))) := hide fun j hj => by
          obtain ⟨b, o, c', h1, h2⟩ := HR.out j hj
          refine ⟨b, o, c', cell_keep h1 hbq, fun p hp => ?_⟩
          rw [← HV.out j p hj hp]
          exact cell_keep (h2 p hp) hbq
        obtain ⟨ba, oa, ca, hra, qra⟩ : ∃ b o c', (3 ≤ k → wq.cell? ⟨R, xa.toNat, none⟩ = some (.slice (some ⟨b, o, none⟩) N c')) ∧ (3 ≤ k → ∀ p, p < N → wq.cell? ⟨b, o + p, none⟩ = some (.bool (V xa.toNat p))) := by
          by_cases h3 : 3 ≤ k
          · have := xa1 h3
            obtain ⟨b, o, c', h1, h2⟩ := HRq.out xa.toNat (by omega)
            exact ⟨b, o, c', fun _ => h1, fun _ => h2⟩
          · exact ⟨0, 0, 0, fun h => absurd h h3, fun h => absurd h h3⟩
        obtain ⟨bb, ob, cb, hrb, qrb⟩ : ∃ b o c', ((k = 4 ∨ k = 5 ∨ k = 7 ∨ k = 8) → wq.cell? ⟨R, xb.toNat, none⟩ = some (.slice (some ⟨b, o, none⟩) N c')) ∧ ((k = 4 ∨ k = 5 ∨ k = 7 ∨ k = 8) → ∀ p, p < N → wq.cell? ⟨b, o + p, none⟩ = some (.bool (V xb.toNat p))) := by
          by_cases h3 : k = 4 ∨ k = 5 ∨ k = 7 ∨ k = 8
          · have := xb1 h3
            obtain ⟨b, o, c', h1, h2⟩ := HRq.out xb.toNat (by omega)
            exact ⟨b, o, c', fun _ => h1, fun _ => h2⟩
          · exact ⟨0, 0, 0, fun h => absurd h h3, fun h => absurd h h3⟩
        have HBQ := hide hbq
        clear hwq hbq hxq d0 d1 d2 d3 hbr
        go_loopw [10] (fun av wv => ∃ p : Nat, p ≤ N ∧ av = .int .i64 p ∧ wv = wq) (fun av _ => N - (intOf av).toNat)
        case atStart => exact ⟨0, Nat.zero_le _, rfl, rfl⟩
        case round =>
          obtain ⟨p, hp, rfl, rfl⟩ := hrel
          by_cases hplt : p < N
          · obtain ⟨bi, oi, ci, ri, qi⟩ := HRq.out i hlt
            have hx0 := HXi.out p hplt
            clear HXi
            by_cases hw : p + 1 = N
            · have hwe : ((p : Int) + 1 == (N : Int)) = true := by rw [beq_iff_eq]; omega
              have hnx : nxp hs.length ls.length p = hs.length := by rw [HNX.out p, if_pos hw]
              rw [hnx] at hx0
              have hqN : hs.length < N := hHN
              have qp := qi p hplt
              have qq := qi (hs.length) hqN
              clear qi HRq HX HH1 HH2 HE0 HNX HV HR HJ HHo HNg HQ HQ2 HTL HLEN HB3 HF HALL HQ1
              by_cases h6 : k = 6
              · subst h6
                have hx : V i p = V xa.toNat (hs.length) := by rw [hx0]; simp [ruleV, hnx]
                have hxl : xa < (F.length : Int) := by have := xa1 (by omega); omega
                have qa := qra (by omega) (hs.length) hqN
                have ra := hra (by omega)
                rw [← hx] at qa
                clear qq qra qrb hra hrb xa1 xb1 hx hx0 hnx
                generalize V i p = y at *
                cases y
                all_goals
                  go_wp2_with (fail)
                  go_roundw
                  case rel => exact ⟨p + 1, by omega, by go_num, (by first | rfl | trivial)⟩
                  case measure => simp [intOf]; omega
              by_cases h7 : k = 7
              · subst h7
                have hxl : xa < (F.length : Int) := by have := xa1 (by omega); omega
                have hxm : xb < (F.length : Int) := by have := xb1 (by omega); omega
                have qa := qra (by omega) p hplt
                have ra := hra (by omega)
                have rb := hrb (by omega)
                have qb := qrb (by omega) p hplt
                have hx : V i p = (V xb.toNat p || V xa.toNat p && V i (hs.length)) := by rw [hx0]; simp [ruleV]
                generalize V i (hs.length) = zq at *
                generalize V xa.toNat p = za at *
                generalize V xb.toNat p = zb at *
                rw [hx] at qp
                clear hx hx0 qra qrb hra hrb xa1 xb1 hnx
                cases zb
                · cases za
                  · change _ = some (Value.bool false) at qp
                    go_wp2_with (fail)
                    go_roundw
                    case rel => exact ⟨p + 1, by omega, by go_num, (by first | rfl | trivial)⟩
                    case measure => simp [intOf]; omega
                  · change _ = some (Value.bool zq) at qp
                    cases zq
                    all_goals
                      go_wp2_with (fail)
                      go_roundw
                      case rel => exact ⟨p + 1, by omega, by go_num, (by first | rfl | trivial)⟩
                      case measure => simp [intOf]; omega
                · clear qa
                  change _ = some (Value.bool true) at qp
                  go_wp2_with (fail)
                  go_roundw
                  case rel => exact ⟨p + 1, by omega, by go_num, (by first | rfl | trivial)⟩
                  case measure => simp [intOf]; omega
              by_cases h8 : k = 8
              · subst h8
                have hxl : xa < (F.length : Int) := by have := xa1 (by omega); omega
                have hxm : xb < (F.length : Int) := by have := xb1 (by omega); omega
                have qa := qra (by omega) p hplt
                have ra := hra (by omega)
                have rb := hrb (by omega)
                have qb := qrb (by omega) p hplt
                have hx : V i p = (V xb.toNat p && (V xa.toNat p || V i (hs.length))) := by rw [hx0]; simp [ruleV]
                generalize V i (hs.length) = zq at *
                generalize V xa.toNat p = za at *
                generalize V xb.toNat p = zb at *
                rw [hx] at qp
                clear hx hx0 qra qrb hra hrb xa1 xb1 hnx
                cases zb
                · clear qa
                  change _ = some (Value.bool false) at qp
                  go_wp2_with (fail)
                  go_roundw
                  case rel => exact ⟨p + 1, by omega, by go_num, (by first | rfl | trivial)⟩
                  case measure => simp [intOf]; omega
                · cases za
                  · change _ = some (Value.bool zq) at qp
                    cases zq
                    all_goals
                      go_wp2_with (fail)
                      go_roundw
                      case rel => exact ⟨p + 1, by omega, by go_num, (by first | rfl | trivial)⟩
                      case measure => simp [intOf]; omega
                  · change _ = some (Value.bool true) at qp
                    go_wp2_with (fail)
                    go_roundw
                    case rel => exact ⟨p + 1, by omega, by go_num, (by first | rfl | trivial)⟩
                    case measure => simp [intOf]; omega
              have b6 : (k == 6) = false := by simpa using h6
              have b7 : (k == 7) = false := by simpa using h7
              have b8 : (k == 8) = false := by simpa using h8
              clear qq hx0 qra qrb hra hrb xa1 xb1 hnx
              generalize V i p = y at *
              cases y
              all_goals
                go_wp2_with (fail)
                go_roundw
                case rel => exact ⟨p + 1, by omega, by go_num, (by first | rfl | trivial)⟩
                case measure => simp [intOf]; omega
            · have hwe : ((p : Int) + 1 == (N : Int)) = false := by rw [beq_eq_false_iff_ne]; omega
              have hnx : nxp hs.length ls.length p = p + 1 := by rw [HNX.out p, if_neg hw]
              rw [hnx] at hx0
              have hqN : p + 1 < N := by omega
              have hq1 : (p : Int) + 1 < (N : Int) := by omega
              have hq2 : ((p : Int) + 1).toNat = p + 1 := by omega
              have qp := qi p hplt
              have qq := qi (p + 1) hqN
              clear qi HRq HX HH1 HH2 HE0 HNX HV HR HJ HHo HNg HQ HQ2 HTL HLEN HB3 HF HALL HQ1
              by_cases h6 : k = 6
              · subst h6
                have hx : V i p = V xa.toNat (p + 1) := by rw [hx0]; simp [ruleV, hnx]
                have hxl : xa < (F.length : Int) := by have := xa1 (by omega); omega
                have qa := qra (by omega) (p + 1) hqN
                have ra := hra (by omega)
                rw [← hx] at qa
                clear qq qra qrb hra hrb xa1 xb1 hx hx0 hnx
                generalize V i p = y at *
                cases y
                all_goals
                  go_wp2_with (fail)
                  go_roundw
                  case rel => exact ⟨p + 1, by omega, by go_num, (by first | rfl | trivial)⟩
                  case measure => simp [intOf]; omega
              by_cases h7 : k = 7
              · subst h7
                have hxl : xa < (F.length : Int) := by have := xa1 (by omega); omega
                have hxm : xb < (F.length : Int) := by have := xb1 (by omega); omega
                have qa := qra (by omega) p hplt
                have ra := hra (by omega)
                have rb := hrb (by omega)
                have qb := qrb (by omega) p hplt
                have hx : V i p = (V xb.toNat p || V xa.toNat p && V i (p + 1)) := by rw [hx0]; simp [ruleV]
                generalize V i (p + 1) = zq at *
                generalize V xa.toNat p = za at *
                generalize V xb.toNat p = zb at *
                rw [hx] at qp
                clear hx hx0 qra qrb hra hrb xa1 xb1 hnx
                cases zb
                · cases za
                  · change _ = some (Value.bool false) at qp
                    go_wp2_with (fail)
                    go_roundw
                    case rel => exact ⟨p + 1, by omega, by go_num, (by first | rfl | trivial)⟩
                    case measure => simp [intOf]; omega
                  · change _ = some (Value.bool zq) at qp
                    cases zq
                    all_goals
                      go_wp2_with (fail)
                      go_roundw
                      case rel => exact ⟨p + 1, by omega, by go_num, (by first | rfl | trivial)⟩
                      case measure => simp [intOf]; omega
                · clear qa
                  change _ = some (Value.bool true) at qp
                  go_wp2_with (fail)
                  go_roundw
                  case rel => exact ⟨p + 1, by omega, by go_num, (by first | rfl | trivial)⟩
                  case measure => simp [intOf]; omega
              by_cases h8 : k = 8
              · subst h8
                have hxl : xa < (F.length : Int) := by have := xa1 (by omega); omega
                have hxm : xb < (F.length : Int) := by have := xb1 (by omega); omega
                have qa := qra (by omega) p hplt
                have ra := hra (by omega)
                have rb := hrb (by omega)
                have qb := qrb (by omega) p hplt
                have hx : V i p = (V xb.toNat p && (V xa.toNat p || V i (p + 1))) := by rw [hx0]; simp [ruleV]
                generalize V i (p + 1) = zq at *
                generalize V xa.toNat p = za at *
                generalize V xb.toNat p = zb at *
                rw [hx] at qp
                clear hx hx0 qra qrb hra hrb xa1 xb1 hnx
                cases zb
                · clear qa
                  change _ = some (Value.bool false) at qp
                  go_wp2_with (fail)
                  go_roundw
                  case rel => exact ⟨p + 1, by omega, by go_num, (by first | rfl | trivial)⟩
                  case measure => simp [intOf]; omega
                · cases za
                  · change _ = some (Value.bool zq) at qp
                    cases zq
                    all_goals
                      go_wp2_with (fail)
                      go_roundw
                      case rel => exact ⟨p + 1, by omega, by go_num, (by first | rfl | trivial)⟩
                      case measure => simp [intOf]; omega
                  · change _ = some (Value.bool true) at qp
                    go_wp2_with (fail)
                    go_roundw
                    case rel => exact ⟨p + 1, by omega, by go_num, (by first | rfl | trivial)⟩
                    case measure => simp [intOf]; omega
              have b6 : (k == 6) = false := by simpa using h6
              have b7 : (k == 7) = false := by simpa using h7
              have b8 : (k == 8) = false := by simpa using h8
              clear qq hx0 qra qrb hra hrb xa1 xb1 hnx
              generalize V i p = y at *
              cases y
              all_goals
                go_wp2_with (fail)
                go_roundw
                case rel => exact ⟨p + 1, by omega, by go_num, (by first | rfl | trivial)⟩
                case measure => simp [intOf]; omega
          · go_wp2_with (fail)
            go_roundw
            case rel => exact ⟨i + 1, by omega, by go_num, HBQ⟩
            case measure => simp [intOf]; omega
      · have hge : ¬ ((i : Int) < (F.length : Int)) := by omega
        have hBr := below_trans HB3.out hbr.out
        have j0 := cell_keep HJ.out.1 hbr.out
        have j1 := cell_keep HJ.out.2 hbr.out
        clear hbr HX HE0 HNX HV HR HB3 HHo HTL HLEN HQ HQ1 HQ2 HALL HJ
        go_wp2_with (fail)
        refine (HNg.out _ hBr).mono ?_
        rintro e w5 ⟨v5, rfl, hn5, hn5', hb5⟩
        have hB5 := below_trans hBr hb5
        have j0 := cell_keep j0 hb5
        have j1 := cell_keep j1 hb5
        clear hb5 hBr HNg
        by_cases hcn : chkNeg F = 0
        · have hn5 := hn5 hcn
          have HH2' := hide (HH2.out hcn)
          rw [hcn]
          clear hn5' hcn HH2
          go_wp2_with (fail)
          refine (HH1.out _ hB5).mono ?_
          rintro e w6 ⟨rfl, hb6⟩
          have hB6 := below_trans hB5 hb6
          have j0 := cell_keep j0 hb6
          have j1 := cell_keep j1 hb6
          have hn6 := hn5.below hb6
          clear hn5 hb6 hB5 HH1
          go_wp2_with (fail)
          refine (HH2'.out _ _ hB6 hn6).mono ?_
          rintro e w7 ⟨rfl, hb7⟩
          have HB7 := hide (below_trans hB6 hb7)
          clear hb7 hB6 hn6 j0 j1 HH2'
          generalize V (F.length - 1) 0 = y
          cases y
          all_goals
            go_wp2_with (fail)
            go_ret
            exact ⟨rfl, HB7.out⟩
        · have hv5 := hn5' hcn
          subst hv5
          have bcn : (chkNeg F != 0) = true := by simpa using hcn
          clear hn5 hn5' hcn HH1 HH2 j0 j1
          generalize chkNeg F = s at *
          go_wp2_with (fail)
          go_ret
          exact ⟨rfl, hB5⟩
  · have bq : (chkT F hs ls != 0) = true := by simpa using hq
    have HQ := hide hq
    clear hq ht HHo HNg
    generalize chkT F hs ls = s at *
    go_enter Tryd.func12, Tryd.ntmps12
    go_wp2_with (fail)
    refine (holdsBegun_any _).mono ?_
    rintro e w1 ⟨rfl, hb1⟩
    have hB1 := below_trans (below_new w (Obj.cells #[.slice a0 hs.length c0, .slice a1 ls.length c1] 44)) hb1
    have j0 : w1.cell? ⟨w.heap.size, 0, none⟩ = some (.slice a0 hs.length c0) := cell_keep (by simp) hb1
    have j1 : w1.cell? ⟨w.heap.size, 1, none⟩ = some (.slice a1 ls.length c1) := cell_keep (by simp) hb1
    clear hb1
    go_wp2_with (fail)
    refine (HFB.out _ hB1).mono ?_
    rintro e w2 ⟨rfl, hb2⟩
    have hB2 := below_trans hB1 hb2
    have j0 := cell_keep j0 hb2
    have j1 := cell_keep j1 hb2
    clear hb2 hB1 HFB
    go_wp2_with (fail)
    refine (HTb.out _ hB2).mono ?_
    rintro e w3 ⟨tv, rfl, -, hv3, hb3⟩
    have hv3 := hv3 HQ.out
    subst hv3
    have HB3 := hide (below_trans hB2 hb3)
    clear hb3 hB2 HTb j0 j1
    go_wp2_with (fail)
    go_ret
    exact ⟨rfl, HB3.out⟩
end Go.Proofs.YtpiacnnifdjlkaaDoor

namespace Go.Proofs.YtpiacnnifdjlkaaDoor
open Go.ChangeShapes Go.WideShapes Go.ChangeAt Go.RowKit Go.Deep
set_option maxRecDepth 100000

theorem cellsIntE : Tryd.prog.cellsOf 3 = 1 := by kernel_rfl
theorem cellsNodeE : Tryd.prog.cellsOf 74 = 4 := by kernel_rfl

theorem plainE {W : World} {a : Addr} {v : Value} (h : W.cell? (a.add 0) = some v) : ∃ b off, a = ⟨b, off, none⟩ := by
  obtain ⟨b, off, spot⟩ := a
  simp only [Addr.add, if_true, World.cell?] at h
  split at h
  · cases spot with
    | none => exact ⟨b, off, rfl⟩
    | some s => simp at h
  · cases h

theorem intsE_of_trod {H : Type} {enc : TypeId × Value → H} {W : World} {n : Nat} {u : Value} {y : DataW H × List MemPlace} (h : DataW.trod enc Tryd.prog W 0 (fun _ => true) true n 22 [u] = some y) :
    ∃ zs, IntSl W u zs := by
  rcases open_ints Tryd.underlying22 Tryd.underlying3 cellsIntE h with ⟨hcs, _⟩ | ⟨a, len, cap, zs, hcs, _, hl, hm, hz, _, hcell, hwz⟩
  · simp only [List.cons.injEq, and_true] at hcs
    subst hcs
    exact ⟨[], .none, 0, rfl, by simp [maxLen], Or.inl rfl, fun _ => rfl, by simp⟩
  · simp only [List.cons.injEq, and_true] at hcs
    subst hcs
    have hz' : zs.length = cap := hz
    have hlen : (zs.take len).length = len := by rw [List.length_take]; omega
    refine ⟨zs.take len, some a, cap, by rw [hlen], by rw [hlen]; omega, ?_, fun e => (by cases e), by rw [hlen]; exact hl⟩
    by_cases h0 : len = 0
    · left
      rw [h0]
      rfl
    · right
      obtain ⟨b, off, rfl⟩ := plainE (hcell 0 (by omega))
      refine ⟨b, off, rfl, fun i hi => ?_⟩
      rw [hlen] at hi
      have ci := hcell i (by omega)
      rw [add_none] at ci
      rw [ci]
      congr 2
      simp [List.getD, hi]

theorem lassoE_of_trod {H : Type} {enc : TypeId × Value → H} {W : World} {r : Reach} {b0 : Nat} {v : Value} {d : DataW H} {p : List MemPlace} (hv : Value.okWide Tryd.prog W r b0 44 v) (h : DataW.Trod enc Tryd.prog W 0 (fun _ => true) true 44 v d p) :
    ∃ hv lv hs ls, v = .agg #[hv, lv] ∧ IntSl W hv hs ∧ IntSl W lv ls := by
  obtain ⟨v0, v1, y0, y1, n, rfl, _, _, t0, t1⟩ := Go.Joins.open_agg2 Tryd.underlying44 (by kernel_rfl) (by kernel_rfl) hv h
  obtain ⟨hs, i0⟩ := intsE_of_trod t0
  obtain ⟨ls, i1⟩ := intsE_of_trod t1
  exact ⟨v0, v1, hs, ls, rfl, i0, i1⟩

theorem intE {H : Type} {enc : TypeId × Value → H} {W : World} {n : Nat} {c : Value} {y : DataW H × List MemPlace} (h : DataW.trod enc Tryd.prog W 0 (fun _ => true) true n 3 [c] = some y) : ∃ z, c = .int .i64 z := by
  obtain ⟨z, hc, _, hw⟩ := DataW.trod_int Tryd.underlying3 h
  simp only [List.cons.injEq, and_true] at hc
  exact ⟨z, hc⟩

theorem four_of {cs : List Value} (h : cs.length = 4) : ∃ c0 c1 c2 c3, cs = [c0, c1, c2, c3] := by
  match cs, h with
  | [c0, c1, c2, c3], _ => exact ⟨c0, c1, c2, c3, rfl⟩

theorem nodeE_of_trod {H : Type} {enc : TypeId × Value → H} {W : World} {n : Nat} {cs : List Value} {y : DataW H × List MemPlace} (h : DataW.trod enc Tryd.prog W 0 (fun _ => true) true n 74 cs = some y) :
    ∃ s : Nd, cs = [.int .i64 s.k, .int .i64 s.a, .int .i64 s.b, .int .i64 s.n] := by
  obtain ⟨xs, m, _, _, hl, hlen, hfs⟩ := DataW.trod_struct Tryd.underlying74 h
  have hx : xs.length = 4 := hlen
  rw [cellsNodeE] at hl
  obtain ⟨c0, c1, c2, c3, rfl⟩ := four_of hl
  have key : ∀ i (hi : i < 4), xs[i]? = some (xs[i]'(by omega)) := fun i hi => List.getElem?_eq_getElem (by omega)
  have t0 : DataW.trod enc Tryd.prog W 0 (fun _ => true) true m 3 (List.take (Tryd.prog.cellsOf 3) (List.drop 0 [c0, c1, c2, c3])) = some (xs[0]'(by omega)) := (hfs 0 _ rfl).trans (key 0 (by omega))
  have t1 : DataW.trod enc Tryd.prog W 0 (fun _ => true) true m 3 (List.take (Tryd.prog.cellsOf 3) (List.drop 1 [c0, c1, c2, c3])) = some (xs[1]'(by omega)) := (hfs 1 _ rfl).trans (key 1 (by omega))
  have t2 : DataW.trod enc Tryd.prog W 0 (fun _ => true) true m 3 (List.take (Tryd.prog.cellsOf 3) (List.drop 2 [c0, c1, c2, c3])) = some (xs[2]'(by omega)) := (hfs 2 _ rfl).trans (key 2 (by omega))
  have t3 : DataW.trod enc Tryd.prog W 0 (fun _ => true) true m 3 (List.take (Tryd.prog.cellsOf 3) (List.drop 3 [c0, c1, c2, c3])) = some (xs[3]'(by omega)) := (hfs 3 _ rfl).trans (key 3 (by omega))
  rw [cellsIntE] at t0 t1 t2 t3
  obtain ⟨z0, rfl⟩ := intE t0
  obtain ⟨z1, rfl⟩ := intE t1
  obtain ⟨z2, rfl⟩ := intE t2
  obtain ⟨z3, rfl⟩ := intE t3
  exact ⟨⟨z0, z1, z2, z3⟩, rfl⟩

theorem nodesE_of_trod {H : Type} {enc : TypeId × Value → H} {W : World} {n : Nat} {u : Value} {y : DataW H × List MemPlace} (h : DataW.trod enc Tryd.prog W 0 (fun _ => true) true n 59 [u] = some y) :
    ∃ zs, NodeSl W u zs := by
  rcases open_slice Tryd.underlying59 h with ⟨hcs, _⟩ | ⟨a, len, cap, m, k, D, Pl, hcs, _, hl, hm, hmm, _, hel⟩
  · simp only [List.cons.injEq, and_true] at hcs
    subst hcs
    exact ⟨[], .none, 0, rfl, by simp [maxLen], Or.inl rfl, fun _ => rfl, by simp⟩
  · simp only [List.cons.injEq, and_true] at hcs
    subst hcs
    simp only [if_true] at hmm
    subst hmm
    rw [cellsNodeE] at hel
    have each : ∀ i, i < m → ∃ s : Nd, W.cell? ((a.add (i * 4)).add 0) = some (.int .i64 s.k) ∧ W.cell? ((a.add (i * 4)).add 1) = some (.int .i64 s.a) ∧ W.cell? ((a.add (i * 4)).add 2) = some (.int .i64 s.b) ∧ W.cell? ((a.add (i * 4)).add 3) = some (.int .i64 s.n) := by
      intro i hi
      obtain ⟨cs', hc, ht⟩ := hel i hi
      obtain ⟨s, rfl⟩ := nodeE_of_trod ht
      obtain ⟨_, _, hcell⟩ := World.cells?_some hc
      exact ⟨s, hcell 0 (by omega), hcell 1 (by omega), hcell 2 (by omega), hcell 3 (by omega)⟩
    obtain ⟨S, hS⟩ := @choose_lt Nd ⟨nd0⟩ _ _ each
    have hlen : ((List.range len).map S).length = len := by simp
    refine ⟨(List.range len).map S, some a, m, by rw [hlen], by rw [hlen]; omega, ?_, fun e => (by cases e), by rw [hlen]; exact hl⟩
    by_cases h0 : len = 0
    · left
      rw [h0]
      rfl
    · right
      have c0 := (hS 0 (by omega)).1
      rw [Nat.zero_mul] at c0
      have c00 : W.cell? (a.add 0) = some (.int .i64 (S 0).k) := c0
      obtain ⟨b, off, rfl⟩ := plainE c00
      refine ⟨b, off, rfl, fun i hi => ?_⟩
      rw [hlen] at hi
      obtain ⟨q0, q1, q2, q3⟩ := hS i (by omega)
      rw [add_none, add_none] at q0 q1 q2 q3
      have e : ((List.range len).map S).getD i nd0 = S i := by simp [List.getD, hi]
      rw [e]
      exact ⟨q0, q1, q2, q3⟩

theorem formulaE_of_trod {H : Type} {enc : TypeId × Value → H} {W : World} {r : Reach} {b0 : Nat} {v : Value} {d : DataW H} {p : List MemPlace} (hv : Value.okWide Tryd.prog W r b0 59 v) (h : DataW.Trod enc Tryd.prog W 0 (fun _ => true) true 59 v d p) :
    ∃ F, NodeSl W v F := by
  obtain ⟨a, len, cap, rfl⟩ := okWide_slice Tryd.underlying59 hv
  obtain ⟨fuel, hf⟩ := h
  exact nodesE_of_trod hf
end Go.Proofs.YtpiacnnifdjlkaaDoor
