/-
  What only of package auto leaves.
-/
import Derived.Test.YtpiacnnifdjlkaaDoorJi
namespace Go.Proofs.YtpiacnnifdjlkaaDoor
open Go.RowKit Go.Sort

set_option maxRecDepth 100000 in
set_option maxHeartbeats 4000000 in
theorem only_any {w : World} {A : Aut} {f : Nat → Bool} {N kb : Nat} {fv gv sv : Value} (hF : IntSl w fv A.first) (hG : BoolSl w gv A.good) (hS : StepSl w sv A.steps) (hA : Right A) (hN : (N : Int) = A.n) (hK : BR w kb N f) (hfl : A.first.length ≤ 300) (hf1 : ∀ x ∈ A.first, f x.toNat = true) (hf2 : ∀ s ∈ A.steps, f s.f.toNat = true → f s.t.toNat = true) :
    Calls Tryd.prog 48 #[.agg #[.int .i64 N, .int .i64 A.m, fv, gv, sv], .slice (some ⟨kb, 0, none⟩) N N] w fun e w' => ∃ v, e = .returned v ∧ AutO w' w.heap.size v (onlyA f N A) ∧ Below w.heap.size w w' := by
  have hN3 : N ≤ 300 := by have := hA.n3; omega
  have HF := hide hF
  have HG := hide hG
  have HS := hide hS
  have HK := hide hK
  have HA := hide hA
  have HN := hide hN
  have Hf1 := hide hf1
  have Hf2 := hide hf2
  have hkl := hK.lt
  obtain ⟨a1, c1, rfl, hm1, -⟩ := hF
  obtain ⟨a2, c2, rfl, hm2, -⟩ := hG
  obtain ⟨a3, c3, rfl, hm3, -⟩ := hS
  unfold maxLen at hm1 hm2 hm3
  have hgl : A.good.length = N := by have := hA.good; omega
  have hsl := hA.few
  clear hA hN hf1 hf2 hK
  have hmk : ∀ W, (Instr.makeSlice 22 (.int .i64 N) (.int .i64 N)).run Tryd.prog W = .ok (.slice (some ⟨W.heap.size, 0, none⟩) N N) (W.alloc (.cells (intRow N fun _ => 0) 3)) := fun W => make_row N (by omega) W
  generalize hL1 : A.first.length = L1 at *
  generalize hL3 : A.steps.length = L3 at *
  have HL1 := hide hL1
  have HL2 := hide hgl
  have HL3 := hide hL3
  rw [hgl] at hm2 HG ⊢
  clear hL1 hL3 hgl
  go_enter Tryd.func48, Tryd.ntmps48
  go_wp2_with (fail)
  clear hmk
  go_loopw [21] (fun s21 wr => ∃ (i : Nat) (gv : Value), s21 = .int .i64 i ∧ i ≤ N ∧ Hid (OnlyI w wr #[.int .i64 N, .int .i64 A.m, .slice a1 L1 c1, .slice a2 N c2, .slice a3 L3 c3] N (numF f i) (.slice none 0 0) gv (.slice none 0 0) ⟨(rk f i : Nat), A.m, [], keptGood f A.good i, []⟩)) (fun s21 _ => N - (intOf s21).toNat)
  case atStart =>
    have q := four_alloc w (Obj.cells #[.int .i64 N, .int .i64 A.m, .slice a1 L1 c1, .slice a2 N c2, .slice a3 L3 c3] 26) (Obj.cells noA 26) (Obj.cells #[.int .i64 0, .int .i64 A.m, .slice none 0 0, .slice none 0 0, .slice none 0 0] 26) (Obj.cells (intRow N fun _ => 0) 3)
    refine ⟨0, .slice none 0 0, rfl, Nat.zero_le _, hide ⟨⟨q.2.2.1, World.ownsRow_nil _ _ _ _, World.ownsRow_nil _ _ _ _, World.ownsRow_nil _ _ _ _, Nat.le_refl _⟩, ?_, q.1, q.2.1, (by repeat (first | exact Below.refl _ _ | assumption | refine below_drewN ?_ _ | refine Below.drew ?_ | refine Below.alloc ?_ (by simp <;> omega) _ | refine below_trans ?_ (by assumption))), by simp [Value.ownBlock], by simp [Value.ownBlock], by simp [Value.ownBlock]⟩⟩
    rw [show intRow N (numF f 0) = intRow N fun _ => 0 from intRow_congr fun q _ => by simp [numF]]
    exact q.2.2.2
  case round =>
    obtain ⟨i, gv, rfl, hi, hO⟩ := hrel
    by_cases hlt : i < N
    · have hkc := (HK.out.old hO.out.below).cell i hlt
      cases hfi : f i with
      | false =>
        rw [hfi] at hkc
        have HO2 := hide ((hO.out.congr (num' := numF f (i + 1)) (fun q _ => numF_no hfi q)))
        have HR := hide (rk_succ f i)
        have HGd := hide (keptGood_succ f A.good i)
        rw [hfi] at HR HGd
        clear hfi hO
        go_wp2_with (fail)
        go_roundw
        case rel => exact ⟨i + 1, gv, by go_num, by omega, hide (by rw [HR.out, HGd.out]; simpa using HO2.out)⟩
        case measure => simp [intOf]; omega
      | true =>
        rw [hfi] at hkc
        have HR := hide (rk_succ f i)
        have HGd := hide (keptGood_succ f A.good i)
        rw [hfi] at HR HGd
        have hrl := rk_le f i
        have hO1 := hO.out.setNum i (rk f i : Nat)
        have hO2 := hO1.states ((rk f i : Nat) + 1)
        have hO3 := hide (hO2.congr (num' := numF f (i + 1)) (fun q _ => numF_yes hfi q))
        have hnr : rk f i = (keptGood f A.good i).length := (keptGood_len f A.good i).symm
        have HNr := hide hnr
        clear hnr
        generalize rk f i = rr at *
        have x0 := cell_of_row _ _ 0 _ _ _ hO.out.ra.box
        have n0 := (cell_of_row _ _ i _ _ _ hO.out.num).trans (intRow_get _ _ _ hlt)
        have n1 := frozen_of_row _ _ i _ _ hO.out.num
        have x1 := cell_of_row _ _ 0 _ _ _ hO1.ra.box
        have x2 := frozen_of_row _ _ 0 _ _ hO1.ra.box
        clear hfi hO hO1 hO2
        go_wp2_with (fail)
        generalize (wr.setCell ⟨w.heap.size + 1 + 1 + 1, i, none⟩ (.int .i64 (rr : Nat))).setCell ⟨w.heap.size + 1 + 1, 0, none⟩ (.int .i64 ((rr : Nat) + 1)) = w7 at *
        clear x0 n0 n1 x1 x2 hkc
        rename_i Q' K hK
        have q3 := cell_of_row _ _ 3 _ _ _ hO3.out.ra.box
        have p3 := cell_of_row _ _ 3 _ _ _ hO3.out.bx
        obtain ⟨a', cap', e, _, hzz, _⟩ := HG.out
        injection e with e1 e2 e3
        subst e1
        have hls : i < A.good.length := by rw [HL2.out]; exact hlt
        rcases hzz with hzz | ⟨gb, goff, e, hcell⟩
        · rw [hzz] at hls; simp at hls
        subst e
        have hgb := World.block_lt_of_cell? w _ (hcell i hls)
        have d0 := (hO3.out.below.cell hgb).trans (hcell i hls)
        have HGc := hide (keptGood_len f A.good i)
        generalize A.good.getD i false = z at *
        have HAp := hide (show some (w.heap.size + 1 + 1) ≠ gv.ownBlock from hO3.out.ra.apart.2.1)
        have HAb := hide (show some (w.heap.size) ≠ gv.ownBlock from fun e => row_apart hO3.out.ra.g hO3.out.bx (by decide) _ e.symm rfl)
        have HGb := hide (show some gb ≠ gv.ownBlock from fun e => by have := (hO3.out.ra.g.lt gb e.symm).1; dsimp only at hgb; omega)
        have hiZ : (i : Int) < (N : Int) := by omega
        have hn9 : (keptGood f A.good i).length ≤ 900000 := by have := HNr.out; omega
        clear hcell e2 e3 hls
        refine wp_region_put 10 7 8 _ [(0, 36), (1, 37), (2, 38), (3, 39), (4, 40), (5, 41), (6, 42), (7, 43), (8, 44), (9, 45)] (fun j v => match j with | 0 => v = .pointer (some ⟨w.heap.size + 1 + 1, 3, none⟩) | 1 => v = gv | 2 => v = .pointer (some ⟨w.heap.size, 3, none⟩) | 3 => v = .slice (some ⟨gb, goff, none⟩) N c2 | 4 => v = .int .i64 (i : Nat) | 5 => v = .pointer (some ⟨gb, goff + i, none⟩) | 6 => v = .bool z | 7 => True | 8 => True | 9 => v = .pointer (some ⟨w.heap.size + 1 + 1, 3, none⟩) | _ => True) [.bool z] elBool hO3.out.ra.old hO3.out.ra.g hn9 rfl (by intro u hu; simp at hu; (try (rcases hu with rfl | rfl | rfl <;> rfl)); (try (subst hu; rfl))) (by kernel_rfl) (by kernel_rfl) (by kernel_rfl) (by kernel_rfl) (by kernel_rfl) rfl (by decide) (by decide) (.cells #[.bool z] 4) 1 (el_new #[.bool z] 4) rfl rfl ?_ _ rfl (.tmp 37) (.tmp 43) rfl ?_ ?_ rfl rfl sizeBools hO3.out.ra.box HAp.out (by decide : 3 < 5) ?_ (fun vs => by simp [putPairs]) ?_
        · intro o ho a W vs he hd
          obtain rfl := Option.some.inj ho
          clear ho
          have v6 : a.tmps[42]?.getD undef = .bool z := (dep_val hd 6 42 (by kernel_rfl) (by kernel_rfl)).1
          simp [execOp, go_sem, v6]
        · intro a W vs hd
          have v1 : a.tmps[37]?.getD undef = gv := (dep_val hd 1 37 (by kernel_rfl) (by kernel_rfl)).1
          exact ⟨(eval_tmp a 37).trans v1, by rw [eval_tmp]; exact (dep_val hd 7 43 (by kernel_rfl) (by kernel_rfl)).2.1 rfl⟩
        · intro j o hj hjB hjX ho a W vs hV he hd
          match j, hj, hjB, hjX, ho with
          | 0, hj, hjB, hjX, ho =>
            obtain rfl := Option.some.inj ho
            clear ho
            have e5 : a.tmps[5]?.getD undef = .pointer (some ⟨w.heap.size + 1 + 1, 0, none⟩) := free_val he 5 (by kernel_rfl)
            exact ⟨.pointer (some ⟨w.heap.size + 1 + 1, 3, none⟩), by simp [execOp, go_sem, e5], rfl⟩
          | 1, hj, hjB, hjX, ho =>
            obtain rfl := Option.some.inj ho
            clear ho
            have v0 : a.tmps[36]?.getD undef = .pointer (some ⟨w.heap.size + 1 + 1, 3, none⟩) := (dep_val hd 0 36 (by kernel_rfl) (by kernel_rfl)).1
            have c0 := hV.cell q3 HAp.out
            exact ⟨gv, by simp [execOp, go_sem, v0, c0], rfl⟩
          | 2, hj, hjB, hjX, ho =>
            obtain rfl := Option.some.inj ho
            clear ho
            have e2 : a.tmps[2]?.getD undef = .pointer (some ⟨w.heap.size, 0, none⟩) := free_val he 2 (by kernel_rfl)
            exact ⟨.pointer (some ⟨w.heap.size, 3, none⟩), by simp [execOp, go_sem, e2], rfl⟩
          | 3, hj, hjB, hjX, ho =>
            obtain rfl := Option.some.inj ho
            clear ho
            have v2 : a.tmps[38]?.getD undef = .pointer (some ⟨w.heap.size, 3, none⟩) := (dep_val hd 2 38 (by kernel_rfl) (by kernel_rfl)).1
            have c0 := hV.cell p3 HAb.out
            exact ⟨.slice (some ⟨gb, goff, none⟩) N c2, by simp [execOp, go_sem, v2, c0], rfl⟩
          | 4, hj, hjB, hjX, ho =>
            obtain rfl := Option.some.inj ho
            clear ho
            have e7 : a.tmps[7]?.getD undef = .int .i64 (i : Nat) := free_val he 7 (by kernel_rfl)
            exact ⟨.int .i64 (i : Nat), by simp [execOp, go_sem, e7], rfl⟩
          | 5, hj, hjB, hjX, ho =>
            obtain rfl := Option.some.inj ho
            clear ho
            have v3 : a.tmps[39]?.getD undef = .slice (some ⟨gb, goff, none⟩) N c2 := (dep_val hd 3 39 (by kernel_rfl) (by kernel_rfl)).1
            have v4 : a.tmps[40]?.getD undef = .int .i64 (i : Nat) := (dep_val hd 4 40 (by kernel_rfl) (by kernel_rfl)).1
            exact ⟨.pointer (some ⟨gb, goff + i, none⟩), by simp [execOp, go_sem, v3, v4, hiZ], rfl⟩
          | 6, hj, hjB, hjX, ho =>
            obtain rfl := Option.some.inj ho
            clear ho
            have v5 : a.tmps[41]?.getD undef = .pointer (some ⟨gb, goff + i, none⟩) := (dep_val hd 5 41 (by kernel_rfl) (by kernel_rfl)).1
            have c0 := hV.cell d0 HGb.out
            exact ⟨.bool z, by simp [execOp, go_sem, v5, c0], rfl⟩
          | 7, hj, hjB, hjX, ho =>
            exact absurd rfl hjB
          | 8, hj, hjB, hjX, ho =>
            exact absurd rfl hjX
          | 9, hj, hjB, hjX, ho =>
            obtain rfl := Option.some.inj ho
            clear ho
            have e5 : a.tmps[5]?.getD undef = .pointer (some ⟨w.heap.size + 1 + 1, 0, none⟩) := free_val he 5 (by kernel_rfl)
            exact ⟨.pointer (some ⟨w.heap.size + 1 + 1, 3, none⟩), by simp [execOp, go_sem, e5], rfl⟩
          | j + 10, hj, hjB, hjX, ho => exact absurd hj (by omega)
        · intro vs hRp
          have hva : vs 9 = .pointer (some ⟨w.heap.size + 1 + 1, 3, none⟩) := hRp 9 (by decide)
          simp [putPairs, hva]
        · intro vs W g9 c9 hV hRp hrow hwh
          refine hK _ _ ?_
          have HF9 := hide (hO3.out.appGood (z := z) hV hrow hwh)
          clear hrow hV hRp hO3 q3 p3 d0
          simp only [putPairs]
          go_wp2_with (fail)
          go_roundw
          case rel => exact ⟨i + 1, _, by go_num, by omega, hide (by rw [HR.out, HGd.out]; simpa using HF9.out)⟩
          case measure => simp [intOf]; omega
    · obtain rfl : N = i := by omega
      have p2 := cell_of_row _ _ 2 _ _ _ hO.out.bx
      clear hi
      go_wp2_with (fail)
      go_loopw [50] (fun s50 wr => ∃ (i : Nat) (fv : Value), s50 = .int .i64 i ∧ i ≤ L1 ∧ Hid (OnlyI w wr #[.int .i64 N, .int .i64 A.m, .slice a1 L1 c1, .slice a2 N c2, .slice a3 L3 c3] N (numF f N) fv gv (.slice none 0 0) ⟨(rk f N : Nat), A.m, keptFirst f (A.first.take i), keptGood f A.good N, []⟩)) (fun s50 _ => L1 - (intOf s50).toNat)
      case atStart => exact ⟨0, _, rfl, Nat.zero_le _, hO⟩
      case round =>
        clear p2 hO hlt
        obtain ⟨i, fv, rfl, hi, hO⟩ := hrel
        by_cases hlt : i < L1
        · have hls : i < A.first.length := by rw [HL1.out]; exact hlt
          obtain ⟨a', cap', e, _, hzz, _⟩ := HF.out
          injection e with e1 e2 e3
          subst e1
          rcases hzz with hzz | ⟨gb, goff, e, hcell⟩
          · rw [hzz] at hls; simp at hls
          subst e
          have hgb := World.block_lt_of_cell? w _ (hcell i hls)
          have d0 := (hO.out.below.cell hgb).trans (hcell i hls)
          have hmem : A.first.getD i 0 ∈ A.first := by simp [List.getD, hls]
          have hx0 := HA.out.first _ hmem
          have hxf := Hf1.out _ hmem
          have HFt := hide (keptFirst_take f A.first i hls)
          generalize A.first.getD i 0 = x at *
          obtain ⟨xn, rfl⟩ := Int.eq_ofNat_of_zero_le hx0.1
          rw [Int.toNat_natCast] at hxf HFt
          have hxN : (xn : Int) < (N : Int) := by have := HN.out; omega
          have hxn : xn < N := by omega
          have n0 := (cell_of_row _ _ xn _ _ _ hO.out.num).trans (intRow_get _ _ _ hxn)
          rw [numF_kept hxn hxf] at n0
          have q2 := cell_of_row _ _ 2 _ _ _ hO.out.ra.box
          have HAp := hide (show some (w.heap.size + 1 + 1) ≠ fv.ownBlock from hO.out.ra.apart.1)
          have HNb := hide (show some (w.heap.size + 1 + 1 + 1) ≠ fv.ownBlock from fun e => hO.out.far.1 e.symm)
          have hn9 : (keptFirst f (A.first.take i)).length ≤ 900000 := by simp [keptFirst]; omega
          clear hcell e2 e3 hls hmem hx0 hxf hgb
          go_wp2_with (fail)
          rename_i Q' K hK
          clear d0
          refine wp_region_put 9 6 7 _ [(0, 54), (1, 55), (2, 56), (3, 57), (4, 58), (5, 59), (6, 60), (7, 61), (8, 62)] (fun j v => match j with | 0 => v = .pointer (some ⟨w.heap.size + 1 + 1, 2, none⟩) | 1 => v = fv | 2 => v = .slice (some ⟨w.heap.size + 1 + 1 + 1, 0, none⟩) N N | 3 => v = .int .i64 (xn : Nat) | 4 => v = .pointer (some ⟨w.heap.size + 1 + 1 + 1, xn, none⟩) | 5 => v = .int .i64 (rk f xn : Nat) | 6 => True | 7 => True | 8 => v = .pointer (some ⟨w.heap.size + 1 + 1, 2, none⟩) | _ => True) [.int .i64 (rk f xn : Nat)] elInt hO.out.ra.old hO.out.ra.f hn9 rfl (by intro u hu; simp at hu; (try (rcases hu with rfl | rfl | rfl <;> rfl)); (try (subst hu; rfl))) (by kernel_rfl) (by kernel_rfl) (by kernel_rfl) (by kernel_rfl) (by kernel_rfl) rfl (by decide) (by decide) (.cells #[.int .i64 (rk f xn : Nat)] 3) 1 (el_new #[.int .i64 (rk f xn : Nat)] 3) rfl rfl ?_ _ rfl (.tmp 55) (.tmp 60) rfl ?_ ?_ rfl rfl sizeInts hO.out.ra.box HAp.out (by decide : 2 < 5) ?_ (fun vs => by simp [putPairs]) ?_
          · intro o ho a W vs he hd
            obtain rfl := Option.some.inj ho
            clear ho
            have v5 : a.tmps[59]?.getD undef = .int .i64 (rk f xn : Nat) := (dep_val hd 5 59 (by kernel_rfl) (by kernel_rfl)).1
            simp [execOp, go_sem, v5]
          · intro a W vs hd
            have v1 : a.tmps[55]?.getD undef = fv := (dep_val hd 1 55 (by kernel_rfl) (by kernel_rfl)).1
            exact ⟨(eval_tmp a 55).trans v1, by rw [eval_tmp]; exact (dep_val hd 6 60 (by kernel_rfl) (by kernel_rfl)).2.1 rfl⟩
          · intro j o hj hjB hjX ho a W vs hV he hd
            match j, hj, hjB, hjX, ho with
            | 0, hj, hjB, hjX, ho =>
              obtain rfl := Option.some.inj ho
              clear ho
              have e5 : a.tmps[5]?.getD undef = .pointer (some ⟨w.heap.size + 1 + 1, 0, none⟩) := free_val he 5 (by kernel_rfl)
              exact ⟨.pointer (some ⟨w.heap.size + 1 + 1, 2, none⟩), by simp [execOp, go_sem, e5], rfl⟩
            | 1, hj, hjB, hjX, ho =>
              obtain rfl := Option.some.inj ho
              clear ho
              have v0 : a.tmps[54]?.getD undef = .pointer (some ⟨w.heap.size + 1 + 1, 2, none⟩) := (dep_val hd 0 54 (by kernel_rfl) (by kernel_rfl)).1
              have c0 := hV.cell q2 HAp.out
              exact ⟨fv, by simp [execOp, go_sem, v0, c0], rfl⟩
            | 2, hj, hjB, hjX, ho =>
              obtain rfl := Option.some.inj ho
              clear ho
              have e6 : a.tmps[6]?.getD undef = .slice (some ⟨w.heap.size + 1 + 1 + 1, 0, none⟩) N N := free_val he 6 (by kernel_rfl)
              exact ⟨.slice (some ⟨w.heap.size + 1 + 1 + 1, 0, none⟩) N N, by simp [execOp, go_sem, e6], rfl⟩
            | 3, hj, hjB, hjX, ho =>
              obtain rfl := Option.some.inj ho
              clear ho
              have e10 : a.tmps[10]?.getD undef = .int .i64 (xn : Nat) := free_val he 10 (by kernel_rfl)
              exact ⟨.int .i64 (xn : Nat), by simp [execOp, go_sem, e10], rfl⟩
            | 4, hj, hjB, hjX, ho =>
              obtain rfl := Option.some.inj ho
              clear ho
              have v2 : a.tmps[56]?.getD undef = .slice (some ⟨w.heap.size + 1 + 1 + 1, 0, none⟩) N N := (dep_val hd 2 56 (by kernel_rfl) (by kernel_rfl)).1
              have v3 : a.tmps[57]?.getD undef = .int .i64 (xn : Nat) := (dep_val hd 3 57 (by kernel_rfl) (by kernel_rfl)).1
              exact ⟨.pointer (some ⟨w.heap.size + 1 + 1 + 1, xn, none⟩), by simp [execOp, go_sem, v2, v3, hxN], rfl⟩
            | 5, hj, hjB, hjX, ho =>
              obtain rfl := Option.some.inj ho
              clear ho
              have v4 : a.tmps[58]?.getD undef = .pointer (some ⟨w.heap.size + 1 + 1 + 1, xn, none⟩) := (dep_val hd 4 58 (by kernel_rfl) (by kernel_rfl)).1
              have c0 := hV.cell n0 HNb.out
              exact ⟨.int .i64 (rk f xn : Nat), by simp [execOp, go_sem, v4, c0], rfl⟩
            | 6, hj, hjB, hjX, ho =>
              exact absurd rfl hjB
            | 7, hj, hjB, hjX, ho =>
              exact absurd rfl hjX
            | 8, hj, hjB, hjX, ho =>
              obtain rfl := Option.some.inj ho
              clear ho
              have e5 : a.tmps[5]?.getD undef = .pointer (some ⟨w.heap.size + 1 + 1, 0, none⟩) := free_val he 5 (by kernel_rfl)
              exact ⟨.pointer (some ⟨w.heap.size + 1 + 1, 2, none⟩), by simp [execOp, go_sem, e5], rfl⟩
            | j + 9, hj, hjB, hjX, ho => exact absurd hj (by omega)
          · intro vs hRp
            have hva : vs 8 = .pointer (some ⟨w.heap.size + 1 + 1, 2, none⟩) := hRp 8 (by decide)
            simp [putPairs, hva]
          · intro vs W g9 c9 hV hRp hrow hwh
            refine hK _ _ ?_
            have HF9 := hide (hO.out.appFirst (z := (rk f xn : Nat)) hV hrow hwh)
            clear hrow hV hRp hO q2 n0
            simp only [putPairs]
            go_wp2_with (fail)
            go_roundw
            case rel => exact ⟨i + 1, _, by go_num, by omega, hide (by rw [HFt.out]; exact HF9.out)⟩
            case measure => simp [intOf]; omega
        · obtain rfl : L1 = i := by omega
          have e1 : A.first.take L1 = A.first := by rw [← HL1.out]; exact List.take_length
          rw [e1] at hO
          have p4 := cell_of_row _ _ 4 _ _ _ hO.out.bx
          clear hi e1
          go_wp2_with (fail)
          go_loopw [67] (fun s67 wr => ∃ (i : Nat) (sv : Value), s67 = .int .i64 i ∧ i ≤ L3 ∧ Hid (OnlyI w wr #[.int .i64 N, .int .i64 A.m, .slice a1 L1 c1, .slice a2 N c2, .slice a3 L3 c3] N (numF f N) fv gv sv ⟨(rk f N : Nat), A.m, keptFirst f A.first, keptGood f A.good N, keptSteps f (A.steps.take i)⟩)) (fun s67 _ => L3 - (intOf s67).toNat)
          case atStart => exact ⟨0, _, rfl, Nat.zero_le _, hO⟩
          case round =>
            clear p4 hO hlt
            obtain ⟨i, sv, rfl, hi, hO⟩ := hrel
            by_cases hlt : i < L3
            · have hls : i < A.steps.length := by rw [HL3.out]; exact hlt
              obtain ⟨a', cap', e, _, hzz, _⟩ := HS.out
              injection e with e1 e2 e3
              subst e1
              rcases hzz with hzz | ⟨gb, goff, e, hcell⟩
              · rw [hzz] at hls; simp at hls
              subst e
              obtain ⟨u0, u1, u2⟩ := hcell i hls
              have hgb := World.block_lt_of_cell? w _ u0
              have d0 := (hO.out.below.cell hgb).trans u0
              have d1 := (hO.out.below.cell (World.block_lt_of_cell? w _ u1)).trans u1
              have d2 := (hO.out.below.cell (World.block_lt_of_cell? w _ u2)).trans u2
              have hmem : A.steps.getD i stp0 ∈ A.steps := by simp [List.getD, hls]
              have hx0 := HA.out.steps _ hmem
              have hxf := Hf2.out _ hmem
              have HFt := hide (keptSteps_take f A.steps i hls)
              have hkl9 : (keptSteps f (A.steps.take i)).length ≤ 900000 := by
                have h1 := List.length_filter_le (fun s : Stp => f s.f.toNat) (A.steps.take i)
                rw [List.length_take] at h1
                simp only [keptSteps, List.length_map]
                omega
              generalize A.steps.getD i stp0 = st at *
              obtain ⟨sf, sl, st⟩ := st
              dsimp only at *
              obtain ⟨fn, rfl⟩ := Int.eq_ofNat_of_zero_le hx0.1
              obtain ⟨tn, rfl⟩ := Int.eq_ofNat_of_zero_le hx0.2.2.2.2.1
              simp only [Int.toNat_natCast] at hxf
              have hfN : (fn : Int) < (N : Int) := by have := HN.out; omega
              have htN : (tn : Int) < (N : Int) := by have := HN.out; omega
              have hfn : fn < N := by omega
              have htn : tn < N := by omega
              have hkc := (HK.out.old hO.out.below).cell fn hfn
              have hkc2 : kb < wr.heap.size := Nat.lt_of_lt_of_le hkl hO.out.below.size
              have hgb2 : gb < wr.heap.size := Nat.lt_of_lt_of_le hgb hO.out.below.size
              have HO8 := hide (hO.out.alloc (Obj.cells #[.int .i64 (fn : Nat), .int .i64 sl, .int .i64 (tn : Nat)] 81))
              have HSb := hide (one_new wr (Obj.cells #[.int .i64 (fn : Nat), .int .i64 sl, .int .i64 (tn : Nat)] 81))
              have HSl := hide (show ∀ k, sv.ownBlock = some k → k < wr.heap.size from fun k hk => (hO.out.ra.s.lt k hk).2)
              clear hcell e2 e3 hls hmem hx0 hgb u0 u1 u2 hO
              cases hff : f fn with
              | false =>
                rw [hff] at hkc
                have HFt2 := hide (show keptSteps f (A.steps.take (i + 1)) = keptSteps f (A.steps.take i) by rw [HFt.out]; simp [hff])
                clear hxf hff HFt
                go_wp2_with (fail)
                go_roundw
                case rel => exact ⟨i + 1, _, by go_num, by omega, hide (by rw [HFt2.out]; exact HO8.out)⟩
                case measure => simp [intOf]; omega
              | true =>
                have htf := hxf hff
                have n0 := (cell_of_row _ _ fn _ _ _ HO8.out.num).trans (intRow_get _ _ _ hfn)
                have n1 := (cell_of_row _ _ tn _ _ _ HO8.out.num).trans (intRow_get _ _ _ htn)
                rw [numF_kept hfn hff] at n0
                rw [numF_kept htn htf] at n1
                rw [hff] at hkc
                have HFt2 := hide (show keptSteps f (A.steps.take (i + 1)) = keptSteps f (A.steps.take i) ++ [keptStep f ⟨(fn : Nat), sl, (tn : Nat)⟩] by rw [HFt.out]; simp [hff])
                clear HFt
                have HSt := hide (show keptStep f ⟨(fn : Nat), sl, (tn : Nat)⟩ = ⟨(rk f fn : Nat), sl, (rk f tn : Nat)⟩ by simp [keptStep])
                clear hxf hff htf
                go_wp2_with (fail)
                generalize wr.alloc (Obj.cells #[.int .i64 (fn : Nat), .int .i64 sl, .int .i64 (tn : Nat)] 81) = w8 at *
                rename_i Q' K hK
                have s0 := cell_of_row _ _ 0 _ _ _ HSb.out
                have s1 := cell_of_row _ _ 1 _ _ _ HSb.out
                have s2 := cell_of_row _ _ 2 _ _ _ HSb.out
                have q4 := cell_of_row _ _ 4 _ _ _ HO8.out.ra.box
                have HAp := hide (show some (w.heap.size + 1 + 1) ≠ sv.ownBlock from HO8.out.ra.apart.2.2)
                have HNb := hide (show some (w.heap.size + 1 + 1 + 1) ≠ sv.ownBlock from fun e => HO8.out.far.2.2 e.symm)
                have HSs := hide (show some wr.heap.size ≠ sv.ownBlock from fun e => by have := HSl.out _ e.symm; omega)
                clear d0 d1 d2 hkc
                refine wp_region_put 18 15 16 _ [(0, 76), (1, 77), (2, 78), (3, 79), (4, 80), (5, 81), (6, 82), (7, 83), (8, 84), (9, 85), (10, 86), (11, 87), (12, 88), (13, 89), (14, 90), (15, 91), (16, 92), (17, 93)] (fun j v => match j with | 0 => v = .pointer (some ⟨w.heap.size + 1 + 1, 4, none⟩) | 1 => v = sv | 2 => v = .slice (some ⟨w.heap.size + 1 + 1 + 1, 0, none⟩) N N | 3 => v = .pointer (some ⟨wr.heap.size, 0, none⟩) | 4 => v = .int .i64 (fn : Nat) | 5 => v = .pointer (some ⟨w.heap.size + 1 + 1 + 1, fn, none⟩) | 6 => v = .int .i64 (rk f fn : Nat) | 7 => v = .pointer (some ⟨wr.heap.size, 1, none⟩) | 8 => v = .int .i64 sl | 9 => v = .slice (some ⟨w.heap.size + 1 + 1 + 1, 0, none⟩) N N | 10 => v = .pointer (some ⟨wr.heap.size, 2, none⟩) | 11 => v = .int .i64 (tn : Nat) | 12 => v = .pointer (some ⟨w.heap.size + 1 + 1 + 1, tn, none⟩) | 13 => v = .int .i64 (rk f tn : Nat) | 14 => v = .agg #[.int .i64 (rk f fn : Nat), .int .i64 sl, .int .i64 (rk f tn : Nat)] | 15 => True | 16 => True | 17 => v = .pointer (some ⟨w.heap.size + 1 + 1, 4, none⟩) | _ => True) [.int .i64 (rk f fn : Nat), .int .i64 sl, .int .i64 (rk f tn : Nat)] elStep HO8.out.ra.old HO8.out.ra.s hkl9 rfl (by intro u hu; simp at hu; (try (rcases hu with rfl | rfl | rfl <;> rfl)); (try (subst hu; rfl))) (by kernel_rfl) (by kernel_rfl) (by kernel_rfl) (by kernel_rfl) (by kernel_rfl) rfl (by decide) (by decide) (.cells #[.int .i64 (rk f fn : Nat), .int .i64 sl, .int .i64 (rk f tn : Nat)] 81) 1 (el_new #[.int .i64 (rk f fn : Nat), .int .i64 sl, .int .i64 (rk f tn : Nat)] 81) rfl rfl ?_ _ rfl (.tmp 77) (.tmp 91) rfl ?_ ?_ rfl rfl sizeSteps HO8.out.ra.box HAp.out (by decide : 4 < 5) ?_ (fun vs => by simp [putPairs]) ?_
                · intro o ho a W vs he hd
                  obtain rfl := Option.some.inj ho
                  clear ho
                  have v14 : a.tmps[90]?.getD undef = .agg #[.int .i64 (rk f fn : Nat), .int .i64 sl, .int .i64 (rk f tn : Nat)] := (dep_val hd 14 90 (by kernel_rfl) (by kernel_rfl)).1
                  simp [execOp, go_sem, v14]
                · intro a W vs hd
                  have v1 : a.tmps[77]?.getD undef = sv := (dep_val hd 1 77 (by kernel_rfl) (by kernel_rfl)).1
                  exact ⟨(eval_tmp a 77).trans v1, by rw [eval_tmp]; exact (dep_val hd 15 91 (by kernel_rfl) (by kernel_rfl)).2.1 rfl⟩
                · intro j o hj hjB hjX ho a W vs hV he hd
                  match j, hj, hjB, hjX, ho with
                  | 0, hj, hjB, hjX, ho =>
                    obtain rfl := Option.some.inj ho
                    clear ho
                    have e5 : a.tmps[5]?.getD undef = .pointer (some ⟨w.heap.size + 1 + 1, 0, none⟩) := free_val he 5 (by kernel_rfl)
                    exact ⟨.pointer (some ⟨w.heap.size + 1 + 1, 4, none⟩), by simp [execOp, go_sem, e5], rfl⟩
                  | 1, hj, hjB, hjX, ho =>
                    obtain rfl := Option.some.inj ho
                    clear ho
                    have v0 : a.tmps[76]?.getD undef = .pointer (some ⟨w.heap.size + 1 + 1, 4, none⟩) := (dep_val hd 0 76 (by kernel_rfl) (by kernel_rfl)).1
                    have c0 := hV.cell q4 HAp.out
                    exact ⟨sv, by simp [execOp, go_sem, v0, c0], rfl⟩
                  | 2, hj, hjB, hjX, ho =>
                    obtain rfl := Option.some.inj ho
                    clear ho
                    have e6 : a.tmps[6]?.getD undef = .slice (some ⟨w.heap.size + 1 + 1 + 1, 0, none⟩) N N := free_val he 6 (by kernel_rfl)
                    exact ⟨.slice (some ⟨w.heap.size + 1 + 1 + 1, 0, none⟩) N N, by simp [execOp, go_sem, e6], rfl⟩
                  | 3, hj, hjB, hjX, ho =>
                    obtain rfl := Option.some.inj ho
                    clear ho
                    have e12 : a.tmps[12]?.getD undef = .pointer (some ⟨wr.heap.size, 0, none⟩) := free_val he 12 (by kernel_rfl)
                    exact ⟨.pointer (some ⟨wr.heap.size, 0, none⟩), by simp [execOp, go_sem, e12], rfl⟩
                  | 4, hj, hjB, hjX, ho =>
                    obtain rfl := Option.some.inj ho
                    clear ho
                    have v3 : a.tmps[79]?.getD undef = .pointer (some ⟨wr.heap.size, 0, none⟩) := (dep_val hd 3 79 (by kernel_rfl) (by kernel_rfl)).1
                    have c0 := hV.cell s0 HSs.out
                    exact ⟨.int .i64 (fn : Nat), by simp [execOp, go_sem, v3, c0], rfl⟩
                  | 5, hj, hjB, hjX, ho =>
                    obtain rfl := Option.some.inj ho
                    clear ho
                    have v2 : a.tmps[78]?.getD undef = .slice (some ⟨w.heap.size + 1 + 1 + 1, 0, none⟩) N N := (dep_val hd 2 78 (by kernel_rfl) (by kernel_rfl)).1
                    have v4 : a.tmps[80]?.getD undef = .int .i64 (fn : Nat) := (dep_val hd 4 80 (by kernel_rfl) (by kernel_rfl)).1
                    exact ⟨.pointer (some ⟨w.heap.size + 1 + 1 + 1, fn, none⟩), by simp [execOp, go_sem, v2, v4, hfN], rfl⟩
                  | 6, hj, hjB, hjX, ho =>
                    obtain rfl := Option.some.inj ho
                    clear ho
                    have v5 : a.tmps[81]?.getD undef = .pointer (some ⟨w.heap.size + 1 + 1 + 1, fn, none⟩) := (dep_val hd 5 81 (by kernel_rfl) (by kernel_rfl)).1
                    have c0 := hV.cell n0 HNb.out
                    exact ⟨.int .i64 (rk f fn : Nat), by simp [execOp, go_sem, v5, c0], rfl⟩
                  | 7, hj, hjB, hjX, ho =>
                    obtain rfl := Option.some.inj ho
                    clear ho
                    have e12 : a.tmps[12]?.getD undef = .pointer (some ⟨wr.heap.size, 0, none⟩) := free_val he 12 (by kernel_rfl)
                    exact ⟨.pointer (some ⟨wr.heap.size, 1, none⟩), by simp [execOp, go_sem, e12], rfl⟩
                  | 8, hj, hjB, hjX, ho =>
                    obtain rfl := Option.some.inj ho
                    clear ho
                    have v7 : a.tmps[83]?.getD undef = .pointer (some ⟨wr.heap.size, 1, none⟩) := (dep_val hd 7 83 (by kernel_rfl) (by kernel_rfl)).1
                    have c0 := hV.cell s1 HSs.out
                    exact ⟨.int .i64 sl, by simp [execOp, go_sem, v7, c0], rfl⟩
                  | 9, hj, hjB, hjX, ho =>
                    obtain rfl := Option.some.inj ho
                    clear ho
                    have e6 : a.tmps[6]?.getD undef = .slice (some ⟨w.heap.size + 1 + 1 + 1, 0, none⟩) N N := free_val he 6 (by kernel_rfl)
                    exact ⟨.slice (some ⟨w.heap.size + 1 + 1 + 1, 0, none⟩) N N, by simp [execOp, go_sem, e6], rfl⟩
                  | 10, hj, hjB, hjX, ho =>
                    obtain rfl := Option.some.inj ho
                    clear ho
                    have e12 : a.tmps[12]?.getD undef = .pointer (some ⟨wr.heap.size, 0, none⟩) := free_val he 12 (by kernel_rfl)
                    exact ⟨.pointer (some ⟨wr.heap.size, 2, none⟩), by simp [execOp, go_sem, e12], rfl⟩
                  | 11, hj, hjB, hjX, ho =>
                    obtain rfl := Option.some.inj ho
                    clear ho
                    have v10 : a.tmps[86]?.getD undef = .pointer (some ⟨wr.heap.size, 2, none⟩) := (dep_val hd 10 86 (by kernel_rfl) (by kernel_rfl)).1
                    have c0 := hV.cell s2 HSs.out
                    exact ⟨.int .i64 (tn : Nat), by simp [execOp, go_sem, v10, c0], rfl⟩
                  | 12, hj, hjB, hjX, ho =>
                    obtain rfl := Option.some.inj ho
                    clear ho
                    have v9 : a.tmps[85]?.getD undef = .slice (some ⟨w.heap.size + 1 + 1 + 1, 0, none⟩) N N := (dep_val hd 9 85 (by kernel_rfl) (by kernel_rfl)).1
                    have v11 : a.tmps[87]?.getD undef = .int .i64 (tn : Nat) := (dep_val hd 11 87 (by kernel_rfl) (by kernel_rfl)).1
                    exact ⟨.pointer (some ⟨w.heap.size + 1 + 1 + 1, tn, none⟩), by simp [execOp, go_sem, v9, v11, htN], rfl⟩
                  | 13, hj, hjB, hjX, ho =>
                    obtain rfl := Option.some.inj ho
                    clear ho
                    have v12 : a.tmps[88]?.getD undef = .pointer (some ⟨w.heap.size + 1 + 1 + 1, tn, none⟩) := (dep_val hd 12 88 (by kernel_rfl) (by kernel_rfl)).1
                    have c0 := hV.cell n1 HNb.out
                    exact ⟨.int .i64 (rk f tn : Nat), by simp [execOp, go_sem, v12, c0], rfl⟩
                  | 14, hj, hjB, hjX, ho =>
                    obtain rfl := Option.some.inj ho
                    clear ho
                    have v6 : a.tmps[82]?.getD undef = .int .i64 (rk f fn : Nat) := (dep_val hd 6 82 (by kernel_rfl) (by kernel_rfl)).1
                    have v8 : a.tmps[84]?.getD undef = .int .i64 sl := (dep_val hd 8 84 (by kernel_rfl) (by kernel_rfl)).1
                    have v13 : a.tmps[89]?.getD undef = .int .i64 (rk f tn : Nat) := (dep_val hd 13 89 (by kernel_rfl) (by kernel_rfl)).1
                    exact ⟨.agg #[.int .i64 (rk f fn : Nat), .int .i64 sl, .int .i64 (rk f tn : Nat)], by simp [execOp, go_sem, v6, v8, v13], rfl⟩
                  | 15, hj, hjB, hjX, ho =>
                    exact absurd rfl hjB
                  | 16, hj, hjB, hjX, ho =>
                    exact absurd rfl hjX
                  | 17, hj, hjB, hjX, ho =>
                    obtain rfl := Option.some.inj ho
                    clear ho
                    have e5 : a.tmps[5]?.getD undef = .pointer (some ⟨w.heap.size + 1 + 1, 0, none⟩) := free_val he 5 (by kernel_rfl)
                    exact ⟨.pointer (some ⟨w.heap.size + 1 + 1, 4, none⟩), by simp [execOp, go_sem, e5], rfl⟩
                  | j + 18, hj, hjB, hjX, ho => exact absurd hj (by omega)
                · intro vs hRp
                  have hva : vs 17 = .pointer (some ⟨w.heap.size + 1 + 1, 4, none⟩) := hRp 17 (by decide)
                  simp [putPairs, hva]
                · intro vs W g9 c9 hV hRp hrow hwh
                  refine hK _ _ ?_
                  have HF9 := hide (HO8.out.appStep (z := ⟨(rk f fn : Nat), sl, (rk f tn : Nat)⟩) hV hrow hwh)
                  clear hrow hV hRp HO8 q4 n0 n1 s0 s1 s2
                  simp only [putPairs]
                  go_wp2_with (fail)
                  go_roundw
                  case rel => exact ⟨i + 1, _, by go_num, by omega, hide (by rw [HFt2.out, HSt.out]; exact HF9.out)⟩
                  case measure => simp [intOf]; omega
            · obtain rfl : L3 = i := by omega
              have e1 : A.steps.take L3 = A.steps := by rw [← HL3.out]; exact List.take_length
              rw [e1] at hO
              have HOA := hide (show (⟨(rk f N : Nat), A.m, keptFirst f A.first, keptGood f A.good N, keptSteps f A.steps⟩ : Aut) = onlyA f N A from rfl)
              generalize (⟨(rk f N : Nat), A.m, keptFirst f A.first, keptGood f A.good N, keptSteps f A.steps⟩ : Aut) = O at *
              obtain ⟨b1, e1, b2, e2, b3, e3, rfl, rfl, rfl⟩ := hO.out.sv_slice
              have x0 := cell_of_row _ _ 0 _ _ _ hO.out.ra.box
              have x1 := cell_of_row _ _ 1 _ _ _ hO.out.ra.box
              have x2 := cell_of_row _ _ 2 _ _ _ hO.out.ra.box
              have x3 := cell_of_row _ _ 3 _ _ _ hO.out.ra.box
              have x4 := cell_of_row _ _ 4 _ _ _ hO.out.ra.box
              have y0 := cell_of_row _ _ 0 _ _ _ hO.out.res
              have y1 := cell_of_row _ _ 1 _ _ _ hO.out.res
              have y2 := cell_of_row _ _ 2 _ _ _ hO.out.res
              have y3 := cell_of_row _ _ 3 _ _ _ hO.out.res
              have y4 := cell_of_row _ _ 4 _ _ _ hO.out.res
              unfold noA at y0 y1 y2 y3 y4
              have z0 := frozen_of_row _ _ 0 _ _ hO.out.res
              have z1 := frozen_of_row _ _ 1 _ _ hO.out.res
              have z2 := frozen_of_row _ _ 2 _ _ hO.out.res
              have z3 := frozen_of_row _ _ 3 _ _ hO.out.res
              have z4 := frozen_of_row _ _ 4 _ _ hO.out.res
              have hF := fivePut_box hO.out.res (.int .i64 O.n) (.int .i64 O.m) (.slice b1 O.first.length e1) (.slice b2 O.good.length e2) (.slice b3 O.steps.length e3)
              have HAV := hide (hO.out.ra.own.five hO.out.res (.int .i64 O.n) (.int .i64 O.m) (.slice b1 O.first.length e1) (.slice b2 O.good.length e2) (.slice b3 O.steps.length e3))
              have HBF := hide (fivePut_below hO.out.below (show w.heap.size ≤ w.heap.size + 1 by omega) (.int .i64 O.n) (.int .i64 O.m) (.slice b1 O.first.length e1) (.slice b2 O.good.length e2) (.slice b3 O.steps.length e3))
              have f0 := cell_of_row _ _ 0 _ _ _ hF
              have f1 := cell_of_row _ _ 1 _ _ _ hF
              have f2 := cell_of_row _ _ 2 _ _ _ hF
              have f3 := cell_of_row _ _ 3 _ _ _ hF
              have f4 := cell_of_row _ _ 4 _ _ _ hF
              unfold fivePut at f0 f1 f2 f3 f4 HAV HBF
              clear hF hO
              go_wp2_with (fail)
              refine bodyPost_ret (v := .agg #[.int .i64 O.n, .int .i64 O.m, .slice b1 O.first.length e1, .slice b2 O.good.length e2, .slice b3 O.steps.length e3]) (by simp [results, Tryd.results48, go_sem, f0, f1, f2, f3, f4]) rfl ⟨.agg #[.int .i64 O.n, .int .i64 O.m, .slice b1 O.first.length e1, .slice b2 O.good.length e2, .slice b3 O.steps.length e3], rfl, ?_, HBF.out⟩
              rw [← HOA.out]
              exact HAV.out.lower (by omega)
end Go.Proofs.YtpiacnnifdjlkaaDoor
