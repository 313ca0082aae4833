/-
  The automaton that is left where only some states are kept, numbered anew: plain mathematics.
-/
import Derived.Test.YtpiacnnifdjlkaaDoorIf
/-
  What the reference's PrintAuto answers.
-/
namespace Go.Proofs.YtpiacnnifdjlkaaDoor
open Go.RowKit Go.Sort

theorem digits_int (z : Int) (h0 : 0 ≤ z) (h1 : z < 1000) (w : World) : Calls Tryd.prog 52 #[.int .i64 z] w fun e w' => e = .returned (.string ⟨(Lib.itoa z).toArray⟩) ∧ Below w.heap.size w w' := by
  obtain ⟨u, rfl⟩ : ∃ u : Nat, z = u := ⟨z.toNat, by omega⟩
  rw [Lib.itoa_nonneg]
  exact digits_any u (by omega) w

/-- What the operations of the region that writes the head leave: number j. -/
def paR (A : Aut) (cb : Nat) (j : Nat) (v : Value) (_ : World) : Prop :=
  match j with
  | 0 => v = .pointer (some ⟨cb, 0, none⟩)
  | 1 => v = .int .i64 A.n
  | 2 => v = .string ⟨(Lib.itoa A.n).toArray⟩
  | 3 => v = .string ⟨([115, 116, 97, 116, 101, 115, 32] ++ Lib.itoa A.n).toArray⟩
  | 4 => v = .string ⟨([115, 116, 97, 116, 101, 115, 32] ++ Lib.itoa A.n ++ [32, 108, 101, 116, 116, 101, 114, 115, 32]).toArray⟩
  | 5 => v = .pointer (some ⟨cb, 1, none⟩)
  | 6 => v = .int .i64 A.m
  | 7 => v = .string ⟨(Lib.itoa A.m).toArray⟩
  | 8 => v = .string ⟨([115, 116, 97, 116, 101, 115, 32] ++ Lib.itoa A.n ++ [32, 108, 101, 116, 116, 101, 114, 115, 32] ++ Lib.itoa A.m).toArray⟩
  | 9 => v = .string ⟨([115, 116, 97, 116, 101, 115, 32] ++ Lib.itoa A.n ++ [32, 108, 101, 116, 116, 101, 114, 115, 32] ++ Lib.itoa A.m ++ [10, 102, 105, 114, 115, 116]).toArray⟩
  | 10 => v = .string ⟨([115, 116, 97, 116, 101, 115, 32] ++ Lib.itoa A.n ++ [32, 108, 101, 116, 116, 101, 114, 115, 32] ++ Lib.itoa A.m ++ [10, 102, 105, 114, 115, 116]).toArray⟩
  | _ => True

/-- What the operations of the region that writes a step leave: number j. -/
def psR (s : Stp) (cb : Nat) (T : List UInt8) (j : Nat) (v : Value) (_ : World) : Prop :=
  match j with
  | 0 => v = .string ⟨(T).toArray⟩
  | 1 => v = .pointer (some ⟨cb, 0, none⟩)
  | 2 => v = .int .i64 s.f
  | 3 => v = .string ⟨(Lib.itoa s.f).toArray⟩
  | 4 => v = .string ⟨(Lib.itoa s.f ++ [32]).toArray⟩
  | 5 => v = .pointer (some ⟨cb, 1, none⟩)
  | 6 => v = .int .i64 s.l
  | 7 => v = .string ⟨(Lib.itoa s.l).toArray⟩
  | 8 => v = .string ⟨(Lib.itoa s.f ++ [32] ++ Lib.itoa s.l).toArray⟩
  | 9 => v = .string ⟨(Lib.itoa s.f ++ [32] ++ Lib.itoa s.l ++ [32]).toArray⟩
  | 10 => v = .pointer (some ⟨cb, 2, none⟩)
  | 11 => v = .int .i64 s.t
  | 12 => v = .string ⟨(Lib.itoa s.t).toArray⟩
  | 13 => v = .string ⟨(Lib.itoa s.f ++ [32] ++ Lib.itoa s.l ++ [32] ++ Lib.itoa s.t).toArray⟩
  | 14 => v = .string ⟨(Lib.itoa s.f ++ [32] ++ Lib.itoa s.l ++ [32] ++ Lib.itoa s.t ++ [10]).toArray⟩
  | 15 => v = .string ⟨(T ++ (Lib.itoa s.f ++ [32] ++ Lib.itoa s.l ++ [32] ++ Lib.itoa s.t ++ [10])).toArray⟩
  | 16 => v = .string ⟨(T ++ (Lib.itoa s.f ++ [32] ++ Lib.itoa s.l ++ [32] ++ Lib.itoa s.t ++ [10])).toArray⟩
  | _ => True

theorem text_size (T : List UInt8) (n : Nat) (h : T.length ≤ n) : (⟨T.toArray⟩ : ByteArray).size ≤ n := by
  show T.toArray.size ≤ n
  simpa using h

theorem join_blank (S X : List UInt8) : (⟨S.toArray⟩ : ByteArray) ++ ((⟨#[32]⟩ : ByteArray) ++ ⟨X.toArray⟩) = ⟨(S ++ 32 :: X).toArray⟩ := by
  rw [show (⟨#[32]⟩ : ByteArray) = ⟨[32].toArray⟩ from rfl, texts_app, texts_app]
  rfl

theorem numsT_snoc (zs : List Int) (z : Int) : numsT (zs ++ [z]) = numsT zs ++ 32 :: Lib.itoa z := by
  unfold numsT
  rw [List.flatMap_append]
  simp

theorem stepT_eq (s : Stp) : stepT s = Lib.itoa s.f ++ [32] ++ Lib.itoa s.l ++ [32] ++ Lib.itoa s.t ++ [10] := by simp [stepT, numsT]

set_option maxRecDepth 100000 in
set_option maxHeartbeats 4000000 in
theorem printAuto_any {w : World} {v : Value} {A : Aut} (hA : AutV w v A) (hR : Right A) (hfl : A.first.length ≤ 300) :
    Calls Tryd.prog 16 #[v] w fun e w' => e = .returned (.string ⟨(prtA A).toArray⟩) ∧ Below w.heap.size w w' := by
  obtain ⟨fv, gv, sv, rfl, hF, hG, hS⟩ := hA
  have HF := hide hF
  have HG := hide hG
  have HS := hide hS
  have hln := itoa_short A.n (by have := hR.n1; omega) (by have := hR.n3; omega)
  have hlm := itoa_short A.m (by have := hR.m1; omega) (by have := hR.m8; omega)
  have hn1 := hR.n1
  have hn3 := hR.n3
  have hm1 := hR.m1
  have hm8 := hR.m8
  have HR := hide hR
  have hgl : A.good.length ≤ 300 := by have := hR.good; have := hR.n3; omega
  have hst := hR.few
  obtain ⟨a1, c1, rfl, hm3, -⟩ := hF
  obtain ⟨a2, c2, rfl, hm4, -⟩ := hG
  obtain ⟨a3, c3, rfl, hm5, -⟩ := hS
  clear hR
  go_enter Tryd.func16, Tryd.ntmps16
  go_wp2_with (fail)
  rename_i Q' K hK
  obtain ⟨w1, hw1⟩ : ∃ w1, w1 = w.alloc (Obj.cells #[.int .i64 A.n, .int .i64 A.m, .slice a1 A.first.length c1, .slice a2 A.good.length c2, .slice a3 A.steps.length c3] 26) := ⟨_, rfl⟩
  rw [← hw1]
  have hx := one_new w (Obj.cells #[.int .i64 A.n, .int .i64 A.m, .slice a1 A.first.length c1, .slice a2 A.good.length c2, .slice a3 A.steps.length c3] 26)
  rw [← hw1] at hx
  have n0 := cell_of_row _ _ 0 _ _ _ hx
  have n1 := cell_of_row _ _ 1 _ _ _ hx
  have n2 := cell_of_row _ _ 2 _ _ _ hx
  have n3 := cell_of_row _ _ 3 _ _ _ hx
  have n4 := cell_of_row _ _ 4 _ _ _ hx
  have HB1 := hide (show Below w.heap.size w w1 by rw [hw1]; exact below_new _ _)
  clear hw1 hx
  refine wp_region_told [(0, 8), (1, 9), (2, 10), (3, 11), (4, 12), (5, 13), (6, 14), (7, 15), (8, 16), (9, 17), (10, 3)] (fun W => Below w1.heap.size w1 W) (paR A w.heap.size) (by kernel_rfl) (by kernel_rfl) (by kernel_rfl) (Below.drew (Below.refl _ _)) ?_ ?_
  · intro j o ho
    match j, ho with
    | 0, ho =>
      obtain rfl := Option.some.inj ho
      clear ho
      refine stepOk_val fun a W vs hW he hd => ?_
      have e1 : a.tmps[1]?.getD undef = .pointer (some ⟨w.heap.size, 0, none⟩) := free_val he 1 (by kernel_rfl)
      exact ⟨.pointer (some ⟨w.heap.size, 0, none⟩), by simp [execOp, go_sem, e1], rfl⟩
    | 1, ho =>
      obtain rfl := Option.some.inj ho
      clear ho
      refine stepOk_val fun a W vs hW he hd => ?_
      have v0 : a.tmps[8]?.getD undef = .pointer (some ⟨w.heap.size, 0, none⟩) := dep_val hd 0 8 (by kernel_rfl) (by kernel_rfl)
      have c0 := cell_kept n0 hW
      exact ⟨.int .i64 A.n, by simp [execOp, go_sem, v0, c0], rfl⟩
    | 2, ho =>
      obtain rfl := Option.some.inj ho
      clear ho
      refine stepOk_call fun a W vs hW he hd => ?_
      have v1 : a.tmps[9]?.getD undef = .int .i64 A.n := dep_val hd 1 9 (by kernel_rfl) (by kernel_rfl)
      refine ⟨52, #[.int .i64 A.n], by simp [execOp, go_sem, v1], (digits_int A.n (by omega) (by omega) W).mono ?_⟩
      rintro e W' ⟨rfl, hb⟩
      exact ⟨_, rfl, below_trans hW hb, rfl, fun j x h => h⟩
    | 3, ho =>
      obtain rfl := Option.some.inj ho
      clear ho
      refine stepOk_val fun a W vs hW he hd => ?_
      have v2 : a.tmps[10]?.getD undef = .string ⟨(Lib.itoa A.n).toArray⟩ := dep_val hd 2 10 (by kernel_rfl) (by kernel_rfl)
      exact ⟨_, op_join ([115, 116, 97, 116, 101, 115, 32]) (Lib.itoa A.n) W rfl rfl ((eval_tmp a 10).trans v2) (by simp; omega), rfl⟩
    | 4, ho =>
      obtain rfl := Option.some.inj ho
      clear ho
      refine stepOk_val fun a W vs hW he hd => ?_
      have v3 : a.tmps[11]?.getD undef = .string ⟨([115, 116, 97, 116, 101, 115, 32] ++ Lib.itoa A.n).toArray⟩ := dep_val hd 3 11 (by kernel_rfl) (by kernel_rfl)
      exact ⟨_, op_join ([115, 116, 97, 116, 101, 115, 32] ++ Lib.itoa A.n) ([32, 108, 101, 116, 116, 101, 114, 115, 32]) W rfl ((eval_tmp a 11).trans v3) rfl (by simp; omega), rfl⟩
    | 5, ho =>
      obtain rfl := Option.some.inj ho
      clear ho
      refine stepOk_val fun a W vs hW he hd => ?_
      have e1 : a.tmps[1]?.getD undef = .pointer (some ⟨w.heap.size, 0, none⟩) := free_val he 1 (by kernel_rfl)
      exact ⟨.pointer (some ⟨w.heap.size, 1, none⟩), by simp [execOp, go_sem, e1], rfl⟩
    | 6, ho =>
      obtain rfl := Option.some.inj ho
      clear ho
      refine stepOk_val fun a W vs hW he hd => ?_
      have v5 : a.tmps[13]?.getD undef = .pointer (some ⟨w.heap.size, 1, none⟩) := dep_val hd 5 13 (by kernel_rfl) (by kernel_rfl)
      have c0 := cell_kept n1 hW
      exact ⟨.int .i64 A.m, by simp [execOp, go_sem, v5, c0], rfl⟩
    | 7, ho =>
      obtain rfl := Option.some.inj ho
      clear ho
      refine stepOk_call fun a W vs hW he hd => ?_
      have v6 : a.tmps[14]?.getD undef = .int .i64 A.m := dep_val hd 6 14 (by kernel_rfl) (by kernel_rfl)
      refine ⟨52, #[.int .i64 A.m], by simp [execOp, go_sem, v6], (digits_int A.m (by omega) (by omega) W).mono ?_⟩
      rintro e W' ⟨rfl, hb⟩
      exact ⟨_, rfl, below_trans hW hb, rfl, fun j x h => h⟩
    | 8, ho =>
      obtain rfl := Option.some.inj ho
      clear ho
      refine stepOk_val fun a W vs hW he hd => ?_
      have v4 : a.tmps[12]?.getD undef = .string ⟨([115, 116, 97, 116, 101, 115, 32] ++ Lib.itoa A.n ++ [32, 108, 101, 116, 116, 101, 114, 115, 32]).toArray⟩ := dep_val hd 4 12 (by kernel_rfl) (by kernel_rfl)
      have v7 : a.tmps[15]?.getD undef = .string ⟨(Lib.itoa A.m).toArray⟩ := dep_val hd 7 15 (by kernel_rfl) (by kernel_rfl)
      exact ⟨_, op_join ([115, 116, 97, 116, 101, 115, 32] ++ Lib.itoa A.n ++ [32, 108, 101, 116, 116, 101, 114, 115, 32]) (Lib.itoa A.m) W rfl ((eval_tmp a 12).trans v4) ((eval_tmp a 15).trans v7) (by simp; omega), rfl⟩
    | 9, ho =>
      obtain rfl := Option.some.inj ho
      clear ho
      refine stepOk_val fun a W vs hW he hd => ?_
      have v8 : a.tmps[16]?.getD undef = .string ⟨([115, 116, 97, 116, 101, 115, 32] ++ Lib.itoa A.n ++ [32, 108, 101, 116, 116, 101, 114, 115, 32] ++ Lib.itoa A.m).toArray⟩ := dep_val hd 8 16 (by kernel_rfl) (by kernel_rfl)
      exact ⟨_, op_join ([115, 116, 97, 116, 101, 115, 32] ++ Lib.itoa A.n ++ [32, 108, 101, 116, 116, 101, 114, 115, 32] ++ Lib.itoa A.m) ([10, 102, 105, 114, 115, 116]) W rfl ((eval_tmp a 16).trans v8) rfl (by simp; omega), rfl⟩
    | 10, ho =>
      obtain rfl := Option.some.inj ho
      clear ho
      refine stepOk_val fun a W vs hW he hd => ?_
      have v9 := dep_val hd 9 17 (by kernel_rfl) (by kernel_rfl)
      exact ⟨_, rfl, (eval_tmp a 17).trans v9⟩
    | j + 11, ho => simp at ho
  · intro vs W hW hRR
    have h10 := hRR 10 (by decide)
    refine hK _ _ ?_
    have hv10 : vs 10 = .string ⟨([115, 116, 97, 116, 101, 115, 32] ++ Lib.itoa A.n ++ [32, 108, 101, 116, 116, 101, 114, 115, 32] ++ Lib.itoa A.m ++ [10, 102, 105, 114, 115, 116]).toArray⟩ := h10
    simp only [putPairs]
    rw [hv10]
    have hhl : ([115, 116, 97, 116, 101, 115, 32] ++ Lib.itoa A.n ++ [32, 108, 101, 116, 116, 101, 114, 115, 32] ++ Lib.itoa A.m ++ [10, 102, 105, 114, 115, 116]).length ≤ 100 := by simp; omega
    have HP1 := hide (show headT A ++ [102, 105, 114, 115, 116] = [115, 116, 97, 116, 101, 115, 32] ++ Lib.itoa A.n ++ [32, 108, 101, 116, 116, 101, 114, 115, 32] ++ Lib.itoa A.m ++ [10, 102, 105, 114, 115, 116] by simp [headT])
    generalize [115, 116, 97, 116, 101, 115, 32] ++ Lib.itoa A.n ++ [32, 108, 101, 116, 116, 101, 114, 115, 32] ++ Lib.itoa A.m ++ [10, 102, 105, 114, 115, 116] = T0 at *
    clear hv10 h10 hRR
    have HBW := hide (below_trans HB1.out hW)
    have q1 := cell_kept n2 hW
    have HW1 := hide hW
    have hnf : ∀ i, (numsT (A.first.take i)).length ≤ 4 * 300 := fun i => Nat.le_trans (numsT_len (zs := A.first.take i) (fun z hz => by have := HR.out.first z (List.mem_of_mem_take hz); omega)) (by rw [List.length_take]; omega)
    have HNF := hide hnf
    clear hW q1 hnf
    generalize hL1 : A.first.length = L1 at *
    have HL1 := hide hL1
    clear hL1
    go_wp2_with (fail)
    go_loopw [3, 4] (fun s3 s4 wr => ∃ (i : Nat), s4 = .int .i64 i ∧ i ≤ L1 ∧ s3 = .string ⟨(T0 ++ numsT (A.first.take i)).toArray⟩ ∧ Hid (Below W.heap.size W wr)) (fun _ s4 _ => L1 - (intOf s4).toNat)
    case atStart => exact ⟨0, rfl, Nat.zero_le _, by simp [numsT], hide (Below.refl _ _)⟩
    case round =>
      obtain ⟨i, rfl, hi, rfl, hb⟩ := hrel
      have q2 := cell_kept n2 (HW1.out.trans (hb.out.mono HW1.out.size))
      have hle := HNF.out i
      by_cases hlt : i < L1
      · have hls : i < A.first.length := by rw [HL1.out]; exact hlt
        obtain ⟨a', cap', e, _, hzz, _⟩ := HF.out.below (HBW.out.trans (hb.out.mono HBW.out.size))
        injection e with e1 e2 e3
        subst e1
        rcases hzz with hzz | ⟨b, off, e, hcell⟩
        · rw [hzz] at hls; simp at hls
        subst e
        have d0 := hcell i hls
        have hmem : A.first.getD i 0 ∈ A.first := by simp [List.getD, hls]
        have HZ := hide (show 0 ≤ A.first.getD i 0 ∧ A.first.getD i 0 < 1000 by have := HR.out.first _ hmem; omega)
        have HNT := hide (numsT_take A.first i hls)
        generalize A.first.getD i 0 = z at *
        generalize numsT (A.first.take i) = tx at *
        clear hcell e2 e3 hmem
        go_wp2_with (fail)
        refine (digits_int z HZ.out.1 HZ.out.2 _).mono ?_
        rintro e w6 ⟨rfl, hb6⟩
        have HB6 := hide (hb.out.trans (hb6.mono hb.out.size))
        have hs0 := text_size (T0 ++ tx) 5000 (by simp; omega)
        have hsD := text_size (Lib.itoa z) 3 (itoa_few_len HZ.out.1 HZ.out.2)
        have HE := hide (join_blank (T0 ++ tx) (Lib.itoa z))
        rw [List.append_assoc] at HE
        generalize (⟨(T0 ++ tx).toArray⟩ : ByteArray) = B0 at *
        generalize (⟨(Lib.itoa z).toArray⟩ : ByteArray) = D0 at *
        clear hb6 hb d0 q2
        go_wp2_with (fail)
        go_roundw
        case rel => exact ⟨i + 1, by go_num, by omega, by rw [HNT.out, ← HE.out], HB6⟩
        case measure => simp [intOf]; omega
      · obtain rfl : L1 = i := by omega
        have e1 : A.first.take L1 = A.first := by rw [← HL1.out]; exact List.take_length
        rw [e1] at hle ⊢
        have HTk := hide HP1.out
        have hs0 := text_size (T0 ++ numsT A.first) 5000 (by simp; omega)
        have HE := hide (texts_app (T0 ++ numsT A.first) [10, 103, 111, 111, 100])
        have hT2 : (T0 ++ numsT A.first ++ [10, 103, 111, 111, 100]).length ≤ 5000 := by simp; omega
        generalize hT2e : T0 ++ numsT A.first ++ [10, 103, 111, 111, 100] = T2 at *
        have HT2 := hide hT2e
        generalize (⟨(T0 ++ numsT A.first).toArray⟩ : ByteArray) = B0 at *
        have hlit : (⟨[10, 103, 111, 111, 100].toArray⟩ : ByteArray) = ⟨#[10, 103, 111, 111, 100]⟩ := rfl
        rw [hlit] at HE
        have HBr := hide hb.out
        have q3 := cell_kept n3 (HW1.out.trans (hb.out.mono HW1.out.size))
        have hng : ∀ i, i ≤ 300 → (numsT (goods A.good i)).length ≤ 4 * 300 := fun i hi => Nat.le_trans (numsT_len (fun z hz => by
          unfold goods at hz
          obtain ⟨q, hq, rfl⟩ := List.mem_map.1 hz
          have := List.mem_range.1 (List.mem_filter.1 hq).1
          omega)) (by have := goods_le A.good i; omega)
        have HNG := hide hng
        clear hb hng hlit hT2e
        generalize hL2 : A.good.length = L2 at *
        have HL2 := hide hL2
        clear hL2
        go_wp2_with (fail)
        rw [HE.out]
        go_loopw [3, 5] (fun s3 s5 wr2 => ∃ (i : Nat), s5 = .int .i64 i ∧ i ≤ L2 ∧ s3 = .string ⟨(T2 ++ numsT (goods A.good i)).toArray⟩ ∧ Hid (Below W.heap.size W wr2)) (fun _ s5 _ => L2 - (intOf s5).toNat)
        case atStart => exact ⟨0, rfl, Nat.zero_le _, by simp [goods, numsT], HBr⟩
        case round =>
          clear q2 q3
          obtain ⟨i, rfl, hi, rfl, hb⟩ := hrel
          have q3 := cell_kept n3 (HW1.out.trans (hb.out.mono HW1.out.size))
          have hle := HNG.out i (by omega)
          by_cases hlt : i < L2
          · have hls : i < A.good.length := by rw [HL2.out]; exact hlt
            obtain ⟨a', cap', e, _, hzz, _⟩ := HG.out.below (HBW.out.trans (hb.out.mono HBW.out.size))
            injection e with e1 e2 e3
            subst e1
            rcases hzz with hzz | ⟨b, off, e, hcell⟩
            · rw [hzz] at hls; simp at hls
            subst e
            have d0 := hcell i hls
            have HGS := hide (goods_succ A.good i)
            clear hcell e2 e3
            generalize A.good.getD i false = bg at *
            cases bg
            · go_wp2_with (fail)
              go_roundw
              case rel => exact ⟨i + 1, by go_num, by omega, by rw [HGS.out]; simp, hb⟩
              case measure => simp [intOf]; omega
            · have HNS := hide (numsT_snoc (goods A.good i) (i : Int))
              have HGS2 := hide (show goods A.good (i + 1) = goods A.good i ++ [(i : Int)] by rw [HGS.out]; simp)
              generalize numsT (goods A.good i) = tx at *
              go_wp2_with (fail)
              refine (digits_int (i : Int) (by omega) (by omega) _).mono ?_
              rintro e w6 ⟨rfl, hb6⟩
              have HB6 := hide (hb.out.trans (hb6.mono hb.out.size))
              have hs0 := text_size (T2 ++ tx) 9000 (by simp; omega)
              have hsD := text_size (Lib.itoa (i : Int)) 3 (itoa_few_len (by omega) (by omega))
              have HE := hide (join_blank (T2 ++ tx) (Lib.itoa (i : Int)))
              rw [List.append_assoc] at HE
              generalize (⟨(T2 ++ tx).toArray⟩ : ByteArray) = B1 at *
              generalize (⟨(Lib.itoa (i : Int)).toArray⟩ : ByteArray) = D1 at *
              clear hb6 hb d0 q3
              go_wp2_with (fail)
              go_roundw
              case rel => exact ⟨i + 1, by go_num, by omega, by rw [HGS2.out, HNS.out, ← HE.out], HB6⟩
              case measure => simp [intOf]; omega
          · obtain rfl : L2 = i := by omega
            have hs0 := text_size (T2 ++ numsT (goods A.good L2)) 9000 (by simp; omega)
            have HE := hide (texts_app (T2 ++ numsT (goods A.good L2)) [10])
            have hT3 : (T2 ++ numsT (goods A.good L2) ++ [10]).length ≤ 9000 := by simp; omega
            generalize hT3e : T2 ++ numsT (goods A.good L2) ++ [10] = T3 at *
            have HT3 := hide hT3e
            generalize (⟨(T2 ++ numsT (goods A.good L2)).toArray⟩ : ByteArray) = B1 at *
            have hlit : (⟨[10].toArray⟩ : ByteArray) = ⟨#[10]⟩ := rfl
            rw [hlit] at HE
            have HBr := hide hb.out
            have q4 := cell_kept n4 (HW1.out.trans (hb.out.mono HW1.out.size))
            have hsr : ∀ s ∈ A.steps, 0 ≤ s.f ∧ s.f < 1000 ∧ 0 ≤ s.l ∧ s.l < 1000 ∧ 0 ≤ s.t ∧ s.t < 1000 := fun s hs => by have := HR.out.steps s hs; omega
            have HSR := hide hsr
            have HLT := hide (fun i => stepsT_len (l := A.steps.take i) (fun s hs => hsr s (List.mem_of_mem_take hs)))
            clear hb hlit hT3e hsr
            generalize hL3 : A.steps.length = L3 at *
            have HL3 := hide hL3
            clear hL3
            go_wp2_with (fail)
            rw [HE.out]
            go_loopw [3, 6] (fun s3 s6 wr => ∃ (i : Nat), s6 = .int .i64 i ∧ i ≤ L3 ∧ s3 = .string ⟨(T3 ++ (A.steps.take i).flatMap stepT).toArray⟩ ∧ Hid (Below W.heap.size W wr)) (fun _ s6 _ => L3 - (intOf s6).toNat)
            case atStart => exact ⟨0, rfl, Nat.zero_le _, by simp, HBr⟩
            case round =>
              clear q3 q4
              obtain ⟨i, rfl, hi, rfl, hb⟩ := hrel
              have q4 := cell_kept n4 (HW1.out.trans (hb.out.mono HW1.out.size))
              have hle : ((A.steps.take i).flatMap stepT).length ≤ 12 * i := Nat.le_trans (HLT.out i) (by rw [List.length_take]; omega)
              by_cases hlt : i < L3
              · have hls : i < A.steps.length := by rw [HL3.out]; exact hlt
                obtain ⟨a', cap', e, _, hzz, _⟩ := HS.out.below (HBW.out.trans (hb.out.mono HBW.out.size))
                injection e with e1 e2 e3
                subst e1
                rcases hzz with hzz | ⟨b, off, e, hcell⟩
                · rw [hzz] at hls; simp at hls
                subst e
                obtain ⟨d0, d1, d2⟩ := hcell i hls
                have hmem : A.steps.getD i stp0 ∈ A.steps := by simp [List.getD, hls]
                have hz := HSR.out _ hmem
                have HST := hide (steps_take A.steps i hls)
                generalize A.steps.getD i stp0 = s at *
                have hTT : (T3 ++ (A.steps.take i).flatMap stepT).length ≤ 100000 := by rw [List.length_append]; omega
                have HST2 := hide (show T3 ++ (A.steps.take (i + 1)).flatMap stepT = (T3 ++ (A.steps.take i).flatMap stepT) ++ stepT s by rw [HST.out, List.append_assoc])
                generalize T3 ++ (A.steps.take i).flatMap stepT = TT at *
                have l1 := itoa_few_len (z := s.f) (by omega) (by omega)
                have l2 := itoa_few_len (z := s.l) (by omega) (by omega)
                have l3 := itoa_few_len (z := s.t) (by omega) (by omega)
                clear hcell e2 e3 hmem
                go_wp2_with (fail)
                rename_i K2 hK2
                obtain ⟨w2, hw2⟩ : ∃ w2, w2 = wr.alloc (Obj.cells #[.int .i64 s.f, .int .i64 s.l, .int .i64 s.t] 81) := ⟨_, rfl⟩
                rw [← hw2]
                have hx2 := one_new wr (Obj.cells #[.int .i64 s.f, .int .i64 s.l, .int .i64 s.t] 81)
                rw [← hw2] at hx2
                have m0 := cell_of_row _ _ 0 _ _ _ hx2
                have m1 := cell_of_row _ _ 1 _ _ _ hx2
                have m2 := cell_of_row _ _ 2 _ _ _ hx2
                have HB2 := hide (show Below W.heap.size W w2 by rw [hw2]; exact hb.out.alloc hb.out.size _)
                clear hw2 hx2 d0 d1 d2 hb q4
                refine wp_region_told [(0, 67), (1, 68), (2, 69), (3, 70), (4, 71), (5, 72), (6, 73), (7, 74), (8, 75), (9, 76), (10, 77), (11, 78), (12, 79), (13, 80), (14, 81), (15, 82), (16, 3)] (fun W => Below w2.heap.size w2 W) (psR s wr.heap.size TT) (by kernel_rfl) (by kernel_rfl) (by kernel_rfl) (Below.drew (Below.refl _ _)) ?_ ?_
                · intro j o ho
                  match j, ho with
                  | 0, ho =>
                    obtain rfl := Option.some.inj ho
                    exact stepOk_val fun a W vs hW he hd => ⟨_, rfl, he 3 (by kernel_rfl)⟩
                  | 1, ho =>
                    obtain rfl := Option.some.inj ho
                    clear ho
                    refine stepOk_val fun a W vs hW he hd => ?_
                    have e1 : a.tmps[7]?.getD undef = .pointer (some ⟨wr.heap.size, 0, none⟩) := free_val he 7 (by kernel_rfl)
                    exact ⟨.pointer (some ⟨wr.heap.size, 0, none⟩), by simp [execOp, go_sem, e1], rfl⟩
                  | 2, ho =>
                    obtain rfl := Option.some.inj ho
                    clear ho
                    refine stepOk_val fun a W vs hW he hd => ?_
                    have v1 : a.tmps[68]?.getD undef = .pointer (some ⟨wr.heap.size, 0, none⟩) := dep_val hd 1 68 (by kernel_rfl) (by kernel_rfl)
                    have c0 := cell_kept m0 hW
                    exact ⟨.int .i64 s.f, by simp [execOp, go_sem, v1, c0], rfl⟩
                  | 3, ho =>
                    obtain rfl := Option.some.inj ho
                    clear ho
                    refine stepOk_call fun a W vs hW he hd => ?_
                    have v2 : a.tmps[69]?.getD undef = .int .i64 s.f := dep_val hd 2 69 (by kernel_rfl) (by kernel_rfl)
                    refine ⟨52, #[.int .i64 s.f], by simp [execOp, go_sem, v2], (digits_int s.f (by omega) (by omega) W).mono ?_⟩
                    rintro e W' ⟨rfl, hb⟩
                    exact ⟨_, rfl, below_trans hW hb, rfl, fun j x h => h⟩
                  | 4, ho =>
                    obtain rfl := Option.some.inj ho
                    clear ho
                    refine stepOk_val fun a W vs hW he hd => ?_
                    have v3 : a.tmps[70]?.getD undef = .string ⟨(Lib.itoa s.f).toArray⟩ := dep_val hd 3 70 (by kernel_rfl) (by kernel_rfl)
                    exact ⟨_, op_join (Lib.itoa s.f) ([32]) W rfl ((eval_tmp a 70).trans v3) rfl (by simp; omega), rfl⟩
                  | 5, ho =>
                    obtain rfl := Option.some.inj ho
                    clear ho
                    refine stepOk_val fun a W vs hW he hd => ?_
                    have e1 : a.tmps[7]?.getD undef = .pointer (some ⟨wr.heap.size, 0, none⟩) := free_val he 7 (by kernel_rfl)
                    exact ⟨.pointer (some ⟨wr.heap.size, 1, none⟩), by simp [execOp, go_sem, e1], rfl⟩
                  | 6, ho =>
                    obtain rfl := Option.some.inj ho
                    clear ho
                    refine stepOk_val fun a W vs hW he hd => ?_
                    have v5 : a.tmps[72]?.getD undef = .pointer (some ⟨wr.heap.size, 1, none⟩) := dep_val hd 5 72 (by kernel_rfl) (by kernel_rfl)
                    have c0 := cell_kept m1 hW
                    exact ⟨.int .i64 s.l, by simp [execOp, go_sem, v5, c0], rfl⟩
                  | 7, ho =>
                    obtain rfl := Option.some.inj ho
                    clear ho
                    refine stepOk_call fun a W vs hW he hd => ?_
                    have v6 : a.tmps[73]?.getD undef = .int .i64 s.l := dep_val hd 6 73 (by kernel_rfl) (by kernel_rfl)
                    refine ⟨52, #[.int .i64 s.l], by simp [execOp, go_sem, v6], (digits_int s.l (by omega) (by omega) W).mono ?_⟩
                    rintro e W' ⟨rfl, hb⟩
                    exact ⟨_, rfl, below_trans hW hb, rfl, fun j x h => h⟩
                  | 8, ho =>
                    obtain rfl := Option.some.inj ho
                    clear ho
                    refine stepOk_val fun a W vs hW he hd => ?_
                    have v4 : a.tmps[71]?.getD undef = .string ⟨(Lib.itoa s.f ++ [32]).toArray⟩ := dep_val hd 4 71 (by kernel_rfl) (by kernel_rfl)
                    have v7 : a.tmps[74]?.getD undef = .string ⟨(Lib.itoa s.l).toArray⟩ := dep_val hd 7 74 (by kernel_rfl) (by kernel_rfl)
                    exact ⟨_, op_join (Lib.itoa s.f ++ [32]) (Lib.itoa s.l) W rfl ((eval_tmp a 71).trans v4) ((eval_tmp a 74).trans v7) (by simp; omega), rfl⟩
                  | 9, ho =>
                    obtain rfl := Option.some.inj ho
                    clear ho
                    refine stepOk_val fun a W vs hW he hd => ?_
                    have v8 : a.tmps[75]?.getD undef = .string ⟨(Lib.itoa s.f ++ [32] ++ Lib.itoa s.l).toArray⟩ := dep_val hd 8 75 (by kernel_rfl) (by kernel_rfl)
                    exact ⟨_, op_join (Lib.itoa s.f ++ [32] ++ Lib.itoa s.l) ([32]) W rfl ((eval_tmp a 75).trans v8) rfl (by simp; omega), rfl⟩
                  | 10, ho =>
                    obtain rfl := Option.some.inj ho
                    clear ho
                    refine stepOk_val fun a W vs hW he hd => ?_
                    have e1 : a.tmps[7]?.getD undef = .pointer (some ⟨wr.heap.size, 0, none⟩) := free_val he 7 (by kernel_rfl)
                    exact ⟨.pointer (some ⟨wr.heap.size, 2, none⟩), by simp [execOp, go_sem, e1], rfl⟩
                  | 11, ho =>
                    obtain rfl := Option.some.inj ho
                    clear ho
                    refine stepOk_val fun a W vs hW he hd => ?_
                    have v10 : a.tmps[77]?.getD undef = .pointer (some ⟨wr.heap.size, 2, none⟩) := dep_val hd 10 77 (by kernel_rfl) (by kernel_rfl)
                    have c0 := cell_kept m2 hW
                    exact ⟨.int .i64 s.t, by simp [execOp, go_sem, v10, c0], rfl⟩
                  | 12, ho =>
                    obtain rfl := Option.some.inj ho
                    clear ho
                    refine stepOk_call fun a W vs hW he hd => ?_
                    have v11 : a.tmps[78]?.getD undef = .int .i64 s.t := dep_val hd 11 78 (by kernel_rfl) (by kernel_rfl)
                    refine ⟨52, #[.int .i64 s.t], by simp [execOp, go_sem, v11], (digits_int s.t (by omega) (by omega) W).mono ?_⟩
                    rintro e W' ⟨rfl, hb⟩
                    exact ⟨_, rfl, below_trans hW hb, rfl, fun j x h => h⟩
                  | 13, ho =>
                    obtain rfl := Option.some.inj ho
                    clear ho
                    refine stepOk_val fun a W vs hW he hd => ?_
                    have v9 : a.tmps[76]?.getD undef = .string ⟨(Lib.itoa s.f ++ [32] ++ Lib.itoa s.l ++ [32]).toArray⟩ := dep_val hd 9 76 (by kernel_rfl) (by kernel_rfl)
                    have v12 : a.tmps[79]?.getD undef = .string ⟨(Lib.itoa s.t).toArray⟩ := dep_val hd 12 79 (by kernel_rfl) (by kernel_rfl)
                    exact ⟨_, op_join (Lib.itoa s.f ++ [32] ++ Lib.itoa s.l ++ [32]) (Lib.itoa s.t) W rfl ((eval_tmp a 76).trans v9) ((eval_tmp a 79).trans v12) (by simp; omega), rfl⟩
                  | 14, ho =>
                    obtain rfl := Option.some.inj ho
                    clear ho
                    refine stepOk_val fun a W vs hW he hd => ?_
                    have v13 : a.tmps[80]?.getD undef = .string ⟨(Lib.itoa s.f ++ [32] ++ Lib.itoa s.l ++ [32] ++ Lib.itoa s.t).toArray⟩ := dep_val hd 13 80 (by kernel_rfl) (by kernel_rfl)
                    exact ⟨_, op_join (Lib.itoa s.f ++ [32] ++ Lib.itoa s.l ++ [32] ++ Lib.itoa s.t) ([10]) W rfl ((eval_tmp a 80).trans v13) rfl (by simp; omega), rfl⟩
                  | 15, ho =>
                    obtain rfl := Option.some.inj ho
                    clear ho
                    refine stepOk_val fun a W vs hW he hd => ?_
                    have v0 : a.tmps[67]?.getD undef = .string ⟨(TT).toArray⟩ := dep_val hd 0 67 (by kernel_rfl) (by kernel_rfl)
                    have v14 : a.tmps[81]?.getD undef = .string ⟨(Lib.itoa s.f ++ [32] ++ Lib.itoa s.l ++ [32] ++ Lib.itoa s.t ++ [10]).toArray⟩ := dep_val hd 14 81 (by kernel_rfl) (by kernel_rfl)
                    exact ⟨_, op_join (TT) (Lib.itoa s.f ++ [32] ++ Lib.itoa s.l ++ [32] ++ Lib.itoa s.t ++ [10]) W rfl ((eval_tmp a 67).trans v0) ((eval_tmp a 81).trans v14) (by simp; omega), rfl⟩
                  | 16, ho =>
                    obtain rfl := Option.some.inj ho
                    clear ho
                    refine stepOk_val fun a W vs hW he hd => ?_
                    have v15 := dep_val hd 15 82 (by kernel_rfl) (by kernel_rfl)
                    exact ⟨_, rfl, (eval_tmp a 82).trans v15⟩
                  | j + 17, ho => simp at ho
                · intro vs2 W2 hW2 hRR2
                  have h16 := hRR2 16 (by decide)
                  refine hK2 _ _ ?_
                  have hv16 : vs2 16 = .string ⟨(TT ++ stepT s).toArray⟩ := by rw [stepT_eq]; exact h16
                  simp only [putPairs]
                  rw [hv16]
                  have HB3 := hide (HB2.out.trans (hW2.mono HB2.out.size))
                  clear hv16 h16 hRR2 hW2 m0 m1 m2
                  go_wp2_with (fail)
                  go_roundw
                  case rel => exact ⟨i + 1, by go_num, by omega, by rw [HST2.out], HB3⟩
                  case measure => simp [intOf]; omega
              · obtain rfl : L3 = i := by omega
                have e1 : A.steps.take L3 = A.steps := by rw [← HL3.out]; exact List.take_length
                rw [e1]
                have HPA := hide (show prtA A = T3 ++ A.steps.flatMap stepT by
                  unfold prtA
                  rw [HP1.out, ← HT3.out, ← HT2.out, HL2.out]
                  simp)
                generalize T3 ++ A.steps.flatMap stepT = TT at *
                have HBf := hide (HBW.out.trans (hb.out.mono HBW.out.size))
                clear hb
                go_wp2_with (fail)
                go_ret
                exact ⟨by rw [HPA.out]; rfl, HBf.out⟩
end Go.Proofs.YtpiacnnifdjlkaaDoor

namespace Go.Proofs.YtpiacnnifdjlkaaDoor

/-- How many states below s are kept. -/
def rk (f : Nat → Bool) (s : Nat) : Nat := ((List.range s).filter f).length

theorem rk_succ (f : Nat → Bool) (s : Nat) : rk f (s + 1) = rk f s + (if f s = true then 1 else 0) := by
  unfold rk
  rw [List.range_succ, List.filter_append, List.length_append]
  cases h : f s <;> simp [h]

theorem rk_le (f : Nat → Bool) (s : Nat) : rk f s ≤ s := by
  unfold rk
  have := List.length_filter_le f (List.range s)
  rwa [List.length_range] at this

theorem rk_mono (f : Nat → Bool) {s t : Nat} (h : s ≤ t) : rk f s ≤ rk f t := by
  induction t with
  | zero => obtain rfl : s = 0 := by omega
            exact Nat.le_refl _
  | succ t ih =>
    by_cases e : s = t + 1
    · rw [e]; exact Nat.le_refl _
    · rw [rk_succ]
      have := ih (by omega)
      omega

/-- A kept state's number is below those of kept states behind it. -/
theorem rk_lt (f : Nat → Bool) {s t : Nat} (h : s < t) (hf : f s = true) : rk f s < rk f t := by
  have h1 := rk_mono f (show s + 1 ≤ t from h)
  rw [rk_succ, if_pos hf] at h1
  omega

def keptGood (f : Nat → Bool) (gd : List Bool) (s : Nat) : List Bool := ((List.range s).filter f).map fun q => gd.getD q false

theorem keptGood_succ (f : Nat → Bool) (gd : List Bool) (s : Nat) : keptGood f gd (s + 1) = keptGood f gd s ++ (if f s = true then [gd.getD s false] else []) := by
  unfold keptGood
  rw [List.range_succ, List.filter_append, List.map_append]
  cases h : f s <;> simp [h]

theorem keptGood_len (f : Nat → Bool) (gd : List Bool) (s : Nat) : (keptGood f gd s).length = rk f s := by simp [keptGood, rk]

def keptFirst (f : Nat → Bool) (l : List Int) : List Int := l.map fun x => (rk f x.toNat : Int)

theorem keptFirst_take (f : Nat → Bool) (l : List Int) (i : Nat) (h : i < l.length) : keptFirst f (l.take (i + 1)) = keptFirst f (l.take i) ++ [(rk f (l.getD i 0).toNat : Int)] := by
  unfold keptFirst
  rw [List.take_add_one, List.getElem?_eq_getElem h, List.map_append]
  simp [List.getD, h]

def keptStep (f : Nat → Bool) (s : Stp) : Stp := ⟨rk f s.f.toNat, s.l, rk f s.t.toNat⟩

def keptSteps (f : Nat → Bool) (l : List Stp) : List Stp := (l.filter fun s => f s.f.toNat).map (keptStep f)

theorem keptSteps_take (f : Nat → Bool) (l : List Stp) (i : Nat) (h : i < l.length) : keptSteps f (l.take (i + 1)) = keptSteps f (l.take i) ++ (if f (l.getD i stp0).f.toNat = true then [keptStep f (l.getD i stp0)] else []) := by
  unfold keptSteps
  rw [List.take_add_one, List.getElem?_eq_getElem h, List.filter_append, List.map_append]
  have e : l.getD i stp0 = l[i] := by simp [List.getD, h]
  rw [e]
  cases hf : f l[i].f.toNat <;> simp [hf]

/-- What is left of an automaton of N states. -/
def onlyA (f : Nat → Bool) (N : Nat) (A : Aut) : Aut := ⟨rk f N, A.m, keptFirst f A.first, keptGood f A.good N, keptSteps f A.steps⟩
end Go.Proofs.YtpiacnnifdjlkaaDoor
