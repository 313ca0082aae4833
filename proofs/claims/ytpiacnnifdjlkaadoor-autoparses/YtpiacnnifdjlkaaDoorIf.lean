/-
  The reference's Digits: a number's numeral.
-/
import Derived.Test.YtpiacnnifdjlkaaDoorRc
/-
  What write of package auto answers: an automaton's text.
-/
namespace Go.Proofs.YtpiacnnifdjlkaaDoor
open Go.RowKit Go.Sort

def headT (A : Aut) : List UInt8 := [115, 116, 97, 116, 101, 115, 32] ++ Lib.itoa A.n ++ [32] ++ [108, 101, 116, 116, 101, 114, 115] ++ [32] ++ Lib.itoa A.m ++ [10]
def stepT (s : Stp) : List UInt8 := Lib.itoa s.f ++ numsT [s.l, s.t] ++ [10]

/-- An automaton's text. -/
def prtA (A : Aut) : List UInt8 := headT A ++ [102, 105, 114, 115, 116] ++ numsT A.first ++ [10] ++ [103, 111, 111, 100] ++ numsT (goods A.good A.good.length) ++ [10] ++ A.steps.flatMap stepT

/-- What the operations of the region that writes the head leave: number j. -/
def headR (A : Aut) (cb : Nat) (j : Nat) (v : Value) (_ : World) : Prop :=
  match j with
  | 0 => v = .pointer (some ⟨cb, 0, none⟩)
  | 1 => v = .int .i64 A.n
  | 2 => v = .string ⟨(Lib.itoa A.n).toArray⟩
  | 3 => v = .string ⟨([115, 116, 97, 116, 101, 115, 32] ++ Lib.itoa A.n).toArray⟩
  | 4 => v = .string ⟨([115, 116, 97, 116, 101, 115, 32] ++ Lib.itoa A.n ++ [32]).toArray⟩
  | 5 => v = .string ⟨([115, 116, 97, 116, 101, 115, 32] ++ Lib.itoa A.n ++ [32] ++ [108, 101, 116, 116, 101, 114, 115]).toArray⟩
  | 6 => v = .string ⟨([115, 116, 97, 116, 101, 115, 32] ++ Lib.itoa A.n ++ [32] ++ [108, 101, 116, 116, 101, 114, 115] ++ [32]).toArray⟩
  | 7 => v = .pointer (some ⟨cb, 1, none⟩)
  | 8 => v = .int .i64 A.m
  | 9 => v = .string ⟨(Lib.itoa A.m).toArray⟩
  | 10 => v = .string ⟨([115, 116, 97, 116, 101, 115, 32] ++ Lib.itoa A.n ++ [32] ++ [108, 101, 116, 116, 101, 114, 115] ++ [32] ++ Lib.itoa A.m).toArray⟩
  | 11 => v = .string ⟨([115, 116, 97, 116, 101, 115, 32] ++ Lib.itoa A.n ++ [32] ++ [108, 101, 116, 116, 101, 114, 115] ++ [32] ++ Lib.itoa A.m ++ [10]).toArray⟩
  | 12 => v = .string ⟨([115, 116, 97, 116, 101, 115, 32] ++ Lib.itoa A.n ++ [32] ++ [108, 101, 116, 116, 101, 114, 115] ++ [32] ++ Lib.itoa A.m ++ [10]).toArray⟩
  | _ => True

theorem itoa_short (z : Int) (h0 : 0 ≤ z) (h1 : z < 1000) : (Lib.itoa z).length ≤ 3 := itoa_few_len h0 h1

theorem two_ints {w : World} {g : Nat} {x y : Int} {fz : Nat × Nat} (h : w.heap[g]? = some (.cells #[.int .i64 x, .int .i64 y] 3 fz)) : IntSl w (.slice (some ⟨g, 0, none⟩) [x, y].length 2) [x, y] :=
  ⟨_, _, rfl, by unfold maxLen; simp, Or.inr ⟨g, 0, rfl, fun i hi => by
    have e : i = 0 ∨ i = 1 := by simp at hi; omega
    rcases e with rfl | rfl
    · simp [World.cell?, h]
    · simp [World.cell?, h]⟩, (fun h => by cases h), by simp⟩

theorem steps_take (l : List Stp) (i : Nat) (h : i < l.length) : (l.take (i + 1)).flatMap stepT = (l.take i).flatMap stepT ++ stepT (l.getD i stp0) := by
  rw [List.take_add_one, List.getElem?_eq_getElem h, List.flatMap_append]
  simp [List.getD, h]

theorem stepT_len {s : Stp} (h : 0 ≤ s.f ∧ s.f < 1000 ∧ 0 ≤ s.l ∧ s.l < 1000 ∧ 0 ≤ s.t ∧ s.t < 1000) : (stepT s).length ≤ 12 := by
  have h1 := itoa_few_len h.1 h.2.1
  have h2 := numsT_len (zs := [s.l, s.t]) (fun z hz => by simp at hz; rcases hz with rfl | rfl <;> omega)
  unfold stepT
  simp only [List.length_append, List.length_cons, List.length_nil] at h2 ⊢
  omega

theorem stepsT_len {l : List Stp} (h : ∀ s ∈ l, 0 ≤ s.f ∧ s.f < 1000 ∧ 0 ≤ s.l ∧ s.l < 1000 ∧ 0 ≤ s.t ∧ s.t < 1000) : (l.flatMap stepT).length ≤ 12 * l.length := by
  induction l with
  | nil => simp
  | cons s r ih =>
    have h1 := stepT_len (h s (List.mem_cons_self ..))
    have h2 := ih (fun x hx => h x (List.mem_cons_of_mem _ hx))
    rw [List.flatMap_cons, List.length_append, List.length_cons]
    omega

/-- What a conversion of a text lays. -/
theorem conv_tm (W : World) (T : List UInt8) (hT : T.length ≤ 900000) : TM W.heap.size W ((W.alloc (Obj.cells (bytesRow ⟨T.toArray⟩ (grownCap W T.length 0 5)) 5 ((bytesRow ⟨T.toArray⟩ (grownCap W T.length 0 5)).size, (bytesRow ⟨T.toArray⟩ (grownCap W T.length 0 5)).size + 1))).drew) (.slice (some ⟨W.heap.size, 0, none⟩) T.length (grownCap W T.length 0 5)) T := by
  have hge := grownCap_ge W T.length 0 5
  have hle := grownCap_le_maxLen W T.length 0 5 (by unfold maxLen; omega)
  generalize grownCap W T.length 0 5 = cap at *
  have hs : (bytesRow ⟨T.toArray⟩ cap).size = cap := by
    simp [bytesRow, ByteArray.size]
    omega
  rw [hs]
  refine ⟨⟨W.heap.size, cap, _, _, rfl, Nat.le_refl _, heap_alloc_new W _, fun j hj h => by have := h.1; omega, hge, hle, hs, ?_⟩, Below.drew (below_new _ _), fun k o hk _ _ => heap_alloc_old W _ (Array.getElem?_eq_some_iff.1 hk).1 |>.trans hk, by show W.heap.size ≤ (W.heap.push _).size; simp⟩
  have e : (bytesRow ⟨T.toArray⟩ cap).toList = Lib.byteCells T ++ (Array.replicate (cap - (⟨T.toArray⟩ : ByteArray).size) (Value.int .u8 0)).toList := by
    simp [bytesRow, Lib.byteCells]
  rw [e, ← byteCells_len T]
  exact List.take_left

set_option maxRecDepth 100000 in
set_option maxHeartbeats 4000000 in
theorem write_any {w : World} {v : Value} {A : Aut} (hA : AutV w v A) (hR : Right A) (hfl : A.first.length ≤ 300) (ht : Lib.TabBelow Tryd.prog w.heap.size w "internal/strconv.uint64pow10" .u64 Lib.pow10Tab) :
    Calls Tryd.prog 47 #[v] w fun e w' => e = .returned (.string ⟨(prtA A).toArray⟩) ∧ Below w.heap.size w w' := by
  obtain ⟨fv, gv, sv, rfl, hF, hG, hS⟩ := hA
  have HF := hide hF
  have HG := hide hG
  have HS := hide hS
  have HT : Hid (∀ W, Below w.heap.size w W → Lib.TabIs Tryd.prog W "internal/strconv.uint64pow10" .u64 Lib.pow10Tab) := hide ht
  have hln := itoa_short A.n (by have := hR.n1; omega) (by have := hR.n3; omega)
  have hlm := itoa_short A.m (by have := hR.m1; omega) (by have := hR.m8; omega)
  have hn1 := hR.n1
  have hn3 := hR.n3
  have hm1 := hR.m1
  have hm8 := hR.m8
  have HR := hide hR
  have hnf := numsT_len (zs := A.first) (fun z hz => by have := hR.first z hz; have := hR.n3; omega)
  have hgl : A.good.length ≤ 300 := by have := hR.good; have := hR.n3; omega
  have hgg : ∀ z ∈ goods A.good A.good.length, 0 ≤ z ∧ z < 1000 := fun z hz => by
    unfold goods at hz
    obtain ⟨q, hq, rfl⟩ := List.mem_map.1 hz
    have := List.mem_range.1 (List.mem_filter.1 hq).1
    omega
  have hng := numsT_len hgg
  have hgl2 := goods_le A.good A.good.length
  have HGG := hide hgg
  have hst := hR.few
  clear hgg
  obtain ⟨a1, c1, rfl, -⟩ := hF
  obtain ⟨a2, c2, rfl, -⟩ := hG
  obtain ⟨a3, c3, rfl, -⟩ := hS
  clear hR ht
  go_enter Tryd.func47, Tryd.ntmps47
  go_wp2_with (fail)
  rename_i Q' K hK
  obtain ⟨w1, hw1⟩ : ∃ w1, w1 = w.alloc (Obj.cells #[.int .i64 A.n, .int .i64 A.m, .slice a1 A.first.length c1, .slice a2 A.good.length c2, .slice a3 A.steps.length c3] 26) := ⟨_, rfl⟩
  rw [← hw1]
  have hx := one_new w (Obj.cells #[.int .i64 A.n, .int .i64 A.m, .slice a1 A.first.length c1, .slice a2 A.good.length c2, .slice a3 A.steps.length c3] 26)
  rw [← hw1] at hx
  have n0 := cell_of_row _ _ 0 _ _ _ hx
  have n1 := cell_of_row _ _ 1 _ _ _ hx
  have n2 := cell_of_row _ _ 2 _ _ _ hx
  have n3 := cell_of_row _ _ 3 _ _ _ hx
  have n4 := cell_of_row _ _ 4 _ _ _ hx
  have HB1 := hide (show Below w.heap.size w w1 by rw [hw1]; exact below_new _ _)
  clear hw1
  refine wp_region_told [(0, 7), (1, 8), (2, 9), (3, 10), (4, 11), (5, 12), (6, 13), (7, 14), (8, 15), (9, 16), (10, 17), (11, 18), (12, 3)] (fun W => Below w1.heap.size w1 W) (headR A w.heap.size) (by kernel_rfl) (by kernel_rfl) (by kernel_rfl) (Below.drew (Below.refl _ _)) ?_ ?_
  · intro j o ho
    match j, ho with
    | 0, ho =>
      obtain rfl := Option.some.inj ho
      clear ho
      refine stepOk_val fun a W vs hW he hd => ?_
      have e1 : a.tmps[1]?.getD undef = .pointer (some ⟨w.heap.size, 0, none⟩) := free_val he 1 (by kernel_rfl)
      exact ⟨.pointer (some ⟨w.heap.size, 0, none⟩), by simp [execOp, go_sem, e1], rfl⟩
    | 1, ho =>
      obtain rfl := Option.some.inj ho
      clear ho
      refine stepOk_val fun a W vs hW he hd => ?_
      have v0 : a.tmps[7]?.getD undef = .pointer (some ⟨w.heap.size, 0, none⟩) := dep_val hd 0 7 (by kernel_rfl) (by kernel_rfl)
      have c0 := cell_kept n0 hW
      exact ⟨.int .i64 A.n, by simp [execOp, go_sem, v0, c0], rfl⟩
    | 2, ho =>
      obtain rfl := Option.some.inj ho
      clear ho
      refine stepOk_call fun a W vs hW he hd => ?_
      have v1 : a.tmps[8]?.getD undef = .int .i64 A.n := dep_val hd 1 8 (by kernel_rfl) (by kernel_rfl)
      refine ⟨84, #[.int .i64 A.n], by simp [execOp, go_sem, v1], (itoa_any A.n (by omega) (by omega) W (HT.out W (below_trans HB1.out hW))).mono ?_⟩
      rintro e W' ⟨rfl, hb⟩
      exact ⟨_, rfl, below_trans hW hb, rfl, fun j x h => h⟩
    | 3, ho =>
      obtain rfl := Option.some.inj ho
      clear ho
      refine stepOk_val fun a W vs hW he hd => ?_
      have v2 : a.tmps[9]?.getD undef = .string ⟨(Lib.itoa A.n).toArray⟩ := dep_val hd 2 9 (by kernel_rfl) (by kernel_rfl)
      exact ⟨_, op_join ([115, 116, 97, 116, 101, 115, 32]) (Lib.itoa A.n) W rfl rfl ((eval_tmp a 9).trans v2) (by simp; omega), rfl⟩
    | 4, ho =>
      obtain rfl := Option.some.inj ho
      clear ho
      refine stepOk_val fun a W vs hW he hd => ?_
      have v3 : a.tmps[10]?.getD undef = .string ⟨([115, 116, 97, 116, 101, 115, 32] ++ Lib.itoa A.n).toArray⟩ := dep_val hd 3 10 (by kernel_rfl) (by kernel_rfl)
      exact ⟨_, op_join ([115, 116, 97, 116, 101, 115, 32] ++ Lib.itoa A.n) ([32]) W rfl ((eval_tmp a 10).trans v3) rfl (by simp; omega), rfl⟩
    | 5, ho =>
      obtain rfl := Option.some.inj ho
      clear ho
      refine stepOk_val fun a W vs hW he hd => ?_
      have v4 : a.tmps[11]?.getD undef = .string ⟨([115, 116, 97, 116, 101, 115, 32] ++ Lib.itoa A.n ++ [32]).toArray⟩ := dep_val hd 4 11 (by kernel_rfl) (by kernel_rfl)
      exact ⟨_, op_join ([115, 116, 97, 116, 101, 115, 32] ++ Lib.itoa A.n ++ [32]) ([108, 101, 116, 116, 101, 114, 115]) W rfl ((eval_tmp a 11).trans v4) rfl (by simp; omega), rfl⟩
    | 6, ho =>
      obtain rfl := Option.some.inj ho
      clear ho
      refine stepOk_val fun a W vs hW he hd => ?_
      have v5 : a.tmps[12]?.getD undef = .string ⟨([115, 116, 97, 116, 101, 115, 32] ++ Lib.itoa A.n ++ [32] ++ [108, 101, 116, 116, 101, 114, 115]).toArray⟩ := dep_val hd 5 12 (by kernel_rfl) (by kernel_rfl)
      exact ⟨_, op_join ([115, 116, 97, 116, 101, 115, 32] ++ Lib.itoa A.n ++ [32] ++ [108, 101, 116, 116, 101, 114, 115]) ([32]) W rfl ((eval_tmp a 12).trans v5) rfl (by simp; omega), rfl⟩
    | 7, ho =>
      obtain rfl := Option.some.inj ho
      clear ho
      refine stepOk_val fun a W vs hW he hd => ?_
      have e1 : a.tmps[1]?.getD undef = .pointer (some ⟨w.heap.size, 0, none⟩) := free_val he 1 (by kernel_rfl)
      exact ⟨.pointer (some ⟨w.heap.size, 1, none⟩), by simp [execOp, go_sem, e1], rfl⟩
    | 8, ho =>
      obtain rfl := Option.some.inj ho
      clear ho
      refine stepOk_val fun a W vs hW he hd => ?_
      have v7 : a.tmps[14]?.getD undef = .pointer (some ⟨w.heap.size, 1, none⟩) := dep_val hd 7 14 (by kernel_rfl) (by kernel_rfl)
      have c1 := cell_kept n1 hW
      exact ⟨.int .i64 A.m, by simp [execOp, go_sem, v7, c1], rfl⟩
    | 9, ho =>
      obtain rfl := Option.some.inj ho
      clear ho
      refine stepOk_call fun a W vs hW he hd => ?_
      have v8 : a.tmps[15]?.getD undef = .int .i64 A.m := dep_val hd 8 15 (by kernel_rfl) (by kernel_rfl)
      refine ⟨84, #[.int .i64 A.m], by simp [execOp, go_sem, v8], (itoa_any A.m (by omega) (by omega) W (HT.out W (below_trans HB1.out hW))).mono ?_⟩
      rintro e W' ⟨rfl, hb⟩
      exact ⟨_, rfl, below_trans hW hb, rfl, fun j x h => h⟩
    | 10, ho =>
      obtain rfl := Option.some.inj ho
      clear ho
      refine stepOk_val fun a W vs hW he hd => ?_
      have v6 : a.tmps[13]?.getD undef = .string ⟨([115, 116, 97, 116, 101, 115, 32] ++ Lib.itoa A.n ++ [32] ++ [108, 101, 116, 116, 101, 114, 115] ++ [32]).toArray⟩ := dep_val hd 6 13 (by kernel_rfl) (by kernel_rfl)
      have v9 : a.tmps[16]?.getD undef = .string ⟨(Lib.itoa A.m).toArray⟩ := dep_val hd 9 16 (by kernel_rfl) (by kernel_rfl)
      exact ⟨_, op_join ([115, 116, 97, 116, 101, 115, 32] ++ Lib.itoa A.n ++ [32] ++ [108, 101, 116, 116, 101, 114, 115] ++ [32]) (Lib.itoa A.m) W rfl ((eval_tmp a 13).trans v6) ((eval_tmp a 16).trans v9) (by simp; omega), rfl⟩
    | 11, ho =>
      obtain rfl := Option.some.inj ho
      clear ho
      refine stepOk_val fun a W vs hW he hd => ?_
      have v10 : a.tmps[17]?.getD undef = .string ⟨([115, 116, 97, 116, 101, 115, 32] ++ Lib.itoa A.n ++ [32] ++ [108, 101, 116, 116, 101, 114, 115] ++ [32] ++ Lib.itoa A.m).toArray⟩ := dep_val hd 10 17 (by kernel_rfl) (by kernel_rfl)
      exact ⟨_, op_join ([115, 116, 97, 116, 101, 115, 32] ++ Lib.itoa A.n ++ [32] ++ [108, 101, 116, 116, 101, 114, 115] ++ [32] ++ Lib.itoa A.m) ([10]) W rfl ((eval_tmp a 17).trans v10) rfl (by simp; omega), rfl⟩
    | 12, ho =>
      obtain rfl := Option.some.inj ho
      clear ho
      refine stepOk_val fun a W vs hW he hd => ?_
      have v11 := dep_val hd 11 18 (by kernel_rfl) (by kernel_rfl)
      exact ⟨_, rfl, (eval_tmp a 18).trans v11⟩
    | j + 13, ho => simp at ho
  · intro vs W hW hRR
    have h12 := hRR 12 (by decide)
    refine hK _ _ ?_
    have hv12 : vs 12 = .string ⟨(headT A).toArray⟩ := h12
    simp only [putPairs]
    rw [hv12]
    clear hv12 h12 hRR
    have hcv := run_bytes_of_string (P := Tryd.prog) W 9 106 5 ⟨(headT A).toArray⟩ (by kernel_rfl) (by kernel_rfl) (by kernel_rfl)
    have hhl : (headT A).length ≤ 100 := by unfold headT; simp; omega
    have HC := hide (conv_tm W (headT A) (by omega))
    have HBW := hide (below_trans HB1.out hW)
    have HW1 := hide hW
    have HTB : Hid (Lib.TabBelow Tryd.prog W.heap.size W "internal/strconv.uint64pow10" .u64 Lib.pow10Tab) := hide fun w' hb => HT.out w' (HBW.out.trans (hb.mono HBW.out.size))
    have hsz : (⟨(headT A).toArray⟩ : ByteArray).size = (headT A).length := by simp [ByteArray.size]
    rw [hsz] at hcv
    clear hW hsz
    go_wp2_with (at_builtin; refine wpM_text HC.out rfl (.tmp 20) (.const (.string ⟨#[102, 105, 114, 115, 116]⟩)) [102, 105, 114, 115, 116] rfl rfl rfl (by simp; omega) ?_; intro v5 w5 h5; have H5 := hide h5; clear h5; have q2 := cell_kept n2 (HW1.out.trans (H5.out.below.mono HW1.out.size)))
    refine (appendNumbers_tm H5.out.again a1 c1 (fun w6 hb _ => HF.out.below (HBW.out.trans ((H5.out.below.trans hb).mono HBW.out.size))) (fun z hz => by have := HR.out.first z hz; omega) (by simp; omega) (HTB.out.on H5.out.below)).mono ?_
    rintro e w6 ⟨v6, rfl, h6⟩
    have H6 := hide (H5.out.trans h6)
    clear h6 H5 q2 hcv HC
    go_wp2_with (at_builtin; refine wpM_text H6.out rfl (.tmp 26) (.const (.string ⟨#[103, 111, 111, 100]⟩)) [103, 111, 111, 100] rfl rfl rfl (by simp; omega) ?_; intro v7 w7 h7; have H7 := hide h7; clear h7; have q0 := cell_kept n0 (HW1.out.trans (H7.out.below.mono HW1.out.size)); have q1 := cell_kept n1 (HW1.out.trans (H7.out.below.mono HW1.out.size)); have q2 := cell_kept n2 (HW1.out.trans (H7.out.below.mono HW1.out.size)); have q3 := cell_kept n3 (HW1.out.trans (H7.out.below.mono HW1.out.size)); have q4 := cell_kept n4 (HW1.out.trans (H7.out.below.mono HW1.out.size)))
    refine (goodStates_any A.n A.m a1 a2 a3 A.first.length A.steps.length c1 c2 c3 (HG.out.below (HBW.out.trans (H7.out.below.mono HBW.out.size))) hgl).mono ?_
    rintro e w8 ⟨v8, rfl, ho8, hb8⟩
    have H8 := hide (show TM W.heap.size W w8 v7 _ from ⟨H7.out.row.below hb8, H7.out.below.trans (hb8.mono H7.out.hB), fun k o hk h1 h2 => (hb8.block k (Array.getElem?_eq_some_iff.1 (H7.out.kept k o hk h1 h2)).1).trans (H7.out.kept k o hk h1 h2), Nat.le_trans H7.out.hB hb8.size⟩)
    have hv8 : ∃ a8 c8, v8 = .slice a8 (goods A.good A.good.length).length c8 := by
      rcases ho8.2 with ⟨rfl, h0⟩ | ⟨g, cap, cur, rfl, -⟩
      · rw [h0]; exact ⟨none, 0, rfl⟩
      · exact ⟨_, _, rfl⟩
    obtain ⟨a8, c8, rfl⟩ := hv8
    have HO8 := hide ho8
    clear ho8 hb8 q0 q1 q2 q3 q4 H7
    go_wp2_with (fail)
    refine (appendNumbers_tm H8.out.again a8 c8 (fun w9 _ hk => intSl_others HO8.out hk) HGG.out (by simp; omega) (HTB.out.on H8.out.below)).mono ?_
    rintro e w9 ⟨v9, rfl, h9⟩
    have H9 := hide (H8.out.trans h9)
    have q4 := cell_kept n4 (HW1.out.trans (H9.out.below.mono HW1.out.size))
    clear h9 H8 HO8 H6
    go_wp2_with (fail)
    generalize hbs : headT A ++ [102, 105, 114, 115, 116] ++ numsT A.first ++ [10] ++ [103, 111, 111, 100] ++ numsT (goods A.good A.good.length) ++ [10] = bs9 at *
    have hb9 : bs9.length ≤ 5000 := by rw [← hbs]; simp; omega
    have HBS := hide hbs
    have hsr : ∀ s ∈ A.steps, 0 ≤ s.f ∧ s.f < 1000 ∧ 0 ≤ s.l ∧ s.l < 1000 ∧ 0 ≤ s.t ∧ s.t < 1000 := fun s hs => by have := HR.out.steps s hs; omega
    have HSR := hide hsr
    have HLT := hide (fun i => stepsT_len (l := A.steps.take i) (fun s hs => hsr s (List.mem_of_mem_take hs)))
    clear hbs hsr
    generalize hL : A.steps.length = L at *
    have HL := hide hL
    clear hL
    go_loopw [4, 35] (fun s4 s35 wr => ∃ (i : Nat), s35 = .int .i64 i ∧ i ≤ L ∧ Hid (TM W.heap.size W wr s4 (bs9 ++ (A.steps.take i).flatMap stepT))) (fun _ s35 _ => L - (intOf s35).toNat)
    case atStart => exact ⟨0, rfl, Nat.zero_le _, hide (by simpa using H9.out)⟩
    case round =>
      clear H9 q4
      obtain ⟨i, rfl, hi, ht⟩ := hrel
      have hle : ((A.steps.take i).flatMap stepT).length ≤ 12 * i := Nat.le_trans (HLT.out i) (by rw [List.length_take]; omega)
      by_cases hlt : i < L
      · have hls : i < A.steps.length := by rw [HL.out]; exact hlt
        have hS2 := HS.out.below (HBW.out.trans (ht.out.below.mono HBW.out.size))
        obtain ⟨a', cap', e, _, hzz, _⟩ := hS2
        injection e with e1 e2 e3
        subst e1
        rcases hzz with hzz | ⟨b, off, e, hcell⟩
        · rw [hzz] at hls; simp at hls
        subst e
        obtain ⟨d0, d1, d2⟩ := hcell i hls
        have hmem : A.steps.getD i stp0 ∈ A.steps := by simp [List.getD, hls]
        have HZ := hide (HSR.out _ hmem)
        have HST := hide (steps_take A.steps i hls)
        generalize A.steps.getD i stp0 = s at *
        generalize (A.steps.take i).flatMap stepT = tx at *
        obtain ⟨sf, sl, st⟩ := s
        dsimp only at *
        clear hcell e2 e3 hmem
        go_wp2_with (fail)
        have hx6 := one_new wr (Obj.cells #[.int .i64 sf, .int .i64 sl, .int .i64 st] 81)
        refine (appendInt_few (ht.out.alloc _).again sf (by have := HZ.out; omega) (by have := HZ.out; omega) (by simp; omega) (HT.out _ (HBW.out.trans ((ht.out.alloc _).below.mono HBW.out.size)))).mono ?_
        rintro e w10 ⟨v10, rfl, h10⟩
        have hx10 := h10.box hx6 (by decide)
        have p1 := cell_of_row _ _ 1 _ _ _ hx10
        have p2 := cell_of_row _ _ 2 _ _ _ hx10
        have H10 := hide ((ht.out.alloc _).trans h10)
        clear h10 d0 d1 d2 ht hx6 hx10
        go_wp2_with (fail)
        have hx11 := one_new w10 (Obj.cells #[.int .i64 sl, .int .i64 st] 3)
        refine (appendNumbers_tm (zs := [sl, st]) (H10.out.alloc _).again (some ⟨w10.heap.size, 0, none⟩) 2 (fun w12 _ hk => two_ints (hk _ _ hx11 (by simp) (fun c f e => by cases e))) (fun z hz => by have := HZ.out; simp at hz; rcases hz with rfl | rfl <;> omega) (by have := itoa_few_len (z := sf) (by have := HZ.out; omega) (by have := HZ.out; omega); simp; omega) (HTB.out.on (H10.out.alloc _).below)).mono ?_
        rintro e w12 ⟨v12, rfl, h12⟩
        have H12 := hide ((H10.out.alloc _).trans h12)
        clear h12 H10 p1 p2 hx11
        go_wp2_with (fail)
        go_roundw
        case rel =>
          refine ⟨i + 1, by go_num, by omega, hide ?_⟩
          rw [HST.out]
          have := H12.out
          unfold stepT
          simpa using this
        case measure => simp [intOf]; omega
      · obtain rfl : L = i := by omega
        have e1 : A.steps.take L = A.steps := by rw [← HL.out]; exact List.take_length
        rw [e1] at ht
        have HP := hide (show prtA A = bs9 ++ A.steps.flatMap stepT by unfold prtA; rw [HBS.out])
        generalize bs9 ++ A.steps.flatMap stepT = TT at *
        have HTM := hide ht.out
        obtain ⟨g, cap, cur, fz, hv, -⟩ := ht.out.row
        have hcells := ht.out.row
        rw [hv] at hcells ⊢
        have hcv2 := run_convert_bytes_back (P := Tryd.prog) wr 106 9 5 ⟨g, 0, none⟩ cap TT (by kernel_rfl) (by kernel_rfl) (by kernel_rfl) (fun j hj => hcells.cells j _ (by rw [Lib.byteCells, List.getElem?_map, List.getElem?_eq_getElem hj]; rfl))
        clear hcells ht
        go_wp2_with (fail)
        go_ret
        exact ⟨by rw [HP.out]; rfl, HBW.out.trans (HTM.out.below.mono HBW.out.size)⟩
end Go.Proofs.YtpiacnnifdjlkaaDoor

/-
  What Print of package auto answers.
-/
namespace Go.Proofs.YtpiacnnifdjlkaaDoor
open Go.RowKit Go.Sort

theorem rising_from {n : Int} : ∀ (l : List Int) (p : Int), (∀ x ∈ l, x < n) → (p :: l).Pairwise (fun a b => a < b) → (l.length : Int) ≤ max 0 (n - 1 - p)
  | [], _, _, _ => by simp; omega
  | x :: r, p, hb, hp => by
    have hx := hb x (List.mem_cons_self ..)
    obtain ⟨h1, h2⟩ := List.pairwise_cons.1 hp
    have hpx := h1 x (List.mem_cons_self ..)
    have ih := rising_from r x (fun y hy => hb y (List.mem_cons_of_mem _ hy)) h2
    rw [List.length_cons]
    omega

theorem rising_pairs {l : List Int} (h : fallsB l = false) : l.Pairwise (fun a b => a < b) := by
  rw [List.pairwise_iff_getElem]
  have hs : ∀ i, i + 1 < l.length → l.getD i 0 < l.getD (i + 1) 0 := fun i hi => by
    unfold fallsB at h
    have := List.any_eq_false.1 h i (List.mem_range.2 (by omega))
    simpa using this
  have hall : ∀ d i, i + d + 1 < l.length → l.getD i 0 < l.getD (i + d + 1) 0 := by
    intro d
    induction d with
    | zero => intro i hi; exact hs i hi
    | succ d ih =>
      intro i hi
      have h1 := ih i (by omega)
      have h2 := hs (i + d + 1) (by omega)
      rw [show i + (d + 1) + 1 = i + d + 1 + 1 by omega]
      omega
  intro i j hi hj hij
  have := hall (j - i - 1) i (by omega)
  rw [show i + (j - i - 1) + 1 = j by omega] at this
  simpa [List.getD, hi, hj] using this

theorem first_few {A : Aut} (h : chkA A = 0) : A.first.length ≤ 300 := by
  have hR := right_of h
  have hn := hR.n3
  have hf : fallsB A.first = false := by
    unfold chkA at h
    by_cases h1 : A.n < 1 ∨ 300 < A.n ∨ A.m < 1 ∨ 8 < A.m
    · rw [if_pos h1] at h; omega
    rw [if_neg h1] at h
    by_cases h2 : (A.good.length : Int) ≠ A.n
    · rw [if_pos h2] at h; omega
    rw [if_neg h2] at h
    by_cases h3 : 6000 < A.steps.length
    · rw [if_pos h3] at h; omega
    rw [if_neg h3] at h
    by_cases h4 : chkFirst A.n A.first ≠ 0
    · rw [if_pos h4] at h; omega
    have h4' : chkFirst A.n A.first = 0 := by omega
    unfold chkFirst at h4'
    cases hb : fallsB A.first with
    | false => rfl
    | true =>
      rw [hb] at h4'
      split at h4'
      · omega
      · simp at h4'
  have hp := rising_pairs hf
  have := rising_from A.first (-1) (fun x hx => (hR.first x hx).2) (List.pairwise_cons.2 ⟨fun x hx => by have := (hR.first x hx).1; omega, hp⟩)
  omega

set_option maxRecDepth 100000 in
set_option maxHeartbeats 2000000 in
theorem autoPrint_any {w : World} {v : Value} {A : Aut} (hA : AutV w v A) (ht : Lib.TabBelow Tryd.prog w.heap.size w "internal/strconv.uint64pow10" .u64 Lib.pow10Tab) :
    Calls Tryd.prog 13 #[v] w fun e w' => e = .returned (.tuple #[.string ⟨(if chkA A = 0 then prtA A else []).toArray⟩, .int .i64 (chkA A)]) ∧ Below w.heap.size w w' := by
  have HA := hide hA
  have HC : Hid (∀ W, Below w.heap.size w W → Calls Tryd.prog 19 #[v] W fun e w' => e = .returned (.int .i64 (chkA A)) ∧ Below W.heap.size W w') := hide fun W hb => autoCheck_any (hA.below hb)
  have HW : Hid (chkA A = 0 → ∀ W, Below w.heap.size w W → Calls Tryd.prog 47 #[v] W fun e w' => e = .returned (.string ⟨(prtA A).toArray⟩) ∧ Below W.heap.size W w') := hide fun hq W hb => write_any (hA.below hb) (right_of hq) (first_few hq) (fun w' hb' => ht w' (hb.trans (hb'.mono hb.size)))
  obtain ⟨fv, gv, sv, rfl, -⟩ := hA
  clear ht
  by_cases hq : chkA A = 0
  · have HW := hide (HW.out hq)
    rw [if_pos hq]
    rw [hq] at HC ⊢
    clear hq
    go_enter Tryd.func13, Tryd.ntmps13
    go_wp2_with (fail)
    refine (HC.out _ (below_new _ _)).mono ?_
    rintro e w1 ⟨rfl, hb1⟩
    have hx := one_new w (Obj.cells #[.int .i64 A.n, .int .i64 A.m, fv, gv, sv] 26)
    have j0 := cell_kept (cell_of_row _ _ 0 _ _ _ hx) hb1
    have j1 := cell_kept (cell_of_row _ _ 1 _ _ _ hx) hb1
    have j2 := cell_kept (cell_of_row _ _ 2 _ _ _ hx) hb1
    have j3 := cell_kept (cell_of_row _ _ 3 _ _ _ hx) hb1
    have j4 := cell_kept (cell_of_row _ _ 4 _ _ _ hx) hb1
    have HB1 := hide (below_trans (below_new _ _) hb1)
    clear hb1 hx
    go_wp2_with (fail)
    refine (HW.out _ HB1.out).mono ?_
    rintro e w2 ⟨rfl, hb2⟩
    have HB2 := hide (below_trans HB1.out hb2)
    clear hb2
    go_wp2_with (fail)
    go_ret2
    exact ⟨rfl, HB2.out⟩
  · rw [if_neg hq]
    have bq : (chkA A != 0) = true := by simpa using hq
    generalize chkA A = c at *
    clear hq
    go_enter Tryd.func13, Tryd.ntmps13
    go_wp2_with (fail)
    refine (HC.out _ (below_new _ _)).mono ?_
    rintro e w1 ⟨rfl, hb1⟩
    have HB1 := hide (below_trans (below_new _ _) hb1)
    clear hb1
    go_wp2_with (fail)
    go_ret2
    exact ⟨rfl, HB1.out⟩
end Go.Proofs.YtpiacnnifdjlkaaDoor

namespace Go.Proofs.YtpiacnnifdjlkaaDoor
open Go.RowKit Go.Sort

theorem digit_conv (w : World) (t : TypeId) (c : UInt8) (z : Int) (hz : z = (c.toNat : Int)) : (convert 106 9 (.slice (some ⟨w.heap.size, 0, none⟩) 1 1)).run Tryd.prog (w.alloc (Obj.cells #[.int .u8 z] t)) = .ok (.string ⟨[c].toArray⟩) (w.alloc (Obj.cells #[.int .u8 z] t)) := by
  subst hz
  exact run_convert_bytes_back (P := Tryd.prog) (w.alloc (Obj.cells #[.int .u8 (c.toNat : Int)] t)) 106 9 5 ⟨w.heap.size, 0, none⟩ 1 [c] (by kernel_rfl) (by kernel_rfl) (by kernel_rfl) (fun j hj => by
    have : j = 0 := by simpa using hj
    subst this
    rw [add_none]
    exact cell_of_row _ _ 0 _ _ _ (one_new w (Obj.cells #[.int .u8 (c.toNat : Int)] t)))

theorem decDigits_more {u : Nat} (h : ¬ u < 10) : Lib.decDigits u = Lib.decDigits (u / 10) ++ Lib.decDigits (u % 10) := by
  rw [Lib.decDigits, dif_neg h, Lib.decDigits_one (show u % 10 < 10 by omega)]

theorem nDigits_le : ∀ (k u : Nat), u < 10 ^ (k + 1) → Lib.nDigits u ≤ k + 1
  | 0, u, h => by rw [Lib.nDigits_small (by simpa using h)]; omega
  | k + 1, u, h => by
    by_cases h1 : u < 10
    · rw [Lib.nDigits_small h1]; omega
    · rw [Lib.nDigits_big h1]
      have := nDigits_le k (u / 10) (by rw [Nat.pow_succ] at h; omega)
      omega

set_option maxRecDepth 100000 in
set_option maxHeartbeats 2000000 in
theorem digits_any : ∀ (u : Nat), u < 1000000000 → ∀ (w : World), Calls Tryd.prog 52 #[.int .i64 (u : Int)] w fun e w' => e = .returned (.string ⟨(Lib.decDigits u).toArray⟩) ∧ Below w.heap.size w w' := by
  intro u
  induction u using Nat.strongRecOn with
  | ind u ih =>
    intro hu w
    by_cases h : u < 10
    · rw [Lib.decDigits_one h]
      have hc : (UInt8.ofNat (48 + u)).toNat = 48 + u := by simp [UInt8.toNat_ofNat]; omega
      have hcv := digit_conv w 5 (UInt8.ofNat (48 + u)) (48 + (u : Int)) (by rw [hc]; omega)
      have hw : IntKind.u8.wrap (48 + (u : Int)) = 48 + (u : Int) := by
        have e : ∀ k : Nat, k < 10 → IntKind.u8.wrap (48 + (k : Int)) = 48 + (k : Int) := by decide
        exact e u h
      have hlt : (u : Int) < 10 := by omega
      generalize UInt8.ofNat (48 + u) = c at *
      clear ih hc
      go_enter Tryd.func52, Tryd.ntmps52
      go_wp2_with (fail)
      go_ret
      exact ⟨rfl, below_new _ _⟩
    · have H1 := hide (ih (u / 10) (by omega) (by omega))
      have H2 := hide (ih (u % 10) (by omega) (by omega))
      have l1 := nDigits_le 8 (u / 10) (by omega)
      have l2 := nDigits_le 8 (u % 10) (by omega)
      rw [← Lib.decDigits_length] at l1 l2
      rw [decDigits_more h, ← texts_app]
      have hlt : ¬ ((u : Int) < 10) := by omega
      have e1 : Int.tdiv (u : Int) 10 = ((u / 10 : Nat) : Int) := by rw [Int.tdiv_eq_ediv_of_nonneg (by omega)]; omega
      have e2 : Int.tmod (u : Int) 10 = ((u % 10 : Nat) : Int) := by rw [Int.tmod_eq_emod_of_nonneg (by omega)]; omega
      have s1 : (⟨(Lib.decDigits (u / 10)).toArray⟩ : ByteArray).size ≤ 1000 := by show (Lib.decDigits (u / 10)).toArray.size ≤ 1000; simp; omega
      have s2 : (⟨(Lib.decDigits (u % 10)).toArray⟩ : ByteArray).size ≤ 1000 := by show (Lib.decDigits (u % 10)).toArray.size ≤ 1000; simp; omega
      generalize hq : u / 10 = q at *
      generalize hr : u % 10 = r at *
      generalize (⟨(Lib.decDigits q).toArray⟩ : ByteArray) = T1 at *
      generalize (⟨(Lib.decDigits r).toArray⟩ : ByteArray) = T2 at *
      have hq1 : q ≤ 1000000000 := by omega
      have hr1 : r ≤ 10 := by omega
      clear ih hq hr l1 l2
      go_enter Tryd.func52, Tryd.ntmps52
      go_wp2_with (fail)
      refine (H1.out _).mono ?_
      rintro e w1 ⟨rfl, hb1⟩
      have HB1 := hide hb1
      clear hb1
      go_wp2_with (fail)
      refine (H2.out _).mono ?_
      rintro e w2 ⟨rfl, hb2⟩
      have HB2 := hide (below_trans HB1.out hb2)
      clear hb2
      go_wp2_with (fail)
      go_ret
      exact ⟨rfl, HB2.out⟩
end Go.Proofs.YtpiacnnifdjlkaaDoor
