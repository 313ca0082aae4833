/-
  Package include: a word again and again; where it leads; from where it is taken.
-/
import Derived.Test.YtpiacnnifdjlkabDoorXe
/-
  Package include: boxes behind one another; the box of nothing.
-/
namespace Go.Proofs.YtpiacnnifdjlkabDoor
open Go.RowKit Go.Sort

theorem exec_load {o : Oper} {a : Act} {w : World} {ty : TypeId} {x : Operand} {p v : Value} (hL : (Instr.loadAt ty p).run Tryd.prog w = .ok v w) (ho : o.op = .load ty x) (hx : a.eval x = p) : (execOp a.eval o).run Tryd.prog w = .ok (.value v) w := by
  unfold execOp
  simp only [ho, hx, Sem.run_bind, hL, Sem.run_pure, Result.andThen_ok]

theorem exec_build {o : Oper} {a : Act} {w : World} {ty : TypeId} {parts : Array (Nat × Operand)} {ps : Array (Nat × Value)} {v : Value} (hB : (Instr.build ty ps).run Tryd.prog w = .ok v w) (ho : o.op = .build ty parts) (hp : parts.map (fun (i, x) => (i, a.eval x)) = ps) : (execOp a.eval o).run Tryd.prog w = .ok (.value v) w := by
  unfold execOp
  simp only [ho, hp, Sem.run_bind, hB, Sem.run_pure, Result.andThen_ok]

/-- The two halves of a box. -/
theorem half_load {w : World} {b : Nat} {x : Bx} (hx : bOk x) (h : w.heap[b]? = some (.cells (bxE x).toArray 111)) :
    (Instr.loadAt 109 (.pointer (some ⟨b, 0, none⟩))).run Tryd.prog w = .ok (tV x.1) w ∧ (Instr.loadAt 109 (.pointer (some ⟨b, 9, none⟩))).run Tryd.prog w = .ok (tV x.2) w := by
  have h1 := load_part h 0 tabUnder tabSize (by simp [bxE_len hx])
  have h2 := load_part h 9 tabUnder tabSize (by simp [bxE_len hx])
  have hn : x.1.drop 9 = [] := List.drop_eq_nil_of_le (by rw [hx.1.1]; omega)
  rw [h1, h2]
  unfold bxE
  rw [List.toList_toArray, tE_part, tE_part, List.drop_zero, List.take_append_of_le_length (by rw [hx.1.1]; omega), List.take_of_length_le (l := x.1) (by rw [hx.1.1]; omega), List.drop_append_of_le_length (by rw [hx.1.1]; omega), hn, List.nil_append, List.take_of_length_le (by rw [hx.2.1]; omega)]
  exact ⟨rfl, rfl⟩

theorem bx_one (b : Bx) : (bxE b).toArray.all (·.oneCell') = true := tE_one _

set_option maxRecDepth 100000 in
set_option maxHeartbeats 1000000 in
theorem boxThen_any {w : World} {b c : Bx} (hb : bOk b) (hc : bOk c) :
    Calls Tryd.prog 91 #[bxV b, bxV c] w fun e w' => e = .returned (bxV (thenT b.1 c.1, thenT b.2 c.2)) ∧ Below w.heap.size w w' := by
  have HB := hide hb
  have HC := hide hc
  have HR := hide (three_alloc w (Obj.cells (bxE b).toArray 111) (Obj.cells (bxE c).toArray 111) (Obj.cells #[Value.int .u8 0, Value.int .u8 0, Value.int .u8 0, Value.int .u8 0, Value.int .u8 0, Value.int .u8 0, Value.int .u8 0, Value.int .u8 0, Value.int .u8 0, Value.int .u8 0, Value.int .u8 0, Value.int .u8 0, Value.int .u8 0, Value.int .u8 0, Value.int .u8 0, Value.int .u8 0, Value.int .u8 0, Value.int .u8 0] 111))
  have HW : Hid (Below w.heap.size w (((w.alloc (Obj.cells (bxE b).toArray 111)).alloc (Obj.cells (bxE c).toArray 111)).alloc (Obj.cells #[Value.int .u8 0, Value.int .u8 0, Value.int .u8 0, Value.int .u8 0, Value.int .u8 0, Value.int .u8 0, Value.int .u8 0, Value.int .u8 0, Value.int .u8 0, Value.int .u8 0, Value.int .u8 0, Value.int .u8 0, Value.int .u8 0, Value.int .u8 0, Value.int .u8 0, Value.int .u8 0, Value.int .u8 0, Value.int .u8 0] 111))) := hide (by repeat (first | exact Below.refl _ _ | assumption | refine below_drewN ?_ _ | refine Below.drew ?_ | refine Below.alloc ?_ (by simp <;> omega) _ | refine below_trans ?_ (by assumption)))
  have HSZ : Hid ((((w.alloc (Obj.cells (bxE b).toArray 111)).alloc (Obj.cells (bxE c).toArray 111)).alloc (Obj.cells #[Value.int .u8 0, Value.int .u8 0, Value.int .u8 0, Value.int .u8 0, Value.int .u8 0, Value.int .u8 0, Value.int .u8 0, Value.int .u8 0, Value.int .u8 0, Value.int .u8 0, Value.int .u8 0, Value.int .u8 0, Value.int .u8 0, Value.int .u8 0, Value.int .u8 0, Value.int .u8 0, Value.int .u8 0, Value.int .u8 0] 111)).heap.size = w.heap.size + 1 + 1 + 1) := hide (by simp)
  have hd : bOk (thenT b.1 c.1, thenT b.2 c.2) := ⟨tOk_then hb.1 hc.1, tOk_then hb.2 hc.2⟩
  have HD := hide (bxE_len hd)
  clear hb hc hd
  go_enter Tryd.func91, Tryd.ntmps91
  go_upto_region 1 with (fail)
  generalize (((w.alloc (Obj.cells (bxE b).toArray 111)).alloc (Obj.cells (bxE c).toArray 111)).alloc (Obj.cells #[Value.int .u8 0, Value.int .u8 0, Value.int .u8 0, Value.int .u8 0, Value.int .u8 0, Value.int .u8 0, Value.int .u8 0, Value.int .u8 0, Value.int .u8 0, Value.int .u8 0, Value.int .u8 0, Value.int .u8 0, Value.int .u8 0, Value.int .u8 0, Value.int .u8 0, Value.int .u8 0, Value.int .u8 0, Value.int .u8 0] 111)) = W0 at *
  refine wp_region_vals 11 [(0, 5), (1, 6), (2, 7), (3, 8), (4, 9), (5, 10), (6, 11), (7, 12), (8, 13), (9, 14), (10, 15)] (fun j => match j with | 0 => .pointer (some ⟨w.heap.size, 0, none⟩) | 1 => tV b.1 | 2 => .pointer (some ⟨w.heap.size + 1, 0, none⟩) | 3 => tV c.1 | 4 => tV (thenT b.1 c.1) | 5 => .pointer (some ⟨w.heap.size, 9, none⟩) | 6 => tV b.2 | 7 => .pointer (some ⟨w.heap.size + 1, 9, none⟩) | 8 => tV c.2 | 9 => tV (thenT b.2 c.2) | 10 => bxV (thenT b.1 c.1, thenT b.2 c.2) | _ => undef) (fun W => Below W0.heap.size W0 W) 111 4 15 (w.heap.size + 1 + 1) (bxE (thenT b.1 c.1, thenT b.2 c.2)).toArray (by kernel_rfl) (by kernel_rfl) (by kernel_rfl) (by kernel_rfl) (by kernel_rfl) (by kernel_rfl) (by kernel_rfl) (by omega) (Below.drew (Below.refl _ _)) ?_ (by kernel_rfl) (by kernel_rfl) (fun W hW => ?_) (fun W hW => ?_)
  · intro j o hj ho
    match j, ho with
    | 0, ho =>
      obtain rfl := Option.some.inj ho
      intro a W hW he hd
      have e2 : a.tmps[2]?.getD undef = .pointer (some ⟨w.heap.size, 0, none⟩) := he 2 (by kernel_rfl)
      exact Or.inl (by simp [execOp, go_sem, e2])
    | 1, ho =>
      obtain rfl := Option.some.inj ho
      intro a W hW he hd
      have v0 : a.tmps[5]?.getD undef = .pointer (some ⟨w.heap.size, 0, none⟩) := hd 0 5 (by kernel_rfl) (by kernel_rfl)
      exact Or.inl (exec_load (half_load HB.out (belowRow hW HR.out.1)).1 rfl ((eval_tmp a 5).trans v0))
    | 2, ho =>
      obtain rfl := Option.some.inj ho
      intro a W hW he hd
      have e3 : a.tmps[3]?.getD undef = .pointer (some ⟨w.heap.size + 1, 0, none⟩) := he 3 (by kernel_rfl)
      exact Or.inl (by simp [execOp, go_sem, e3])
    | 3, ho =>
      obtain rfl := Option.some.inj ho
      intro a W hW he hd
      have v2 : a.tmps[7]?.getD undef = .pointer (some ⟨w.heap.size + 1, 0, none⟩) := hd 2 7 (by kernel_rfl) (by kernel_rfl)
      exact Or.inl (exec_load (half_load HC.out (belowRow hW HR.out.2.1)).1 rfl ((eval_tmp a 7).trans v2))
    | 4, ho =>
      obtain rfl := Option.some.inj ho
      intro a W hW he hd
      have v1 : a.tmps[6]?.getD undef = tV b.1 := hd 1 6 (by kernel_rfl) (by kernel_rfl)
      have v3 : a.tmps[8]?.getD undef = tV c.1 := hd 3 8 (by kernel_rfl) (by kernel_rfl)
      refine Or.inr ⟨101, #[tV b.1, tV c.1], by simp [execOp, go_sem, v1, v3], (then_any HB.out.1 HC.out.1).mono ?_⟩
      rintro e W' ⟨rfl, hb'⟩
      exact ⟨rfl, below_trans hW hb'⟩
    | 5, ho =>
      obtain rfl := Option.some.inj ho
      intro a W hW he hd
      have e2 : a.tmps[2]?.getD undef = .pointer (some ⟨w.heap.size, 0, none⟩) := he 2 (by kernel_rfl)
      exact Or.inl (by simp [execOp, go_sem, e2])
    | 6, ho =>
      obtain rfl := Option.some.inj ho
      intro a W hW he hd
      have v5 : a.tmps[10]?.getD undef = .pointer (some ⟨w.heap.size, 9, none⟩) := hd 5 10 (by kernel_rfl) (by kernel_rfl)
      exact Or.inl (exec_load (half_load HB.out (belowRow hW HR.out.1)).2 rfl ((eval_tmp a 10).trans v5))
    | 7, ho =>
      obtain rfl := Option.some.inj ho
      intro a W hW he hd
      have e3 : a.tmps[3]?.getD undef = .pointer (some ⟨w.heap.size + 1, 0, none⟩) := he 3 (by kernel_rfl)
      exact Or.inl (by simp [execOp, go_sem, e3])
    | 8, ho =>
      obtain rfl := Option.some.inj ho
      intro a W hW he hd
      have v7 : a.tmps[12]?.getD undef = .pointer (some ⟨w.heap.size + 1, 9, none⟩) := hd 7 12 (by kernel_rfl) (by kernel_rfl)
      exact Or.inl (exec_load (half_load HC.out (belowRow hW HR.out.2.1)).2 rfl ((eval_tmp a 12).trans v7))
    | 9, ho =>
      obtain rfl := Option.some.inj ho
      intro a W hW he hd
      have v6 : a.tmps[11]?.getD undef = tV b.2 := hd 6 11 (by kernel_rfl) (by kernel_rfl)
      have v8 : a.tmps[13]?.getD undef = tV c.2 := hd 8 13 (by kernel_rfl) (by kernel_rfl)
      refine Or.inr ⟨101, #[tV b.2, tV c.2], by simp [execOp, go_sem, v6, v8], (then_any HB.out.2 HC.out.2).mono ?_⟩
      rintro e W' ⟨rfl, hb'⟩
      exact ⟨rfl, below_trans hW hb'⟩
    | 10, ho =>
      obtain rfl := Option.some.inj ho
      intro a W hW he hd
      have v4 : a.tmps[9]?.getD undef = tV (thenT b.1 c.1) := hd 4 9 (by kernel_rfl) (by kernel_rfl)
      have v9 : a.tmps[14]?.getD undef = tV (thenT b.2 c.2) := hd 9 14 (by kernel_rfl) (by kernel_rfl)
      exact Or.inl (exec_build (build_box (tOk_then HB.out.1 HC.out.1).1 (tOk_then HB.out.2 HC.out.2).1 W) rfl (by simp [eval_tmp, v4, v9]))
    | n + 11, _ => exact absurd hj (by omega)
  · exact store_row (belowRow hW HR.out.2.2) (by rw [boxSize]; simp [HD.out]) (by simp [HD.out]) (bx_one _)
  · have hrow := setRow_heap W (w.heap.size + 1 + 1) _ (bxE (thenT b.1 c.1, thenT b.2 c.2)).toArray _ _ (belowRow hW HR.out.2.2)
    have hbl := below_setRow (below_trans HW.out hW) (b := w.heap.size + 1 + 1) (by omega) (bxE (thenT b.1 c.1, thenT b.2 c.2)).toArray
    simp only [putPairs, List.setIfInBounds_toArray, List.set_cons_succ, List.set_cons_zero]
    go_wp2_with (fail)
    exact bodyPost_ret (v := bxV (thenT b.1 c.1, thenT b.2 c.2)) (res_cell (loadV_row hrow boxUnder rfl (by rw [boxSize]; simp [HD.out])) Tryd.results91 rfl) rfl ⟨rfl, hbl⟩

end Go.Proofs.YtpiacnnifdjlkabDoor

/-
  Package include: the box of nothing; the table of a letter.
-/
namespace Go.Proofs.YtpiacnnifdjlkabDoor
open Go.RowKit Go.Sort

/-- The box of nothing, step by step. -/
def noSt : Nat → List Nat
  | 0 => List.replicate 18 0
  | k + 1 => (noSt k).set (9 * (k / 3) + 4 * (k % 3)) 1

theorem noSt_len : ∀ k, (noSt k).length = 18
  | 0 => by simp [noSt]
  | k + 1 => by rw [noSt, List.length_set]; exact noSt_len k

theorem noSt_all : noSt 6 = idT ++ idT := by decide

/-- What nothing has made. -/
structure NoI (w wr : World) (o : List Nat) : Prop where
  bl : Below w.heap.size w wr
  sz : w.heap.size + 2 ≤ wr.heap.size
  br : wr.heap[w.heap.size]? = some (.cells #[Value.int .u8 0, Value.int .u8 0, Value.int .u8 0, Value.int .u8 0, Value.int .u8 0, Value.int .u8 0, Value.int .u8 0, Value.int .u8 0, Value.int .u8 0, Value.int .u8 0, Value.int .u8 0, Value.int .u8 0, Value.int .u8 0, Value.int .u8 0, Value.int .u8 0, Value.int .u8 0, Value.int .u8 0, Value.int .u8 0] 111)
  bo : wr.heap[w.heap.size + 1]? = some (.cells (tE o).toArray 111)

theorem NoI.put {w wr : World} {o : List Nat} (h : NoI w wr o) (k v : Nat) : NoI w (wr.setCell ⟨w.heap.size + 1, k, none⟩ (.int .u8 (v : Nat))) (o.set k v) := by
  have hs := h.sz
  refine ⟨h.bl.setCell (by show w.heap.size ≤ w.heap.size + 1; omega) _, by simpa [World.setCell] using h.sz, ?_, ?_⟩
  · rw [heap_setCell_other _ _ _ _ (by show w.heap.size ≠ w.heap.size + 1; omega)]; exact h.br
  · have := box_set h.bo k (.int .u8 (v : Nat))
    rw [this, ← tE_set]
    simp

set_option maxRecDepth 100000 in
set_option maxHeartbeats 1000000 in
theorem nothing_any {w : World} :
    Calls Tryd.prog 90 #[] w fun e w' => e = .returned (bxV bxNone) ∧ Below w.heap.size w w' := by
  have HS : Hid (NoI w ((w.alloc (Obj.cells #[Value.int .u8 0, Value.int .u8 0, Value.int .u8 0, Value.int .u8 0, Value.int .u8 0, Value.int .u8 0, Value.int .u8 0, Value.int .u8 0, Value.int .u8 0, Value.int .u8 0, Value.int .u8 0, Value.int .u8 0, Value.int .u8 0, Value.int .u8 0, Value.int .u8 0, Value.int .u8 0, Value.int .u8 0, Value.int .u8 0] 111)).alloc (Obj.cells #[Value.int .u8 0, Value.int .u8 0, Value.int .u8 0, Value.int .u8 0, Value.int .u8 0, Value.int .u8 0, Value.int .u8 0, Value.int .u8 0, Value.int .u8 0, Value.int .u8 0, Value.int .u8 0, Value.int .u8 0, Value.int .u8 0, Value.int .u8 0, Value.int .u8 0, Value.int .u8 0, Value.int .u8 0, Value.int .u8 0] 111)) (noSt 0)) := hide (by
    obtain ⟨h1, h2⟩ := two_alloc w (Obj.cells #[Value.int .u8 0, Value.int .u8 0, Value.int .u8 0, Value.int .u8 0, Value.int .u8 0, Value.int .u8 0, Value.int .u8 0, Value.int .u8 0, Value.int .u8 0, Value.int .u8 0, Value.int .u8 0, Value.int .u8 0, Value.int .u8 0, Value.int .u8 0, Value.int .u8 0, Value.int .u8 0, Value.int .u8 0, Value.int .u8 0] 111) (Obj.cells #[Value.int .u8 0, Value.int .u8 0, Value.int .u8 0, Value.int .u8 0, Value.int .u8 0, Value.int .u8 0, Value.int .u8 0, Value.int .u8 0, Value.int .u8 0, Value.int .u8 0, Value.int .u8 0, Value.int .u8 0, Value.int .u8 0, Value.int .u8 0, Value.int .u8 0, Value.int .u8 0, Value.int .u8 0, Value.int .u8 0] 111)
    exact ⟨(by repeat (first | exact Below.refl _ _ | assumption | refine below_drewN ?_ _ | refine Below.drew ?_ | refine Below.alloc ?_ (by simp <;> omega) _ | refine below_trans ?_ (by assumption))), by simp, h1, h2⟩)
  go_enter Tryd.func90, Tryd.ntmps90
  go_wp2_with (fail)
  generalize ((w.alloc (Obj.cells #[Value.int .u8 0, Value.int .u8 0, Value.int .u8 0, Value.int .u8 0, Value.int .u8 0, Value.int .u8 0, Value.int .u8 0, Value.int .u8 0, Value.int .u8 0, Value.int .u8 0, Value.int .u8 0, Value.int .u8 0, Value.int .u8 0, Value.int .u8 0, Value.int .u8 0, Value.int .u8 0, Value.int .u8 0, Value.int .u8 0] 111)).alloc (Obj.cells #[Value.int .u8 0, Value.int .u8 0, Value.int .u8 0, Value.int .u8 0, Value.int .u8 0, Value.int .u8 0, Value.int .u8 0, Value.int .u8 0, Value.int .u8 0, Value.int .u8 0, Value.int .u8 0, Value.int .u8 0, Value.int .u8 0, Value.int .u8 0, Value.int .u8 0, Value.int .u8 0, Value.int .u8 0, Value.int .u8 0] 111)) = W0 at *
  go_loopw [4] (fun iv wr => ∃ i : Nat, i ≤ 2 ∧ iv = .int .i64 i ∧ Hid (NoI w wr (noSt (3 * i)))) (fun iv _ => 2 - (intOf iv).toNat)
  case atStart => exact ⟨0, by omega, rfl, HS⟩
  case round =>
    obtain ⟨i, hi, rfl, ho⟩ := hrel
    by_cases hlt : i < 2
    · go_wp2_with (fail)
      go_loopw [7] (fun jv wr2 => ∃ j : Nat, j ≤ 3 ∧ jv = .int .i64 j ∧ Hid (NoI w wr2 (noSt (3 * i + j)))) (fun jv _ => 3 - (intOf jv).toNat)
      case atStart => exact ⟨0, by omega, rfl, ho⟩
      case round =>
        obtain ⟨j, hj, rfl, hoj⟩ := hrel
        by_cases hjl : j < 3
        · obtain ⟨v, hv⟩ : ∃ v : Nat, v = (noSt (3 * i + j)).getD (i * 9 + j * 3 + j) 0 := ⟨_, rfl⟩
          have hc : wr.cell? ⟨w.heap.size + 1, i * 9 + j * 3 + j, none⟩ = some (.int .u8 (v : Nat)) := by
            rw [hv, cell_of_row _ _ _ _ _ _ hoj.out.bo, List.getElem?_toArray]
            exact tE_at (by rw [noSt_len]; omega)
          have hz : wr.frozen? ⟨w.heap.size + 1, i * 9 + j * 3 + j, none⟩ = false := by simp [World.frozen?, hoj.out.bo]
          clear hv
          have HP : Hid (NoI w (wr.setCell ⟨w.heap.size + 1, i * 9 + j * 3 + j, none⟩ (.int .u8 1)) (noSt (3 * i + (j + 1)))) := hide (by
            have := hoj.out.put (i * 9 + j * 3 + j) 1
            show NoI w _ ((noSt (3 * i + j)).set (9 * ((3 * i + j) / 3) + 4 * ((3 * i + j) % 3)) 1)
            rw [show 9 * ((3 * i + j) / 3) + 4 * ((3 * i + j) % 3) = i * 9 + j * 3 + j by omega]
            exact this)
          go_wp2_with (fail)
          go_roundw
          case rel => exact ⟨j + 1, by omega, by go_num, HP⟩
          case measure => simp [intOf]; omega
        · have hj3 : j = 3 := by omega
          subst hj3
          go_wp2_with (fail)
          go_roundw
          case rel => exact ⟨i + 1, by omega, by go_num, hoj⟩
          case measure => simp [intOf]; omega
    · have hi2 : i = 2 := by omega
      subst hi2
      have hbo := ho.out.bo
      rw [show 3 * 2 = 6 from rfl, noSt_all] at hbo
      have hlen := bxE_len bOk_none
      have HL := hide (load_row (c := (bxE bxNone).toArray) hbo boxUnder (by rw [boxSize]; simp [hlen]))
      have HS2 := hide (store_row (cs := (bxE bxNone).toArray) (ty := 111) ho.out.br (by rw [boxSize]; simp [hlen]) (by simp [hlen]) (bx_one _))
      have hrow := setRow_heap wr w.heap.size _ (bxE bxNone).toArray _ _ ho.out.br
      have HE := hide (loadV_row hrow boxUnder rfl (by rw [boxSize]; simp [hlen]))
      have HB := hide (below_setRow ho.out.bl (b := w.heap.size) (by omega) (bxE bxNone).toArray)
      clear hbo hrow hlen
      go_wp2_with (first | refine wpl_store HS2.out rfl rfl rfl rfl ?_ | refine wpl_load HL.out rfl rfl rfl ?_)
      exact bodyPost_ret (v := bxV bxNone) (res_cell HE.out Tryd.results90 rfl) rfl ⟨rfl, HB.out⟩

/-- What tableOf has before it. -/
structure TbI (w wr : World) (c : Array Value) (o : List Nat) : Prop where
  bl : Below w.heap.size w wr
  sz : w.heap.size + 3 ≤ wr.heap.size
  ba : wr.heap[w.heap.size]? = some (.cells c 26)
  br : wr.heap[w.heap.size + 1]? = some (.cells #[Value.int .u8 0, Value.int .u8 0, Value.int .u8 0, Value.int .u8 0, Value.int .u8 0, Value.int .u8 0, Value.int .u8 0, Value.int .u8 0, Value.int .u8 0] 109)
  bo : wr.heap[w.heap.size + 1 + 1]? = some (.cells (tE o).toArray 109)

theorem TbI.below {w wr w2 : World} {c : Array Value} {o : List Nat} (h : TbI w wr c o) (hb : Below wr.heap.size wr w2) : TbI w w2 c o :=
  ⟨below_trans h.bl hb, Nat.le_trans h.sz hb.size, belowRow hb h.ba, belowRow hb h.br, belowRow hb h.bo⟩

theorem TbI.put {w wr : World} {c : Array Value} {o : List Nat} (h : TbI w wr c o) (k v : Nat) : TbI w (wr.setCell ⟨w.heap.size + 1 + 1, k, none⟩ (.int .u8 (v : Nat))).drew c (o.set k v) := by
  have hs := h.sz
  refine ⟨(h.bl.setCell (by show w.heap.size ≤ w.heap.size + 1 + 1; omega) _).drew, by simpa [World.setCell] using h.sz, ?_, ?_, ?_⟩
  · show (wr.setCell _ _).heap[_]? = _
    rw [heap_setCell_other _ _ _ _ (by show w.heap.size ≠ w.heap.size + 1 + 1; omega)]; exact h.ba
  · show (wr.setCell _ _).heap[_]? = _
    rw [heap_setCell_other _ _ _ _ (by show w.heap.size + 1 ≠ w.heap.size + 1 + 1; omega)]; exact h.br
  · have := box_set h.bo k (.int .u8 (v : Nat))
    show (wr.setCell _ _).heap[_]? = _
    rw [this, ← tE_set]
    simp

theorem TbI.cell {w wr : World} {c : Array Value} {o : List Nat} (h : TbI w wr c o) (ho : o.length = 9) {k : Nat} (hk : k < 9) : wr.cell? ⟨w.heap.size + 1 + 1, k, none⟩ = some (.int .u8 (o.getD k 0 : Nat)) ∧ wr.frozen? ⟨w.heap.size + 1 + 1, k, none⟩ = false := by
  rw [cell_of_row _ _ _ _ _ _ h.bo, List.getElem?_toArray]
  exact ⟨tE_at (by omega), by simp [World.frozen?, h.bo]⟩

set_option maxRecDepth 100000 in
set_option maxHeartbeats 1000000 in
theorem letterTab_any {w : World} {v : Value} {A : Aut} (hA : AutV w v A) (hR : Right A) (h3 : A.n ≤ 3) (c : Int) :
    Calls Tryd.prog 88 #[v, .int .i64 c] w fun e w' => e = .returned (tV (letT A c)) ∧ Below w.heap.size w w' := by
  obtain ⟨fv, gv, sv, rfl, h1, h2, h3'⟩ := hA
  obtain ⟨a1, c1, rfl, -⟩ := h1
  obtain ⟨a2, c2, rfl, hm2, hg, -⟩ := h2
  obtain ⟨a3, c3, rfl, hm3, hs, -⟩ := h3'
  have HG := hide hg
  have HSt := hide hs
  have HR := hide hR
  have hfew := hR.few
  have H3 := hide h3
  have hgl : (A.good.length : Int) = A.n := hR.good
  have HGL := hide hgl
  clear hg hs hR h3 hm2 hm3 hgl
  have HL0 : Hid (∀ k, tOk (letT (cutA A k) c)) := hide fun k => tOk_let _ _
  have hgd : A.good.length ≤ 3 := by have := HGL.out; have := H3.out; omega
  generalize hn : A.n = n at *
  have HN := hide hn
  generalize A.m = m at *
  generalize A.first.length = L1 at *
  generalize hL2 : A.good.length = L2 at *
  have HL2 := hide hL2
  generalize hL3 : A.steps.length = L3 at *
  have HL3 := hide hL3
  clear hn hL2 hL3
  have HS : Hid (TbI w (((w.alloc (Obj.cells #[Value.int .i64 n, .int .i64 m, .slice a1 L1 c1, .slice a2 L2 c2, .slice a3 L3 c3] 26)).alloc (Obj.cells #[Value.int .u8 0, Value.int .u8 0, Value.int .u8 0, Value.int .u8 0, Value.int .u8 0, Value.int .u8 0, Value.int .u8 0, Value.int .u8 0, Value.int .u8 0] 109)).alloc (Obj.cells #[Value.int .u8 0, Value.int .u8 0, Value.int .u8 0, Value.int .u8 0, Value.int .u8 0, Value.int .u8 0, Value.int .u8 0, Value.int .u8 0, Value.int .u8 0] 109)) #[Value.int .i64 n, .int .i64 m, .slice a1 L1 c1, .slice a2 L2 c2, .slice a3 L3 c3] (letT (cutA A 0) c)) := hide (by
    obtain ⟨h1, h2, h3⟩ := three_alloc w (Obj.cells #[Value.int .i64 n, .int .i64 m, .slice a1 L1 c1, .slice a2 L2 c2, .slice a3 L3 c3] 26) (Obj.cells #[Value.int .u8 0, Value.int .u8 0, Value.int .u8 0, Value.int .u8 0, Value.int .u8 0, Value.int .u8 0, Value.int .u8 0, Value.int .u8 0, Value.int .u8 0] 109) (Obj.cells #[Value.int .u8 0, Value.int .u8 0, Value.int .u8 0, Value.int .u8 0, Value.int .u8 0, Value.int .u8 0, Value.int .u8 0, Value.int .u8 0, Value.int .u8 0] 109)
    rw [let_nil]
    exact ⟨(by repeat (first | exact Below.refl _ _ | assumption | refine below_drewN ?_ _ | refine Below.drew ?_ | refine Below.alloc ?_ (by simp <;> omega) _ | refine below_trans ?_ (by assumption))), by simp, h1, h2, h3⟩)
  go_enter Tryd.func88, Tryd.ntmps88
  go_wp2_with (fail)
  generalize (((w.alloc (Obj.cells #[Value.int .i64 n, .int .i64 m, .slice a1 L1 c1, .slice a2 L2 c2, .slice a3 L3 c3] 26)).alloc (Obj.cells #[Value.int .u8 0, Value.int .u8 0, Value.int .u8 0, Value.int .u8 0, Value.int .u8 0, Value.int .u8 0, Value.int .u8 0, Value.int .u8 0, Value.int .u8 0] 109)).alloc (Obj.cells #[Value.int .u8 0, Value.int .u8 0, Value.int .u8 0, Value.int .u8 0, Value.int .u8 0, Value.int .u8 0, Value.int .u8 0, Value.int .u8 0, Value.int .u8 0] 109)) = W0 at *
  go_loopw [11] (fun iv wr => ∃ k : Nat, k ≤ L3 ∧ iv = .int .i64 k ∧ Hid (TbI w wr #[Value.int .i64 n, .int .i64 m, .slice a1 L1 c1, .slice a2 L2 c2, .slice a3 L3 c3] (letT (cutA A k) c))) (fun iv _ => L3 - (intOf iv).toNat)
  case atStart => exact ⟨0, by omega, rfl, HS⟩
  case round =>
    obtain ⟨k, hk, rfl, ho⟩ := hrel
    by_cases hlt : k < L3
    · have hlt' : k < A.steps.length := by rw [HL3.out]; exact hlt
      obtain ⟨b, off, rfl, hcell⟩ : ∃ b off, a3 = some ⟨b, off, none⟩ ∧ ∀ i, i < L3 → w.cell? ⟨b, off + i * 3, none⟩ = some (.int .i64 (A.steps.getD i stp0).f) ∧ w.cell? ⟨b, off + i * 3 + 1, none⟩ = some (.int .i64 (A.steps.getD i stp0).l) ∧ w.cell? ⟨b, off + i * 3 + 2, none⟩ = some (.int .i64 (A.steps.getD i stp0).t) := by
        rcases HSt.out with h | h
        · rw [h] at hlt'; simp at hlt'
        · exact h
      obtain ⟨d0, d1, d2⟩ := hcell k hlt
      have d0 := cell_kept d0 ho.out.bl
      have d1 := cell_kept d1 ho.out.bl
      have d2 := cell_kept d2 ho.out.bl
      have hst := HR.out.steps _ (List.getElem_mem hlt')
      have hgs : A.steps.getD k stp0 = A.steps[k] := by simp [List.getD, hlt']
      rw [hgs] at d0 d1 d2
      obtain ⟨f, hf⟩ : ∃ f : Nat, A.steps[k].f = (f : Int) := ⟨A.steps[k].f.toNat, by omega⟩
      obtain ⟨t, ht⟩ : ∃ t : Nat, A.steps[k].t = (t : Int) := ⟨A.steps[k].t.toNat, by omega⟩
      have hft : f < 3 ∧ t < 3 ∧ t < L2 := by have := H3.out; have := HGL.out; have := HN.out; omega
      obtain ⟨hf3, ht3, htL⟩ := hft
      have HSn := hide (let_snoc (c := c) hlt' hf ht hf3 ht3)
      rw [hf] at d0
      rw [ht] at d2
      generalize hl : A.steps[k].l = l at *
      clear hst hgs hf ht hl hcell
      have hW1 := below_new wr (Obj.cells #[Value.int .i64 f, .int .i64 l, .int .i64 t] 49)
      have hN1 := one_new wr (Obj.cells #[Value.int .i64 f, .int .i64 l, .int .i64 t] 49)
      have HO1 := hide (ho.out.below hW1)
      by_cases hlc : l = c
      · have d3 : (l != c) = false := by simpa using hlc
        have HLC := hide hlc
        have HN1 := hide hN1
        clear hlc hW1 hN1
        obtain ⟨b2, o2, rfl, hg2⟩ : ∃ b2 o2, a2 = some ⟨b2, o2, none⟩ ∧ ∀ i, i < L2 → w.cell? ⟨b2, o2 + i, none⟩ = some (.bool (A.good.getD i false)) := by
          rcases HG.out with h | h
          · have := HL2.out
            rw [h] at this
            simp at this
            omega
          · exact h
        have hgt := hg2 t htL
        generalize hgv : A.good.getD t false = g at *
        have HGT := hide hgt
        clear hg2 hgv hgt
        go_upto_region 6 with (fail)
        clear d0 d1 d2
        generalize wr.alloc (Obj.cells #[Value.int .i64 f, .int .i64 l, .int .i64 t] 49) = W1 at *
        obtain ⟨hc, hz⟩ := HO1.out.cell (HL0.out _).1 (show f * 3 + t < 9 by omega)
        have q0 := cell_of_row _ _ 0 _ _ _ HN1.out
        have q2 := cell_of_row _ _ 2 _ _ _ HN1.out
        go_region
        have HO2 := hide (HO1.out.put (f * 3 + t) 1)
        have hne : wr.heap.size ≠ w.heap.size + 1 + 1 := by have := ho.out.sz; omega
        have HN2 : Hid ((W1.setCell ⟨w.heap.size + 1 + 1, f * 3 + t, none⟩ (.int .u8 (1 : Nat))).drew.heap[wr.heap.size]? = some (.cells #[Value.int .i64 f, .int .i64 l, .int .i64 t] 49)) := hide (by
          show (W1.setCell _ _).heap[_]? = _
          rw [heap_setCell_other _ _ _ _ hne]; exact HN1.out)
        clear q0 q2 hc hz hne
        have e1 : (Value.int IntKind.u8 1) = .int .u8 ((1 : Nat) : Int) := rfl
        rw [e1]
        generalize (W1.setCell ⟨w.heap.size + 1 + 1, f * 3 + t, none⟩ (.int .u8 (1 : Nat))).drew = W2 at *
        clear e1
        have q0 := cell_of_row _ _ 0 _ _ _ HN2.out
        have q2 := cell_of_row _ _ 2 _ _ _ HN2.out
        have p3 := cell_of_row _ _ 3 _ _ _ HO2.out.ba
        have hgt := cell_kept HGT.out HO2.out.bl
        cases g with
        | false =>
          go_wp2_with (fail)
          go_roundw
          case rel => exact ⟨k + 1, by omega, by go_num, hide (by rw [HSn.out, if_pos HLC.out, if_neg (by simp), show 3 * f + t = f * 3 + t by omega]; exact HO2.out)⟩
          case measure => simp [intOf]; omega
        | true =>
          have hl9 : ((letT (cutA A k) c).set (f * 3 + t) 1).length = 9 := by rw [List.length_set]; exact (HL0.out _).1
          obtain ⟨hc, hz⟩ := HO2.out.cell hl9 (show f * 3 + t < 9 by omega)
          clear hl9
          go_wp2_with (fail)
          go_region
          have HO3 := hide (HO2.out.put (f * 3 + t) 2)
          go_wp2_with (fail)
          go_roundw
          case rel => exact ⟨k + 1, by omega, by go_num, hide (by rw [HSn.out, if_pos HLC.out, if_pos trivial, show 3 * f + t = f * 3 + t by omega]; have := HO3.out; rw [List.set_set] at this; exact this)⟩
          case measure => simp [intOf]; omega
      · have d3 : (l != c) = true := by simpa using hlc
        have HLC := hide hlc
        clear hlc hW1 hN1
        go_wp2_with (fail)
        go_roundw
        case rel => exact ⟨k + 1, by omega, by go_num, hide (by rw [HSn.out, if_neg HLC.out]; exact HO1.out)⟩
        case measure => simp [intOf]; omega
    · have hkL : k = L3 := by omega
      have hbo := ho.out.bo
      rw [hkL, ← HL3.out, let_whole] at hbo
      have hlen : (letT A c).length = 9 := (tOk_let A c).1
      have HL := hide (load_row hbo tabUnder (by rw [tabSize]; simp [tE_len, hlen]))
      have HS2 := hide (store_row (cs := (tE (letT A c)).toArray) (ty := 109) ho.out.br (by rw [tabSize]; simp [tE_len, hlen]) (by simp [tE_len, hlen]) (tE_one _))
      have hrow := setRow_heap wr (w.heap.size + 1) _ (tE (letT A c)).toArray _ _ ho.out.br
      have HE := hide (loadV_row hrow tabUnder rfl (by rw [tabSize]; simp [tE_len, hlen]))
      have HB := hide (below_setRow ho.out.bl (b := w.heap.size + 1) (by omega) (tE (letT A c)).toArray)
      clear hbo hrow hlen hkL
      go_wp2_with (first | refine wpl_store HS2.out rfl rfl rfl rfl ?_ | refine wpl_load HL.out rfl rfl rfl ?_)
      exact bodyPost_ret (v := tV (letT A c)) (res_cell HE.out Tryd.results88 rfl) rfl ⟨rfl, HB.out⟩

end Go.Proofs.YtpiacnnifdjlkabDoor

namespace Go.Proofs.YtpiacnnifdjlkabDoor
open Go.RowKit Go.Sort

/-- again, step by step. -/
def agSt (t : List Nat) : Nat → List Nat
  | 0 => t
  | k + 1 => maxT (agSt t k) (thenT (agSt t k) (agSt t k))

theorem agSt_ok {t : List Nat} (h : tOk t) : ∀ k, tOk (agSt t k)
  | 0 => h
  | k + 1 => tOk_max (agSt_ok h k) (tOk_then (agSt_ok h k) (agSt_ok h k))

theorem agSt_two (t : List Nat) : agSt t 2 = againT t := rfl

/-- What again has before it. -/
structure AgI (w wr : World) (o : List Nat) : Prop where
  bl : Below w.heap.size w wr
  sz : w.heap.size + 2 ≤ wr.heap.size
  bt : wr.heap[w.heap.size]? = some (.cells (tE o).toArray 109)
  br : wr.heap[w.heap.size + 1]? = some (.cells #[Value.int .u8 0, Value.int .u8 0, Value.int .u8 0, Value.int .u8 0, Value.int .u8 0, Value.int .u8 0, Value.int .u8 0, Value.int .u8 0, Value.int .u8 0] 109)

theorem AgI.below {w wr w2 : World} {o : List Nat} (h : AgI w wr o) (hb : Below wr.heap.size wr w2) : AgI w w2 o :=
  ⟨below_trans h.bl hb, Nat.le_trans h.sz hb.size, belowRow hb h.bt, belowRow hb h.br⟩

theorem AgI.put {w wr : World} {o : List Nat} (h : AgI w wr o) (k v : Nat) : AgI w (wr.setCell ⟨w.heap.size, k, none⟩ (.int .u8 (v : Nat))).drew (o.set k v) := by
  have hs := h.sz
  refine ⟨(h.bl.setCell (Nat.le_refl _) _).drew, by simpa [World.setCell] using h.sz, ?_, ?_⟩
  · have := box_set h.bt k (.int .u8 (v : Nat))
    show (wr.setCell _ _).heap[_]? = _
    rw [this, ← tE_set]
    simp
  · show (wr.setCell _ _).heap[_]? = _
    rw [heap_setCell_other _ _ _ _ (by show w.heap.size + 1 ≠ w.heap.size; omega)]; exact h.br

theorem AgI.cell {w wr : World} {o : List Nat} (h : AgI w wr o) (ho : o.length = 9) {k : Nat} (hk : k < 9) : wr.cell? ⟨w.heap.size, k, none⟩ = some (.int .u8 (o.getD k 0 : Nat)) ∧ wr.frozen? ⟨w.heap.size, k, none⟩ = false := by
  rw [cell_of_row _ _ _ _ _ _ h.bt, List.getElem?_toArray]
  exact ⟨tE_at (by omega), by simp [World.frozen?, h.bt]⟩

theorem max_two (v a : Nat) : (if v < a then (a : Int) else (v : Int)) = ((max v a : Nat) : Int) := by
  split <;> omega

set_option maxRecDepth 100000 in
set_option maxHeartbeats 1000000 in
theorem iAgain_any {w : World} {t : List Nat} (ht : tOk t) :
    Calls Tryd.prog 93 #[tV t] w fun e w' => e = .returned (tV (againT t)) ∧ Below w.heap.size w w' := by
  have HA := hide (fun k => agSt_ok ht k)
  have HS : Hid (AgI w ((w.alloc (Obj.cells (tE t).toArray 109)).alloc (Obj.cells #[Value.int .u8 0, Value.int .u8 0, Value.int .u8 0, Value.int .u8 0, Value.int .u8 0, Value.int .u8 0, Value.int .u8 0, Value.int .u8 0, Value.int .u8 0] 109)) (agSt t 0)) := hide (by
    obtain ⟨h1, h2⟩ := two_alloc w (Obj.cells (tE t).toArray 109) (Obj.cells #[Value.int .u8 0, Value.int .u8 0, Value.int .u8 0, Value.int .u8 0, Value.int .u8 0, Value.int .u8 0, Value.int .u8 0, Value.int .u8 0, Value.int .u8 0] 109)
    exact ⟨(by repeat (first | exact Below.refl _ _ | assumption | refine below_drewN ?_ _ | refine Below.drew ?_ | refine Below.alloc ?_ (by simp <;> omega) _ | refine below_trans ?_ (by assumption))), by simp, h1, h2⟩)
  clear ht
  go_enter Tryd.func93, Tryd.ntmps93
  go_wp2_with (fail)
  generalize ((w.alloc (Obj.cells (tE t).toArray 109)).alloc (Obj.cells #[Value.int .u8 0, Value.int .u8 0, Value.int .u8 0, Value.int .u8 0, Value.int .u8 0, Value.int .u8 0, Value.int .u8 0, Value.int .u8 0, Value.int .u8 0] 109)) = W0 at *
  go_loopw [8] (fun iv wr => ∃ i : Nat, i ≤ 2 ∧ iv = .int .i64 i ∧ Hid (AgI w wr (agSt t i))) (fun iv _ => 2 - (intOf iv).toNat)
  case atStart => exact ⟨0, by omega, rfl, HS⟩
  case round =>
    obtain ⟨i, hi, rfl, ho⟩ := hrel
    by_cases hlt : i < 2
    · have HG : Hid (agSt t (i + 1) = maxT (agSt t i) (thenT (agSt t i) (agSt t i))) := hide rfl
      have hok := HA.out i
      generalize agSt t i = s at *
      have HU := hide (tOk_then hok hok)
      have HK := hide hok
      have HM := hide (maxSt_all hok HU.out)
      have HMk := hide (fun k => maxSt_ok hok HU.out k)
      have HL := hide (load_row ho.out.bt tabUnder (by rw [tabSize]; simp [tE_len, hok.1]))
      clear hok
      go_wp2_with (first | refine wpl_load HL.out rfl rfl rfl ?_)
      refine (then_any HK.out HK.out).mono ?_
      rintro e w1 ⟨rfl, hb1⟩
      generalize thenT s s = u at *
      have HS2 := hide (run_storeAt_new (P := Tryd.prog) w1 109 #[Value.int .u8 0, Value.int .u8 0, Value.int .u8 0, Value.int .u8 0, Value.int .u8 0, Value.int .u8 0, Value.int .u8 0, Value.int .u8 0, Value.int .u8 0] (tE u).toArray (by rw [tabSize]; simp [tE_len, HU.out.1]) (by simp [tE_len, HU.out.1]) (tE_one _))
      have HL2 := hide (run_loadAt_new (P := Tryd.prog) w1 109 (tE u).toArray 3 _ tabUnder (by rw [tabSize]; simp [tE_len, HU.out.1]))
      have HO1 := hide ((ho.out.below hb1).below (below_new w1 (Obj.cells (tE u).toArray 109)))
      clear HL hb1
      go_wp2_with (first | refine wpl_store HS2.out rfl rfl rfl rfl ?_ | refine wpl_load HL2.out rfl rfl rfl ?_)
      clear HS2 HL2
      generalize w1.alloc (Obj.cells (tE u).toArray 109) = W1 at *
      go_loopw [14] (fun jv wr2 => ∃ j : Nat, j ≤ 3 ∧ jv = .int .i64 j ∧ Hid (AgI w wr2 (maxSt s u (3 * j)))) (fun jv _ => 3 - (intOf jv).toNat)
      case atStart => exact ⟨0, by omega, rfl, HO1⟩
      case round =>
        obtain ⟨j, hj, rfl, hoj⟩ := hrel
        by_cases hjl : j < 3
        · have HI := hide (tab_index (t := u) hjl wr)
          have hr3 := rowT_len HU.out.1 hjl
          have HS3 := hide (run_storeAt_new (P := Tryd.prog) wr 107 #[Value.int .u8 0, Value.int .u8 0, Value.int .u8 0] (tE (rowT u j)).toArray (by rw [rowSize]; simp [tE_len, hr3]) (by simp [tE_len, hr3]) (tE_one _))
          have HL3 := hide (run_loadAt_new (P := Tryd.prog) wr 107 (tE (rowT u j)).toArray 3 _ markUnder (by rw [rowSize]; simp [tE_len, hr3]))
          have HR3 := hide hr3
          clear hr3
          have HO2 := hide (hoj.out.below (below_new wr (Obj.cells (tE (rowT u j)).toArray 107)))
          go_wp2_with (first | refine wpl_index HI.out rfl rfl rfl rfl ?_ | refine wpl_store HS3.out rfl rfl rfl rfl ?_ | refine wpl_load HL3.out rfl rfl rfl ?_)
          clear HI HS3 HL3
          generalize wr.alloc (Obj.cells (tE (rowT u j)).toArray 107) = W2 at *
          go_loopw [19] (fun kv wr3 => ∃ k : Nat, k ≤ 3 ∧ kv = .int .i64 k ∧ Hid (AgI w wr3 (maxSt s u (3 * j + k)))) (fun kv _ => 3 - (intOf kv).toNat)
          case atStart => exact ⟨0, by omega, rfl, HO2⟩
          case round =>
            obtain ⟨k, hk, rfl, hok⟩ := hrel
            by_cases hkl : k < 3
            · obtain ⟨b, hb⟩ : ∃ b, b = atT u j k := ⟨_, rfl⟩
              have HI : Hid ((Instr.index 107 (tV (rowT u j)) (.int .i64 (k : Nat))).run Tryd.prog wr = .ok (.int .u8 (b : Nat)) wr) := hide (by rw [hb, ← rowT_at hkl]; exact row_index HR3.out hkl wr)
              have HBb := hide hb
              obtain ⟨v, hv⟩ : ∃ v, v = (maxSt s u (3 * j + k)).getD (j * 3 + k) 0 := ⟨_, rfl⟩
              obtain ⟨hc, hz⟩ := hok.out.cell (HMk.out _).1 (show j * 3 + k < 9 by omega)
              rw [← hv] at hc
              have HV := hide hv
              clear hv hb
              go_wp2_with (first | refine wpl_index HI.out rfl rfl rfl rfl ?_)
              go_region
              rw [max_two]
              generalize hm : max v b = mv
              have HMv := hide hm
              clear hm
              go_wp2_with (fail)
              go_roundw
              case rel => exact ⟨k + 1, by omega, by go_num, hide (by
                have h1 := hok.out.put (j * 3 + k) mv
                show AgI w _ ((maxSt s u (3 * j + k)).set (3 * j + k) (max ((maxSt s u (3 * j + k)).getD (3 * j + k) 0) (u.getD (3 * j + k) 0)))
                have h2 : u.getD (3 * j + k) 0 = b := HBb.out.symm
                rw [h2, show 3 * j + k = j * 3 + k by omega]
                rw [show 3 * j + k = j * 3 + k by omega] at h1
                have h3 := HV.out
                rw [show 3 * j + k = j * 3 + k by omega] at h3
                rw [← h3, HMv.out]
                exact h1)⟩
              case measure => simp [intOf]; omega
            · have hk3 : k = 3 := by omega
              subst hk3
              go_wp2_with (fail)
              go_roundw
              case rel => exact ⟨j + 1, by omega, by go_num, hok⟩
              case measure => simp [intOf]; omega
        · have hj3 : j = 3 := by omega
          subst hj3
          go_wp2_with (fail)
          go_roundw
          case rel => exact ⟨i + 1, by omega, by go_num, hide (by rw [HG.out, ← HM.out]; exact hoj.out)⟩
          case measure => simp [intOf]; omega
    · have hi2 : i = 2 := by omega
      subst hi2
      have hbo := ho.out.bt
      rw [agSt_two] at hbo
      have hlen : (againT t).length = 9 := (HA.out 2).1
      have HL := hide (load_row hbo tabUnder (by rw [tabSize]; simp [tE_len, hlen]))
      have HS2 := hide (store_row (cs := (tE (againT t)).toArray) (ty := 109) ho.out.br (by rw [tabSize]; simp [tE_len, hlen]) (by simp [tE_len, hlen]) (tE_one _))
      have hrow := setRow_heap wr (w.heap.size + 1) _ (tE (againT t)).toArray _ _ ho.out.br
      have HE := hide (loadV_row hrow tabUnder rfl (by rw [tabSize]; simp [tE_len, hlen]))
      have HB := hide (below_setRow ho.out.bl (b := w.heap.size + 1) (by omega) (tE (againT t)).toArray)
      clear hbo hrow hlen
      go_wp2_with (first | refine wpl_store HS2.out rfl rfl rfl rfl ?_ | refine wpl_load HL.out rfl rfl rfl ?_)
      exact bodyPost_ret (v := tV (againT t)) (res_cell HE.out Tryd.results93 rfl) rfl ⟨rfl, HB.out⟩

end Go.Proofs.YtpiacnnifdjlkabDoor
