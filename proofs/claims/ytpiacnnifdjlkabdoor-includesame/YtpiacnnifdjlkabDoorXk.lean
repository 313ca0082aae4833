/-
  Regions that draw their order: told values and a last operation; told values, a slice of one element, and an append at the end.
-/
import Derived.Test.YtpiacnnifdjlkabDoorXh
/-
  Package include: where a word leads; from where it is taken.
-/
namespace Go.Proofs.YtpiacnnifdjlkabDoor
open Go.RowKit Go.Sort

set_option maxRecDepth 100000 in
set_option maxHeartbeats 1000000 in
theorem iLeads_any {w : World} {t : List Nat} {fv : Value} {fs : List Int} (ht : tOk t) (hf : IntSl w fv fs) (h3 : ∀ x ∈ fs, 0 ≤ x ∧ x < 3) :
    Calls Tryd.prog 67 #[tV t, fv] w fun e w' => e = .returned (.int .u8 (bits3 (leadSt fs t fs.length 0) : Nat)) ∧ Below w.heap.size w w' := by
  obtain ⟨a0, c0, rfl, hm0, hc, -⟩ := hf
  have Hc := hide hc
  have HT := hide ht
  have H3 := hide h3
  unfold maxLen at hm0
  clear hc ht h3
  generalize hL : fs.length = L at *
  have HL := hide hL
  clear hL
  have HB0 := hide (below_new w (Obj.cells (tE t).toArray 109))
  have HN0 := hide (one_new w (Obj.cells (tE t).toArray 109))
  go_enter Tryd.func67, Tryd.ntmps67
  go_wp2_with (fail)
  generalize w.alloc (Obj.cells (tE t).toArray 109) = W0 at *
  go_loopw [5, 12] (fun sv iv wr => ∃ k : Nat, k ≤ L ∧ iv = .int .i64 k ∧ sv = .int .u8 (bits3 (leadSt fs t k 0) : Nat) ∧ Hid (Below W0.heap.size W0 wr)) (fun _ iv _ => L - (intOf iv).toNat)
  case atStart => exact ⟨0, by omega, rfl, by rw [leadSt_nil]; rfl, hide (Below.refl _ _)⟩
  case round =>
    obtain ⟨k, hk, rfl, rfl, hb⟩ := hrel
    by_cases hlt : k < L
    · obtain ⟨b, off, rfl, hcell⟩ : ∃ b off, a0 = some ⟨b, off, none⟩ ∧ ∀ i, i < L → w.cell? ⟨b, off + i, none⟩ = some (.int .i64 (fs.getD i 0)) := by
        rcases Hc.out with h | h
        · have := HL.out
          rw [h] at this
          simp at this
          omega
        · exact h
      have d0 := cell_kept (hcell k hlt) (below_trans HB0.out hb.out)
      have hx := H3.out _ (getD_mem (xs := fs) (d := 0) (by rw [HL.out]; exact hlt))
      obtain ⟨x, hx'⟩ : ∃ x : Nat, fs.getD k 0 = (x : Int) := ⟨(fs.getD k 0).toNat, by omega⟩
      have hx3 : x < 3 := by omega
      rw [hx'] at d0
      have HX : Hid ((fs.getD k 0).toNat = x) := hide (by omega)
      clear hx hx' hcell
      have hLd : (Instr.loadAt 107 (.pointer (some ⟨w.heap.size, x * 3, none⟩))).run Tryd.prog wr = .ok (tV (rowT t x)) wr := by
        have := load_part (belowRow hb.out HN0.out) (x * 3) markUnder rowSize (by simp [tE_len, HT.out.1]; omega)
        rw [this, List.toList_toArray, tE_part, Nat.mul_comm]
        rfl
      have HLd := hide hLd
      clear hLd
      go_wp2_with (first | refine wpl_load HLd.out rfl rfl rfl ?_)
      clear HLd d0
      obtain ⟨W1, hW1⟩ : ∃ W1, W1 = wr := ⟨_, rfl⟩
      subst hW1
      go_loopw [5, 19] (fun sv jv wr2 => ∃ j : Nat, j ≤ 3 ∧ jv = .int .i64 j ∧ sv = .int .u8 (bits3 (leadSt fs t k j) : Nat) ∧ Hid (Below W0.heap.size W0 wr2)) (fun _ jv _ => 3 - (intOf jv).toNat)
      case atStart => exact ⟨0, by omega, rfl, rfl, hb⟩
      case round =>
        obtain ⟨j, hj, rfl, rfl, hb2⟩ := hrel
        by_cases hjl : j < 3
        · obtain ⟨a, ha⟩ : ∃ a, a = atT t x j := ⟨_, rfl⟩
          have HI : Hid ((Instr.index 107 (tV (rowT t x)) (.int .i64 (j : Nat))).run Tryd.prog wr = .ok (.int .u8 (a : Nat)) wr) := hide (by rw [ha, ← rowT_at hjl]; exact row_index (rowT_len HT.out.1 hx3) hjl wr)
          have hs8 := bits3_lt (leadSt fs t k j)
          by_cases ha0 : a = 0
          · have HE : Hid (bits3 (leadSt fs t k j) = bits3 (leadSt fs t k (j + 1))) := hide (leadSt_no (by rw [HX.out, ← ha]; exact ha0))
            have d1 : ((a : Int) != 0) = false := by simp; omega
            generalize bits3 (leadSt fs t k j) = s at *
            clear ha ha0
            go_wp2_with (first | refine wpl_index HI.out rfl rfl rfl rfl ?_)
            go_roundw
            case rel => exact ⟨j + 1, by omega, by go_num, by rw [← HE.out], hb2⟩
            case measure => simp [intOf]; omega
          · have HE : Hid (bits3 (leadSt fs t k j) ||| 1 <<< j = bits3 (leadSt fs t k (j + 1))) := hide (leadSt_yes hjl (by rw [HX.out, ← ha]; exact ha0))
            have d1 : ((a : Int) != 0) = true := by simp; omega
            generalize bits3 (leadSt fs t k j) = s at *
            clear ha ha0
            go_wp2_with (first | refine wpl_index HI.out rfl rfl rfl rfl ?_)
            refine (iWith_any hs8 hjl).mono ?_
            rintro e w2 ⟨rfl, hbw⟩
            generalize hsj : s ||| 1 <<< j = s2 at *
            have HB3 := hide (below_trans hb2.out hbw)
            clear hbw hsj
            go_wp2_with (fail)
            go_roundw
            case rel => exact ⟨j + 1, by omega, by go_num, by rw [← HE.out], HB3⟩
            case measure => simp [intOf]; omega
        · have hj3 : j = 3 := by omega
          subst hj3
          have HE : Hid (bits3 (leadSt fs t k 3) = bits3 (leadSt fs t (k + 1) 0)) := hide (leadSt_next (by rw [HL.out]; exact hlt))
          generalize bits3 (leadSt fs t k 3) = s at *
          go_wp2_with (fail)
          go_roundw
          case rel => exact ⟨k + 1, by omega, by go_num, by rw [← HE.out], hb2⟩
          case measure => simp [intOf]; omega
    · have hkL : k = L := by omega
      have HK := hide hkL
      clear hkL
      have HB := hide (below_trans HB0.out hb.out)
      generalize hsv : bits3 (leadSt fs t k 0) = s at *
      have HS := hide hsv
      clear hsv
      go_wp2_with (fail)
      go_ret
      exact ⟨by rw [← HS.out, HK.out]; rfl, HB.out⟩

set_option maxRecDepth 100000 in
set_option maxHeartbeats 1000000 in
theorem iTakes_any {w : World} {t : List Nat} (ht : tOk t) :
    Calls Tryd.prog 69 #[tV t] w fun e w' => e = .returned (.int .u8 (bits3 (takB3 t) : Nat)) ∧ Below w.heap.size w w' := by
  have HF := hide (takeSt_all (t := t))
  have HT := hide (tOk_again ht)
  have HB0 := hide (below_new w (Obj.cells (tE t).toArray 109))
  have hN0 := one_new w (Obj.cells (tE t).toArray 109)
  have HN0 := hide hN0
  have HL := hide (load_row hN0 tabUnder (by rw [tabSize]; simp [tE_len, ht.1]))
  have HT0 := hide ht
  have HZ := hide (show (tE t).toArray.size = 9 by simp [tE_len, ht.1])
  clear ht hN0
  go_enter Tryd.func69, Tryd.ntmps69
  go_wp2_with (first | refine wpl_load HL.out rfl rfl rfl ?_)
  refine (iAgain_any HT0.out).mono ?_
  rintro e w1 ⟨rfl, hb1⟩
  have hrow1 := belowRow hb1 HN0.out
  have hB1 := below_trans HB0.out hb1
  generalize againT t = u at *
  have HS1 := hide (store_row (cs := (tE u).toArray) (ty := 109) hrow1 (by rw [tabSize]; simp [tE_len, HT.out.1]) (by rw [HZ.out]; simp [tE_len, HT.out.1]) (tE_one _))
  have hrow2 := setRow_heap w1 w.heap.size _ (tE u).toArray _ _ hrow1
  have HB2 := hide (below_setRow hB1 (b := w.heap.size) (by omega) (tE u).toArray)
  have HN2 := hide hrow2
  have HL2 := hide (load_row hrow2 tabUnder (by rw [tabSize]; simp [tE_len, HT.out.1]))
  clear hb1 hrow1 hB1 hrow2 HL HB0 HN0
  go_wp2_with (first | refine wpl_store HS1.out rfl rfl rfl rfl ?_ | refine wpl_load HL2.out rfl rfl rfl ?_)
  clear HS1 HL2
  generalize w1.setRow w.heap.size (tE u).toArray = W0 at *
  go_loopw [3, 11] (fun sv iv wr => ∃ k : Nat, k ≤ 3 ∧ iv = .int .i64 k ∧ sv = .int .u8 (bits3 (takeSt u k 0) : Nat) ∧ Hid (Below W0.heap.size W0 wr)) (fun _ iv _ => 3 - (intOf iv).toNat)
  case atStart => exact ⟨0, by omega, rfl, by rw [takeSt_nil]; rfl, hide (Below.refl _ _)⟩
  case round =>
    obtain ⟨k, hk, rfl, rfl, hb⟩ := hrel
    by_cases hlt : k < 3
    · have HI := hide (tab_index (t := u) hlt wr)
      have hr3 := rowT_len HT.out.1 hlt
      have HS3 := hide (run_storeAt_new (P := Tryd.prog) wr 107 #[Value.int .u8 0, Value.int .u8 0, Value.int .u8 0] (tE (rowT u k)).toArray (by rw [rowSize]; simp [tE_len, hr3]) (by simp [tE_len, hr3]) (tE_one _))
      have HL3 := hide (run_loadAt_new (P := Tryd.prog) wr 107 (tE (rowT u k)).toArray 3 _ markUnder (by rw [rowSize]; simp [tE_len, hr3]))
      have HR3 := hide hr3
      clear hr3
      have HB3 := hide (below_trans hb.out (below_new wr (Obj.cells (tE (rowT u k)).toArray 107)))
      go_wp2_with (first | refine wpl_index HI.out rfl rfl rfl rfl ?_ | refine wpl_store HS3.out rfl rfl rfl rfl ?_ | refine wpl_load HL3.out rfl rfl rfl ?_)
      clear HI HS3 HL3
      generalize wr.alloc (Obj.cells (tE (rowT u k)).toArray 107) = W1 at *
      go_loopw [3, 16] (fun sv jv wr2 => ∃ j : Nat, j ≤ 3 ∧ jv = .int .i64 j ∧ sv = .int .u8 (bits3 (takeSt u k j) : Nat) ∧ Hid (Below W0.heap.size W0 wr2)) (fun _ jv _ => 3 - (intOf jv).toNat)
      case atStart => exact ⟨0, by omega, rfl, rfl, HB3⟩
      case round =>
        obtain ⟨j, hj, rfl, rfl, hb2⟩ := hrel
        by_cases hjl : j < 3
        · obtain ⟨a, ha⟩ : ∃ a, a = atT u k j := ⟨_, rfl⟩
          have HI : Hid ((Instr.index 107 (tV (rowT u k)) (.int .i64 (j : Nat))).run Tryd.prog wr = .ok (.int .u8 (a : Nat)) wr) := hide (by rw [ha, ← rowT_at hjl]; exact row_index HR3.out hjl wr)
          obtain ⟨g, hg⟩ : ∃ g, g = atT u j j := ⟨_, rfl⟩
          have hc : wr.cell? ⟨w.heap.size, j * 3 + j, none⟩ = some (.int .u8 (g : Nat)) := by
            rw [cell_of_row _ _ _ _ _ _ (belowRow hb2.out HN2.out), List.getElem?_toArray, tE_at (by rw [HT.out.1]; omega), hg]
            unfold atT
            rw [show 3 * j + j = j * 3 + j by omega]
          have hs8 := bits3_lt (takeSt u k j)
          by_cases ha0 : a = 0
          · have HE : Hid (bits3 (takeSt u k j) = bits3 (takeSt u k (j + 1))) := hide (takeSt_no (Or.inl (by rw [← ha]; exact ha0)))
            have d1 : ((a : Int) != 0) = false := by simp; omega
            generalize bits3 (takeSt u k j) = s at *
            clear ha ha0 hg
            go_wp2_with (first | refine wpl_index HI.out rfl rfl rfl rfl ?_)
            go_roundw
            case rel => exact ⟨j + 1, by omega, by go_num, by rw [← HE.out], hb2⟩
            case measure => simp [intOf]; omega
          · have d1 : ((a : Int) != 0) = true := by simp; omega
            by_cases hg2 : g = 2
            · have HE : Hid (bits3 (takeSt u k j) ||| 1 <<< k = bits3 (takeSt u k (j + 1))) := hide (takeSt_yes hlt (by rw [← ha]; exact ha0) (by rw [← hg]; exact hg2))
              have d2 : ((g : Int) == 2) = true := by simp; omega
              generalize bits3 (takeSt u k j) = s at *
              clear ha ha0 hg hg2
              go_wp2_with (first | refine wpl_index HI.out rfl rfl rfl rfl ?_)
              refine (iWith_any hs8 hlt).mono ?_
              rintro e w2 ⟨rfl, hbw⟩
              generalize hsj : s ||| 1 <<< k = s2 at *
              have HB5 := hide (below_trans hb2.out hbw)
              clear hbw hsj hc
              go_wp2_with (fail)
              go_roundw
              case rel => exact ⟨j + 1, by omega, by go_num, by rw [← HE.out], HB5⟩
              case measure => simp [intOf]; omega
            · have HE : Hid (bits3 (takeSt u k j) = bits3 (takeSt u k (j + 1))) := hide (takeSt_no (Or.inr (by rw [← hg]; exact hg2)))
              have d2 : ((g : Int) == 2) = false := by simp; omega
              generalize bits3 (takeSt u k j) = s at *
              clear ha ha0 hg hg2
              go_wp2_with (first | refine wpl_index HI.out rfl rfl rfl rfl ?_)
              go_roundw
              case rel => exact ⟨j + 1, by omega, by go_num, by rw [← HE.out], hb2⟩
              case measure => simp [intOf]; omega
        · have hj3 : j = 3 := by omega
          subst hj3
          have HE : Hid (bits3 (takeSt u k 3) = bits3 (takeSt u (k + 1) 0)) := hide takeSt_next
          generalize bits3 (takeSt u k 3) = s at *
          go_wp2_with (fail)
          go_roundw
          case rel => exact ⟨k + 1, by omega, by go_num, by rw [← HE.out], hb2⟩
          case measure => simp [intOf]; omega
    · have hk3 : k = 3 := by omega
      subst hk3
      have HB := hide (below_trans HB2.out hb.out)
      generalize hsv : bits3 (takeSt u 3 0) = s at *
      clear hsv
      go_wp2_with (fail)
      go_ret
      exact ⟨by rw [HF.out]; rfl, HB.out⟩

end Go.Proofs.YtpiacnnifdjlkabDoor

/-
  Package include: an entry is noted, if its box was not met.
-/
namespace Go.Proofs.YtpiacnnifdjlkabDoor
open Go.RowKit Go.Sort Go.MapKept

theorem wpl_slice1 {ops : Array Oper} {rest : List Oper} {o : Oper} {a : Act} {w w' : World} {Q : Exit → Act → World → Prop} {ty : TypeId} {y : Operand} {u v : Value} (hB : (Instr.buildSlice ty 1 #[(0, u)]).run Tryd.prog w = .ok v w') (hgd : o.guard = none) (ho : o.op = .buildSlice ty 1 #[(0, y)]) (hy : a.eval y = u)
    (h : wpList Tryd.prog ops Q rest (a.put o.dst v) w') : wpList Tryd.prog ops Q (o :: rest) a w :=
  wpList_plain hgd fun _ hK => by
    unfold Oper.wp execOp
    simp only [ho, List.map_toArray, List.map_cons, List.map_nil, hy, Sem.run_bind, hB, Sem.run_pure, Result.andThen_ok]
    exact hK _ _ h

theorem wpl_build1 {ops : Array Oper} {rest : List Oper} {o : Oper} {a : Act} {w : World} {Q : Exit → Act → World → Prop} {ty : TypeId} {y : Operand} {u v : Value} (hB : (Instr.build ty #[(0, u)]).run Tryd.prog w = .ok v w) (hgd : o.guard = none) (ho : o.op = .build ty #[(0, y)]) (hy : a.eval y = u)
    (h : wpList Tryd.prog ops Q rest (a.put o.dst v) w) : wpList Tryd.prog ops Q (o :: rest) a w :=
  wpList_plain hgd fun _ hK => by
    unfold Oper.wp execOp
    simp only [ho, List.map_toArray, List.map_cons, List.map_nil, hy, Sem.run_bind, hB, Sem.run_pure, Result.andThen_ok]
    exact hK _ _ h

theorem wpl_build2 {ops : Array Oper} {rest : List Oper} {o : Oper} {a : Act} {w : World} {Q : Exit → Act → World → Prop} {ty : TypeId} {x y : Operand} {t u v : Value} (hB : (Instr.build ty #[(0, t), (1, u)]).run Tryd.prog w = .ok v w) (hgd : o.guard = none) (ho : o.op = .build ty #[(0, x), (1, y)]) (hx : a.eval x = t) (hy : a.eval y = u)
    (h : wpList Tryd.prog ops Q rest (a.put o.dst v) w) : wpList Tryd.prog ops Q (o :: rest) a w :=
  wpList_plain hgd fun _ hK => by
    unfold Oper.wp execOp
    simp only [ho, List.map_toArray, List.map_cons, List.map_nil, hx, hy, Sem.run_bind, hB, Sem.run_pure, Result.andThen_ok]
    exact hK _ _ h

theorem enInfo : Tryd.prog.info? 144 = some Tryd.t144 := by kernel_rfl
theorem enEl : ElT 102 144 20 40 := ⟨Tryd.underlying102, ⟨_, _, enInfo, zero_entry, by kernel_rfl, by kernel_rfl, by kernel_rfl⟩, by decide, by decide⟩
theorem enE_one (e : En) : ∀ v ∈ enE e, v.oneCell' = true := by
  intro v hv
  rcases List.mem_append.1 hv with hv | hv
  · have := bx_one e.1
    rw [Array.all_eq_true_iff_forall_mem] at this
    exact this v (by simpa using hv)
  · simp at hv
    rcases hv with rfl | rfl <;> rfl
theorem enSlice {e : En} (h : bOk e.1) (w : World) : (Instr.buildSlice 102 1 #[(0, enV e)]).run Tryd.prog w = .ok (.slice (some ⟨w.heap.size, 0, none⟩) 1 1) (w.alloc (.cells (enE e).toArray 144)) :=
  slice_one Tryd.underlying102 enInfo zero_entry (m := 20) (by kernel_rfl) (enE_len h) (by omega) (by omega) w

theorem enRow : ∃ d, Tryd.prog.underlying 144 = some d ∧ d.isRow = true := ⟨_, Tryd.underlying144, rfl⟩
theorem enSize : (Tryd.prog.info? 144).map (·.size) = some 20 := by kernel_rfl

theorem enBox_load {w : World} {b : Nat} {e : En} (h : bOk e.1) (hb : w.heap[b]? = some (.cells (enE e).toArray 144)) : (Instr.loadAt 111 (.pointer (some ⟨b, 0, none⟩))).run Tryd.prog w = .ok (bxV e.1) w := by
  have := load_part hb 0 boxUnder boxSize (by simp [enE_len h])
  rw [this, List.toList_toArray, List.drop_zero, enE, List.take_append_of_le_length (by rw [bxE_len h]; omega), List.take_of_length_le (by rw [bxE_len h]; omega)]

theorem en_load {w : World} {b : Nat} {e : En} (h : bOk e.1) (hb : w.heap[b]? = some (.cells (enE e).toArray 144)) : (Instr.loadAt 144 (.pointer (some ⟨b, 0, none⟩))).run Tryd.prog w = .ok (enV e) w := by
  obtain ⟨d, hu, hd⟩ := enRow
  have := run_loadAt_mid (P := Tryd.prog) w b 0 144 (enE e) d (by
    have := range_row hb 0 20
    rwa [List.toList_toArray, List.drop_zero, List.take_of_length_le (by rw [enE_len h]; omega)] at this) hu hd (by rw [enSize, enE_len h])
  exact this

/-- What note has before it: the map, and the entries that were met. -/
structure EnI (W : World) (base BN BT r : Nat) (E : List En) : Prop where
  bn : W.heap[BN]? = some (.cells #[.map (some r)] 142)
  bt : ∃ v, W.heap[BT]? = some (.cells #[v] 102) ∧ W.ownsRow base 144 20 v E.length (E.flatMap enE)
  mp : bxMap W r (E.map (·.1))
  lo : base ≤ BN ∧ base ≤ BT ∧ base ≤ r ∧ base ≤ W.heap.size

def addE (E : List En) (x : En) : List En := if x.1 ∈ E.map (·.1) then E else E ++ [x]

theorem EnI.apart {W : World} {base BN BT r : Nat} {E : List En} (h : EnI W base BN BT r E) : BN ≠ BT ∧ BN ≠ r ∧ BT ≠ r := by
  obtain ⟨v, hv, _⟩ := h.bt
  obtain ⟨o, ho, hc⟩ := h.mp.not_cells
  refine ⟨fun e => ?_, fun e => ?_, fun e => ?_⟩
  · have := h.bn
    rw [e, hv] at this
    injection this with this
    injection this with _ h2
    exact absurd h2 (by decide)
  · have := h.bn
    rw [e, ho] at this
    injection this with this
    subst this
    cases hc
  · rw [e, ho] at hv
    injection hv with hv
    subst hv
    cases hc

theorem EnI.below {W W' : World} {base BN BT r : Nat} {E : List En} (h : EnI W base BN BT r E) (hb : Below W.heap.size W W') : EnI W' base BN BT r E := by
  obtain ⟨v, hv, ho⟩ := h.bt
  exact ⟨belowRow hb h.bn, ⟨v, belowRow hb hv, owns_below ho hb⟩, h.mp.keep (fun o ho => belowRow hb ho), ⟨h.lo.1, h.lo.2.1, h.lo.2.2.1, Nat.le_trans h.lo.2.2.2 hb.size⟩⟩

/-- An entry more in the row. -/
theorem EnI_add {W w8 : World} {base BN BT r g8 cap8 : Nat} {E : List En} {x : En} {v : Value} (hbt : W.heap[BT]? = some (.cells #[v] 102)) (hbn : W.heap[BN]? = some (.cells #[.map (some r)] 142)) (hmp : bxMap W r ((E ++ [x]).map (·.1))) (hown : W.ownsRow base 144 20 v E.length (E.flatMap enE)) (hgr : W.grownBy w8 v.ownBlock) (hown8 : w8.ownsRow base 144 20 (.slice (some ⟨g8, 0, none⟩) (E.length + 1) cap8) (E.length + 1) (E.flatMap enE ++ enE x)) (lo : base ≤ BN ∧ base ≤ BT ∧ base ≤ r ∧ base ≤ W.heap.size) :
    EnI (w8.setCell ⟨BT, 0, none⟩ (.slice (some ⟨g8, 0, none⟩) (E.length + 1) cap8)) base BN BT r (E ++ [x]) ∧ Below base W (w8.setCell ⟨BT, 0, none⟩ (.slice (some ⟨g8, 0, none⟩) (E.length + 1) cap8)) := by
  have hb1 : some BT ≠ v.ownBlock := fun e => row_apart hown hbt (by decide) BT e.symm rfl
  have hb2 : some BN ≠ v.ownBlock := fun e => row_apart hown hbn (by decide) BN e.symm rfl
  obtain ⟨o, hro, hrc⟩ := hmp.not_cells
  have hb3 : some r ≠ v.ownBlock := fun e => by
    obtain ⟨c', fz, hc⟩ := owns_cells hown r e.symm
    rw [hro] at hc
    injection hc with hc
    subst hc
    cases hrc
  have l1 := (Array.getElem?_eq_some_iff.1 hbt).1
  have l2 := (Array.getElem?_eq_some_iff.1 hbn).1
  have l3 := hmp.lt
  have n12 : BN ≠ BT := fun e => by
    rw [e, hbt] at hbn
    injection hbn with hbn
    injection hbn with _ h2
    exact absurd h2 (by decide)
  have n13 : r ≠ BT := fun e => by
    rw [e, hbt] at hro
    injection hro with hro
    subst hro
    cases hrc
  have hbt8 := (hgr.block BT l1 hb1).trans hbt
  have hset := box_set hbt8 0 (.slice (some ⟨g8, 0, none⟩) (E.length + 1) cap8)
  have hset' : (w8.setCell ⟨BT, 0, none⟩ (.slice (some ⟨g8, 0, none⟩) (E.length + 1) cap8)).heap[BT]? = some (.cells #[.slice (some ⟨g8, 0, none⟩) (E.length + 1) cap8] 102) := hset
  have hsz : (w8.setCell ⟨BT, 0, none⟩ (.slice (some ⟨g8, 0, none⟩) (E.length + 1) cap8)).heap.size = w8.heap.size := by simp [World.setCell]
  refine ⟨⟨?_, ⟨_, hset', ?_⟩, ?_, ⟨lo.1, lo.2.1, lo.2.2.1, by rw [hsz]; exact Nat.le_trans lo.2.2.2 hgr.size⟩⟩, ?_⟩
  · rw [heap_setCell_other _ _ _ _ n12, hgr.block BN l2 hb2]
    exact hbn
  · have h3 := owns_set hown8 hbt8 (by decide) 0 (.slice (some ⟨g8, 0, none⟩) (E.length + 1) cap8)
    rw [List.length_append, List.flatMap_append]
    simpa using h3
  · exact hmp.keep (fun o ho => by rw [heap_setCell_other _ _ _ _ n13, hgr.block r l3 hb3]; exact ho)
  · exact (Below.grown (Below.refl base W) hgr lo.2.2.2 (fun k hk => (hown.lt k hk).1)).setCell lo.2.1 _

set_option maxRecDepth 100000 in
set_option maxHeartbeats 1000000 in
theorem note_any {w : World} {base BN BT r : Nat} {E : List En} {x : En} (h : EnI w base BN BT r E) (hx : bOk x.1) (hlen : E.length ≤ 900000000) :
    Calls Tryd.prog 89 #[enV x, .pointer (some ⟨BN, 0, none⟩), .pointer (some ⟨BT, 0, none⟩)] w fun e w' => e = .returned (.tuple #[]) ∧ EnI w' base BN BT r (addE E x) ∧ Below base w w' := by
  have HX := hide hx
  have hap := h.apart
  obtain ⟨v, ebt, hown⟩ := h.bt
  have hbn := below_new w (Obj.cells (enE x).toArray 144)
  have hbox := one_new w (Obj.cells (enE x).toArray 144)
  have hlk := bxLookup (h.mp.keep (fun o ho => belowRow hbn ho)) hx
  have hM1 := h.below hbn
  have b0 := cell_of_row _ BN 0 _ _ _ hM1.bn
  have t0 := cell_of_row _ BT 0 _ _ _ (belowRow hbn ebt)
  have HLb := hide (enBox_load hx hbox)
  have hB1 : Below base w (w.alloc (Obj.cells (enE x).toArray 144)) := hbn.mono h.lo.2.2.2
  obtain ⟨ad, cp, rfl⟩ := owns_form hown
  by_cases hin : x.1 ∈ E.map (·.1)
  · have e1 : addE E x = E := by unfold addE; rw [if_pos hin]
    rw [e1]
    rw [if_pos hin, decide_eq_true hin] at hlk
    have HM1 := hide (And.intro hM1 hB1)
    clear h hown ebt hM1 hin hbn hbox e1 hx hB1 hap
    generalize nOf (E.map (·.1)) x.1 = nm at *
    go_enter Tryd.func89, Tryd.ntmps89
    go_wp2_with (first | refine wpl_load HLb.out rfl rfl rfl ?_)
    go_end0
    exact ⟨rfl, HM1.out.1, HM1.out.2⟩
  · have e1 : addE E x = E ++ [x] := by unfold addE; rw [if_neg hin]
    rw [e1]
    rw [if_neg hin, decide_eq_false hin] at hlk
    obtain ⟨o, hup, hmp⟩ := bxUpdate hM1.mp hx hin
    rw [List.length_map] at hup
    have hne : ∀ k, k ≠ r → ((w.alloc (Obj.cells (enE x).toArray 144)).putObj r o).heap[k]? = (w.alloc (Obj.cells (enE x).toArray 144)).heap[k]? := fun k hk => World.putObj_heap_other hk
    have hs2 : ((w.alloc (Obj.cells (enE x).toArray 144)).putObj r o).heap.size = w.heap.size + 1 := by simp
    have hrlt : r < w.heap.size := h.mp.lt
    have n1 : BN < w.heap.size := (Array.getElem?_eq_some_iff.1 h.bn).1
    have n2 : BT < w.heap.size := (Array.getElem?_eq_some_iff.1 ebt).1
    have hbt2 := (hne BT hap.2.2).trans (belowRow hbn ebt)
    have hbn2 := (hne BN hap.2.1).trans hM1.bn
    have hbox2 := (hne w.heap.size (by omega)).trans hbox
    have hown1 := owns_below hown hbn
    have hown2 : ((w.alloc (Obj.cells (enE x).toArray 144)).putObj r o).ownsRow base 144 20 (.slice ad E.length cp) E.length (E.flatMap enE) := owns_kept hown1 (fun q hq => hne q (fun e => by
      obtain ⟨c', fz, hc⟩ := owns_cells hown1 q hq
      obtain ⟨o2, ho2, hcc⟩ := hM1.mp.not_cells
      rw [e, ho2] at hc
      injection hc with hc
      subst hc
      cases hcc))
    have hB2 : Below base w ((w.alloc (Obj.cells (enE x).toArray 144)).putObj r o) := ⟨hB1.os, hB1.tape, hB1.output, by rw [hs2]; omega, fun k hk => (hne k (by have := h.lo.2.2.1; omega)).trans (hB1.block k hk)⟩
    have q0 := cell_of_row _ BT 0 _ _ _ hbt2
    have HLe := hide (en_load hx hbox2)
    have hlo := h.lo
    generalize hW2 : (w.alloc (Obj.cells (enE x).toArray 144)).putObj r o = W2 at *
    have HSl := hide (enSlice (e := x) hx W2)
    have hnw := one_new W2 (Obj.cells (enE x).toArray 144)
    have hbn3 := below_new W2 (Obj.cells (enE x).toArray 144)
    have HoW := hide (owns_below hown2 hbn3)
    have HbW := hide (show base ≤ (W2.alloc (Obj.cells (enE x).toArray 144)).heap.size by simp; omega)
    have HnW := hide hnw
    have HB2 := hide (And.intro hbt2 (And.intro hbn2 (And.intro hmp hbn3)))
    have HBB := hide hB2
    have Hown2 := hide hown2
    have hn2 : BT < W2.heap.size := by omega
    have Hlo := hide hlo
    have hlen' : E.length ≤ 1000000000 := by omega
    clear hs2 h hown ebt hM1 hin hbn hbox e1 hown1 hown2 hbt2 hbn2 hmp hbn3 hnw hne hbox2 hW2 hB1 hB2 hlo hx hap n1 hrlt
    go_enter Tryd.func89, Tryd.ntmps89
    go_wp2_with (first | (show wpList _ _ _ (⟨some 9, _, _, _, _, _⟩ :: _) _ _; refine wpl_load HLb.out rfl rfl rfl ?_) | (show wpList _ _ _ (⟨some 17, _, _, _, _, _⟩ :: _) _ _; refine wpl_load HLb.out rfl rfl rfl ?_) | (show wpList _ _ _ (⟨some 21, _, _, _, _, _⟩ :: _) _ _; refine wpl_load HLe.out rfl rfl rfl ?_) | (show wpList _ _ _ (⟨some 22, _, _, _, _, _⟩ :: _) _ _; refine wpl_slice1 HSl.out rfl rfl rfl ?_) | (show wpList _ _ _ (⟨some 23, _, _, _, _, _⟩ :: _) _ _; refine wpList_append_big _ rfl (.tmp 20) (.tmp 22) 102 144 20 40 rfl enEl base _ _ _ rfl HoW.out W2.heap.size 1 (enE x) rfl (enE_len HX.out) (fun j u hu => (cell_of_row _ W2.heap.size j _ _ _ HnW.out).trans (by simpa using hu)) (enE_one _) hlen' HbW.out ?_; intro g8 cap8 w8 hown8 hgrow8 hor8 hbase8; have hbt8 := (hgrow8.block BT (by simp; omega) (fun e => row_apart Hown2.out HB2.out.1 (by decide) BT e.symm rfl)).trans (belowRow HB2.out.2.2.2 HB2.out.1); have z0 := cell_of_row w8 BT 0 _ _ _ hbt8; have zf : ∀ o, w8.frozen? ⟨BT, o, none⟩ = false := (fun o => by simp [World.frozen?, hbt8]); have Hown8 := hide hown8; have Hgrow8 := hide hgrow8; have Hbt8 := hide hbt8; clear hown8 hgrow8 hor8 hbt8))
    go_end0
    obtain ⟨h1, h2⟩ := EnI_add (x := x) (belowRow HB2.out.2.2.2 HB2.out.1) (belowRow HB2.out.2.2.2 HB2.out.2.1) (by rw [List.map_append]; exact HB2.out.2.2.1.keep (fun o ho => belowRow HB2.out.2.2.2 ho)) HoW.out Hgrow8.out Hown8.out ⟨Hlo.out.1, Hlo.out.2.1, Hlo.out.2.2.1, HbW.out⟩
    exact ⟨rfl, h1, (HBB.out.trans (HB2.out.2.2.2.mono (by have := HBB.out.size; have := Hlo.out.2.2.2; omega))).trans h2⟩

end Go.Proofs.YtpiacnnifdjlkabDoor

namespace Go.Proofs.YtpiacnnifdjlkabDoor
open Go.RowKit Go.Sort

section
variable {ops : Array Oper} {Q : Exit → Act → World → Prop} {a0 : Act}

/-- All values are told ahead, the world is only kept; the last operation is whatever it is. -/
theorem wp_region_upto {id : Nat} {w : World} (L : Nat) (ds : List (Nat × Tmp)) (val : Nat → Value) (Wp : World → Prop) (OP : Op) (DST : Option Tmp) (hds : dstList ops (List.range L) = ds) (hlt : (ds.all fun p => decide (p.1 < L)) = true) (hm : Tryd.prog.follows .mixedOrders = true) (h : orderly ops a0.tmps.size = true) (hh : hung ops = true) (hsz : ops.size = L + 1)
    (hop : ops[L]?.map (fun o => (o.op, o.dst)) = some (OP, DST)) (hL : 0 < L) (h0 : Wp { w with drawn := w.drawn + 1 }) (hstep : ∀ i o, i < L → ops[i]? = some o → ValOk ops a0 val Wp i o)
    (hend : ∀ W, Wp W → ∀ o : Oper, o.op = OP → o.dst = DST → o.wp Tryd.prog { a0 with tmps := putPairs val ds a0.tmps } W (fun a' w' => Q .normal a' w') Q) : (Code.region id ops true).wp Tryd.prog Q a0 w := by
  have hgen : ∀ i o, i < L → ops[i]? = some o → ∀ (a : Act) (W : World) (vs : Nat → Value), Wp W → (∀ t, free ops i t = true → a.eval (.tmp t) = a0.eval (.tmp t)) → (∀ j, dep o j = true → (fun i v (_ : World) => v = val i) j (vs j) W ∧ ∀ d, dstAt ops j = some d → a.eval (.tmp d) = vs j) →
      ∀ K : Act → World → Prop, (∀ w', Wp w' → K (a.put o.dst (val i)) w') → o.wp Tryd.prog a W K Q := fun i o hi ho a W vs hW he hd K hK => by
    have k1 : ∀ t, free ops i t = true → a.tmps[t]?.getD undef = a0.tmps[t]?.getD undef := fun t ht => free_val he t ht
    have k2 : ∀ j d, dep o j = true → dstAt ops j = some d → a.tmps[d]?.getD undef = val j := fun j d h1 h2 => dep_val (w := W) (R := fun i v _ => v = val i) hd j d h1 h2
    rcases hstep i o hi ho a W hW k1 k2 with hr | ⟨f, args, hr, hc⟩
    · unfold Oper.wp
      rw [hr]
      exact hK W hW
    · unfold Oper.wp
      rw [hr, Oper.upon_enter]
      exact hc.mono fun e w' ⟨he, h1⟩ => by subst he; exact hK w' h1
  cases ho : ops[L]? with
  | none => rw [ho] at hop; cases hop
  | some oL =>
    rw [ho] at hop
    injection hop with hop
    injection hop with hop1 hop2
    refine wp_region_last L 0 oL ds (fun _ => Wp) (fun i v _ => v = val i) hds hm h hh hsz ho hL h0 (fun i o hi _ ho _ a W vs hW he hd => hgen i o hi ho a W vs hW he hd _ fun w' h' => ⟨_, rfl, h', rfl, fun _ _ h => h⟩) (fun o ho a W vs hW he hd => hgen 0 o hL ho a W vs hW he hd _ fun w' h' => ⟨_, rfl, h', rfl, fun _ _ _ h => h⟩) fun vs W hW hR => ?_
    rw [putPairs_congr ds a0.tmps (fun p hp => hR p.1 (by simpa using List.all_eq_true.1 hlt p hp))]
    exact hend W hW oL hop1 hop2

/-- What an operation has left: the block of one element; the longer row; a value that is told. -/
def RPush (val : Nat → Value) (jB X : Nat) (w0 : World) (base e sz n : Nat) (news ys : List Value) (i : Nat) (v : Value) (W : World) : Prop :=
  if i = jB then ∃ B, v = .slice (some ⟨B, 0, none⟩) 1 1 ∧ w0.heap.size ≤ B ∧ W.heap[B]? = some (.cells news.toArray e)
  else if i = X then ∃ g cap, v = .slice (some ⟨g, 0, none⟩) (n + 1) cap ∧ W.ownsRow base e sz v (n + 1) ys
  else v = val i

def VPush (w0 : World) (base : Nat) (b : Bool) (W : World) : Prop := Below base w0 W ∧ w0.heap.size ≤ W.heap.size ∧ (b = false → Below w0.heap.size w0 W)

theorem RPush.below {val : Nat → Value} {jB X : Nat} {w0 : World} {base e sz n : Nat} {news ys : List Value} {i : Nat} {v : Value} {W W' : World} (h : RPush val jB X w0 base e sz n news ys i v W) (hb : Below W.heap.size W W') : RPush val jB X w0 base e sz n news ys i v W' := by
  unfold RPush at h ⊢
  split at h
  · rename_i c
    rw [if_pos c]
    obtain ⟨B, h1, h2, h3⟩ := h
    exact ⟨B, h1, h2, belowRow hb h3⟩
  · rename_i c
    rw [if_neg c]
    split at h
    · rename_i c'
      rw [if_pos c']
      obtain ⟨g, cap, h1, h2⟩ := h
      exact ⟨g, cap, h1, owns_below h2 hb⟩
    · rename_i c'
      rw [if_neg c']
      exact h

theorem VPush.below {w0 : World} {base : Nat} {b : Bool} {W W' : World} (hb0 : base ≤ w0.heap.size) (h : VPush w0 base b W) (hb : Below W.heap.size W W') : VPush w0 base b W' :=
  ⟨h.1.trans (hb.mono (Nat.le_trans hb0 h.2.1)), Nat.le_trans h.2.1 hb.size, fun e => below_trans (h.2.2 e) hb⟩

/-- x = append(x, ..): told values, a slice of one element, the append, and what is assigned at the end. -/
theorem wp_region_push {id : Nat} {w : World} (jB X L j0 js : Nat) (ds : List (Nat × Tmp)) (val : Nat → Value) {base t e sz by_ n kb ks kx kX kd : Nat} {sv : Value} {xs : List Value} (news : List Value) (hT : ElT t e sz by_) (hn : n ≤ 1000000000) (hnl : news.length = sz) (h1 : ∀ u ∈ news, u.oneCell' = true)
    (hds : dstList ops (List.range L) = ds) (hm : Tryd.prog.follows .mixedOrders = true) (h : orderly ops a0.tmps.size = true) (hh : hung ops = true) (hsz : ops.size = L + 1) (hXL : X < L ∧ jB < L ∧ jB ≠ X)
    (hopB : ops[jB]?.map (fun o => (o.op, dep o j0, dstAt ops j0)) = some (.buildSlice t 1 #[(0, .tmp kb)], true, some kb)) (hj0 : j0 ≠ jB ∧ j0 ≠ X) (hv0 : val j0 = .agg news.toArray)
    (hopX : ops[X]?.map (fun o => (o.op, dep o js, dstAt ops js, dep o jB, dstAt ops jB)) = some (.call { callee := .builtin .append, args := #[.tmp ks, .tmp kx], argTypes := #[t, t] }, true, some ks, true, some kx)) (hjs : js ≠ jB ∧ js ≠ X) (hvs : val js = sv)
    (hopL : ops[L]?.map (fun o => (o.op, o.dst)) = some (.assign (.tmp kX), some kd)) (hkX : ∀ vs : Nat → Value, (putPairs vs ds a0.tmps)[kX]?.getD undef = vs X)
    (hown : w.ownsRow base e sz sv n xs) (hbase : base ≤ w.heap.size)
    (hsl : ∀ W : World, (Instr.buildSlice t 1 #[(0, .agg news.toArray)]).run Tryd.prog W = .ok (.slice (some ⟨W.heap.size, 0, none⟩) 1 1) (W.alloc (.cells news.toArray e)))
    (hstep : ∀ i o, i < L → i ≠ jB → i ≠ X → ops[i]? = some o → ∀ (a : Act) (W : World), Below base w W → (∀ t, free ops i t = true → a.tmps[t]?.getD undef = a0.tmps[t]?.getD undef) → (∀ j d, j ≠ jB → j ≠ X → dep o j = true → dstAt ops j = some d → a.tmps[d]?.getD undef = val j) →
      (execOp a.eval o).run Tryd.prog W = .ok (.value (val i)) W ∨ ∃ f args, (execOp a.eval o).run Tryd.prog W = .ok (.enter f args) W ∧ Calls Tryd.prog f args W fun e w' => e = .returned (val i) ∧ Below W.heap.size W w')
    (hend : ∀ (vs : Nat → Value) (W : World) (g cap : Nat), Below base w W → w.heap.size ≤ W.heap.size → (∀ i, i < L → i ≠ jB → i ≠ X → vs i = val i) → vs X = .slice (some ⟨g, 0, none⟩) (n + 1) cap → W.ownsRow base e sz (.slice (some ⟨g, 0, none⟩) (n + 1) cap) (n + 1) (xs ++ news) → Q .normal (Act.put { a0 with tmps := putPairs vs ds a0.tmps } (some kd) (vs X)) W) :
    (Code.region id ops true).wp Tryd.prog Q a0 w := by
  -- the row's own block lies below
  have hblk : ∀ B, w.heap.size ≤ B → some B ≠ sv.ownBlock := fun B hB e => by
    have := (hown.lt B e.symm).2
    omega
  cases ho : ops[L]? with
  | none => rw [ho] at hopL; cases hopL
  | some oL =>
    rw [ho] at hopL
    injection hopL with hopL
    injection hopL with hop1 hop2
    refine wp_region_last L X oL ds (VPush w base) (RPush val jB X w base e sz n news (xs ++ news)) hds hm h hh hsz ho hXL.1 ⟨Below.drew (Below.refl _ _), Nat.le_refl _, fun _ => Below.drew (Below.refl _ _)⟩ (fun i o hi hiX hoi b => ?_) (fun o hoX => ?_) fun vs W hW hR => ?_
    · intro a W vs hV he hd
      by_cases hiB : i = jB
      · subst hiB
        rw [hoi] at hopB
        injection hopB with hopB
        injection hopB with e1 e2
        injection e2 with e2 e3
        have hv : a.tmps[kb]?.getD undef = .agg news.toArray := by
          have h5 := hd j0 e2
          rw [← eval_tmp, h5.2 kb e3, ← hv0]
          have := h5.1
          unfold RPush at this
          rwa [if_neg hj0.1, if_neg hj0.2] at this
        have hb := below_new W (Obj.cells news.toArray e)
        unfold Oper.wp execOp
        simp only [e1, List.map_toArray, List.map_cons, List.map_nil, eval_tmp, hv, Sem.run_bind, hsl W, Sem.run_pure, Result.andThen_ok]
        exact ⟨_, rfl, hV.below hbase hb, by unfold RPush; rw [if_pos rfl]; exact ⟨_, rfl, hV.2.1, one_new W _⟩, fun j x hr => hr.below hb⟩
      · have k1 : ∀ t, free ops i t = true → a.tmps[t]?.getD undef = a0.tmps[t]?.getD undef := fun t ht => free_val he t ht
        have k2 : ∀ j d, j ≠ jB → j ≠ X → dep o j = true → dstAt ops j = some d → a.tmps[d]?.getD undef = val j := fun j d n1 n2 h1 h2 => by
          have h5 := hd j h1
          rw [← eval_tmp, h5.2 d h2]
          have := h5.1
          unfold RPush at this
          rwa [if_neg n1, if_neg n2] at this
        have hRi : ∀ W', RPush val jB X w base e sz n news (xs ++ news) i (val i) W' := fun W' => by unfold RPush; rw [if_neg hiB, if_neg hiX]
        rcases hstep i o hi hiB hiX hoi a W hV.1 k1 k2 with hr | ⟨f, args, hr, hc⟩
        · unfold Oper.wp
          rw [hr]
          exact ⟨_, rfl, hV, hRi _, fun _ _ h => h⟩
        · unfold Oper.wp
          rw [hr, Oper.upon_enter]
          exact hc.mono fun e' w' ⟨he', hb⟩ => by subst he'; exact ⟨_, rfl, hV.below hbase hb, hRi _, fun j x hr => hr.below hb⟩
    · intro a W vs hV he hd
      rw [hoX] at hopX
      injection hopX with hopX
      injection hopX with e1 e2
      injection e2 with e2 e3
      injection e3 with e3 e4
      injection e4 with e4 e5
      have hs : a.tmps[ks]?.getD undef = sv := by
        have h5 := hd js e2
        rw [← eval_tmp, h5.2 ks e3, ← hvs]
        have := h5.1
        unfold RPush at this
        rwa [if_neg hjs.1, if_neg hjs.2] at this
      obtain ⟨B, hx, hB, hBr⟩ : ∃ B, a.tmps[kx]?.getD undef = .slice (some ⟨B, 0, none⟩) 1 1 ∧ w.heap.size ≤ B ∧ W.heap[B]? = some (.cells news.toArray e) := by
        have h5 := hd jB e4
        have h6 := h5.1
        unfold RPush at h6
        rw [if_pos rfl] at h6
        obtain ⟨B, h7, h8, h9⟩ := h6
        exact ⟨B, by rw [← eval_tmp, h5.2 kx e5, h7], h8, h9⟩
      have hbl := hV.2.2 rfl
      have hownW : W.ownsRow base e sz sv n xs := owns_below hown hbl
      obtain ⟨g', cap', w', hr, g2, g3, g4, g5⟩ := run_append_big W o.type t e base n sz by_ hT sv xs hownW B 1 news hnl (fun j u hu => by rw [cell_of_row _ _ _ _ _ _ hBr]; simpa using hu) h1 hn (Nat.le_trans hbase hV.2.1)
      unfold Oper.wp execOp
      simp only [e1, resolve, invoke, builtin, Sem.run_bind, Sem.run_pure, Result.andThen_ok, List.map_toArray, List.map_cons, List.map_nil, eval_tmp, hs, hx, hr]
      refine ⟨_, rfl, ⟨Below.grown hV.1 g3 (Nat.le_trans hbase hV.2.1) (fun k hk => (hownW.lt k hk).1), Nat.le_trans hV.2.1 g3.size, fun e => by cases e⟩, by unfold RPush; rw [if_neg (Ne.symm hXL.2.2), if_pos rfl]; exact ⟨_, _, rfl, g2⟩, fun j x hj hr => ?_⟩
      unfold RPush at hr ⊢
      split at hr
      · rename_i c
        rw [if_pos c]
        obtain ⟨B', b1, b2, b3⟩ := hr
        exact ⟨B', b1, b2, (g3.block B' (Array.getElem?_eq_some_iff.1 b3).1 (hblk B' b2)).trans b3⟩
      · rename_i c
        rw [if_neg c, if_neg hj]
        first | exact hr | rwa [if_neg hj] at hr
    · have hX := hR X hXL.1
      unfold RPush at hX
      rw [if_neg (Ne.symm hXL.2.2), if_pos rfl] at hX
      obtain ⟨g, cap, hv, ho'⟩ := hX
      unfold Oper.wp execOp
      simp only [hop1, eval_tmp, hkX vs, Sem.run_pure]
      show Q .normal (Act.put _ oL.dst (vs X)) W
      rw [hop2]
      exact hend vs W g cap hW.1 hW.2.1 (fun i hi n1 n2 => by
        have := hR i hi
        unfold RPush at this
        rwa [if_neg n1, if_neg n2] at this) hv (by rw [hv] at ho'; exact ho')
end

end Go.Proofs.YtpiacnnifdjlkabDoor
