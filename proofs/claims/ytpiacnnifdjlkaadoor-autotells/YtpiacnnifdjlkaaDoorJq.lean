/-
  What TrimOf of the reference answers.
-/
import Derived.Test.YtpiacnnifdjlkaaDoorJp
import Derived.Test.YtpiacnnifdjlkaaDoorJk
namespace Go.Proofs.YtpiacnnifdjlkaaDoor
open Go.RowKit Go.Sort

/-- How memory stands while states are marked. -/
structure TI (w wr : World) (bx : Array Value) (N : Nat) (f : Nat → Bool) : Prop where
  bx : wr.heap[w.heap.size]? = some (.cells bx 26)
  res : wr.heap[w.heap.size + 1]? = some (.cells noA 26)
  kp : BR wr (w.heap.size + 1 + 1) N f
  below : Below w.heap.size w wr

theorem TI.mark {w wr : World} {bx : Array Value} {N : Nat} {f : Nat → Bool} (h : TI w wr bx N f) (t : Nat) (ht : t < N) : TI w (wr.setCell ⟨w.heap.size + 1 + 1, t, none⟩ (.bool true)) bx N (addF f t) :=
  ⟨(heap_setCell_other wr _ _ _ (by simp; omega)).trans h.bx, (heap_setCell_other wr _ _ _ (by simp)).trans h.res, h.kp.set t ht, h.below.setCell (by simp; omega) _⟩

theorem left_addLe {f : Nat → Bool} {N s : Nat} (hs : s < N) : left (addF f s) N ≤ left f N := by
  cases h : f s with
  | true => rw [addF_old h]; exact Nat.le_refl _
  | false => exact Nat.le_of_lt (left_add hs h)

/-- What TrimOf leaves. -/
def TrimdR (A : Aut) (w : World) (e : Ending) (w' : World) : Prop := ∃ v T, e = .returned v ∧ AutO w' w.heap.size v T ∧ TrimR A T ∧ Below w.heap.size w w'

set_option maxRecDepth 100000 in
set_option maxHeartbeats 4000000 in
theorem trimOf_any {w : World} {v : Value} {A : Aut} (hv : AutV w v A) (hA : Right A) (hfl : A.first.length ≤ 300) : Calls Tryd.prog 17 #[v] w fun e w' => TrimdR A w e w' := by
  obtain ⟨fv, gv, sv, rfl, hF, hG, hS⟩ := hv
  obtain ⟨N, hN⟩ := Int.eq_ofNat_of_zero_le (show 0 ≤ A.n by have := hA.n1; omega)
  have HN := hide hN.symm
  have hN3 : N ≤ 300 := by have := hA.n3; omega
  have HF := hide hF
  have HG := hide hG
  have HS := hide hS
  have HA := hide hA
  obtain ⟨a1, c1, rfl, hm1, -⟩ := hF
  obtain ⟨a2, c2, rfl, hm2, -⟩ := hG
  obtain ⟨a3, c3, rfl, hm3, -⟩ := hS
  unfold maxLen at hm1 hm2 hm3
  have hgl : A.good.length = N := by have := hA.good; omega
  have hsl := hA.few
  clear hA
  have hmk : ∀ W, (Instr.makeSlice 22 (.int .i64 N) (.int .i64 N)).run Tryd.prog W = .ok (.slice (some ⟨W.heap.size, 0, none⟩) N N) (W.alloc (.cells (intRow N fun _ => 0) 3)) := fun W => make_row N (by omega) W
  have hmb : ∀ W, (Instr.makeSlice 23 (.int .i64 N) (.int .i64 N)).run Tryd.prog W = .ok (.slice (some ⟨W.heap.size, 0, none⟩) N N) (W.alloc (.cells (falses N) 4)) := fun W => make_bools N (by omega) W
  generalize hL1 : A.first.length = L1 at *
  generalize hL3 : A.steps.length = L3 at *
  have HL1 := hide hL1
  have HL2 := hide hgl
  have HL3 := hide hL3
  rw [hgl] at hm2 HG ⊢
  rw [hN]
  clear hL1 hL3 hgl hN
  go_enter Tryd.func17, Tryd.ntmps17
  go_wp2_with (fail)
  clear hmb
  go_loopw [4] (fun s4 wr => ∃ (i : Nat) (f : Nat → Bool), s4 = .int .i64 i ∧ i ≤ L1 ∧ Hid (TI w wr #[.int .i64 N, .int .i64 A.m, .slice a1 L1 c1, .slice a2 N c2, .slice a3 L3 c3] N f) ∧ Hid ((∀ q, f q = true → ReachA A q) ∧ ∀ x ∈ A.first.take i, f x.toNat = true)) (fun s4 _ => L1 - (intOf s4).toNat)
  case atStart =>
    have q := three_alloc w (Obj.cells #[.int .i64 N, .int .i64 A.m, .slice a1 L1 c1, .slice a2 N c2, .slice a3 L3 c3] 26) (Obj.cells noA 26) (Obj.cells (falses N) 4)
    exact ⟨0, _, rfl, Nat.zero_le _, hide ⟨q.1, q.2.1, BR.new q.2.2, (by repeat (first | exact Below.refl _ _ | assumption | refine below_drewN ?_ _ | refine Below.drew ?_ | refine Below.alloc ?_ (by simp <;> omega) _ | refine below_trans ?_ (by assumption)))⟩, hide ⟨fun _ h => (by cases h), fun x hx => (by simp at hx)⟩⟩
  case round =>
    obtain ⟨i, f, rfl, hi, hI, hf⟩ := hrel
    have p2 := cell_of_row _ _ 2 _ _ _ hI.out.bx
    by_cases hlt : i < L1
    · have hls : i < A.first.length := by rw [HL1.out]; exact hlt
      obtain ⟨a', cap', e, _, hzz, _⟩ := HF.out
      injection e with e1 e2 e3
      subst e1
      rcases hzz with hzz | ⟨gb, goff, e, hcell⟩
      · rw [hzz] at hls; simp at hls
      subst e
      have hgb := World.block_lt_of_cell? w _ (hcell i hls)
      have d0 := (hI.out.below.cell hgb).trans (hcell i hls)
      have hmem : A.first.getD i 0 ∈ A.first := by simp [List.getD, hls]
      have hx0 := HA.out.first _ hmem
      have HRe := hide (show ReachA A (A.first.getD i 0).toNat from ⟨i, hls, 0, rfl⟩)
      have HTk := hide (show A.first.take (i + 1) = A.first.take i ++ [A.first.getD i 0] by rw [List.take_add_one, List.getElem?_eq_getElem hls]; simp [List.getD, hls])
      generalize A.first.getD i 0 = x at *
      obtain ⟨xn, rfl⟩ := Int.eq_ofNat_of_zero_le hx0.1
      rw [Int.toNat_natCast] at HRe
      have hxN : (xn : Int) < (N : Int) := by have := HN.out; omega
      have hxn : xn < N := by omega
      have k0 := hI.out.kp.cell xn hxn
      have k1 := hI.out.kp.soft xn
      have HI2 := hide (hI.out.mark xn hxn)
      clear hcell e2 e3 hls hmem hx0 hgb hI
      go_wp2_with (fail)
      go_roundw
      case rel =>
        refine ⟨i + 1, addF f xn, by go_num, by omega, HI2, hide ⟨fun q hq => ?_, fun x hx => ?_⟩⟩
        · unfold addF at hq
          rcases (Bool.or_eq_true _ _).mp hq with hq | hq
          · exact hf.out.1 q hq
          · rw [of_decide_eq_true hq]; exact HRe.out
        · rw [HTk.out] at hx
          unfold addF
          rcases List.mem_append.1 hx with hx | hx
          · rw [hf.out.2 x hx]; rfl
          · simp at hx; subst hx; simp
      case measure => simp [intOf]; omega
    · obtain rfl : L1 = i := by omega
      have e1 : A.first.take L1 = A.first := by rw [← HL1.out]; exact List.take_length
      rw [e1] at hf
      have HTF := hide (show TF A f from ⟨hf.out.1, hf.out.2⟩)
      clear hi e1 hf hlt
      go_wp2_with (fail)
      clear p2
      go_loopg [5] (2 * left f N + 1) (fun gk s5 wr => ∃ (c : Bool) (f : Nat → Bool), gk = 2 * left f N + (if c = true then 1 else 0) ∧ s5 = .bool c ∧ Hid (TI w wr #[.int .i64 N, .int .i64 A.m, .slice a1 L1 c1, .slice a2 N c2, .slice a3 L3 c3] N f) ∧ Hid (TF A f) ∧ Hid (c = false → ∀ s ∈ A.steps, f s.f.toNat = true → f s.t.toNat = true))
      case atStart => exact ⟨true, f, rfl, rfl, hI, HTF, hide (fun h => by cases h)⟩
      case round =>
        clear hI HTF
        obtain ⟨c, f, rfl, rfl, hI, HTF, hcl⟩ := hrel
        cases c with
        | true =>
          clear hcl
          go_wp2_with (fail)
          go_loopw [5, 6] (fun s5 s6 wr => ∃ (i : Nat) (c : Bool) (f' : Nat → Bool), s5 = .bool c ∧ s6 = .int .i64 i ∧ i ≤ L3 ∧ Hid (TI w wr #[.int .i64 N, .int .i64 A.m, .slice a1 L1 c1, .slice a2 N c2, .slice a3 L3 c3] N f') ∧ Hid (TF A f') ∧ Hid (left f' N ≤ left f N ∧ (c = true → left f' N < left f N)) ∧ Hid (c = false → ∀ s ∈ A.steps.take i, f' s.f.toNat = true → f' s.t.toNat = true)) (fun _ s6 _ => L3 - (intOf s6).toNat)
          case atStart => exact ⟨0, false, f, rfl, rfl, Nat.zero_le _, hI, HTF, hide ⟨Nat.le_refl _, fun h => by cases h⟩, hide (fun _ s hs => by simp at hs)⟩
          case round =>
            clear hI HTF
            obtain ⟨i, c, f', rfl, rfl, hi, hI, HTF, hle, hcl⟩ := hrel
            have p4 := cell_of_row _ _ 4 _ _ _ hI.out.bx
            by_cases hlt : i < L3
            · have hls : i < A.steps.length := by rw [HL3.out]; exact hlt
              obtain ⟨a', cap', e, _, hzz, _⟩ := HS.out
              injection e with e1 e2 e3
              subst e1
              rcases hzz with hzz | ⟨gb, goff, e, hcell⟩
              · rw [hzz] at hls; simp at hls
              subst e
              obtain ⟨u0, u1, u2⟩ := hcell i hls
              have d0 := (hI.out.below.cell (World.block_lt_of_cell? w _ u0)).trans u0
              have d2 := (hI.out.below.cell (World.block_lt_of_cell? w _ u2)).trans u2
              have hmem : A.steps.getD i stp0 ∈ A.steps := by simp [List.getD, hls]
              have hx0 := HA.out.steps _ hmem
              have HTk := hide (show A.steps.take (i + 1) = A.steps.take i ++ [A.steps.getD i stp0] by rw [List.take_add_one, List.getElem?_eq_getElem hls]; simp [List.getD, hls])
              have HEd := hide (show EdgeS A (A.steps.getD i stp0).f.toNat (A.steps.getD i stp0).t.toNat from ⟨_, hmem, by omega, by omega⟩)
              generalize A.steps.getD i stp0 = st at *
              obtain ⟨sf, sl, st⟩ := st
              dsimp only at *
              obtain ⟨fn, rfl⟩ := Int.eq_ofNat_of_zero_le hx0.1
              obtain ⟨tn, rfl⟩ := Int.eq_ofNat_of_zero_le hx0.2.2.2.2.1
              simp only [Int.toNat_natCast] at HEd
              have hfN : (fn : Int) < (N : Int) := by have := HN.out; omega
              have htN : (tn : Int) < (N : Int) := by have := HN.out; omega
              have hfn : fn < N := by omega
              have htn : tn < N := by omega
              have k0 := hI.out.kp.cell fn hfn
              have k2 := hI.out.kp.cell tn htn
              have k3 := hI.out.kp.soft tn
              clear hcell e2 e3 hls hmem hx0 u0 u1 u2
              cases hff : f' fn with
              | false =>
                rw [hff] at k0
                have HC2 := hide (show c = false → ∀ s ∈ A.steps.take (i + 1), f' s.f.toNat = true → f' s.t.toNat = true from fun hc s hs h => by
                  rw [HTk.out] at hs
                  rcases List.mem_append.1 hs with hs | hs
                  · exact hcl.out hc s hs h
                  · simp at hs; subst hs; rw [Int.toNat_natCast, hff] at h; cases h)
                clear hff
                go_wp2_with (fail)
                go_roundw
                case rel => exact ⟨i + 1, c, f', rfl, by go_num, by omega, hI, HTF, hle, HC2⟩
                case measure => simp [intOf]; omega
              | true =>
                rw [hff] at k0
                cases hft : f' tn with
                | true =>
                  rw [hft] at k2
                  have HC2 := hide (show c = false → ∀ s ∈ A.steps.take (i + 1), f' s.f.toNat = true → f' s.t.toNat = true from fun hc s hs h => by
                    rw [HTk.out] at hs
                    rcases List.mem_append.1 hs with hs | hs
                    · exact hcl.out hc s hs h
                    · simp at hs; subst hs; rw [Int.toNat_natCast]; exact hft)
                  clear hff hft
                  go_wp2_with (fail)
                  go_roundw
                  case rel => exact ⟨i + 1, c, f', rfl, by go_num, by omega, hI, HTF, hle, HC2⟩
                  case measure => simp [intOf]; omega
                | false =>
                  rw [hft] at k2
                  have HI2 := hide (hI.out.mark tn htn)
                  have HT2 := hide (HTF.out.add ((HTF.out.sound fn hff).step HEd.out))
                  have HL2' := hide (show left (addF f' tn) N < left f N from Nat.lt_of_lt_of_le (left_add htn hft) hle.out.1)
                  clear hff hft hI
                  go_wp2_with (fail)
                  go_roundw
                  case rel => exact ⟨i + 1, true, addF f' tn, rfl, by go_num, by omega, HI2, HT2, hide ⟨Nat.le_of_lt HL2'.out, fun _ => HL2'.out⟩, hide (fun h => by cases h)⟩
                  case measure => simp [intOf]; omega
            · obtain rfl : L3 = i := by omega
              have e1 : A.steps.take L3 = A.steps := by rw [← HL3.out]; exact List.take_length
              rw [e1] at hcl
              clear hi e1 hlt
              go_wp2_with (fail)
              go_roundg (2 * left f' N + (if c = true then 1 else 0))
              case measure =>
                have h1 := hle.out.1
                cases c with
                | true => have h2 := hle.out.2 rfl; simp; omega
                | false => simp; omega
              case rel => exact ⟨c, f', rfl, rfl, hI, HTF, hcl⟩
        | false =>
          have HCl := hide (hcl.out rfl)
          have HAll := hide (HTF.out.all HCl.out)
          have p1 := cell_of_row _ _ 1 _ _ _ hI.out.bx
          have p0 := cell_of_row _ _ 0 _ _ _ hI.out.bx
          have hsw : w.heap.size + 1 + 1 < wr.heap.size := hI.out.kp.lt
          have hsw0 : w.heap.size < wr.heap.size := by omega
          clear hcl
          go_wp2_with (fail)
          generalize hP0 : wr.heap.size = P0 at *
          have HOG := hide (show OG w ((wr.alloc (Obj.cells #[.int .i64 0, .int .i64 A.m, .slice none 0 0, .slice none 0 0, .slice none 0 0] 26)).alloc (Obj.cells (intRow N fun _ => 0) 3)) (w.heap.size) (w.heap.size + 1) (w.heap.size + 1 + 1) P0 (P0 + 1) #[.int .i64 N, .int .i64 A.m, .slice a1 L1 c1, .slice a2 N c2, .slice a3 L3 c3] N f (numF f 0) (.slice none 0 0) (.slice none 0 0) (.slice none 0 0) ⟨(rk f 0 : Nat), A.m, [], keptGood f A.good 0, []⟩ from by
            have q := two_alloc wr (Obj.cells #[.int .i64 0, .int .i64 A.m, .slice none 0 0, .slice none 0 0, .slice none 0 0] 26) (Obj.cells (intRow N fun _ => 0) 3)
            rw [hP0] at q
            have hb2 : Below wr.heap.size wr ((wr.alloc (Obj.cells #[.int .i64 0, .int .i64 A.m, .slice none 0 0, .slice none 0 0, .slice none 0 0] 26)).alloc (Obj.cells (intRow N fun _ => 0) 3)) := (by repeat (first | exact Below.refl _ _ | assumption | refine below_drewN ?_ _ | refine Below.drew ?_ | refine Below.alloc ?_ (by simp <;> omega) _ | refine below_trans ?_ (by assumption)))
            refine ⟨⟨q.1, World.ownsRow_nil _ _ _ _, World.ownsRow_nil _ _ _ _, World.ownsRow_nil _ _ _ _, by omega⟩, ?_, belowRow hb2 hI.out.bx, belowRow hb2 hI.out.res, hI.out.kp.old hb2, below_trans hI.out.below hb2, ⟨by simp [Value.ownBlock], by simp [Value.ownBlock], by simp [Value.ownBlock]⟩, ⟨by simp [Value.ownBlock], by simp [Value.ownBlock], by simp [Value.ownBlock]⟩, by omega, by omega, by omega, by omega, by omega, by omega, by omega, by omega⟩
            rw [show intRow N (numF f 0) = intRow N fun _ => 0 from intRow_congr fun q _ => by simp [numF]]
            exact q.2)
          clear hI hP0 p0 p1 hmk
          generalize (wr.alloc (Obj.cells #[.int .i64 0, .int .i64 A.m, .slice none 0 0, .slice none 0 0, .slice none 0 0] 26)).alloc (Obj.cells (intRow N fun _ => 0) 3) = w4 at *
          go_loopw [9] (fun s9 wr => ∃ (i : Nat) (gv : Value), s9 = .int .i64 i ∧ i ≤ N ∧ Hid (OG w wr (w.heap.size) (w.heap.size + 1) (w.heap.size + 1 + 1) P0 (P0 + 1) #[.int .i64 N, .int .i64 A.m, .slice a1 L1 c1, .slice a2 N c2, .slice a3 L3 c3] N f (numF f i) (.slice none 0 0) gv (.slice none 0 0) ⟨(rk f i : Nat), A.m, [], keptGood f A.good i, []⟩)) (fun s9 _ => N - (intOf s9).toNat)
          case atStart => exact ⟨0, _, rfl, Nat.zero_le _, HOG⟩
          case round =>
            clear HOG
            obtain ⟨i, gv, rfl, hi, hO⟩ := hrel
            have p0 := cell_of_row _ _ 0 _ _ _ hO.out.bx
            by_cases hlt : i < N
            · have hkc := hO.out.kp.cell i hlt
              cases hfi : f i with
              | false =>
                rw [hfi] at hkc
                have HO2 := hide ((hO.out.congr (num' := numF f (i + 1)) (fun q _ => numF_no hfi q)))
                have HR := hide (rk_succ f i)
                have HGd := hide (keptGood_succ f A.good i)
                rw [hfi] at HR HGd
                clear hfi hO
                go_wp2_with (fail)
                go_roundw
                case rel => exact ⟨i + 1, gv, by go_num, by omega, hide (by rw [HR.out, HGd.out]; simpa using HO2.out)⟩
                case measure => simp [intOf]; omega
              | true =>
                rw [hfi] at hkc
                have HR := hide (rk_succ f i)
                have HGd := hide (keptGood_succ f A.good i)
                rw [hfi] at HR HGd
                have hrl := rk_le f i
                have hO1 := hO.out.setNum i (rk f i : Nat)
                have hO2 := hO1.states ((rk f i : Nat) + 1)
                have hO3 := hide (hO2.congr (num' := numF f (i + 1)) (fun q _ => numF_yes hfi q))
                have hnr : rk f i = (keptGood f A.good i).length := (keptGood_len f A.good i).symm
                have HNr := hide hnr
                clear hnr
                generalize rk f i = rr at *
                have x0 := cell_of_row _ _ 0 _ _ _ hO.out.ra.box
                have n0 := (cell_of_row _ _ i _ _ _ hO.out.num).trans (intRow_get _ _ _ hlt)
                have n1 := frozen_of_row _ _ i _ _ hO.out.num
                have x1 := cell_of_row _ _ 0 _ _ _ hO1.ra.box
                have x2 := frozen_of_row _ _ 0 _ _ hO1.ra.box
                clear hfi hO hO1 hO2
                go_wp2_with (fail)
                generalize (wr.setCell ⟨P0 + 1, i, none⟩ (.int .i64 (rr : Nat))).setCell ⟨P0, 0, none⟩ (.int .i64 ((rr : Nat) + 1)) = w7 at *
                clear x0 n0 n1 x1 x2 hkc p0
                rename_i Q' K hK
                have q3 := cell_of_row _ _ 3 _ _ _ hO3.out.ra.box
                have p3 := cell_of_row _ _ 3 _ _ _ hO3.out.bx
                obtain ⟨a', cap', e, _, hzz, _⟩ := HG.out
                injection e with e1 e2 e3
                subst e1
                have hls : i < A.good.length := by rw [HL2.out]; exact hlt
                rcases hzz with hzz | ⟨gb, goff, e, hcell⟩
                · rw [hzz] at hls; simp at hls
                subst e
                have hgb := World.block_lt_of_cell? w _ (hcell i hls)
                have d0 := (hO3.out.below.cell hgb).trans (hcell i hls)
                generalize A.good.getD i false = z at *
                have HAp := hide (show some P0 ≠ gv.ownBlock from hO3.out.ra.apart.2.1)
                have HAb := hide (show some (w.heap.size) ≠ gv.ownBlock from fun e => row_apart hO3.out.ra.g hO3.out.bx (by decide) _ e.symm rfl)
                have HGb := hide (show some gb ≠ gv.ownBlock from fun e => by have := (hO3.out.ra.g.lt gb e.symm).1; dsimp only at hgb; omega)
                have hiZ : (i : Int) < (N : Int) := by omega
                have hn9 : (keptGood f A.good i).length ≤ 900000 := by have := HNr.out; omega
                clear hcell e2 e3 hls
                refine wp_region_put 10 7 8 _ [(0, 92), (1, 93), (2, 94), (3, 95), (4, 96), (5, 97), (6, 98), (7, 99), (8, 100), (9, 101)] (fun j v => match j with | 0 => v = .pointer (some ⟨P0, 3, none⟩) | 1 => v = gv | 2 => v = .pointer (some ⟨w.heap.size, 3, none⟩) | 3 => v = .slice (some ⟨gb, goff, none⟩) N c2 | 4 => v = .int .i64 (i : Nat) | 5 => v = .pointer (some ⟨gb, goff + i, none⟩) | 6 => v = .bool z | 7 => True | 8 => True | 9 => v = .pointer (some ⟨P0, 3, none⟩) | _ => True) [.bool z] elBool hO3.out.ra.old hO3.out.ra.g hn9 rfl (by intro u hu; simp at hu; (try (rcases hu with rfl | rfl | rfl <;> rfl)); (try (subst hu; rfl))) (by kernel_rfl) (by kernel_rfl) (by kernel_rfl) (by kernel_rfl) (by kernel_rfl) rfl (by decide) (by decide) (.cells #[.bool z] 4) 1 (el_new #[.bool z] 4) rfl rfl ?_ _ rfl (.tmp 93) (.tmp 99) rfl ?_ ?_ rfl rfl sizeBools hO3.out.ra.box HAp.out (by decide : 3 < 5) ?_ (fun vs => by simp [putPairs]) ?_
                · intro o ho a W vs he hd
                  obtain rfl := Option.some.inj ho
                  clear ho
                  have v6 : a.tmps[98]?.getD undef = .bool z := (dep_val hd 6 98 (by kernel_rfl) (by kernel_rfl)).1
                  simp [execOp, go_sem, v6]
                · intro a W vs hd
                  have v1 : a.tmps[93]?.getD undef = gv := (dep_val hd 1 93 (by kernel_rfl) (by kernel_rfl)).1
                  exact ⟨(eval_tmp a 93).trans v1, by rw [eval_tmp]; exact (dep_val hd 7 99 (by kernel_rfl) (by kernel_rfl)).2.1 rfl⟩
                · intro j o hj hjB hjX ho a W vs hV he hd
                  match j, hj, hjB, hjX, ho with
                  | 0, hj, hjB, hjX, ho =>
                    obtain rfl := Option.some.inj ho
                    clear ho
                    have e7 : a.tmps[7]?.getD undef = .pointer (some ⟨P0, 0, none⟩) := free_val he 7 (by kernel_rfl)
                    exact ⟨.pointer (some ⟨P0, 3, none⟩), by simp [execOp, go_sem, e7], rfl⟩
                  | 1, hj, hjB, hjX, ho =>
                    obtain rfl := Option.some.inj ho
                    clear ho
                    have v0 : a.tmps[92]?.getD undef = .pointer (some ⟨P0, 3, none⟩) := (dep_val hd 0 92 (by kernel_rfl) (by kernel_rfl)).1
                    have c0 := hV.cell q3 HAp.out
                    exact ⟨gv, by simp [execOp, go_sem, v0, c0], rfl⟩
                  | 2, hj, hjB, hjX, ho =>
                    obtain rfl := Option.some.inj ho
                    clear ho
                    have e1 : a.tmps[1]?.getD undef = .pointer (some ⟨w.heap.size, 0, none⟩) := free_val he 1 (by kernel_rfl)
                    exact ⟨.pointer (some ⟨w.heap.size, 3, none⟩), by simp [execOp, go_sem, e1], rfl⟩
                  | 3, hj, hjB, hjX, ho =>
                    obtain rfl := Option.some.inj ho
                    clear ho
                    have v2 : a.tmps[94]?.getD undef = .pointer (some ⟨w.heap.size, 3, none⟩) := (dep_val hd 2 94 (by kernel_rfl) (by kernel_rfl)).1
                    have c0 := hV.cell p3 HAb.out
                    exact ⟨.slice (some ⟨gb, goff, none⟩) N c2, by simp [execOp, go_sem, v2, c0], rfl⟩
                  | 4, hj, hjB, hjX, ho =>
                    obtain rfl := Option.some.inj ho
                    clear ho
                    have e9 : a.tmps[9]?.getD undef = .int .i64 (i : Nat) := free_val he 9 (by kernel_rfl)
                    exact ⟨.int .i64 (i : Nat), by simp [execOp, go_sem, e9], rfl⟩
                  | 5, hj, hjB, hjX, ho =>
                    obtain rfl := Option.some.inj ho
                    clear ho
                    have v3 : a.tmps[95]?.getD undef = .slice (some ⟨gb, goff, none⟩) N c2 := (dep_val hd 3 95 (by kernel_rfl) (by kernel_rfl)).1
                    have v4 : a.tmps[96]?.getD undef = .int .i64 (i : Nat) := (dep_val hd 4 96 (by kernel_rfl) (by kernel_rfl)).1
                    exact ⟨.pointer (some ⟨gb, goff + i, none⟩), by simp [execOp, go_sem, v3, v4, hiZ], rfl⟩
                  | 6, hj, hjB, hjX, ho =>
                    obtain rfl := Option.some.inj ho
                    clear ho
                    have v5 : a.tmps[97]?.getD undef = .pointer (some ⟨gb, goff + i, none⟩) := (dep_val hd 5 97 (by kernel_rfl) (by kernel_rfl)).1
                    have c0 := hV.cell d0 HGb.out
                    exact ⟨.bool z, by simp [execOp, go_sem, v5, c0], rfl⟩
                  | 7, hj, hjB, hjX, ho =>
                    exact absurd rfl hjB
                  | 8, hj, hjB, hjX, ho =>
                    exact absurd rfl hjX
                  | 9, hj, hjB, hjX, ho =>
                    obtain rfl := Option.some.inj ho
                    clear ho
                    have e7 : a.tmps[7]?.getD undef = .pointer (some ⟨P0, 0, none⟩) := free_val he 7 (by kernel_rfl)
                    exact ⟨.pointer (some ⟨P0, 3, none⟩), by simp [execOp, go_sem, e7], rfl⟩
                  | j + 10, hj, hjB, hjX, ho => exact absurd hj (by omega)
                · intro vs hRp
                  have hva : vs 9 = .pointer (some ⟨P0, 3, none⟩) := hRp 9 (by decide)
                  simp [putPairs, hva]
                · intro vs W g9 c9 hV hRp hrow hwh
                  refine hK _ _ ?_
                  have HF9 := hide (hO3.out.appGood (z := z) hV hrow hwh)
                  clear hrow hV hRp hO3 q3 p3 d0
                  simp only [putPairs]
                  go_wp2_with (fail)
                  go_roundw
                  case rel => exact ⟨i + 1, _, by go_num, by omega, hide (by rw [HR.out, HGd.out]; simpa using HF9.out)⟩
                  case measure => simp [intOf]; omega
            · obtain rfl : N = i := by omega
              have x0 := cell_of_row _ _ 0 _ _ _ hO.out.ra.box
              clear hi
              by_cases hz0 : A.first = []
              · have hr0 : rk f N = 0 := rk_zero (fun q hq => by
                  cases h : f q with
                  | false => rfl
                  | true =>
                    obtain ⟨j, hj, _⟩ := (HAll.out q).1 h
                    rw [hz0] at hj
                    cases hj)
                have HT := hide (show TrimR A ⟨1, A.m, [], [false], []⟩ from Or.inl ⟨hz0, rfl⟩)
                have p1 := cell_of_row _ _ 1 _ _ _ hO.out.bx
                have hres := hO.out.res
                unfold noA at hres
                have hlt1 : w.heap.size + 1 < wr.heap.size := (Array.getElem?_eq_some_iff.1 hres).1
                have y0 := cell_of_row _ _ 0 _ _ _ hres
                have y1 := cell_of_row _ _ 1 _ _ _ hres
                have y2 := cell_of_row _ _ 2 _ _ _ hres
                have y3 := cell_of_row _ _ 3 _ _ _ hres
                have y4 := cell_of_row _ _ 4 _ _ _ hres
                have z0 := frozen_of_row _ _ 0 _ _ hres
                have z1 := frozen_of_row _ _ 1 _ _ hres
                have z2 := frozen_of_row _ _ 2 _ _ hres
                have z3 := frozen_of_row _ _ 3 _ _ hres
                have z4 := frozen_of_row _ _ 4 _ _ hres
                have hF := fivePut_box hres (.int .i64 1) (.int .i64 A.m) (.slice none 0 0) (.slice (some ⟨wr.heap.size, 0, none⟩) 1 1) (.slice none 0 0)
                have HBF := hide ((fivePut_below hO.out.below (show w.heap.size ≤ w.heap.size + 1 by omega) (.int .i64 1) (.int .i64 A.m) (.slice none 0 0) (.slice (some ⟨wr.heap.size, 0, none⟩) 1 1) (.slice none 0 0)).alloc (by rw [fivePut_size]; omega) (Obj.cells #[.bool false] 4))
                have HN2 := one_new (fivePut wr (w.heap.size + 1) (.int .i64 1) (.int .i64 A.m) (.slice none 0 0) (.slice (some ⟨wr.heap.size, 0, none⟩) 1 1) (.slice none 0 0)) (Obj.cells #[.bool false] 4)
                rw [fivePut_size] at HN2
                have HOw := hide (show ((fivePut wr (w.heap.size + 1) (.int .i64 1) (.int .i64 A.m) (.slice none 0 0) (.slice (some ⟨wr.heap.size, 0, none⟩) 1 1) (.slice none 0 0)).alloc (Obj.cells #[.bool false] 4)).ownsRow w.heap.size 4 1 (.slice (some ⟨wr.heap.size, 0, none⟩) 1 1) 1 [.bool false] from ⟨rfl, Or.inr ⟨wr.heap.size, 1, #[.bool false], rfl, by omega, HN2, Nat.le_refl _, by unfold maxLen; omega, rfl, rfl⟩⟩)
                have f0 := cell_of_row _ _ 0 _ _ _ hF
                have f1 := cell_of_row _ _ 1 _ _ _ hF
                have f2 := cell_of_row _ _ 2 _ _ _ hF
                have f3 := cell_of_row _ _ 3 _ _ _ hF
                have f4 := cell_of_row _ _ 4 _ _ _ hF
                unfold fivePut at f0 f1 f2 f3 f4 HBF HOw
                rw [hr0] at x0
                clear hF hres hO HN2 hr0 hz0
                go_wp2_with (fail)
                refine bodyPost_ret (v := (.agg #[.int .i64 1, .int .i64 A.m, .slice none 0 0, .slice (some ⟨wr.heap.size, 0, none⟩) 1 1, .slice none 0 0])) (by simp [results, Tryd.results17, go_sem, f0, f1, f2, f3, f4, hlt1]) rfl ⟨(.agg #[.int .i64 1, .int .i64 A.m, .slice none 0 0, .slice (some ⟨wr.heap.size, 0, none⟩) 1 1, .slice none 0 0]), ⟨1, A.m, [], [false], []⟩, rfl, ?_, HT.out, HBF.out⟩
                exact ⟨_, _, _, rfl, World.ownsRow_nil _ _ _ _, HOw.out, World.ownsRow_nil _ _ _ _⟩
              · have hfx : ∃ q, q < N ∧ f q = true := by
                  obtain ⟨x, l, hxl⟩ := List.exists_cons_of_ne_nil hz0
                  have hx := HA.out.first x (by rw [hxl]; exact List.mem_cons_self)
                  exact ⟨x.toNat, by have := HN.out; omega, HTF.out.first x (by rw [hxl]; exact List.mem_cons_self)⟩
                have hr0 : (((rk f N : Nat) : Int) == 0) = false := by
                  obtain ⟨q, hq, hfq⟩ := hfx
                  have := rk_pos hq hfq
                  rw [beq_eq_false_iff_ne]
                  omega
                have HT := hide (onlyA_trim HN.out hz0 (fun q _ => HAll.out q))
                have hrk := rk_le f N
                clear hz0 hfx hlt
                go_wp2_with (fail)
                clear hr0 x0 p0
                go_loopw [10] (fun s10 wr => ∃ (i : Nat) (fv : Value), s10 = .int .i64 i ∧ i ≤ L1 ∧ Hid (OG w wr (w.heap.size) (w.heap.size + 1) (w.heap.size + 1 + 1) P0 (P0 + 1) #[.int .i64 N, .int .i64 A.m, .slice a1 L1 c1, .slice a2 N c2, .slice a3 L3 c3] N f (numF f N) fv gv (.slice none 0 0) ⟨(rk f N : Nat), A.m, keptFirst f (A.first.take i), keptGood f A.good N, []⟩)) (fun s10 _ => L1 - (intOf s10).toNat)
                case atStart => exact ⟨0, _, rfl, Nat.zero_le _, hO⟩
                case round =>
                  clear hO
                  obtain ⟨i, fv, rfl, hi, hO⟩ := hrel
                  have p2 := cell_of_row _ _ 2 _ _ _ hO.out.bx
                  by_cases hlt : i < L1
                  · have hls : i < A.first.length := by rw [HL1.out]; exact hlt
                    obtain ⟨a', cap', e, _, hzz, _⟩ := HF.out
                    injection e with e1 e2 e3
                    subst e1
                    rcases hzz with hzz | ⟨gb, goff, e, hcell⟩
                    · rw [hzz] at hls; simp at hls
                    subst e
                    have hgb := World.block_lt_of_cell? w _ (hcell i hls)
                    have d0 := (hO.out.below.cell hgb).trans (hcell i hls)
                    have hmem : A.first.getD i 0 ∈ A.first := by simp [List.getD, hls]
                    have hx0 := HA.out.first _ hmem
                    have hxf := HTF.out.first _ hmem
                    have HFt := hide (keptFirst_take f A.first i hls)
                    generalize A.first.getD i 0 = x at *
                    obtain ⟨xn, rfl⟩ := Int.eq_ofNat_of_zero_le hx0.1
                    rw [Int.toNat_natCast] at hxf HFt
                    have hxN : (xn : Int) < (N : Int) := by have := HN.out; omega
                    have hxn : xn < N := by omega
                    have n0 := (cell_of_row _ _ xn _ _ _ hO.out.num).trans (intRow_get _ _ _ hxn)
                    rw [numF_kept hxn hxf] at n0
                    have q2 := cell_of_row _ _ 2 _ _ _ hO.out.ra.box
                    have HAp := hide (show some P0 ≠ fv.ownBlock from hO.out.ra.apart.1)
                    have HNb := hide (show some (P0 + 1) ≠ fv.ownBlock from fun e => hO.out.farN.1 e.symm)
                    have HAb := hide (show some (w.heap.size) ≠ fv.ownBlock from fun e => row_apart hO.out.ra.f hO.out.bx (by decide) _ e.symm rfl)
                    have HGb := hide (show some gb ≠ fv.ownBlock from fun e => by have := (hO.out.ra.f.lt gb e.symm).1; dsimp only at hgb; omega)
                    have hiZ : (i : Int) < (L1 : Int) := by omega
                    have hn9 : (keptFirst f (A.first.take i)).length ≤ 900000 := by simp [keptFirst]; omega
                    clear hcell e2 e3 hls hmem hx0 hxf hgb
                    go_wp2_with (fail)
                    rename_i Q' K hK
                    refine wp_region_put 13 10 11 _ [(0, 116), (1, 117), (2, 118), (3, 119), (4, 120), (5, 121), (6, 122), (7, 123), (8, 124), (9, 125), (10, 126), (11, 127), (12, 128)] (fun j v => match j with | 0 => v = .pointer (some ⟨P0, 2, none⟩) | 1 => v = fv | 2 => v = .slice (some ⟨P0 + 1, 0, none⟩) N N | 3 => v = .pointer (some ⟨w.heap.size, 2, none⟩) | 4 => v = .slice (some ⟨gb, goff, none⟩) L1 c1 | 5 => v = .int .i64 (i : Nat) | 6 => v = .pointer (some ⟨gb, goff + i, none⟩) | 7 => v = .int .i64 (xn : Nat) | 8 => v = .pointer (some ⟨P0 + 1, xn, none⟩) | 9 => v = .int .i64 (rk f xn : Nat) | 10 => True | 11 => True | 12 => v = .pointer (some ⟨P0, 2, none⟩) | _ => True) [.int .i64 (rk f xn : Nat)] elInt hO.out.ra.old hO.out.ra.f hn9 rfl (by intro u hu; simp at hu; (try (rcases hu with rfl | rfl | rfl <;> rfl)); (try (subst hu; rfl))) (by kernel_rfl) (by kernel_rfl) (by kernel_rfl) (by kernel_rfl) (by kernel_rfl) rfl (by decide) (by decide) (.cells #[.int .i64 (rk f xn : Nat)] 3) 1 (el_new #[.int .i64 (rk f xn : Nat)] 3) rfl rfl ?_ _ rfl (.tmp 117) (.tmp 126) rfl ?_ ?_ rfl rfl sizeInts hO.out.ra.box HAp.out (by decide : 2 < 5) ?_ (fun vs => by simp [putPairs]) ?_
                    · intro o ho a W vs he hd
                      obtain rfl := Option.some.inj ho
                      clear ho
                      have v9 : a.tmps[125]?.getD undef = .int .i64 (rk f xn : Nat) := (dep_val hd 9 125 (by kernel_rfl) (by kernel_rfl)).1
                      simp [execOp, go_sem, v9]
                    · intro a W vs hd
                      have v1 : a.tmps[117]?.getD undef = fv := (dep_val hd 1 117 (by kernel_rfl) (by kernel_rfl)).1
                      exact ⟨(eval_tmp a 117).trans v1, by rw [eval_tmp]; exact (dep_val hd 10 126 (by kernel_rfl) (by kernel_rfl)).2.1 rfl⟩
                    · intro j o hj hjB hjX ho a W vs hV he hd
                      match j, hj, hjB, hjX, ho with
                      | 0, hj, hjB, hjX, ho =>
                        obtain rfl := Option.some.inj ho
                        clear ho
                        have e7 : a.tmps[7]?.getD undef = .pointer (some ⟨P0, 0, none⟩) := free_val he 7 (by kernel_rfl)
                        exact ⟨.pointer (some ⟨P0, 2, none⟩), by simp [execOp, go_sem, e7], rfl⟩
                      | 1, hj, hjB, hjX, ho =>
                        obtain rfl := Option.some.inj ho
                        clear ho
                        have v0 : a.tmps[116]?.getD undef = .pointer (some ⟨P0, 2, none⟩) := (dep_val hd 0 116 (by kernel_rfl) (by kernel_rfl)).1
                        have c0 := hV.cell q2 HAp.out
                        exact ⟨fv, by simp [execOp, go_sem, v0, c0], rfl⟩
                      | 2, hj, hjB, hjX, ho =>
                        obtain rfl := Option.some.inj ho
                        clear ho
                        have e8 : a.tmps[8]?.getD undef = .slice (some ⟨P0 + 1, 0, none⟩) N N := free_val he 8 (by kernel_rfl)
                        exact ⟨.slice (some ⟨P0 + 1, 0, none⟩) N N, by simp [execOp, go_sem, e8], rfl⟩
                      | 3, hj, hjB, hjX, ho =>
                        obtain rfl := Option.some.inj ho
                        clear ho
                        have e1 : a.tmps[1]?.getD undef = .pointer (some ⟨w.heap.size, 0, none⟩) := free_val he 1 (by kernel_rfl)
                        exact ⟨.pointer (some ⟨w.heap.size, 2, none⟩), by simp [execOp, go_sem, e1], rfl⟩
                      | 4, hj, hjB, hjX, ho =>
                        obtain rfl := Option.some.inj ho
                        clear ho
                        have v3 : a.tmps[119]?.getD undef = .pointer (some ⟨w.heap.size, 2, none⟩) := (dep_val hd 3 119 (by kernel_rfl) (by kernel_rfl)).1
                        have c0 := hV.cell p2 HAb.out
                        exact ⟨.slice (some ⟨gb, goff, none⟩) L1 c1, by simp [execOp, go_sem, v3, c0], rfl⟩
                      | 5, hj, hjB, hjX, ho =>
                        obtain rfl := Option.some.inj ho
                        clear ho
                        have e10 : a.tmps[10]?.getD undef = .int .i64 (i : Nat) := free_val he 10 (by kernel_rfl)
                        exact ⟨.int .i64 (i : Nat), by simp [execOp, go_sem, e10], rfl⟩
                      | 6, hj, hjB, hjX, ho =>
                        obtain rfl := Option.some.inj ho
                        clear ho
                        have v4 : a.tmps[120]?.getD undef = .slice (some ⟨gb, goff, none⟩) L1 c1 := (dep_val hd 4 120 (by kernel_rfl) (by kernel_rfl)).1
                        have v5 : a.tmps[121]?.getD undef = .int .i64 (i : Nat) := (dep_val hd 5 121 (by kernel_rfl) (by kernel_rfl)).1
                        exact ⟨.pointer (some ⟨gb, goff + i, none⟩), by simp [execOp, go_sem, v4, v5, hiZ], rfl⟩
                      | 7, hj, hjB, hjX, ho =>
                        obtain rfl := Option.some.inj ho
                        clear ho
                        have v6 : a.tmps[122]?.getD undef = .pointer (some ⟨gb, goff + i, none⟩) := (dep_val hd 6 122 (by kernel_rfl) (by kernel_rfl)).1
                        have c0 := hV.cell d0 HGb.out
                        exact ⟨.int .i64 (xn : Nat), by simp [execOp, go_sem, v6, c0], rfl⟩
                      | 8, hj, hjB, hjX, ho =>
                        obtain rfl := Option.some.inj ho
                        clear ho
                        have v2 : a.tmps[118]?.getD undef = .slice (some ⟨P0 + 1, 0, none⟩) N N := (dep_val hd 2 118 (by kernel_rfl) (by kernel_rfl)).1
                        have v7 : a.tmps[123]?.getD undef = .int .i64 (xn : Nat) := (dep_val hd 7 123 (by kernel_rfl) (by kernel_rfl)).1
                        exact ⟨.pointer (some ⟨P0 + 1, xn, none⟩), by simp [execOp, go_sem, v2, v7, hxN], rfl⟩
                      | 9, hj, hjB, hjX, ho =>
                        obtain rfl := Option.some.inj ho
                        clear ho
                        have v8 : a.tmps[124]?.getD undef = .pointer (some ⟨P0 + 1, xn, none⟩) := (dep_val hd 8 124 (by kernel_rfl) (by kernel_rfl)).1
                        have c0 := hV.cell n0 HNb.out
                        exact ⟨.int .i64 (rk f xn : Nat), by simp [execOp, go_sem, v8, c0], rfl⟩
                      | 10, hj, hjB, hjX, ho =>
                        exact absurd rfl hjB
                      | 11, hj, hjB, hjX, ho =>
                        exact absurd rfl hjX
                      | 12, hj, hjB, hjX, ho =>
                        obtain rfl := Option.some.inj ho
                        clear ho
                        have e7 : a.tmps[7]?.getD undef = .pointer (some ⟨P0, 0, none⟩) := free_val he 7 (by kernel_rfl)
                        exact ⟨.pointer (some ⟨P0, 2, none⟩), by simp [execOp, go_sem, e7], rfl⟩
                      | j + 13, hj, hjB, hjX, ho => exact absurd hj (by omega)
                    · intro vs hRp
                      have hva : vs 12 = .pointer (some ⟨P0, 2, none⟩) := hRp 12 (by decide)
                      simp [putPairs, hva]
                    · intro vs W g9 c9 hV hRp hrow hwh
                      refine hK _ _ ?_
                      have HF9 := hide (hO.out.appFirst (z := (rk f xn : Nat)) hV hrow hwh)
                      clear hrow hV hRp hO q2 n0 d0 p2
                      simp only [putPairs]
                      go_wp2_with (fail)
                      go_roundw
                      case rel => exact ⟨i + 1, _, by go_num, by omega, hide (by rw [HFt.out]; exact HF9.out)⟩
                      case measure => simp [intOf]; omega
                  · obtain rfl : L1 = i := by omega
                    have e1 : A.first.take L1 = A.first := by rw [← HL1.out]; exact List.take_length
                    rw [e1] at hO
                    clear hi e1 hlt
                    go_wp2_with (fail)
                    clear p2
                    go_loopw [11] (fun s11 wr => ∃ (i : Nat) (sv : Value), s11 = .int .i64 i ∧ i ≤ L3 ∧ Hid (OG w wr (w.heap.size) (w.heap.size + 1) (w.heap.size + 1 + 1) P0 (P0 + 1) #[.int .i64 N, .int .i64 A.m, .slice a1 L1 c1, .slice a2 N c2, .slice a3 L3 c3] N f (numF f N) fv gv sv ⟨(rk f N : Nat), A.m, keptFirst f A.first, keptGood f A.good N, keptSteps f (A.steps.take i)⟩)) (fun s11 _ => L3 - (intOf s11).toNat)
                    case atStart => exact ⟨0, _, rfl, Nat.zero_le _, hO⟩
                    case round =>
                      clear hO
                      obtain ⟨i, sv, rfl, hi, hO⟩ := hrel
                      have p4 := cell_of_row _ _ 4 _ _ _ hO.out.bx
                      by_cases hlt : i < L3
                      · have hls : i < A.steps.length := by rw [HL3.out]; exact hlt
                        obtain ⟨a', cap', e, _, hzz, _⟩ := HS.out
                        injection e with e1 e2 e3
                        subst e1
                        rcases hzz with hzz | ⟨gb, goff, e, hcell⟩
                        · rw [hzz] at hls; simp at hls
                        subst e
                        obtain ⟨u0, u1, u2⟩ := hcell i hls
                        have d0 := (hO.out.below.cell (World.block_lt_of_cell? w _ u0)).trans u0
                        have d1 := (hO.out.below.cell (World.block_lt_of_cell? w _ u1)).trans u1
                        have d2 := (hO.out.below.cell (World.block_lt_of_cell? w _ u2)).trans u2
                        have hmem : A.steps.getD i stp0 ∈ A.steps := by simp [List.getD, hls]
                        have hx0 := HA.out.steps _ hmem
                        have hxf := HCl.out _ hmem
                        have HFt := hide (keptSteps_take f A.steps i hls)
                        have hkl9 : (keptSteps f (A.steps.take i)).length ≤ 900000 := by
                          have h1 := List.length_filter_le (fun s : Stp => f s.f.toNat) (A.steps.take i)
                          rw [List.length_take] at h1
                          simp only [keptSteps, List.length_map]
                          omega
                        generalize A.steps.getD i stp0 = st at *
                        obtain ⟨sf, sl, st⟩ := st
                        dsimp only at *
                        obtain ⟨fn, rfl⟩ := Int.eq_ofNat_of_zero_le hx0.1
                        obtain ⟨tn, rfl⟩ := Int.eq_ofNat_of_zero_le hx0.2.2.2.2.1
                        simp only [Int.toNat_natCast] at hxf
                        have hfN : (fn : Int) < (N : Int) := by have := HN.out; omega
                        have htN : (tn : Int) < (N : Int) := by have := HN.out; omega
                        have hfn : fn < N := by omega
                        have htn : tn < N := by omega
                        have hkl : w.heap.size + 1 + 1 < wr.heap.size := hO.out.kp.lt
                        have k0 := hO.out.kp.cell fn hfn
                        have k2 := hO.out.kp.cell tn htn
                        have HO8 := hide (hO.out.alloc (Obj.cells #[.int .i64 (fn : Nat), .int .i64 sl, .int .i64 (tn : Nat)] 81))
                        have HSb := hide (one_new wr (Obj.cells #[.int .i64 (fn : Nat), .int .i64 sl, .int .i64 (tn : Nat)] 81))
                        have HSl := hide (show ∀ k, sv.ownBlock = some k → k < wr.heap.size from fun k hk => (hO.out.ra.s.lt k hk).2)
                        clear hcell e2 e3 hls hmem hx0 u0 u1 u2 hO
                        cases hff : f fn with
                        | false =>
                          rw [hff] at k0
                          have HFt2 := hide (show keptSteps f (A.steps.take (i + 1)) = keptSteps f (A.steps.take i) by rw [HFt.out]; simp [hff])
                          clear hxf hff HFt
                          go_wp2_with (fail)
                          go_roundw
                          case rel => exact ⟨i + 1, _, by go_num, by omega, hide (by rw [HFt2.out]; exact HO8.out)⟩
                          case measure => simp [intOf]; omega
                        | true =>
                          have htf := hxf hff
                          have n0 := (cell_of_row _ _ fn _ _ _ HO8.out.num).trans (intRow_get _ _ _ hfn)
                          have n1 := (cell_of_row _ _ tn _ _ _ HO8.out.num).trans (intRow_get _ _ _ htn)
                          rw [numF_kept hfn hff] at n0
                          rw [numF_kept htn htf] at n1
                          rw [hff] at k0
                          rw [htf] at k2
                          have HFt2 := hide (show keptSteps f (A.steps.take (i + 1)) = keptSteps f (A.steps.take i) ++ [keptStep f ⟨(fn : Nat), sl, (tn : Nat)⟩] by rw [HFt.out]; simp [hff])
                          clear HFt
                          have HSt := hide (show keptStep f ⟨(fn : Nat), sl, (tn : Nat)⟩ = ⟨(rk f fn : Nat), sl, (rk f tn : Nat)⟩ by simp [keptStep])
                          clear hxf hff htf
                          go_wp2_with (fail)
                          generalize wr.alloc (Obj.cells #[.int .i64 (fn : Nat), .int .i64 sl, .int .i64 (tn : Nat)] 81) = w8 at *
                          rename_i Q' K hK
                          have s0 := cell_of_row _ _ 0 _ _ _ HSb.out
                          have s1 := cell_of_row _ _ 1 _ _ _ HSb.out
                          have s2 := cell_of_row _ _ 2 _ _ _ HSb.out
                          have q4 := cell_of_row _ _ 4 _ _ _ HO8.out.ra.box
                          have HAp := hide (show some P0 ≠ sv.ownBlock from HO8.out.ra.apart.2.2)
                          have HNb := hide (show some (P0 + 1) ≠ sv.ownBlock from fun e => HO8.out.farN.2.2 e.symm)
                          have HSs := hide (show some wr.heap.size ≠ sv.ownBlock from fun e => by have := HSl.out _ e.symm; omega)
                          clear d0 d1 d2 k0 k2 p4
                          refine wp_region_put 18 15 16 _ [(0, 153), (1, 154), (2, 155), (3, 156), (4, 157), (5, 158), (6, 159), (7, 160), (8, 161), (9, 162), (10, 163), (11, 164), (12, 165), (13, 166), (14, 167), (15, 168), (16, 169), (17, 170)] (fun j v => match j with | 0 => v = .pointer (some ⟨P0, 4, none⟩) | 1 => v = sv | 2 => v = .slice (some ⟨P0 + 1, 0, none⟩) N N | 3 => v = .pointer (some ⟨wr.heap.size, 0, none⟩) | 4 => v = .int .i64 (fn : Nat) | 5 => v = .pointer (some ⟨P0 + 1, fn, none⟩) | 6 => v = .int .i64 (rk f fn : Nat) | 7 => v = .pointer (some ⟨wr.heap.size, 1, none⟩) | 8 => v = .int .i64 sl | 9 => v = .slice (some ⟨P0 + 1, 0, none⟩) N N | 10 => v = .pointer (some ⟨wr.heap.size, 2, none⟩) | 11 => v = .int .i64 (tn : Nat) | 12 => v = .pointer (some ⟨P0 + 1, tn, none⟩) | 13 => v = .int .i64 (rk f tn : Nat) | 14 => v = .agg #[.int .i64 (rk f fn : Nat), .int .i64 sl, .int .i64 (rk f tn : Nat)] | 15 => True | 16 => True | 17 => v = .pointer (some ⟨P0, 4, none⟩) | _ => True) [.int .i64 (rk f fn : Nat), .int .i64 sl, .int .i64 (rk f tn : Nat)] elStep HO8.out.ra.old HO8.out.ra.s hkl9 rfl (by intro u hu; simp at hu; (try (rcases hu with rfl | rfl | rfl <;> rfl)); (try (subst hu; rfl))) (by kernel_rfl) (by kernel_rfl) (by kernel_rfl) (by kernel_rfl) (by kernel_rfl) rfl (by decide) (by decide) (.cells #[.int .i64 (rk f fn : Nat), .int .i64 sl, .int .i64 (rk f tn : Nat)] 81) 1 (el_new #[.int .i64 (rk f fn : Nat), .int .i64 sl, .int .i64 (rk f tn : Nat)] 81) rfl rfl ?_ _ rfl (.tmp 154) (.tmp 168) rfl ?_ ?_ rfl rfl sizeSteps HO8.out.ra.box HAp.out (by decide : 4 < 5) ?_ (fun vs => by simp [putPairs]) ?_
                          · intro o ho a W vs he hd
                            obtain rfl := Option.some.inj ho
                            clear ho
                            have v14 : a.tmps[167]?.getD undef = .agg #[.int .i64 (rk f fn : Nat), .int .i64 sl, .int .i64 (rk f tn : Nat)] := (dep_val hd 14 167 (by kernel_rfl) (by kernel_rfl)).1
                            simp [execOp, go_sem, v14]
                          · intro a W vs hd
                            have v1 : a.tmps[154]?.getD undef = sv := (dep_val hd 1 154 (by kernel_rfl) (by kernel_rfl)).1
                            exact ⟨(eval_tmp a 154).trans v1, by rw [eval_tmp]; exact (dep_val hd 15 168 (by kernel_rfl) (by kernel_rfl)).2.1 rfl⟩
                          · intro j o hj hjB hjX ho a W vs hV he hd
                            match j, hj, hjB, hjX, ho with
                            | 0, hj, hjB, hjX, ho =>
                              obtain rfl := Option.some.inj ho
                              clear ho
                              have e7 : a.tmps[7]?.getD undef = .pointer (some ⟨P0, 0, none⟩) := free_val he 7 (by kernel_rfl)
                              exact ⟨.pointer (some ⟨P0, 4, none⟩), by simp [execOp, go_sem, e7], rfl⟩
                            | 1, hj, hjB, hjX, ho =>
                              obtain rfl := Option.some.inj ho
                              clear ho
                              have v0 : a.tmps[153]?.getD undef = .pointer (some ⟨P0, 4, none⟩) := (dep_val hd 0 153 (by kernel_rfl) (by kernel_rfl)).1
                              have c0 := hV.cell q4 HAp.out
                              exact ⟨sv, by simp [execOp, go_sem, v0, c0], rfl⟩
                            | 2, hj, hjB, hjX, ho =>
                              obtain rfl := Option.some.inj ho
                              clear ho
                              have e8 : a.tmps[8]?.getD undef = .slice (some ⟨P0 + 1, 0, none⟩) N N := free_val he 8 (by kernel_rfl)
                              exact ⟨.slice (some ⟨P0 + 1, 0, none⟩) N N, by simp [execOp, go_sem, e8], rfl⟩
                            | 3, hj, hjB, hjX, ho =>
                              obtain rfl := Option.some.inj ho
                              clear ho
                              have e12 : a.tmps[12]?.getD undef = .pointer (some ⟨wr.heap.size, 0, none⟩) := free_val he 12 (by kernel_rfl)
                              exact ⟨.pointer (some ⟨wr.heap.size, 0, none⟩), by simp [execOp, go_sem, e12], rfl⟩
                            | 4, hj, hjB, hjX, ho =>
                              obtain rfl := Option.some.inj ho
                              clear ho
                              have v3 : a.tmps[156]?.getD undef = .pointer (some ⟨wr.heap.size, 0, none⟩) := (dep_val hd 3 156 (by kernel_rfl) (by kernel_rfl)).1
                              have c0 := hV.cell s0 HSs.out
                              exact ⟨.int .i64 (fn : Nat), by simp [execOp, go_sem, v3, c0], rfl⟩
                            | 5, hj, hjB, hjX, ho =>
                              obtain rfl := Option.some.inj ho
                              clear ho
                              have v2 : a.tmps[155]?.getD undef = .slice (some ⟨P0 + 1, 0, none⟩) N N := (dep_val hd 2 155 (by kernel_rfl) (by kernel_rfl)).1
                              have v4 : a.tmps[157]?.getD undef = .int .i64 (fn : Nat) := (dep_val hd 4 157 (by kernel_rfl) (by kernel_rfl)).1
                              exact ⟨.pointer (some ⟨P0 + 1, fn, none⟩), by simp [execOp, go_sem, v2, v4, hfN], rfl⟩
                            | 6, hj, hjB, hjX, ho =>
                              obtain rfl := Option.some.inj ho
                              clear ho
                              have v5 : a.tmps[158]?.getD undef = .pointer (some ⟨P0 + 1, fn, none⟩) := (dep_val hd 5 158 (by kernel_rfl) (by kernel_rfl)).1
                              have c0 := hV.cell n0 HNb.out
                              exact ⟨.int .i64 (rk f fn : Nat), by simp [execOp, go_sem, v5, c0], rfl⟩
                            | 7, hj, hjB, hjX, ho =>
                              obtain rfl := Option.some.inj ho
                              clear ho
                              have e12 : a.tmps[12]?.getD undef = .pointer (some ⟨wr.heap.size, 0, none⟩) := free_val he 12 (by kernel_rfl)
                              exact ⟨.pointer (some ⟨wr.heap.size, 1, none⟩), by simp [execOp, go_sem, e12], rfl⟩
                            | 8, hj, hjB, hjX, ho =>
                              obtain rfl := Option.some.inj ho
                              clear ho
                              have v7 : a.tmps[160]?.getD undef = .pointer (some ⟨wr.heap.size, 1, none⟩) := (dep_val hd 7 160 (by kernel_rfl) (by kernel_rfl)).1
                              have c0 := hV.cell s1 HSs.out
                              exact ⟨.int .i64 sl, by simp [execOp, go_sem, v7, c0], rfl⟩
                            | 9, hj, hjB, hjX, ho =>
                              obtain rfl := Option.some.inj ho
                              clear ho
                              have e8 : a.tmps[8]?.getD undef = .slice (some ⟨P0 + 1, 0, none⟩) N N := free_val he 8 (by kernel_rfl)
                              exact ⟨.slice (some ⟨P0 + 1, 0, none⟩) N N, by simp [execOp, go_sem, e8], rfl⟩
                            | 10, hj, hjB, hjX, ho =>
                              obtain rfl := Option.some.inj ho
                              clear ho
                              have e12 : a.tmps[12]?.getD undef = .pointer (some ⟨wr.heap.size, 0, none⟩) := free_val he 12 (by kernel_rfl)
                              exact ⟨.pointer (some ⟨wr.heap.size, 2, none⟩), by simp [execOp, go_sem, e12], rfl⟩
                            | 11, hj, hjB, hjX, ho =>
                              obtain rfl := Option.some.inj ho
                              clear ho
                              have v10 : a.tmps[163]?.getD undef = .pointer (some ⟨wr.heap.size, 2, none⟩) := (dep_val hd 10 163 (by kernel_rfl) (by kernel_rfl)).1
                              have c0 := hV.cell s2 HSs.out
                              exact ⟨.int .i64 (tn : Nat), by simp [execOp, go_sem, v10, c0], rfl⟩
                            | 12, hj, hjB, hjX, ho =>
                              obtain rfl := Option.some.inj ho
                              clear ho
                              have v9 : a.tmps[162]?.getD undef = .slice (some ⟨P0 + 1, 0, none⟩) N N := (dep_val hd 9 162 (by kernel_rfl) (by kernel_rfl)).1
                              have v11 : a.tmps[164]?.getD undef = .int .i64 (tn : Nat) := (dep_val hd 11 164 (by kernel_rfl) (by kernel_rfl)).1
                              exact ⟨.pointer (some ⟨P0 + 1, tn, none⟩), by simp [execOp, go_sem, v9, v11, htN], rfl⟩
                            | 13, hj, hjB, hjX, ho =>
                              obtain rfl := Option.some.inj ho
                              clear ho
                              have v12 : a.tmps[165]?.getD undef = .pointer (some ⟨P0 + 1, tn, none⟩) := (dep_val hd 12 165 (by kernel_rfl) (by kernel_rfl)).1
                              have c0 := hV.cell n1 HNb.out
                              exact ⟨.int .i64 (rk f tn : Nat), by simp [execOp, go_sem, v12, c0], rfl⟩
                            | 14, hj, hjB, hjX, ho =>
                              obtain rfl := Option.some.inj ho
                              clear ho
                              have v6 : a.tmps[159]?.getD undef = .int .i64 (rk f fn : Nat) := (dep_val hd 6 159 (by kernel_rfl) (by kernel_rfl)).1
                              have v8 : a.tmps[161]?.getD undef = .int .i64 sl := (dep_val hd 8 161 (by kernel_rfl) (by kernel_rfl)).1
                              have v13 : a.tmps[166]?.getD undef = .int .i64 (rk f tn : Nat) := (dep_val hd 13 166 (by kernel_rfl) (by kernel_rfl)).1
                              exact ⟨.agg #[.int .i64 (rk f fn : Nat), .int .i64 sl, .int .i64 (rk f tn : Nat)], by simp [execOp, go_sem, v6, v8, v13], rfl⟩
                            | 15, hj, hjB, hjX, ho =>
                              exact absurd rfl hjB
                            | 16, hj, hjB, hjX, ho =>
                              exact absurd rfl hjX
                            | 17, hj, hjB, hjX, ho =>
                              obtain rfl := Option.some.inj ho
                              clear ho
                              have e7 : a.tmps[7]?.getD undef = .pointer (some ⟨P0, 0, none⟩) := free_val he 7 (by kernel_rfl)
                              exact ⟨.pointer (some ⟨P0, 4, none⟩), by simp [execOp, go_sem, e7], rfl⟩
                            | j + 18, hj, hjB, hjX, ho => exact absurd hj (by omega)
                          · intro vs hRp
                            have hva : vs 17 = .pointer (some ⟨P0, 4, none⟩) := hRp 17 (by decide)
                            simp [putPairs, hva]
                          · intro vs W g9 c9 hV hRp hrow hwh
                            refine hK _ _ ?_
                            have HF9 := hide (HO8.out.appStep (z := ⟨(rk f fn : Nat), sl, (rk f tn : Nat)⟩) hV hrow hwh)
                            clear hrow hV hRp HO8 q4 n0 n1 s0 s1 s2
                            simp only [putPairs]
                            go_wp2_with (fail)
                            go_roundw
                            case rel => exact ⟨i + 1, _, by go_num, by omega, hide (by rw [HFt2.out, HSt.out]; exact HF9.out)⟩
                            case measure => simp [intOf]; omega
                      · obtain rfl : L3 = i := by omega
                        have e1 : A.steps.take L3 = A.steps := by rw [← HL3.out]; exact List.take_length
                        rw [e1] at hO
                        have HOA := hide (show (⟨(rk f N : Nat), A.m, keptFirst f A.first, keptGood f A.good N, keptSteps f A.steps⟩ : Aut) = onlyA f N A from rfl)
                        generalize (⟨(rk f N : Nat), A.m, keptFirst f A.first, keptGood f A.good N, keptSteps f A.steps⟩ : Aut) = O at *
                        obtain ⟨b1, e1, b2, e2, b3, e3, rfl, rfl, rfl⟩ := hO.out.ra.slices
                        have hres := hO.out.res
                        unfold noA at hres
                        have x0 := cell_of_row _ _ 0 _ _ _ hO.out.ra.box
                        have x1 := cell_of_row _ _ 1 _ _ _ hO.out.ra.box
                        have x2 := cell_of_row _ _ 2 _ _ _ hO.out.ra.box
                        have x3 := cell_of_row _ _ 3 _ _ _ hO.out.ra.box
                        have x4 := cell_of_row _ _ 4 _ _ _ hO.out.ra.box
                        have y0 := cell_of_row _ _ 0 _ _ _ hres
                        have y1 := cell_of_row _ _ 1 _ _ _ hres
                        have y2 := cell_of_row _ _ 2 _ _ _ hres
                        have y3 := cell_of_row _ _ 3 _ _ _ hres
                        have y4 := cell_of_row _ _ 4 _ _ _ hres
                        have z0 := frozen_of_row _ _ 0 _ _ hres
                        have z1 := frozen_of_row _ _ 1 _ _ hres
                        have z2 := frozen_of_row _ _ 2 _ _ hres
                        have z3 := frozen_of_row _ _ 3 _ _ hres
                        have z4 := frozen_of_row _ _ 4 _ _ hres
                        have hF := fivePut_box hres (.int .i64 O.n) (.int .i64 O.m) (.slice b1 O.first.length e1) (.slice b2 O.good.length e2) (.slice b3 O.steps.length e3)
                        have HAV := hide (hO.out.ra.own.five hres (.int .i64 O.n) (.int .i64 O.m) (.slice b1 O.first.length e1) (.slice b2 O.good.length e2) (.slice b3 O.steps.length e3))
                        have HBF := hide (fivePut_below hO.out.below (show w.heap.size ≤ w.heap.size + 1 by omega) (.int .i64 O.n) (.int .i64 O.m) (.slice b1 O.first.length e1) (.slice b2 O.good.length e2) (.slice b3 O.steps.length e3))
                        have f0 := cell_of_row _ _ 0 _ _ _ hF
                        have f1 := cell_of_row _ _ 1 _ _ _ hF
                        have f2 := cell_of_row _ _ 2 _ _ _ hF
                        have f3 := cell_of_row _ _ 3 _ _ _ hF
                        have f4 := cell_of_row _ _ 4 _ _ _ hF
                        unfold fivePut at f0 f1 f2 f3 f4 HAV HBF
                        clear hF hO hres
                        go_wp2_with (fail)
                        refine bodyPost_ret (v := .agg #[.int .i64 O.n, .int .i64 O.m, .slice b1 O.first.length e1, .slice b2 O.good.length e2, .slice b3 O.steps.length e3]) (by simp [results, Tryd.results17, go_sem, f0, f1, f2, f3, f4]) rfl ⟨.agg #[.int .i64 O.n, .int .i64 O.m, .slice b1 O.first.length e1, .slice b2 O.good.length e2, .slice b3 O.steps.length e3], O, rfl, HAV.out, ?_, HBF.out⟩
                        rw [HOA.out]
                        exact HT.out
end Go.Proofs.YtpiacnnifdjlkaaDoor
