/-
  What the reference's HoldsAt answers, of a node that looks on.
-/
import Derived.Test.YtpiacnnifdjlkaaEq
namespace Go.Proofs.Ytpiacnnifdjlkaa
open Go.RowKit Go.Sort

theorem dr_cell {w w' : World} {a : Addr} {v : Value} (h : ∃ n, w' = w.drewN n) (hc : w.cell? a = some v) : w'.cell? a = some v := by
  obtain ⟨n, rfl⟩ := h
  rw [World.cell?_drewN]; exact hc

theorem dr_below {w0 w w' : World} {B : Nat} (h : ∃ n, w' = w.drewN n) (hb : Below B w0 w) : Below B w0 w' := by
  obtain ⟨n, rfl⟩ := h
  exact below_drewN hb n

theorem dr_trans {w w' w2 : World} (h : ∃ n, w' = w.drewN n) (h2 : ∃ n, w2 = w'.drewN n) : ∃ n, w2 = w.drewN n := by
  obtain ⟨n, rfl⟩ := h
  obtain ⟨m, rfl⟩ := h2
  exact ⟨n + m, by rw [World.drewN_drewN]⟩

set_option maxRecDepth 100000 in
set_option maxHeartbeats 4000000 in
theorem holdsAt_6 {w : World} {fv hv lv tv : Value} {F : List Nd} {hs ls : List Int} {T : List (List Bool)} {i at_ : Nat} (h : HA w fv hv lv tv F hs ls T i at_) (hk : (F.getD i nd0).k = 6) :
    Calls Try.prog 18 #[fv, .agg #[hv, lv], tv, .int .i64 i, .int .i64 at_] w fun e w' => e = .returned (.bool (valB T hs.length ls.length (fun i => (hs ++ ls).getD i 0) (F.getD i nd0) at_)) ∧ Below w.heap.size w w' := by
  have hmf : ∀ (fn : Fn) (first cap : Array Value) (w : World), (Instr.makeFunc fn first cap).run Try.prog w = .ok (.func fn first cap) w := fun _ _ _ _ => rfl
  have hcl := Try.call27
  have hv7 : valB T hs.length ls.length (fun i => (hs ++ ls).getD i 0) (F.getD i nd0) at_ = ruleB T hs.length ls.length (fun i => (hs ++ ls).getD i 0) (F.getD i nd0) at_ false := valB_flat h.pos h.place (by omega) (by omega) false
  rw [hv7]
  clear hv7
  obtain ⟨b, off, cap, rfl, d0, d1, d2, d3⟩ := h.cells
  have hbl := World.block_lt_of_cell? w _ d0
  dsimp only at hbl
  obtain ⟨_, ⟨xa0, xa1, _⟩, ⟨xb0, xb1, xb3⟩, _⟩ := node_ok h.node
  have hilt := h.ilt
  have hfew := h.few
  have h4 := h.h4
  have l4 := h.l4
  have hpl := h.place
  have hpos := h.pos
  obtain ⟨R, gc, rfl, hg⟩ := h.grids (by have := xa1 (by omega); omega)
  obtain ⟨a0, c0, rfl, -⟩ := h.head
  obtain ⟨a1, c1, rfl, -⟩ := h.loop
  clear h
  generalize F.getD i nd0 = x at *
  obtain ⟨k, xa, xb, n⟩ := x
  dsimp only at *
  subst hk
  have xa2 := xa1 (by omega)
  have xb2 := xb3 (by omega)
  subst xb2
  obtain ⟨ja, rfl⟩ := Int.eq_ofNat_of_zero_le xa0
  obtain ⟨ba, oa, ca, ga, gat⟩ := hg ja (by omega)
  obtain ⟨W, hW⟩ : ∃ W, W = ((w.alloc (Obj.cells #[.slice a0 hs.length c0, .slice a1 ls.length c1] 26)).alloc (Obj.cells #[.int .i64 6, .int .i64 ja, .int .i64 0, .int .i64 n] 44)).alloc (Obj.cells #[.int .i64 ((hs.length : Int) + ls.length)] 3) := ⟨_, rfl⟩
  have hbW : Below w.heap.size w W := by rw [hW]; exact (by repeat (first | exact Below.refl _ _ | assumption | refine below_drewN ?_ _ | refine Below.drew ?_ | refine Below.alloc ?_ (by simp <;> omega) _ | refine below_trans ?_ (by assumption)))
  have w0 := heap_alloc_new w (Obj.cells #[.slice a0 hs.length c0, .slice a1 ls.length c1] 26)
  have w1 := heap_alloc_new (w.alloc (Obj.cells #[.slice a0 hs.length c0, .slice a1 ls.length c1] 26)) (Obj.cells #[.int .i64 6, .int .i64 ja, .int .i64 0, .int .i64 n] 44)
  have w2 := heap_alloc_new ((w.alloc (Obj.cells #[.slice a0 hs.length c0, .slice a1 ls.length c1] 26)).alloc (Obj.cells #[.int .i64 6, .int .i64 ja, .int .i64 0, .int .i64 n] 44)) (Obj.cells #[.int .i64 ((hs.length : Int) + ls.length)] 3)
  simp only [World.size_alloc] at w1 w2
  have w0 := heap_under (Obj.cells #[.int .i64 ((hs.length : Int) + ls.length)] 3) (heap_under (Obj.cells #[.int .i64 6, .int .i64 ja, .int .i64 0, .int .i64 n] 44) w0)
  have w1 := heap_under (Obj.cells #[.int .i64 ((hs.length : Int) + ls.length)] 3) w1
  rw [← hW] at w0 w1 w2
  have f1 : W.cell? ⟨w.heap.size, 1, none⟩ = some (.slice a1 ls.length c1) := cell_of_row W _ 1 _ _ _ w0
  have f2 : W.cell? ⟨w.heap.size + 1, 1, none⟩ = some (.int .i64 ja) := cell_of_row W _ 1 _ _ _ w1
  have f3 : W.cell? ⟨w.heap.size + 1, 2, none⟩ = some (.int .i64 0) := cell_of_row W _ 2 _ _ _ w1
  have f4 : W.cell? ⟨w.heap.size + 1 + 1, 0, none⟩ = some (.int .i64 ((hs.length : Int) + ls.length)) := cell_of_row W _ 0 _ _ _ w2
  have HB := hide hbW
  have ga := cell_keep ga hbW
  have HP : Hid (∀ (z : Nat) (W1 : World), z ≤ 1000000 → W1.cell? ⟨w.heap.size + 1 + 1, 0, none⟩ = some (.int .i64 ((hs.length : Int) + ls.length)) → W1.cell? ⟨w.heap.size, 1, none⟩ = some (.slice a1 ls.length c1) → Calls Try.prog 27 #[.int .i64 z, .pointer (some ⟨w.heap.size + 1 + 1, 0, none⟩), .pointer (some ⟨w.heap.size, 0, none⟩)] W1 fun e w' => e = .returned (.int .i64 (plc hs.length ls.length z : Nat)) ∧ w' = W1) := hide fun z W1 hz g4 g1 => place_any z _ _ g4 g1 hpos hz h4 l4
  have F4 := hide f4
  have F1 := hide f1
  have hj := plc_lt hs.length ls.length (at_ + 1) hpos
  have gac := cell_keep (gat _ hj) hbW
  have e : ruleB T hs.length ls.length (fun i => (hs ++ ls).getD i 0) ⟨6, ja, 0, n⟩ at_ false = (T.getD ja []).getD (plc hs.length ls.length (at_ + 1)) false := by
    simp [ruleB, bt, plc_next hpos hpl]
  rw [e]
  have CP := hide (fun W1 => HP.out (at_ + 1) W1 (by omega))
  rw [Int.natCast_add] at CP
  generalize plc hs.length ls.length (at_ + 1) = j at *
  generalize (T.getD ja []).getD j false = y at *
  clear hg gat e HP w0 w1 w2 hbW
  go_enter Try.func18, Try.ntmps18
  go_wp2_with (fail)
  rw [← hW]
  clear hW
  refine wp_region_quiet_lit (by kernel_rfl) (by kernel_rfl) ?_
  (repeat (go_big_quiet_step ((refine Calls.quiet_of_same (CP.out _ ?_ ?_); (simp only [World.cell?_drewN]; exact F4.out); (simp only [World.cell?_drewN]; exact F1.out)))))
  refine wpQuiet_nil ?_
  intro _ hw'
  obtain ⟨nq, hw''⟩ := hw'
  subst hw''
  have hB := below_drewN HB.out nq
  clear CP f1 f2 f3 f4
  go_wp2_with (fail)
  go_ret
  exact ⟨rfl, hB⟩

set_option maxRecDepth 100000 in
set_option maxHeartbeats 4000000 in
theorem holdsAt_7 {w : World} {fv hv lv tv : Value} {F : List Nd} {hs ls : List Int} {T : List (List Bool)} {i at_ : Nat} (h : HA w fv hv lv tv F hs ls T i at_) (hk : (F.getD i nd0).k = 7) :
    Calls Try.prog 18 #[fv, .agg #[hv, lv], tv, .int .i64 i, .int .i64 at_] w fun e w' => e = .returned (.bool (valB T hs.length ls.length (fun i => (hs ++ ls).getD i 0) (F.getD i nd0) at_)) ∧ Below w.heap.size w w' := by
  have hmf : ∀ (fn : Fn) (first cap : Array Value) (w : World), (Instr.makeFunc fn first cap).run Try.prog w = .ok (.func fn first cap) w := fun _ _ _ _ => rfl
  have hcl := Try.call27
  obtain ⟨b, off, cap, rfl, d0, d1, d2, d3⟩ := h.cells
  have hbl := World.block_lt_of_cell? w _ d0
  dsimp only at hbl
  obtain ⟨_, ⟨xa0, xa1, _⟩, ⟨xb0, xb1, xb3⟩, _⟩ := node_ok h.node
  have hilt := h.ilt
  have hfew := h.few
  have h4 := h.h4
  have l4 := h.l4
  have hpl := h.place
  have hpos := h.pos
  obtain ⟨R, gc, rfl, hg⟩ := h.grids (by have := xa1 (by omega); omega)
  obtain ⟨a0, c0, rfl, -⟩ := h.head
  obtain ⟨a1, c1, rfl, -⟩ := h.loop
  clear h
  generalize F.getD i nd0 = x at *
  obtain ⟨k, xa, xb, n⟩ := x
  dsimp only at *
  subst hk
  have xa2 := xa1 (by omega)
  have xb2 := xb1 (by omega)
  obtain ⟨ja, rfl⟩ := Int.eq_ofNat_of_zero_le xa0
  obtain ⟨ba, oa, ca, ga, gat⟩ := hg ja (by omega)
  obtain ⟨jb, rfl⟩ := Int.eq_ofNat_of_zero_le xb0
  obtain ⟨bb, ob, cb, gb, gbt⟩ := hg jb (by omega)
  obtain ⟨W, hW⟩ : ∃ W, W = ((w.alloc (Obj.cells #[.slice a0 hs.length c0, .slice a1 ls.length c1] 26)).alloc (Obj.cells #[.int .i64 7, .int .i64 ja, .int .i64 jb, .int .i64 n] 44)).alloc (Obj.cells #[.int .i64 ((hs.length : Int) + ls.length)] 3) := ⟨_, rfl⟩
  have hbW : Below w.heap.size w W := by rw [hW]; exact (by repeat (first | exact Below.refl _ _ | assumption | refine below_drewN ?_ _ | refine Below.drew ?_ | refine Below.alloc ?_ (by simp <;> omega) _ | refine below_trans ?_ (by assumption)))
  have w0 := heap_alloc_new w (Obj.cells #[.slice a0 hs.length c0, .slice a1 ls.length c1] 26)
  have w1 := heap_alloc_new (w.alloc (Obj.cells #[.slice a0 hs.length c0, .slice a1 ls.length c1] 26)) (Obj.cells #[.int .i64 7, .int .i64 ja, .int .i64 jb, .int .i64 n] 44)
  have w2 := heap_alloc_new ((w.alloc (Obj.cells #[.slice a0 hs.length c0, .slice a1 ls.length c1] 26)).alloc (Obj.cells #[.int .i64 7, .int .i64 ja, .int .i64 jb, .int .i64 n] 44)) (Obj.cells #[.int .i64 ((hs.length : Int) + ls.length)] 3)
  simp only [World.size_alloc] at w1 w2
  have w0 := heap_under (Obj.cells #[.int .i64 ((hs.length : Int) + ls.length)] 3) (heap_under (Obj.cells #[.int .i64 7, .int .i64 ja, .int .i64 jb, .int .i64 n] 44) w0)
  have w1 := heap_under (Obj.cells #[.int .i64 ((hs.length : Int) + ls.length)] 3) w1
  rw [← hW] at w0 w1 w2
  have f1 : W.cell? ⟨w.heap.size, 1, none⟩ = some (.slice a1 ls.length c1) := cell_of_row W _ 1 _ _ _ w0
  have f2 : W.cell? ⟨w.heap.size + 1, 1, none⟩ = some (.int .i64 ja) := cell_of_row W _ 1 _ _ _ w1
  have f3 : W.cell? ⟨w.heap.size + 1, 2, none⟩ = some (.int .i64 jb) := cell_of_row W _ 2 _ _ _ w1
  have f4 : W.cell? ⟨w.heap.size + 1 + 1, 0, none⟩ = some (.int .i64 ((hs.length : Int) + ls.length)) := cell_of_row W _ 0 _ _ _ w2
  have HB := hide hbW
  have ga := cell_keep ga hbW
  have gb := cell_keep gb hbW
  have HP : Hid (∀ (z : Nat) (W1 : World), z ≤ 1000000 → W1.cell? ⟨w.heap.size + 1 + 1, 0, none⟩ = some (.int .i64 ((hs.length : Int) + ls.length)) → W1.cell? ⟨w.heap.size, 1, none⟩ = some (.slice a1 ls.length c1) → Calls Try.prog 27 #[.int .i64 z, .pointer (some ⟨w.heap.size + 1 + 1, 0, none⟩), .pointer (some ⟨w.heap.size, 0, none⟩)] W1 fun e w' => e = .returned (.int .i64 (plc hs.length ls.length z : Nat)) ∧ w' = W1) := hide fun z W1 hz g4 g1 => place_any z _ _ g4 g1 hpos hz h4 l4
  have F4 := hide f4
  have F1 := hide f1
  have hbb : ∀ p, p < hs.length + ls.length → W.cell? ⟨bb, ob + p, none⟩ = some (.bool (bt T (jb : Int) p)) := fun p hp => cell_keep (gbt p hp) hbW
  have hba : ∀ p, p < hs.length + ls.length → W.cell? ⟨ba, oa + p, none⟩ = some (.bool (bt T (ja : Int) p)) := fun p hp => cell_keep (gat p hp) hbW
  have HBB := hide hbb
  have HBA := hide hba
  have hv : valB T hs.length ls.length (fun i => (hs ++ ls).getD i 0) ⟨7, ja, jb, n⟩ at_ = look (fun k => ruleB T hs.length ls.length (fun i => (hs ++ ls).getD i 0) ⟨7, ja, jb, n⟩ (plc hs.length ls.length k)) false (hs.length + ls.length) at_ := rfl
  rw [hv]
  have hstep : ∀ k y, ruleB T hs.length ls.length (fun i => (hs ++ ls).getD i 0) ⟨7, ja, jb, n⟩ (plc hs.length ls.length k) y = (bt T (jb : Int) (plc hs.length ls.length k) || bt T (ja : Int) (plc hs.length ls.length k) && y) := fun k y => by simp [ruleB]
  have HS := hide hstep
  clear hg gat gbt hbb hba hv hstep w0 w1 w2 hbW
  generalize hr : (fun k => ruleB T hs.length ls.length (fun i => (hs ++ ls).getD i 0) ⟨7, ja, jb, n⟩ (plc hs.length ls.length k)) = r at *
  have HR : Hid (∀ k y, r k y = (bt T (jb : Int) (plc hs.length ls.length k) || bt T (ja : Int) (plc hs.length ls.length k) && y)) := hide fun k y => by rw [← hr]; exact HS.out k y
  clear hr HS
  go_enter Try.func18, Try.ntmps18
  go_wp2_with (fail)
  rw [← hW]
  clear hW
  go_loopw [16] (fun iv wr => ∃ z : Nat, at_ ≤ z ∧ z ≤ at_ + (hs.length + ls.length) ∧ iv = .int .i64 (z : Nat) ∧ Hid (look r false (hs.length + ls.length) at_ = look r false (at_ + (hs.length + ls.length) - z) z) ∧ Hid (∃ m, wr = W.drewN m)) (fun iv _ => at_ + (hs.length + ls.length) - (intOf iv).toNat)
  case atStart => exact ⟨at_, Nat.le_refl _, by omega, rfl, hide (by rw [Nat.add_sub_cancel_left]), hide ⟨0, rfl⟩⟩
  case round =>
    obtain ⟨z, hz0, hz1, rfl, hlk, hwr⟩ := hrel
    have f4r := dr_cell hwr.out f4
    have HBr := hide (dr_below hwr.out HB.out)
    by_cases hlt : z < at_ + (hs.length + ls.length)
    · have hlt' : (z : Int) < (at_ : Int) + ((hs.length : Int) + ls.length) := by omega
      have CP := hide (fun W1 => HP.out z W1 (by omega))
      have hj := plc_lt hs.length ls.length z hpos
      have gbc := HBB.out _ hj
      have gac := HBA.out _ hj
      have f1r := dr_cell hwr.out f1
      have f2r := dr_cell hwr.out f2
      have f3r := dr_cell hwr.out f3
      have gar := dr_cell hwr.out ga
      have gbr := dr_cell hwr.out gb
      have gacr := dr_cell hwr.out gac
      have gbcr := dr_cell hwr.out gbc
      have hl2 : look r false (at_ + (hs.length + ls.length) - z) z = r z (look r false (at_ + (hs.length + ls.length) - (z + 1)) (z + 1)) := by
        rw [show at_ + (hs.length + ls.length) - z = (at_ + (hs.length + ls.length) - (z + 1)) + 1 by omega]
        rfl
      rw [HR.out] at hl2
      have HL := hide (hlk.out.trans hl2)
      clear hl2 hlk f1 f2 f3 f4 ga gb gbc gac
      generalize plc hs.length ls.length z = j at *
      generalize bt T (jb : Int) j = y at *
      generalize bt T (ja : Int) j = x at *
      cases y with
      | true =>
        go_wp2_with (fail)
        refine wp_region_quiet_lit (by kernel_rfl) (by kernel_rfl) ?_
        (repeat (go_big_quiet_step ((refine Calls.quiet_of_same (CP.out _ ?_ ?_); (simp only [World.cell?_drewN]; exact f4r); (simp only [World.cell?_drewN]; exact f1r)))))
        refine wpQuiet_nil ?_
        intro vs hw'
        have hws := hide hw'
        clear hw'
        have f1s := dr_cell hws.out f1r
        have f2s := dr_cell hws.out f2r
        have f3s := dr_cell hws.out f3r
        have f4s := dr_cell hws.out f4r
        have gas := dr_cell hws.out gar
        have gbs := dr_cell hws.out gbr
        have gacs := dr_cell hws.out gacr
        have gbcs := dr_cell hws.out gbcr
        have HBs := hide (dr_below hws.out HBr.out)
        clear f1r f2r f3r f4r gar gbr gacr gbcr
        go_wp2_with (fail)
        go_ret
        exact ⟨ret_bool (by rw [HL.out]; rfl), HBs.out⟩
      | false =>
        go_wp2_with (fail)
        refine wp_region_quiet_lit (by kernel_rfl) (by kernel_rfl) ?_
        (repeat (go_big_quiet_step ((refine Calls.quiet_of_same (CP.out _ ?_ ?_); (simp only [World.cell?_drewN]; exact f4r); (simp only [World.cell?_drewN]; exact f1r)))))
        refine wpQuiet_nil ?_
        intro vs hw'
        have hws := hide hw'
        clear hw'
        have f1s := dr_cell hws.out f1r
        have f2s := dr_cell hws.out f2r
        have f3s := dr_cell hws.out f3r
        have f4s := dr_cell hws.out f4r
        have gas := dr_cell hws.out gar
        have gbs := dr_cell hws.out gbr
        have gacs := dr_cell hws.out gacr
        have gbcs := dr_cell hws.out gbcr
        have HBs := hide (dr_below hws.out HBr.out)
        clear f1r f2r f3r f4r gar gbr gacr gbcr
        go_wp2_with (fail)
        refine wp_region_quiet_lit (by kernel_rfl) (by kernel_rfl) ?_
        (repeat (go_big_quiet_step ((refine Calls.quiet_of_same (CP.out _ ?_ ?_); (simp only [World.cell?_drewN]; exact f4s); (simp only [World.cell?_drewN]; exact f1s)))))
        refine wpQuiet_nil ?_
        intro vt hw'
        have hwt := hide hw'
        clear hw'
        have f1t := dr_cell hwt.out f1s
        have f2t := dr_cell hwt.out f2s
        have f3t := dr_cell hwt.out f3s
        have f4t := dr_cell hwt.out f4s
        have gat := dr_cell hwt.out gas
        have gbt := dr_cell hwt.out gbs
        have gact := dr_cell hwt.out gacs
        have gbct := dr_cell hwt.out gbcs
        have HBt := hide (dr_below hwt.out HBs.out)
        clear f1s f2s f3s f4s gas gbs gacs gbcs
        cases x with
        | true =>
          go_wp2_with (fail)
          go_roundw
          case rel => exact ⟨z + 1, by omega, by omega, by go_num, hide (HL.out.trans (by simp)), hide (dr_trans (dr_trans hwr.out hws.out) hwt.out)⟩
          case measure => simp [intOf]; omega
        | false =>
          go_wp2_with (fail)
          go_ret
          exact ⟨ret_bool (by rw [HL.out]; rfl), HBt.out⟩
    · have hdn : at_ + (hs.length + ls.length) - z = 0 := by omega
      have hlt' : (at_ : Int) + ((hs.length : Int) + ls.length) ≤ (z : Int) := by omega
      have HL := hlk
      rw [hdn] at HL
      clear hdn
      clear hlk
      go_wp2_with (fail)
      go_ret
      exact ⟨ret_bool (by rw [HL.out]; rfl), HBr.out⟩

set_option maxRecDepth 100000 in
set_option maxHeartbeats 4000000 in
theorem holdsAt_8 {w : World} {fv hv lv tv : Value} {F : List Nd} {hs ls : List Int} {T : List (List Bool)} {i at_ : Nat} (h : HA w fv hv lv tv F hs ls T i at_) (hk : (F.getD i nd0).k = 8) :
    Calls Try.prog 18 #[fv, .agg #[hv, lv], tv, .int .i64 i, .int .i64 at_] w fun e w' => e = .returned (.bool (valB T hs.length ls.length (fun i => (hs ++ ls).getD i 0) (F.getD i nd0) at_)) ∧ Below w.heap.size w w' := by
  have hmf : ∀ (fn : Fn) (first cap : Array Value) (w : World), (Instr.makeFunc fn first cap).run Try.prog w = .ok (.func fn first cap) w := fun _ _ _ _ => rfl
  have hcl := Try.call27
  obtain ⟨b, off, cap, rfl, d0, d1, d2, d3⟩ := h.cells
  have hbl := World.block_lt_of_cell? w _ d0
  dsimp only at hbl
  obtain ⟨_, ⟨xa0, xa1, _⟩, ⟨xb0, xb1, xb3⟩, _⟩ := node_ok h.node
  have hilt := h.ilt
  have hfew := h.few
  have h4 := h.h4
  have l4 := h.l4
  have hpl := h.place
  have hpos := h.pos
  obtain ⟨R, gc, rfl, hg⟩ := h.grids (by have := xa1 (by omega); omega)
  obtain ⟨a0, c0, rfl, -⟩ := h.head
  obtain ⟨a1, c1, rfl, -⟩ := h.loop
  clear h
  generalize F.getD i nd0 = x at *
  obtain ⟨k, xa, xb, n⟩ := x
  dsimp only at *
  subst hk
  have xa2 := xa1 (by omega)
  have xb2 := xb1 (by omega)
  obtain ⟨ja, rfl⟩ := Int.eq_ofNat_of_zero_le xa0
  obtain ⟨ba, oa, ca, ga, gat⟩ := hg ja (by omega)
  obtain ⟨jb, rfl⟩ := Int.eq_ofNat_of_zero_le xb0
  obtain ⟨bb, ob, cb, gb, gbt⟩ := hg jb (by omega)
  obtain ⟨W, hW⟩ : ∃ W, W = ((w.alloc (Obj.cells #[.slice a0 hs.length c0, .slice a1 ls.length c1] 26)).alloc (Obj.cells #[.int .i64 8, .int .i64 ja, .int .i64 jb, .int .i64 n] 44)).alloc (Obj.cells #[.int .i64 ((hs.length : Int) + ls.length)] 3) := ⟨_, rfl⟩
  have hbW : Below w.heap.size w W := by rw [hW]; exact (by repeat (first | exact Below.refl _ _ | assumption | refine below_drewN ?_ _ | refine Below.drew ?_ | refine Below.alloc ?_ (by simp <;> omega) _ | refine below_trans ?_ (by assumption)))
  have w0 := heap_alloc_new w (Obj.cells #[.slice a0 hs.length c0, .slice a1 ls.length c1] 26)
  have w1 := heap_alloc_new (w.alloc (Obj.cells #[.slice a0 hs.length c0, .slice a1 ls.length c1] 26)) (Obj.cells #[.int .i64 8, .int .i64 ja, .int .i64 jb, .int .i64 n] 44)
  have w2 := heap_alloc_new ((w.alloc (Obj.cells #[.slice a0 hs.length c0, .slice a1 ls.length c1] 26)).alloc (Obj.cells #[.int .i64 8, .int .i64 ja, .int .i64 jb, .int .i64 n] 44)) (Obj.cells #[.int .i64 ((hs.length : Int) + ls.length)] 3)
  simp only [World.size_alloc] at w1 w2
  have w0 := heap_under (Obj.cells #[.int .i64 ((hs.length : Int) + ls.length)] 3) (heap_under (Obj.cells #[.int .i64 8, .int .i64 ja, .int .i64 jb, .int .i64 n] 44) w0)
  have w1 := heap_under (Obj.cells #[.int .i64 ((hs.length : Int) + ls.length)] 3) w1
  rw [← hW] at w0 w1 w2
  have f1 : W.cell? ⟨w.heap.size, 1, none⟩ = some (.slice a1 ls.length c1) := cell_of_row W _ 1 _ _ _ w0
  have f2 : W.cell? ⟨w.heap.size + 1, 1, none⟩ = some (.int .i64 ja) := cell_of_row W _ 1 _ _ _ w1
  have f3 : W.cell? ⟨w.heap.size + 1, 2, none⟩ = some (.int .i64 jb) := cell_of_row W _ 2 _ _ _ w1
  have f4 : W.cell? ⟨w.heap.size + 1 + 1, 0, none⟩ = some (.int .i64 ((hs.length : Int) + ls.length)) := cell_of_row W _ 0 _ _ _ w2
  have HB := hide hbW
  have ga := cell_keep ga hbW
  have gb := cell_keep gb hbW
  have HP : Hid (∀ (z : Nat) (W1 : World), z ≤ 1000000 → W1.cell? ⟨w.heap.size + 1 + 1, 0, none⟩ = some (.int .i64 ((hs.length : Int) + ls.length)) → W1.cell? ⟨w.heap.size, 1, none⟩ = some (.slice a1 ls.length c1) → Calls Try.prog 27 #[.int .i64 z, .pointer (some ⟨w.heap.size + 1 + 1, 0, none⟩), .pointer (some ⟨w.heap.size, 0, none⟩)] W1 fun e w' => e = .returned (.int .i64 (plc hs.length ls.length z : Nat)) ∧ w' = W1) := hide fun z W1 hz g4 g1 => place_any z _ _ g4 g1 hpos hz h4 l4
  have F4 := hide f4
  have F1 := hide f1
  have hbb : ∀ p, p < hs.length + ls.length → W.cell? ⟨bb, ob + p, none⟩ = some (.bool (bt T (jb : Int) p)) := fun p hp => cell_keep (gbt p hp) hbW
  have hba : ∀ p, p < hs.length + ls.length → W.cell? ⟨ba, oa + p, none⟩ = some (.bool (bt T (ja : Int) p)) := fun p hp => cell_keep (gat p hp) hbW
  have HBB := hide hbb
  have HBA := hide hba
  have hv : valB T hs.length ls.length (fun i => (hs ++ ls).getD i 0) ⟨8, ja, jb, n⟩ at_ = look (fun k => ruleB T hs.length ls.length (fun i => (hs ++ ls).getD i 0) ⟨8, ja, jb, n⟩ (plc hs.length ls.length k)) true (hs.length + ls.length) at_ := rfl
  rw [hv]
  have hstep : ∀ k y, ruleB T hs.length ls.length (fun i => (hs ++ ls).getD i 0) ⟨8, ja, jb, n⟩ (plc hs.length ls.length k) y = (bt T (jb : Int) (plc hs.length ls.length k) && (bt T (ja : Int) (plc hs.length ls.length k) || y)) := fun k y => by simp [ruleB]
  have HS := hide hstep
  clear hg gat gbt hbb hba hv hstep w0 w1 w2 hbW
  generalize hr : (fun k => ruleB T hs.length ls.length (fun i => (hs ++ ls).getD i 0) ⟨8, ja, jb, n⟩ (plc hs.length ls.length k)) = r at *
  have HR : Hid (∀ k y, r k y = (bt T (jb : Int) (plc hs.length ls.length k) && (bt T (ja : Int) (plc hs.length ls.length k) || y))) := hide fun k y => by rw [← hr]; exact HS.out k y
  clear hr HS
  go_enter Try.func18, Try.ntmps18
  go_wp2_with (fail)
  rw [← hW]
  clear hW
  go_loopw [17] (fun iv wr => ∃ z : Nat, at_ ≤ z ∧ z ≤ at_ + (hs.length + ls.length) ∧ iv = .int .i64 (z : Nat) ∧ Hid (look r true (hs.length + ls.length) at_ = look r true (at_ + (hs.length + ls.length) - z) z) ∧ Hid (∃ m, wr = W.drewN m)) (fun iv _ => at_ + (hs.length + ls.length) - (intOf iv).toNat)
  case atStart => exact ⟨at_, Nat.le_refl _, by omega, rfl, hide (by rw [Nat.add_sub_cancel_left]), hide ⟨0, rfl⟩⟩
  case round =>
    obtain ⟨z, hz0, hz1, rfl, hlk, hwr⟩ := hrel
    have f4r := dr_cell hwr.out f4
    have HBr := hide (dr_below hwr.out HB.out)
    by_cases hlt : z < at_ + (hs.length + ls.length)
    · have hlt' : (z : Int) < (at_ : Int) + ((hs.length : Int) + ls.length) := by omega
      have CP := hide (fun W1 => HP.out z W1 (by omega))
      have hj := plc_lt hs.length ls.length z hpos
      have gbc := HBB.out _ hj
      have gac := HBA.out _ hj
      have f1r := dr_cell hwr.out f1
      have f2r := dr_cell hwr.out f2
      have f3r := dr_cell hwr.out f3
      have gar := dr_cell hwr.out ga
      have gbr := dr_cell hwr.out gb
      have gacr := dr_cell hwr.out gac
      have gbcr := dr_cell hwr.out gbc
      have hl2 : look r true (at_ + (hs.length + ls.length) - z) z = r z (look r true (at_ + (hs.length + ls.length) - (z + 1)) (z + 1)) := by
        rw [show at_ + (hs.length + ls.length) - z = (at_ + (hs.length + ls.length) - (z + 1)) + 1 by omega]
        rfl
      rw [HR.out] at hl2
      have HL := hide (hlk.out.trans hl2)
      clear hl2 hlk f1 f2 f3 f4 ga gb gbc gac
      generalize plc hs.length ls.length z = j at *
      generalize bt T (jb : Int) j = y at *
      generalize bt T (ja : Int) j = x at *
      cases y with
      | true =>
        go_wp2_with (fail)
        refine wp_region_quiet_lit (by kernel_rfl) (by kernel_rfl) ?_
        (repeat (go_big_quiet_step ((refine Calls.quiet_of_same (CP.out _ ?_ ?_); (simp only [World.cell?_drewN]; exact f4r); (simp only [World.cell?_drewN]; exact f1r)))))
        refine wpQuiet_nil ?_
        intro vs hw'
        have hws := hide hw'
        clear hw'
        have f1s := dr_cell hws.out f1r
        have f2s := dr_cell hws.out f2r
        have f3s := dr_cell hws.out f3r
        have f4s := dr_cell hws.out f4r
        have gas := dr_cell hws.out gar
        have gbs := dr_cell hws.out gbr
        have gacs := dr_cell hws.out gacr
        have gbcs := dr_cell hws.out gbcr
        have HBs := hide (dr_below hws.out HBr.out)
        clear f1r f2r f3r f4r gar gbr gacr gbcr
        go_wp2_with (fail)
        refine wp_region_quiet_lit (by kernel_rfl) (by kernel_rfl) ?_
        (repeat (go_big_quiet_step ((refine Calls.quiet_of_same (CP.out _ ?_ ?_); (simp only [World.cell?_drewN]; exact f4s); (simp only [World.cell?_drewN]; exact f1s)))))
        refine wpQuiet_nil ?_
        intro vt hw'
        have hwt := hide hw'
        clear hw'
        have f1t := dr_cell hwt.out f1s
        have f2t := dr_cell hwt.out f2s
        have f3t := dr_cell hwt.out f3s
        have f4t := dr_cell hwt.out f4s
        have gat := dr_cell hwt.out gas
        have gbt := dr_cell hwt.out gbs
        have gact := dr_cell hwt.out gacs
        have gbct := dr_cell hwt.out gbcs
        have HBt := hide (dr_below hwt.out HBs.out)
        clear f1s f2s f3s f4s gas gbs gacs gbcs
        cases x with
        | true =>
          go_wp2_with (fail)
          go_ret
          exact ⟨ret_bool (by rw [HL.out]; rfl), HBt.out⟩
        | false =>
          go_wp2_with (fail)
          go_roundw
          case rel => exact ⟨z + 1, by omega, by omega, by go_num, hide (HL.out.trans (by simp)), hide (dr_trans (dr_trans hwr.out hws.out) hwt.out)⟩
          case measure => simp [intOf]; omega
      | false =>
        go_wp2_with (fail)
        refine wp_region_quiet_lit (by kernel_rfl) (by kernel_rfl) ?_
        (repeat (go_big_quiet_step ((refine Calls.quiet_of_same (CP.out _ ?_ ?_); (simp only [World.cell?_drewN]; exact f4r); (simp only [World.cell?_drewN]; exact f1r)))))
        refine wpQuiet_nil ?_
        intro vs hw'
        have hws := hide hw'
        clear hw'
        have f1s := dr_cell hws.out f1r
        have f2s := dr_cell hws.out f2r
        have f3s := dr_cell hws.out f3r
        have f4s := dr_cell hws.out f4r
        have gas := dr_cell hws.out gar
        have gbs := dr_cell hws.out gbr
        have gacs := dr_cell hws.out gacr
        have gbcs := dr_cell hws.out gbcr
        have HBs := hide (dr_below hws.out HBr.out)
        clear f1r f2r f3r f4r gar gbr gacr gbcr
        go_wp2_with (fail)
        go_ret
        exact ⟨ret_bool (by rw [HL.out]; rfl), HBs.out⟩
    · have hdn : at_ + (hs.length + ls.length) - z = 0 := by omega
      have hlt' : (at_ : Int) + ((hs.length : Int) + ls.length) ≤ (z : Int) := by omega
      have HL := hlk
      rw [hdn] at HL
      clear hdn
      clear hlk
      go_wp2_with (fail)
      go_ret
      exact ⟨ret_bool (by rw [HL.out]; rfl), HBr.out⟩

end Go.Proofs.Ytpiacnnifdjlkaa
