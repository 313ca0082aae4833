/-
  What circles of the reference answers.
-/
import Derived.Test.YtpiacnnifdjlkaaDoorCk
import Derived.Deep.RegionWith
namespace Go.Proofs.YtpiacnnifdjlkaaDoor
open Go.RowKit Go.Sort

abbrev Pr := (Nat → Bool) × (Nat → Bool)

/-- Both sets, a letter on; a list of letters on; loops on. -/
def stepP (ss : List Stp) (gd : List Bool) (p : Pr) (l : Int) : Pr := (mvL ss l p.1, mvG ss gd l p.1 p.2)
def runP (ss : List Stp) (gd : List Bool) (ls : List Int) (p : Pr) : Pr := ls.foldl (stepP ss gd) p
def loopsP (ss : List Stp) (gd : List Bool) (ls : List Int) : Nat → Pr → Pr
  | 0, p => p
  | n + 1, p => runP ss gd ls (loopsP ss gd ls n p)

def startP (q : Nat) : Pr := (fun i => decide (i = q), fun _ => false)

/-- Do loops lead from a state to itself by a good state? -/
def circB (ss : List Stp) (gd : List Bool) (ls : List Int) (N q : Nat) : Bool := (List.range (2 * N)).any fun n => (loopsP ss gd ls (n + 1) (startP q)).2 q

theorem runP_take (ss : List Stp) (gd : List Bool) (ls : List Int) (p : Pr) (i : Nat) (h : i < ls.length) : runP ss gd (ls.take (i + 1)) p = stepP ss gd (runP ss gd (ls.take i) p) (ls.getD i 0) := by
  unfold runP
  rw [List.take_add_one, List.getElem?_eq_getElem h, List.foldl_append]
  simp [List.getD, h]

set_option maxRecDepth 100000 in
set_option maxHeartbeats 4000000 in
theorem circles_any {w : World} {gd : List Bool} {ss : List Stp} {ls : List Int} (N : Nat) (m : Int) (fv : Value) (a2 a3 a5 : Option Addr) (c2 c3 c5 at_ : Nat) (hN : N ≤ 300) (hat : at_ < N) (hG : BoolSl w (.slice a2 N c2) gd) (hgl : gd.length = N) (hS : StepSl w (.slice a3 ss.length c3) ss) (hlen : ss.length ≤ 6000)
    (hst : ∀ s ∈ ss, 0 ≤ s.f ∧ s.f < N ∧ 0 ≤ s.t ∧ s.t < N) (hl : IntSl w (.slice a5 ls.length c5) ls) (hl5 : ls.length ≤ 4000) :
    Calls Tryd.prog 70 #[.agg #[.int .i64 (N : Nat), .int .i64 m, fv, .slice a2 N c2, .slice a3 ss.length c3], .slice a5 ls.length c5, .int .i64 (at_ : Nat)] w fun e w' =>
      e = .returned (.bool (circB ss gd ls N at_)) ∧ Below w.heap.size w w' := by
  have hmk := make_bools N (by omega)
  have HM := hide (fun (w1 : World) (hb : Below w.heap.size w w1) (l : Int) (g1 g2 : Nat) (f h : Nat → Bool) (hf : BR w1 g1 N f) (hh : BR w1 g2 N h) => moved_any N m l fv a2 a3 c2 c3 g1 g2 f h hN (hG.below hb) hgl (hS.below hb) hlen hst hf hh)
  have Hl := hide hl
  clear hG hgl hS hst hl hlen
  generalize ss.length = L at *
  generalize hL5 : ls.length = L5 at *
  have HL5 := hide hL5
  clear hL5
  generalize hcb : circB ss gd ls N at_ = cb
  have Hcb := hide hcb
  clear hcb
  go_enter Tryd.func70, Tryd.ntmps70
  go_wp2_with (fail)
  rename_i K hK
  have key : ∀ (gx gy : Nat) (W : World), Below (w.heap.size + 1) (w.alloc (Obj.cells #[Value.int .i64 (N : Nat), .int .i64 m, fv, .slice a2 N c2, .slice a3 L c3] 26)) W → BR W gx N (fun _ => false) → BR W gy N (fun _ => false) → w.heap.size < gx → w.heap.size < gy → gx ≠ gy → K { tmps := #[.agg #[.int .i64 (N : Nat), .int .i64 m, fv, .slice a2 N c2, .slice a3 L c3], .slice a5 L5 c5, .int .i64 (at_ : Nat), .pointer (some ⟨w.heap.size, 0, none⟩), undef, undef, .bool false, .slice (some ⟨gx, 0, none⟩) N N, .slice (some ⟨gy, 0, none⟩) N N, undef, undef, .pointer (some ⟨w.heap.size, 0, none⟩), .int .i64 (N : Nat), .slice (some ⟨gx, 0, none⟩) N N, .pointer (some ⟨w.heap.size, 0, none⟩), .int .i64 (N : Nat), .slice (some ⟨gy, 0, none⟩) N N, undef, undef, undef, undef, undef, undef, undef, undef, undef, undef, undef, undef, undef, undef, undef, undef, undef, undef, undef, undef, undef, undef, undef, undef, undef, undef, undef, undef, undef, undef, undef], defers := [] } W := by
    intro gx gy W hbW hx hy hgx hgy hxy
    refine hK _ _ ?_
    clear hK hmk
    have HbW := hide hbW
    have Hx := hide hx
    have Hy := hide hy
    have x1 := hx.cell at_ hat
    have x2 := hx.soft
    have hlx := hx.lt
    clear hbW hx hy
    go_wp2_with (fail)
    have HbS := hide (HbW.out.setCell (p := ⟨gx, at_, none⟩) (by show w.heap.size + 1 ≤ gx; omega) (.bool true))
    have HxS := hide (Hx.out.set at_ hat)
    have HyS := hide (Hy.out.far (g' := gx) at_ (.bool true) (fun e => hxy e.symm))
    clear x1 x2
    go_loopw [7, 8, 9] (fun s7 s8 s9 wr => ∃ (n g1 g2 : Nat), s7 = .slice (some ⟨g1, 0, none⟩) N N ∧ s8 = .slice (some ⟨g2, 0, none⟩) N N ∧ s9 = .int .i64 n ∧ n ≤ 2 * N ∧ BR wr g1 N (loopsP ss gd ls n (startP at_)).1 ∧ BR wr g2 N (loopsP ss gd ls n (startP at_)).2 ∧ Below (w.heap.size + 1) (w.alloc (Obj.cells #[Value.int .i64 (N : Nat), .int .i64 m, fv, .slice a2 N c2, .slice a3 L c3] 26)) wr ∧ ∀ k, k < n → (loopsP ss gd ls (k + 1) (startP at_)).2 at_ = false) (fun _ _ s9 _ => 2 * N - (intOf s9).toNat)
    case atStart => exact ⟨0, gx, gy, rfl, rfl, rfl, Nat.zero_le _, HxS.out.congr (fun i _ => by simp [loopsP, startP]), HyS.out, HbS.out, fun k hk => by omega⟩
    case round =>
      obtain ⟨n, g1, g2, rfl, rfl, rfl, hn, hx, hy, hb, hno⟩ := hrel
      have Hb := hide hb
      have HX := hide hx
      have HY := hide hy
      have Hno := hide hno
      have e0 : wr.heap[w.heap.size]? = some (Obj.cells #[Value.int .i64 (N : Nat), .int .i64 m, fv, .slice a2 N c2, .slice a3 L c3] 26) := (hb.block w.heap.size (by omega)).trans (one_new w _)
      have hwl := (Array.getElem?_eq_some_iff.1 e0).1
      have p0 := cell_of_row wr _ 0 _ _ _ e0
      clear e0 hb hx hy hno
      by_cases hlt : n < 2 * N
      · have hlt2 : (n : Int) < 2 * (N : Int) := by omega
        go_wp2_with (fail)
        clear p0
        generalize hpn : loopsP ss gd ls n (startP at_) = pn at *
        go_loopw [7, 8, 10] (fun s7 s8 s10 wr => ∃ (i g1 g2 : Nat), s7 = .slice (some ⟨g1, 0, none⟩) N N ∧ s8 = .slice (some ⟨g2, 0, none⟩) N N ∧ s10 = .int .i64 i ∧ i ≤ L5 ∧ BR wr g1 N (runP ss gd (ls.take i) pn).1 ∧ BR wr g2 N (runP ss gd (ls.take i) pn).2 ∧ Below (w.heap.size + 1) (w.alloc (Obj.cells #[Value.int .i64 (N : Nat), .int .i64 m, fv, .slice a2 N c2, .slice a3 L c3] 26)) wr) (fun _ _ s10 _ => L5 - (intOf s10).toNat)
        case atStart => exact ⟨0, g1, g2, rfl, rfl, rfl, Nat.zero_le _, HX.out, HY.out, Hb.out⟩
        case round =>
          obtain ⟨i, g1, g2, rfl, rfl, rfl, hi, hx, hy, hb⟩ := hrel
          have Hb := hide hb
          have HX := hide hx
          have HY := hide hy
          have e0 : wr.heap[w.heap.size]? = some (Obj.cells #[Value.int .i64 (N : Nat), .int .i64 m, fv, .slice a2 N c2, .slice a3 L c3] 26) := (hb.block w.heap.size (by omega)).trans (one_new w _)
          have hwl := (Array.getElem?_eq_some_iff.1 e0).1
          have hbw : Below w.heap.size w wr := below_trans (below_new w _) (hb.mono (by simp))
          have hx1 := hx.lt
          have hy1 := hy.lt
          clear hb hx hy
          by_cases hil : i < L5
          · have hls : i < ls.length := by rw [HL5.out]; exact hil
            have p0 := cell_of_row wr _ 0 _ _ _ e0
            have p1 := cell_of_row wr _ 1 _ _ _ e0
            have p2 := cell_of_row wr _ 2 _ _ _ e0
            have p3 := cell_of_row wr _ 3 _ _ _ e0
            have p4 := cell_of_row wr _ 4 _ _ _ e0
            obtain ⟨a', cap', e, _, hz, _⟩ := Hl.out
            injection e with e1 e2 e3
            subst e1
            rcases hz with hz | ⟨b5, o5, e, hc⟩
            · rw [hz] at hls; simp at hls
            subst e
            have d0 := hc i hls
            have hb5 : b5 < w.heap.size := World.block_lt_of_cell? w _ d0
            have d0 := (hbw.cell (p := ⟨b5, _, none⟩) hb5).trans d0
            have HT := hide (runP_take ss gd ls pn i hls)
            generalize ls.getD i 0 = z at *
            generalize runP ss gd (ls.take i) pn = pr at *
            have hbD : Below w.heap.size w wr.drew := hbw.drew
            have hxD : BR wr.drew g1 N pr.1 := HX.out.of_block rfl
            have hyD : BR wr.drew g2 N pr.2 := HY.out.of_block rfl
            have HC := hide (HM.out wr.drew hbD z g1 g2 pr.1 pr.2 hxD hyD)
            clear hc e2 e3 hbD hxD hyD e0
            go_wp2_with (fail)
            go_region_with (go_at_call 69; refine HC.out.mono ?_; rintro e w1 ⟨gx2, gy2, rfl, hx2, hy2, hb1, -⟩; have HX2 := hide hx2; have HY2 := hide hy2; clear hx2 hy2)
            all_goals
              have HB3 := hide (Hb.out.trans ((below_trans (Below.drew (Below.refl _ _)) hb1).mono (show w.heap.size + 1 ≤ wr.heap.size by omega)))
              clear hb1
              go_wp2
              go_roundw
              case rel => exact ⟨i + 1, gx2, gy2, rfl, rfl, by go_num, by omega, by rw [HT.out]; exact HX2.out, by rw [HT.out]; exact HY2.out, HB3.out⟩
              case measure => simp [intOf]; omega
          · have hiL : i = L5 := by omega
            subst hiL
            have e1 : ls.take i = ls := by rw [← HL5.out]; exact List.take_length
            have y1 := HY.out.cell at_ hat
            have hX := HX.out
            have hY := HY.out
            rw [e1] at y1 hX hY
            have HX3 := hide hX
            have HY3 := hide hY
            have eL : runP ss gd ls pn = loopsP ss gd ls (n + 1) (startP at_) := by rw [← hpn]; rfl
            rw [eL] at y1 HX3 HY3
            have HpN := hide hpn
            clear hX hY e1 eL HX HY hpn e0
            generalize hbl : (loopsP ss gd ls (n + 1) (startP at_)).2 at_ = bl at *
            have Hbl := hide hbl
            clear hbl
            cases bl
            · go_wp2
              go_roundw
              case rel =>
                refine ⟨n + 1, g1, g2, rfl, rfl, by go_num, by omega, HX3.out, HY3.out, Hb.out, fun k hk => ?_⟩
                by_cases e : k = n
                · rw [e]; exact Hbl.out
                · exact Hno.out k (by omega)
              case measure => simp [intOf]; omega
            · have hr : cb = true := by
                rw [← Hcb.out]
                unfold circB
                rw [List.any_eq_true]
                exact ⟨n, by simpa using hlt, Hbl.out⟩
              subst hr
              go_wp2
              go_ret
              exact ⟨rfl, hbw⟩
      · have hn2 : n = 2 * N := by omega
        have hlt2 : ¬ (n : Int) < 2 * (N : Int) := by omega
        have hr : cb = false := by
          rw [← Hcb.out]
          unfold circB
          rw [List.any_eq_false]
          intro k hk
          rw [Hno.out k (by simpa [hn2] using hk)]
          simp
        subst hr
        have hB : Below w.heap.size w wr := below_trans (below_new w _) (Hb.out.mono (by simp))
        go_wp2
        go_ret
        exact ⟨rfl, hB⟩
  clear hK
  go_region
  · obtain ⟨_, h1, h2⟩ := three_alloc w (Obj.cells #[Value.int .i64 (N : Nat), .int .i64 m, fv, .slice a2 N c2, .slice a3 L c3] 26) (.cells (falses N) 4) (.cells (falses N) 4)
    exact key (w.heap.size + 1) (w.heap.size + 1 + 1) _ (by repeat (first | exact Below.refl _ _ | refine Below.drew ?_ | refine Below.alloc ?_ (by simp) _)) (BR.new h1) (BR.new h2) (by omega) (by omega) (by omega)
  · obtain ⟨_, h1, h2⟩ := three_alloc w (Obj.cells #[Value.int .i64 (N : Nat), .int .i64 m, fv, .slice a2 N c2, .slice a3 L c3] 26) (.cells (falses N) 4) (.cells (falses N) 4)
    exact key (w.heap.size + 1 + 1) (w.heap.size + 1) _ (by repeat (first | exact Below.refl _ _ | refine Below.drew ?_ | refine Below.alloc ?_ (by simp) _)) (BR.new h2) (BR.new h1) (by omega) (by omega) (by omega)
end Go.Proofs.YtpiacnnifdjlkaaDoor
