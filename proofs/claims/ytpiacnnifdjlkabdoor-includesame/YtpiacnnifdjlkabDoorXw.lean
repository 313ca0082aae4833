/-
  What begun tells of package include.
-/
import Derived.Test.YtpiacnnifdjlkabDoorXs
import Derived.Test.YtpiacnnifdjlkabDoorCg
/-
  Package include: the checks; Included.
-/
namespace Go.Proofs.YtpiacnnifdjlkabDoor
open Go.RowKit Go.Sort

def chkP (A B : Aut) : Int := if chkA A ≠ 0 then chkA A else if chkA B ≠ 0 then chkA B else if A.m ≠ B.m then 1 else 0
def chkI (A B : Aut) : Int := if chkP A B ≠ 0 then chkP A B else if A.n > 3 ∨ B.n > 3 ∨ A.m > 2 then 2 else 0

set_option maxRecDepth 100000 in
set_option maxHeartbeats 1000000 in
theorem pairsChk_any {w : World} {A B : Aut} {va vb : Value} (hA : AutV w va A) (hB : AutV w vb B) :
    Calls Tryd.prog 19 #[va, vb] w fun e w' => e = .returned (.int .i64 (chkP A B)) ∧ Below w.heap.size w w' := by
  have HA := hide (fun W (hb : Below w.heap.size w W) => autoCheck_any (hA.below hb))
  have HB := hide (fun W (hb : Below w.heap.size w W) => autoCheck_any (hB.below hb))
  have HP : Hid (chkP A B = if chkA A ≠ 0 then chkA A else if chkA B ≠ 0 then chkA B else if A.m ≠ B.m then 1 else 0) := hide rfl
  generalize chkP A B = cp at *
  obtain ⟨fv, gv, sv, rfl, h1, h2, h3⟩ := hA
  obtain ⟨a1, c1, rfl, -⟩ := h1
  obtain ⟨a2, c2, rfl, -⟩ := h2
  obtain ⟨a3, c3, rfl, -⟩ := h3
  obtain ⟨fv, gv, sv, rfl, h1, h2, h3⟩ := hB
  obtain ⟨a4, c4, rfl, -⟩ := h1
  obtain ⟨a5, c5, rfl, -⟩ := h2
  obtain ⟨a6, c6, rfl, -⟩ := h3
  generalize A.first.length = l1 at *
  generalize A.good.length = l2 at *
  generalize A.steps.length = l3 at *
  generalize B.first.length = l4 at *
  generalize B.good.length = l5 at *
  generalize B.steps.length = l6 at *
  generalize A.n = nA at *
  generalize A.m = mA at *
  generalize B.n = nB at *
  generalize B.m = mB at *
  have HR := hide (two_alloc w (Obj.cells #[Value.int .i64 nA, .int .i64 mA, .slice a1 l1 c1, .slice a2 l2 c2, .slice a3 l3 c3] 26) (Obj.cells #[Value.int .i64 nB, .int .i64 mB, .slice a4 l4 c4, .slice a5 l5 c5, .slice a6 l6 c6] 26))
  have HW : Hid (Below w.heap.size w ((w.alloc (Obj.cells #[Value.int .i64 nA, .int .i64 mA, .slice a1 l1 c1, .slice a2 l2 c2, .slice a3 l3 c3] 26)).alloc (Obj.cells #[Value.int .i64 nB, .int .i64 mB, .slice a4 l4 c4, .slice a5 l5 c5, .slice a6 l6 c6] 26))) := hide (by repeat (first | exact Below.refl _ _ | assumption | refine below_drewN ?_ _ | refine Below.drew ?_ | refine Below.alloc ?_ (by simp <;> omega) _ | refine below_trans ?_ (by assumption)))
  go_enter Tryd.func19, Tryd.ntmps19
  go_wp2_with (fail)
  generalize ((w.alloc (Obj.cells #[Value.int .i64 nA, .int .i64 mA, .slice a1 l1 c1, .slice a2 l2 c2, .slice a3 l3 c3] 26)).alloc (Obj.cells #[Value.int .i64 nB, .int .i64 mB, .slice a4 l4 c4, .slice a5 l5 c5, .slice a6 l6 c6] 26)) = W0 at *
  go_fit (HA.out W0 HW.out)
  rintro e w1 ⟨rfl, hb1⟩
  generalize chkA A = ca at *
  have HB1 := hide (below_trans HW.out hb1)
  have HR1 := hide (And.intro (belowRow hb1 HR.out.1) (belowRow hb1 HR.out.2))
  clear hb1 HR HA
  have b0 := cell_of_row _ _ 0 _ _ _ HR1.out.2
  have b1 := cell_of_row _ _ 1 _ _ _ HR1.out.2
  have b2 := cell_of_row _ _ 2 _ _ _ HR1.out.2
  have b3 := cell_of_row _ _ 3 _ _ _ HR1.out.2
  have b4 := cell_of_row _ _ 4 _ _ _ HR1.out.2
  by_cases hca : ca = 0
  · have HCA := hide hca
    clear hca
    have d1 : (ca != 0) = false := by simpa using HCA.out
    go_wp2_with (fail)
    go_fit (HB.out w1 HB1.out)
    rintro e w2 ⟨rfl, hb2⟩
    generalize chkA B = cb at *
    have HB2 := hide (below_trans HB1.out hb2)
    have m0 := cell_of_row _ _ 1 _ _ _ (belowRow hb2 HR1.out.1)
    have m1 := cell_of_row _ _ 1 _ _ _ (belowRow hb2 HR1.out.2)
    clear hb2 b0 b1 b2 b3 b4 HB
    by_cases hcb : cb = 0
    · have HCB := hide hcb
      clear hcb
      have d2 : (cb != 0) = false := by simpa using HCB.out
      by_cases hmm : mA = mB
      · have HMM := hide hmm
        clear hmm
        have d3 : (mA != mB) = false := by simpa using HMM.out
        go_wp2
        go_ret
        exact ⟨by rw [HP.out, if_neg (by simpa using HCA.out), if_neg (by simpa using HCB.out), if_neg (by simpa using HMM.out)]; rfl, HB2.out⟩
      · have HMM := hide hmm
        clear hmm
        have d3 : (mA != mB) = true := by simpa using HMM.out
        go_wp2
        go_ret
        exact ⟨by rw [HP.out, if_neg (by simpa using HCA.out), if_neg (by simpa using HCB.out), if_pos HMM.out]; rfl, HB2.out⟩
    · have HCB := hide hcb
      clear hcb
      have d2 : (cb != 0) = true := by simpa using HCB.out
      go_wp2
      go_ret
      exact ⟨by rw [HP.out, if_neg (by simpa using HCA.out), if_pos HCB.out]; rfl, HB2.out⟩
  · have HCA := hide hca
    clear hca
    have d1 : (ca != 0) = true := by simpa using HCA.out
    go_wp2
    go_ret
    exact ⟨by rw [HP.out, if_pos HCA.out]; rfl, HB1.out⟩

set_option maxRecDepth 100000 in
set_option maxHeartbeats 1000000 in
theorem inclChk_any {w : World} {A B : Aut} {va vb : Value} (hA : AutV w va A) (hB : AutV w vb B) :
    Calls Tryd.prog 35 #[va, vb] w fun e w' => e = .returned (.int .i64 (chkI A B)) ∧ Below w.heap.size w w' := by
  have HA := hide (fun W (hb : Below w.heap.size w W) => pairsChk_any (hA.below hb) (hB.below hb))
  have HP : Hid (chkI A B = if chkP A B ≠ 0 then chkP A B else if A.n > 3 ∨ B.n > 3 ∨ A.m > 2 then 2 else 0) := hide rfl
  generalize chkI A B = cp at *
  obtain ⟨fv, gv, sv, rfl, h1, h2, h3⟩ := hA
  obtain ⟨a1, c1, rfl, -⟩ := h1
  obtain ⟨a2, c2, rfl, -⟩ := h2
  obtain ⟨a3, c3, rfl, -⟩ := h3
  obtain ⟨fv, gv, sv, rfl, h1, h2, h3⟩ := hB
  obtain ⟨a4, c4, rfl, -⟩ := h1
  obtain ⟨a5, c5, rfl, -⟩ := h2
  obtain ⟨a6, c6, rfl, -⟩ := h3
  generalize A.first.length = l1 at *
  generalize A.good.length = l2 at *
  generalize A.steps.length = l3 at *
  generalize B.first.length = l4 at *
  generalize B.good.length = l5 at *
  generalize B.steps.length = l6 at *
  generalize A.n = nA at *
  generalize A.m = mA at *
  generalize B.n = nB at *
  generalize B.m = mB at *
  have hRR := two_alloc w (Obj.cells #[Value.int .i64 nA, .int .i64 mA, .slice a1 l1 c1, .slice a2 l2 c2, .slice a3 l3 c3] 26) (Obj.cells #[Value.int .i64 nB, .int .i64 mB, .slice a4 l4 c4, .slice a5 l5 c5, .slice a6 l6 c6] 26)
  have HR := hide hRR
  have HLa := hide (auto_load hRR.1 rfl)
  have HLb := hide (auto_load hRR.2 rfl)
  clear hRR
  have HW : Hid (Below w.heap.size w ((w.alloc (Obj.cells #[Value.int .i64 nA, .int .i64 mA, .slice a1 l1 c1, .slice a2 l2 c2, .slice a3 l3 c3] 26)).alloc (Obj.cells #[Value.int .i64 nB, .int .i64 mB, .slice a4 l4 c4, .slice a5 l5 c5, .slice a6 l6 c6] 26))) := hide (by repeat (first | exact Below.refl _ _ | assumption | refine below_drewN ?_ _ | refine Below.drew ?_ | refine Below.alloc ?_ (by simp <;> omega) _ | refine below_trans ?_ (by assumption)))
  go_enter Tryd.func35, Tryd.ntmps35
  go_upto_region 1 with (fail)
  generalize ((w.alloc (Obj.cells #[Value.int .i64 nA, .int .i64 mA, .slice a1 l1 c1, .slice a2 l2 c2, .slice a3 l3 c3] 26)).alloc (Obj.cells #[Value.int .i64 nB, .int .i64 mB, .slice a4 l4 c4, .slice a5 l5 c5, .slice a6 l6 c6] 26)) = W0 at *
  go_wp2_with (first | (show wpList _ _ _ (⟨some 6, _, _, _, _, _⟩ :: _) _ _; refine wpl_load HLa.out rfl rfl rfl ?_) | (show wpList _ _ _ (⟨some 7, _, _, _, _, _⟩ :: _) _ _; refine wpl_load HLb.out rfl rfl rfl ?_))
  go_fit (HA.out W0 HW.out)
  rintro e w1 ⟨rfl, hb1⟩
  generalize chkP A B = ca at *
  have HB1 := hide (below_trans HW.out hb1)
  have m0 := cell_of_row _ _ 0 _ _ _ (belowRow hb1 HR.out.1)
  have m1 := cell_of_row _ _ 1 _ _ _ (belowRow hb1 HR.out.1)
  have n0 := cell_of_row _ _ 0 _ _ _ (belowRow hb1 HR.out.2)
  clear hb1 HR HA HLa HLb
  by_cases hca : ca = 0
  · have HCA := hide hca
    clear hca
    have d1 : (ca != 0) = false := by simpa using HCA.out
    by_cases hmx : 3 < nA ∨ 3 < nB
    · have HMX := hide hmx
      have d2 : 3 < (if nA < nB then nB else nA) := by split <;> omega
      clear hmx
      go_wp2
      all_goals
        go_ret
        exact ⟨by rw [HP.out, if_neg (by simpa using HCA.out), if_pos (by have := HMX.out; omega)]; rfl, HB1.out⟩
    · have HMX := hide hmx
      have d2 : ¬ 3 < (if nA < nB then nB else nA) := by split <;> omega
      clear hmx
      by_cases hm : 2 < mA
      · go_wp2
        all_goals
          go_ret
          exact ⟨by rw [HP.out, if_neg (by simpa using HCA.out), if_pos (by omega)]; rfl, HB1.out⟩
      · go_wp2
        all_goals
          go_ret
          exact ⟨by rw [HP.out, if_neg (by simpa using HCA.out), if_neg (by have := HMX.out; omega)]; rfl, HB1.out⟩
  · have HCA := hide hca
    clear hca
    have d1 : (ca != 0) = true := by simpa using HCA.out
    go_wp2
    go_ret
    exact ⟨by rw [HP.out, if_pos HCA.out]; rfl, HB1.out⟩

end Go.Proofs.YtpiacnnifdjlkabDoor

/-
  Package include: Included, Same.
-/
namespace Go.Proofs.YtpiacnnifdjlkabDoor
open Go.RowKit Go.Sort

/-- What Included answers. -/
structure InclMade (A B : Aut) (w w' : World) (b : Bool) (hv lv : Value) : Prop where
  bad : chkI A B ≠ 0 → b = false ∧ hv = .slice none 0 0 ∧ lv = .slice none 0 0
  good : chkI A B = 0 → AloneMade A B A.m.toNat w w' (!b) hv lv
  form : (∃ a n c, hv = .slice a n c) ∧ ∃ a n c, lv = .slice a n c
  bl : Below w.heap.size w w'

theorem chkI_ok {A B : Aut} (h : chkI A B = 0) : chkA A = 0 ∧ chkA B = 0 ∧ A.m = B.m ∧ A.n ≤ 3 ∧ B.n ≤ 3 ∧ A.m ≤ 2 := by
  unfold chkI at h
  by_cases hp : chkP A B = 0
  · rw [if_neg (by simpa using hp)] at h
    have h2 : ¬ (A.n > 3 ∨ B.n > 3 ∨ A.m > 2) := fun c => by rw [if_pos c] at h; omega
    unfold chkP at hp
    by_cases ha : chkA A = 0
    · rw [if_neg (by simpa using ha)] at hp
      by_cases hb : chkA B = 0
      · rw [if_neg (by simpa using hb)] at hp
        have hm : A.m = B.m := Classical.byContradiction fun c => by rw [if_pos c] at hp; omega
        exact ⟨ha, hb, hm, by omega, by omega, by omega⟩
      · rw [if_pos hb] at hp
        exact absurd hp hb
    · rw [if_pos ha] at hp
      exact absurd hp ha
  · rw [if_pos hp] at h
    exact absurd h hp

theorem AloneMade.form {A B : Aut} {m : Nat} {w w' : World} {b : Bool} {hv lv : Value} (h : AloneMade A B m w w' b hv lv) : (∃ a n c, hv = .slice a n c) ∧ ∃ a n c, lv = .slice a n c := by
  cases b with
  | true =>
    obtain ⟨hs, ls, h1, h2, _⟩ := h.yes rfl
    obtain ⟨a, c, e, _⟩ := h1
    obtain ⟨a', c', e', _⟩ := h2
    exact ⟨⟨_, _, _, e⟩, ⟨_, _, _, e'⟩⟩
  | false =>
    obtain ⟨e, e', _⟩ := h.no rfl
    exact ⟨⟨_, _, _, e⟩, ⟨_, _, _, e'⟩⟩

theorem AloneMade.move {A B : Aut} {m : Nat} {w w1 w2 w3 : World} {b : Bool} {hv lv : Value} (h : AloneMade A B m w1 w2 b hv lv) (hb0 : Below w.heap.size w w3) (hk : ∀ v zs, IntSl w2 v zs → (v = hv ∨ v = lv) → IntSl w3 v zs) : AloneMade A B m w w3 b hv lv :=
  ⟨fun e => by
    obtain ⟨hs, ls, h1, h2, h3⟩ := h.yes e
    exact ⟨hs, ls, hk _ _ h1 (Or.inl rfl), hk _ _ h2 (Or.inr rfl), h3⟩, h.no, hb0⟩

theorem intSl_setY {W : World} {Y : Nat} {a1 a2 : Option Addr} {n1 c1 n2 c2 : Nat} (hy : W.heap[Y]? = some (.cells #[.slice a1 n1 c1, .slice a2 n2 c2] 28)) {v : Value} {zs : List Int} (h : IntSl W v zs) (k : Nat) (u : Value) : IntSl (W.setCell ⟨Y, k, none⟩ u) v zs := by
  obtain ⟨a, cap, rfl, hm, h, hn⟩ := h
  refine ⟨a, cap, rfl, hm, ?_, hn⟩
  rcases h with h | ⟨b, off, rfl, hc⟩
  · exact Or.inl h
  · refine Or.inr ⟨b, off, rfl, fun i hi => ?_⟩
    have hci := hc i hi
    rw [World.cell?_setCell_other _ _ _ _ (fun e => ?_)]
    · exact hci
    · have hb : b = Y := by have h9 := congrArg Addr.block e; first | exact h9 | exact h9.symm
      subst hb
      rw [cell_of_row _ _ _ _ _ _ hy] at hci
      match off + i, hci with
      | 0, hci => simp at hci
      | 1, hci => simp at hci
      | n + 2, hci => simp at hci

theorem intSl_setTwo {W : World} {Y : Nat} {a1 a2 a3 a4 : Option Addr} {n1 c1 n2 c2 n3 c3 n4 c4 : Nat} (hy : W.heap[Y]? = some (.cells #[.slice a1 n1 c1, .slice a2 n2 c2] 28)) {v : Value} {zs : List Int} (h : IntSl W v zs) : IntSl ((W.setCell ⟨Y, 0, none⟩ (.slice a3 n3 c3)).setCell ⟨Y, 1, none⟩ (.slice a4 n4 c4)) v zs :=
  intSl_setY (a1 := a3) (n1 := n3) (c1 := c3) (a2 := a2) (n2 := n2) (c2 := c2) (box_set hy 0 _) (intSl_setY hy h 0 _) 1 _

set_option maxRecDepth 100000 in
set_option maxHeartbeats 1000000 in
theorem included_any {w : World} {A B : Aut} {va vb : Value} (hA : AutV w va A) (hB : AutV w vb B) :
    Calls Tryd.prog 16 #[va, vb] w fun e w' => ∃ b hv lv, e = .returned (.tuple #[.bool b, .agg #[hv, lv], .int .i64 (chkI A B)]) ∧ InclMade A B w w' b hv lv := by
  have HC := hide (fun W (hb : Below w.heap.size w W) => inclChk_any (hA.below hb) (hB.below hb))
  have HAl : Hid (chkI A B = 0 → ∀ W, Below w.heap.size w W → Calls Tryd.prog 36 #[va, vb] W fun e w' => ∃ b hv lv, e = .returned (.tuple #[.agg #[hv, lv], .bool b]) ∧ AloneMade A B A.m.toNat W w' b hv lv) := hide fun h W hb => by
    obtain ⟨ha, hb', _, h3, h4, h5⟩ := chkI_ok h
    have hR := right_of ha
    exact alone_any (hA.below hb) (hB.below hb) hR (right_of hb') h3 h4 (by have := hR.m1; omega) (by omega)
  obtain ⟨fv, gv, sv, rfl, h1, h2, h3⟩ := hA
  obtain ⟨a1, c1, rfl, -⟩ := h1
  obtain ⟨a2, c2, rfl, -⟩ := h2
  obtain ⟨a3, c3, rfl, -⟩ := h3
  obtain ⟨fv, gv, sv, rfl, h1, h2, h3⟩ := hB
  obtain ⟨a4, c4, rfl, -⟩ := h1
  obtain ⟨a5, c5, rfl, -⟩ := h2
  obtain ⟨a6, c6, rfl, -⟩ := h3
  generalize A.first.length = l1 at *
  generalize A.good.length = l2 at *
  generalize A.steps.length = l3 at *
  generalize B.first.length = l4 at *
  generalize B.good.length = l5 at *
  generalize B.steps.length = l6 at *
  generalize hnA : A.n = nA at *
  generalize hmA : A.m = mA at *
  generalize hnB : B.n = nB at *
  generalize hmB : B.m = mB at *
  have HMA := hide hmA
  clear hnA hmA hnB hmB
  have hRR := three_alloc w (Obj.cells #[Value.int .i64 nA, .int .i64 mA, .slice a1 l1 c1, .slice a2 l2 c2, .slice a3 l3 c3] 26) (Obj.cells #[Value.int .i64 nB, .int .i64 mB, .slice a4 l4 c4, .slice a5 l5 c5, .slice a6 l6 c6] 26) (Obj.cells #[Value.slice none 0 0, .slice none 0 0] 28)
  have HR := hide hRR
  have HLa := hide (auto_load hRR.1 rfl)
  have HLb := hide (auto_load hRR.2.1 rfl)
  clear hRR
  have HW : Hid (Below w.heap.size w (((w.alloc (Obj.cells #[Value.int .i64 nA, .int .i64 mA, .slice a1 l1 c1, .slice a2 l2 c2, .slice a3 l3 c3] 26)).alloc (Obj.cells #[Value.int .i64 nB, .int .i64 mB, .slice a4 l4 c4, .slice a5 l5 c5, .slice a6 l6 c6] 26)).alloc (Obj.cells #[Value.slice none 0 0, .slice none 0 0] 28))) := hide (by repeat (first | exact Below.refl _ _ | assumption | refine below_drewN ?_ _ | refine Below.drew ?_ | refine Below.alloc ?_ (by simp <;> omega) _ | refine below_trans ?_ (by assumption)))
  go_enter Tryd.func16, Tryd.ntmps16
  go_upto_region 1 with (fail)
  generalize (((w.alloc (Obj.cells #[Value.int .i64 nA, .int .i64 mA, .slice a1 l1 c1, .slice a2 l2 c2, .slice a3 l3 c3] 26)).alloc (Obj.cells #[Value.int .i64 nB, .int .i64 mB, .slice a4 l4 c4, .slice a5 l5 c5, .slice a6 l6 c6] 26)).alloc (Obj.cells #[Value.slice none 0 0, .slice none 0 0] 28)) = W0 at *
  go_wp2_with (first | (show wpList _ _ _ (⟨some 10, _, _, _, _, _⟩ :: _) _ _; refine wpl_load HLa.out rfl rfl rfl ?_) | (show wpList _ _ _ (⟨some 11, _, _, _, _, _⟩ :: _) _ _; refine wpl_load HLb.out rfl rfl rfl ?_))
  go_fit (HC.out W0 HW.out)
  rintro e w1 ⟨rfl, hb1⟩
  have HB1 := hide (below_trans HW.out hb1)
  have HR1 := hide (And.intro (belowRow hb1 HR.out.1) (And.intro (belowRow hb1 HR.out.2.1) (belowRow hb1 HR.out.2.2)))
  clear hb1 HR HC HLa HLb
  generalize hci : chkI A B = ci at *
  have HCI := hide hci
  clear hci
  by_cases hc : ci = 0
  · subst hc
    have HL1 := hide (auto_load HR1.out.1 rfl)
    have HL2 := hide (auto_load HR1.out.2.1 rfl)
    go_wp2_with (first | (show wpList _ _ _ (⟨some 18, _, _, _, _, _⟩ :: _) _ _; refine wpl_load HL1.out rfl rfl rfl ?_) | (show wpList _ _ _ (⟨some 19, _, _, _, _, _⟩ :: _) _ _; refine wpl_load HL2.out rfl rfl rfl ?_))
    go_fit (HAl.out trivial w1 HB1.out)
    rintro e w2 ⟨b, hv, lv, rfl, hM⟩
    obtain ⟨⟨ah, nh, ch, rfl⟩, ⟨al, nl, cl, rfl⟩⟩ := hM.form
    have HM := hide hM
    have hb3 := below_new w2 (Obj.cells #[Value.slice ah nh ch, .slice al nl cl] 28)
    have hN3 := one_new w2 (Obj.cells #[Value.slice ah nh ch, .slice al nl cl] 28)
    have HB3 := hide hb3
    have hY3 := belowRow (below_trans hM.bl hb3) HR1.out.2.2
    have HY3 := hide hY3
    have q0 := cell_of_row _ _ 0 _ _ _ hN3
    have q1 := cell_of_row _ _ 1 _ _ _ hN3
    have y0 := cell_of_row _ _ 0 _ _ _ hY3
    have y1 := cell_of_row _ _ 1 _ _ _ hY3
    have hne : w.heap.size + 1 + 1 < w1.heap.size := (Array.getElem?_eq_some_iff.1 HR1.out.2.2).1
    have hsz := hM.bl.size
    have zf : ∀ o, (w2.alloc (Obj.cells #[Value.slice ah nh ch, .slice al nl cl] 28)).frozen? ⟨w.heap.size + 1 + 1, o, none⟩ = false := fun o => by simp [World.frozen?, hY3]
    clear hM hb3 hN3 hY3 HL1 HL2 HAl
    go_wp2_with (fail)
    go_region
    go_wp2_with (fail)
    have hB9 := (((below_trans (below_trans HB1.out HM.out.bl) HB3.out).setCell (p := ⟨w.heap.size + 1 + 1, 0, none⟩) (by show w.heap.size ≤ w.heap.size + 1 + 1; omega) (.slice ah nh ch)).setCell (p := ⟨w.heap.size + 1 + 1, 1, none⟩) (by show w.heap.size ≤ w.heap.size + 1 + 1; omega) (.slice al nl cl))
    exact bodyPost_ret (v := .tuple #[.bool (!b), .agg #[.slice ah nh ch, .slice al nl cl], .int .i64 0]) (by simp [results, Tryd.results16, go_sem, y0, y1]) rfl ⟨!b, _, _, by rw [HCI.out], ⟨fun e => absurd HCI.out e, fun _ => by
      rw [Bool.not_not, HMA.out]
      refine HM.out.move hB9.drew (fun v zs h _ => ?_)
      exact (intSl_setTwo HY3.out (h.below HB3.out)).below (Below.drew (Below.refl _ _)), ⟨⟨_, _, _, rfl⟩, ⟨_, _, _, rfl⟩⟩, hB9.drew⟩⟩
  · have d1 : (ci != 0) = true := by simpa using hc
    have HCN := hide hc
    have y0 := cell_of_row _ _ 0 _ _ _ HR1.out.2.2
    have y1 := cell_of_row _ _ 1 _ _ _ HR1.out.2.2
    have zf : ∀ o, w1.frozen? ⟨w.heap.size + 1 + 1, o, none⟩ = false := fun o => by simp [World.frozen?, HR1.out.2.2]
    clear hc
    go_wp2_with (fail)
    exact bodyPost_ret (v := .tuple #[.bool false, .agg #[.slice none 0 0, .slice none 0 0], .int .i64 ci]) (by simp [results, Tryd.results16, go_sem, y0, y1]) rfl ⟨false, _, _, by rw [HCI.out], ⟨fun _ => ⟨rfl, rfl, rfl⟩, fun e => absurd (HCI.out.symm.trans e) HCN.out, ⟨⟨_, _, _, rfl⟩, ⟨_, _, _, rfl⟩⟩, (HB1.out.setCell (by show w.heap.size ≤ w.heap.size + 1 + 1; omega) _).setCell (by show w.heap.size ≤ w.heap.size + 1 + 1; omega) _⟩⟩

end Go.Proofs.YtpiacnnifdjlkabDoor

/-
  Package include: Same.
-/
namespace Go.Proofs.YtpiacnnifdjlkabDoor
open Go.RowKit Go.Sort

/-- All that one takes the other one takes. -/
def InL (A B : Aut) (m : Nat) : Prop := ∀ hs ls : List Int, 0 < ls.length → (∀ c ∈ hs, 0 ≤ c ∧ c < m) → (∀ c ∈ ls, 0 ≤ c ∧ c < m) → TakesI A (lat hs ls) → TakesI B (lat hs ls)

theorem InclMade.iff {A B : Aut} {w w' : World} {b : Bool} {hv lv : Value} (h : InclMade A B w w' b hv lv) (hc : chkI A B = 0) : b = true ↔ InL A B A.m.toNat := by
  have hM := h.good hc
  cases b with
  | true => exact ⟨fun _ => (hM.no rfl).2.2, fun _ => rfl⟩
  | false =>
    obtain ⟨hs, ls, _, _, _, h1, _, h2, h3, h4, h5⟩ := hM.yes rfl
    exact ⟨fun e => Bool.noConfusion e, fun hI => absurd (hI hs ls h1 h2 h3 h4) h5⟩

theorem chkI_symm {A B : Aut} (h : chkI A B = 0) : chkI B A = 0 := by
  obtain ⟨h1, h2, h3, h4, h5, h6⟩ := chkI_ok h
  unfold chkI chkP
  simp [h1, h2, h3]
  omega

/-- What Same answers. -/
structure SameMade (A B : Aut) (w w' : World) (s : Bool) : Prop where
  bad : chkI A B ≠ 0 → s = false
  good : chkI A B = 0 → (s = true ↔ InL A B A.m.toNat ∧ InL B A B.m.toNat)
  bl : Below w.heap.size w w'

set_option maxRecDepth 100000 in
set_option maxHeartbeats 1000000 in
theorem same_any {w : World} {A B : Aut} {va vb : Value} (hA : AutV w va A) (hB : AutV w vb B) :
    Calls Tryd.prog 18 #[va, vb] w fun e w' => ∃ s, e = .returned (.tuple #[.bool s, .int .i64 (chkI A B)]) ∧ SameMade A B w w' s := by
  have HI1 := hide (fun W (hb : Below w.heap.size w W) => included_any (hA.below hb) (hB.below hb))
  have HI2 := hide (fun W (hb : Below w.heap.size w W) => included_any (hB.below hb) (hA.below hb))
  obtain ⟨fv, gv, sv, rfl, h1, h2, h3⟩ := hA
  obtain ⟨a1, c1, rfl, -⟩ := h1
  obtain ⟨a2, c2, rfl, -⟩ := h2
  obtain ⟨a3, c3, rfl, -⟩ := h3
  obtain ⟨fv, gv, sv, rfl, h1, h2, h3⟩ := hB
  obtain ⟨a4, c4, rfl, -⟩ := h1
  obtain ⟨a5, c5, rfl, -⟩ := h2
  obtain ⟨a6, c6, rfl, -⟩ := h3
  generalize A.first.length = l1 at *
  generalize A.good.length = l2 at *
  generalize A.steps.length = l3 at *
  generalize B.first.length = l4 at *
  generalize B.good.length = l5 at *
  generalize B.steps.length = l6 at *
  generalize hnA : A.n = nA at *
  generalize hmA : A.m = mA at *
  generalize hnB : B.n = nB at *
  generalize hmB : B.m = mB at *
  have HMA := hide hmA
  have HMB := hide hmB
  clear hnA hmA hnB hmB
  have hRR := two_alloc w (Obj.cells #[Value.int .i64 nA, .int .i64 mA, .slice a1 l1 c1, .slice a2 l2 c2, .slice a3 l3 c3] 26) (Obj.cells #[Value.int .i64 nB, .int .i64 mB, .slice a4 l4 c4, .slice a5 l5 c5, .slice a6 l6 c6] 26)
  have HR := hide hRR
  have HLa := hide (auto_load hRR.1 rfl)
  have HLb := hide (auto_load hRR.2 rfl)
  clear hRR
  have HW : Hid (Below w.heap.size w ((w.alloc (Obj.cells #[Value.int .i64 nA, .int .i64 mA, .slice a1 l1 c1, .slice a2 l2 c2, .slice a3 l3 c3] 26)).alloc (Obj.cells #[Value.int .i64 nB, .int .i64 mB, .slice a4 l4 c4, .slice a5 l5 c5, .slice a6 l6 c6] 26))) := hide (by repeat (first | exact Below.refl _ _ | assumption | refine below_drewN ?_ _ | refine Below.drew ?_ | refine Below.alloc ?_ (by simp <;> omega) _ | refine below_trans ?_ (by assumption)))
  go_enter Tryd.func18, Tryd.ntmps18
  go_upto_region 1 with (fail)
  generalize ((w.alloc (Obj.cells #[Value.int .i64 nA, .int .i64 mA, .slice a1 l1 c1, .slice a2 l2 c2, .slice a3 l3 c3] 26)).alloc (Obj.cells #[Value.int .i64 nB, .int .i64 mB, .slice a4 l4 c4, .slice a5 l5 c5, .slice a6 l6 c6] 26)) = W0 at *
  go_wp2_with (first | (show wpList _ _ _ (⟨some 10, _, _, _, _, _⟩ :: _) _ _; refine wpl_load HLa.out rfl rfl rfl ?_) | (show wpList _ _ _ (⟨some 11, _, _, _, _, _⟩ :: _) _ _; refine wpl_load HLb.out rfl rfl rfl ?_))
  go_fit (HI1.out W0 HW.out)
  rintro e w1 ⟨b, hv, lv, rfl, hM⟩
  obtain ⟨⟨ah, nh, ch, rfl⟩, ⟨al, nl, cl, rfl⟩⟩ := hM.form
  have HM := hide hM
  have hb2 := below_new w1 (Obj.cells #[Value.slice ah nh ch, .slice al nl cl] 28)
  have HB2 := hide (below_trans (below_trans HW.out hM.bl) hb2)
  have HR2 := hide (And.intro (belowRow hb2 (belowRow hM.bl HR.out.1)) (belowRow hb2 (belowRow hM.bl HR.out.2)))
  clear hM hb2 HR HLa HLb HI1
  generalize hci : chkI A B = ci at *
  have HCI := hide hci
  clear hci
  cases b with
  | false =>
    go_wp2_with (fail)
    go_ret2
    exact ⟨false, by rw [HCI.out]; rfl, ⟨fun _ => rfl, fun hc => ⟨fun e => Bool.noConfusion e, fun ⟨h1, _⟩ => absurd ((HM.out.iff hc).2 h1) (by simp)⟩, HB2.out⟩⟩
  | true =>
    have hc0 : chkI A B = 0 := Classical.byContradiction fun hn => by have := (HM.out.bad hn).1; cases this
    have HC0 := hide hc0
    have HC1 := hide (chkI_symm hc0)
    have hci0 : ci = 0 := HCI.out.symm.trans hc0
    have HCZ := hide hci0
    clear hc0 hci0
    have HL1 := hide (auto_load HR2.out.1 rfl)
    have HL2 := hide (auto_load HR2.out.2 rfl)
    go_wp2_with (first | (show wpList _ _ _ (⟨some 20, _, _, _, _, _⟩ :: _) _ _; refine wpl_load HL2.out rfl rfl rfl ?_) | (show wpList _ _ _ (⟨some 21, _, _, _, _, _⟩ :: _) _ _; refine wpl_load HL1.out rfl rfl rfl ?_))
    go_fit (HI2.out _ HB2.out)
    rintro e w3 ⟨b, hv, lv, rfl, hM3⟩
    have HM3 := hide hM3
    have HB3 := hide (below_trans HB2.out hM3.bl)
    rw [HC1.out]
    clear hM3 HL1 HL2 HI2
    go_wp2_with (fail)
    go_ret2
    exact ⟨b, by rw [HC0.out]; rfl, ⟨fun hn => absurd HC0.out hn, fun hc => by rw [HM3.out.iff HC1.out]; exact ⟨fun h => ⟨(HM.out.iff hc).1 rfl, h⟩, fun h => h.2⟩, HB3.out⟩⟩

end Go.Proofs.YtpiacnnifdjlkabDoor

namespace Go.Proofs.YtpiacnnifdjlkabDoor
open Go.RowKit Go.Sort

def noneI : Aut := ⟨1, 2, [], [false], []⟩

set_option maxHeartbeats 400000 in
theorem noneI_any (w : World) :
    Calls Tryd.prog 25 #[] w fun e w' => ∃ g, e = .returned (.agg #[.int .i64 1, .int .i64 2, .slice none 0 0, .slice (some ⟨g, 0, none⟩) 1 1, .slice none 0 0]) ∧ w'.cell? ⟨g, 0, none⟩ = some (.bool false) ∧ Below w.heap.size w w' := by
  go_enter Tryd.func25, Tryd.ntmps25
  go_wp2
  have q := two_alloc w (Obj.cells #[Value.int .i64 1, .int .i64 2, .slice none 0 0, .slice (some ⟨w.heap.size + 1, 0, none⟩) 1 1, .slice none 0 0] 26) (Obj.cells #[Value.bool false] 4)
  have c0 := cell_of_row _ _ 0 _ _ _ q.1
  have c1 := cell_of_row _ _ 1 _ _ _ q.1
  have c2 := cell_of_row _ _ 2 _ _ _ q.1
  have c3 := cell_of_row _ _ 3 _ _ _ q.1
  have c4 := cell_of_row _ _ 4 _ _ _ q.1
  have c5 := cell_of_row _ _ 0 _ _ _ q.2
  refine bodyPost_ret (v := .agg #[.int .i64 1, .int .i64 2, .slice none 0 0, .slice (some ⟨w.heap.size + 1, 0, none⟩) 1 1, .slice none 0 0]) (by simp [results, Tryd.results25, go_sem, c0, c1, c2, c3, c4]) rfl ⟨_, rfl, c5, (by repeat (first | exact Below.refl _ _ | assumption | refine below_drewN ?_ _ | refine Below.drew ?_ | refine Below.alloc ?_ (by simp <;> omega) _ | refine below_trans ?_ (by assumption)))⟩

theorem autV_noneI {w : World} {g : Nat} (h : w.cell? ⟨g, 0, none⟩ = some (.bool false)) :
    AutV w (.agg #[.int .i64 1, .int .i64 2, .slice none 0 0, .slice (some ⟨g, 0, none⟩) 1 1, .slice none 0 0]) noneI :=
  ⟨_, _, _, rfl, intSl_nil w, boolSl_one w g false h, none, 0, rfl, by simp [maxLen, noneI], Or.inl rfl, fun _ => rfl, by simp [noneI]⟩

theorem inL_none (B : Aut) (m : Nat) : InL noneI B m := by
  intro hs ls _ _ _ h
  obtain ⟨r, ⟨i, hi, _⟩, _⟩ := h
  exact absurd hi (Nat.not_lt_zero _)

theorem inL_self (A : Aut) (m : Nat) : InL A A m := fun _ _ _ _ _ h => h

theorem one_takesI0 : TakesI oneA (lat [] [0]) := by
  refine ⟨fun _ => 0, ⟨0, by decide, by decide⟩, fun t => ⟨⟨0, 0, 0⟩, by simp [oneA], rfl, ?_, rfl⟩, fun t => ⟨t, Nat.le_refl _, rfl⟩⟩
  unfold lat
  simp [Nat.mod_one]

theorem not_inL_one : ¬ InL oneA noneI 2 := by
  intro h
  obtain ⟨r, ⟨i, hi, _⟩, _⟩ := h [] [0] (by simp) (by simp) (by simp) one_takesI0
  exact absurd hi (Nat.not_lt_zero _)

theorem chkI_no : chkI noneI oneA = 0 := by decide
theorem chkI_on : chkI oneA noneI = 0 := by decide
theorem chkI_oo : chkI oneA oneA = 0 := by decide

set_option maxRecDepth 100000 in
set_option maxHeartbeats 2000000 in
theorem includeBegun_any {w : World} :
    Calls Tryd.prog 17 #[] w fun e w' => e = .returned (.bool true) ∧ Below w.heap.size w w' := by
  go_enter Tryd.func17, Tryd.ntmps17
  go_wp2_with (fail)
  refine (noneI_any _).mono ?_
  rintro e w1 ⟨g4, rfl, j6, hb1⟩
  have HB1 := hide hb1
  have HN1 := hide (autV_noneI j6)
  clear hb1 j6
  go_wp2_with (fail)
  refine (one_any _).mono ?_
  rintro e w2 ⟨g1, g2, g3, rfl, j1, j2, j3, j4, j5, hb2⟩
  have HI := hide (included_any (HN1.out.below hb2) (autV_one j1 j2 j3 j4 j5))
  have HB2 := hide (below_trans HB1.out hb2)
  clear j1 j2 j3 j4 j5 hb2 HB1 HN1
  go_wp2_with (fail)
  go_fit HI.out
  rintro e w3 ⟨b, hv, lv, rfl, hM⟩
  have hbT : b = true := (hM.iff chkI_no).2 (inL_none _ _)
  subst hbT
  rw [chkI_no]
  obtain ⟨⟨ah, nh, ch, rfl⟩, ⟨al, nl, cl, rfl⟩⟩ := hM.form
  have HB3 := hide (below_trans (below_trans HB2.out hM.bl) (below_new w3 (Obj.cells #[Value.slice ah nh ch, .slice al nl cl] 28)))
  clear hM HI HB2
  go_wp2_with (fail)
  generalize w3.alloc (Obj.cells #[Value.slice ah nh ch, .slice al nl cl] 28) = W3 at *
  refine (one_any _).mono ?_
  rintro e w4 ⟨g1, g2, g3, rfl, j1, j2, j3, j4, j5, hb4⟩
  have HO := hide (autV_one j1 j2 j3 j4 j5)
  have HB4 := hide (below_trans HB3.out hb4)
  clear j1 j2 j3 j4 j5 hb4 HB3
  go_wp2_with (fail)
  refine (noneI_any _).mono ?_
  rintro e w5 ⟨g4', rfl, j6, hb5⟩
  have HI := hide (included_any (HO.out.below hb5) (autV_noneI j6))
  have HB5 := hide (below_trans HB4.out hb5)
  clear j6 hb5 HB4 HO
  go_wp2_with (fail)
  go_fit HI.out
  rintro e w6 ⟨b, hv, lv, rfl, hM⟩
  have hbF : b = false := by
    cases b with
    | false => rfl
    | true => exact absurd ((hM.iff chkI_on).1 rfl) not_inL_one
  subst hbF
  rw [chkI_on]
  obtain ⟨hs, ls, i1, i2, -, hpos, -⟩ := (hM.good chkI_on).yes rfl
  obtain ⟨ah', ch', rfl, -⟩ := i1
  obtain ⟨al', cl', rfl, -⟩ := i2
  generalize hs.length = un at *
  generalize ls.length = vn at *
  have hbn := below_new w6 (Obj.cells #[Value.slice ah' un ch', .slice al' vn cl'] 28)
  have hon := one_new w6 (Obj.cells #[Value.slice ah' un ch', .slice al' vn cl'] 28)
  have HB6 := hide (below_trans (below_trans HB5.out hM.bl) hbn)
  have HR6 := hide hon
  have HP := hide hpos
  clear hM HI HB5 hbn hon hpos
  go_wp2_with (fail)
  generalize w6.alloc (Obj.cells #[Value.slice ah' un ch', .slice al' vn cl'] 28) = W6 at *
  refine (one_any _).mono ?_
  rintro e w7 ⟨h1, h2, h3, rfl, j1, j2, j3, j4, j5, hb7⟩
  have HO := hide (autV_one j1 j2 j3 j4 j5)
  have HB7 := hide hb7
  clear j1 j2 j3 j4 j5 hb7
  go_wp2_with (fail)
  refine (one_any _).mono ?_
  rintro e w8 ⟨k1, k2, k3, rfl, j1, j2, j3, j4, j5, hb8⟩
  have HI := hide (same_any (HO.out.below hb8) (autV_one j1 j2 j3 j4 j5))
  have HB8 := hide (below_trans HB7.out hb8)
  clear j1 j2 j3 j4 j5 hb8 HB7 HO
  go_wp2_with (fail)
  go_fit HI.out
  rintro e w9 ⟨s, rfl, hM⟩
  have hsT : s = true := (hM.good chkI_oo).2 ⟨inL_self _ _, inL_self _ _⟩
  subst hsT
  rw [chkI_oo]
  have HB9 := hide (below_trans HB8.out hM.bl)
  have n1 := cell_of_row _ _ 1 _ _ _ (belowRow HB9.out HR6.out)
  have hpos := HP.out
  clear hM HI HB8
  go_wp2
  go_ret
  exact ⟨rfl, below_trans HB6.out HB9.out⟩

end Go.Proofs.YtpiacnnifdjlkabDoor
