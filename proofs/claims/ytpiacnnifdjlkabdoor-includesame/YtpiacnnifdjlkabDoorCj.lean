/- WordTells holds: whatever lasso, number of letters and place are handed in, Check, Least and At of package word answer just what the document says, errors too; the table deBruijn64tab of math/bits is as the program's text lays it. -/
import Derived.Test.YtpiacnnifdjlkabDoorXw
import Derived.Test.YtpiacnnifdjlkabDoorCn
import Derived.Test.YtpiacnnifdjlkabDoorCg
/-
  IncludeTells of the statements: true, whatever it is handed.
-/
namespace Go.Proofs.YtpiacnnifdjlkabDoor
open Go.RowKit Go.Sort

/-- What is taken by one automaton alone, told to the other calls. -/
theorem tell_yes {A B : Aut} {hs ls : List Int} (hc : chkI A B = 0) (h1 : hs.length < 64) (h2 : 0 < ls.length) (h3 : ls.length < 3888) (h4 : ∀ c ∈ hs, 0 ≤ c ∧ c < A.m.toNat) (h5 : ∀ c ∈ ls, 0 ≤ c ∧ c < A.m.toNat) (h6 : TakesI A (lat hs ls)) (h7 : ¬ TakesI B (lat hs ls)) :
    chk hs ls A.m = 0 ∧ tkE A hs ls = 0 ∧ tkE B hs ls = 0 ∧ TakesA A hs ls ∧ ¬ TakesA B hs ls := by
  obtain ⟨ha, hb, hm, _, _, _⟩ := chkI_ok hc
  have hR := right_of ha
  have hRB := right_of hb
  have hk : chk hs ls A.m = 0 := by
    unfold chk
    have a1 := hR.m8
    have a0 := hR.m1
    rw [if_neg (by omega), if_neg (by omega), if_neg (by omega), if_neg (by
      intro h
      obtain ⟨x, hx, hy⟩ := List.any_eq_true.1 h
      have : 0 ≤ x ∧ x < A.m.toNat := by
        rcases List.mem_append.1 hx with h | h
        · exact h4 x h
        · exact h5 x h
      simp at hy
      omega)]
  refine ⟨hk, by unfold tkE; simp [ha, hk], by unfold tkE; rw [← hm]; simp [hb, hk], (takes_word h2).2 ((takes_inf (N := 300) h2 (fun s hs => by have := hR.steps s hs; have := hR.n3; omega)).2 h6), fun h => h7 ((takes_inf (N := 300) h2 (fun s hs => by have := hRB.steps s hs; have := hRB.n3; omega)).1 ((takes_word h2).1 h))⟩

theorem chk_in {hs ls : List Int} {n : Int} (h : chk hs ls n = 0) : ∀ c ∈ hs ++ ls, 0 ≤ c ∧ c < n := by
  unfold chk at h
  split at h
  · omega
  · split at h
    · omega
    · split at h
      · omega
      · split at h
        · omega
        · rename_i hn
          intro c hc
          simp at hn
          rcases List.mem_append.1 hc with h | h
          · exact hn.1 c h
          · exact hn.2 c h

/-- Where one is in the other one. -/
theorem tell_no {A B : Aut} {hs ls : List Int} (hc : chkI A B = 0) (hI : InL A B A.m.toNat) : tkE A hs ls = tkE B hs ls ∧ (tkE A hs ls = 0 ∧ TakesA A hs ls → TakesA B hs ls) := by
  obtain ⟨ha, hb, hm, _, _, _⟩ := chkI_ok hc
  have hR := right_of ha
  have hRB := right_of hb
  refine ⟨by unfold tkE; rw [hm]; simp [ha, hb], fun ⟨h1, h2⟩ => ?_⟩
  have hk : chk hs ls A.m = 0 := by
    unfold tkE at h1
    simpa [ha] using h1
  have hl : 0 < ls.length := List.length_pos_iff.2 (chk_lens hk).2.2
  have hall := chk_in hk
  have hT := (takes_inf (N := 300) hl (fun s hs => by have := hR.steps s hs; have := hR.n3; omega)).1 ((takes_word hl).1 h2)
  exact (takes_word hl).2 ((takes_inf (N := 300) hl (fun s hs => by have := hRB.steps s hs; have := hRB.n3; omega)).2 (hI hs ls hl (fun c hc' => by have := hall c (List.mem_append_left _ hc'); omega) (fun c hc' => by have := hall c (List.mem_append_right _ hc'); omega) hT))

set_option maxRecDepth 100000 in
set_option maxHeartbeats 4000000 in
theorem includeTells_any {w : World} {va vb hv0 lv0 : Value} {A B : Aut} {hs ls : List Int} (hA : AutV w va A) (hB : AutV w vb B) (hh : IntSl w hv0 hs) (hl : IntSl w lv0 ls) (ht : Tab w) :
    Calls Tryd.prog 5 #[va, vb, .agg #[hv0, lv0]] w fun e w' => e = .returned (.bool true) ∧ Below w.heap.size w w' := by
  have Ht := hide ht
  have HIn := hide (fun W (hb : Below w.heap.size w W) => included_any (hA.below hb) (hB.below hb))
  have HTA := hide (fun W (hb : Below w.heap.size w W) => takes_any (hA.below hb) (hh.below hb) (hl.below hb) (ht.below hb))
  have HTB := hide (fun W (hb : Below w.heap.size w W) => takes_any (hB.below hb) (hh.below hb) (hl.below hb) (ht.below hb))
  have HXA := hide (fun W (hb : Below w.heap.size w W) (a b : Value) us vs (ha : IntSl W a us) (hb' : IntSl W b vs) => takes_any (hA.below hb) ha hb' (ht.below hb))
  have HXB := hide (fun W (hb : Below w.heap.size w W) (a b : Value) us vs (ha : IntSl W a us) (hb' : IntSl W b vs) => takes_any (hB.below hb) ha hb' (ht.below hb))
  have HCA := hide (fun W (hb : Below w.heap.size w W) => checkAutoR_any (hA.below hb))
  have HCB := hide (fun W (hb : Below w.heap.size w W) => checkAutoR_any (hB.below hb))
  have HCL := hide (fun W (a b : Value) us vs (ha : IntSl W a us) (hb' : IntSl W b vs) => checkLasso_any A.m ha hb')
  have HE : Hid (chkI A B = if chkA A ≠ 0 then chkA A else if chkA B ≠ 0 then chkA B else if A.m ≠ B.m then 1 else if A.n > 3 ∨ B.n > 3 ∨ A.m > 2 then 2 else 0) := hide (by
    unfold chkI chkP
    by_cases h1 : chkA A = 0
    · by_cases h2 : chkA B = 0
      · by_cases h3 : A.m = B.m
        · simp [h1, h2, h3]
        · simp [h1, h2, h3]
      · simp [h1, h2]
    · simp [h1])
  obtain ⟨fv, gv, sv, rfl, h1, h2, h3⟩ := hA
  obtain ⟨a1, c1, rfl, -⟩ := h1
  obtain ⟨a2, c2, rfl, -⟩ := h2
  obtain ⟨a3, c3, rfl, -⟩ := h3
  obtain ⟨fv, gv, sv, rfl, h1, h2, h3⟩ := hB
  obtain ⟨a4, c4, rfl, -⟩ := h1
  obtain ⟨a5, c5, rfl, -⟩ := h2
  obtain ⟨a6, c6, rfl, -⟩ := h3
  generalize A.first.length = l1 at *
  generalize A.good.length = l2 at *
  generalize A.steps.length = l3 at *
  generalize B.first.length = l4 at *
  generalize B.good.length = l5 at *
  generalize B.steps.length = l6 at *
  obtain ⟨a7, c7, rfl, -⟩ := hh
  obtain ⟨a8, c8, rfl, -⟩ := hl
  clear ht
  generalize hnA : A.n = nA at *
  generalize hmA : A.m = mA at *
  generalize hnB : B.n = nB at *
  generalize hmB : B.m = mB at *
  have HMA := hide hmA
  clear hnA hmA hnB hmB
  generalize hs.length = l7 at *
  generalize ls.length = l8 at *
  have hRR := three_alloc w (Obj.cells #[Value.int .i64 nA, .int .i64 mA, .slice a1 l1 c1, .slice a2 l2 c2, .slice a3 l3 c3] 26) (Obj.cells #[Value.int .i64 nB, .int .i64 mB, .slice a4 l4 c4, .slice a5 l5 c5, .slice a6 l6 c6] 26) (Obj.cells #[Value.slice a7 l7 c7, .slice a8 l8 c8] 28)
  have HR := hide hRR
  have HLa := hide (auto_load hRR.1 rfl)
  have HLb := hide (auto_load hRR.2.1 rfl)
  clear hRR
  have HW : Hid (Below w.heap.size w (((w.alloc (Obj.cells #[Value.int .i64 nA, .int .i64 mA, .slice a1 l1 c1, .slice a2 l2 c2, .slice a3 l3 c3] 26)).alloc (Obj.cells #[Value.int .i64 nB, .int .i64 mB, .slice a4 l4 c4, .slice a5 l5 c5, .slice a6 l6 c6] 26)).alloc (Obj.cells #[Value.slice a7 l7 c7, .slice a8 l8 c8] 28))) := hide (by repeat (first | exact Below.refl _ _ | assumption | refine below_drewN ?_ _ | refine Below.drew ?_ | refine Below.alloc ?_ (by simp <;> omega) _ | refine below_trans ?_ (by assumption)))
  go_enter Tryd.func5, Tryd.ntmps5
  go_upto_region 1 with (fail)
  generalize (((w.alloc (Obj.cells #[Value.int .i64 nA, .int .i64 mA, .slice a1 l1 c1, .slice a2 l2 c2, .slice a3 l3 c3] 26)).alloc (Obj.cells #[Value.int .i64 nB, .int .i64 mB, .slice a4 l4 c4, .slice a5 l5 c5, .slice a6 l6 c6] 26)).alloc (Obj.cells #[Value.slice a7 l7 c7, .slice a8 l8 c8] 28)) = W0 at *
  go_wp2_with (first | (show wpList _ _ _ (⟨some 20, _, _, _, _, _⟩ :: _) _ _; refine wpl_load HLa.out rfl rfl rfl ?_) | (show wpList _ _ _ (⟨some 21, _, _, _, _, _⟩ :: _) _ _; refine wpl_load HLb.out rfl rfl rfl ?_))
  go_fit (HIn.out W0 HW.out)
  rintro e w0 ⟨b, hv, lv, rfl, hM⟩
  obtain ⟨⟨ah, nh, ch, rfl⟩, ⟨al, nl, cl, rfl⟩⟩ := hM.form
  have HM := hide hM
  have hbn := below_new w0 (Obj.cells #[Value.slice ah nh ch, .slice al nl cl] 28)
  have hon := one_new w0 (Obj.cells #[Value.slice ah nh ch, .slice al nl cl] 28)
  have HI1 := hide hbn
  have HB1 := hide (below_trans (below_trans HW.out hM.bl) hbn)
  have HR1 := hide (And.intro (belowRow hbn (belowRow hM.bl HR.out.1)) (And.intro (belowRow hbn (belowRow hM.bl HR.out.2.1)) (And.intro (belowRow hbn (belowRow hM.bl HR.out.2.2)) hon)))
  clear hM hbn hon HR HLa HLb HIn
  generalize hci : chkI A B = ci at *
  have HCI := hide hci
  clear hci
  have HL1 := hide (auto_load HR1.out.1 rfl)
  go_wp2_with (first | (show wpList _ _ _ (⟨some 26, _, _, _, _, _⟩ :: _) _ _; refine wpl_load HL1.out rfl rfl rfl ?_))
  generalize w0.alloc (Obj.cells #[Value.slice ah nh ch, .slice al nl cl] 28) = W1 at *
  go_fit (HCA.out W1 HB1.out)
  rintro e w2 ⟨rfl, hb2⟩
  generalize hca : chkA A = ca at *
  have HB2 := hide (below_trans HB1.out hb2)
  have HR2 := hide (And.intro (belowRow hb2 HR1.out.1) (And.intro (belowRow hb2 HR1.out.2.1) (And.intro (belowRow hb2 HR1.out.2.2.1) (belowRow hb2 HR1.out.2.2.2))))
  have HI2 := hide (below_trans HI1.out hb2)
  clear hb2 HB1 HR1 HI1 HL1 hca HCA
  by_cases hz : ca = 0
  · have HZ := hide hz
    have d1 : (ca == 0) = true := by simpa using hz
    clear hz
    have HL2 := hide (auto_load HR2.out.2.1 rfl)
    go_wp2_with (first | (show wpList _ _ _ (⟨some 30, _, _, _, _, _⟩ :: _) _ _; refine wpl_load HL2.out rfl rfl rfl ?_))
    go_fit (HCB.out w2 HB2.out)
    rintro e w3 ⟨rfl, hb3⟩
    generalize hcb : chkA B = cb at *
    have HB3 := hide (below_trans HB2.out hb3)
    have HR3 := hide (And.intro (belowRow hb3 HR2.out.1) (And.intro (belowRow hb3 HR2.out.2.1) (And.intro (belowRow hb3 HR2.out.2.2.1) (belowRow hb3 HR2.out.2.2.2))))
    have HI3 := hide (below_trans HI2.out hb3)
    clear hb3 HB2 HR2 HI2 HL2 hcb HCB
    have p0 := cell_of_row _ _ 0 _ _ _ HR3.out.1
    have p1 := cell_of_row _ _ 1 _ _ _ HR3.out.1
    have p2 := cell_of_row _ _ 0 _ _ _ HR3.out.2.1
    have p3 := cell_of_row _ _ 1 _ _ _ HR3.out.2.1
    by_cases hzb : cb = 0
    · have HZB := hide hzb
      have d2 : (cb == 0) = true := by simpa using hzb
      clear hzb
      by_cases hmm : mA = mB
      · have HMM := hide hmm
        have d3 : (mA != mB) = false := by simpa using hmm
        clear hmm
        by_cases hg : nA > 3 ∨ nB > 3 ∨ mA > 2
        · have HCE : Hid (ci = 2) := hide (by rw [HE.out, if_neg (by simpa using HZ.out), if_neg (by simpa using HZB.out), if_neg (by simpa using HMM.out), if_pos hg])
          have HWN : Hid ((2 : Int) ≠ 0) := hide (by decide)
          by_cases g1 : 3 < nA
          · clear hg
            have HN : Hid (chkI A B ≠ 0) := hide (by rw [HCI.out, HCE.out]; exact HWN.out)
            obtain ⟨eb, eh, el⟩ := HM.out.bad HN.out
            subst eb
            cases eh
            cases el
            have hsame : (ci != 2) = false := by simpa using HCE.out
            have hnz : ((2 : Int) != 0) = true := by first | decide | simpa using HWN.out
            go_wp2_with (fail)
            go_fit (includeBegun_any (w := w3))
            rintro e w8 ⟨rfl, hb8⟩
            have HB8 := hide (below_trans HB3.out hb8)
            have HR8 := hide (And.intro (belowRow hb8 HR3.out.1) (And.intro (belowRow hb8 HR3.out.2.1) (And.intro (belowRow hb8 HR3.out.2.2.1) (belowRow hb8 HR3.out.2.2.2))))
            have HI8 := hide (below_trans HI3.out hb8)
            clear hb8
            go_wp2_with (fail)
            go_fit (wordBegun_any (Ht.out.below HB8.out))
            rintro e w9 ⟨rfl, hb9⟩
            have HB9 := hide (below_trans HB8.out hb9)
            have HR9 := hide (And.intro (belowRow hb9 HR8.out.1) (And.intro (belowRow hb9 HR8.out.2.1) (And.intro (belowRow hb9 HR8.out.2.2.1) (belowRow hb9 HR8.out.2.2.2))))
            have HI9 := hide (below_trans HI8.out hb9)
            clear hb9 HB8 HR8 HI8 HB3 HR3 HI3
            have x0 := cell_of_row _ _ 0 _ _ _ HR9.out.2.2.2
            have x1 := cell_of_row _ _ 1 _ _ _ HR9.out.2.2.2
            clear p0 p1 p2 p3
            go_wp2
            go_ret
            exact ⟨by first | rfl | simp, HB9.out⟩
          · by_cases g2 : 3 < nB
            · clear hg
              have HN : Hid (chkI A B ≠ 0) := hide (by rw [HCI.out, HCE.out]; exact HWN.out)
              obtain ⟨eb, eh, el⟩ := HM.out.bad HN.out
              subst eb
              cases eh
              cases el
              have hsame : (ci != 2) = false := by simpa using HCE.out
              have hnz : ((2 : Int) != 0) = true := by first | decide | simpa using HWN.out
              go_wp2_with (fail)
              go_fit (includeBegun_any (w := w3))
              rintro e w8 ⟨rfl, hb8⟩
              have HB8 := hide (below_trans HB3.out hb8)
              have HR8 := hide (And.intro (belowRow hb8 HR3.out.1) (And.intro (belowRow hb8 HR3.out.2.1) (And.intro (belowRow hb8 HR3.out.2.2.1) (belowRow hb8 HR3.out.2.2.2))))
              have HI8 := hide (below_trans HI3.out hb8)
              clear hb8
              go_wp2_with (fail)
              go_fit (wordBegun_any (Ht.out.below HB8.out))
              rintro e w9 ⟨rfl, hb9⟩
              have HB9 := hide (below_trans HB8.out hb9)
              have HR9 := hide (And.intro (belowRow hb9 HR8.out.1) (And.intro (belowRow hb9 HR8.out.2.1) (And.intro (belowRow hb9 HR8.out.2.2.1) (belowRow hb9 HR8.out.2.2.2))))
              have HI9 := hide (below_trans HI8.out hb9)
              clear hb9 HB8 HR8 HI8 HB3 HR3 HI3
              have x0 := cell_of_row _ _ 0 _ _ _ HR9.out.2.2.2
              have x1 := cell_of_row _ _ 1 _ _ _ HR9.out.2.2.2
              clear p0 p1 p2 p3
              go_wp2
              go_ret
              exact ⟨by first | rfl | simp, HB9.out⟩
            · have g3 : 2 < mA := by omega
              clear hg
              have HN : Hid (chkI A B ≠ 0) := hide (by rw [HCI.out, HCE.out]; exact HWN.out)
              obtain ⟨eb, eh, el⟩ := HM.out.bad HN.out
              subst eb
              cases eh
              cases el
              have hsame : (ci != 2) = false := by simpa using HCE.out
              have hnz : ((2 : Int) != 0) = true := by first | decide | simpa using HWN.out
              go_wp2_with (fail)
              go_fit (includeBegun_any (w := w3))
              rintro e w8 ⟨rfl, hb8⟩
              have HB8 := hide (below_trans HB3.out hb8)
              have HR8 := hide (And.intro (belowRow hb8 HR3.out.1) (And.intro (belowRow hb8 HR3.out.2.1) (And.intro (belowRow hb8 HR3.out.2.2.1) (belowRow hb8 HR3.out.2.2.2))))
              have HI8 := hide (below_trans HI3.out hb8)
              clear hb8
              go_wp2_with (fail)
              go_fit (wordBegun_any (Ht.out.below HB8.out))
              rintro e w9 ⟨rfl, hb9⟩
              have HB9 := hide (below_trans HB8.out hb9)
              have HR9 := hide (And.intro (belowRow hb9 HR8.out.1) (And.intro (belowRow hb9 HR8.out.2.1) (And.intro (belowRow hb9 HR8.out.2.2.1) (belowRow hb9 HR8.out.2.2.2))))
              have HI9 := hide (below_trans HI8.out hb9)
              clear hb9 HB8 HR8 HI8 HB3 HR3 HI3
              have x0 := cell_of_row _ _ 0 _ _ _ HR9.out.2.2.2
              have x1 := cell_of_row _ _ 1 _ _ _ HR9.out.2.2.2
              clear p0 p1 p2 p3
              go_wp2
              go_ret
              exact ⟨by first | rfl | simp, HB9.out⟩
        · have HCE : Hid (ci = 0) := hide (by rw [HE.out, if_neg (by simpa using HZ.out), if_neg (by simpa using HZB.out), if_neg (by simpa using HMM.out), if_neg hg])
          have g1 : ¬ 3 < nA := by omega
          have g2 : ¬ 3 < nB := by omega
          have g3 : ¬ 2 < mA := by omega
          have hcb0 := HZB.out
          subst hcb0
          clear hg
          obtain rfl : ci = 0 := HCE.out
          have HG := hide (HM.out.good (by rw [HCI.out]))
          go_wp2_with (fail)
          go_fit (includeBegun_any (w := w3))
          rintro e w8 ⟨rfl, hb8⟩
          have HB8 := hide (below_trans HB3.out hb8)
          have HR8 := hide (And.intro (belowRow hb8 HR3.out.1) (And.intro (belowRow hb8 HR3.out.2.1) (And.intro (belowRow hb8 HR3.out.2.2.1) (belowRow hb8 HR3.out.2.2.2))))
          have HI8 := hide (below_trans HI3.out hb8)
          clear hb8
          go_wp2_with (fail)
          go_fit (wordBegun_any (Ht.out.below HB8.out))
          rintro e w9 ⟨rfl, hb9⟩
          have HB9 := hide (below_trans HB8.out hb9)
          have HR9 := hide (And.intro (belowRow hb9 HR8.out.1) (And.intro (belowRow hb9 HR8.out.2.1) (And.intro (belowRow hb9 HR8.out.2.2.1) (belowRow hb9 HR8.out.2.2.2))))
          have HI9 := hide (below_trans HI8.out hb9)
          clear hb9 HB8 HR8 HI8 HB3 HR3 HI3
          have x0 := cell_of_row _ _ 0 _ _ _ HR9.out.2.2.2
          have x1 := cell_of_row _ _ 1 _ _ _ HR9.out.2.2.2
          clear p0 p1 p2 p3
          have p1 := cell_of_row _ _ 1 _ _ _ HR9.out.1
          have q0 := cell_of_row _ _ 0 _ _ _ HR9.out.2.2.1
          have q1 := cell_of_row _ _ 1 _ _ _ HR9.out.2.2.1
          have HL9 := hide (auto_load HR9.out.1 rfl)
          cases b with
          | true =>
            obtain ⟨eh, el, hIn⟩ := HG.out.no rfl
            cases eh
            cases el
            have HTN := hide (tell_no (hs := hs) (ls := ls) HCI.out hIn)
            clear hIn
            go_wp2_with (first | (show wpList _ _ _ (⟨some 81, _, _, _, _, _⟩ :: _) _ _; refine wpl_load HL9.out rfl rfl rfl ?_))
            go_fit (HTA.out w9 HB9.out)
            rintro e w10 ⟨p, rfl, hp, hb10⟩
            have HP := hide hp
            have HB10 := hide (below_trans HB9.out hb10)
            have HR10 := hide (And.intro (belowRow hb10 HR9.out.1) (And.intro (belowRow hb10 HR9.out.2.1) (And.intro (belowRow hb10 HR9.out.2.2.1) (belowRow hb10 HR9.out.2.2.2))))
            clear hp hb10 p1 q0 q1 x0 x1 HB9 HR9 HL9 HTA
            have HL10 := hide (auto_load HR10.out.2.1 rfl)
            have q0 := cell_of_row _ _ 0 _ _ _ HR10.out.2.2.1
            have q1 := cell_of_row _ _ 1 _ _ _ HR10.out.2.2.1
            go_wp2_with (first | (show wpList _ _ _ (⟨some 87, _, _, _, _, _⟩ :: _) _ _; refine wpl_load HL10.out rfl rfl rfl ?_))
            go_fit (HTB.out w10 HB10.out)
            rintro e w11 ⟨q, rfl, hq, hb11⟩
            have hor : tkE A hs ls ≠ 0 ∨ p = false ∨ q = true := by
              by_cases h1 : tkE A hs ls = 0
              · right
                cases p with
                | false => exact Or.inl rfl
                | true => exact Or.inr (hq.2 ⟨by rw [← HTN.out.1]; exact h1, HTN.out.2 (HP.out.1 rfl)⟩)
              · exact Or.inl h1
            rw [← HTN.out.1]
            have HB11 := hide (below_trans HB10.out hb11)
            have x0 := cell_of_row _ _ 0 _ _ _ (belowRow hb11 HR10.out.2.2.2)
            have x1 := cell_of_row _ _ 1 _ _ _ (belowRow hb11 HR10.out.2.2.2)
            clear hq hb11 q0 q1 HB10 HR10 HL10 HTB HP HTN
            generalize tkE A hs ls = te at *
            have hee : (te == te) = true := by simp
            by_cases hte : te = 0
            · subst hte
              rcases hor with h | h | h
              · exact absurd rfl h
              · subst h
                go_wp2
                go_ret
                exact ⟨by first | rfl | simp, HB11.out⟩
              · subst h
                cases p with
                | true =>
                  go_wp2
                  go_ret
                  exact ⟨by first | rfl | simp, HB11.out⟩
                | false =>
                  go_wp2
                  go_ret
                  exact ⟨by first | rfl | simp, HB11.out⟩
            · have hd : (te != 0) = true := by simpa using hte
              clear hor
              go_wp2
              go_ret
              exact ⟨by first | rfl | simp, HB11.out⟩
          | false =>
            obtain ⟨us, vs, i1, i2, y1, y2, y3, y4, y5, y6, y7⟩ := HG.out.yes rfl
            have HTY := hide (tell_yes HCI.out y1 y2 y3 y4 y5 y6 y7)
            have I1 := hide (i1.below HI9.out)
            have I2 := hide (i2.below HI9.out)
            have HK : Hid (chk us vs mA = 0) := hide (by rw [← HMA.out]; exact HTY.out.1)
            clear i1 i2 y1 y2 y3 y4 y5 y6 y7
            go_wp2_with (fail)
            go_fit (HCL.out _ _ _ us vs I1.out I2.out)
            rintro e w10 ⟨rfl, hb10⟩
            rw [HK.out]
            have HB10 := hide (below_trans HB9.out hb10)
            have HR10 := hide (And.intro (belowRow hb10 HR9.out.1) (And.intro (belowRow hb10 HR9.out.2.1) (And.intro (belowRow hb10 HR9.out.2.2.1) (belowRow hb10 HR9.out.2.2.2))))
            have J1 := hide (I1.out.below hb10)
            have J2 := hide (I2.out.below hb10)
            clear hb10 p1 q0 q1 x0 x1 HB9 HR9 HL9 I1 I2 HCL
            have HL10 := hide (auto_load HR10.out.1 rfl)
            have x0 := cell_of_row _ _ 0 _ _ _ HR10.out.2.2.2
            have x1 := cell_of_row _ _ 1 _ _ _ HR10.out.2.2.2
            go_wp2_with (first | (show wpList _ _ _ (⟨some 122, _, _, _, _, _⟩ :: _) _ _; refine wpl_load HL10.out rfl rfl rfl ?_))
            go_fit (HXA.out _ HB10.out _ _ us vs J1.out J2.out)
            rintro e w11 ⟨p, rfl, hp, hb11⟩
            have ep : p = true := hp.2 ⟨HTY.out.2.1, HTY.out.2.2.2.1⟩
            subst ep
            rw [HTY.out.2.1]
            have HB11 := hide (below_trans HB10.out hb11)
            have HR11 := hide (And.intro (belowRow hb11 HR10.out.1) (And.intro (belowRow hb11 HR10.out.2.1) (And.intro (belowRow hb11 HR10.out.2.2.1) (belowRow hb11 HR10.out.2.2.2))))
            have K1 := hide (J1.out.below hb11)
            have K2 := hide (J2.out.below hb11)
            clear hp hb11 x0 x1 HB10 HR10 HL10 J1 J2 HXA
            have HL11 := hide (auto_load HR11.out.2.1 rfl)
            have x0 := cell_of_row _ _ 0 _ _ _ HR11.out.2.2.2
            have x1 := cell_of_row _ _ 1 _ _ _ HR11.out.2.2.2
            go_wp2_with (first | (show wpList _ _ _ (⟨some 128, _, _, _, _, _⟩ :: _) _ _; refine wpl_load HL11.out rfl rfl rfl ?_))
            go_fit (HXB.out _ HB11.out _ _ us vs K1.out K2.out)
            rintro e w12 ⟨q, rfl, hq, hb12⟩
            have eq : q = false := by
              cases q with
              | false => rfl
              | true => exact absurd (hq.1 rfl).2 HTY.out.2.2.2.2
            subst eq
            rw [HTY.out.2.2.1]
            have HB12 := hide (below_trans HB11.out hb12)
            clear hq hb12 x0 x1 HL11 HR11 HB11
            go_wp2
            go_ret
            exact ⟨by first | rfl | simp, HB12.out⟩
      · have HMM := hide hmm
        have d3 : (mA != mB) = true := by simpa using hmm
        clear hmm
        have HCE : Hid (ci = 1) := hide (by rw [HE.out, if_neg (by simpa using HZ.out), if_neg (by simpa using HZB.out), if_pos HMM.out])
        have HWN : Hid ((1 : Int) ≠ 0) := hide (by decide)
        have HN : Hid (chkI A B ≠ 0) := hide (by rw [HCI.out, HCE.out]; exact HWN.out)
        obtain ⟨eb, eh, el⟩ := HM.out.bad HN.out
        subst eb
        cases eh
        cases el
        have hsame : (ci != 1) = false := by simpa using HCE.out
        have hnz : ((1 : Int) != 0) = true := by first | decide | simpa using HWN.out
        go_wp2_with (fail)
        go_fit (includeBegun_any (w := w3))
        rintro e w8 ⟨rfl, hb8⟩
        have HB8 := hide (below_trans HB3.out hb8)
        have HR8 := hide (And.intro (belowRow hb8 HR3.out.1) (And.intro (belowRow hb8 HR3.out.2.1) (And.intro (belowRow hb8 HR3.out.2.2.1) (belowRow hb8 HR3.out.2.2.2))))
        have HI8 := hide (below_trans HI3.out hb8)
        clear hb8
        go_wp2_with (fail)
        go_fit (wordBegun_any (Ht.out.below HB8.out))
        rintro e w9 ⟨rfl, hb9⟩
        have HB9 := hide (below_trans HB8.out hb9)
        have HR9 := hide (And.intro (belowRow hb9 HR8.out.1) (And.intro (belowRow hb9 HR8.out.2.1) (And.intro (belowRow hb9 HR8.out.2.2.1) (belowRow hb9 HR8.out.2.2.2))))
        have HI9 := hide (below_trans HI8.out hb9)
        clear hb9 HB8 HR8 HI8 HB3 HR3 HI3
        have x0 := cell_of_row _ _ 0 _ _ _ HR9.out.2.2.2
        have x1 := cell_of_row _ _ 1 _ _ _ HR9.out.2.2.2
        clear p0 p1 p2 p3
        go_wp2
        go_ret
        exact ⟨by first | rfl | simp, HB9.out⟩
    · have HWN := hide hzb
      have d2 : (cb == 0) = false := by simpa using hzb
      clear hzb
      have HCE : Hid (ci = cb) := hide (by rw [HE.out, if_neg (by simpa using HZ.out), if_pos HWN.out])
      have HN : Hid (chkI A B ≠ 0) := hide (by rw [HCI.out, HCE.out]; exact HWN.out)
      obtain ⟨eb, eh, el⟩ := HM.out.bad HN.out
      subst eb
      cases eh
      cases el
      have hsame : (ci != cb) = false := by simpa using HCE.out
      have hnz : ((cb : Int) != 0) = true := by first | decide | simpa using HWN.out
      go_wp2_with (fail)
      go_fit (includeBegun_any (w := w3))
      rintro e w8 ⟨rfl, hb8⟩
      have HB8 := hide (below_trans HB3.out hb8)
      have HR8 := hide (And.intro (belowRow hb8 HR3.out.1) (And.intro (belowRow hb8 HR3.out.2.1) (And.intro (belowRow hb8 HR3.out.2.2.1) (belowRow hb8 HR3.out.2.2.2))))
      have HI8 := hide (below_trans HI3.out hb8)
      clear hb8
      go_wp2_with (fail)
      go_fit (wordBegun_any (Ht.out.below HB8.out))
      rintro e w9 ⟨rfl, hb9⟩
      have HB9 := hide (below_trans HB8.out hb9)
      have HR9 := hide (And.intro (belowRow hb9 HR8.out.1) (And.intro (belowRow hb9 HR8.out.2.1) (And.intro (belowRow hb9 HR8.out.2.2.1) (belowRow hb9 HR8.out.2.2.2))))
      have HI9 := hide (below_trans HI8.out hb9)
      clear hb9 HB8 HR8 HI8 HB3 HR3 HI3
      have x0 := cell_of_row _ _ 0 _ _ _ HR9.out.2.2.2
      have x1 := cell_of_row _ _ 1 _ _ _ HR9.out.2.2.2
      clear p0 p1 p2 p3
      go_wp2
      go_ret
      exact ⟨by first | rfl | simp, HB9.out⟩
  · have HWN := hide hz
    have d1 : (ca == 0) = false := by simpa using hz
    clear hz
    have HCE : Hid (ci = ca) := hide (by rw [HE.out, if_pos HWN.out])
    have HN : Hid (chkI A B ≠ 0) := hide (by rw [HCI.out, HCE.out]; exact HWN.out)
    obtain ⟨eb, eh, el⟩ := HM.out.bad HN.out
    subst eb
    cases eh
    cases el
    have hsame : (ci != ca) = false := by simpa using HCE.out
    have hnz : ((ca : Int) != 0) = true := by first | decide | simpa using HWN.out
    go_wp2_with (fail)
    go_fit (includeBegun_any (w := w2))
    rintro e w8 ⟨rfl, hb8⟩
    have HB8 := hide (below_trans HB2.out hb8)
    have HR8 := hide (And.intro (belowRow hb8 HR2.out.1) (And.intro (belowRow hb8 HR2.out.2.1) (And.intro (belowRow hb8 HR2.out.2.2.1) (belowRow hb8 HR2.out.2.2.2))))
    have HI8 := hide (below_trans HI2.out hb8)
    clear hb8
    go_wp2_with (fail)
    go_fit (wordBegun_any (Ht.out.below HB8.out))
    rintro e w9 ⟨rfl, hb9⟩
    have HB9 := hide (below_trans HB8.out hb9)
    have HR9 := hide (And.intro (belowRow hb9 HR8.out.1) (And.intro (belowRow hb9 HR8.out.2.1) (And.intro (belowRow hb9 HR8.out.2.2.1) (belowRow hb9 HR8.out.2.2.2))))
    have HI9 := hide (below_trans HI8.out hb9)
    clear hb9 HB8 HR8 HI8 HB2 HR2 HI2
    have x0 := cell_of_row _ _ 0 _ _ _ HR9.out.2.2.2
    have x1 := cell_of_row _ _ 1 _ _ _ HR9.out.2.2.2
    go_wp2
    go_ret
    exact ⟨by first | rfl | simp, HB9.out⟩

end Go.Proofs.YtpiacnnifdjlkabDoor

/-
  IncludeSame of the statements: true, whatever it is handed.
-/
namespace Go.Proofs.YtpiacnnifdjlkabDoor
open Go.RowKit Go.Sort

/-- What is the same takes the same. -/
theorem same_takes {A B : Aut} {hs ls : List Int} {p q : Bool} (hc : chkI A B = 0) (h1 : InL A B A.m.toNat) (h2 : InL B A B.m.toNat) (hp : p = true ↔ tkE A hs ls = 0 ∧ TakesA A hs ls) (hq : q = true ↔ tkE B hs ls = 0 ∧ TakesA B hs ls) : p = q := by
  obtain ⟨e1, i1⟩ := tell_no (hs := hs) (ls := ls) hc h1
  obtain ⟨e2, i2⟩ := tell_no (hs := hs) (ls := ls) (chkI_symm hc) h2
  rw [Bool.eq_iff_iff, hp, hq]
  exact ⟨fun h => ⟨by rw [← e1]; exact h.1, i1 h⟩, fun h => ⟨by rw [← e2]; exact h.1, i2 h⟩⟩

set_option maxRecDepth 100000 in
set_option maxHeartbeats 4000000 in
theorem includeSame_any {w : World} {va vb hv0 lv0 : Value} {A B : Aut} {hs ls : List Int} (hA : AutV w va A) (hB : AutV w vb B) (hh : IntSl w hv0 hs) (hl : IntSl w lv0 ls) (ht : Tab w) :
    Calls Tryd.prog 6 #[va, vb, .agg #[hv0, lv0]] w fun e w' => e = .returned (.bool true) ∧ Below w.heap.size w w' := by
  have Ht := hide ht
  have HSa := hide (fun W (hb : Below w.heap.size w W) => same_any (hA.below hb) (hB.below hb))
  have HI1 := hide (fun W (hb : Below w.heap.size w W) => included_any (hA.below hb) (hB.below hb))
  have HI2 := hide (fun W (hb : Below w.heap.size w W) => included_any (hB.below hb) (hA.below hb))
  have HTA := hide (fun W (hb : Below w.heap.size w W) => takes_any (hA.below hb) (hh.below hb) (hl.below hb) (ht.below hb))
  have HTB := hide (fun W (hb : Below w.heap.size w W) => takes_any (hB.below hb) (hh.below hb) (hl.below hb) (ht.below hb))
  obtain ⟨fv, gv, sv, rfl, h1, h2, h3⟩ := hA
  obtain ⟨a1, c1, rfl, -⟩ := h1
  obtain ⟨a2, c2, rfl, -⟩ := h2
  obtain ⟨a3, c3, rfl, -⟩ := h3
  obtain ⟨fv, gv, sv, rfl, h1, h2, h3⟩ := hB
  obtain ⟨a4, c4, rfl, -⟩ := h1
  obtain ⟨a5, c5, rfl, -⟩ := h2
  obtain ⟨a6, c6, rfl, -⟩ := h3
  generalize A.first.length = l1 at *
  generalize A.good.length = l2 at *
  generalize A.steps.length = l3 at *
  generalize B.first.length = l4 at *
  generalize B.good.length = l5 at *
  generalize B.steps.length = l6 at *
  obtain ⟨a7, c7, rfl, -⟩ := hh
  obtain ⟨a8, c8, rfl, -⟩ := hl
  clear ht
  generalize A.n = nA at *
  generalize hmA : A.m = mA at *
  generalize B.n = nB at *
  generalize hmB : B.m = mB at *
  have HMA := hide hmA
  have HMB := hide hmB
  clear hmA hmB
  generalize hs.length = l7 at *
  generalize ls.length = l8 at *
  have hRR := three_alloc w (Obj.cells #[Value.int .i64 nA, .int .i64 mA, .slice a1 l1 c1, .slice a2 l2 c2, .slice a3 l3 c3] 26) (Obj.cells #[Value.int .i64 nB, .int .i64 mB, .slice a4 l4 c4, .slice a5 l5 c5, .slice a6 l6 c6] 26) (Obj.cells #[Value.slice a7 l7 c7, .slice a8 l8 c8] 28)
  have HR := hide hRR
  have HLa := hide (auto_load hRR.1 rfl)
  have HLb := hide (auto_load hRR.2.1 rfl)
  clear hRR
  have HW : Hid (Below w.heap.size w (((w.alloc (Obj.cells #[Value.int .i64 nA, .int .i64 mA, .slice a1 l1 c1, .slice a2 l2 c2, .slice a3 l3 c3] 26)).alloc (Obj.cells #[Value.int .i64 nB, .int .i64 mB, .slice a4 l4 c4, .slice a5 l5 c5, .slice a6 l6 c6] 26)).alloc (Obj.cells #[Value.slice a7 l7 c7, .slice a8 l8 c8] 28))) := hide (by repeat (first | exact Below.refl _ _ | assumption | refine below_drewN ?_ _ | refine Below.drew ?_ | refine Below.alloc ?_ (by simp <;> omega) _ | refine below_trans ?_ (by assumption)))
  go_enter Tryd.func6, Tryd.ntmps6
  go_upto_region 1 with (fail)
  generalize (((w.alloc (Obj.cells #[Value.int .i64 nA, .int .i64 mA, .slice a1 l1 c1, .slice a2 l2 c2, .slice a3 l3 c3] 26)).alloc (Obj.cells #[Value.int .i64 nB, .int .i64 mB, .slice a4 l4 c4, .slice a5 l5 c5, .slice a6 l6 c6] 26)).alloc (Obj.cells #[Value.slice a7 l7 c7, .slice a8 l8 c8] 28)) = W0 at *
  go_wp2_with (first | (show wpList _ _ _ (⟨some 20, _, _, _, _, _⟩ :: _) _ _; refine wpl_load HLa.out rfl rfl rfl ?_) | (show wpList _ _ _ (⟨some 21, _, _, _, _, _⟩ :: _) _ _; refine wpl_load HLb.out rfl rfl rfl ?_))
  go_fit (HSa.out W0 HW.out)
  rintro e w1 ⟨s, rfl, hS⟩
  have HS := hide hS
  have HB1 := hide (below_trans HW.out hS.bl)
  have HR1 := hide (And.intro (belowRow hS.bl HR.out.1) (And.intro (belowRow hS.bl HR.out.2.1) (belowRow hS.bl HR.out.2.2)))
  clear hS HR HLa HLb HSa HW
  have HL1 := hide (auto_load HR1.out.1 rfl)
  have HL2 := hide (auto_load HR1.out.2.1 rfl)
  go_wp2_with (first | (show wpList _ _ _ (⟨some 26, _, _, _, _, _⟩ :: _) _ _; refine wpl_load HL1.out rfl rfl rfl ?_) | (show wpList _ _ _ (⟨some 27, _, _, _, _, _⟩ :: _) _ _; refine wpl_load HL2.out rfl rfl rfl ?_))
  go_fit (HI1.out w1 HB1.out)
  rintro e w2 ⟨x, hv, lv, rfl, hM⟩
  obtain ⟨⟨ah, nh, ch, rfl⟩, ⟨al, nl, cl, rfl⟩⟩ := hM.form
  have HM1 := hide hM
  have hbn := below_new w2 (Obj.cells #[Value.slice ah nh ch, .slice al nl cl] 28)
  have HB2 := hide (below_trans (below_trans HB1.out hM.bl) hbn)
  have HR2 := hide (And.intro (belowRow hbn (belowRow hM.bl HR1.out.1)) (And.intro (belowRow hbn (belowRow hM.bl HR1.out.2.1)) (belowRow hbn (belowRow hM.bl HR1.out.2.2))))
  clear hM hbn HR1 HL1 HL2 HI1 HB1
  have HL1 := hide (auto_load HR2.out.1 rfl)
  have HL2 := hide (auto_load HR2.out.2.1 rfl)
  go_wp2_with (first | (show wpList _ _ _ (⟨some 33, _, _, _, _, _⟩ :: _) _ _; refine wpl_load HL2.out rfl rfl rfl ?_) | (show wpList _ _ _ (⟨some 34, _, _, _, _, _⟩ :: _) _ _; refine wpl_load HL1.out rfl rfl rfl ?_))
  generalize w2.alloc (Obj.cells #[Value.slice ah nh ch, .slice al nl cl] 28) = W2 at *
  go_fit (HI2.out W2 HB2.out)
  rintro e w3 ⟨y, hv', lv', rfl, hM⟩
  obtain ⟨⟨bh, mh, dh, rfl⟩, ⟨bl, ml, dl, rfl⟩⟩ := hM.form
  have HM2 := hide hM
  have hbn := below_new w3 (Obj.cells #[Value.slice bh mh dh, .slice bl ml dl] 28)
  have HB3 := hide (below_trans (below_trans HB2.out hM.bl) hbn)
  have HR3 := hide (And.intro (belowRow hbn (belowRow hM.bl HR2.out.1)) (And.intro (belowRow hbn (belowRow hM.bl HR2.out.2.1)) (belowRow hbn (belowRow hM.bl HR2.out.2.2))))
  clear hM hbn HR2 HL1 HL2 HI2 HB2
  generalize hci : chkI A B = ci at *
  have HCI := hide hci
  clear hci
  by_cases hc : ci = 0
  · have hcI : chkI A B = 0 := HCI.out.trans hc
    have hcJ := chkI_symm hcI
    have hx := HM1.out.iff hcI
    have hy := HM2.out.iff hcJ
    have hsx := (HS.out.good hcI)
    have HQ := hide (fun (p q : Bool) => same_takes (A := A) (B := B) (hs := hs) (ls := ls) (p := p) (q := q) hcI)
    rw [← hx, ← hy] at hsx
    have HXY := hide (And.intro hx hy)
    have hse : s = (x && y) := by rw [Bool.eq_iff_iff, hsx]; simp
    have HJ := hide hcJ
    subst hc
    subst hse
    rw [HJ.out]
    clear hcI hcJ hx hy hsx HS HM1 HM2
    go_wp2_with (fail)
    generalize w3.alloc (Obj.cells #[Value.slice bh mh dh, .slice bl ml dl] 28) = W3 at *
    go_fit (includeBegun_any (w := W3))
    rintro e w8 ⟨rfl, hb8⟩
    have HB8 := hide (below_trans HB3.out hb8)
    have HR8 := hide (And.intro (belowRow hb8 HR3.out.1) (And.intro (belowRow hb8 HR3.out.2.1) (belowRow hb8 HR3.out.2.2)))
    clear hb8 HB3 HR3
    go_wp2_with (fail)
    go_fit (wordBegun_any (Ht.out.below HB8.out))
    rintro e w9 ⟨rfl, hb9⟩
    have HB9 := hide (below_trans HB8.out hb9)
    have HR9 := hide (And.intro (belowRow hb9 HR8.out.1) (And.intro (belowRow hb9 HR8.out.2.1) (belowRow hb9 HR8.out.2.2)))
    clear hb9 HB8 HR8

    have q0 := cell_of_row _ _ 0 _ _ _ HR9.out.2.2
    have q1 := cell_of_row _ _ 1 _ _ _ HR9.out.2.2
    have HL9 := hide (auto_load HR9.out.1 rfl)
    cases x <;> cases y
    all_goals
      go_wp2_with (first | (show wpList _ _ _ (⟨some 69, _, _, _, _, _⟩ :: _) _ _; refine wpl_load HL9.out rfl rfl rfl ?_))
      go_fit (HTA.out w9 HB9.out)
      rintro e w10 ⟨p, rfl, hp, hb10⟩
      have HP := hide hp
      have HB10 := hide (below_trans HB9.out hb10)
      have HR10 := hide (And.intro (belowRow hb10 HR9.out.2.1) (belowRow hb10 HR9.out.2.2))
      clear hp hb10 q0 q1 HB9 HR9 HL9 HTA
      have HL10 := hide (auto_load HR10.out.1 rfl)
      have q0 := cell_of_row _ _ 0 _ _ _ HR10.out.2
      have q1 := cell_of_row _ _ 1 _ _ _ HR10.out.2
      go_wp2_with (first | (show wpList _ _ _ (⟨some 75, _, _, _, _, _⟩ :: _) _ _; refine wpl_load HL10.out rfl rfl rfl ?_))
      go_fit (HTB.out w10 HB10.out)
      rintro e w11 ⟨q, rfl, hq, hb11⟩
      have HPQ := hide (And.intro HP.out hq)
      have HB11 := hide (below_trans HB10.out hb11)
      clear hq hb11 q0 q1 HB10 HR10 HL10 HTB HP
      generalize tkE A hs ls = te at *
      generalize tkE B hs ls = tf at *
    all_goals first
      | (have epq : p = q := HQ.out p q (HXY.out.1.1 (by first | rfl | trivial)) (HXY.out.2.1 (by first | rfl | trivial)) HPQ.out.1 HPQ.out.2
         subst epq
         by_cases h1 : te = 0
         · have d1 : (te != 0) = false := by simpa using h1
           clear h1
           by_cases h2 : tf = 0
           · have d2 : (tf != 0) = false := by simpa using h2
             clear h2
             have hpp : (p == p) = true := by simp
             go_wp2
             go_ret
             exact ⟨by first | rfl | simp, HB11.out⟩
           · have d2 : (tf != 0) = true := by simpa using h2
             clear h2
             go_wp2
             go_ret
             exact ⟨by first | rfl | simp, HB11.out⟩
         · have d1 : (te != 0) = true := by simpa using h1
           clear h1
           go_wp2
           go_ret
           exact ⟨by first | rfl | simp, HB11.out⟩)
      | (by_cases h1 : te = 0
         · have d1 : (te != 0) = false := by simpa using h1
           clear h1
           by_cases h2 : tf = 0
           · have d2 : (tf != 0) = false := by simpa using h2
             clear h2
             go_wp2
             go_ret
             exact ⟨by first | rfl | simp, HB11.out⟩
           · have d2 : (tf != 0) = true := by simpa using h2
             clear h2
             go_wp2
             go_ret
             exact ⟨by first | rfl | simp, HB11.out⟩
         · have d1 : (te != 0) = true := by simpa using h1
           clear h1
           go_wp2
           go_ret
           exact ⟨by first | rfl | simp, HB11.out⟩)
  · have hs0 : s = false := HS.out.bad (by rw [HCI.out]; exact hc)
    subst hs0
    have d1 : (ci != 0) = true := by simpa using hc
    have d2 : (ci == ci) = true := by simp
    clear hc
    generalize chkI B A = cj at *
    go_wp2_with (fail)
    generalize w3.alloc (Obj.cells #[Value.slice bh mh dh, .slice bl ml dl] 28) = W3 at *
    go_fit (includeBegun_any (w := W3))
    rintro e w8 ⟨rfl, hb8⟩
    have HB8 := hide (below_trans HB3.out hb8)
    have HR8 := hide (And.intro (belowRow hb8 HR3.out.1) (And.intro (belowRow hb8 HR3.out.2.1) (belowRow hb8 HR3.out.2.2)))
    clear hb8 HB3 HR3
    go_wp2_with (fail)
    go_fit (wordBegun_any (Ht.out.below HB8.out))
    rintro e w9 ⟨rfl, hb9⟩
    have HB9 := hide (below_trans HB8.out hb9)
    have HR9 := hide (And.intro (belowRow hb9 HR8.out.1) (And.intro (belowRow hb9 HR8.out.2.1) (belowRow hb9 HR8.out.2.2)))
    clear hb9 HB8 HR8

    go_wp2
    go_ret
    exact ⟨by first | rfl | simp, HB9.out⟩

end Go.Proofs.YtpiacnnifdjlkabDoor

namespace Go.Proofs.YtpiacnnifdjlkabDoor
open Go.ChangeShapes Go.WideShapes Go.ChangeAt Go.RowKit Go.Deep
set_option maxRecDepth 100000

theorem gTab64Type : (Tryd.prog.globals[0]?).map (·.type) = some 176 := by kernel_rfl
theorem cellsTab64 : Tryd.prog.cellsOf 176 = 64 := by kernel_rfl
theorem cellsU8 : Tryd.prog.cellsOf 5 = 1 := by kernel_rfl

/-- A block with these integers in its cells. -/
def layInts (k : IntKind) (zs : List Int) : Obj → Obj
  | .cells _ t frozen => .cells (zs.map fun z => Value.int k z).toArray t frozen
  | o => o

/-- A world with the table laid as its initialiser lays it. -/
def layTab64 (W : World) : World := { W with heap := W.heap.modify 0 (layInts .u8 tab64) }

def wordTells_args : Array Value := #[.agg #[.slice .none 0 0, .slice .none 0 0], .int .i64 0, .int .i64 0]

end Go.Proofs.YtpiacnnifdjlkabDoor
