/-
  What formula.Negate answers.
-/
import Derived.Test.YtphoifgcmpjnoaaDoorFi
import Derived.Test.YtphoifgcmpjnoaaDoorEk
namespace Go.Proofs.YtphoifgcmpjnoaaDoor
open Go.RowKit Go.Sort

theorem NodeSl.block_lt {w : World} {v : Value} {F : List Nd} (h : NodeSl w v F) (hne : F ≠ []) : ∀ b, v.ownBlock = some b → b < w.heap.size := by
  obtain ⟨a, cap, rfl, hm, h, hn⟩ := h
  rcases h with h | ⟨b, off, rfl, hc⟩
  · exact absurd h hne
  · intro k hk
    have e : b = k := by simpa [Value.ownBlock] using hk
    subst e
    exact World.block_lt_of_cell? w _ (hc 0 (List.length_pos_iff.2 hne)).1

theorem tn_begin {w : World} {r : Nat} {fv : Value} {F : List Nd} (hs : SgMap w r) (hn : NodeSl w fv F) (hne : F ≠ []) (ty : Nat) : TN (w.alloc (.cells #[.map (some r), fv, .slice none 0 0] ty)) w.heap.size r (w.heap.size + 1) fv F none 0 [] := by
  have hb : Below w.heap.size w (w.alloc (.cells #[.map (some r), fv, .slice none 0 0] ty)) := below_new _ _
  have hrl := hs.lt
  refine ⟨?_, ?_, ?_, ?_, hs.below hb, hn.below hb, ⟨rfl, Or.inl ⟨rfl, rfl⟩⟩, ?_, by omega, by omega, by omega, fun b h => ?_⟩
  · exact cell_top _ _ _ _ _ _ rfl rfl
  · exact cell_top _ _ _ _ _ _ rfl rfl
  · exact cell_top _ _ _ _ _ _ rfl rfl
  · exact World.frozen?_alloc_new _ _ _ _
  · simp
  · have := hn.block_lt hne b h
    omega

theorem neg_below {w w1 w2 w3 : World} {o : Obj} (hb1 : Below w.heap.size w w1) (hb2 : Below w1.heap.size w1 w2) (h : GT w2.heap.size none (w2.alloc o) w3) : Below w.heap.size w w3 := by
  have hb := below_trans (below_trans hb1 hb2) (below_new w2 o)
  have h1 := hb1.size
  have h2 := hb2.size
  refine ⟨h.os.trans hb.os, h.tape.trans hb.tape, h.output.trans hb.output, Nat.le_trans hb.size h.size, fun k hk => ?_⟩
  exact (h.block k (Nat.lt_of_lt_of_le hk hb.size) (by omega) (fun e => by cases e)).trans (hb.block k hk)

set_option maxRecDepth 100000 in
set_option maxHeartbeats 2000000 in
theorem negate_any {w : World} {fv : Value} {F : List Nd} (hF : NodeSl w fv F) :
    Calls Tryd.prog 35 #[fv] w fun e w' => ∃ v, e = .returned (.tuple #[v, .int .i64 (chkNeg F)]) ∧ (chkNeg F = 0 → NodeSl w' v (negF F)) ∧ (chkNeg F ≠ 0 → v = .slice none 0 0) ∧ Below w.heap.size w w' := by
  have HC : Hid (∀ W v G, NodeSl W v G → Calls Tryd.prog 40 #[v] W fun e w' => e = .returned (.int .i64 (chkF G)) ∧ Below W.heap.size W w') := hide fun W v G h => formulaCheck_any h
  have HV := hide hF
  obtain ⟨fa, fc, rfl, hm, -⟩ := hF
  by_cases hq : chkF F = 0
  · have bq : (chkF F != 0) = false := by simpa using hq
    obtain ⟨hM0, h12, hall⟩ := chkF_ok hq
    have hcn : chkNeg F = chkF (negF F) := by unfold chkNeg; rw [if_pos hq]
    rw [hcn]
    have hpw : 2 ^ (F.length - 1 + 2) ≤ 2 ^ 13 := Nat.pow_le_pow_right (by decide) (by omega)
    have hi0 : (F.length : Int) - 1 = (F.length - 1 : Nat) := by omega
    have HTurn := hide (turn_any hall (F.length - 1) (by omega))
    clear hcn
    generalize hcq : chkF (negF F) = s at *
    have HS := hide hcq
    clear hcq
    go_enter Tryd.func35, Tryd.ntmps35
    go_wp2_with (fail)
    refine (HC.out _ _ F HV.out).mono ?_
    rintro e w1 ⟨rfl, hb1⟩
    go_wp2_with (fail)
    refine (signs_any _).mono ?_
    rintro e w2 ⟨r, rfl, hr, hr0, hb2⟩
    have hrl := (Array.getElem?_eq_some_iff.1 hr).1
    go_wp2_with (fail)
    have hne : F ≠ [] := fun h => by rw [h] at hM0; simp at hM0
    have hT0 := tn_begin (w := w2) (r := r) (F := F) hr ((HV.out.below hb1).below hb2) hne 111
    refine (HTurn.out _ _ _ _ _ _ _ _ true hT0 (by simp; omega)).mono ?_
    rintro e w3 ⟨rfl, a3, c3, ht3, hg3, hn3⟩
    have ht3' : TN w3 w2.heap.size r (w2.heap.size + 1) (.slice fa F.length fc) F a3 c3 (negF F) := ht3
    have htc : w3.cell? ⟨w2.heap.size, 2, none⟩ = some (.slice a3 (negF F).length c3) := ht3'.c2
    have HT3 := hide ht3'
    have HB3 : Hid (Below w.heap.size w w3) := hide (neg_below hb1 hb2 hg3)
    clear ht3 ht3' hT0 hn3 hg3 hi0 hpw
    by_cases hs0 : s = 0
    · subst hs0
      go_wp2_with (fail)
      refine (HC.out _ _ (negF F) (nodeSl_of_owns HT3.out.own)).mono ?_
      rintro e w4 ⟨rfl, hb4⟩
      rw [HS.out]
      have htc4 := cell_keep htc hb4
      go_wp2_with (fail)
      go_ret2
      exact ⟨.slice a3 (negF F).length c3, rfl, (nodeSl_of_owns HT3.out.own).below hb4, below_trans HB3.out hb4⟩
    · have bs : (s != 0) = true := by simpa using hs0
      go_wp2_with (fail)
      refine (HC.out _ _ (negF F) (nodeSl_of_owns HT3.out.own)).mono ?_
      rintro e w4 ⟨rfl, hb4⟩
      rw [HS.out]
      go_wp2_with (fail)
      go_ret2
      exact ⟨.slice none 0 0, rfl, fun h => absurd h hs0, fun _ => rfl, below_trans HB3.out hb4⟩
  · have bq : (chkF F != 0) = true := by simpa using hq
    have hcn : chkNeg F = chkF F := by unfold chkNeg; rw [if_neg hq]
    rw [hcn]
    have HQ := hide hq
    clear hcn hq
    generalize hcq : chkF F = s at *
    have HS := hide hcq
    clear hcq
    go_enter Tryd.func35, Tryd.ntmps35
    go_wp2_with (fail)
    refine (HC.out _ _ F HV.out).mono ?_
    rintro e w1 ⟨rfl, hb1⟩
    rw [HS.out]
    go_wp2_with (fail)
    go_ret2
    exact ⟨_, rfl, fun h => absurd h HQ.out, fun _ => rfl, hb1⟩
end Go.Proofs.YtphoifgcmpjnoaaDoor
