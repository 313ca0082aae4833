/-
  A formula as it lies in memory; what countTemporal and formula.Check answer.
-/
import Derived.Test.YtpiacnnifdjlkaaEb
namespace Go.Proofs.Ytpiacnnifdjlkaa
open Go.RowKit Go.Sort

/-- A slice of nodes that reads as this list. -/
def NodeSl (w : World) (v : Value) (zs : List Nd) : Prop :=
  ∃ a cap, v = .slice a zs.length cap ∧ zs.length ≤ maxLen ∧ (zs = [] ∨ ∃ b off, a = some ⟨b, off, none⟩ ∧ ∀ i, i < zs.length → w.cell? ⟨b, off + i * 4, none⟩ = some (.int .i64 (zs.getD i nd0).k) ∧ w.cell? ⟨b, off + i * 4 + 1, none⟩ = some (.int .i64 (zs.getD i nd0).a) ∧ w.cell? ⟨b, off + i * 4 + 2, none⟩ = some (.int .i64 (zs.getD i nd0).b) ∧ w.cell? ⟨b, off + i * 4 + 3, none⟩ = some (.int .i64 (zs.getD i nd0).n)) ∧ (a = none → cap = 0) ∧ zs.length ≤ cap

theorem NodeSl.below {w w' : World} {v : Value} {zs : List Nd} (h : NodeSl w v zs) (hb : Below w.heap.size w w') : NodeSl w' v zs := by
  obtain ⟨a, cap, rfl, hm, h, hn⟩ := h
  refine ⟨a, cap, rfl, hm, ?_, hn⟩
  rcases h with h | ⟨b, off, rfl, hc⟩
  · exact Or.inl h
  · refine Or.inr ⟨b, off, rfl, fun i hi => ?_⟩
    obtain ⟨h1, h2, h3, h4⟩ := hc i hi
    refine ⟨?_, ?_, ?_, ?_⟩
    · rw [hb.cell (World.block_lt_of_cell? w _ h1)]; exact h1
    · rw [hb.cell (World.block_lt_of_cell? w _ h2)]; exact h2
    · rw [hb.cell (World.block_lt_of_cell? w _ h3)]; exact h3
    · rw [hb.cell (World.block_lt_of_cell? w _ h4)]; exact h4

def tmpB (k : Int) : Bool := decide (6 ≤ k ∧ k ≤ 8)

def cntT (F : List Nd) : Nat := (F.filter fun x => tmpB x.k).length

theorem cntT_snoc (F : List Nd) (m : Nat) (hm : m < F.length) : cntT (F.take (m + 1)) = cntT (F.take m) + if tmpB (F.getD m nd0).k = true then 1 else 0 := by
  have e : F.take (m + 1) = F.take m ++ [F.getD m nd0] := by
    rw [List.take_succ_eq_append_getElem hm]
    simp [List.getD, hm]
  unfold cntT
  rw [e, List.filter_append, List.length_append]
  generalize F.getD m nd0 = x
  cases h : tmpB x.k <;> simp [h]

theorem cntT_le (F : List Nd) : cntT F ≤ F.length := List.length_filter_le _ _

theorem sgOf_temp (k : Int) : ((sgOf k).getD sg0).temp = tmpB k := by
  unfold sgOf tmpB
  by_cases h1 : k = 1
  · subst h1; rfl
  by_cases h2 : k = 2
  · subst h2; rfl
  by_cases h3 : k = 3
  · subst h3; rfl
  by_cases h4 : k = 4
  · subst h4; rfl
  by_cases h5 : k = 5
  · subst h5; rfl
  by_cases h6 : k = 6
  · subst h6; rfl
  by_cases h7 : k = 7
  · subst h7; rfl
  by_cases h8 : k = 8
  · subst h8; rfl
  simp [h1, h2, h3, h4, h5, h6, h7, h8, sg0]; omega

set_option maxRecDepth 100000 in
set_option maxHeartbeats 1000000 in
theorem countTemporal_any {w : World} {v : Value} {F : List Nd} {r : Nat} (hv : NodeSl w v F) (hr : SgMap w r) :
    Calls Try.prog 20 #[v, .map (some r)] w fun e w' => e = .returned (.int .i64 (cntT F)) ∧ Below w.heap.size w w' := by
  have HL : Hid (∀ w1, Below w.heap.size w w1 → ∀ k, _) := fun w1 hb k => (run_lookup_sign (hr.below hb) k).1
  obtain ⟨a, cap, rfl, hm, hc, -⟩ := hv
  unfold maxLen at hm
  have hfd : ∀ (a b c d e : Value) (w : World), (Instr.field 53 (.agg #[a, b, c, d, e]) 3).run Try.prog w = .ok d w := fun _ _ _ _ _ _ => rfl
  go_enter Try.func20, Try.ntmps20
  go_wp2_with (fail)
  go_loopw [5, 10] (fun c i wr => ∃ m : Nat, m ≤ F.length ∧ i = .int .i64 m ∧ c = .int .i64 (cntT (F.take m)) ∧ Below w.heap.size w wr) (fun _ i _ => F.length - (intOf i).toNat)
  case atStart => exact ⟨0, Nat.zero_le _, rfl, rfl, Below.refl _ _⟩
  case round =>
    obtain ⟨m, hml, rfl, rfl, hbw⟩ := hrel
    by_cases hlt : m < F.length
    · rcases hc with hc | ⟨b, off, rfl, hc⟩
      · subst hc; simp at hlt
      obtain ⟨c0, c1, c2, c3⟩ := hc m hlt
      rw [← hbw.cell (World.block_lt_of_cell? w _ c0)] at c0
      rw [← hbw.cell (World.block_lt_of_cell? w _ c1)] at c1
      rw [← hbw.cell (World.block_lt_of_cell? w _ c2)] at c2
      rw [← hbw.cell (World.block_lt_of_cell? w _ c3)] at c3
      have hs := cntT_snoc F m hlt
      have hl1 := cntT_le (F.take m)
      have hl2 : (F.take m).length ≤ m := List.length_take_le _ _
      generalize hx : F.getD m nd0 = x at *
      have hlk := HL.out _ (below_trans hbw (below_new wr (Obj.cells #[.int .i64 x.k, .int .i64 x.a, .int .i64 x.b, .int .i64 x.n] 44))) x.k
      have ht := sgOf_temp x.k
      clear hc hx
      obtain ⟨k, xa, xb, xn⟩ := x
      dsimp only at *
      unfold sgV at hlk
      rw [ht] at hlk
      clear ht
      generalize (sgOf k).getD sg0 = s at *
      have Hs : Hid _ := hs
      clear hs
      generalize hct : cntT (F.take m) = c at *
      have Hct : Hid (cntT (F.take m) = c) := hct
      clear hct
      have hbn := below_trans hbw (below_new wr (Obj.cells #[.int .i64 k, .int .i64 xa, .int .i64 xb, .int .i64 xn] 44))
      have Hbn : Hid _ := hbn
      clear hbn
      cases ht : tmpB k with
      | true =>
        rw [ht] at hlk Hs
        go_wp2_with (fail)
        go_roundw
        case rel => exact ⟨m + 1, by omega, by go_num, by rw [Hs.out]; rfl, Hbn.out⟩
        case measure => simp [intOf]; omega
      | false =>
        rw [ht] at hlk Hs
        go_wp2_with (fail)
        go_roundw
        case rel => exact ⟨m + 1, by omega, by go_num, by rw [Hs.out]; rfl, Hbn.out⟩
        case measure => simp [intOf]; omega
    · go_wp2_with (fail)
      go_ret
      exact ⟨congrArg (fun z : Nat => Ending.returned (.int .i64 (z : Int))) (by rw [List.take_of_length_le (by omega)]), hbw⟩
end Go.Proofs.Ytpiacnnifdjlkaa
