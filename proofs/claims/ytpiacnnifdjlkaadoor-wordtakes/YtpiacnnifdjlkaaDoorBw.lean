/-
  What the function that takes hands to its outer searches answers.
-/
import Derived.Test.YtpiacnnifdjlkaaDoorBv
namespace Go.Proofs.YtpiacnnifdjlkaaDoor
open Go.RowKit Go.Sort

/-- A map lies there. -/
def IsMap (w : World) (k : Nat) : Prop := ∃ es c, w.heap[k]? = some (.map es c)

theorem MetAt.isMap {w : World} {r : Nat} {M : Nat → Nat → Nat} (h : MetAt w r M) : IsMap w r := let ⟨_, es, c, hr, _⟩ := h; ⟨es, c, hr⟩

theorem isMap_cell {w : World} {k : Nat} (h : IsMap w k) {a : Addr} {v : Value} (ha : w.cell? a = some v) : a.block ≠ k := by
  rintro rfl
  obtain ⟨es, c, h⟩ := h
  simp [World.cell?, h] at ha

theorem Fr.cellM {L : List Nat} {w w' : World} (h : Fr L w w') (hL : ∀ k, k ∈ L → IsMap w k) {a : Addr} {v : Value} (ha : w.cell? a = some v) : w'.cell? a = some v := by
  rw [h.cell (World.block_lt_of_cell? w _ ha) (fun hm => isMap_cell (hL _ hm) ha rfl)]
  exact ha

theorem IntSl.frM {L : List Nat} {w w' : World} {v : Value} {zs : List Int} (hv : IntSl w v zs) (h : Fr L w w') (hL : ∀ k, k ∈ L → IsMap w k) : IntSl w' v zs := by
  obtain ⟨a, cap, rfl, hm, h1, hn⟩ := hv
  refine ⟨a, cap, rfl, hm, ?_, hn⟩
  rcases h1 with h1 | ⟨b, off, rfl, hc⟩
  · exact Or.inl h1
  · exact Or.inr ⟨b, off, rfl, fun i hi => h.cellM hL (hc i hi)⟩

theorem BoolSl.frM {L : List Nat} {w w' : World} {v : Value} {zs : List Bool} (hv : BoolSl w v zs) (h : Fr L w w') (hL : ∀ k, k ∈ L → IsMap w k) : BoolSl w' v zs := by
  obtain ⟨a, cap, rfl, hm, h1, hn⟩ := hv
  refine ⟨a, cap, rfl, hm, ?_, hn⟩
  rcases h1 with h1 | ⟨b, off, rfl, hc⟩
  · exact Or.inl h1
  · exact Or.inr ⟨b, off, rfl, fun i hi => h.cellM hL (hc i hi)⟩

theorem RnOk.frM {L : List Nat} {w w' : World} {R : Rn} {D : Nat → Nat → Nat → Nat} (hR : RnOk w R D) (h : Fr L w w') (hL : ∀ k, k ∈ L → IsMap w k) : RnOk w' R D :=
  ⟨hR.head.frM h hL, hR.loop.frM h hL, hR.hlen, hR.llen, hR.lpos, hR.few, hR.letter, fun s l i hs hl hi => h.cellM hL (hR.cell s l i hs hl hi), hR.words, hR.into⟩

theorem Tab.frM {L : List Nat} {w w' : World} (ht : Tab w) (h : Fr L w w') (hL : ∀ k, k ∈ L → IsMap w k) : Tab w' := fun i hi => h.cellM hL (ht i hi)

theorem RunAt.frM {L : List Nat} {w w' : World} {B : Nat} {R : Rn} (hr : RunAt w B R) (h : Fr L w w') (hL : ∀ k, k ∈ L → IsMap w k) : RunAt w' B R :=
  hr.fr h (fun hm => by obtain ⟨es, c, h⟩ := hL _ hm; unfold RunAt at hr; rw [h] at hr; cases hr)

/-- Which states are good. -/
def GoodAt (w : World) (R : Rn) (gs : List Bool) : Prop := BoolSl w (.slice R.a2 R.l2 R.c2) gs ∧ gs.length = R.N

theorem callF_inner : ∀ args w, (callFunc 102 args).run Tryd.prog w = .ok (.enter 102 args) w := Tryd.call102
theorem callF_outer : ∀ args w, (callFunc 101 args).run Tryd.prog w = .ok (.enter 101 args) w := Tryd.call101

/-- An inner search: is a spot come to again? -/
theorem innerSearch_any {w : World} {r : Nat} {MI : Nat → Nat → Nat} (R : Rn) (D : Nat → Nat → Nat → Nat) (x : Spot) (B1 B3 : Nat) (hb1 : RunAt w B1 R) (hb3 : SpotAt w B3 x) (hR : RnOk w R D) (ht : Tab w) (hM : MetAt w r MI)
    (hD : Dfs (Edge R D) (inM MI) (inM MI) []) (hx : InR R x) :
    Calls Tryd.prog 100 #[rnV R, .agg #[.int .i64 x.1, .int .i64 x.2], .map (some r), .func (.func 102) #[] #[.pointer (some ⟨B1, 0, none⟩), .pointer (some ⟨B3, 0, none⟩)]] w fun e w' =>
      ∃ b, e = .returned (.bool b) ∧ Fr [r] w w' ∧ (b = true → LeadsOn (Edge R D) x x) ∧
        (b = false → ∃ M, MetAt w' r M ∧ Dfs (Edge R D) (inM M) (inM M) [] ∧ (∀ z, inM M z → ¬ inM MI z → ¬ Edge R D z x) ∧ (∀ z, inM M z → inM MI z ∨ Leads (Edge R D) x z) ∧ (∀ z, inM MI z → inM M z) ∧ inM M x) := by
  have hLm : ∀ k, k ∈ [r] → IsMap w k := fun k hk => by
    have : k = r := by simpa using hk
    subst this; exact hM.isMap
  have h300 := hR.few
  refine (search_any (w := w) (r := r) (M0 := MI) R D [] 102 #[.pointer (some ⟨B1, 0, none⟩), .pointer (some ⟨B3, 0, none⟩)] x (LeadsOn (Edge R D) x x) (fun done _ => ∀ z, done z → ¬ inM MI z → ¬ Edge R D z x)
    (fun w1 h => hR.frM h hLm) (fun w1 h => ht.frM h hLm) hM hD (fun z h1 h2 => absurd h1 h2) hx (fun _ _ _ _ h _ _ => h) (fun k hk => by cases hk) (by simp) callF_inner ?_).mono ?_
  · intro done path z M w1 hf hm hd hl hall hz hp
    refine (inner_any R D z x B1 B3 (hb1.frM hf hLm) (hb3.fr hf (fun hm => ?_)) (hR.frM hf hLm) hz (by have := hx.2; omega)).mono ?_
    · obtain ⟨es, c, h⟩ := hLm _ hm
      unfold SpotAt at hb3
      rw [h] at hb3; cases hb3
    · rintro e w' ⟨rfl, hb⟩
      refine ⟨_, rfl, Fr.of_below hb, fun h => ?_, fun h => ?_⟩
      · rw [edgeB_iff] at h
        exact LeadsOn.trans_left hl (LeadsOn.one h)
      · rintro z' (h1 | rfl) h2
        · exact hp z' h1 h2
        · intro he
          rw [← edgeB_iff, h] at he
          cases he
  · rintro e w' ⟨b, rfl, hf, h1, h2⟩
    refine ⟨b, rfl, hf, h1, fun h => ?_⟩
    obtain ⟨M, a1, a2, a3, a4, a5, a6⟩ := h2 h
    exact ⟨M, a1, a2, a3, a4, a5, a6⟩

def VarAt (w : World) (B : Nat) (v : Value) : Prop := w.heap[B]? = some (.cells #[v] 148)
theorem VarAt.lt {w : World} {B : Nat} {v : Value} (h : VarAt w B v) : B < w.heap.size := (Array.getElem?_eq_some_iff.1 h).1
theorem VarAt.frM {L : List Nat} {w w' : World} {B : Nat} {v : Value} (hr : VarAt w B v) (h : Fr L w w') (hL : ∀ k, k ∈ L → IsMap w k) : VarAt w' B v :=
  (h.block B hr.lt (fun hm => by obtain ⟨es, c, h⟩ := hL _ hm; unfold VarAt at hr; rw [h] at hr; cases hr)).trans hr

set_option maxRecDepth 100000 in
set_option maxHeartbeats 2000000 in
theorem outer_any {w : World} {r : Nat} {MI : Nat → Nat → Nat} {gs : List Bool} (R : Rn) (D : Nat → Nat → Nat → Nat) (x : Spot) (B1 B4 : Nat) (hb1 : RunAt w B1 R) (hb4 : VarAt w B4 (.map (some r))) (hR : RnOk w R D) (ht : Tab w) (hg : GoodAt w R gs) (hM : MetAt w r MI)
    (hD : Dfs (Edge R D) (inM MI) (inM MI) []) (hx : InR R x) :
    Calls Tryd.prog 101 #[.agg #[.int .i64 x.1, .int .i64 x.2], .pointer (some ⟨B1, 0, none⟩), .pointer (some ⟨B4, 0, none⟩)] w fun e w' =>
      ∃ b, e = .returned (.bool b) ∧ Fr [r] w w' ∧ (b = true → gs.getD x.2 false = true ∧ LeadsOn (Edge R D) x x) ∧
        (b = false → ∃ M, MetAt w' r M ∧ Dfs (Edge R D) (inM M) (inM M) [] ∧ (∀ z, inM MI z → inM M z) ∧ (gs.getD x.2 false = false → M = MI) ∧
          (gs.getD x.2 false = true → (∀ z, inM M z → ¬ inM MI z → ¬ Edge R D z x) ∧ (∀ z, inM M z → inM MI z ∨ Leads (Edge R D) x z) ∧ inM M x)) := by
  have hbW := below_new w (Obj.cells #[Value.int .i64 x.1, .int .i64 x.2] 151)
  have HS := hide (innerSearch_any R D x B1 w.heap.size (hb1.below hbW) (heap_alloc_new w _) (hR.below hbW) (ht.below hbW) (hM.below hbW) hD hx)
  obtain ⟨p, s⟩ := x
  dsimp only at *
  have hs : s < gs.length := by rw [hg.2]; exact hx.2
  have hg1 := hg.1
  obtain ⟨ga, gcap, he, hgm, hgc, hgn⟩ := hg1
  injection he with ea el ec
  rcases hgc with h0 | ⟨gb, goff, rfl, hc⟩
  · subst h0; simp at hs
  have hcell := hc s hs
  generalize hgood : gs.getD s false = good at *
  have Hgood := hide hgood
  have Hold := hide (And.intro hM hD)
  have e1 : ∀ j, w.cell? ⟨B1, j, none⟩ = _ := fun j => cell_of_row w B1 j _ _ _ hb1
  have e4 : w.cell? ⟨B4, 0, none⟩ = some (.map (some r)) := cell_of_row w B4 0 _ _ _ hb4
  have k0 := e1 0
  have k1 := e1 1
  have k2 := e1 2
  have k3 := e1 3
  have k4 := e1 4
  have k5 := e1 5
  have k6 := e1 6
  have k7 := e1 7
  have l1 := hb1.lt
  have l4 := hb4.lt
  have lg := World.block_lt_of_cell? w _ hcell
  dsimp only at lg
  clear hc hb1 hb4 hR ht hg hM hD hx e1 hgood
  unfold rnV at HS
  rw [ea, el] at HS k0 k1 k2 k3 k4 k5 k6 k7
  clear ea el ec
  have hs2 : (s : Int) < gs.length := by omega
  cases good with
  | true =>
    go_enter Tryd.func101, Tryd.ntmps101
    go_wp2_with (fail)
    refine Calls.mono HS.out ?_
    rintro e w1 ⟨b, rfl, hf, ht, hfa⟩
    have Ht := hide ht
    have Hfa := hide hfa
    clear ht hfa
    go_wp2
    go_ret
    refine ⟨b, rfl, (Fr.of_below hbW).trans hf, fun h => ⟨by first | exact Hgood.out | trivial, Ht.out h⟩, fun h => ?_⟩
    obtain ⟨M, a1, a2, a3, a4, a5, a6⟩ := Hfa.out h
    exact ⟨M, a1, a2, a5, (fun h => by cases h), fun _ => ⟨a3, a4, a6⟩⟩
  | false =>
    go_enter Tryd.func101, Tryd.ntmps101
    go_wp2
    go_ret
    exact ⟨false, rfl, Fr.of_below (by repeat (first | exact Below.refl _ _ | assumption | refine below_drewN ?_ _ | refine Below.drew ?_ | refine Below.alloc ?_ (by simp <;> omega) _ | refine below_trans ?_ (by assumption))), (fun h => by cases h), fun _ => ⟨MI, Hold.out.1.below (by repeat (first | exact Below.refl _ _ | assumption | refine below_drewN ?_ _ | refine Below.drew ?_ | refine Below.alloc ?_ (by simp <;> omega) _ | refine below_trans ?_ (by assumption))), Hold.out.2, fun z h => h, fun _ => rfl, fun h => by cases h⟩⟩
end Go.Proofs.YtpiacnnifdjlkaaDoor
