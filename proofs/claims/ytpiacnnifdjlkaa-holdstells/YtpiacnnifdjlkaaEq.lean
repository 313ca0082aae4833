/-
  What the reference's HoldsAt answers, of a node that looks at parts.
-/
import Derived.Test.YtpiacnnifdjlkaaEp
namespace Go.Proofs.Ytpiacnnifdjlkaa
open Go.RowKit Go.Sort

/-- The rows ahead, as HoldsAt finds them. -/
theorem HA.grids {w : World} {fv hv lv tv : Value} {F : List Nd} {hs ls : List Int} {T : List (List Bool)} {i at_ : Nat} (h : HA w fv hv lv tv F hs ls T i at_) (hi : 0 < i) :
    ∃ R gc, tv = .slice (some ⟨R, 0, none⟩) i gc ∧ ∀ j, j < i → ∃ b o c, w.cell? ⟨R, j, none⟩ = some (.slice (some ⟨b, o, none⟩) (hs.length + ls.length) c) ∧ ∀ p, p < hs.length + ls.length → w.cell? ⟨b, o + p, none⟩ = some (.bool ((T.getD j []).getD p false)) := by
  have hl := h.tlen
  obtain ⟨ad, c, rfl, hm, hg⟩ := h.grid
  rcases hg with hg | ⟨R, rfl, hc⟩
  · subst hg; simp at hl; omega
  · refine ⟨R, c, by rw [hl], fun j hj => ?_⟩
    obtain ⟨a, n, c', h1, h2⟩ := hc j (by omega)
    have hlen := h.trow j hj
    have hp := h.pos
    obtain ⟨a', cap, he, _, hz, _⟩ := h2
    injection he with e1 e2 e3
    rcases hz with hz | ⟨b, o, e4, hcell⟩
    · rw [hz] at hlen; simp at hlen; omega
    · refine ⟨b, o, c', ?_, fun p hpp => hcell p (by omega)⟩
      rw [h1, e1, e4, e2, hlen]

set_option maxRecDepth 100000 in
set_option maxHeartbeats 2000000 in
theorem holdsAt_3 {w : World} {fv hv lv tv : Value} {F : List Nd} {hs ls : List Int} {T : List (List Bool)} {i at_ : Nat} (h : HA w fv hv lv tv F hs ls T i at_) (hk : (F.getD i nd0).k = 3) :
    Calls Try.prog 18 #[fv, .agg #[hv, lv], tv, .int .i64 i, .int .i64 at_] w fun e w' => e = .returned (.bool (valB T hs.length ls.length (fun i => (hs ++ ls).getD i 0) (F.getD i nd0) at_)) ∧ Below w.heap.size w w' := by
  have hmf : ∀ (fn : Fn) (first cap : Array Value) (w : World), (Instr.makeFunc fn first cap).run Try.prog w = .ok (.func fn first cap) w := fun _ _ _ _ => rfl
  have hv7 : valB T hs.length ls.length (fun i => (hs ++ ls).getD i 0) (F.getD i nd0) at_ = ruleB T hs.length ls.length (fun i => (hs ++ ls).getD i 0) (F.getD i nd0) at_ false := valB_flat h.pos h.place (by omega) (by omega) false
  rw [hv7]
  obtain ⟨b, off, cap, rfl, d0, d1, d2, d3⟩ := h.cells
  have hbl := World.block_lt_of_cell? w _ d0
  dsimp only at hbl
  obtain ⟨_, ⟨xa0, xa1, _⟩, ⟨xb0, xb1, _⟩, _⟩ := node_ok h.node
  have hilt := h.ilt
  have hfew := h.few
  have h4 := h.h4
  have l4 := h.l4
  have hpl := h.place
  obtain ⟨R, gc, rfl, hg⟩ := h.grids (by have := xa1 (by omega); omega)
  obtain ⟨a0, c0, rfl, -⟩ := h.head
  obtain ⟨a1, c1, rfl, -⟩ := h.loop
  clear h hv7
  generalize F.getD i nd0 = x at *
  obtain ⟨k, xa, xb, n⟩ := x
  dsimp only at *
  subst hk
  have xa2 := xa1 (by omega)
  obtain ⟨ja, rfl⟩ := Int.eq_ofNat_of_zero_le xa0
  obtain ⟨ba, oa, ca, ga, gat⟩ := hg ja (by omega)
  have gac := gat at_ hpl
  have hR := World.block_lt_of_cell? w _ ga
  have hba := World.block_lt_of_cell? w _ gac
  dsimp only at hR hba
  have e : ruleB T hs.length ls.length (fun i => (hs ++ ls).getD i 0) ⟨3, ja, xb, n⟩ at_ false = (!bt T (ja : Int) at_) := by simp [ruleB]
  rw [e]
  unfold bt
  rw [Int.toNat_natCast]
  generalize (T.getD ja []).getD at_ false = x at *
  clear hg gat e xa0 xa1 xb0 xb1
  have zb1 : b < w.heap.size + 1 := by omega
  have zb2 : b < w.heap.size + 1 + 1 := by omega
  have zR1 : R < w.heap.size + 1 := by omega
  have zR2 : R < w.heap.size + 1 + 1 := by omega
  have zba1 : ba < w.heap.size + 1 := by omega
  have zba2 : ba < w.heap.size + 1 + 1 := by omega
  go_enter Try.func18, Try.ntmps18
  go_wp2_with (fail)
  go_ret
  exact ⟨rfl, (by repeat (first | exact Below.refl _ _ | assumption | refine below_drewN ?_ _ | refine Below.drew ?_ | refine Below.alloc ?_ (by simp <;> omega) _ | refine below_trans ?_ (by assumption)))⟩

set_option maxRecDepth 100000 in
set_option maxHeartbeats 2000000 in
theorem holdsAt_4 {w : World} {fv hv lv tv : Value} {F : List Nd} {hs ls : List Int} {T : List (List Bool)} {i at_ : Nat} (h : HA w fv hv lv tv F hs ls T i at_) (hk : (F.getD i nd0).k = 4) :
    Calls Try.prog 18 #[fv, .agg #[hv, lv], tv, .int .i64 i, .int .i64 at_] w fun e w' => e = .returned (.bool (valB T hs.length ls.length (fun i => (hs ++ ls).getD i 0) (F.getD i nd0) at_)) ∧ Below w.heap.size w w' := by
  have hmf : ∀ (fn : Fn) (first cap : Array Value) (w : World), (Instr.makeFunc fn first cap).run Try.prog w = .ok (.func fn first cap) w := fun _ _ _ _ => rfl
  have hv7 : valB T hs.length ls.length (fun i => (hs ++ ls).getD i 0) (F.getD i nd0) at_ = ruleB T hs.length ls.length (fun i => (hs ++ ls).getD i 0) (F.getD i nd0) at_ false := valB_flat h.pos h.place (by omega) (by omega) false
  rw [hv7]
  obtain ⟨b, off, cap, rfl, d0, d1, d2, d3⟩ := h.cells
  have hbl := World.block_lt_of_cell? w _ d0
  dsimp only at hbl
  obtain ⟨_, ⟨xa0, xa1, _⟩, ⟨xb0, xb1, _⟩, _⟩ := node_ok h.node
  have hilt := h.ilt
  have hfew := h.few
  have h4 := h.h4
  have l4 := h.l4
  have hpl := h.place
  obtain ⟨R, gc, rfl, hg⟩ := h.grids (by have := xa1 (by omega); omega)
  obtain ⟨a0, c0, rfl, -⟩ := h.head
  obtain ⟨a1, c1, rfl, -⟩ := h.loop
  clear h hv7
  generalize F.getD i nd0 = x at *
  obtain ⟨k, xa, xb, n⟩ := x
  dsimp only at *
  subst hk
  have xa2 := xa1 (by omega)
  have xb2 := xb1 (by omega)
  obtain ⟨ja, rfl⟩ := Int.eq_ofNat_of_zero_le xa0
  obtain ⟨ba, oa, ca, ga, gat⟩ := hg ja (by omega)
  have gac := gat at_ hpl
  obtain ⟨jb, rfl⟩ := Int.eq_ofNat_of_zero_le xb0
  obtain ⟨bb, ob, cb, gb, gbt⟩ := hg jb (by omega)
  have gbc := gbt at_ hpl
  have hR := World.block_lt_of_cell? w _ ga
  have hba := World.block_lt_of_cell? w _ gac
  dsimp only at hR hba
  have hbb := World.block_lt_of_cell? w _ gbc
  dsimp only at hbb
  have e : ruleB T hs.length ls.length (fun i => (hs ++ ls).getD i 0) ⟨4, ja, jb, n⟩ at_ false = (bt T (ja : Int) at_ && bt T (jb : Int) at_) := by simp [ruleB]
  rw [e]
  unfold bt
  rw [Int.toNat_natCast, Int.toNat_natCast]
  generalize (T.getD ja []).getD at_ false = x at *
  generalize (T.getD jb []).getD at_ false = y at *
  clear hg gat gbt e xa0 xa1 xb0 xb1
  have zb1 : b < w.heap.size + 1 := by omega
  have zb2 : b < w.heap.size + 1 + 1 := by omega
  have zR1 : R < w.heap.size + 1 := by omega
  have zR2 : R < w.heap.size + 1 + 1 := by omega
  have zba1 : ba < w.heap.size + 1 := by omega
  have zba2 : ba < w.heap.size + 1 + 1 := by omega
  have zbb1 : bb < w.heap.size + 1 := by omega
  have zbb2 : bb < w.heap.size + 1 + 1 := by omega
  cases x <;> (
    go_enter Try.func18, Try.ntmps18
    go_wp2_with (fail)
    go_ret
    exact ⟨by first | rfl | (cases y <;> rfl), (by repeat (first | exact Below.refl _ _ | assumption | refine below_drewN ?_ _ | refine Below.drew ?_ | refine Below.alloc ?_ (by simp <;> omega) _ | refine below_trans ?_ (by assumption)))⟩)

set_option maxRecDepth 100000 in
set_option maxHeartbeats 2000000 in
theorem holdsAt_5 {w : World} {fv hv lv tv : Value} {F : List Nd} {hs ls : List Int} {T : List (List Bool)} {i at_ : Nat} (h : HA w fv hv lv tv F hs ls T i at_) (hk : (F.getD i nd0).k = 5) :
    Calls Try.prog 18 #[fv, .agg #[hv, lv], tv, .int .i64 i, .int .i64 at_] w fun e w' => e = .returned (.bool (valB T hs.length ls.length (fun i => (hs ++ ls).getD i 0) (F.getD i nd0) at_)) ∧ Below w.heap.size w w' := by
  have hmf : ∀ (fn : Fn) (first cap : Array Value) (w : World), (Instr.makeFunc fn first cap).run Try.prog w = .ok (.func fn first cap) w := fun _ _ _ _ => rfl
  have hv7 : valB T hs.length ls.length (fun i => (hs ++ ls).getD i 0) (F.getD i nd0) at_ = ruleB T hs.length ls.length (fun i => (hs ++ ls).getD i 0) (F.getD i nd0) at_ false := valB_flat h.pos h.place (by omega) (by omega) false
  rw [hv7]
  obtain ⟨b, off, cap, rfl, d0, d1, d2, d3⟩ := h.cells
  have hbl := World.block_lt_of_cell? w _ d0
  dsimp only at hbl
  obtain ⟨_, ⟨xa0, xa1, _⟩, ⟨xb0, xb1, _⟩, _⟩ := node_ok h.node
  have hilt := h.ilt
  have hfew := h.few
  have h4 := h.h4
  have l4 := h.l4
  have hpl := h.place
  obtain ⟨R, gc, rfl, hg⟩ := h.grids (by have := xa1 (by omega); omega)
  obtain ⟨a0, c0, rfl, -⟩ := h.head
  obtain ⟨a1, c1, rfl, -⟩ := h.loop
  clear h hv7
  generalize F.getD i nd0 = x at *
  obtain ⟨k, xa, xb, n⟩ := x
  dsimp only at *
  subst hk
  have xa2 := xa1 (by omega)
  have xb2 := xb1 (by omega)
  obtain ⟨ja, rfl⟩ := Int.eq_ofNat_of_zero_le xa0
  obtain ⟨ba, oa, ca, ga, gat⟩ := hg ja (by omega)
  have gac := gat at_ hpl
  obtain ⟨jb, rfl⟩ := Int.eq_ofNat_of_zero_le xb0
  obtain ⟨bb, ob, cb, gb, gbt⟩ := hg jb (by omega)
  have gbc := gbt at_ hpl
  have hR := World.block_lt_of_cell? w _ ga
  have hba := World.block_lt_of_cell? w _ gac
  dsimp only at hR hba
  have hbb := World.block_lt_of_cell? w _ gbc
  dsimp only at hbb
  have e : ruleB T hs.length ls.length (fun i => (hs ++ ls).getD i 0) ⟨5, ja, jb, n⟩ at_ false = (bt T (ja : Int) at_ || bt T (jb : Int) at_) := by simp [ruleB]
  rw [e]
  unfold bt
  rw [Int.toNat_natCast, Int.toNat_natCast]
  generalize (T.getD ja []).getD at_ false = x at *
  generalize (T.getD jb []).getD at_ false = y at *
  clear hg gat gbt e xa0 xa1 xb0 xb1
  have zb1 : b < w.heap.size + 1 := by omega
  have zb2 : b < w.heap.size + 1 + 1 := by omega
  have zR1 : R < w.heap.size + 1 := by omega
  have zR2 : R < w.heap.size + 1 + 1 := by omega
  have zba1 : ba < w.heap.size + 1 := by omega
  have zba2 : ba < w.heap.size + 1 + 1 := by omega
  have zbb1 : bb < w.heap.size + 1 := by omega
  have zbb2 : bb < w.heap.size + 1 + 1 := by omega
  cases x <;> (
    go_enter Try.func18, Try.ntmps18
    go_wp2_with (fail)
    go_ret
    exact ⟨by first | rfl | (cases y <;> rfl), (by repeat (first | exact Below.refl _ _ | assumption | refine below_drewN ?_ _ | refine Below.drew ?_ | refine Below.alloc ?_ (by simp <;> omega) _ | refine below_trans ?_ (by assumption)))⟩)

end Go.Proofs.Ytpiacnnifdjlkaa
