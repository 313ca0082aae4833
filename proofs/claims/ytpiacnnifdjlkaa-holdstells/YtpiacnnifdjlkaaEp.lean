/-
  What the reference's HoldsAt answers, of a node that looks no further.
-/
import Derived.Test.YtpiacnnifdjlkaaEo
namespace Go.Proofs.Ytpiacnnifdjlkaa
open Go.RowKit Go.Sort

set_option maxHeartbeats 400000 in
theorem place_any {w : World} {a1 : Option Addr} {c1 n0 n1 : Nat} (k pn pb : Nat) (hn : w.cell? ⟨pn, 0, none⟩ = some (.int .i64 ((n0 : Int) + n1))) (hl : w.cell? ⟨pb, 1, none⟩ = some (.slice a1 n1 c1)) (h1 : 0 < n1) (hk : k ≤ 1000000) (h0 : n0 ≤ 4000) (h2 : n1 ≤ 4000) :
    Calls Try.prog 27 #[.int .i64 k, .pointer (some ⟨pn, 0, none⟩), .pointer (some ⟨pb, 0, none⟩)] w fun e w' => e = .returned (.int .i64 (plc n0 n1 k : Nat)) ∧ w' = w := by
  go_enter Try.func27, Try.ntmps27
  go_wp2_with (fail)
  go_loop [0] (fun iv => ∃ j : Nat, iv = .int .i64 j ∧ j ≤ k ∧ Hid (plc n0 n1 j = plc n0 n1 k)) (fun iv => (intOf iv).toNat)
  case atStart => exact ⟨k, rfl, Nat.le_refl _, hide rfl⟩
  case round =>
    obtain ⟨j, rfl, hj, hp⟩ := hrel
    by_cases hlt : n0 + n1 ≤ j
    · have hlt' : (n0 : Int) + n1 ≤ j := by omega
      go_wp2_with (fail)
      go_round
      case rel => exact ⟨j - n1, by rw [Int.ofNat_sub (by omega)], by omega, hide ((plc_step n0 n1 j hlt).symm.trans hp.out)⟩
      case measure => simp [intOf]; omega
    · have hlt' : (j : Int) < (n0 : Int) + n1 := by omega
      go_wp2_with (fail)
      go_ret
      exact ⟨ret_eq (by rw [← hp.out, plc_small (by omega)]), rfl⟩

theorem bit_div (m n : Int) (h0 : 0 ≤ m) (h7 : m ≤ 7) : (n = 0 → (m % 2 == 1) = decide (m / 2 ^ n.toNat % 2 = 1)) ∧ (n = 1 → (m / 2 % 2 == 1) = decide (m / 2 ^ n.toNat % 2 = 1)) ∧ (n = 2 → (m / 2 / 2 % 2 == 1) = decide (m / 2 ^ n.toNat % 2 = 1)) := by
  have hx : m = 0 ∨ m = 1 ∨ m = 2 ∨ m = 3 ∨ m = 4 ∨ m = 5 ∨ m = 6 ∨ m = 7 := by omega
  refine ⟨?_, ?_, ?_⟩ <;> rintro rfl <;> rcases hx with rfl | rfl | rfl | rfl | rfl | rfl | rfl | rfl <;> decide +kernel

/-- What HoldsAt is handed. -/
structure HA (w : World) (fv hv lv tv : Value) (F : List Nd) (hs ls : List Int) (T : List (List Bool)) (i at_ : Nat) : Prop where
  nodes : NodeSl w fv F
  head : IntSl w hv hs
  loop : IntSl w lv ls
  grid : GridSl w tv T
  tlen : T.length = i
  trow : ∀ j, j < i → (T.getD j []).length = hs.length + ls.length
  node : nodeErr (F.getD i nd0) i = 0
  ilt : i < F.length
  few : F.length ≤ 12
  h4 : hs.length ≤ 4000
  l4 : ls.length ≤ 4000
  pos : 0 < ls.length
  place : at_ < hs.length + ls.length
  lets : ∀ i, i < hs.length + ls.length → 0 ≤ (hs ++ ls).getD i 0 ∧ (hs ++ ls).getD i 0 ≤ 7

theorem lat_append (hs ls : List Int) (i : Nat) (h : i < hs.length + ls.length) : lat hs ls i = (hs ++ ls).getD i 0 := by
  unfold lat
  by_cases hi : i < hs.length
  · rw [if_pos hi]; simp [List.getD, List.getElem?_append, hi]
  · rw [if_neg hi, Nat.mod_eq_of_lt (by omega)]
    simp [List.getD, List.getElem?_append, hi]

/-- The cells of the node at hand, in a world that has grown. -/
theorem HA.cells {w : World} {fv hv lv tv : Value} {F : List Nd} {hs ls : List Int} {T : List (List Bool)} {i at_ : Nat} (h : HA w fv hv lv tv F hs ls T i at_) :
    ∃ b off cap, fv = .slice (some ⟨b, off, none⟩) F.length cap ∧ w.cell? ⟨b, off + i * 4, none⟩ = some (.int .i64 (F.getD i nd0).k) ∧ w.cell? ⟨b, off + i * 4 + 1, none⟩ = some (.int .i64 (F.getD i nd0).a) ∧ w.cell? ⟨b, off + i * 4 + 2, none⟩ = some (.int .i64 (F.getD i nd0).b) ∧ w.cell? ⟨b, off + i * 4 + 3, none⟩ = some (.int .i64 (F.getD i nd0).n) := by
  obtain ⟨a, cap, rfl, hm, hc, -⟩ := h.nodes
  have hi := h.ilt
  rcases hc with hc | ⟨b, off, rfl, hc⟩
  · subst hc; simp at hi
  · exact ⟨b, off, cap, rfl, hc i hi⟩

set_option maxRecDepth 100000 in
set_option maxHeartbeats 2000000 in
theorem holdsAt_leaf {w : World} {fv hv lv tv : Value} {F : List Nd} {hs ls : List Int} {T : List (List Bool)} {i at_ : Nat} (h : HA w fv hv lv tv F hs ls T i at_) (hk : (F.getD i nd0).k = 1 ∨ (F.getD i nd0).k = 2) :
    Calls Try.prog 18 #[fv, .agg #[hv, lv], tv, .int .i64 i, .int .i64 at_] w fun e w' => e = .returned (.bool (valB T hs.length ls.length (fun i => (hs ++ ls).getD i 0) (F.getD i nd0) at_)) ∧ Below w.heap.size w w' := by
  have hmf : ∀ (fn : Fn) (first cap : Array Value) (w : World), (Instr.makeFunc fn first cap).run Try.prog w = .ok (.func fn first cap) w := fun _ _ _ _ => rfl
  have hv7 : valB T hs.length ls.length (fun i => (hs ++ ls).getD i 0) (F.getD i nd0) at_ = ruleB T hs.length ls.length (fun i => (hs ++ ls).getD i 0) (F.getD i nd0) at_ false := valB_flat h.pos h.place (by omega) (by omega) false
  rw [hv7]
  have HLt : Hid (∀ W, Below w.heap.size w W → Calls Try.prog 28 #[.agg #[hv, lv], .int .i64 at_] W fun e w' => e = .returned (.int .i64 ((hs ++ ls).getD at_ 0)) ∧ Below W.heap.size W w') := by
    refine hide fun W hb => ?_
    have := letterAtR_any (h.head.below hb) (h.loop.below hb) at_ (by omega) (by have := h.place; have := h.h4; have := h.l4; omega) (List.length_pos_iff.1 h.pos)
    rw [Int.toNat_natCast, lat_append _ _ _ h.place] at this
    exact this
  obtain ⟨b, off, cap, rfl, d0, d1, d2, d3⟩ := h.cells
  have hbl := World.block_lt_of_cell? w _ d0
  dsimp only at hbl
  have hx := (h.lets at_ h.place)
  have hn := (node_ok h.node).2.2.2
  have hilt := h.ilt
  have hfew := h.few
  have h4 := h.h4
  have l4 := h.l4
  obtain ⟨a0, c0, rfl, -⟩ := h.head
  obtain ⟨a1, c1, rfl, -⟩ := h.loop
  generalize hm : (hs ++ ls).getD at_ 0 = m at *
  have Hm := hide hm
  clear h hv7 hm
  generalize F.getD i nd0 = x at *
  obtain ⟨k, xa, xb, n⟩ := x
  dsimp only at *
  rcases hk with rfl | rfl
  · have e : ruleB T hs.length ls.length (fun i => (hs ++ ls).getD i 0) ⟨1, xa, xb, n⟩ at_ false = true := by simp [ruleB]
    rw [e]
    go_enter Try.func18, Try.ntmps18
    go_wp2_with (fail)
    go_ret
    exact ⟨rfl, (by repeat (first | exact Below.refl _ _ | assumption | refine below_drewN ?_ _ | refine Below.drew ?_ | refine Below.alloc ?_ (by simp <;> omega) _ | refine below_trans ?_ (by assumption)))⟩
  · have e : ruleB T hs.length ls.length (fun i => (hs ++ ls).getD i 0) ⟨2, xa, xb, n⟩ at_ false = decide (m / 2 ^ n.toNat % 2 = 1) := by
      show decide ((hs ++ ls).getD at_ 0 / 2 ^ n.toNat % 2 = 1) = _
      rw [Hm.out]
    rw [e]
    obtain ⟨hx0, hx7⟩ := hx
    obtain ⟨g0, g1, g2⟩ := bit_div m n hx0 hx7
    have G0 := hide g0
    have G1 := hide g1
    have G2 := hide g2
    have hn3 : n = 0 ∨ n = 1 ∨ n = 2 := by have := hn rfl; omega
    clear e hn g0 g1 g2
    rcases hn3 with rfl | rfl | rfl
    · go_enter Try.func18, Try.ntmps18
      go_wp2_with (fail)
      refine (HLt.out _ (by repeat (first | exact Below.refl _ _ | assumption | refine below_drewN ?_ _ | refine Below.drew ?_ | refine Below.alloc ?_ (by simp <;> omega) _ | refine below_trans ?_ (by assumption)))).mono ?_
      rintro e w1 ⟨rfl, hb1⟩
      have k3 : w1.cell? ⟨w.heap.size + 1, 3, none⟩ = some (.int .i64 0) := cell_keep (cell_under _ _ (by simp)) hb1
      have hB : Below w.heap.size w w1 := below_trans (by repeat (first | exact Below.refl _ _ | assumption | refine below_drewN ?_ _ | refine Below.drew ?_ | refine Below.alloc ?_ (by simp <;> omega) _ | refine below_trans ?_ (by assumption))) hb1
      clear hb1
      go_wp2_with (fail)
      refine wp_loop_rounds 1 ?_
      repeat (rw [rounds_succ]; go_wp2_with (fail))
      go_ret
      exact ⟨ret_bool (G0.out (by first | rfl | trivial)), hB⟩
    · go_enter Try.func18, Try.ntmps18
      go_wp2_with (fail)
      refine (HLt.out _ (by repeat (first | exact Below.refl _ _ | assumption | refine below_drewN ?_ _ | refine Below.drew ?_ | refine Below.alloc ?_ (by simp <;> omega) _ | refine below_trans ?_ (by assumption)))).mono ?_
      rintro e w1 ⟨rfl, hb1⟩
      have k3 : w1.cell? ⟨w.heap.size + 1, 3, none⟩ = some (.int .i64 1) := cell_keep (cell_under _ _ (by simp)) hb1
      have hB : Below w.heap.size w w1 := below_trans (by repeat (first | exact Below.refl _ _ | assumption | refine below_drewN ?_ _ | refine Below.drew ?_ | refine Below.alloc ?_ (by simp <;> omega) _ | refine below_trans ?_ (by assumption))) hb1
      clear hb1
      go_wp2_with (fail)
      refine wp_loop_rounds 2 ?_
      repeat (rw [rounds_succ]; go_wp2_with (fail))
      go_ret
      exact ⟨ret_bool (G1.out (by first | rfl | trivial)), hB⟩
    · go_enter Try.func18, Try.ntmps18
      go_wp2_with (fail)
      refine (HLt.out _ (by repeat (first | exact Below.refl _ _ | assumption | refine below_drewN ?_ _ | refine Below.drew ?_ | refine Below.alloc ?_ (by simp <;> omega) _ | refine below_trans ?_ (by assumption)))).mono ?_
      rintro e w1 ⟨rfl, hb1⟩
      have k3 : w1.cell? ⟨w.heap.size + 1, 3, none⟩ = some (.int .i64 2) := cell_keep (cell_under _ _ (by simp)) hb1
      have hB : Below w.heap.size w w1 := below_trans (by repeat (first | exact Below.refl _ _ | assumption | refine below_drewN ?_ _ | refine Below.drew ?_ | refine Below.alloc ?_ (by simp <;> omega) _ | refine below_trans ?_ (by assumption))) hb1
      clear hb1
      go_wp2_with (fail)
      refine wp_loop_rounds 3 ?_
      repeat (rw [rounds_succ]; go_wp2_with (fail))
      go_ret
      exact ⟨ret_bool (G2.out (by first | rfl | trivial)), hB⟩
end Go.Proofs.Ytpiacnnifdjlkaa
