/-
  What piece, At and Least of package word answer.
-/
import Derived.Test.YtpiacnnifdjlkaaDoorBe
namespace Go.Proofs.YtpiacnnifdjlkaaDoor
open Go.RowKit

def zeroInts (c : Nat) : Array Value := Array.replicate c (.int .i64 0)

theorem make_ints (c : Nat) (h : c ≤ 1000000) (w : World) : (Instr.makeSlice 22 (.int .i64 c) (.int .i64 c)).run Tryd.prog w = .ok (.slice (some ⟨w.heap.size, 0, none⟩) c c) (w.alloc (.cells (zeroInts c) 3)) := by
  have hz : Tryd.t3.zero = some (.int .i64 0) := by kernel_rfl
  have hb : Tryd.t3.bytes = 8 := by kernel_rfl
  have hs : Tryd.t3.size = 1 := by kernel_rfl
  rw [run_make w 22 3 Tryd.t3 (.int .i64 0) Tryd.underlying22 intInfo hz .i64 .i64 c c (by omega) (by omega) (by rw [hb]; omega) (by omega)]
  have e : madeCells (Value.cells (.int .i64 0)) (c * 1) = zeroInts c := by
    apply Array.ext
    · simp [size_madeCells, zeroInts]
    · intro i h1 h2
      simp [madeCells, zeroInts, Value.cells, Nat.mod_one]
  rw [hs, Int.toNat_natCast, e]

def pieceOf (hs ls : List Int) (f c : Nat) : List Int := (List.range c).map fun j => lat hs ls (f + j)

def pieceAt (hs ls : List Int) (f k j : Nat) : Int := if j < k then lat hs ls (f + j) else 0

theorem pieceAt_same (hs ls : List Int) (f k : Nat) : pieceAt hs ls f (k + 1) k = lat hs ls (f + k) := by simp [pieceAt]
theorem pieceAt_other (hs ls : List Int) (f k j : Nat) (h : j ≠ k) : pieceAt hs ls f (k + 1) j = pieceAt hs ls f k j := by
  unfold pieceAt
  by_cases h1 : j < k
  · rw [if_pos (by omega), if_pos h1]
  · rw [if_neg (by omega), if_neg h1]

set_option maxRecDepth 100000 in
set_option maxHeartbeats 400000 in
theorem piece_any {w : World} {hv lv : Value} {hs ls : List Int} (hh : IntSl w hv hs) (hl : IntSl w lv ls) (hne : ls ≠ []) (f c : Nat) (hf : f ≤ 1000000) (hc : c ≤ 1000000) :
    Calls Tryd.prog 63 #[.agg #[hv, lv], .int .i64 f, .int .i64 c] w fun e w' => ∃ v, e = .returned v ∧ IntSl w' v (pieceOf hs ls f c) ∧ Below w.heap.size w w' ∧ (∀ k, v.ownBlock = some k → w.heap.size ≤ k) := by
  have hmk := make_ints c hc
  have HL : Hid (∀ w1, Below w.heap.size w w1 → ∀ i : Int, 0 ≤ i → i ≤ 9223372036854775807 → Calls Tryd.prog 62 #[.agg #[hv, lv], .int .i64 i] w1 fun e w' => e = .returned (.int .i64 (lat hs ls i.toNat)) ∧ Below w1.heap.size w1 w') :=
    fun w1 hb i h0 hi => letterAt_any (hh.below hb) (hl.below hb) i h0 hi hne
  clear hh hl hne
  go_enter Tryd.func63, Tryd.ntmps63
  go_wp2_with (fail)
  go_loopw [13] (fun i wr => ∃ k : Nat, k ≤ c ∧ i = .int .i64 k ∧ Below w.heap.size w wr ∧ w.heap.size + 2 ≤ wr.heap.size ∧ wr.cell? ⟨w.heap.size, 0, none⟩ = some hv ∧ wr.cell? ⟨w.heap.size, 1, none⟩ = some lv ∧ (∀ j, j < c → wr.cell? ⟨w.heap.size + 1, j, none⟩ = some (.int .i64 (pieceAt hs ls f k j)) ∧ wr.frozen? ⟨w.heap.size + 1, j, none⟩ = false)) (fun i _ => c - (intOf i).toNat)
  case atStart =>
    refine ⟨0, Nat.zero_le _, rfl, (by repeat (first | exact Below.refl _ _ | assumption | refine below_drewN ?_ _ | refine Below.drew ?_ | refine Below.alloc ?_ (by simp <;> omega) _ | refine below_trans ?_ (by assumption))), by simp, by simp, by simp, fun j hj => ⟨?_, by simp⟩⟩
    simp [zeroInts, pieceAt, hj]
  case round =>
    obtain ⟨k, hk, rfl, hb, hsz, hc0, hc1, hcells⟩ := hrel
    by_cases hlt : k < c
    · obtain ⟨hck, hfk⟩ := hcells k hlt
      have Hcells : Hid _ := hcells
      clear hcells
      go_wp2_with (fail)
      refine (HL.out wr hb _ ?_ ?_).mono ?_
      · omega
      · omega
      rintro e w1 ⟨rfl, hb1⟩
      generalize hx : lat hs ls ((f : Int) + (k : Int)).toNat = x
      have Hx : Hid (lat hs ls (f + k) = x) := by rw [show f + k = ((f : Int) + (k : Int)).toNat by omega]; exact hx
      clear hx
      have h10 : w1.cell? ⟨w.heap.size, 0, none⟩ = some hv := by rw [hb1.cell (by simp <;> omega)]; exact hc0
      have h11 : w1.cell? ⟨w.heap.size, 1, none⟩ = some lv := by rw [hb1.cell (by simp <;> omega)]; exact hc1
      have h1k : w1.cell? ⟨w.heap.size + 1, k, none⟩ = some (.int .i64 (pieceAt hs ls f k k)) := by rw [hb1.cell (by simp <;> omega)]; exact hck
      have f1k : w1.frozen? ⟨w.heap.size + 1, k, none⟩ = false := by rw [hb1.frozen (by simp <;> omega)]; exact hfk
      have hs1 := hb1.size
      have hbw := below_trans hb hb1
      clear hc0 hc1 hck hfk
      go_wp2
      go_roundw
      case rel =>
        refine ⟨k + 1, by omega, by go_num, hbw.setCell (by simp) _, ?_, ?_, ?_, ?_⟩
        · simp [World.setCell]; omega
        · rw [World.cell?_setCell_other _ _ _ _ (by simp)]; exact h10
        · rw [World.cell?_setCell_other _ _ _ _ (by simp)]; exact h11
        · intro j hj
          obtain ⟨p1, p2⟩ := Hcells.out j hj
          refine ⟨?_, by simp; rw [hb1.frozen (by simp <;> omega)]; exact p2⟩
          by_cases e : j = k
          · subst e
            rw [World.cell?_setCell_same _ _ _ h1k, pieceAt_same, Hx.out]
          · rw [World.cell?_setCell_other _ _ _ _ (by simp <;> omega), pieceAt_other _ _ _ _ _ e, hb1.cell (by simp <;> omega)]
            exact p1
      case measure => simp [intOf]; omega
    · have hkc : k = c := by omega
      subst hkc
      have Hcells : Hid _ := hcells
      clear hcells
      go_wp2
      go_ret
      refine ⟨_, rfl, ?_, hb, fun q hq => by simp [Value.ownBlock] at hq; omega⟩
      refine ⟨some ⟨w.heap.size + 1, 0, none⟩, k, by simp [pieceOf], by simp [pieceOf, maxLen]; omega, Or.inr ⟨w.heap.size + 1, 0, rfl, fun i hi => ?_⟩, (fun h => by cases h), by simp [pieceOf]⟩
      have hi' : i < k := by simpa [pieceOf] using hi
      rw [Nat.zero_add, (Hcells.out i hi').1]
      simp [pieceAt, pieceOf, hi', List.getD]

set_option maxHeartbeats 400000 in
theorem at_bad {w : World} {hv lv : Value} {hs ls : List Int} (hh : IntSl w hv hs) (hl : IntSl w lv ls) (n i : Int) (h : (chk hs ls n != 0) = true) :
    Calls Tryd.prog 25 #[.agg #[hv, lv], .int .i64 n, .int .i64 i] w fun e w' => e = .returned (.tuple #[.int .i64 0, .int .i64 (chk hs ls n)]) ∧ Below w.heap.size w w' := by
  have HC : Hid (∀ w1, Below w.heap.size w w1 → Calls Tryd.prog 30 #[.agg #[hv, lv], .int .i64 n] w1 fun e w' => e = .returned (.int .i64 (chk hs ls n)) ∧ Below w1.heap.size w1 w') := fun w1 hb => check_any n (hh.below hb) (hl.below hb)
  clear hh hl
  generalize chk hs ls n = c at *
  go_enter Tryd.func25, Tryd.ntmps25
  go_wp2_with (fail)
  refine (HC.out _ (by repeat (first | exact Below.refl _ _ | assumption | refine below_drewN ?_ _ | refine Below.drew ?_ | refine Below.alloc ?_ (by simp <;> omega) _ | refine below_trans ?_ (by assumption)))).mono ?_
  rintro e w1 ⟨rfl, hb1⟩
  have hbw : Below w.heap.size w w1 := below_trans (by repeat (first | exact Below.refl _ _ | assumption | refine below_drewN ?_ _ | refine Below.drew ?_ | refine Below.alloc ?_ (by simp <;> omega) _ | refine below_trans ?_ (by assumption))) hb1
  go_wp2
  go_ret2
  exact ⟨rfl, hbw⟩

set_option maxHeartbeats 400000 in
theorem at_neg {w : World} {hv lv : Value} {hs ls : List Int} (hh : IntSl w hv hs) (hl : IntSl w lv ls) (n i : Int) (h : chk hs ls n = 0) (hi : i < 0) :
    Calls Tryd.prog 25 #[.agg #[hv, lv], .int .i64 n, .int .i64 i] w fun e w' => e = .returned (.tuple #[.int .i64 0, .int .i64 3]) ∧ Below w.heap.size w w' := by
  have HC : Hid (∀ w1, Below w.heap.size w w1 → Calls Tryd.prog 30 #[.agg #[hv, lv], .int .i64 n] w1 fun e w' => e = .returned (.int .i64 0) ∧ Below w1.heap.size w1 w') := fun w1 hb => by
    have := check_any n (hh.below hb) (hl.below hb)
    rwa [h] at this
  clear hh hl h
  go_enter Tryd.func25, Tryd.ntmps25
  go_wp2_with (fail)
  refine (HC.out _ (by repeat (first | exact Below.refl _ _ | assumption | refine below_drewN ?_ _ | refine Below.drew ?_ | refine Below.alloc ?_ (by simp <;> omega) _ | refine below_trans ?_ (by assumption)))).mono ?_
  rintro e w1 ⟨rfl, hb1⟩
  have hbw : Below w.heap.size w w1 := below_trans (by repeat (first | exact Below.refl _ _ | assumption | refine below_drewN ?_ _ | refine Below.drew ?_ | refine Below.alloc ?_ (by simp <;> omega) _ | refine below_trans ?_ (by assumption))) hb1
  go_wp2
  go_ret2
  exact ⟨rfl, hbw⟩

set_option maxHeartbeats 400000 in
theorem at_good {w : World} {hv lv : Value} {hs ls : List Int} (hh : IntSl w hv hs) (hl : IntSl w lv ls) (hne : ls ≠ []) (n i : Int) (h : chk hs ls n = 0) (hi : 0 ≤ i) (hi' : i ≤ 9223372036854775807) :
    Calls Tryd.prog 25 #[.agg #[hv, lv], .int .i64 n, .int .i64 i] w fun e w' => e = .returned (.tuple #[.int .i64 (lat hs ls i.toNat), .int .i64 0]) ∧ Below w.heap.size w w' := by
  have HC : Hid (∀ w1, Below w.heap.size w w1 → Calls Tryd.prog 30 #[.agg #[hv, lv], .int .i64 n] w1 fun e w' => e = .returned (.int .i64 0) ∧ Below w1.heap.size w1 w') := fun w1 hb => by
    have := check_any n (hh.below hb) (hl.below hb)
    rwa [h] at this
  have HL : Hid (∀ w1, Below w.heap.size w w1 → Calls Tryd.prog 62 #[.agg #[hv, lv], .int .i64 i] w1 fun e w' => e = .returned (.int .i64 (lat hs ls i.toNat)) ∧ Below w1.heap.size w1 w') :=
    fun w1 hb => letterAt_any (hh.below hb) (hl.below hb) i hi hi' hne
  clear hh hl h hne
  generalize lat hs ls i.toNat = x at *
  go_enter Tryd.func25, Tryd.ntmps25
  go_wp2_with (fail)
  refine (HC.out _ (by repeat (first | exact Below.refl _ _ | assumption | refine below_drewN ?_ _ | refine Below.drew ?_ | refine Below.alloc ?_ (by simp <;> omega) _ | refine below_trans ?_ (by assumption)))).mono ?_
  rintro e w1 ⟨rfl, hb1⟩
  have hbw : Below w.heap.size w w1 := below_trans (by repeat (first | exact Below.refl _ _ | assumption | refine below_drewN ?_ _ | refine Below.drew ?_ | refine Below.alloc ?_ (by simp <;> omega) _ | refine below_trans ?_ (by assumption))) hb1
  have h10 : w1.cell? ⟨w.heap.size, 0, none⟩ = some hv := by rw [hb1.cell (by simp <;> omega)]; simp
  have h11 : w1.cell? ⟨w.heap.size, 1, none⟩ = some lv := by rw [hb1.cell (by simp <;> omega)]; simp
  go_wp2_with (fail)
  refine (HL.out _ hbw).mono ?_
  rintro e w2 ⟨rfl, hb2⟩
  go_wp2
  go_ret2
  exact ⟨rfl, below_trans hbw hb2⟩
end Go.Proofs.YtpiacnnifdjlkaaDoor
