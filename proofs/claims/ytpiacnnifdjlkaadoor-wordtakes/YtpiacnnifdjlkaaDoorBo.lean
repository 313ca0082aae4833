/-
  What TrailingZeros64 and without answer.
-/
import Derived.Test.YtpiacnnifdjlkaaDoorBn
import Derived.Lib.TrailingZeros
namespace Go.Proofs.YtpiacnnifdjlkaaDoor
open Go.RowKit Go.Sort

/-- The library's table of 64 bytes, as it is laid. -/
def Tab (w : World) : Prop := ∀ i, i < 64 → w.cell? ⟨2, i, none⟩ = some (.int .u8 (Lib.deBruijn64tab.getD i 0 : Nat))

theorem Tab.below {w w' : World} (h : Tab w) (hb : Below w.heap.size w w') : Tab w' := fun i hi => by
  have := h i hi
  rw [hb.cell (World.block_lt_of_cell? w _ this)]; exact this

theorem cast_quo (y c m d : Nat) : (y : Int) * (c : Int) % (m : Int) / (d : Int) = ((y * c % m / d : Nat) : Int) := by push_cast; rfl

theorem quo_range (x : Int) : 0 ≤ IntKind.u64.wrap x / 288230376151711744 ∧ IntKind.u64.wrap x / 288230376151711744 < 64 := by
  rw [IntKind.wrap_u64]; omega

theorem tz_index (x : Nat) (h0 : x ≠ 0) (hx : x < 18446744073709551616) :
    (IntKind.u64.wrap (bits BinOp.and IntKind.u64 (x : Int) (IntKind.u64.wrap (-(x : Int))) * 285870213051353865) / 288230376151711744).toNat < 64 ∧
    Lib.deBruijn64tab.getD (IntKind.u64.wrap (bits BinOp.and IntKind.u64 (x : Int) (IntKind.u64.wrap (-(x : Int))) * 285870213051353865) / 288230376151711744).toNat 0 = Lib.ctz 64 x := by
  obtain ⟨h1, h2⟩ := Lib.lowest_bit 64 x h0 hx
  have e1 : IntKind.u64.wrap (-(x : Int)) = ((2 ^ 64 - x : Nat) : Int) := by rw [IntKind.wrap_u64]; omega
  have e2 : bits BinOp.and IntKind.u64 (x : Int) ((2 ^ 64 - x : Nat) : Int) = ((2 ^ Lib.ctz 64 x : Nat) : Int) := by
    rw [bits_and_u64_nat x (2 ^ 64 - x) hx (by omega), h1]
  rw [e1, e2, IntKind.wrap_u64]
  have e3 : (((2 ^ Lib.ctz 64 x : Nat) : Int) * 285870213051353865 % 18446744073709551616 / 288230376151711744).toNat = 2 ^ Lib.ctz 64 x * 285870213051353865 % 18446744073709551616 / 288230376151711744 := by
    generalize 2 ^ Lib.ctz 64 x = y
    have e4 : (y : Int) * 285870213051353865 % 18446744073709551616 / 288230376151711744 = ((y * 285870213051353865 % 18446744073709551616 / 288230376151711744 : Nat) : Int) := cast_quo y 285870213051353865 18446744073709551616 288230376151711744
    rw [e4, Int.toNat_natCast]
  rw [e3]
  exact Lib.deBruijn64_at _ h2

set_option maxHeartbeats 400000 in
theorem tz_any (x : Nat) (w : World) (h0 : ((x : Int) == 0) = false) (hx : x < 18446744073709551616) (ht : Tab w) :
    Calls Tryd.prog 171 #[.int .u64 x] w fun e w' => e = .returned (.int .i64 (Lib.ctz 64 x : Nat)) ∧ w' = w := by
  obtain ⟨h1, h2⟩ := tz_index x (by intro e; subst e; simp at h0) hx
  have hc := ht _ h1
  rw [h2] at hc
  have hlt : Lib.ctz 64 x < 64 := (Lib.lowest_bit 64 x (by intro e; subst e; simp at h0) hx).2
  generalize Lib.ctz 64 x = z at *
  obtain ⟨q0, q1⟩ := quo_range (bits BinOp.and IntKind.u64 (x : Int) (IntKind.u64.wrap (-(x : Int))) * 285870213051353865)
  clear h1 h2 ht
  go_enter Tryd.func171, Tryd.ntmps171
  go_wp2
  go_ret
  exact ⟨rfl, rfl⟩

/-- What is in one word and not in the other one. -/
def lessW (x y : Nat) : Nat := x &&& (18446744073709551615 - y)

theorem andNot_word (x y : Nat) (hx : x < 18446744073709551616) (hy : y < 18446744073709551616) : bits BinOp.andNot IntKind.u64 (x : Int) (y : Int) = ((lessW x y : Nat) : Int) := u64_andNot_nat x y hx hy

theorem lessW_lt (x y : Nat) (hx : x < 18446744073709551616) : lessW x y < 18446744073709551616 :=
  Nat.lt_of_le_of_lt Nat.and_le_left hx

theorem lessW_bit (x y c : Nat) (hy : y < 18446744073709551616) (hc : c < 64) : (lessW x y).testBit c = (x.testBit c && !y.testBit c) := by
  unfold lessW
  rw [Nat.testBit_and, show 18446744073709551615 - y = 2 ^ 64 - (y + 1) by omega, Nat.testBit_two_pow_sub_succ hy]
  simp [hc]

theorem ctz_bit (z : Nat) (h0 : z ≠ 0) (hz : z < 18446744073709551616) : z.testBit (Lib.ctz 64 z) = true ∧ Lib.ctz 64 z < 64 := by
  obtain ⟨h1, h2⟩ := Lib.lowest_bit 64 z h0 hz
  refine ⟨?_, h2⟩
  have : (z &&& (2 ^ 64 - z)).testBit (Lib.ctz 64 z) = true := by rw [h1]; simp
  rw [Nat.testBit_and, Bool.and_eq_true] at this
  exact this.1

theorem index_five0 (x0 x1 x2 x3 x4 : Value) (w : World) : (Instr.index 142 (.agg #[x0, x1, x2, x3, x4]) (.int .i64 0)).run Tryd.prog w = .ok x0 w := by kernel_rfl
theorem index_five1 (x0 x1 x2 x3 x4 : Value) (w : World) : (Instr.index 142 (.agg #[x0, x1, x2, x3, x4]) (.int .i64 1)).run Tryd.prog w = .ok x1 w := by kernel_rfl
theorem index_five2 (x0 x1 x2 x3 x4 : Value) (w : World) : (Instr.index 142 (.agg #[x0, x1, x2, x3, x4]) (.int .i64 2)).run Tryd.prog w = .ok x2 w := by kernel_rfl
theorem index_five3 (x0 x1 x2 x3 x4 : Value) (w : World) : (Instr.index 142 (.agg #[x0, x1, x2, x3, x4]) (.int .i64 3)).run Tryd.prog w = .ok x3 w := by kernel_rfl
theorem index_five4 (x0 x1 x2 x3 x4 : Value) (w : World) : (Instr.index 142 (.agg #[x0, x1, x2, x3, x4]) (.int .i64 4)).run Tryd.prog w = .ok x4 w := by kernel_rfl

theorem index_five (B : Nat → Nat) (k : Nat) (hk : k < 5) (w : World) : (Instr.index 142 (.agg #[.int .u64 (B 0), .int .u64 (B 1), .int .u64 (B 2), .int .u64 (B 3), .int .u64 (B 4)]) (.int .i64 k)).run Tryd.prog w = .ok (.int .u64 (B k)) w := by
  have h : k = 0 ∨ k = 1 ∨ k = 2 ∨ k = 3 ∨ k = 4 := by omega
  rcases h with rfl | rfl | rfl | rfl | rfl
  · exact index_five0 _ _ _ _ _ w
  · exact index_five1 _ _ _ _ _ w
  · exact index_five2 _ _ _ _ _ w
  · exact index_five3 _ _ _ _ _ w
  · exact index_five4 _ _ _ _ _ w

/-- The first one that is in one set and not in the other one, from word k on. -/
def woutGo (B C : Nat → Nat) : Nat → Nat → Nat × Bool
  | 0, _ => (0, false)
  | fuel + 1, k => if lessW (B k) (C k) = 0 then woutGo B C fuel (k + 1) else (64 * k + Lib.ctz 64 (lessW (B k) (C k)), true)

def wout (B C : Nat → Nat) : Nat × Bool := woutGo B C 5 0

theorem woutGo_spec {B C : Nat → Nat} (hB : Words B) (hC : Words C) : ∀ (fuel k : Nat), k + fuel = 5 →
    ((woutGo B C fuel k).2 = true → (woutGo B C fuel k).1 < 320 ∧ inB B (woutGo B C fuel k).1 = true ∧ inB C (woutGo B C fuel k).1 = false) ∧
    ((woutGo B C fuel k).2 = false → (woutGo B C fuel k).1 = 0 ∧ ∀ t, k ≤ t / 64 → t < 320 → inB B t = true → inB C t = true)
  | 0, k, h => ⟨(fun e => by cases e), fun _ => ⟨rfl, fun t h1 h2 _ => by omega⟩⟩
  | fuel + 1, k, h => by
    by_cases h0 : lessW (B k) (C k) = 0
    · have e : woutGo B C (fuel + 1) k = woutGo B C fuel (k + 1) := by rw [woutGo, if_pos h0]
      rw [e]
      obtain ⟨g1, g2⟩ := woutGo_spec hB hC fuel (k + 1) (by omega)
      refine ⟨g1, fun hf => ⟨(g2 hf).1, fun t h1 h2 h3 => ?_⟩⟩
      by_cases hk : t / 64 = k
      · have hbit := lessW_bit (B k) (C k) (t % 64) (hC k) (Nat.mod_lt _ (by decide))
        unfold inB at h3 ⊢
        rw [hk] at h3 ⊢
        rw [h0, h3] at hbit
        simpa using hbit
      · exact (g2 hf).2 t (by omega) h2 h3
    · have e : woutGo B C (fuel + 1) k = (64 * k + Lib.ctz 64 (lessW (B k) (C k)), true) := by rw [woutGo, if_neg h0]
      rw [e]
      obtain ⟨b1, b2⟩ := ctz_bit _ h0 (lessW_lt (B k) (C k) (hB k))
      generalize Lib.ctz 64 (lessW (B k) (C k)) = c at *
      refine ⟨fun _ => ?_, fun e => by cases e⟩
      rw [lessW_bit _ _ _ (hC k) b2, Bool.and_eq_true, Bool.not_eq_true'] at b1
      have e1 : (64 * k + c) / 64 = k := by omega
      have e2 : (64 * k + c) % 64 = c := by omega
      refine ⟨by show 64 * k + c < 320; omega, ?_, ?_⟩
      · unfold inB; rw [e1, e2]; exact b1.1
      · unfold inB; rw [e1, e2]; exact b1.2

set_option maxRecDepth 100000 in
set_option maxHeartbeats 1000000 in
theorem without_any (B C : Nat → Nat) (w : World) (hB : Words B) (hC : Words C) (ht : Tab w) :
    Calls Tryd.prog 155 #[.agg #[.int .u64 (B 0), .int .u64 (B 1), .int .u64 (B 2), .int .u64 (B 3), .int .u64 (B 4)], .agg #[.int .u64 (C 0), .int .u64 (C 1), .int .u64 (C 2), .int .u64 (C 3), .int .u64 (C 4)]] w fun e w' => e = .returned (.tuple #[.int .i64 (wout B C).1, .bool (wout B C).2]) ∧ Below w.heap.size w w' := by
  have HB := hide hB
  have HC := hide hC
  have HT := hide ht
  clear hB hC ht
  generalize hgo : wout B C = q
  have Hgo : Hid (woutGo B C (5 - 0) 0 = q) := hgo
  clear hgo
  go_enter Tryd.func155, Tryd.ntmps155
  go_wp2
  generalize hW0 : (w.alloc (Obj.cells #[Value.int .u64 (B 0), .int .u64 (B 1), .int .u64 (B 2), .int .u64 (B 3), .int .u64 (B 4)] 144)).alloc (Obj.cells #[Value.int .u64 (C 0), .int .u64 (C 1), .int .u64 (C 2), .int .u64 (C 3), .int .u64 (C 4)] 144) = W0
  have hbW : Below w.heap.size w W0 := by rw [← hW0]; exact (by repeat (first | exact Below.refl _ _ | assumption | refine below_drewN ?_ _ | refine Below.drew ?_ | refine Below.alloc ?_ (by simp <;> omega) _ | refine below_trans ?_ (by assumption)))
  have HcC : Hid (∀ k, k < 5 → W0.cell? ⟨w.heap.size + 1, k, none⟩ = some (.int .u64 (C k))) := fun k hk => by
    rw [← hW0, World.cell?_alloc2_new]; exact five_get C .u64 k hk
  clear hW0
  go_loopw [11] (fun i wr => ∃ k : Nat, k ≤ 5 ∧ i = .int .i64 k ∧ woutGo B C (5 - k) k = q ∧ wr = W0) (fun i _ => 5 - (intOf i).toNat)
  case atStart => exact ⟨0, Nat.zero_le _, rfl, Hgo.out, rfl⟩
  case round =>
    obtain ⟨k, hk, rfl, htk, rfl⟩ := hrel
    have Htk := hide htk
    clear htk
    by_cases hlt : k < 5
    · have hix := index_five B k hlt
      have hcC := HcC.out k hlt
      have hand := andNot_word (B k) (C k) (HB.out k) (HC.out k)
      have Hst : Hid (q = if lessW (B k) (C k) = 0 then woutGo B C (5 - (k + 1)) (k + 1) else (64 * k + Lib.ctz 64 (lessW (B k) (C k)), true)) := by
        show q = _
        rw [← Htk.out, show 5 - k = (5 - (k + 1)) + 1 by omega, woutGo]
      generalize hz : lessW (B k) (C k) = z at hand Hst
      have hzl : z < 18446744073709551616 := by rw [← hz]; exact lessW_lt _ _ (HB.out k)
      clear hz
      generalize hBk : B k = x at hix hand
      generalize hCk : C k = y at hcC hand
      clear hBk hCk
      by_cases h0 : z = 0
      · have hb : ((z : Int) != 0) = false := by rw [bne_eq_false_iff_eq]; omega
        have H0 := hide h0
        clear h0
        go_wp2
        go_roundw
        case rel => exact ⟨k + 1, by omega, by go_num, by rw [Hst.out, if_pos H0.out], by first | rfl | trivial⟩
        case measure => simp [intOf]; omega
      · have hb : ((z : Int) != 0) = true := by rw [bne_iff_ne]; omega
        have Hq : Hid (q = (64 * k + Lib.ctz 64 z, true)) := by show q = _; rw [Hst.out, if_neg h0]
        have HZ := hide (tz_any z _ (by rw [beq_eq_false_iff_ne]; omega) hzl (HT.out.below hbW))
        have hcl : Lib.ctz 64 z < 64 := (ctz_bit z h0 hzl).2
        clear h0 Hst
        generalize hcc : Lib.ctz 64 z = c at *
        clear hcc
        go_wp2_with (fail)
        refine Calls.mono HZ.out ?_
        rintro e w' ⟨rfl, rfl⟩
        go_wp2
        go_ret2
        exact ⟨by rw [Hq.out]; rfl, hbW⟩
    · go_wp2
      go_ret2
      have hq : q = (0, false) := by
        have e : 5 - k = 0 := by omega
        rw [← Htk.out, e]; rfl
      exact ⟨by rw [hq]; rfl, hbW⟩
end Go.Proofs.YtpiacnnifdjlkaaDoor
