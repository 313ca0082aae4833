/-
  The map of spots that were met: what is looked up in it and stored.
-/
import Derived.Test.YtpiacnnifdjlkabDoorBm
import Derived.Lib.TrailingZeros
import Derived.MapKept
/-
  Sets of states as five words of 64 bits: has and with.
-/
namespace Go.Proofs.YtpiacnnifdjlkabDoor
open Go.RowKit Go.Sort

theorem five_get (B : Nat → Nat) (k : IntKind) (i : Nat) (h : i < 5) : (#[Value.int k (B 0), .int k (B 1), .int k (B 2), .int k (B 3), .int k (B 4)] : Array Value)[i]? = some (.int k (B i)) := by
  match i, h with
  | 0, _ => rfl
  | 1, _ => rfl
  | 2, _ => rfl
  | 3, _ => rfl
  | 4, _ => rfl

/-- Is a state in the set? -/
def inB (B : Nat → Nat) (s : Nat) : Bool := (B (s / 64)).testBit (s % 64)

def addB (B : Nat → Nat) (s : Nat) : Nat → Nat := fun i => if i = s / 64 then B i ||| 2 ^ (s % 64) else B i

def Words (B : Nat → Nat) : Prop := ∀ i, B i < 18446744073709551616

theorem testBit_word (x k : Nat) (hx : x < 18446744073709551616) : (bits BinOp.and IntKind.u64 ((x : Int) / 2 ^ k) 1 != 0) = x.testBit k := by
  have e1 : (2 : Int) ^ k = ((2 ^ k : Nat) : Int) := by simp
  have e : ((x : Int) / 2 ^ k) = ((x / 2 ^ k : Nat) : Int) := by rw [e1]; exact (Int.natCast_ediv x (2 ^ k)).symm
  have hle : x / 2 ^ k ≤ x := Nat.div_le_self _ _
  rw [e, Nat.testBit_eq_decide_div_mod_eq]
  generalize x / 2 ^ k = y at *
  rw [and_one_u64 _ (by omega) (by omega)]
  rcases Nat.mod_two_eq_zero_or_one y with h | h
  · have h2 : (y : Int) % 2 = 0 := by omega
    rw [h, h2]; rfl
  · have h2 : (y : Int) % 2 = 1 := by omega
    rw [h, h2]; rfl

set_option maxHeartbeats 400000 in
theorem has_any (B : Nat → Nat) (s : Nat) (w : World) (hs : s < 300) (hB : Words B) :
    Calls Tryd.prog 60 #[.agg #[.int .u64 (B 0), .int .u64 (B 1), .int .u64 (B 2), .int .u64 (B 3), .int .u64 (B 4)], .int .i64 s] w fun e w' => e = .returned (.bool (inB B s)) ∧ Below w.heap.size w w' := by
  have hc : (w.alloc (Obj.cells #[Value.int .u64 (B 0), .int .u64 (B 1), .int .u64 (B 2), .int .u64 (B 3), .int .u64 (B 4)] 89)).cell? ⟨w.heap.size, s / 64, none⟩ = some (.int .u64 (B (s / 64))) := by
    rw [World.cell?_alloc_new]; exact five_get B .u64 _ (by omega)
  have hb := hB (s / 64)
  have Hr := hide (testBit_word (B (s / 64)) (s % 64) hb)
  unfold inB
  generalize B (s / 64) = x at *
  have h0 : 0 ≤ (s : Int) % 64 := by omega
  have h1 : (s : Int) % 64 < 64 := by omega
  clear hB
  go_enter Tryd.func60, Tryd.ntmps60
  go_wp2
  go_ret
  exact ⟨by rw [← Hr.out]; rfl, (by repeat (first | exact Below.refl _ _ | assumption | refine below_drewN ?_ _ | refine Below.drew ?_ | refine Below.alloc ?_ (by simp <;> omega) _ | refine below_trans ?_ (by assumption)))⟩

theorem orBit_word (x k : Nat) (hx : x < 18446744073709551616) (hk : k < 64) : bits BinOp.or IntKind.u64 (x : Int) (IntKind.u64.wrap (2 ^ k)) = ((x ||| 2 ^ k : Nat) : Int) := by
  have e1 : (2 : Int) ^ k = ((2 ^ k : Nat) : Int) := by simp
  have hlt : 2 ^ k < 2 ^ 64 := Nat.pow_lt_pow_right (by decide) hk
  have e2 : IntKind.u64.wrap (2 ^ k) = ((2 ^ k : Nat) : Int) := by
    rw [IntKind.wrap_u64, e1]
    generalize 2 ^ k = y at *
    omega
  rw [e2]
  exact bits_or_u64_nat x (2 ^ k) hx (Nat.pow_lt_pow_right (by decide) hk)

theorem addB_words {B : Nat → Nat} (hB : Words B) (s : Nat) : Words (addB B s) := by
  intro i
  unfold addB
  split
  · exact Nat.or_lt_two_pow (n := 64) (hB i) (Nat.pow_lt_pow_right (by decide) (Nat.mod_lt _ (by decide)))
  · exact hB i

theorem inB_add (B : Nat → Nat) (s t : Nat) : inB (addB B s) t = (inB B t || decide (t = s)) := by
  unfold inB addB
  by_cases h : t / 64 = s / 64
  · rw [if_pos h, Nat.testBit_or, Nat.testBit_two_pow]
    congr 1
    by_cases e : t = s
    · subst e; simp
    · have : ¬ s % 64 = t % 64 := by omega
      simp [this, e]
  · rw [if_neg h]
    have : ¬ t = s := by intro e; subst e; exact h rfl
    simp [this]

set_option maxRecDepth 100000 in
set_option maxHeartbeats 1000000 in
theorem with_0 (B : Nat → Nat) (s : Nat) (w : World) (hs : s < 300) (hB : Words B) (hq : s / 64 = 0) :
    Calls Tryd.prog 53 #[.agg #[.int .u64 (B 0), .int .u64 (B 1), .int .u64 (B 2), .int .u64 (B 3), .int .u64 (B 4)], .int .i64 s] w fun e w' => e = .returned (.agg #[.int .u64 (addB B s 0), .int .u64 (addB B s 1), .int .u64 (addB B s 2), .int .u64 (addB B s 3), .int .u64 (addB B s 4)]) ∧ Below w.heap.size w w' := by
  have hqi : (s : Int) / 64 = 0 := by omega
  have h0 : 0 ≤ (s : Int) % 64 := by omega
  have h1 : (s : Int) % 64 < 64 := by omega
  have ho := orBit_word (B 0) (s % 64) (hB 0) (by omega)
  have Hv : Hid ((Value.agg #[.int .u64 (addB B s 0), .int .u64 (addB B s 1), .int .u64 (addB B s 2), .int .u64 (addB B s 3), .int .u64 (addB B s 4)]) = (Value.agg #[.int .u64 (bits BinOp.or IntKind.u64 ((B 0 : Nat) : Int) (IntKind.u64.wrap (2 ^ (s % 64)))), .int .u64 (B 1), .int .u64 (B 2), .int .u64 (B 3), .int .u64 (B 4)])) := by
    show _ = _
    simp [addB, hq, ho]
  rw [Hv.out]
  clear ho
  go_enter Tryd.func53, Tryd.ntmps53
  go_wp2
  go_region
  go_wp2
  exact bodyPost_ret (v := (Value.agg #[.int .u64 (bits BinOp.or IntKind.u64 ((B 0 : Nat) : Int) (IntKind.u64.wrap (2 ^ (s % 64)))), .int .u64 (B 1), .int .u64 (B 2), .int .u64 (B 3), .int .u64 (B 4)])) (by simp [results, Tryd.results53, go_sem]) rfl ⟨rfl, (by repeat (first | exact Below.refl _ _ | assumption | refine below_drewN ?_ _ | refine Below.drew ?_ | refine Below.alloc ?_ (by simp <;> omega) _ | refine below_trans ?_ (by assumption)))⟩

set_option maxRecDepth 100000 in
set_option maxHeartbeats 1000000 in
theorem with_1 (B : Nat → Nat) (s : Nat) (w : World) (hs : s < 300) (hB : Words B) (hq : s / 64 = 1) :
    Calls Tryd.prog 53 #[.agg #[.int .u64 (B 0), .int .u64 (B 1), .int .u64 (B 2), .int .u64 (B 3), .int .u64 (B 4)], .int .i64 s] w fun e w' => e = .returned (.agg #[.int .u64 (addB B s 0), .int .u64 (addB B s 1), .int .u64 (addB B s 2), .int .u64 (addB B s 3), .int .u64 (addB B s 4)]) ∧ Below w.heap.size w w' := by
  have hqi : (s : Int) / 64 = 1 := by omega
  have h0 : 0 ≤ (s : Int) % 64 := by omega
  have h1 : (s : Int) % 64 < 64 := by omega
  have ho := orBit_word (B 1) (s % 64) (hB 1) (by omega)
  have Hv : Hid ((Value.agg #[.int .u64 (addB B s 0), .int .u64 (addB B s 1), .int .u64 (addB B s 2), .int .u64 (addB B s 3), .int .u64 (addB B s 4)]) = (Value.agg #[.int .u64 (B 0), .int .u64 (bits BinOp.or IntKind.u64 ((B 1 : Nat) : Int) (IntKind.u64.wrap (2 ^ (s % 64)))), .int .u64 (B 2), .int .u64 (B 3), .int .u64 (B 4)])) := by
    show _ = _
    simp [addB, hq, ho]
  rw [Hv.out]
  clear ho
  go_enter Tryd.func53, Tryd.ntmps53
  go_wp2
  go_region
  go_wp2
  exact bodyPost_ret (v := (Value.agg #[.int .u64 (B 0), .int .u64 (bits BinOp.or IntKind.u64 ((B 1 : Nat) : Int) (IntKind.u64.wrap (2 ^ (s % 64)))), .int .u64 (B 2), .int .u64 (B 3), .int .u64 (B 4)])) (by simp [results, Tryd.results53, go_sem]) rfl ⟨rfl, (by repeat (first | exact Below.refl _ _ | assumption | refine below_drewN ?_ _ | refine Below.drew ?_ | refine Below.alloc ?_ (by simp <;> omega) _ | refine below_trans ?_ (by assumption)))⟩

set_option maxRecDepth 100000 in
set_option maxHeartbeats 1000000 in
theorem with_2 (B : Nat → Nat) (s : Nat) (w : World) (hs : s < 300) (hB : Words B) (hq : s / 64 = 2) :
    Calls Tryd.prog 53 #[.agg #[.int .u64 (B 0), .int .u64 (B 1), .int .u64 (B 2), .int .u64 (B 3), .int .u64 (B 4)], .int .i64 s] w fun e w' => e = .returned (.agg #[.int .u64 (addB B s 0), .int .u64 (addB B s 1), .int .u64 (addB B s 2), .int .u64 (addB B s 3), .int .u64 (addB B s 4)]) ∧ Below w.heap.size w w' := by
  have hqi : (s : Int) / 64 = 2 := by omega
  have h0 : 0 ≤ (s : Int) % 64 := by omega
  have h1 : (s : Int) % 64 < 64 := by omega
  have ho := orBit_word (B 2) (s % 64) (hB 2) (by omega)
  have Hv : Hid ((Value.agg #[.int .u64 (addB B s 0), .int .u64 (addB B s 1), .int .u64 (addB B s 2), .int .u64 (addB B s 3), .int .u64 (addB B s 4)]) = (Value.agg #[.int .u64 (B 0), .int .u64 (B 1), .int .u64 (bits BinOp.or IntKind.u64 ((B 2 : Nat) : Int) (IntKind.u64.wrap (2 ^ (s % 64)))), .int .u64 (B 3), .int .u64 (B 4)])) := by
    show _ = _
    simp [addB, hq, ho]
  rw [Hv.out]
  clear ho
  go_enter Tryd.func53, Tryd.ntmps53
  go_wp2
  go_region
  go_wp2
  exact bodyPost_ret (v := (Value.agg #[.int .u64 (B 0), .int .u64 (B 1), .int .u64 (bits BinOp.or IntKind.u64 ((B 2 : Nat) : Int) (IntKind.u64.wrap (2 ^ (s % 64)))), .int .u64 (B 3), .int .u64 (B 4)])) (by simp [results, Tryd.results53, go_sem]) rfl ⟨rfl, (by repeat (first | exact Below.refl _ _ | assumption | refine below_drewN ?_ _ | refine Below.drew ?_ | refine Below.alloc ?_ (by simp <;> omega) _ | refine below_trans ?_ (by assumption)))⟩

set_option maxRecDepth 100000 in
set_option maxHeartbeats 1000000 in
theorem with_3 (B : Nat → Nat) (s : Nat) (w : World) (hs : s < 300) (hB : Words B) (hq : s / 64 = 3) :
    Calls Tryd.prog 53 #[.agg #[.int .u64 (B 0), .int .u64 (B 1), .int .u64 (B 2), .int .u64 (B 3), .int .u64 (B 4)], .int .i64 s] w fun e w' => e = .returned (.agg #[.int .u64 (addB B s 0), .int .u64 (addB B s 1), .int .u64 (addB B s 2), .int .u64 (addB B s 3), .int .u64 (addB B s 4)]) ∧ Below w.heap.size w w' := by
  have hqi : (s : Int) / 64 = 3 := by omega
  have h0 : 0 ≤ (s : Int) % 64 := by omega
  have h1 : (s : Int) % 64 < 64 := by omega
  have ho := orBit_word (B 3) (s % 64) (hB 3) (by omega)
  have Hv : Hid ((Value.agg #[.int .u64 (addB B s 0), .int .u64 (addB B s 1), .int .u64 (addB B s 2), .int .u64 (addB B s 3), .int .u64 (addB B s 4)]) = (Value.agg #[.int .u64 (B 0), .int .u64 (B 1), .int .u64 (B 2), .int .u64 (bits BinOp.or IntKind.u64 ((B 3 : Nat) : Int) (IntKind.u64.wrap (2 ^ (s % 64)))), .int .u64 (B 4)])) := by
    show _ = _
    simp [addB, hq, ho]
  rw [Hv.out]
  clear ho
  go_enter Tryd.func53, Tryd.ntmps53
  go_wp2
  go_region
  go_wp2
  exact bodyPost_ret (v := (Value.agg #[.int .u64 (B 0), .int .u64 (B 1), .int .u64 (B 2), .int .u64 (bits BinOp.or IntKind.u64 ((B 3 : Nat) : Int) (IntKind.u64.wrap (2 ^ (s % 64)))), .int .u64 (B 4)])) (by simp [results, Tryd.results53, go_sem]) rfl ⟨rfl, (by repeat (first | exact Below.refl _ _ | assumption | refine below_drewN ?_ _ | refine Below.drew ?_ | refine Below.alloc ?_ (by simp <;> omega) _ | refine below_trans ?_ (by assumption)))⟩

set_option maxRecDepth 100000 in
set_option maxHeartbeats 1000000 in
theorem with_4 (B : Nat → Nat) (s : Nat) (w : World) (hs : s < 300) (hB : Words B) (hq : s / 64 = 4) :
    Calls Tryd.prog 53 #[.agg #[.int .u64 (B 0), .int .u64 (B 1), .int .u64 (B 2), .int .u64 (B 3), .int .u64 (B 4)], .int .i64 s] w fun e w' => e = .returned (.agg #[.int .u64 (addB B s 0), .int .u64 (addB B s 1), .int .u64 (addB B s 2), .int .u64 (addB B s 3), .int .u64 (addB B s 4)]) ∧ Below w.heap.size w w' := by
  have hqi : (s : Int) / 64 = 4 := by omega
  have h0 : 0 ≤ (s : Int) % 64 := by omega
  have h1 : (s : Int) % 64 < 64 := by omega
  have ho := orBit_word (B 4) (s % 64) (hB 4) (by omega)
  have Hv : Hid ((Value.agg #[.int .u64 (addB B s 0), .int .u64 (addB B s 1), .int .u64 (addB B s 2), .int .u64 (addB B s 3), .int .u64 (addB B s 4)]) = (Value.agg #[.int .u64 (B 0), .int .u64 (B 1), .int .u64 (B 2), .int .u64 (B 3), .int .u64 (bits BinOp.or IntKind.u64 ((B 4 : Nat) : Int) (IntKind.u64.wrap (2 ^ (s % 64))))])) := by
    show _ = _
    simp [addB, hq, ho]
  rw [Hv.out]
  clear ho
  go_enter Tryd.func53, Tryd.ntmps53
  go_wp2
  go_region
  go_wp2
  exact bodyPost_ret (v := (Value.agg #[.int .u64 (B 0), .int .u64 (B 1), .int .u64 (B 2), .int .u64 (B 3), .int .u64 (bits BinOp.or IntKind.u64 ((B 4 : Nat) : Int) (IntKind.u64.wrap (2 ^ (s % 64))))])) (by simp [results, Tryd.results53, go_sem]) rfl ⟨rfl, (by repeat (first | exact Below.refl _ _ | assumption | refine below_drewN ?_ _ | refine Below.drew ?_ | refine Below.alloc ?_ (by simp <;> omega) _ | refine below_trans ?_ (by assumption)))⟩

theorem with_any (B : Nat → Nat) (s : Nat) (w : World) (hs : s < 300) (hB : Words B) :
    Calls Tryd.prog 53 #[.agg #[.int .u64 (B 0), .int .u64 (B 1), .int .u64 (B 2), .int .u64 (B 3), .int .u64 (B 4)], .int .i64 s] w fun e w' => e = .returned (.agg #[.int .u64 (addB B s 0), .int .u64 (addB B s 1), .int .u64 (addB B s 2), .int .u64 (addB B s 3), .int .u64 (addB B s 4)]) ∧ Below w.heap.size w w' := by
  by_cases h0 : s / 64 = 0
  · exact with_0 B s w hs hB h0
  by_cases h1 : s / 64 = 1
  · exact with_1 B s w hs hB h1
  by_cases h2 : s / 64 = 2
  · exact with_2 B s w hs hB h2
  by_cases h3 : s / 64 = 3
  · exact with_3 B s w hs hB h3
  · exact with_4 B s w hs hB (by omega)
end Go.Proofs.YtpiacnnifdjlkabDoor

/-
  What TrailingZeros64 and without answer.
-/
namespace Go.Proofs.YtpiacnnifdjlkabDoor
open Go.RowKit Go.Sort

/-- The library's table of 64 bytes, as it is laid. -/
def Tab (w : World) : Prop := ∀ i, i < 64 → w.cell? ⟨0, i, none⟩ = some (.int .u8 (Lib.deBruijn64tab.getD i 0 : Nat))

theorem Tab.below {w w' : World} (h : Tab w) (hb : Below w.heap.size w w') : Tab w' := fun i hi => by
  have := h i hi
  rw [hb.cell (World.block_lt_of_cell? w _ this)]; exact this

theorem cast_quo (y c m d : Nat) : (y : Int) * (c : Int) % (m : Int) / (d : Int) = ((y * c % m / d : Nat) : Int) := by push_cast; rfl

theorem quo_range (x : Int) : 0 ≤ IntKind.u64.wrap x / 288230376151711744 ∧ IntKind.u64.wrap x / 288230376151711744 < 64 := by
  rw [IntKind.wrap_u64]; omega

theorem tz_index (x : Nat) (h0 : x ≠ 0) (hx : x < 18446744073709551616) :
    (IntKind.u64.wrap (bits BinOp.and IntKind.u64 (x : Int) (IntKind.u64.wrap (-(x : Int))) * 285870213051353865) / 288230376151711744).toNat < 64 ∧
    Lib.deBruijn64tab.getD (IntKind.u64.wrap (bits BinOp.and IntKind.u64 (x : Int) (IntKind.u64.wrap (-(x : Int))) * 285870213051353865) / 288230376151711744).toNat 0 = Lib.ctz 64 x := by
  obtain ⟨h1, h2⟩ := Lib.lowest_bit 64 x h0 hx
  have e1 : IntKind.u64.wrap (-(x : Int)) = ((2 ^ 64 - x : Nat) : Int) := by rw [IntKind.wrap_u64]; omega
  have e2 : bits BinOp.and IntKind.u64 (x : Int) ((2 ^ 64 - x : Nat) : Int) = ((2 ^ Lib.ctz 64 x : Nat) : Int) := by
    rw [bits_and_u64_nat x (2 ^ 64 - x) hx (by omega), h1]
  rw [e1, e2, IntKind.wrap_u64]
  have e3 : (((2 ^ Lib.ctz 64 x : Nat) : Int) * 285870213051353865 % 18446744073709551616 / 288230376151711744).toNat = 2 ^ Lib.ctz 64 x * 285870213051353865 % 18446744073709551616 / 288230376151711744 := by
    generalize 2 ^ Lib.ctz 64 x = y
    have e4 : (y : Int) * 285870213051353865 % 18446744073709551616 / 288230376151711744 = ((y * 285870213051353865 % 18446744073709551616 / 288230376151711744 : Nat) : Int) := cast_quo y 285870213051353865 18446744073709551616 288230376151711744
    rw [e4, Int.toNat_natCast]
  rw [e3]
  exact Lib.deBruijn64_at _ h2

set_option maxHeartbeats 400000 in
theorem tz_any (x : Nat) (w : World) (h0 : ((x : Int) == 0) = false) (hx : x < 18446744073709551616) (ht : Tab w) :
    Calls Tryd.prog 112 #[.int .u64 x] w fun e w' => e = .returned (.int .i64 (Lib.ctz 64 x : Nat)) ∧ w' = w := by
  obtain ⟨h1, h2⟩ := tz_index x (by intro e; subst e; simp at h0) hx
  have hc := ht _ h1
  rw [h2] at hc
  have hlt : Lib.ctz 64 x < 64 := (Lib.lowest_bit 64 x (by intro e; subst e; simp at h0) hx).2
  generalize Lib.ctz 64 x = z at *
  obtain ⟨q0, q1⟩ := quo_range (bits BinOp.and IntKind.u64 (x : Int) (IntKind.u64.wrap (-(x : Int))) * 285870213051353865)
  clear h1 h2 ht
  go_enter Tryd.func112, Tryd.ntmps112
  go_wp2
  go_ret
  exact ⟨rfl, rfl⟩

/-- What is in one word and not in the other one. -/
def lessW (x y : Nat) : Nat := x &&& (18446744073709551615 - y)

theorem andNot_word (x y : Nat) (hx : x < 18446744073709551616) (hy : y < 18446744073709551616) : bits BinOp.andNot IntKind.u64 (x : Int) (y : Int) = ((lessW x y : Nat) : Int) := u64_andNot_nat x y hx hy

theorem lessW_lt (x y : Nat) (hx : x < 18446744073709551616) : lessW x y < 18446744073709551616 :=
  Nat.lt_of_le_of_lt Nat.and_le_left hx

theorem lessW_bit (x y c : Nat) (hy : y < 18446744073709551616) (hc : c < 64) : (lessW x y).testBit c = (x.testBit c && !y.testBit c) := by
  unfold lessW
  rw [Nat.testBit_and, show 18446744073709551615 - y = 2 ^ 64 - (y + 1) by omega, Nat.testBit_two_pow_sub_succ hy]
  simp [hc]

theorem ctz_bit (z : Nat) (h0 : z ≠ 0) (hz : z < 18446744073709551616) : z.testBit (Lib.ctz 64 z) = true ∧ Lib.ctz 64 z < 64 := by
  obtain ⟨h1, h2⟩ := Lib.lowest_bit 64 z h0 hz
  refine ⟨?_, h2⟩
  have : (z &&& (2 ^ 64 - z)).testBit (Lib.ctz 64 z) = true := by rw [h1]; simp
  rw [Nat.testBit_and, Bool.and_eq_true] at this
  exact this.1

theorem index_five0 (x0 x1 x2 x3 x4 : Value) (w : World) : (Instr.index 87 (.agg #[x0, x1, x2, x3, x4]) (.int .i64 0)).run Tryd.prog w = .ok x0 w := by kernel_rfl
theorem index_five1 (x0 x1 x2 x3 x4 : Value) (w : World) : (Instr.index 87 (.agg #[x0, x1, x2, x3, x4]) (.int .i64 1)).run Tryd.prog w = .ok x1 w := by kernel_rfl
theorem index_five2 (x0 x1 x2 x3 x4 : Value) (w : World) : (Instr.index 87 (.agg #[x0, x1, x2, x3, x4]) (.int .i64 2)).run Tryd.prog w = .ok x2 w := by kernel_rfl
theorem index_five3 (x0 x1 x2 x3 x4 : Value) (w : World) : (Instr.index 87 (.agg #[x0, x1, x2, x3, x4]) (.int .i64 3)).run Tryd.prog w = .ok x3 w := by kernel_rfl
theorem index_five4 (x0 x1 x2 x3 x4 : Value) (w : World) : (Instr.index 87 (.agg #[x0, x1, x2, x3, x4]) (.int .i64 4)).run Tryd.prog w = .ok x4 w := by kernel_rfl

theorem index_five (B : Nat → Nat) (k : Nat) (hk : k < 5) (w : World) : (Instr.index 87 (.agg #[.int .u64 (B 0), .int .u64 (B 1), .int .u64 (B 2), .int .u64 (B 3), .int .u64 (B 4)]) (.int .i64 k)).run Tryd.prog w = .ok (.int .u64 (B k)) w := by
  have h : k = 0 ∨ k = 1 ∨ k = 2 ∨ k = 3 ∨ k = 4 := by omega
  rcases h with rfl | rfl | rfl | rfl | rfl
  · exact index_five0 _ _ _ _ _ w
  · exact index_five1 _ _ _ _ _ w
  · exact index_five2 _ _ _ _ _ w
  · exact index_five3 _ _ _ _ _ w
  · exact index_five4 _ _ _ _ _ w

/-- The first one that is in one set and not in the other one, from word k on. -/
def woutGo (B C : Nat → Nat) : Nat → Nat → Nat × Bool
  | 0, _ => (0, false)
  | fuel + 1, k => if lessW (B k) (C k) = 0 then woutGo B C fuel (k + 1) else (64 * k + Lib.ctz 64 (lessW (B k) (C k)), true)

def wout (B C : Nat → Nat) : Nat × Bool := woutGo B C 5 0

theorem woutGo_spec {B C : Nat → Nat} (hB : Words B) (hC : Words C) : ∀ (fuel k : Nat), k + fuel = 5 →
    ((woutGo B C fuel k).2 = true → (woutGo B C fuel k).1 < 320 ∧ inB B (woutGo B C fuel k).1 = true ∧ inB C (woutGo B C fuel k).1 = false) ∧
    ((woutGo B C fuel k).2 = false → (woutGo B C fuel k).1 = 0 ∧ ∀ t, k ≤ t / 64 → t < 320 → inB B t = true → inB C t = true)
  | 0, k, h => ⟨(fun e => by cases e), fun _ => ⟨rfl, fun t h1 h2 _ => by omega⟩⟩
  | fuel + 1, k, h => by
    by_cases h0 : lessW (B k) (C k) = 0
    · have e : woutGo B C (fuel + 1) k = woutGo B C fuel (k + 1) := by rw [woutGo, if_pos h0]
      rw [e]
      obtain ⟨g1, g2⟩ := woutGo_spec hB hC fuel (k + 1) (by omega)
      refine ⟨g1, fun hf => ⟨(g2 hf).1, fun t h1 h2 h3 => ?_⟩⟩
      by_cases hk : t / 64 = k
      · have hbit := lessW_bit (B k) (C k) (t % 64) (hC k) (Nat.mod_lt _ (by decide))
        unfold inB at h3 ⊢
        rw [hk] at h3 ⊢
        rw [h0, h3] at hbit
        simpa using hbit
      · exact (g2 hf).2 t (by omega) h2 h3
    · have e : woutGo B C (fuel + 1) k = (64 * k + Lib.ctz 64 (lessW (B k) (C k)), true) := by rw [woutGo, if_neg h0]
      rw [e]
      obtain ⟨b1, b2⟩ := ctz_bit _ h0 (lessW_lt (B k) (C k) (hB k))
      generalize Lib.ctz 64 (lessW (B k) (C k)) = c at *
      refine ⟨fun _ => ?_, fun e => by cases e⟩
      rw [lessW_bit _ _ _ (hC k) b2, Bool.and_eq_true, Bool.not_eq_true'] at b1
      have e1 : (64 * k + c) / 64 = k := by omega
      have e2 : (64 * k + c) % 64 = c := by omega
      refine ⟨by show 64 * k + c < 320; omega, ?_, ?_⟩
      · unfold inB; rw [e1, e2]; exact b1.1
      · unfold inB; rw [e1, e2]; exact b1.2

set_option maxRecDepth 100000 in
set_option maxHeartbeats 1000000 in
theorem without_any (B C : Nat → Nat) (w : World) (hB : Words B) (hC : Words C) (ht : Tab w) :
    Calls Tryd.prog 99 #[.agg #[.int .u64 (B 0), .int .u64 (B 1), .int .u64 (B 2), .int .u64 (B 3), .int .u64 (B 4)], .agg #[.int .u64 (C 0), .int .u64 (C 1), .int .u64 (C 2), .int .u64 (C 3), .int .u64 (C 4)]] w fun e w' => e = .returned (.tuple #[.int .i64 (wout B C).1, .bool (wout B C).2]) ∧ Below w.heap.size w w' := by
  have HB := hide hB
  have HC := hide hC
  have HT := hide ht
  clear hB hC ht
  generalize hgo : wout B C = q
  have Hgo : Hid (woutGo B C (5 - 0) 0 = q) := hgo
  clear hgo
  go_enter Tryd.func99, Tryd.ntmps99
  go_wp2
  generalize hW0 : (w.alloc (Obj.cells #[Value.int .u64 (B 0), .int .u64 (B 1), .int .u64 (B 2), .int .u64 (B 3), .int .u64 (B 4)] 89)).alloc (Obj.cells #[Value.int .u64 (C 0), .int .u64 (C 1), .int .u64 (C 2), .int .u64 (C 3), .int .u64 (C 4)] 89) = W0
  have hbW : Below w.heap.size w W0 := by rw [← hW0]; exact (by repeat (first | exact Below.refl _ _ | assumption | refine below_drewN ?_ _ | refine Below.drew ?_ | refine Below.alloc ?_ (by simp <;> omega) _ | refine below_trans ?_ (by assumption)))
  have HcC : Hid (∀ k, k < 5 → W0.cell? ⟨w.heap.size + 1, k, none⟩ = some (.int .u64 (C k))) := fun k hk => by
    rw [← hW0, World.cell?_alloc2_new]; exact five_get C .u64 k hk
  clear hW0
  go_loopw [11] (fun i wr => ∃ k : Nat, k ≤ 5 ∧ i = .int .i64 k ∧ woutGo B C (5 - k) k = q ∧ wr = W0) (fun i _ => 5 - (intOf i).toNat)
  case atStart => exact ⟨0, Nat.zero_le _, rfl, Hgo.out, rfl⟩
  case round =>
    obtain ⟨k, hk, rfl, htk, rfl⟩ := hrel
    have Htk := hide htk
    clear htk
    by_cases hlt : k < 5
    · have hix := index_five B k hlt
      have hcC := HcC.out k hlt
      have hand := andNot_word (B k) (C k) (HB.out k) (HC.out k)
      have Hst : Hid (q = if lessW (B k) (C k) = 0 then woutGo B C (5 - (k + 1)) (k + 1) else (64 * k + Lib.ctz 64 (lessW (B k) (C k)), true)) := by
        show q = _
        rw [← Htk.out, show 5 - k = (5 - (k + 1)) + 1 by omega, woutGo]
      generalize hz : lessW (B k) (C k) = z at hand Hst
      have hzl : z < 18446744073709551616 := by rw [← hz]; exact lessW_lt _ _ (HB.out k)
      clear hz
      generalize hBk : B k = x at hix hand
      generalize hCk : C k = y at hcC hand
      clear hBk hCk
      by_cases h0 : z = 0
      · have hb : ((z : Int) != 0) = false := by rw [bne_eq_false_iff_eq]; omega
        have H0 := hide h0
        clear h0
        go_wp2
        go_roundw
        case rel => exact ⟨k + 1, by omega, by go_num, by rw [Hst.out, if_pos H0.out], by first | rfl | trivial⟩
        case measure => simp [intOf]; omega
      · have hb : ((z : Int) != 0) = true := by rw [bne_iff_ne]; omega
        have Hq : Hid (q = (64 * k + Lib.ctz 64 z, true)) := by show q = _; rw [Hst.out, if_neg h0]
        have HZ := hide (tz_any z _ (by rw [beq_eq_false_iff_ne]; omega) hzl (HT.out.below hbW))
        have hcl : Lib.ctz 64 z < 64 := (ctz_bit z h0 hzl).2
        clear h0 Hst
        generalize hcc : Lib.ctz 64 z = c at *
        clear hcc
        go_wp2_with (fail)
        refine Calls.mono HZ.out ?_
        rintro e w' ⟨rfl, rfl⟩
        go_wp2
        go_ret2
        exact ⟨by rw [Hq.out]; rfl, hbW⟩
    · go_wp2
      go_ret2
      have hq : q = (0, false) := by
        have e : 5 - k = 0 := by omega
        rw [← Htk.out, e]; rfl
      exact ⟨by rw [hq]; rfl, hbW⟩
end Go.Proofs.YtpiacnnifdjlkabDoor

namespace Go.Proofs.YtpiacnnifdjlkabDoor
open Go.RowKit Go.Sort Go.MapKept

/-- All but these blocks is as it was. -/
structure Fr (R : List Nat) (w w' : World) : Prop where
  os : w'.os = w.os
  tape : w'.tape = w.tape
  output : w'.output = w.output
  size : w.heap.size ≤ w'.heap.size
  block : ∀ k, k < w.heap.size → k ∉ R → w'.heap[k]? = w.heap[k]?

theorem Fr.refl (R : List Nat) (w : World) : Fr R w w := ⟨rfl, rfl, rfl, Nat.le_refl _, fun _ _ _ => rfl⟩

theorem Fr.trans {R : List Nat} {a b c : World} (h : Fr R a b) (k : Fr R b c) : Fr R a c :=
  ⟨k.os.trans h.os, k.tape.trans h.tape, k.output.trans h.output, Nat.le_trans h.size k.size, fun i hi hn => (k.block i (Nat.lt_of_lt_of_le hi h.size) hn).trans (h.block i hi hn)⟩

theorem Fr.of_below {R : List Nat} {w w' : World} (h : Below w.heap.size w w') : Fr R w w' := ⟨h.os, h.tape, h.output, h.size, fun k hk _ => h.block k hk⟩

theorem Fr.mono {R R' : List Nat} {w w' : World} (h : Fr R w w') (hs : ∀ k, k ∈ R → k ∈ R') : Fr R' w w' :=
  ⟨h.os, h.tape, h.output, h.size, fun k hk hn => h.block k hk (fun hm => hn (hs k hm))⟩

theorem Fr.cell {R : List Nat} {w w' : World} (h : Fr R w w') {p : Addr} (hp : p.block < w.heap.size) (hn : p.block ∉ R) : w'.cell? p = w.cell? p := World.cell?_of_block (w := w) (h.block p.block hp hn)

theorem Fr.frozen {R : List Nat} {w w' : World} (h : Fr R w w') {p : Addr} (hp : p.block < w.heap.size) (hn : p.block ∉ R) : w'.frozen? p = w.frozen? p := World.frozen?_of_block (w := w) (h.block p.block hp hn)

def stV (B : Nat → Nat) : Value := .agg #[.int .u64 (B 0), .int .u64 (B 1), .int .u64 (B 2), .int .u64 (B 3), .int .u64 (B 4)]

/-- The map in block r has, by place, these sets. -/
def MetAt (w : World) (r : Nat) (M : Nat → Nat → Nat) : Prop :=
  (∀ p, Words (M p)) ∧ ∃ es clock, w.heap[r]? = some (.map es clock) ∧ (∀ e ∈ es.toList, ∃ q : Nat, e.key = .int .i64 q ∧ e.val = stV (M q)) ∧
    (∀ q : Nat, (∀ e ∈ es.toList, e.key ≠ .int .i64 q) → M q = fun _ => 0) ∧ (es.toList.map (·.key)).Nodup

theorem MetAt.lt {w : World} {r : Nat} {M : Nat → Nat → Nat} (h : MetAt w r M) : r < w.heap.size := by
  obtain ⟨_, es, clock, hr, _⟩ := h
  exact (Array.getElem?_eq_some_iff.1 hr).1

theorem MetAt.keep {w w' : World} {r : Nat} {M : Nat → Nat → Nat} (h : MetAt w r M) (hb : w'.heap[r]? = w.heap[r]?) : MetAt w' r M := by
  obtain ⟨hw, es, clock, hr, h2⟩ := h
  exact ⟨hw, es, clock, by rw [hb]; exact hr, h2⟩

theorem MetAt.fr {w w' : World} {r : Nat} {M : Nat → Nat → Nat} {R : List Nat} (h : MetAt w r M) (hb : Fr R w w') (hn : r ∉ R) : MetAt w' r M := h.keep (hb.block r h.lt hn)

theorem MetAt.below {w w' : World} {r : Nat} {M : Nat → Nat → Nat} (h : MetAt w r M) (hb : Below w.heap.size w w') : MetAt w' r M := h.keep (hb.block r h.lt)

theorem find_spec (p : Nat) : ∀ (l : List MapEntry) (i : Nat), (∀ e ∈ l, ∃ q : Nat, e.key = .int .i64 q) →
    (Instr.findNow (.int .i64) (.int .i64 p) l i = some none ∧ ∀ e ∈ l, e.key ≠ .int .i64 p) ∨
    ∃ j e, l[j]? = some e ∧ e.key = .int .i64 p ∧ Instr.findNow (.int .i64) (.int .i64 p) l i = some (some (i + j, e.val))
  | [], i, _ => Or.inl ⟨rfl, by simp⟩
  | e :: l, i, h => by
    obtain ⟨q, hq⟩ := h e (by simp)
    by_cases hpq : p = q
    · right
      subst hpq
      exact ⟨0, e, rfl, hq, by simp [Instr.findNow, Instr.sameNow, hq]⟩
    · have hne : ((p : Int) == (q : Int)) = false := by rw [beq_eq_false_iff_ne]; omega
      have hstep : Instr.findNow (.int .i64) (.int .i64 p) (e :: l) i = Instr.findNow (.int .i64) (.int .i64 p) l (i + 1) := by
        simp [Instr.findNow, Instr.sameNow, hq, hne]
      rcases find_spec p l (i + 1) (fun x hx => h x (by simp [hx])) with ⟨h1, h2⟩ | ⟨j, x, h1, h2, h3⟩
      · left
        refine ⟨by rw [hstep, h1], fun x hx => ?_⟩
        rcases List.mem_cons.1 hx with rfl | hx
        · rw [hq]; intro e; simp at e; omega
        · exact h2 x hx
      · right
        exact ⟨j + 1, x, by simpa using h1, h2, by rw [hstep, h3]; simp; omega⟩

theorem isKey_int (p : Int) : IsKey (.int .i64) (.int .i64 p) := by simp [IsKey]

theorem run_lookup_met {w : World} {r : Nat} {M : Nat → Nat → Nat} (h : MetAt w r M) (p : Nat) : (Instr.lookup 93 (.map (some r)) (.int .i64 p) false).run Tryd.prog w = .ok (stV (M p)) w := by
  obtain ⟨hw, es, clock, hr, hes, hno, hnd⟩ := h
  have hk := run_checkKey (P := Tryd.prog) (w := w) Tryd.underlying3 (isKey_int p) es.isEmpty 9999
  rcases find_spec p es.toList 0 (fun e he => let ⟨q, hq, _⟩ := hes e he; ⟨q, hq⟩) with ⟨h1, h2⟩ | ⟨j, e, h1, h2, h3⟩
  · have hf := run_findKey (P := Tryd.prog) (w := w) Tryd.underlying3 h1
    have hM : M p = fun _ => 0 := hno p h2
    have hz : stV (M p) = .agg #[.int .u64 0, .int .u64 0, .int .u64 0, .int .u64 0, .int .u64 0] := by rw [hM]; rfl
    rw [hz]
    simp [Instr.lookup, run_underlying Tryd.underlying93, Go.MapKept.run_getObj_map hr, hk, hf]
  · have hf := run_findKey (P := Tryd.prog) (w := w) Tryd.underlying3 h3
    have hv : e.val = stV (M p) := by
      obtain ⟨q, hq, hv⟩ := hes e (List.mem_of_getElem? h1)
      rw [h2] at hq
      have : p = q := by simp at hq; omega
      subst this
      exact hv
    rw [hv] at hf
    simp [Instr.lookup, run_underlying Tryd.underlying93, Go.MapKept.run_getObj_map hr, hk, hf]

def updM (M : Nat → Nat → Nat) (p : Nat) (B : Nat → Nat) : Nat → Nat → Nat := fun q => if q = p then B else M q

theorem run_update_met {w : World} {r : Nat} {M : Nat → Nat → Nat} (h : MetAt w r M) (p : Nat) (B : Nat → Nat) (hB : Words B) :
    ∃ w', (Instr.mapUpdate 93 (.map (some r)) (.int .i64 p) (stV B)).run Tryd.prog w = .ok () w' ∧ MetAt w' r (updM M p B) ∧ Fr [r] w w' := by
  obtain ⟨hw, es, clock, hr, hes, hno, hnd⟩ := h
  have hd := Tryd.underlying3
  have hk := isKey_int p
  have hfr : ∀ o, Fr [r] w { w with heap := w.heap.setIfInBounds r o } := fun o =>
    ⟨rfl, rfl, rfl, by simp, fun k _ hn => (heap_set (o' := o) hr).2 k (by simpa using hn)⟩
  have hwm : ∀ q, Words (updM M p B q) := fun q => by
    unfold updM
    split
    · exact hB
    · exact hw q
  rcases find_spec p es.toList 0 (fun e he => let ⟨q, hq, _⟩ := hes e he; ⟨q, hq⟩) with ⟨h1, h2⟩ | ⟨j, e, h1, h2, h3⟩
  · refine ⟨{ w with heap := w.heap.setIfInBounds r (.map (es.push { key := .int .i64 p, val := stV B, born := clock }) (clock + 1)) }, ?_, ⟨hwm, _, _, (heap_set hr).1, ?_, ?_, ?_⟩, hfr _⟩
    · simp [Instr.mapUpdate, run_underlying Tryd.underlying93, Go.MapKept.run_getObj_map hr, Go.MapKept.run_checkKey hd hk, Go.MapKept.run_findKey hd h1, Go.MapKept.run_setObj_map _ hr, Result.andThen]
    · intro x hx
      simp only [Array.toList_push, List.mem_append, List.mem_singleton] at hx
      rcases hx with hx | rfl
      · obtain ⟨q, hq, hv⟩ := hes x hx
        refine ⟨q, hq, ?_⟩
        have : ¬ q = p := by intro e; subst e; exact h2 x hx hq
        unfold updM; rw [if_neg this]; exact hv
      · exact ⟨p, rfl, by unfold updM; rw [if_pos rfl]⟩
    · intro q hq
      have hqp : ¬ q = p := by
        intro e; subst e
        exact hq { key := .int .i64 q, val := stV B, born := clock } (by simp) rfl
      unfold updM; rw [if_neg hqp]
      exact hno q fun x hx => hq x (by simp [Array.toList_push, hx])
    · rw [Array.toList_push, List.map_append, List.nodup_append]
      refine ⟨hnd, by simp, ?_⟩
      intro a ha b hb
      simp at hb
      subst hb
      obtain ⟨x, hx, rfl⟩ := List.mem_map.1 ha
      exact h2 x hx
  · have hj : es[j]? = some e := by simpa using h1
    have hjl : j < es.size := (Array.getElem?_eq_some_iff.1 hj).1
    refine ⟨{ w with heap := w.heap.setIfInBounds r (.map (es.modify j fun e => { e with key := .int .i64 p, val := stV B }) clock) }, ?_, ⟨hwm, _, _, (heap_set hr).1, ?_, ?_, ?_⟩, hfr _⟩
    · rw [Nat.zero_add] at h3
      simp [Instr.mapUpdate, run_underlying Tryd.underlying93, Go.MapKept.run_getObj_map hr, Go.MapKept.run_checkKey hd hk, Go.MapKept.run_findKey hd h3, hj, h2, Go.MapKept.run_keyThatStays hk, Go.MapKept.run_setObj_map _ hr, Result.andThen]
    · intro x hx
      obtain ⟨i, hi⟩ := List.mem_iff_getElem?.1 hx
      rw [Array.getElem?_toList, Array.getElem?_modify] at hi
      by_cases hij : j = i
      · subst hij
        rw [if_pos rfl, hj] at hi
        simp at hi
        subst hi
        exact ⟨p, rfl, by unfold updM; rw [if_pos rfl]⟩
      · rw [if_neg hij] at hi
        have hxm : x ∈ es.toList := by rw [Array.mem_toList_iff]; exact Array.mem_of_getElem? hi
        obtain ⟨q, hq, hv⟩ := hes x hxm
        refine ⟨q, hq, ?_⟩
        have hqp : ¬ q = p := by
          intro e; subst e
          have a1 : (es.toList.map (·.key))[j]? = some (.int .i64 q) := by simp [hj, h2]
          have a2 : (es.toList.map (·.key))[i]? = some (.int .i64 q) := by simp [hi, hq]
          exact hij ((List.getElem?_inj (by simpa using hjl) hnd).1 (a1.trans a2.symm))
        unfold updM; rw [if_neg hqp]; exact hv
    · intro q hq
      have hkeys := Go.MapKept.modify_keys (es := es) j (fun e => { e with key := .int .i64 p, val := stV B }) (fun e' he' => by rw [hj] at he'; cases he'; exact h2.symm)
      have hall : ∀ x ∈ es.toList, x.key ≠ .int .i64 q := by
        intro x hx e1
        have : x.key ∈ (es.modify j fun e => { e with key := .int .i64 p, val := stV B }).toList.map (·.key) := by rw [hkeys]; exact List.mem_map.2 ⟨x, hx, rfl⟩
        obtain ⟨y, hy, e2⟩ := List.mem_map.1 this
        exact hq y hy (e2.trans e1)
      have hqp : ¬ q = p := by
        intro e1; subst e1
        exact hall e (List.mem_of_getElem? h1) h2
      unfold updM; rw [if_neg hqp]
      exact hno q hall
    · rw [Go.MapKept.modify_keys (es := es) j (fun e => { e with key := .int .i64 p, val := stV B }) (fun e' he' => by rw [hj] at he'; cases he'; exact h2.symm)]
      exact hnd
end Go.Proofs.YtpiacnnifdjlkabDoor
