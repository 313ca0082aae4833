/-
  Sets of states as five words of 64 bits: has and with.
-/
import Derived.Test.YtpiacnnifdjlkaaDoorBm
namespace Go.Proofs.YtpiacnnifdjlkaaDoor
open Go.RowKit Go.Sort

theorem five_get (B : Nat → Nat) (k : IntKind) (i : Nat) (h : i < 5) : (#[Value.int k (B 0), .int k (B 1), .int k (B 2), .int k (B 3), .int k (B 4)] : Array Value)[i]? = some (.int k (B i)) := by
  match i, h with
  | 0, _ => rfl
  | 1, _ => rfl
  | 2, _ => rfl
  | 3, _ => rfl
  | 4, _ => rfl

/-- Is a state in the set? -/
def inB (B : Nat → Nat) (s : Nat) : Bool := (B (s / 64)).testBit (s % 64)

def addB (B : Nat → Nat) (s : Nat) : Nat → Nat := fun i => if i = s / 64 then B i ||| 2 ^ (s % 64) else B i

def Words (B : Nat → Nat) : Prop := ∀ i, B i < 18446744073709551616

theorem testBit_word (x k : Nat) (hx : x < 18446744073709551616) : (bits BinOp.and IntKind.u64 ((x : Int) / 2 ^ k) 1 != 0) = x.testBit k := by
  have e1 : (2 : Int) ^ k = ((2 ^ k : Nat) : Int) := by simp
  have e : ((x : Int) / 2 ^ k) = ((x / 2 ^ k : Nat) : Int) := by rw [e1]; exact (Int.natCast_ediv x (2 ^ k)).symm
  have hle : x / 2 ^ k ≤ x := Nat.div_le_self _ _
  rw [e, Nat.testBit_eq_decide_div_mod_eq]
  generalize x / 2 ^ k = y at *
  rw [and_one_u64 _ (by omega) (by omega)]
  rcases Nat.mod_two_eq_zero_or_one y with h | h
  · have h2 : (y : Int) % 2 = 0 := by omega
    rw [h, h2]; rfl
  · have h2 : (y : Int) % 2 = 1 := by omega
    rw [h, h2]; rfl

set_option maxHeartbeats 400000 in
theorem has_any (B : Nat → Nat) (s : Nat) (w : World) (hs : s < 300) (hB : Words B) :
    Calls Tryd.prog 105 #[.agg #[.int .u64 (B 0), .int .u64 (B 1), .int .u64 (B 2), .int .u64 (B 3), .int .u64 (B 4)], .int .i64 s] w fun e w' => e = .returned (.bool (inB B s)) ∧ Below w.heap.size w w' := by
  have hc : (w.alloc (Obj.cells #[Value.int .u64 (B 0), .int .u64 (B 1), .int .u64 (B 2), .int .u64 (B 3), .int .u64 (B 4)] 144)).cell? ⟨w.heap.size, s / 64, none⟩ = some (.int .u64 (B (s / 64))) := by
    rw [World.cell?_alloc_new]; exact five_get B .u64 _ (by omega)
  have hb := hB (s / 64)
  have Hr := hide (testBit_word (B (s / 64)) (s % 64) hb)
  unfold inB
  generalize B (s / 64) = x at *
  have h0 : 0 ≤ (s : Int) % 64 := by omega
  have h1 : (s : Int) % 64 < 64 := by omega
  clear hB
  go_enter Tryd.func105, Tryd.ntmps105
  go_wp2
  go_ret
  exact ⟨by rw [← Hr.out]; rfl, (by repeat (first | exact Below.refl _ _ | assumption | refine below_drewN ?_ _ | refine Below.drew ?_ | refine Below.alloc ?_ (by simp <;> omega) _ | refine below_trans ?_ (by assumption)))⟩

theorem orBit_word (x k : Nat) (hx : x < 18446744073709551616) (hk : k < 64) : bits BinOp.or IntKind.u64 (x : Int) (IntKind.u64.wrap (2 ^ k)) = ((x ||| 2 ^ k : Nat) : Int) := by
  have e1 : (2 : Int) ^ k = ((2 ^ k : Nat) : Int) := by simp
  have hlt : 2 ^ k < 2 ^ 64 := Nat.pow_lt_pow_right (by decide) hk
  have e2 : IntKind.u64.wrap (2 ^ k) = ((2 ^ k : Nat) : Int) := by
    rw [IntKind.wrap_u64, e1]
    generalize 2 ^ k = y at *
    omega
  rw [e2]
  exact bits_or_u64_nat x (2 ^ k) hx (Nat.pow_lt_pow_right (by decide) hk)

theorem addB_words {B : Nat → Nat} (hB : Words B) (s : Nat) : Words (addB B s) := by
  intro i
  unfold addB
  split
  · exact Nat.or_lt_two_pow (n := 64) (hB i) (Nat.pow_lt_pow_right (by decide) (Nat.mod_lt _ (by decide)))
  · exact hB i

theorem inB_add (B : Nat → Nat) (s t : Nat) : inB (addB B s) t = (inB B t || decide (t = s)) := by
  unfold inB addB
  by_cases h : t / 64 = s / 64
  · rw [if_pos h, Nat.testBit_or, Nat.testBit_two_pow]
    congr 1
    by_cases e : t = s
    · subst e; simp
    · have : ¬ s % 64 = t % 64 := by omega
      simp [this, e]
  · rw [if_neg h]
    have : ¬ t = s := by intro e; subst e; exact h rfl
    simp [this]

set_option maxRecDepth 100000 in
set_option maxHeartbeats 1000000 in
theorem with_0 (B : Nat → Nat) (s : Nat) (w : World) (hs : s < 300) (hB : Words B) (hq : s / 64 = 0) :
    Calls Tryd.prog 98 #[.agg #[.int .u64 (B 0), .int .u64 (B 1), .int .u64 (B 2), .int .u64 (B 3), .int .u64 (B 4)], .int .i64 s] w fun e w' => e = .returned (.agg #[.int .u64 (addB B s 0), .int .u64 (addB B s 1), .int .u64 (addB B s 2), .int .u64 (addB B s 3), .int .u64 (addB B s 4)]) ∧ Below w.heap.size w w' := by
  have hqi : (s : Int) / 64 = 0 := by omega
  have h0 : 0 ≤ (s : Int) % 64 := by omega
  have h1 : (s : Int) % 64 < 64 := by omega
  have ho := orBit_word (B 0) (s % 64) (hB 0) (by omega)
  have Hv : Hid ((Value.agg #[.int .u64 (addB B s 0), .int .u64 (addB B s 1), .int .u64 (addB B s 2), .int .u64 (addB B s 3), .int .u64 (addB B s 4)]) = (Value.agg #[.int .u64 (bits BinOp.or IntKind.u64 ((B 0 : Nat) : Int) (IntKind.u64.wrap (2 ^ (s % 64)))), .int .u64 (B 1), .int .u64 (B 2), .int .u64 (B 3), .int .u64 (B 4)])) := by
    show _ = _
    simp [addB, hq, ho]
  rw [Hv.out]
  clear ho
  go_enter Tryd.func98, Tryd.ntmps98
  go_wp2
  go_region
  go_wp2
  exact bodyPost_ret (v := (Value.agg #[.int .u64 (bits BinOp.or IntKind.u64 ((B 0 : Nat) : Int) (IntKind.u64.wrap (2 ^ (s % 64)))), .int .u64 (B 1), .int .u64 (B 2), .int .u64 (B 3), .int .u64 (B 4)])) (by simp [results, Tryd.results98, go_sem]) rfl ⟨rfl, (by repeat (first | exact Below.refl _ _ | assumption | refine below_drewN ?_ _ | refine Below.drew ?_ | refine Below.alloc ?_ (by simp <;> omega) _ | refine below_trans ?_ (by assumption)))⟩

set_option maxRecDepth 100000 in
set_option maxHeartbeats 1000000 in
theorem with_1 (B : Nat → Nat) (s : Nat) (w : World) (hs : s < 300) (hB : Words B) (hq : s / 64 = 1) :
    Calls Tryd.prog 98 #[.agg #[.int .u64 (B 0), .int .u64 (B 1), .int .u64 (B 2), .int .u64 (B 3), .int .u64 (B 4)], .int .i64 s] w fun e w' => e = .returned (.agg #[.int .u64 (addB B s 0), .int .u64 (addB B s 1), .int .u64 (addB B s 2), .int .u64 (addB B s 3), .int .u64 (addB B s 4)]) ∧ Below w.heap.size w w' := by
  have hqi : (s : Int) / 64 = 1 := by omega
  have h0 : 0 ≤ (s : Int) % 64 := by omega
  have h1 : (s : Int) % 64 < 64 := by omega
  have ho := orBit_word (B 1) (s % 64) (hB 1) (by omega)
  have Hv : Hid ((Value.agg #[.int .u64 (addB B s 0), .int .u64 (addB B s 1), .int .u64 (addB B s 2), .int .u64 (addB B s 3), .int .u64 (addB B s 4)]) = (Value.agg #[.int .u64 (B 0), .int .u64 (bits BinOp.or IntKind.u64 ((B 1 : Nat) : Int) (IntKind.u64.wrap (2 ^ (s % 64)))), .int .u64 (B 2), .int .u64 (B 3), .int .u64 (B 4)])) := by
    show _ = _
    simp [addB, hq, ho]
  rw [Hv.out]
  clear ho
  go_enter Tryd.func98, Tryd.ntmps98
  go_wp2
  go_region
  go_wp2
  exact bodyPost_ret (v := (Value.agg #[.int .u64 (B 0), .int .u64 (bits BinOp.or IntKind.u64 ((B 1 : Nat) : Int) (IntKind.u64.wrap (2 ^ (s % 64)))), .int .u64 (B 2), .int .u64 (B 3), .int .u64 (B 4)])) (by simp [results, Tryd.results98, go_sem]) rfl ⟨rfl, (by repeat (first | exact Below.refl _ _ | assumption | refine below_drewN ?_ _ | refine Below.drew ?_ | refine Below.alloc ?_ (by simp <;> omega) _ | refine below_trans ?_ (by assumption)))⟩

set_option maxRecDepth 100000 in
set_option maxHeartbeats 1000000 in
theorem with_2 (B : Nat → Nat) (s : Nat) (w : World) (hs : s < 300) (hB : Words B) (hq : s / 64 = 2) :
    Calls Tryd.prog 98 #[.agg #[.int .u64 (B 0), .int .u64 (B 1), .int .u64 (B 2), .int .u64 (B 3), .int .u64 (B 4)], .int .i64 s] w fun e w' => e = .returned (.agg #[.int .u64 (addB B s 0), .int .u64 (addB B s 1), .int .u64 (addB B s 2), .int .u64 (addB B s 3), .int .u64 (addB B s 4)]) ∧ Below w.heap.size w w' := by
  have hqi : (s : Int) / 64 = 2 := by omega
  have h0 : 0 ≤ (s : Int) % 64 := by omega
  have h1 : (s : Int) % 64 < 64 := by omega
  have ho := orBit_word (B 2) (s % 64) (hB 2) (by omega)
  have Hv : Hid ((Value.agg #[.int .u64 (addB B s 0), .int .u64 (addB B s 1), .int .u64 (addB B s 2), .int .u64 (addB B s 3), .int .u64 (addB B s 4)]) = (Value.agg #[.int .u64 (B 0), .int .u64 (B 1), .int .u64 (bits BinOp.or IntKind.u64 ((B 2 : Nat) : Int) (IntKind.u64.wrap (2 ^ (s % 64)))), .int .u64 (B 3), .int .u64 (B 4)])) := by
    show _ = _
    simp [addB, hq, ho]
  rw [Hv.out]
  clear ho
  go_enter Tryd.func98, Tryd.ntmps98
  go_wp2
  go_region
  go_wp2
  exact bodyPost_ret (v := (Value.agg #[.int .u64 (B 0), .int .u64 (B 1), .int .u64 (bits BinOp.or IntKind.u64 ((B 2 : Nat) : Int) (IntKind.u64.wrap (2 ^ (s % 64)))), .int .u64 (B 3), .int .u64 (B 4)])) (by simp [results, Tryd.results98, go_sem]) rfl ⟨rfl, (by repeat (first | exact Below.refl _ _ | assumption | refine below_drewN ?_ _ | refine Below.drew ?_ | refine Below.alloc ?_ (by simp <;> omega) _ | refine below_trans ?_ (by assumption)))⟩

set_option maxRecDepth 100000 in
set_option maxHeartbeats 1000000 in
theorem with_3 (B : Nat → Nat) (s : Nat) (w : World) (hs : s < 300) (hB : Words B) (hq : s / 64 = 3) :
    Calls Tryd.prog 98 #[.agg #[.int .u64 (B 0), .int .u64 (B 1), .int .u64 (B 2), .int .u64 (B 3), .int .u64 (B 4)], .int .i64 s] w fun e w' => e = .returned (.agg #[.int .u64 (addB B s 0), .int .u64 (addB B s 1), .int .u64 (addB B s 2), .int .u64 (addB B s 3), .int .u64 (addB B s 4)]) ∧ Below w.heap.size w w' := by
  have hqi : (s : Int) / 64 = 3 := by omega
  have h0 : 0 ≤ (s : Int) % 64 := by omega
  have h1 : (s : Int) % 64 < 64 := by omega
  have ho := orBit_word (B 3) (s % 64) (hB 3) (by omega)
  have Hv : Hid ((Value.agg #[.int .u64 (addB B s 0), .int .u64 (addB B s 1), .int .u64 (addB B s 2), .int .u64 (addB B s 3), .int .u64 (addB B s 4)]) = (Value.agg #[.int .u64 (B 0), .int .u64 (B 1), .int .u64 (B 2), .int .u64 (bits BinOp.or IntKind.u64 ((B 3 : Nat) : Int) (IntKind.u64.wrap (2 ^ (s % 64)))), .int .u64 (B 4)])) := by
    show _ = _
    simp [addB, hq, ho]
  rw [Hv.out]
  clear ho
  go_enter Tryd.func98, Tryd.ntmps98
  go_wp2
  go_region
  go_wp2
  exact bodyPost_ret (v := (Value.agg #[.int .u64 (B 0), .int .u64 (B 1), .int .u64 (B 2), .int .u64 (bits BinOp.or IntKind.u64 ((B 3 : Nat) : Int) (IntKind.u64.wrap (2 ^ (s % 64)))), .int .u64 (B 4)])) (by simp [results, Tryd.results98, go_sem]) rfl ⟨rfl, (by repeat (first | exact Below.refl _ _ | assumption | refine below_drewN ?_ _ | refine Below.drew ?_ | refine Below.alloc ?_ (by simp <;> omega) _ | refine below_trans ?_ (by assumption)))⟩

set_option maxRecDepth 100000 in
set_option maxHeartbeats 1000000 in
theorem with_4 (B : Nat → Nat) (s : Nat) (w : World) (hs : s < 300) (hB : Words B) (hq : s / 64 = 4) :
    Calls Tryd.prog 98 #[.agg #[.int .u64 (B 0), .int .u64 (B 1), .int .u64 (B 2), .int .u64 (B 3), .int .u64 (B 4)], .int .i64 s] w fun e w' => e = .returned (.agg #[.int .u64 (addB B s 0), .int .u64 (addB B s 1), .int .u64 (addB B s 2), .int .u64 (addB B s 3), .int .u64 (addB B s 4)]) ∧ Below w.heap.size w w' := by
  have hqi : (s : Int) / 64 = 4 := by omega
  have h0 : 0 ≤ (s : Int) % 64 := by omega
  have h1 : (s : Int) % 64 < 64 := by omega
  have ho := orBit_word (B 4) (s % 64) (hB 4) (by omega)
  have Hv : Hid ((Value.agg #[.int .u64 (addB B s 0), .int .u64 (addB B s 1), .int .u64 (addB B s 2), .int .u64 (addB B s 3), .int .u64 (addB B s 4)]) = (Value.agg #[.int .u64 (B 0), .int .u64 (B 1), .int .u64 (B 2), .int .u64 (B 3), .int .u64 (bits BinOp.or IntKind.u64 ((B 4 : Nat) : Int) (IntKind.u64.wrap (2 ^ (s % 64))))])) := by
    show _ = _
    simp [addB, hq, ho]
  rw [Hv.out]
  clear ho
  go_enter Tryd.func98, Tryd.ntmps98
  go_wp2
  go_region
  go_wp2
  exact bodyPost_ret (v := (Value.agg #[.int .u64 (B 0), .int .u64 (B 1), .int .u64 (B 2), .int .u64 (B 3), .int .u64 (bits BinOp.or IntKind.u64 ((B 4 : Nat) : Int) (IntKind.u64.wrap (2 ^ (s % 64))))])) (by simp [results, Tryd.results98, go_sem]) rfl ⟨rfl, (by repeat (first | exact Below.refl _ _ | assumption | refine below_drewN ?_ _ | refine Below.drew ?_ | refine Below.alloc ?_ (by simp <;> omega) _ | refine below_trans ?_ (by assumption)))⟩

theorem with_any (B : Nat → Nat) (s : Nat) (w : World) (hs : s < 300) (hB : Words B) :
    Calls Tryd.prog 98 #[.agg #[.int .u64 (B 0), .int .u64 (B 1), .int .u64 (B 2), .int .u64 (B 3), .int .u64 (B 4)], .int .i64 s] w fun e w' => e = .returned (.agg #[.int .u64 (addB B s 0), .int .u64 (addB B s 1), .int .u64 (addB B s 2), .int .u64 (addB B s 3), .int .u64 (addB B s 4)]) ∧ Below w.heap.size w w' := by
  by_cases h0 : s / 64 = 0
  · exact with_0 B s w hs hB h0
  by_cases h1 : s / 64 = 1
  · exact with_1 B s w hs hB h1
  by_cases h2 : s / 64 = 2
  · exact with_2 B s w hs hB h2
  by_cases h3 : s / 64 = 3
  · exact with_3 B s w hs hB h3
  · exact with_4 B s w hs hB (by omega)
end Go.Proofs.YtpiacnnifdjlkaaDoor
