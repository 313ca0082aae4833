/-
  The map of signs; what countTemporal, checkNode and formula.Check answer.
-/
import Derived.Test.YtpiacnnifdjlkaaBd
import Derived.Test.YtpiacnnifdjlkaaEa
import Derived.MapKept
namespace Go.Proofs.Ytpiacnnifdjlkaa
open Go.RowKit Go.Sort

/-- A sign: its text, how many parts, does a number stand behind it, is it one of the three, its opposite. -/
structure Sg where
  text : List UInt8
  parts : Int
  num : Bool
  temp : Bool
  opp : Int

def sgV (s : Sg) : Value := .agg #[.string ⟨s.text.toArray⟩, .int .i64 s.parts, .bool s.num, .bool s.temp, .int .i64 s.opp]

def sgOf (k : Int) : Option Sg :=
  if k = 1 then some ⟨[116, 114, 117, 101], 0, false, false, 0⟩ else if k = 2 then some ⟨[112], 0, true, false, 0⟩ else if k = 3 then some ⟨[33], 1, false, false, 0⟩
  else if k = 4 then some ⟨[38], 2, false, false, 5⟩ else if k = 5 then some ⟨[124], 2, false, false, 4⟩ else if k = 6 then some ⟨[88], 1, false, true, 6⟩
  else if k = 7 then some ⟨[85], 2, false, true, 8⟩ else if k = 8 then some ⟨[82], 2, false, true, 7⟩ else none

def sg0 : Sg := ⟨[], 0, false, false, 0⟩

def sgAt (k : Int) (b : Nat) : MapEntry := { key := .int .i64 k, val := sgV ((sgOf k).getD sg0), born := b }

theorem set_last {α : Type} (xs : Array α) (a b : α) : (xs.push a).setIfInBounds xs.size b = xs.push b := by
  apply Array.ext
  · simp
  · intro i h1 h2
    simp only [Array.size_setIfInBounds, Array.size_push] at h1
    rw [Array.getElem_setIfInBounds (by simpa using h1), Array.getElem_push, Array.getElem_push]
    by_cases e : xs.size = i
    · subst e; simp
    · have : i < xs.size := by omega
      simp [e, this]

theorem ins_sign (w : World) (es : Array MapEntry) (c : Nat) (p : Int) (v : Value) (h : Instr.findNow (.int .i64) (.int .i64 p) es.toList 0 = some none) :
    (Instr.mapUpdate 49 (.map (some w.heap.size)) (.int .i64 p) v).run Try.prog (w.alloc (.map es c)) = .ok () (w.alloc (.map (es.push { key := .int .i64 p, val := v, born := c }) (c + 1))) := by
  have hr : (w.alloc (.map es c)).heap[w.heap.size]? = some (.map es c) := heap_alloc_new w _
  have hk : MapKept.IsKey (.int .i64) (.int .i64 p) := by simp [MapKept.IsKey]
  have hd := Try.underlying3
  simp [Instr.mapUpdate, run_underlying Try.underlying49, Go.MapKept.run_getObj_map hr, Go.MapKept.run_checkKey hd hk, Go.MapKept.run_findKey hd h, Go.MapKept.run_setObj_map _ hr, Result.andThen]
  exact congrArg (fun h => ({ w with heap := h } : World)) (set_last w.heap _ _)

set_option maxRecDepth 100000 in
set_option maxHeartbeats 1000000 in
theorem signs_any (w : World) :
    Calls Try.prog 19 #[] w fun e w' => ∃ r, e = .returned (.map (some r)) ∧ w'.heap[r]? = some (.map #[sgAt 1 0, sgAt 2 1, sgAt 3 2, sgAt 4 3, sgAt 5 4, sgAt 6 5, sgAt 7 6, sgAt 8 7] 8) ∧ w.heap.size ≤ r ∧ Below w.heap.size w w' := by
  have h1 := ins_sign w #[] 0 1 (sgV ((sgOf 1).getD sg0)) rfl
  have h2 := ins_sign w #[sgAt 1 0] 1 2 (sgV ((sgOf 2).getD sg0)) rfl
  have h3 := ins_sign w #[sgAt 1 0, sgAt 2 1] 2 3 (sgV ((sgOf 3).getD sg0)) rfl
  have h4 := ins_sign w #[sgAt 1 0, sgAt 2 1, sgAt 3 2] 3 4 (sgV ((sgOf 4).getD sg0)) rfl
  have h5 := ins_sign w #[sgAt 1 0, sgAt 2 1, sgAt 3 2, sgAt 4 3] 4 5 (sgV ((sgOf 5).getD sg0)) rfl
  have h6 := ins_sign w #[sgAt 1 0, sgAt 2 1, sgAt 3 2, sgAt 4 3, sgAt 5 4] 5 6 (sgV ((sgOf 6).getD sg0)) rfl
  have h7 := ins_sign w #[sgAt 1 0, sgAt 2 1, sgAt 3 2, sgAt 4 3, sgAt 5 4, sgAt 6 5] 6 7 (sgV ((sgOf 7).getD sg0)) rfl
  have h8 := ins_sign w #[sgAt 1 0, sgAt 2 1, sgAt 3 2, sgAt 4 3, sgAt 5 4, sgAt 6 5, sgAt 7 6] 7 8 (sgV ((sgOf 8).getD sg0)) rfl
  have hE : ∀ (k : Int) (b : Nat), ({ key := .int .i64 k, val := sgV ((sgOf k).getD sg0), born := b } : MapEntry) = sgAt k b := fun _ _ => rfl
  simp only [List.push_toArray, List.cons_append, List.nil_append, hE, Nat.reduceAdd] at h1 h2 h3 h4 h5 h6 h7 h8
  have e1 : sgV ((sgOf 1).getD sg0) = .agg #[.string ⟨#[116, 114, 117, 101]⟩, .int .i64 0, .bool false, .bool false, .int .i64 0] := rfl
  have e2 : sgV ((sgOf 2).getD sg0) = .agg #[.string ⟨#[112]⟩, .int .i64 0, .bool true, .bool false, .int .i64 0] := rfl
  have e3 : sgV ((sgOf 3).getD sg0) = .agg #[.string ⟨#[33]⟩, .int .i64 1, .bool false, .bool false, .int .i64 0] := rfl
  have e4 : sgV ((sgOf 4).getD sg0) = .agg #[.string ⟨#[38]⟩, .int .i64 2, .bool false, .bool false, .int .i64 5] := rfl
  have e5 : sgV ((sgOf 5).getD sg0) = .agg #[.string ⟨#[124]⟩, .int .i64 2, .bool false, .bool false, .int .i64 4] := rfl
  have e6 : sgV ((sgOf 6).getD sg0) = .agg #[.string ⟨#[88]⟩, .int .i64 1, .bool false, .bool true, .int .i64 6] := rfl
  have e7 : sgV ((sgOf 7).getD sg0) = .agg #[.string ⟨#[85]⟩, .int .i64 2, .bool false, .bool true, .int .i64 8] := rfl
  have e8 : sgV ((sgOf 8).getD sg0) = .agg #[.string ⟨#[82]⟩, .int .i64 2, .bool false, .bool true, .int .i64 7] := rfl
  rw [e1] at h1; rw [e2] at h2; rw [e3] at h3; rw [e4] at h4; rw [e5] at h5; rw [e6] at h6; rw [e7] at h7; rw [e8] at h8
  clear e1 e2 e3 e4 e5 e6 e7 e8 hE
  have hmk : ∀ w : World, (Instr.makeMap 49 none).run Try.prog w = .ok (.map (some w.heap.size)) (w.alloc (.map #[] 0)) := fun _ => rfl
  go_enter Try.func19, Try.ntmps19
  go_wp2_with (fail)
  go_ret
  exact ⟨w.heap.size, rfl, heap_alloc_new w _, Nat.le_refl _, below_new w _⟩

/-- The map of signs lies in this block. -/
def SgMap (w : World) (r : Nat) : Prop := w.heap[r]? = some (.map #[sgAt 1 0, sgAt 2 1, sgAt 3 2, sgAt 4 3, sgAt 5 4, sgAt 6 5, sgAt 7 6, sgAt 8 7] 8)

theorem SgMap.lt {w : World} {r : Nat} (h : SgMap w r) : r < w.heap.size := (Array.getElem?_eq_some_iff.1 h).1

theorem SgMap.below {w w' : World} {r : Nat} (h : SgMap w r) (hb : Below w.heap.size w w') : SgMap w' r := (hb.block r h.lt).trans h

theorem find_sign (k : Int) : (sgOf k = none ∧ Instr.findNow (.int .i64) (.int .i64 k) [sgAt 1 0, sgAt 2 1, sgAt 3 2, sgAt 4 3, sgAt 5 4, sgAt 6 5, sgAt 7 6, sgAt 8 7] 0 = some none) ∨
    ∃ s i, sgOf k = some s ∧ Instr.findNow (.int .i64) (.int .i64 k) [sgAt 1 0, sgAt 2 1, sgAt 3 2, sgAt 4 3, sgAt 5 4, sgAt 6 5, sgAt 7 6, sgAt 8 7] 0 = some (some (i, sgV s)) := by
  by_cases h1 : k = 1
  · subst h1; exact .inr ⟨_, 0, rfl, rfl⟩
  by_cases h2 : k = 2
  · subst h2; exact .inr ⟨_, 1, rfl, rfl⟩
  by_cases h3 : k = 3
  · subst h3; exact .inr ⟨_, 2, rfl, rfl⟩
  by_cases h4 : k = 4
  · subst h4; exact .inr ⟨_, 3, rfl, rfl⟩
  by_cases h5 : k = 5
  · subst h5; exact .inr ⟨_, 4, rfl, rfl⟩
  by_cases h6 : k = 6
  · subst h6; exact .inr ⟨_, 5, rfl, rfl⟩
  by_cases h7 : k = 7
  · subst h7; exact .inr ⟨_, 6, rfl, rfl⟩
  by_cases h8 : k = 8
  · subst h8; exact .inr ⟨_, 7, rfl, rfl⟩
  left
  refine ⟨by simp [sgOf, h1, h2, h3, h4, h5, h6, h7, h8], ?_⟩
  have b1 : (k == 1) = false := by simpa using h1
  have b2 : (k == 2) = false := by simpa using h2
  have b3 : (k == 3) = false := by simpa using h3
  have b4 : (k == 4) = false := by simpa using h4
  have b5 : (k == 5) = false := by simpa using h5
  have b6 : (k == 6) = false := by simpa using h6
  have b7 : (k == 7) = false := by simpa using h7
  have b8 : (k == 8) = false := by simpa using h8
  simp [Instr.findNow, Instr.sameNow, sgAt, b1, b2, b3, b4, b5, b6, b7, b8]

set_option maxRecDepth 100000 in
theorem lookup_none {w : World} {r c : Nat} {es : Array MapEntry} {k : Int} (hr : w.heap[r]? = some (.map es c)) (h : Instr.findNow (.int .i64) (.int .i64 k) es.toList 0 = some none) :
    (Instr.lookup 49 (.map (some r)) (.int .i64 k) false).run Try.prog w = .ok (sgV sg0) w ∧ (Instr.lookup 49 (.map (some r)) (.int .i64 k) true).run Try.prog w = .ok (.tuple #[sgV sg0, .bool false]) w := by
  have hkey : MapKept.IsKey (.int .i64) (.int .i64 k) := by simp [MapKept.IsKey]
  have hk := MapKept.run_checkKey (P := Try.prog) (w := w) Try.underlying3 hkey es.isEmpty 9999
  have hf := MapKept.run_findKey (P := Try.prog) (w := w) Try.underlying3 h
  have hz : sgV sg0 = .agg #[.string ⟨#[]⟩, .int .i64 0, .bool false, .bool false, .int .i64 0] := rfl
  have hzz : (zeroValue 53 : Sem Value).run Try.prog w = .ok (.agg #[.string ⟨#[]⟩, .int .i64 0, .bool false, .bool false, .int .i64 0]) w := rfl
  rw [hz]
  constructor
  · simp [Instr.lookup, run_underlying Try.underlying49, Go.MapKept.run_getObj_map hr, hk, hf, hzz]
  · simp [Instr.lookup, run_underlying Try.underlying49, Go.MapKept.run_getObj_map hr, hk, hf, hzz]

theorem lookup_some {w : World} {r c i : Nat} {es : Array MapEntry} {k : Int} {v : Value} (hr : w.heap[r]? = some (.map es c)) (h : Instr.findNow (.int .i64) (.int .i64 k) es.toList 0 = some (some (i, v))) :
    (Instr.lookup 49 (.map (some r)) (.int .i64 k) false).run Try.prog w = .ok v w ∧ (Instr.lookup 49 (.map (some r)) (.int .i64 k) true).run Try.prog w = .ok (.tuple #[v, .bool true]) w := by
  have hkey : MapKept.IsKey (.int .i64) (.int .i64 k) := by simp [MapKept.IsKey]
  have hk := MapKept.run_checkKey (P := Try.prog) (w := w) Try.underlying3 hkey es.isEmpty 9999
  have hf := MapKept.run_findKey (P := Try.prog) (w := w) Try.underlying3 h
  constructor
  · simp [Instr.lookup, run_underlying Try.underlying49, Go.MapKept.run_getObj_map hr, hk, hf]
  · simp [Instr.lookup, run_underlying Try.underlying49, Go.MapKept.run_getObj_map hr, hk, hf]

theorem run_lookup_sign {w : World} {r : Nat} (h : SgMap w r) (k : Int) :
    (Instr.lookup 49 (.map (some r)) (.int .i64 k) false).run Try.prog w = .ok (sgV ((sgOf k).getD sg0)) w ∧ (Instr.lookup 49 (.map (some r)) (.int .i64 k) true).run Try.prog w = .ok (.tuple #[sgV ((sgOf k).getD sg0), .bool (sgOf k).isSome]) w := by
  rcases find_sign k with ⟨h1, h2⟩ | ⟨s, i, h1, h2⟩
  · rw [h1]; exact lookup_none h h2
  · rw [h1]; exact lookup_some h h2

set_option maxHeartbeats 400000 in
theorem ahead_any (x n : Int) (a : Addr) (w : World) (ha : w.cell? a = some (.int .i64 n)) :
    Calls Try.prog 29 #[.int .i64 x, .pointer (some a)] w fun e w' => e = .returned (.bool (decide (0 ≤ x ∧ x < n))) ∧ w' = w := by
  by_cases h1 : 0 ≤ x
  · go_enter Try.func29, Try.ntmps29
    go_wp2
    go_ret
    exact ⟨by simp [h1], rfl⟩
  · have h2 : x < 0 := by omega
    have e : decide (0 ≤ x ∧ x < n) = false := by simp; omega
    rw [e]
    clear h1 e
    go_enter Try.func29, Try.ntmps29
    go_wp2
    go_ret
    exact ⟨rfl, rfl⟩

end Go.Proofs.Ytpiacnnifdjlkaa
