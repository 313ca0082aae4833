/-
  What formula.Check answers.
-/
import Derived.Test.YtpiacnnifdjlkaaDoorEb
/-
  What checkNode answers.
-/
namespace Go.Proofs.YtpiacnnifdjlkaaDoor
open Go.RowKit Go.Sort

theorem cell_under (w : World) (o : Obj) {a : Addr} {v : Value} (h : w.cell? a = some v) : (w.alloc o).cell? a = some v := by
  rw [(below_new w o).cell (World.block_lt_of_cell? w _ h)]; exact h

/-- What is told of a node of that number. -/
def chkN (x : Nd) (i : Int) : Int :=
  if (3 ≤ x.k ∧ x.k ≤ 8) ∧ ¬ (0 ≤ x.a ∧ x.a < i) ∨ (x.k = 4 ∨ x.k = 5 ∨ x.k = 7 ∨ x.k = 8) ∧ ¬ (0 ≤ x.b ∧ x.b < i) then 5
  else if x.k = 2 ∧ ¬ (0 ≤ x.n ∧ x.n ≤ 2) then 3
  else if ¬ (3 ≤ x.k ∧ x.k ≤ 8) ∧ x.a ≠ 0 ∨ ¬ (x.k = 4 ∨ x.k = 5 ∨ x.k = 7 ∨ x.k = 8) ∧ x.b ≠ 0 ∨ x.k ≠ 2 ∧ x.n ≠ 0 then 1 else 0

set_option maxRecDepth 100000 in
set_option maxHeartbeats 1000000 in
theorem checkNode_two (k a b n i : Int) (t : List UInt8) (tp : Bool) (o : Int) (w : World) :
    Calls Tryd.prog 81 #[.agg #[.int .i64 k, .int .i64 a, .int .i64 b, .int .i64 n], .int .i64 i, .agg #[.string ⟨t.toArray⟩, .int .i64 2, .bool false, .bool tp, .int .i64 o]] w fun e w' => e = .returned (.int .i64 (if (0 ≤ a ∧ a < i) ∧ 0 ≤ b ∧ b < i then if n = 0 then 0 else 1 else 5)) ∧ Below w.heap.size w w' := by
  have hmf : ∀ (fn : Fn) (first cap : Array Value) (w : World), (Instr.makeFunc fn first cap).run Tryd.prog w = .ok (.func fn first cap) w := fun _ _ _ _ => rfl
  by_cases ha : 0 ≤ a ∧ a < i
  · have da : decide (0 ≤ a ∧ a < i) = true := by simp [ha]
    by_cases hb : 0 ≤ b ∧ b < i
    · have db : decide (0 ≤ b ∧ b < i) = true := by simp [hb]
      rw [if_pos ⟨ha, hb⟩]
      clear ha hb
      by_cases hn : n = 0
      · have bn : (n != 0) = false := by simpa using hn
        rw [if_pos hn]
        clear hn
        go_enter Tryd.func81, Tryd.ntmps81
        go_wp2_with (fail)
        refine (ahead_any a i _ _ ?_).mono ?_; exact cell_under _ _ (by simp)
        rintro e w' ⟨rfl, rfl⟩
        rw [da]
        go_wp2_with (fail)
        refine (ahead_any b i _ _ ?_).mono ?_; exact cell_under _ _ (by simp)
        rintro e w' ⟨rfl, rfl⟩
        rw [db]
        go_wp2_with (fail)
        go_ret
        exact ⟨rfl, (by repeat (first | exact Below.refl _ _ | assumption | refine below_drewN ?_ _ | refine Below.drew ?_ | refine Below.alloc ?_ (by simp <;> omega) _ | refine below_trans ?_ (by assumption)))⟩
      · have bn : (n != 0) = true := by simpa using hn
        rw [if_neg hn]
        clear hn
        go_enter Tryd.func81, Tryd.ntmps81
        go_wp2_with (fail)
        refine (ahead_any a i _ _ ?_).mono ?_; exact cell_under _ _ (by simp)
        rintro e w' ⟨rfl, rfl⟩
        rw [da]
        go_wp2_with (fail)
        refine (ahead_any b i _ _ ?_).mono ?_; exact cell_under _ _ (by simp)
        rintro e w' ⟨rfl, rfl⟩
        rw [db]
        go_wp2_with (fail)
        go_ret
        exact ⟨rfl, (by repeat (first | exact Below.refl _ _ | assumption | refine below_drewN ?_ _ | refine Below.drew ?_ | refine Below.alloc ?_ (by simp <;> omega) _ | refine below_trans ?_ (by assumption)))⟩
    · have db : decide (0 ≤ b ∧ b < i) = false := by simpa using hb
      rw [if_neg (fun h => hb h.2)]
      clear ha hb
      go_enter Tryd.func81, Tryd.ntmps81
      go_wp2_with (fail)
      refine (ahead_any a i _ _ ?_).mono ?_; exact cell_under _ _ (by simp)
      rintro e w' ⟨rfl, rfl⟩
      rw [da]
      go_wp2_with (fail)
      refine (ahead_any b i _ _ ?_).mono ?_; exact cell_under _ _ (by simp)
      rintro e w' ⟨rfl, rfl⟩
      rw [db]
      go_wp2_with (fail)
      go_ret
      exact ⟨rfl, (by repeat (first | exact Below.refl _ _ | assumption | refine below_drewN ?_ _ | refine Below.drew ?_ | refine Below.alloc ?_ (by simp <;> omega) _ | refine below_trans ?_ (by assumption)))⟩
  · have da : decide (0 ≤ a ∧ a < i) = false := by simpa using ha
    rw [if_neg (fun h => ha h.1)]
    clear ha
    go_enter Tryd.func81, Tryd.ntmps81
    go_wp2_with (fail)
    refine (ahead_any a i _ _ ?_).mono ?_; exact cell_under _ _ (by simp)
    rintro e w' ⟨rfl, rfl⟩
    rw [da]
    go_wp2_with (fail)
    go_ret
    exact ⟨rfl, (by repeat (first | exact Below.refl _ _ | assumption | refine below_drewN ?_ _ | refine Below.drew ?_ | refine Below.alloc ?_ (by simp <;> omega) _ | refine below_trans ?_ (by assumption)))⟩

set_option maxRecDepth 100000 in
set_option maxHeartbeats 1000000 in
theorem checkNode_one (k a b n i : Int) (t : List UInt8) (tp : Bool) (o : Int) (w : World) :
    Calls Tryd.prog 81 #[.agg #[.int .i64 k, .int .i64 a, .int .i64 b, .int .i64 n], .int .i64 i, .agg #[.string ⟨t.toArray⟩, .int .i64 1, .bool false, .bool tp, .int .i64 o]] w fun e w' => e = .returned (.int .i64 (if 0 ≤ a ∧ a < i then if b = 0 then if n = 0 then 0 else 1 else 1 else 5)) ∧ Below w.heap.size w w' := by
  have hmf : ∀ (fn : Fn) (first cap : Array Value) (w : World), (Instr.makeFunc fn first cap).run Tryd.prog w = .ok (.func fn first cap) w := fun _ _ _ _ => rfl
  by_cases ha : 0 ≤ a ∧ a < i
  · have da : decide (0 ≤ a ∧ a < i) = true := by simp [ha]
    rw [if_pos ha]
    clear ha
    by_cases hb : b = 0
    · have bb : (b != 0) = false := by simpa using hb
      rw [if_pos hb]
      clear hb
      by_cases hn : n = 0
      · have bn : (n != 0) = false := by simpa using hn
        rw [if_pos hn]
        clear hn
        go_enter Tryd.func81, Tryd.ntmps81
        go_wp2_with (fail)
        refine (ahead_any a i _ _ ?_).mono ?_; exact cell_under _ _ (by simp)
        rintro e w' ⟨rfl, rfl⟩
        rw [da]
        go_wp2_with (fail)
        go_ret
        exact ⟨rfl, (by repeat (first | exact Below.refl _ _ | assumption | refine below_drewN ?_ _ | refine Below.drew ?_ | refine Below.alloc ?_ (by simp <;> omega) _ | refine below_trans ?_ (by assumption)))⟩
      · have bn : (n != 0) = true := by simpa using hn
        rw [if_neg hn]
        clear hn
        go_enter Tryd.func81, Tryd.ntmps81
        go_wp2_with (fail)
        refine (ahead_any a i _ _ ?_).mono ?_; exact cell_under _ _ (by simp)
        rintro e w' ⟨rfl, rfl⟩
        rw [da]
        go_wp2_with (fail)
        go_ret
        exact ⟨rfl, (by repeat (first | exact Below.refl _ _ | assumption | refine below_drewN ?_ _ | refine Below.drew ?_ | refine Below.alloc ?_ (by simp <;> omega) _ | refine below_trans ?_ (by assumption)))⟩
    · have bb : (b != 0) = true := by simpa using hb
      rw [if_neg hb]
      clear hb
      go_enter Tryd.func81, Tryd.ntmps81
      go_wp2_with (fail)
      refine (ahead_any a i _ _ ?_).mono ?_; exact cell_under _ _ (by simp)
      rintro e w' ⟨rfl, rfl⟩
      rw [da]
      go_wp2_with (fail)
      go_ret
      exact ⟨rfl, (by repeat (first | exact Below.refl _ _ | assumption | refine below_drewN ?_ _ | refine Below.drew ?_ | refine Below.alloc ?_ (by simp <;> omega) _ | refine below_trans ?_ (by assumption)))⟩
  · have da : decide (0 ≤ a ∧ a < i) = false := by simpa using ha
    rw [if_neg ha]
    clear ha
    go_enter Tryd.func81, Tryd.ntmps81
    go_wp2_with (fail)
    refine (ahead_any a i _ _ ?_).mono ?_; exact cell_under _ _ (by simp)
    rintro e w' ⟨rfl, rfl⟩
    rw [da]
    go_wp2_with (fail)
    go_ret
    exact ⟨rfl, (by repeat (first | exact Below.refl _ _ | assumption | refine below_drewN ?_ _ | refine Below.drew ?_ | refine Below.alloc ?_ (by simp <;> omega) _ | refine below_trans ?_ (by assumption)))⟩

set_option maxRecDepth 100000 in
set_option maxHeartbeats 1000000 in
theorem checkNode_leaf (k a b n i : Int) (t : List UInt8) (nm tp : Bool) (o : Int) (w : World) :
    Calls Tryd.prog 81 #[.agg #[.int .i64 k, .int .i64 a, .int .i64 b, .int .i64 n], .int .i64 i, .agg #[.string ⟨t.toArray⟩, .int .i64 0, .bool nm, .bool tp, .int .i64 o]] w fun e w' => e = .returned (.int .i64 (if nm = true ∧ ¬ (0 ≤ n ∧ n ≤ 2) then 3 else if a = 0 ∧ b = 0 ∧ (nm = true ∨ n = 0) then 0 else 1)) ∧ Below w.heap.size w w' := by
  have hmf : ∀ (fn : Fn) (first cap : Array Value) (w : World), (Instr.makeFunc fn first cap).run Tryd.prog w = .ok (.func fn first cap) w := fun _ _ _ _ => rfl
  by_cases hn : nm = true ∧ ¬ (0 ≤ n ∧ n ≤ 2)
  · rw [if_pos hn]
    obtain ⟨rfl, hn⟩ := hn
    by_cases h0 : n < 0
    · clear hn
      go_enter Tryd.func81, Tryd.ntmps81
      go_wp2_with (fail)
      go_ret
      exact ⟨rfl, (by repeat (first | exact Below.refl _ _ | assumption | refine below_drewN ?_ _ | refine Below.drew ?_ | refine Below.alloc ?_ (by simp <;> omega) _ | refine below_trans ?_ (by assumption)))⟩
    · have h1 : 0 ≤ n := by omega
      have h2 : 3 ≤ n := by omega
      clear hn h0
      go_enter Tryd.func81, Tryd.ntmps81
      go_wp2_with (fail)
      go_ret
      exact ⟨rfl, (by repeat (first | exact Below.refl _ _ | assumption | refine below_drewN ?_ _ | refine Below.drew ?_ | refine Below.alloc ?_ (by simp <;> omega) _ | refine below_trans ?_ (by assumption)))⟩
  rw [if_neg hn]
  have hnn : nm = false ∨ (0 ≤ n ∧ n < 3) := by
    cases nm
    · exact Or.inl rfl
    · right; simp at hn; omega
  clear hn
  by_cases h : a = 0 ∧ b = 0 ∧ (nm = true ∨ n = 0)
  · rw [if_pos h]
    obtain ⟨ha, hb, hn⟩ := h
    have ba : (a != 0) = false := by simpa using ha
    have bb : (b != 0) = false := by simpa using hb
    clear ha hb
    rcases hnn with rfl | ⟨h1, h2⟩
    · have bn : (n != 0) = false := by simpa using hn
      clear hn
      go_enter Tryd.func81, Tryd.ntmps81
      go_wp2_with (fail)
      go_ret
      exact ⟨rfl, (by repeat (first | exact Below.refl _ _ | assumption | refine below_drewN ?_ _ | refine Below.drew ?_ | refine Below.alloc ?_ (by simp <;> omega) _ | refine below_trans ?_ (by assumption)))⟩
    · cases nm with
      | true =>
        clear hn
        go_enter Tryd.func81, Tryd.ntmps81
        go_wp2_with (fail)
        go_ret
        exact ⟨rfl, (by repeat (first | exact Below.refl _ _ | assumption | refine below_drewN ?_ _ | refine Below.drew ?_ | refine Below.alloc ?_ (by simp <;> omega) _ | refine below_trans ?_ (by assumption)))⟩
      | false =>
        have bn : (n != 0) = false := by simpa using hn
        clear hn
        go_enter Tryd.func81, Tryd.ntmps81
        go_wp2_with (fail)
        go_ret
        exact ⟨rfl, (by repeat (first | exact Below.refl _ _ | assumption | refine below_drewN ?_ _ | refine Below.drew ?_ | refine Below.alloc ?_ (by simp <;> omega) _ | refine below_trans ?_ (by assumption)))⟩
  · rw [if_neg h]
    by_cases ha : a = 0
    · have ba : (a != 0) = false := by simpa using ha
      by_cases hb : b = 0
      · have bb : (b != 0) = false := by simpa using hb
        have hf : nm = false := by
          cases nm
          · rfl
          · exact absurd ⟨ha, hb, Or.inl rfl⟩ h
        subst hf
        have bn : (n != 0) = true := by
          rw [bne_iff_ne]; intro e; exact h ⟨ha, hb, Or.inr e⟩
        clear h ha hb hnn
        go_enter Tryd.func81, Tryd.ntmps81
        go_wp2_with (fail)
        go_ret
        exact ⟨rfl, (by repeat (first | exact Below.refl _ _ | assumption | refine below_drewN ?_ _ | refine Below.drew ?_ | refine Below.alloc ?_ (by simp <;> omega) _ | refine below_trans ?_ (by assumption)))⟩
      · have bb : (b != 0) = true := by simpa using hb
        clear h ha hb
        rcases hnn with rfl | ⟨h1, h2⟩
        · go_enter Tryd.func81, Tryd.ntmps81
          go_wp2_with (fail)
          go_ret
          exact ⟨rfl, (by repeat (first | exact Below.refl _ _ | assumption | refine below_drewN ?_ _ | refine Below.drew ?_ | refine Below.alloc ?_ (by simp <;> omega) _ | refine below_trans ?_ (by assumption)))⟩
        · cases nm with
          | true =>
            go_enter Tryd.func81, Tryd.ntmps81
            go_wp2_with (fail)
            go_ret
            exact ⟨rfl, (by repeat (first | exact Below.refl _ _ | assumption | refine below_drewN ?_ _ | refine Below.drew ?_ | refine Below.alloc ?_ (by simp <;> omega) _ | refine below_trans ?_ (by assumption)))⟩
          | false =>
            go_enter Tryd.func81, Tryd.ntmps81
            go_wp2_with (fail)
            go_ret
            exact ⟨rfl, (by repeat (first | exact Below.refl _ _ | assumption | refine below_drewN ?_ _ | refine Below.drew ?_ | refine Below.alloc ?_ (by simp <;> omega) _ | refine below_trans ?_ (by assumption)))⟩
    · have ba : (a != 0) = true := by simpa using ha
      clear h ha
      rcases hnn with rfl | ⟨h1, h2⟩
      · go_enter Tryd.func81, Tryd.ntmps81
        go_wp2_with (fail)
        go_ret
        exact ⟨rfl, (by repeat (first | exact Below.refl _ _ | assumption | refine below_drewN ?_ _ | refine Below.drew ?_ | refine Below.alloc ?_ (by simp <;> omega) _ | refine below_trans ?_ (by assumption)))⟩
      · cases nm with
        | true =>
          go_enter Tryd.func81, Tryd.ntmps81
          go_wp2_with (fail)
          go_ret
          exact ⟨rfl, (by repeat (first | exact Below.refl _ _ | assumption | refine below_drewN ?_ _ | refine Below.drew ?_ | refine Below.alloc ?_ (by simp <;> omega) _ | refine below_trans ?_ (by assumption)))⟩
        | false =>
          go_enter Tryd.func81, Tryd.ntmps81
          go_wp2_with (fail)
          go_ret
          exact ⟨rfl, (by repeat (first | exact Below.refl _ _ | assumption | refine below_drewN ?_ _ | refine Below.drew ?_ | refine Below.alloc ?_ (by simp <;> omega) _ | refine below_trans ?_ (by assumption)))⟩

theorem ret_same {a b : Int} {e : Ending} (h : e = .returned (.int .i64 a)) (hab : a = b) : e = .returned (.int .i64 b) := by rw [h, hab]

theorem checkNode_any (x : Nd) (i : Int) (s : Sg) (hs : sgOf x.k = some s) (w : World) :
    Calls Tryd.prog 81 #[.agg #[.int .i64 x.k, .int .i64 x.a, .int .i64 x.b, .int .i64 x.n], .int .i64 i, sgV s] w fun e w' => e = .returned (.int .i64 (chkN x i)) ∧ Below w.heap.size w w' := by
  obtain ⟨k, a, b, n⟩ := x
  dsimp only at hs ⊢
  unfold sgOf at hs
  by_cases h1 : k = 1
  · subst h1; cases hs
    refine (checkNode_leaf 1 a b n i _ false false 0 w).mono fun e w' h => ⟨ret_same h.1 ?_, h.2⟩
    simp [chkN]; repeat' split
    all_goals first | rfl | (exfalso; omega)
  by_cases h2 : k = 2
  · subst h2; cases hs
    refine (checkNode_leaf 2 a b n i _ true false 0 w).mono fun e w' h => ⟨ret_same h.1 ?_, h.2⟩
    simp [chkN]; repeat' split
    all_goals first | rfl | (exfalso; omega)
  by_cases h3 : k = 3
  · subst h3; cases hs
    refine (checkNode_one 3 a b n i _ false 0 w).mono fun e w' h => ⟨ret_same h.1 ?_, h.2⟩
    simp [chkN]; repeat' split
    all_goals first | rfl | (exfalso; omega)
  by_cases h4 : k = 4
  · subst h4; cases hs
    refine (checkNode_two 4 a b n i _ false 5 w).mono fun e w' h => ⟨ret_same h.1 ?_, h.2⟩
    simp [chkN]; repeat' split
    all_goals first | rfl | (exfalso; omega)
  by_cases h5 : k = 5
  · subst h5; cases hs
    refine (checkNode_two 5 a b n i _ false 4 w).mono fun e w' h => ⟨ret_same h.1 ?_, h.2⟩
    simp [chkN]; repeat' split
    all_goals first | rfl | (exfalso; omega)
  by_cases h6 : k = 6
  · subst h6; cases hs
    refine (checkNode_one 6 a b n i _ true 6 w).mono fun e w' h => ⟨ret_same h.1 ?_, h.2⟩
    simp [chkN]; repeat' split
    all_goals first | rfl | (exfalso; omega)
  by_cases h7 : k = 7
  · subst h7; cases hs
    refine (checkNode_two 7 a b n i _ true 8 w).mono fun e w' h => ⟨ret_same h.1 ?_, h.2⟩
    simp [chkN]; repeat' split
    all_goals first | rfl | (exfalso; omega)
  by_cases h8 : k = 8
  · subst h8; cases hs
    refine (checkNode_two 8 a b n i _ true 7 w).mono fun e w' h => ⟨ret_same h.1 ?_, h.2⟩
    simp [chkN]; repeat' split
    all_goals first | rfl | (exfalso; omega)
  simp [h1, h2, h3, h4, h5, h6, h7, h8] at hs
end Go.Proofs.YtpiacnnifdjlkaaDoor

/-
  A formula as it lies in memory; what countTemporal and formula.Check answer.
-/
namespace Go.Proofs.YtpiacnnifdjlkaaDoor
open Go.RowKit Go.Sort

/-- A slice of nodes that reads as this list. -/
def NodeSl (w : World) (v : Value) (zs : List Nd) : Prop :=
  ∃ a cap, v = .slice a zs.length cap ∧ zs.length ≤ maxLen ∧ (zs = [] ∨ ∃ b off, a = some ⟨b, off, none⟩ ∧ ∀ i, i < zs.length → w.cell? ⟨b, off + i * 4, none⟩ = some (.int .i64 (zs.getD i nd0).k) ∧ w.cell? ⟨b, off + i * 4 + 1, none⟩ = some (.int .i64 (zs.getD i nd0).a) ∧ w.cell? ⟨b, off + i * 4 + 2, none⟩ = some (.int .i64 (zs.getD i nd0).b) ∧ w.cell? ⟨b, off + i * 4 + 3, none⟩ = some (.int .i64 (zs.getD i nd0).n)) ∧ (a = none → cap = 0) ∧ zs.length ≤ cap

theorem NodeSl.below {w w' : World} {v : Value} {zs : List Nd} (h : NodeSl w v zs) (hb : Below w.heap.size w w') : NodeSl w' v zs := by
  obtain ⟨a, cap, rfl, hm, h, hn⟩ := h
  refine ⟨a, cap, rfl, hm, ?_, hn⟩
  rcases h with h | ⟨b, off, rfl, hc⟩
  · exact Or.inl h
  · refine Or.inr ⟨b, off, rfl, fun i hi => ?_⟩
    obtain ⟨h1, h2, h3, h4⟩ := hc i hi
    refine ⟨?_, ?_, ?_, ?_⟩
    · rw [hb.cell (World.block_lt_of_cell? w _ h1)]; exact h1
    · rw [hb.cell (World.block_lt_of_cell? w _ h2)]; exact h2
    · rw [hb.cell (World.block_lt_of_cell? w _ h3)]; exact h3
    · rw [hb.cell (World.block_lt_of_cell? w _ h4)]; exact h4

def tmpB (k : Int) : Bool := decide (6 ≤ k ∧ k ≤ 8)

def cntT (F : List Nd) : Nat := (F.filter fun x => tmpB x.k).length

theorem cntT_snoc (F : List Nd) (m : Nat) (hm : m < F.length) : cntT (F.take (m + 1)) = cntT (F.take m) + if tmpB (F.getD m nd0).k = true then 1 else 0 := by
  have e : F.take (m + 1) = F.take m ++ [F.getD m nd0] := by
    rw [List.take_succ_eq_append_getElem hm]
    simp [List.getD, hm]
  unfold cntT
  rw [e, List.filter_append, List.length_append]
  generalize F.getD m nd0 = x
  cases h : tmpB x.k <;> simp [h]

theorem cntT_le (F : List Nd) : cntT F ≤ F.length := List.length_filter_le _ _

theorem sgOf_temp (k : Int) : ((sgOf k).getD sg0).temp = tmpB k := by
  unfold sgOf tmpB
  by_cases h1 : k = 1
  · subst h1; rfl
  by_cases h2 : k = 2
  · subst h2; rfl
  by_cases h3 : k = 3
  · subst h3; rfl
  by_cases h4 : k = 4
  · subst h4; rfl
  by_cases h5 : k = 5
  · subst h5; rfl
  by_cases h6 : k = 6
  · subst h6; rfl
  by_cases h7 : k = 7
  · subst h7; rfl
  by_cases h8 : k = 8
  · subst h8; rfl
  simp [h1, h2, h3, h4, h5, h6, h7, h8, sg0]; omega

set_option maxRecDepth 100000 in
set_option maxHeartbeats 1000000 in
theorem countTemporal_any {w : World} {v : Value} {F : List Nd} {r : Nat} (hv : NodeSl w v F) (hr : SgMap w r) :
    Calls Tryd.prog 80 #[v, .map (some r)] w fun e w' => e = .returned (.int .i64 (cntT F)) ∧ Below w.heap.size w w' := by
  have HL : Hid (∀ w1, Below w.heap.size w w1 → ∀ k, _) := fun w1 hb k => (run_lookup_sign (hr.below hb) k).1
  obtain ⟨a, cap, rfl, hm, hc, -⟩ := hv
  unfold maxLen at hm
  have hfd : ∀ (a b c d e : Value) (w : World), (Instr.field 119 (.agg #[a, b, c, d, e]) 3).run Tryd.prog w = .ok d w := fun _ _ _ _ _ _ => rfl
  go_enter Tryd.func80, Tryd.ntmps80
  go_wp2_with (fail)
  go_loopw [5, 10] (fun c i wr => ∃ m : Nat, m ≤ F.length ∧ i = .int .i64 m ∧ c = .int .i64 (cntT (F.take m)) ∧ Below w.heap.size w wr) (fun _ i _ => F.length - (intOf i).toNat)
  case atStart => exact ⟨0, Nat.zero_le _, rfl, rfl, Below.refl _ _⟩
  case round =>
    obtain ⟨m, hml, rfl, rfl, hbw⟩ := hrel
    by_cases hlt : m < F.length
    · rcases hc with hc | ⟨b, off, rfl, hc⟩
      · subst hc; simp at hlt
      obtain ⟨c0, c1, c2, c3⟩ := hc m hlt
      rw [← hbw.cell (World.block_lt_of_cell? w _ c0)] at c0
      rw [← hbw.cell (World.block_lt_of_cell? w _ c1)] at c1
      rw [← hbw.cell (World.block_lt_of_cell? w _ c2)] at c2
      rw [← hbw.cell (World.block_lt_of_cell? w _ c3)] at c3
      have hs := cntT_snoc F m hlt
      have hl1 := cntT_le (F.take m)
      have hl2 : (F.take m).length ≤ m := List.length_take_le _ _
      generalize hx : F.getD m nd0 = x at *
      have hlk := HL.out _ (below_trans hbw (below_new wr (Obj.cells #[.int .i64 x.k, .int .i64 x.a, .int .i64 x.b, .int .i64 x.n] 74))) x.k
      have ht := sgOf_temp x.k
      clear hc hx
      obtain ⟨k, xa, xb, xn⟩ := x
      dsimp only at *
      unfold sgV at hlk
      rw [ht] at hlk
      clear ht
      generalize (sgOf k).getD sg0 = s at *
      have Hs : Hid _ := hs
      clear hs
      generalize hct : cntT (F.take m) = c at *
      have Hct : Hid (cntT (F.take m) = c) := hct
      clear hct
      have hbn := below_trans hbw (below_new wr (Obj.cells #[.int .i64 k, .int .i64 xa, .int .i64 xb, .int .i64 xn] 74))
      have Hbn : Hid _ := hbn
      clear hbn
      cases ht : tmpB k with
      | true =>
        rw [ht] at hlk Hs
        go_wp2_with (fail)
        go_roundw
        case rel => exact ⟨m + 1, by omega, by go_num, by rw [Hs.out]; rfl, Hbn.out⟩
        case measure => simp [intOf]; omega
      | false =>
        rw [ht] at hlk Hs
        go_wp2_with (fail)
        go_roundw
        case rel => exact ⟨m + 1, by omega, by go_num, by rw [Hs.out]; rfl, Hbn.out⟩
        case measure => simp [intOf]; omega
    · go_wp2_with (fail)
      go_ret
      exact ⟨congrArg (fun z : Nat => Ending.returned (.int .i64 (z : Int))) (by rw [List.take_of_length_le (by omega)]), hbw⟩
end Go.Proofs.YtpiacnnifdjlkaaDoor

namespace Go.Proofs.YtpiacnnifdjlkaaDoor
open Go.RowKit Go.Sort

theorem ret_eq {a b : Int} (h : a = b) : Ending.returned (.int .i64 a) = .returned (.int .i64 b) := by rw [h]

def nodeErr (x : Nd) (i : Int) : Int := if 1 ≤ x.k ∧ x.k ≤ 8 then chkN x i else 7

/-- The first error of nodes from a number on. -/
def chkFrom : List Nd → Nat → Int
  | [], _ => 0
  | x :: r, i => if nodeErr x i = 0 then chkFrom r (i + 1) else nodeErr x i

/-- What formula.Check tells. -/
def chkF (F : List Nd) : Int := if F.length = 0 then 1 else if 12 < F.length ∨ 4 < cntT F then 2 else chkFrom F 0

theorem chkFrom_drop (F : List Nd) (m : Nat) (h : m < F.length) : chkFrom (F.drop m) m = if nodeErr (F.getD m nd0) m = 0 then chkFrom (F.drop (m + 1)) (m + 1) else nodeErr (F.getD m nd0) m := by
  rw [List.drop_eq_getElem_cons h]
  have : F.getD m nd0 = F[m] := by simp [List.getD, h]
  rw [this]
  rfl

theorem chkFrom_end (F : List Nd) (m : Nat) (h : F.length ≤ m) : chkFrom (F.drop m) m = 0 := by
  rw [List.drop_of_length_le h]; rfl

theorem sgOf_some (k : Int) : (sgOf k).isSome = decide (1 ≤ k ∧ k ≤ 8) := by
  unfold sgOf
  by_cases h1 : k = 1
  · subst h1; rfl
  by_cases h2 : k = 2
  · subst h2; rfl
  by_cases h3 : k = 3
  · subst h3; rfl
  by_cases h4 : k = 4
  · subst h4; rfl
  by_cases h5 : k = 5
  · subst h5; rfl
  by_cases h6 : k = 6
  · subst h6; rfl
  by_cases h7 : k = 7
  · subst h7; rfl
  by_cases h8 : k = 8
  · subst h8; rfl
  simp [h1, h2, h3, h4, h5, h6, h7, h8]; omega

set_option maxRecDepth 100000 in
set_option maxHeartbeats 2000000 in
theorem formulaCheck_any {w : World} {v : Value} {F : List Nd} (hv : NodeSl w v F) :
    Calls Tryd.prog 40 #[v] w fun e w' => e = .returned (.int .i64 (chkF F)) ∧ Below w.heap.size w w' := by
  have HV : Hid _ := hide hv
  obtain ⟨a, cap, rfl, hm, hc, -⟩ := hv
  unfold maxLen at hm
  by_cases h0 : F.length = 0
  · have e : chkF F = 1 := by simp [chkF, h0]
    rw [e]
    have h8 : ((F.length : Int) == 0) = true := by simpa using h0
    clear e h0
    go_enter Tryd.func40, Tryd.ntmps40
    go_wp2_with (fail)
    go_ret
    exact ⟨rfl, (by repeat (first | exact Below.refl _ _ | assumption | refine below_drewN ?_ _ | refine Below.drew ?_ | refine Below.alloc ?_ (by simp <;> omega) _ | refine below_trans ?_ (by assumption)))⟩
  have h8 : ((F.length : Int) == 0) = false := by rw [beq_eq_false_iff_ne]; omega
  by_cases h12 : 12 < F.length
  · have e : chkF F = 2 := by simp [chkF, h0, h12]
    rw [e]
    clear e h0
    go_enter Tryd.func40, Tryd.ntmps40
    go_wp2_with (fail)
    refine (signs_any _).mono ?_
    rintro e w1 ⟨r, rfl, hr, -, hb1⟩
    go_wp2_with (fail)
    go_ret
    exact ⟨rfl, hb1⟩
  have hle : F.length ≤ 12 := by omega
  have HC : Hid (∀ w1 r, Below w.heap.size w w1 → SgMap w1 r → Calls Tryd.prog 80 #[.slice a F.length cap, .map (some r)] w1 fun e w' => e = .returned (.int .i64 (cntT F)) ∧ Below w1.heap.size w1 w') := fun w1 r hb hr => countTemporal_any (HV.out.below hb) hr
  by_cases h4 : 4 < cntT F
  · have e : chkF F = 2 := by simp [chkF, h0, h4]
    rw [e]
    have h4' : (4 : Int) < cntT F := by omega
    clear e h0 h12 h4
    go_enter Tryd.func40, Tryd.ntmps40
    go_wp2_with (fail)
    refine (signs_any _).mono ?_
    rintro e w1 ⟨r, rfl, hr, -, hb1⟩
    go_wp2_with (fail)
    refine (HC.out _ _ hb1 hr).mono ?_
    rintro e w2 ⟨rfl, hb2⟩
    go_wp2_with (fail)
    go_ret
    exact ⟨rfl, below_trans hb1 hb2⟩
  have e : chkF F = chkFrom F 0 := by simp [chkF, h0, h4, h12]
  have h4' : (cntT F : Int) ≤ 4 := by omega
  have E : Hid (chkF F = chkFrom F 0) := e
  clear e h0 h12 h4
  go_enter Tryd.func40, Tryd.ntmps40
  go_wp2_with (fail)
  refine (signs_any _).mono ?_
  rintro e w1 ⟨r, rfl, hr, -, hb1⟩
  have HR : Hid (SgMap w1 r) := hide hr
  clear hr
  go_wp2_with (fail)
  refine (HC.out _ _ hb1 HR.out).mono ?_
  rintro e w2 ⟨rfl, hb2⟩
  have hb := below_trans hb1 hb2
  have HR2 : Hid (SgMap w2 r) := hide (SgMap.below HR.out hb2)
  clear HR hb1 hb2
  go_wp2_with (fail)
  go_loopw [24] (fun i wr => ∃ m : Nat, m ≤ F.length ∧ i = .int .i64 m ∧ chkFrom F 0 = chkFrom (F.drop m) m ∧ Below w2.heap.size w2 wr) (fun i _ => F.length - (intOf i).toNat)
  case atStart => exact ⟨0, Nat.zero_le _, rfl, rfl, Below.refl _ _⟩
  case round =>
    obtain ⟨m, hml, rfl, hfr, hbw⟩ := hrel
    have Hfr : Hid _ := hfr
    clear hfr
    by_cases hlt : m < F.length
    · rcases hc with hc | ⟨b, off, rfl, hc⟩
      · subst hc; simp at hlt
      have hbw0 := below_trans hb hbw
      obtain ⟨c0, c1, c2, c3⟩ := hc m hlt
      rw [← hbw0.cell (World.block_lt_of_cell? w _ c0)] at c0
      rw [← hbw0.cell (World.block_lt_of_cell? w _ c1)] at c1
      rw [← hbw0.cell (World.block_lt_of_cell? w _ c2)] at c2
      rw [← hbw0.cell (World.block_lt_of_cell? w _ c3)] at c3
      have hd := chkFrom_drop F m hlt
      rw [← Hfr.out] at hd
      have Hd : Hid _ := hd
      clear hd hc Hfr
      generalize F.getD m nd0 = x at *
      have hlk := (run_lookup_sign ((HR2.out.below hbw).below (below_new wr (Obj.cells #[.int .i64 x.k, .int .i64 x.a, .int .i64 x.b, .int .i64 x.n] 74))) x.k).2
      have hsm := sgOf_some x.k
      have HK : Hid (∀ s w1, sgOf x.k = some s → Calls Tryd.prog 81 #[.agg #[.int .i64 x.k, .int .i64 x.a, .int .i64 x.b, .int .i64 x.n], .int .i64 m, sgV s] w1 fun e w' => e = .returned (.int .i64 (chkN x m)) ∧ Below w1.heap.size w1 w') := fun s w1 hs => checkNode_any x m s hs w1
      cases hs : sgOf x.k with
      | none =>
        rw [hs] at hlk hsm
        have hne : nodeErr x m = 7 := by
          unfold nodeErr
          rw [if_neg]
          intro h
          rw [decide_eq_true h] at hsm
          cases hsm
        rw [hne] at Hd
        have hq : chkF F = 7 := by rw [E.out, Hd.out]; rfl
        have Hq : Hid (7 = chkF F) := hq.symm
        clear hsm hs hne Hd hq E HK
        dsimp only [Option.getD_none, Option.isSome_none] at hlk
        unfold sgV sg0 at hlk
        obtain ⟨k, xa, xb, xn⟩ := x
        dsimp only at *
        go_wp2_with (fail)
        go_ret
        exact ⟨ret_eq Hq.out, below_trans hbw0 (by repeat (first | exact Below.refl _ _ | assumption | refine below_drewN ?_ _ | refine Below.drew ?_ | refine Below.alloc ?_ (by simp <;> omega) _ | refine below_trans ?_ (by assumption)))⟩
      | some s =>
        rw [hs] at hlk hsm
        have hne : nodeErr x m = chkN x m := by
          unfold nodeErr
          rw [if_pos]
          have : decide (1 ≤ x.k ∧ x.k ≤ 8) = true := by rw [← hsm]; rfl
          simpa using this
        rw [hne] at Hd
        have HK' := hide (fun w1 => HK.out s w1 hs)
        clear hsm hs hne HK
        dsimp only [Option.getD_some, Option.isSome_some] at hlk
        obtain ⟨st, sp, sn, stm, so⟩ := s
        unfold sgV at hlk HK'
        generalize chkN x m = q at *
        obtain ⟨k, xa, xb, xn⟩ := x
        dsimp only at *
        go_wp2_with (fail)
        refine (HK'.out _).mono ?_
        rintro e w3 ⟨rfl, hb3⟩
        have hb4 : Below wr.heap.size wr w3 := Below.trans (((Below.refl _ _).alloc (Nat.le_refl _) _).alloc (by simp) _) (hb3.mono (by simp <;> omega))
        clear hb3
        by_cases hq : q = 0
        · have bq : (q != 0) = false := by simpa using hq
          rw [if_pos hq] at Hd
          clear hq
          go_wp2_with (fail)
          go_roundw
          case rel => exact ⟨m + 1, by omega, by go_num, Hd.out, below_trans hbw hb4⟩
          case measure => simp [intOf]; omega
        · have bq : (q != 0) = true := by simpa using hq
          rw [if_neg hq] at Hd
          clear hq
          go_wp2_with (fail)
          go_ret
          exact ⟨ret_eq (by rw [E.out, Hd.out]), below_trans hbw0 hb4⟩
    · go_wp2_with (fail)
      go_ret
      exact ⟨ret_eq (by rw [E.out, Hfr.out, chkFrom_end F m (by omega)]), below_trans hb hbw⟩
end Go.Proofs.YtpiacnnifdjlkaaDoor
