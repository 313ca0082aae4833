/-
  What checkNode answers.
-/
import Derived.Test.YtpiacnnifdjlkaaEb
namespace Go.Proofs.Ytpiacnnifdjlkaa
open Go.RowKit Go.Sort

theorem cell_under (w : World) (o : Obj) {a : Addr} {v : Value} (h : w.cell? a = some v) : (w.alloc o).cell? a = some v := by
  rw [(below_new w o).cell (World.block_lt_of_cell? w _ h)]; exact h

/-- What is told of a node of that number. -/
def chkN (x : Nd) (i : Int) : Int :=
  if (3 ≤ x.k ∧ x.k ≤ 8) ∧ ¬ (0 ≤ x.a ∧ x.a < i) ∨ (x.k = 4 ∨ x.k = 5 ∨ x.k = 7 ∨ x.k = 8) ∧ ¬ (0 ≤ x.b ∧ x.b < i) then 5
  else if x.k = 2 ∧ ¬ (0 ≤ x.n ∧ x.n ≤ 2) then 3
  else if ¬ (3 ≤ x.k ∧ x.k ≤ 8) ∧ x.a ≠ 0 ∨ ¬ (x.k = 4 ∨ x.k = 5 ∨ x.k = 7 ∨ x.k = 8) ∧ x.b ≠ 0 ∨ x.k ≠ 2 ∧ x.n ≠ 0 then 1 else 0

set_option maxRecDepth 100000 in
set_option maxHeartbeats 1000000 in
theorem checkNode_two (k a b n i : Int) (t : List UInt8) (tp : Bool) (o : Int) (w : World) :
    Calls Try.prog 21 #[.agg #[.int .i64 k, .int .i64 a, .int .i64 b, .int .i64 n], .int .i64 i, .agg #[.string ⟨t.toArray⟩, .int .i64 2, .bool false, .bool tp, .int .i64 o]] w fun e w' => e = .returned (.int .i64 (if (0 ≤ a ∧ a < i) ∧ 0 ≤ b ∧ b < i then if n = 0 then 0 else 1 else 5)) ∧ Below w.heap.size w w' := by
  have hmf : ∀ (fn : Fn) (first cap : Array Value) (w : World), (Instr.makeFunc fn first cap).run Try.prog w = .ok (.func fn first cap) w := fun _ _ _ _ => rfl
  by_cases ha : 0 ≤ a ∧ a < i
  · have da : decide (0 ≤ a ∧ a < i) = true := by simp [ha]
    by_cases hb : 0 ≤ b ∧ b < i
    · have db : decide (0 ≤ b ∧ b < i) = true := by simp [hb]
      rw [if_pos ⟨ha, hb⟩]
      clear ha hb
      by_cases hn : n = 0
      · have bn : (n != 0) = false := by simpa using hn
        rw [if_pos hn]
        clear hn
        go_enter Try.func21, Try.ntmps21
        go_wp2_with (fail)
        refine (ahead_any a i _ _ ?_).mono ?_; exact cell_under _ _ (by simp)
        rintro e w' ⟨rfl, rfl⟩
        rw [da]
        go_wp2_with (fail)
        refine (ahead_any b i _ _ ?_).mono ?_; exact cell_under _ _ (by simp)
        rintro e w' ⟨rfl, rfl⟩
        rw [db]
        go_wp2_with (fail)
        go_ret
        exact ⟨rfl, (by repeat (first | exact Below.refl _ _ | assumption | refine below_drewN ?_ _ | refine Below.drew ?_ | refine Below.alloc ?_ (by simp <;> omega) _ | refine below_trans ?_ (by assumption)))⟩
      · have bn : (n != 0) = true := by simpa using hn
        rw [if_neg hn]
        clear hn
        go_enter Try.func21, Try.ntmps21
        go_wp2_with (fail)
        refine (ahead_any a i _ _ ?_).mono ?_; exact cell_under _ _ (by simp)
        rintro e w' ⟨rfl, rfl⟩
        rw [da]
        go_wp2_with (fail)
        refine (ahead_any b i _ _ ?_).mono ?_; exact cell_under _ _ (by simp)
        rintro e w' ⟨rfl, rfl⟩
        rw [db]
        go_wp2_with (fail)
        go_ret
        exact ⟨rfl, (by repeat (first | exact Below.refl _ _ | assumption | refine below_drewN ?_ _ | refine Below.drew ?_ | refine Below.alloc ?_ (by simp <;> omega) _ | refine below_trans ?_ (by assumption)))⟩
    · have db : decide (0 ≤ b ∧ b < i) = false := by simpa using hb
      rw [if_neg (fun h => hb h.2)]
      clear ha hb
      go_enter Try.func21, Try.ntmps21
      go_wp2_with (fail)
      refine (ahead_any a i _ _ ?_).mono ?_; exact cell_under _ _ (by simp)
      rintro e w' ⟨rfl, rfl⟩
      rw [da]
      go_wp2_with (fail)
      refine (ahead_any b i _ _ ?_).mono ?_; exact cell_under _ _ (by simp)
      rintro e w' ⟨rfl, rfl⟩
      rw [db]
      go_wp2_with (fail)
      go_ret
      exact ⟨rfl, (by repeat (first | exact Below.refl _ _ | assumption | refine below_drewN ?_ _ | refine Below.drew ?_ | refine Below.alloc ?_ (by simp <;> omega) _ | refine below_trans ?_ (by assumption)))⟩
  · have da : decide (0 ≤ a ∧ a < i) = false := by simpa using ha
    rw [if_neg (fun h => ha h.1)]
    clear ha
    go_enter Try.func21, Try.ntmps21
    go_wp2_with (fail)
    refine (ahead_any a i _ _ ?_).mono ?_; exact cell_under _ _ (by simp)
    rintro e w' ⟨rfl, rfl⟩
    rw [da]
    go_wp2_with (fail)
    go_ret
    exact ⟨rfl, (by repeat (first | exact Below.refl _ _ | assumption | refine below_drewN ?_ _ | refine Below.drew ?_ | refine Below.alloc ?_ (by simp <;> omega) _ | refine below_trans ?_ (by assumption)))⟩

set_option maxRecDepth 100000 in
set_option maxHeartbeats 1000000 in
theorem checkNode_one (k a b n i : Int) (t : List UInt8) (tp : Bool) (o : Int) (w : World) :
    Calls Try.prog 21 #[.agg #[.int .i64 k, .int .i64 a, .int .i64 b, .int .i64 n], .int .i64 i, .agg #[.string ⟨t.toArray⟩, .int .i64 1, .bool false, .bool tp, .int .i64 o]] w fun e w' => e = .returned (.int .i64 (if 0 ≤ a ∧ a < i then if b = 0 then if n = 0 then 0 else 1 else 1 else 5)) ∧ Below w.heap.size w w' := by
  have hmf : ∀ (fn : Fn) (first cap : Array Value) (w : World), (Instr.makeFunc fn first cap).run Try.prog w = .ok (.func fn first cap) w := fun _ _ _ _ => rfl
  by_cases ha : 0 ≤ a ∧ a < i
  · have da : decide (0 ≤ a ∧ a < i) = true := by simp [ha]
    rw [if_pos ha]
    clear ha
    by_cases hb : b = 0
    · have bb : (b != 0) = false := by simpa using hb
      rw [if_pos hb]
      clear hb
      by_cases hn : n = 0
      · have bn : (n != 0) = false := by simpa using hn
        rw [if_pos hn]
        clear hn
        go_enter Try.func21, Try.ntmps21
        go_wp2_with (fail)
        refine (ahead_any a i _ _ ?_).mono ?_; exact cell_under _ _ (by simp)
        rintro e w' ⟨rfl, rfl⟩
        rw [da]
        go_wp2_with (fail)
        go_ret
        exact ⟨rfl, (by repeat (first | exact Below.refl _ _ | assumption | refine below_drewN ?_ _ | refine Below.drew ?_ | refine Below.alloc ?_ (by simp <;> omega) _ | refine below_trans ?_ (by assumption)))⟩
      · have bn : (n != 0) = true := by simpa using hn
        rw [if_neg hn]
        clear hn
        go_enter Try.func21, Try.ntmps21
        go_wp2_with (fail)
        refine (ahead_any a i _ _ ?_).mono ?_; exact cell_under _ _ (by simp)
        rintro e w' ⟨rfl, rfl⟩
        rw [da]
        go_wp2_with (fail)
        go_ret
        exact ⟨rfl, (by repeat (first | exact Below.refl _ _ | assumption | refine below_drewN ?_ _ | refine Below.drew ?_ | refine Below.alloc ?_ (by simp <;> omega) _ | refine below_trans ?_ (by assumption)))⟩
    · have bb : (b != 0) = true := by simpa using hb
      rw [if_neg hb]
      clear hb
      go_enter Try.func21, Try.ntmps21
      go_wp2_with (fail)
      refine (ahead_any a i _ _ ?_).mono ?_; exact cell_under _ _ (by simp)
      rintro e w' ⟨rfl, rfl⟩
      rw [da]
      go_wp2_with (fail)
      go_ret
      exact ⟨rfl, (by repeat (first | exact Below.refl _ _ | assumption | refine below_drewN ?_ _ | refine Below.drew ?_ | refine Below.alloc ?_ (by simp <;> omega) _ | refine below_trans ?_ (by assumption)))⟩
  · have da : decide (0 ≤ a ∧ a < i) = false := by simpa using ha
    rw [if_neg ha]
    clear ha
    go_enter Try.func21, Try.ntmps21
    go_wp2_with (fail)
    refine (ahead_any a i _ _ ?_).mono ?_; exact cell_under _ _ (by simp)
    rintro e w' ⟨rfl, rfl⟩
    rw [da]
    go_wp2_with (fail)
    go_ret
    exact ⟨rfl, (by repeat (first | exact Below.refl _ _ | assumption | refine below_drewN ?_ _ | refine Below.drew ?_ | refine Below.alloc ?_ (by simp <;> omega) _ | refine below_trans ?_ (by assumption)))⟩

set_option maxRecDepth 100000 in
set_option maxHeartbeats 1000000 in
theorem checkNode_leaf (k a b n i : Int) (t : List UInt8) (nm tp : Bool) (o : Int) (w : World) :
    Calls Try.prog 21 #[.agg #[.int .i64 k, .int .i64 a, .int .i64 b, .int .i64 n], .int .i64 i, .agg #[.string ⟨t.toArray⟩, .int .i64 0, .bool nm, .bool tp, .int .i64 o]] w fun e w' => e = .returned (.int .i64 (if nm = true ∧ ¬ (0 ≤ n ∧ n ≤ 2) then 3 else if a = 0 ∧ b = 0 ∧ (nm = true ∨ n = 0) then 0 else 1)) ∧ Below w.heap.size w w' := by
  have hmf : ∀ (fn : Fn) (first cap : Array Value) (w : World), (Instr.makeFunc fn first cap).run Try.prog w = .ok (.func fn first cap) w := fun _ _ _ _ => rfl
  by_cases hn : nm = true ∧ ¬ (0 ≤ n ∧ n ≤ 2)
  · rw [if_pos hn]
    obtain ⟨rfl, hn⟩ := hn
    by_cases h0 : n < 0
    · clear hn
      go_enter Try.func21, Try.ntmps21
      go_wp2_with (fail)
      go_ret
      exact ⟨rfl, (by repeat (first | exact Below.refl _ _ | assumption | refine below_drewN ?_ _ | refine Below.drew ?_ | refine Below.alloc ?_ (by simp <;> omega) _ | refine below_trans ?_ (by assumption)))⟩
    · have h1 : 0 ≤ n := by omega
      have h2 : 3 ≤ n := by omega
      clear hn h0
      go_enter Try.func21, Try.ntmps21
      go_wp2_with (fail)
      go_ret
      exact ⟨rfl, (by repeat (first | exact Below.refl _ _ | assumption | refine below_drewN ?_ _ | refine Below.drew ?_ | refine Below.alloc ?_ (by simp <;> omega) _ | refine below_trans ?_ (by assumption)))⟩
  rw [if_neg hn]
  have hnn : nm = false ∨ (0 ≤ n ∧ n < 3) := by
    cases nm
    · exact Or.inl rfl
    · right; simp at hn; omega
  clear hn
  by_cases h : a = 0 ∧ b = 0 ∧ (nm = true ∨ n = 0)
  · rw [if_pos h]
    obtain ⟨ha, hb, hn⟩ := h
    have ba : (a != 0) = false := by simpa using ha
    have bb : (b != 0) = false := by simpa using hb
    clear ha hb
    rcases hnn with rfl | ⟨h1, h2⟩
    · have bn : (n != 0) = false := by simpa using hn
      clear hn
      go_enter Try.func21, Try.ntmps21
      go_wp2_with (fail)
      go_ret
      exact ⟨rfl, (by repeat (first | exact Below.refl _ _ | assumption | refine below_drewN ?_ _ | refine Below.drew ?_ | refine Below.alloc ?_ (by simp <;> omega) _ | refine below_trans ?_ (by assumption)))⟩
    · cases nm with
      | true =>
        clear hn
        go_enter Try.func21, Try.ntmps21
        go_wp2_with (fail)
        go_ret
        exact ⟨rfl, (by repeat (first | exact Below.refl _ _ | assumption | refine below_drewN ?_ _ | refine Below.drew ?_ | refine Below.alloc ?_ (by simp <;> omega) _ | refine below_trans ?_ (by assumption)))⟩
      | false =>
        have bn : (n != 0) = false := by simpa using hn
        clear hn
        go_enter Try.func21, Try.ntmps21
        go_wp2_with (fail)
        go_ret
        exact ⟨rfl, (by repeat (first | exact Below.refl _ _ | assumption | refine below_drewN ?_ _ | refine Below.drew ?_ | refine Below.alloc ?_ (by simp <;> omega) _ | refine below_trans ?_ (by assumption)))⟩
  · rw [if_neg h]
    by_cases ha : a = 0
    · have ba : (a != 0) = false := by simpa using ha
      by_cases hb : b = 0
      · have bb : (b != 0) = false := by simpa using hb
        have hf : nm = false := by
          cases nm
          · rfl
          · exact absurd ⟨ha, hb, Or.inl rfl⟩ h
        subst hf
        have bn : (n != 0) = true := by
          rw [bne_iff_ne]; intro e; exact h ⟨ha, hb, Or.inr e⟩
        clear h ha hb hnn
        go_enter Try.func21, Try.ntmps21
        go_wp2_with (fail)
        go_ret
        exact ⟨rfl, (by repeat (first | exact Below.refl _ _ | assumption | refine below_drewN ?_ _ | refine Below.drew ?_ | refine Below.alloc ?_ (by simp <;> omega) _ | refine below_trans ?_ (by assumption)))⟩
      · have bb : (b != 0) = true := by simpa using hb
        clear h ha hb
        rcases hnn with rfl | ⟨h1, h2⟩
        · go_enter Try.func21, Try.ntmps21
          go_wp2_with (fail)
          go_ret
          exact ⟨rfl, (by repeat (first | exact Below.refl _ _ | assumption | refine below_drewN ?_ _ | refine Below.drew ?_ | refine Below.alloc ?_ (by simp <;> omega) _ | refine below_trans ?_ (by assumption)))⟩
        · cases nm with
          | true =>
            go_enter Try.func21, Try.ntmps21
            go_wp2_with (fail)
            go_ret
            exact ⟨rfl, (by repeat (first | exact Below.refl _ _ | assumption | refine below_drewN ?_ _ | refine Below.drew ?_ | refine Below.alloc ?_ (by simp <;> omega) _ | refine below_trans ?_ (by assumption)))⟩
          | false =>
            go_enter Try.func21, Try.ntmps21
            go_wp2_with (fail)
            go_ret
            exact ⟨rfl, (by repeat (first | exact Below.refl _ _ | assumption | refine below_drewN ?_ _ | refine Below.drew ?_ | refine Below.alloc ?_ (by simp <;> omega) _ | refine below_trans ?_ (by assumption)))⟩
    · have ba : (a != 0) = true := by simpa using ha
      clear h ha
      rcases hnn with rfl | ⟨h1, h2⟩
      · go_enter Try.func21, Try.ntmps21
        go_wp2_with (fail)
        go_ret
        exact ⟨rfl, (by repeat (first | exact Below.refl _ _ | assumption | refine below_drewN ?_ _ | refine Below.drew ?_ | refine Below.alloc ?_ (by simp <;> omega) _ | refine below_trans ?_ (by assumption)))⟩
      · cases nm with
        | true =>
          go_enter Try.func21, Try.ntmps21
          go_wp2_with (fail)
          go_ret
          exact ⟨rfl, (by repeat (first | exact Below.refl _ _ | assumption | refine below_drewN ?_ _ | refine Below.drew ?_ | refine Below.alloc ?_ (by simp <;> omega) _ | refine below_trans ?_ (by assumption)))⟩
        | false =>
          go_enter Try.func21, Try.ntmps21
          go_wp2_with (fail)
          go_ret
          exact ⟨rfl, (by repeat (first | exact Below.refl _ _ | assumption | refine below_drewN ?_ _ | refine Below.drew ?_ | refine Below.alloc ?_ (by simp <;> omega) _ | refine below_trans ?_ (by assumption)))⟩

theorem ret_same {a b : Int} {e : Ending} (h : e = .returned (.int .i64 a)) (hab : a = b) : e = .returned (.int .i64 b) := by rw [h, hab]

theorem checkNode_any (x : Nd) (i : Int) (s : Sg) (hs : sgOf x.k = some s) (w : World) :
    Calls Try.prog 21 #[.agg #[.int .i64 x.k, .int .i64 x.a, .int .i64 x.b, .int .i64 x.n], .int .i64 i, sgV s] w fun e w' => e = .returned (.int .i64 (chkN x i)) ∧ Below w.heap.size w w' := by
  obtain ⟨k, a, b, n⟩ := x
  dsimp only at hs ⊢
  unfold sgOf at hs
  by_cases h1 : k = 1
  · subst h1; cases hs
    refine (checkNode_leaf 1 a b n i _ false false 0 w).mono fun e w' h => ⟨ret_same h.1 ?_, h.2⟩
    simp [chkN]; repeat' split
    all_goals first | rfl | (exfalso; omega)
  by_cases h2 : k = 2
  · subst h2; cases hs
    refine (checkNode_leaf 2 a b n i _ true false 0 w).mono fun e w' h => ⟨ret_same h.1 ?_, h.2⟩
    simp [chkN]; repeat' split
    all_goals first | rfl | (exfalso; omega)
  by_cases h3 : k = 3
  · subst h3; cases hs
    refine (checkNode_one 3 a b n i _ false 0 w).mono fun e w' h => ⟨ret_same h.1 ?_, h.2⟩
    simp [chkN]; repeat' split
    all_goals first | rfl | (exfalso; omega)
  by_cases h4 : k = 4
  · subst h4; cases hs
    refine (checkNode_two 4 a b n i _ false 5 w).mono fun e w' h => ⟨ret_same h.1 ?_, h.2⟩
    simp [chkN]; repeat' split
    all_goals first | rfl | (exfalso; omega)
  by_cases h5 : k = 5
  · subst h5; cases hs
    refine (checkNode_two 5 a b n i _ false 4 w).mono fun e w' h => ⟨ret_same h.1 ?_, h.2⟩
    simp [chkN]; repeat' split
    all_goals first | rfl | (exfalso; omega)
  by_cases h6 : k = 6
  · subst h6; cases hs
    refine (checkNode_one 6 a b n i _ true 6 w).mono fun e w' h => ⟨ret_same h.1 ?_, h.2⟩
    simp [chkN]; repeat' split
    all_goals first | rfl | (exfalso; omega)
  by_cases h7 : k = 7
  · subst h7; cases hs
    refine (checkNode_two 7 a b n i _ true 8 w).mono fun e w' h => ⟨ret_same h.1 ?_, h.2⟩
    simp [chkN]; repeat' split
    all_goals first | rfl | (exfalso; omega)
  by_cases h8 : k = 8
  · subst h8; cases hs
    refine (checkNode_two 8 a b n i _ true 7 w).mono fun e w' h => ⟨ret_same h.1 ?_, h.2⟩
    simp [chkN]; repeat' split
    all_goals first | rfl | (exfalso; omega)
  simp [h1, h2, h3, h4, h5, h6, h7, h8] at hs
end Go.Proofs.Ytpiacnnifdjlkaa
