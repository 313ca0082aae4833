/-
  The reference's SameFormula at two rows of the same nodes.
-/
import Derived.Test.YtphoifgcmpjnoaaDoorFj
namespace Go.Proofs.YtphoifgcmpjnoaaDoor
open Go.RowKit Go.Sort

set_option maxRecDepth 100000 in
set_option maxHeartbeats 1000000 in
theorem sameFormula_eq {w : World} {u v : Value} {F : List Nd} (hu : NodeSl w u F) (hv : NodeSl w v F) :
    Calls Tryd.prog 41 #[u, v] w fun e w' => e = .returned (.bool true) ∧ ∃ n, w' = w.drewN n := by
  obtain ⟨a, cap, rfl, hm, hc, -⟩ := hu
  obtain ⟨a', cap', rfl, -, hd, -⟩ := hv
  unfold maxLen at hm
  have hne : ((F.length : Int) != F.length) = false := by simp
  go_enter Tryd.func41, Tryd.ntmps41
  go_wp2_with (fail)
  go_loopw [5] (fun i wr => ∃ m : Nat, m ≤ F.length ∧ i = .int .i64 m ∧ ∃ n, wr = w.drewN n) (fun i _ => F.length - (intOf i).toNat)
  case atStart => exact ⟨0, Nat.zero_le _, rfl, 0, rfl⟩
  case round =>
    obtain ⟨m, hml, rfl, n, rfl⟩ := hrel
    by_cases hlt : m < F.length
    · rcases hc with hc | ⟨b, off, rfl, hc⟩
      · subst hc; simp at hlt
      rcases hd with hd | ⟨b', off', rfl, hd⟩
      · subst hd; simp at hlt
      obtain ⟨c0, c1, c2, c3⟩ := hc m hlt
      obtain ⟨d0, d1, d2, d3⟩ := hd m hlt
      generalize hx : F.getD m nd0 = x at *
      clear hc hd hx
      obtain ⟨k, xa, xb, xn⟩ := x
      dsimp only at *
      go_wp2_with (fail)
      refine wp_region_quiet_lit (by kernel_rfl) (by kernel_rfl) ?_
      repeat (go_big_quiet_step (fail))
      refine wpQuiet_nil ?_
      intro _ hw'; obtain ⟨nq, hw''⟩ := hw'; subst hw''
      go_wp2_with (fail)
      go_roundw
      case rel => exact ⟨m + 1, by omega, by go_num, n + nq, rfl⟩
      case measure => simp [intOf]; omega
    · go_wp2_with (fail)
      go_ret
      exact ⟨rfl, n, rfl⟩
end Go.Proofs.YtphoifgcmpjnoaaDoor
