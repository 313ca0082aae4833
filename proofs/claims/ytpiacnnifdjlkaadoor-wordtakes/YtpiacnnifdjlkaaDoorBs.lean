/-
  What unmet of package word answers.
-/
import Derived.Test.YtpiacnnifdjlkaaDoorBr
namespace Go.Proofs.YtpiacnnifdjlkaaDoor
open Go.RowKit Go.Sort

set_option maxRecDepth 100000 in
set_option maxHeartbeats 2000000 in
theorem unmet_any {w : World} {r : Nat} {M : Nat → Nat → Nat} (R : Rn) (D : Nat → Nat → Nat → Nat) (p s : Nat) (hR : RnOk w R D) (hM : MetAt w r M) (ht : Tab w) (hp : p ≤ 100000) (hs : s < R.N) :
    Calls Tryd.prog 129 #[rnV R, .agg #[.int .i64 p, .int .i64 s], .map (some r)] w fun e w' => e = .returned (.tuple #[.agg #[.int .i64 (nextOf R p : Nat), .int .i64 (wout (D s (lat R.hs R.ls p).toNat) (M (nextOf R p))).1], .bool (wout (D s (lat R.hs R.ls p).toNat) (M (nextOf R p))).2]) ∧ Below w.heap.size w w' := by
  have HN := hide (fun w1 => next_any R p w1 hR.hlen hR.llen hp)
  have HA : Hid (∀ w1, Below w.heap.size w w1 → Calls Tryd.prog 104 #[rnV R, .agg #[.int .i64 p, .int .i64 s]] w1 fun e w' => e = .returned (stV (D s (lat R.hs R.ls p).toNat)) ∧ Below w1.heap.size w1 w') := fun w1 hb => after_any R D p s w1 (hR.below hb) hp hs
  have HW : Hid (∀ w1, Below w.heap.size w w1 → Calls Tryd.prog 155 #[stV (D s (lat R.hs R.ls p).toNat), stV (M (nextOf R p))] w1 fun e w' => e = .returned (.tuple #[.int .i64 (wout (D s (lat R.hs R.ls p).toNat) (M (nextOf R p))).1, .bool (wout (D s (lat R.hs R.ls p).toNat) (M (nextOf R p))).2]) ∧ Below w1.heap.size w1 w') := fun w1 hb => without_any _ _ w1 (hR.words _ _) (hM.1 _) (ht.below hb)
  have HK : Hid (∀ w1, Below w.heap.size w w1 → (Instr.lookup 148 (.map (some r)) (.int .i64 (nextOf R p : Nat)) false).run Tryd.prog w1 = .ok (stV (M (nextOf R p))) w1) := fun w1 hb => run_lookup_met (hM.below hb) _
  clear hR hM ht
  generalize wout (D s (lat R.hs R.ls p).toNat) (M (nextOf R p)) = q at *
  generalize D s (lat R.hs R.ls p).toNat = B at *
  generalize M (nextOf R p) = C at *
  generalize nextOf R p = p' at *
  obtain ⟨t, b⟩ := q
  dsimp only at *
  unfold rnV at *
  unfold stV at HA HW HK
  go_enter Tryd.func129, Tryd.ntmps129
  go_wp2_with (fail)
  refine (HN.out _).mono ?_
  rintro e w1 ⟨rfl, hb1⟩
  have hbw : Below w.heap.size w w1 := below_trans (by repeat (first | exact Below.refl _ _ | assumption | refine below_drewN ?_ _ | refine Below.drew ?_ | refine Below.alloc ?_ (by simp <;> omega) _ | refine below_trans ?_ (by assumption))) hb1
  have hs1 : w.heap.size + 3 ≤ w1.heap.size := by have := hb1.size; simpa using this
  have r0 : ∀ i, i < 8 → w1.cell? ⟨w.heap.size, i, none⟩ = (#[Value.int .i64 R.n, .int .i64 R.m, .slice R.a1 R.l1 R.c1, .slice R.a2 R.l2 R.c2, .slice R.a3 R.l3 R.c3, .slice R.a4 R.hs.length R.c4, .slice R.a5 R.ls.length R.c5, .slice (some ⟨R.g, 0, none⟩) R.N R.N] : Array Value)[i]? := fun i _ => by
    rw [hb1.cell (by simp <;> omega)]; exact cell_first3 _ _ _ _ _ _
  have s0 : ∀ i, i < 2 → w1.cell? ⟨w.heap.size + 1, i, none⟩ = (#[Value.int .i64 p, .int .i64 s] : Array Value)[i]? := fun i _ => by
    rw [hb1.cell (by simp <;> omega)]; exact cell_mid3 _ _ _ _ _ _
  have k0 := cell_regrown (r0 0 (by decide))
  have k1 := cell_regrown (r0 1 (by decide))
  have k2 := cell_regrown (r0 2 (by decide))
  have k3 := cell_regrown (r0 3 (by decide))
  have k4 := cell_regrown (r0 4 (by decide))
  have k5 := cell_regrown (r0 5 (by decide))
  have k6 := cell_regrown (r0 6 (by decide))
  have k7 := cell_regrown (r0 7 (by decide))
  have j0 := cell_regrown (s0 0 (by decide))
  have j1 := cell_regrown (s0 1 (by decide))
  have hlk : ∀ d os, (Instr.lookup 148 (.map (some r)) (.int .i64 p') false).run Tryd.prog (grow (redrawn w1 d) os) = .ok (.agg #[.int .u64 (C 0), .int .u64 (C 1), .int .u64 (C 2), .int .u64 (C 3), .int .u64 (C 4)]) (grow (redrawn w1 d) os) := fun d os => HK.out _ (below_trans hbw (below_regrown w1 d os))
  have CA := hide (fun d os => Calls.regrown_of (HA.out (grow (redrawn w1 d) os) (below_trans hbw (below_regrown w1 d os))))
  have CW := hide (fun d os => Calls.regrown_of (HW.out (grow (redrawn w1 d) os) (below_trans hbw (below_regrown w1 d os))))
  have q0 : w1.cell? ⟨w.heap.size + 1 + 1, 0, none⟩ = some (.int .i64 0) := by
    rw [hb1.cell (by simp)]
    exact (cell_three w _ _ #[Value.int .i64 0, .int .i64 0] 151 0)
  have q1 : w1.cell? ⟨w.heap.size + 1 + 1, 1, none⟩ = some (.int .i64 0) := by
    rw [hb1.cell (by simp)]
    exact (cell_three w _ _ #[Value.int .i64 0, .int .i64 0] 151 1)
  have fz : ∀ i, w1.frozen? ⟨w.heap.size + 1 + 1, i, none⟩ = false := fun i => by
    rw [hb1.frozen (by simp)]
    have h := World.frozen?_alloc_new ((w.alloc (Obj.cells #[Value.int .i64 R.n, .int .i64 R.m, .slice R.a1 R.l1 R.c1, .slice R.a2 R.l2 R.c2, .slice R.a3 R.l3 R.c3, .slice R.a4 R.hs.length R.c4, .slice R.a5 R.ls.length R.c5, .slice (some ⟨R.g, 0, none⟩) R.N R.N] 101)).alloc (Obj.cells #[Value.int .i64 p, .int .i64 s] 151)) #[Value.int .i64 0, .int .i64 0] 151 i
    rw [World.size_alloc, World.size_alloc] at h
    exact h
  clear r0 s0
  go_wp2_with (fail)
  refine wp_region_quiet_below (by kernel_rfl) (by kernel_rfl) ?_
  (repeat (go_big_quiet_step (first | exact CA.out _ _ | exact CW.out _ _)))
  refine wpQuiet_nil ?_
  intro _ hw'
  obtain ⟨⟨dq, osq⟩, hw''⟩ := hw'
  subst hw''
  have hbq := below_regrown w1 dq osq
  clear k0 k1 k2 k3 k4 k5 k6 k7 j0 j1 hlk CA CW
  dsimp only at hbq ⊢
  generalize hwq : grow (redrawn w1 dq) osq = wq at hbq ⊢
  clear hwq
  have v0 : wq.cell? ⟨w.heap.size + 1 + 1, 0, none⟩ = some (.int .i64 0) := by rw [hbq.cell (by simp; omega)]; exact q0
  have v1 : wq.cell? ⟨w.heap.size + 1 + 1, 1, none⟩ = some (.int .i64 0) := by rw [hbq.cell (by simp; omega)]; exact q1
  have f0 : wq.frozen? ⟨w.heap.size + 1 + 1, 0, none⟩ = false := by rw [hbq.frozen (by simp; omega)]; exact fz 0
  have f1 : wq.frozen? ⟨w.heap.size + 1 + 1, 1, none⟩ = false := by rw [hbq.frozen (by simp; omega)]; exact fz 1
  have hbf := below_trans hbw hbq
  clear fz q0 q1
  go_wp2
  exact bodyPost_ret (v := .tuple #[.agg #[.int .i64 p', .int .i64 t], .bool b]) (by simp [results, Tryd.results129, go_sem, v0, v1]) rfl ⟨rfl, (hbf.setCell (by simp; omega) _).setCell (by simp; omega) _⟩
end Go.Proofs.YtpiacnnifdjlkaaDoor
