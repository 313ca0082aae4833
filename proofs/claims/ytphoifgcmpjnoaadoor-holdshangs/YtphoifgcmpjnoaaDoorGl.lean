/-
  What formula.read and formula.Parse answer where all of a text is a formula.
-/
import Derived.Test.YtphoifgcmpjnoaaDoorGk
import Derived.Defers
import Derived.Recover
namespace Go.Proofs.YtphoifgcmpjnoaaDoor
open Go.RowKit Go.Sort

set_option maxRecDepth 100000 in
set_option maxHeartbeats 2000000 in
theorem read_idle (p q s : Addr) (w : World) :
    CallsD Tryd.prog 109 #[.pointer (some p), .pointer (some q), .pointer (some s)] .returning w fun e u' w' => e = .returned (.tuple #[]) ∧ u' = .returning ∧ w' = w := by
  refine callsD_of_wpS Tryd.func109 rfl fun c₀ cs hu => ?_
  apply wpS_seq
  apply wpS_region
  simp [wpOpsS, go_sem, recoverD, hu, Tryd.ntmps109, Exit.thenS]
  have he : ∀ W : World, (binOp .eql 20 .nilIface .nilIface).run Tryd.prog W = .ok (.bool true) W := fun _ => rfl
  refine wpS_of_wp ?_
  go_wp2
  cases c₀
  simp_all [bodyPostS, results, Tryd.results109]
end Go.Proofs.YtphoifgcmpjnoaaDoor
