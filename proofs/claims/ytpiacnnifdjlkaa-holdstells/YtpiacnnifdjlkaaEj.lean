/-
  What slices.Concat answers of two slices of ints.
-/
import Derived.Test.YtpiacnnifdjlkaaEi
import Derived.Lib.AppendZerosOnto
namespace Go.Proofs.Ytpiacnnifdjlkaa
open Go.RowKit Go.Sort

set_option maxHeartbeats 1000000 in
theorem growInts_any (n : Nat) (h0 : 0 < n) (hn : n ≤ 1000000) (w : World) :
    Calls Try.prog 31 #[.slice none 0 0, .int .i64 n] w fun e w' => ∃ v, e = .returned v ∧ w'.ownsRow w.heap.size 3 1 v 0 [] ∧ Below w.heap.size w w' := by
  have hz : Try.t3.zero = some (.int .i64 0) := by kernel_rfl
  have hb : Try.t3.bytes = 8 := by kernel_rfl
  have hs : Try.t3.size = 1 := by kernel_rfl
  have hold : (Builtin.firstCells Try.t3.size 0 (.slice none 0 0)).run Try.prog w.drew = .ok ([] : List Value).toArray w.drew := run_firstCells_none w.drew _ 0 0 0
  have hrz := fun ty => Lib.run_append_grow_zeros w 24 3 ty 3 Try.t3 (.int .i64 0) .i64 .i64 Try.underlying24 Try.underlying3 intInfo hz none 0 0 [] hold n h0 (by rw [hs]; omega) (by omega) (by omega) (by rw [hb]; omega) (by rw [hb, Nat.zero_add]; exact growslice_fits (by omega) (by omega))
  have hge := grownCap_ge w n 0 3
  have hle := grownCap_le_maxLen w n 0 3 (by unfold maxLen; omega)
  rw [Nat.zero_add] at hrz
  generalize grownCap w n 0 3 = G at *
  generalize hcs : ([] : List Value).toArray ++ Builtin.zeroCells (Value.int .i64 0).cells n ++ Builtin.zeroCells (Value.int .i64 0).cells (G - n) = cs at *
  have hsz : cs.size = G := by rw [← hcs]; simp [size_zeroCells, Value.cells]; omega
  have HG := hide (And.intro hsz (And.intro hge hle))
  have hG63 : G ≤ 9223372036854775807 := by unfold maxLen at hle; omega
  clear hcs hold hsz hge hle hz hb hs
  go_enter Try.func31, Try.ntmps31
  go_wp2_with (at_builtin; refine Lib.wpList_append_run _ rfl _ _ _ _ rfl _ _ rfl rfl _ _ (hrz _) ?_)
  go_ret
  refine ⟨_, rfl, ⟨rfl, .inr ⟨w.heap.size, G, cs, rfl, Nat.le_refl _, heap_alloc_new w _, Nat.zero_le _, HG.out.2.2, by rw [HG.out.1, Nat.mul_one], by simp⟩⟩, (by repeat (first | exact Below.refl _ _ | assumption | refine below_drewN ?_ _ | refine Below.drew ?_ | refine Below.alloc ?_ (by simp <;> omega) _ | refine below_trans ?_ (by assumption)))⟩

set_option maxRecDepth 100000 in
set_option maxHeartbeats 2000000 in
theorem concat_any {w : World} {a0 a1 : Option Addr} {c0 c1 vb : Nat} {hs ls : List Int} (hh : IntSl w (.slice a0 hs.length c0) hs) (hl : IntSl w (.slice a1 ls.length c1) ls) (v0 : w.cell? ⟨vb, 0, none⟩ = some (.slice a0 hs.length c0)) (v1 : w.cell? ⟨vb, 1, none⟩ = some (.slice a1 ls.length c1)) (h5 : hs.length ≤ 4000) (h6 : ls.length ≤ 4000) (h7 : 0 < ls.length) :
    Calls Try.prog 24 #[.slice (some ⟨vb, 0, none⟩) 2 2] w fun e w' => ∃ g lc, e = .returned (.slice (some ⟨g, 0, none⟩) (hs.length + ls.length) lc) ∧ IntSl w' (.slice (some ⟨g, 0, none⟩) (hs.length + ls.length) lc) (hs ++ ls) ∧ w.heap.size ≤ g ∧ Below w.heap.size w w' := by
  have Hh := hide hh
  have Hl := hide hl
  clear hh hl
  generalize hN : hs.length = n0 at *
  generalize hM : ls.length = n1 at *
  have HN := hide hN
  have HM := hide hM
  clear hN hM
  go_enter Try.func24, Try.ntmps24
  go_wp2_with (fail)
  refine wp_loop_rounds 3 ?_
  rw [rounds_succ]
  go_wp2_with (fail)
  rw [rounds_succ]
  go_wp2_with (fail)
  rw [rounds_succ]
  go_wp2_with (fail)
  have HG : Hid (Calls Try.prog 31 #[.slice none 0 0, .int .i64 ((n0 : Int) + n1)] w fun e w' => ∃ v, e = .returned v ∧ w'.ownsRow w.heap.size 3 1 v 0 [] ∧ Below w.heap.size w w') := by
    have := growInts_any (n0 + n1) (by omega) (by omega) w
    rw [Int.natCast_add] at this
    exact hide this
  refine HG.out.mono ?_
  rintro e w1 ⟨gv, rfl, hown, hb1⟩
  have u0 := cell_keep v0 hb1
  have u1 := cell_keep v1 hb1
  obtain ⟨g1, w2, hr2, ho2, hg2, -⟩ := run_append_sl w1 24 w.heap.size gv 0 [] hown _ hs (Hh.out.below hb1) (by rw [HN.out]; omega) hb1.size
  have hb2 : Below w.heap.size w w2 := hb1.trans ((Below.refl _ _).grown hg2 hb1.size fun k hk => (hown.lt k hk).1)
  have x0 := cell_keep v0 hb2
  have x1 := cell_keep v1 hb2
  obtain ⟨g2, w3, hr3, ho3, hg3, -⟩ := run_append_sl w2 24 w.heap.size g1 _ _ ho2 _ ls (Hl.out.below hb2) (by rw [HN.out, HM.out]; omega) hb2.size
  have hb3 : Below w.heap.size w w3 := hb2.trans ((Below.refl _ _).grown hg3 hb2.size fun k hk => (ho2.lt k hk).1)
  have hz : IntSl w3 g2 (hs ++ ls) := intSl_of_owns (n := 0 + hs.length + ls.length) (base := w.heap.size) (by simpa using ho3)
  obtain ⟨g, lc, rfl, hbg⟩ : ∃ g lc, g2 = .slice (some ⟨g, 0, none⟩) (n0 + n1) lc ∧ w.heap.size ≤ g := by
    rcases ho3.2 with ⟨_, h0⟩ | ⟨g, cap, cur, hv, hb, _⟩
    · exfalso
      rw [HN.out, HM.out] at h0
      omega
    · rw [HN.out, HM.out, Nat.zero_add] at hv
      exact ⟨g, cap, hv, hb⟩
  have HF := hide (And.intro hz (And.intro hbg hb3))
  clear hbg
  have HR2 := hide hr2
  have HR3 := hide hr3
  clear hz hb3 hg3 ho3 hg2 ho2 hb2 hb1 hown hr2 hr3 HG
  go_wp2_with (fail)
  refine wp_loop_rounds 3 ?_
  rw [rounds_succ]
  go_wp2_with (at_builtin; refine Lib.wpList_append_run _ rfl _ _ _ _ rfl _ _ rfl rfl _ _ HR2.out ?_)
  rw [rounds_succ]
  go_wp2_with (at_builtin; refine Lib.wpList_append_run _ rfl _ _ _ _ rfl _ _ rfl rfl _ _ HR3.out ?_)
  rw [rounds_succ]
  go_wp2_with (fail)
  go_ret
  exact ⟨_, _, rfl, HF.out⟩
end Go.Proofs.Ytpiacnnifdjlkaa
