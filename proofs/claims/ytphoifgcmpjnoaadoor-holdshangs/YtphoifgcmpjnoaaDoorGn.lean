/-
  formulaBegun answers true.
-/
import Derived.Test.YtphoifgcmpjnoaaDoorGm
import Derived.Test.YtphoifgcmpjnoaaDoorGf
import Derived.Test.YtphoifgcmpjnoaaDoorFj
import Derived.Test.YtphoifgcmpjnoaaDoorFk
import Derived.Test.YtphoifgcmpjnoaaDoorEu
namespace Go.Proofs.YtphoifgcmpjnoaaDoor
open Go.RowKit Go.Sort

def tOpp : List UInt8 := [40, 33, 112, 48, 32, 82, 32, 33, 112, 49, 41]

theorem u_chk : chkF untilF = 0 := by decide +kernel
theorem u_neg : chkNeg untilF = 0 := by decide +kernel
theorem u_prt : prt untilF = tUntil := by decide +kernel
theorem u_opp : prt (negF untilF) = tOpp := by decide +kernel
theorem u_chk2 : chkF (negF untilF) = 0 := by decide +kernel
theorem u_two : gTwo 7 (fun _ => [⟨2, 0, 0, 0⟩]) (fun _ => [⟨2, 0, 0, 1⟩]) 0 = untilF := rfl

set_option maxRecDepth 100000 in
set_option maxHeartbeats 4000000 in
theorem formulaBegun_any {w : World} (ht : Lib.TabBelow Tryd.prog w.heap.size w "internal/strconv.uint64pow10" .u64 Lib.pow10Tab) :
    Calls Tryd.prog 39 #[] w fun e w' => e = .returned (.bool true) ∧ Below w.heap.size w w' := by
  have HT := hide ht
  clear ht
  have HP : Hid (∀ W v, NodeSl W v untilF → Below w.heap.size w W → Calls Tryd.prog 34 #[v] W fun e w' => e = .returned (.tuple #[.string ⟨#[40, 112, 48, 32, 85, 32, 112, 49, 41]⟩, .int .i64 0]) ∧ Below W.heap.size W w') := hide fun W v hv hb => by
    have := print_any hv (tab_below HT.out hb)
    rw [u_prt, u_chk] at this
    exact this
  have HP2 : Hid (∀ W v, NodeSl W v (negF untilF) → Below w.heap.size w W → Calls Tryd.prog 34 #[v] W fun e w' => e = .returned (.tuple #[.string ⟨#[40, 33, 112, 48, 32, 82, 32, 33, 112, 49, 41]⟩, .int .i64 0]) ∧ Below W.heap.size W w') := hide fun W v hv hb => by
    have := print_any hv (tab_below HT.out hb)
    rw [u_opp, u_chk2] at this
    exact this
  have HR : Hid (∀ W, Calls Tryd.prog 42 #[.string ⟨#[40, 112, 48, 32, 85, 32, 112, 49, 41]⟩] W fun e w' => ∃ v, e = .returned (.tuple #[v, .int .i64 0, .int .i64 0]) ∧ NodeSl w' v untilF ∧ Below W.heap.size W w') := hide fun W => parse_ok (T := tUntil) node_until (by decide) (by rw [u_two]; decide) (by rw [u_two]; exact u_chk) W
  have HNg : Hid (∀ W v, NodeSl W v untilF → Calls Tryd.prog 35 #[v] W fun e w' => ∃ v', e = .returned (.tuple #[v', .int .i64 0]) ∧ NodeSl w' v' (negF untilF) ∧ Below W.heap.size W w') := hide fun W v hv => by
    refine (negate_any hv).mono ?_
    rintro e w' ⟨v', rfl, h1, _, h3⟩
    exact ⟨v', by rw [u_neg], h1 u_neg, h3⟩
  have HC : Hid (∀ W v, NodeSl W v untilF → Calls Tryd.prog 40 #[v] W fun e w' => e = .returned (.int .i64 0) ∧ Below W.heap.size W w') := hide fun W v hv => by
    have := formulaCheck_any hv
    rw [u_chk] at this
    exact this
  go_enter Tryd.func39, Tryd.ntmps39
  go_wp2_with (fail)
  refine (until_any _).mono ?_
  rintro e w1 ⟨g1, rfl, hn1, hb1⟩
  go_wp2_with (fail)
  refine (HP.out _ _ hn1 hb1).mono ?_
  rintro e w2 ⟨rfl, hb2⟩
  have HB2 := hide (below_trans hb1 hb2)
  clear hn1 hb1 hb2
  go_wp2_with (fail)
  refine (HR.out _).mono ?_
  rintro e w3 ⟨v3, rfl, hn3, hb3⟩
  have HB3 := hide (below_trans HB2.out hb3)
  have HN3 := hide hn3
  clear hn3 hb3 HR HB2
  go_wp2_with (fail)
  refine (until_any _).mono ?_
  rintro e w4 ⟨g4, rfl, hn4, hb4⟩
  have HN4 := hide (HN3.out.below hb4)
  have HB4 := hide (below_trans HB3.out hb4)
  clear hb4 HB3 HN3
  go_wp2_with (fail)
  refine (HNg.out _ _ hn4).mono ?_
  rintro e w5 ⟨v5, rfl, hn5, hb5⟩
  have HN5 := hide (HN4.out.below hb5)
  have HB5 := hide (below_trans HB4.out hb5)
  clear hb5 HB4 HN4 HNg hn4
  go_wp2_with (fail)
  refine (HP2.out _ _ hn5 HB5.out).mono ?_
  rintro e w6 ⟨rfl, hb6⟩
  have HN6 := hide (HN5.out.below hb6)
  have HB6 := hide (below_trans HB5.out hb6)
  clear hb6 HB5 HN5 hn5 HP HP2
  go_wp2_with (fail)
  refine (until_any _).mono ?_
  rintro e w7 ⟨g7, rfl, hn7, hb7⟩
  have HN7 := hide (HN6.out.below hb7)
  have HB7 := hide (below_trans HB6.out hb7)
  clear hb7 HB6 HN6
  go_wp2_with (fail)
  refine (HC.out _ _ hn7).mono ?_
  rintro e w8 ⟨rfl, hb8⟩
  have HN8 := hide (HN7.out.below hb8)
  have HB8 := hide (below_trans HB7.out hb8)
  clear hb8 HB7 HN7 hn7 HC
  go_wp2_with (fail)
  refine (until_any _).mono ?_
  rintro e w9 ⟨g9, rfl, hn9, hb9⟩
  have HN9 := hide (HN8.out.below hb9)
  have HB9 := hide (below_trans HB8.out hb9)
  clear hb9 HB8 HN8
  go_wp2_with (fail)
  refine (sameFormula_eq HN9.out hn9).mono ?_
  rintro e w10 ⟨rfl, n10, rfl⟩
  have HB10 := hide (below_drewN HB9.out n10)
  clear hn9 HN9
  go_wp2_with (fail)
  go_ret
  exact ⟨rfl, HB10.out⟩
end Go.Proofs.YtphoifgcmpjnoaaDoor
