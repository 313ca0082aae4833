/-
  What formula.Print answers.
-/
import Derived.Test.YtphoifgcmpjnoaaDoorGe
namespace Go.Proofs.YtphoifgcmpjnoaaDoor
open Go.RowKit Go.Sort

theorem owns_row {w : World} {base : Nat} {e : TypeId} {size : Nat} {v : Value} {n : Nat} {xs : List Value} (h : w.ownsRow base e size v n xs) (hn : 0 < n) : ∃ g cap, v = .slice (some ⟨g, 0, none⟩) n cap := by
  rcases h.2 with ⟨_, h0⟩ | ⟨g, cap, cur, rfl, _⟩
  · omega
  · exact ⟨g, cap, rfl⟩

theorem sh_pos {F : List Nd} (hF : AllOk F) (i : Nat) (hi : i < F.length) : 0 < (sh F i).length := by
  rw [sh_eq hF i hi]
  unfold shS
  by_cases h1 : (F.getD i nd0).k = 1
  · rw [if_pos h1]; simp
  rw [if_neg h1]
  by_cases h2 : (F.getD i nd0).k = 2
  · rw [if_pos h2]; simp
  rw [if_neg h2]
  by_cases h3 : (F.getD i nd0).k = 3
  · rw [if_pos h3]; simp
  rw [if_neg h3]
  by_cases h6 : (F.getD i nd0).k = 6
  · rw [if_pos h6]; simp
  rw [if_neg h6]; simp

theorem run_text {w : World} {B : Nat} {g cap : Nat} {bs : List UInt8} (h : w.ownsRow B 5 1 (.slice (some ⟨g, 0, none⟩) bs.length cap) bs.length (Lib.byteCells bs)) :
    (convert 106 9 (.slice (some ⟨g, 0, none⟩) bs.length cap)).run Tryd.prog w = .ok (.string ⟨bs.toArray⟩) w :=
  run_convert_bytes_back (P := Tryd.prog) w 106 9 5 ⟨g, 0, none⟩ cap bs (by kernel_rfl) (by kernel_rfl) (by kernel_rfl) (fun j hj => h.cells (g := g) rfl j _ (by simp [Lib.byteCells, hj]))

theorem tab_below {w w1 : World} {name : String} {k : IntKind} {zs : List Int} (h : Lib.TabBelow Tryd.prog w.heap.size w name k zs) (hb : Below w.heap.size w w1) : Lib.TabBelow Tryd.prog w1.heap.size w1 name k zs :=
  fun w' h' => h w' (hb.trans (h'.mono hb.size))

set_option maxRecDepth 100000 in
set_option maxHeartbeats 2000000 in
theorem print_any {w : World} {fv : Value} {F : List Nd} (hF : NodeSl w fv F) (ht : Lib.TabBelow Tryd.prog w.heap.size w "internal/strconv.uint64pow10" .u64 Lib.pow10Tab) :
    Calls Tryd.prog 34 #[fv] w fun e w' => e = .returned (.tuple #[.string ⟨(prt F).toArray⟩, .int .i64 (chkF F)]) ∧ Below w.heap.size w w' := by
  have HC : Hid (∀ W v G, NodeSl W v G → Calls Tryd.prog 40 #[v] W fun e w' => e = .returned (.int .i64 (chkF G)) ∧ Below W.heap.size W w') := hide fun W v G h => formulaCheck_any h
  have HV := hide hF
  have HT := hide ht
  clear ht
  obtain ⟨fa, fc, rfl, hm, -⟩ := hF
  unfold prt
  by_cases hq : chkF F = 0
  · rw [if_pos hq]
    obtain ⟨hM0, h12, hall⟩ := chkF_ok hq
    have hsl := sh_len hall (F.length - 1) (by omega)
    have hpw : 2 ^ (F.length - 1 + 1) ≤ 2 ^ 12 := Nat.pow_le_pow_right (by decide) (by omega)
    have hsp := sh_pos hall (F.length - 1) (by omega)
    have HAp := hide (app_any hall (F.length - 1) (by omega))
    unfold AppOk at HAp
    have hi0 : ((F.length - 1 : Nat) : Int) = (F.length : Int) - 1 := by omega
    rw [hi0] at HAp
    have hlen : (sh F (F.length - 1)).length ≤ 800000 := by omega
    generalize sh F (F.length - 1) = tx at *
    rw [hq]
    have HQ := hide hq
    clear hi0 hpw hsl hq hall
    go_enter Tryd.func34, Tryd.ntmps34
    go_wp2_with (fail)
    refine (HC.out _ _ F HV.out).mono ?_
    rintro e w1 ⟨rfl, hb1⟩
    rw [HQ.out]
    go_wp2_with (fail)
    refine (signs_any _).mono ?_
    rintro e w2 ⟨r, rfl, hr, hr0, hb2⟩
    have hB2 := below_trans hb1 hb2
    have HB2 := hide hB2
    have HN2 := hide (HV.out.below hB2)
    have HR2 := hide (show SgMap w2 r from hr)
    clear hr hb1 hb2 hB2
    go_wp2_with (fail)
    refine (HAp.out w2 w2.heap.size r _ (.slice none 0 0) [] ⟨World.ownsRow_nil _ _ _ _, Below.refl _ _, Lib.OthersKept.refl _ _ _, Nat.le_refl _⟩ ⟨fun w1 hb => ⟨HN2.out.below hb, HR2.out.below hb⟩, tab_below HT.out HB2.out⟩ (by simpa using hlen)).mono ?_
    rintro e w3 ⟨v3, rfl, hap3⟩
    rw [List.nil_append] at hap3
    have hcv := hap3.own
    obtain ⟨g, cap, rfl⟩ := owns_row hcv hsp
    have hcv := run_text hcv
    have HB3 := hide (HB2.out.trans (hap3.below.mono HB2.out.size))
    clear hap3
    go_wp2_with (fail)
    go_ret2
    exact ⟨rfl, HB3.out⟩
  · rw [if_neg hq]
    have bq : (chkF F != 0) = true := by simpa using hq
    generalize hcq : chkF F = s at *
    have HS := hide hcq
    clear hcq hq
    go_enter Tryd.func34, Tryd.ntmps34
    go_wp2_with (fail)
    refine (HC.out _ _ F HV.out).mono ?_
    rintro e w1 ⟨rfl, hb1⟩
    rw [HS.out]
    go_wp2_with (fail)
    go_ret2
    exact ⟨rfl, hb1⟩
end Go.Proofs.YtphoifgcmpjnoaaDoor
