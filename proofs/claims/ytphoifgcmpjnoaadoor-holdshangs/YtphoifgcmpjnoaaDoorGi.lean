/-
  What (reader).kind answers where the sign of a kind stands.
-/
import Derived.Test.YtphoifgcmpjnoaaDoorGh
namespace Go.Proofs.YtphoifgcmpjnoaaDoor
open Go.RowKit Go.Sort

/-- A test of signs. -/
def FitsOk (f : Nat) (p : Sg → Bool) : Prop := (∀ args w, (callFunc f args).run Tryd.prog w = .ok (.enter f args) w) ∧ ∀ (s : Sg) (w : World), Calls Tryd.prog f #[sgV s] w fun e w' => e = .returned (.bool (p s)) ∧ Below w.heap.size w w'

set_option maxHeartbeats 400000 in
theorem fits_node : FitsOk 133 (fun s => decide (s.parts < 2)) := by
  refine ⟨Tryd.call133, fun s w => ?_⟩
  obtain ⟨t, p, n, tp, o⟩ := s
  unfold sgV
  dsimp only
  go_enter Tryd.func133, Tryd.ntmps133
  go_wp2
  go_ret
  exact ⟨rfl, (by repeat (first | exact Below.refl _ _ | assumption | refine below_drewN ?_ _ | refine Below.drew ?_ | refine Below.alloc ?_ (by simp <;> omega) _ | refine below_trans ?_ (by assumption)))⟩

set_option maxHeartbeats 400000 in
theorem fits_pair : FitsOk 158 (fun s => s.parts == 2) := by
  refine ⟨Tryd.call158, fun s w => ?_⟩
  obtain ⟨t, p, n, tp, o⟩ := s
  unfold sgV
  dsimp only
  go_enter Tryd.func158, Tryd.ntmps158
  go_wp2
  go_ret
  exact ⟨rfl, (by repeat (first | exact Below.refl _ _ | assumption | refine below_drewN ?_ _ | refine Below.drew ?_ | refine Below.alloc ?_ (by simp <;> omega) _ | refine below_trans ?_ (by assumption)))⟩

/-- Does the sign of kind k stand where this byte does? -/
def here (p : Sg → Bool) (b : UInt8) (k : Int) : Bool := p ((sgOf k).getD sg0) && (((sgOf k).getD sg0).text.head? == some b)

theorem sg_head (k : Int) (h : 1 ≤ k ∧ k ≤ 8) : ∃ c t, ((sgOf k).getD sg0).text = c :: t := by
  obtain rfl | rfl | rfl | rfl | rfl | rfl | rfl | rfl : k = 1 ∨ k = 2 ∨ k = 3 ∨ k = 4 ∨ k = 5 ∨ k = 6 ∨ k = 7 ∨ k = 8 := by omega
  all_goals exact ⟨_, _, rfl⟩

theorem sg_len (k : Int) (h : 1 ≤ k ∧ k ≤ 8) : ((sgOf k).getD sg0).text.length ≤ 4 := by
  obtain rfl | rfl | rfl | rfl | rfl | rfl | rfl | rfl : k = 1 ∨ k = 2 ∨ k = 3 ∨ k = 4 ∨ k = 5 ∨ k = 6 ∨ k = 7 ∨ k = 8 := by omega
  all_goals decide

theorem run_from (w : World) (l : List UInt8) (i : Nat) (h : i ≤ l.length) : (Instr.slice 9 (.string ⟨l.toArray⟩) (some (.int .i64 (i : Int))) none none).run Tryd.prog w = .ok (.string ⟨(l.drop i).toArray⟩) w := by
  have hsz : (⟨l.toArray⟩ : ByteArray).size = l.length := by simp [ByteArray.size]
  rw [run_slice_string_from_if (P := Tryd.prog) w 9 ⟨l.toArray⟩ .i64 i Tryd.underlying9, if_pos ⟨by omega, by rw [hsz]; omega⟩]
  congr 2
  apply ByteArray.ext
  rw [hsz]
  simp [ByteArray.data_extract]
  exact List.take_of_length_le (by simp)

theorem run_first (w : World) (c : UInt8) (t : List UInt8) : (Instr.slice 9 (.string ⟨(c :: t).toArray⟩) none (some (.int .i64 1)) none).run Tryd.prog w = .ok (.string ⟨[c].toArray⟩) w := by
  have hsz : (⟨(c :: t).toArray⟩ : ByteArray).size = t.length + 1 := by simp [ByteArray.size]
  rw [run_slice_string_to_if (P := Tryd.prog) w 9 ⟨(c :: t).toArray⟩ .i64 1 Tryd.underlying9, if_pos ⟨by omega, by rw [hsz]; omega⟩]
  congr 2
  apply ByteArray.ext
  simp [ByteArray.data_extract]

theorem prefix_one (l : List UInt8) (i : Nat) (b c : UInt8) (h : l[i]? = some b) : Lib.hasPrefix (l.drop i) [c] = (c == b) := by
  obtain ⟨hl, he⟩ := List.getElem?_eq_some_iff.1 h
  rw [List.drop_eq_getElem_cons hl, he]
  simp [Lib.hasPrefix, List.isPrefixOf]

set_option maxRecDepth 100000 in
set_option maxHeartbeats 4000000 in
theorem kind_ok {w : World} {rb r base : Nat} {T : List UInt8} {at_ : Nat} {a : Option Addr} {c : Nat} {out : List Nd} (h : RD w rb r base T at_ a c out) {f : Nat} {p : Sg → Bool} (hf : FitsOk f p) (K : Nat) (hK : 1 ≤ K ∧ K ≤ 8) (b : UInt8) (hb : T[at_]? = some b) (hno : ∀ k : Nat, 1 ≤ k → k < K → here p b k = false) (hyes : here p b K = true) (hs : ∀ j, j < ((sgOf K).getD sg0).text.length → ∃ b, T[at_ + j]? = some b ∧ ((sgOf K).getD sg0).text[j]? = some b) (hT : T.length ≤ 2000) :
    Calls Tryd.prog 132 #[.pointer (some ⟨rb, 0, none⟩), .func (.func f) #[] #[]] w fun e w' => e = .returned (.int .i64 K) ∧ RS w w' rb r base T (at_ + ((sgOf K).getD sg0).text.length) a a c out := by
  have H := hide h
  have HNo := hide hno
  have HYes := hide hyes
  have HS := hide hs
  have HF := hide hf.2
  have hfe := hf.1
  have hal : at_ < T.length := (List.getElem?_eq_some_iff.1 hb).1
  have HB := hide hb
  have i1 := fun W => run_from W T at_ (by omega)
  have hlt : ((at_ : Nat) : Int) ≤ (T.length : Int) := by omega
  clear h hno hyes hs hf hb
  go_enter Tryd.func132, Tryd.ntmps132
  go_wp2_with (fail)
  go_loopw [5] (fun kv wr => ∃ k : Nat, 1 ≤ k ∧ k ≤ K ∧ kv = .int .i64 k ∧ Hid (Below w.heap.size w wr)) (fun kv _ => 9 - (intOf kv).toNat)
  case atStart => exact ⟨1, by omega, by omega, rfl, hide (Below.refl _ _)⟩
  case round =>
    obtain ⟨k, hk1, hk2, rfl, hbw⟩ := hrel
    have hR := H.out.below hbw.out
    obtain ⟨cc, ct, hct⟩ := sg_head k (by omega)
    have hlk := (run_lookup_sign hR.sg k).1
    have hhere : here p b k = (p ((sgOf k).getD sg0) && (cc == b)) := by unfold here; rw [hct]; simp
    have HHere := hide hhere
    have HTx := hide hct
    have k0 := hR.c0
    have k1 := hR.c1
    have k2 := hR.c2
    generalize hsg : (sgOf (k : Int)).getD sg0 = s at *
    have HSg := hide hsg
    clear hsg hhere
    obtain ⟨st, sp, sn, stp, so⟩ := s
    dsimp only at hct
    subst hct
    unfold sgV at hlk
    dsimp only at hlk
    have HFit := hide (HF.out ⟨cc :: ct, sp, sn, stp, so⟩)
    have i2 := fun W => run_first W cc ct
    have HPre : Hid (∀ W, Calls Tryd.prog 130 #[.string ⟨(T.drop at_).toArray⟩, .string ⟨[cc].toArray⟩] W fun e w' => e = .returned (.bool (cc == b)) ∧ Below W.heap.size W w') := hide fun W => (hasPrefix_any ⟨(T.drop at_).toArray⟩ ⟨[cc].toArray⟩ W).mono fun e w' ⟨h1, h2⟩ => ⟨h1.trans (congrArg (fun z => Ending.returned (.bool z)) (prefix_one T at_ b cc HB.out)), by rw [h2]; exact Below.refl _ _⟩
    unfold sgV at HFit
    dsimp only at HFit
    generalize hq : p ⟨cc :: ct, sp, sn, stp, so⟩ = q at *
    have hk8 : (k : Int) ≤ 8 := by omega
    have HQ := hide hq
    clear hq HF
    go_wp2_with (fail)
    obtain ⟨W1, hW1⟩ : ∃ W1, W1 = wr.alloc (Obj.cells #[.string ⟨(cc :: ct).toArray⟩, .int .i64 sp, .bool sn, .bool stp, .int .i64 so] 119) := ⟨_, rfl⟩
    rw [← hW1]
    have hb1 : Below wr.heap.size wr W1 := by rw [hW1]; exact below_new _ _
    have hx1 : W1.heap[wr.heap.size]? = some (Obj.cells #[.string ⟨(cc :: ct).toArray⟩, .int .i64 sp, .bool sn, .bool stp, .int .i64 so] 119) := by rw [hW1]; exact heap_alloc_new _ _
    have j0 := cell_regrown (box_cell (i := 0) hx1 rfl)
    have j1 := cell_regrown (box_cell (i := 1) hx1 rfl)
    have j2 := cell_regrown (box_cell (i := 2) hx1 rfl)
    have j3 := cell_regrown (box_cell (i := 3) hx1 rfl)
    have j4 := cell_regrown (box_cell (i := 4) hx1 rfl)
    have l1 := cell_regrown (cell_keep k1 hb1)
    have l2 := cell_regrown (cell_keep k2 hb1)
    have l0 := cell_regrown (cell_keep k0 hb1)
    have HBW := hide (below_trans hbw.out hb1)
    have CF := hide (fun d os => Calls.regrown_of (HFit.out (grow (redrawn W1 d) os)))
    have CP := hide (fun d os => Calls.regrown_of (HPre.out (grow (redrawn W1 d) os)))
    clear hW1 hb1 hx1 k0 k1 k2 hlk HFit HPre hR hbw
    cases q with
    | false =>
      have hkK : k < K := by
        rcases Nat.lt_or_ge k K with hh | hh
        · exact hh
        · obtain rfl : k = K := by omega
          have h1 := HYes.out
          rw [HHere.out] at h1
          simp at h1
      refine wp_region_quiet_below (by kernel_rfl) (by kernel_rfl) ?_
      (repeat (go_big_quiet_step (first | exact CF.out _ _ | exact CP.out _ _)))
      refine wpQuiet_nil ?_
      intro _ hw'
      obtain ⟨⟨dq, osq⟩, hw''⟩ := hw'
      subst hw''
      have HBq := hide (below_trans HBW.out (below_regrown W1 dq osq))
      have x0 := j0 dq osq
      dsimp only
      clear j0 j1 j2 j3 j4 l0 l1 l2 CF CP
      generalize grow (redrawn W1 dq) osq = wq at HBq x0 ⊢
      go_wp2
      go_roundw
      case rel => exact ⟨k + 1, by omega, by omega, by go_num, HBq⟩
      case measure => simp [intOf]; omega
    | true =>
      rw [Bool.true_and] at HHere
      generalize hcb : (cc == b) = cb at *
      cases cb with
      | false =>
        have hkK : k < K := by
          rcases Nat.lt_or_ge k K with hh | hh
          · exact hh
          · obtain rfl : k = K := by omega
            have h1 := HYes.out
            rw [HHere.out] at h1
            simp at h1
        refine wp_region_quiet_below (by kernel_rfl) (by kernel_rfl) ?_
        (repeat (go_big_quiet_step (first | exact CF.out _ _ | exact CP.out _ _)))
        refine wpQuiet_nil ?_
        intro _ hw'
        obtain ⟨⟨dq, osq⟩, hw''⟩ := hw'
        subst hw''
        have HBq := hide (below_trans HBW.out (below_regrown W1 dq osq))
        have x0 := j0 dq osq
        dsimp only
        clear j0 j1 j2 j3 j4 l0 l1 l2 CF CP
        generalize grow (redrawn W1 dq) osq = wq at HBq x0 ⊢
        go_wp2
        go_roundw
        case rel => exact ⟨k + 1, by omega, by omega, by go_num, HBq⟩
        case measure => simp [intOf]; omega
      | true =>
        have hkK : k = K := by
          rcases Nat.lt_or_ge k K with hh | hh
          · have h1 := HNo.out k hk1 hh
            rw [HHere.out] at h1
            simp at h1
          · omega
        have HkK := hide hkK
        subst hkK
        refine wp_region_quiet_below (by kernel_rfl) (by kernel_rfl) ?_
        (repeat (go_big_quiet_step (first | exact CF.out _ _ | exact CP.out _ _)))
        refine wpQuiet_nil ?_
        intro _ hw'
        obtain ⟨⟨dq, osq⟩, hw''⟩ := hw'
        subst hw''
        have HBq := hide (below_trans HBW.out (below_regrown W1 dq osq))
        have x0 := j0 dq osq
        dsimp only
        clear j0 j1 j2 j3 j4 l0 l1 l2 CF CP
        generalize grow (redrawn W1 dq) osq = wq at HBq x0 ⊢
        have hlen : (cc :: ct).length ≤ 2000 := by
          have := sg_len k (by omega)
          rw [HSg.out] at this
          exact Nat.le_trans this (by omega)
        have hE := hide (expect_ok (H.out.below HBq.out) (cc :: ct) (by have := HS.out; rw [HSg.out] at this; exact this) hT hlen)
        clear hlen
        go_wp2_with (fail)
        refine hE.out.mono ?_
        rintro e w7 ⟨rfl, hrs7⟩
        have HR7 := hide hrs7
        clear hrs7 hE x0
        go_wp2_with (fail)
        go_ret
        exact ⟨rfl, by rw [HSg.out]; exact RS.trans (RS.of_below H.out HBq.out) HR7.out⟩
end Go.Proofs.YtphoifgcmpjnoaaDoor
