/-
  Automata as they lie in memory; what within, Compare, Or, Order and the reference's Less answer.
-/
import Derived.Test.YtpiacnnifdjlkabDoorBf
import Derived.Deep.RegionLaw
import Derived.Deep.CutBlock
import Derived.Deep.DeepCutAuto
/-
  What Least of package word answers.
-/
namespace Go.Proofs.YtpiacnnifdjlkabDoor
open Go.RowKit Go.Sort

def LeastHead (hs ls : List Int) (p k : Nat) : Prop := k ≤ hs.length ∧ (∀ j, k ≤ j → j < hs.length → lat hs ls j = lat hs ls (j + p)) ∧ (k = 0 ∨ lat hs ls (k - 1) ≠ lat hs ls (k - 1 + p))

set_option maxHeartbeats 400000 in
theorem least_bad {w : World} {hv lv : Value} {hs ls : List Int} (hh : IntSl w hv hs) (hl : IntSl w lv ls) (n : Int) (h : (chk hs ls n != 0) = true) :
    Calls Tryd.prog 27 #[.agg #[hv, lv], .int .i64 n] w fun e w' => e = .returned (.tuple #[.agg #[.slice none 0 0, .slice none 0 0], .int .i64 (chk hs ls n)]) ∧ Below w.heap.size w w' := by
  have HC : Hid (∀ w1, Below w.heap.size w w1 → Calls Tryd.prog 29 #[.agg #[hv, lv], .int .i64 n] w1 fun e w' => e = .returned (.int .i64 (chk hs ls n)) ∧ Below w1.heap.size w1 w') := fun w1 hb => check_any n (hh.below hb) (hl.below hb)
  clear hh hl
  generalize chk hs ls n = c at *
  go_enter Tryd.func27, Tryd.ntmps27
  go_wp2_with (fail)
  refine (HC.out _ (by repeat (first | exact Below.refl _ _ | assumption | refine below_drewN ?_ _ | refine Below.drew ?_ | refine Below.alloc ?_ (by simp <;> omega) _ | refine below_trans ?_ (by assumption)))).mono ?_
  rintro e w1 ⟨rfl, hb1⟩
  have hbw : Below w.heap.size w w1 := below_trans (by repeat (first | exact Below.refl _ _ | assumption | refine below_drewN ?_ _ | refine Below.drew ?_ | refine Below.alloc ?_ (by simp <;> omega) _ | refine below_trans ?_ (by assumption))) hb1
  have r0 : w1.cell? ⟨w.heap.size + 1, 0, none⟩ = some (.slice none 0 0) := by rw [hb1.cell (by simp <;> omega)]; simp
  have r1 : w1.cell? ⟨w.heap.size + 1, 1, none⟩ = some (.slice none 0 0) := by rw [hb1.cell (by simp <;> omega)]; simp
  have f0 : w1.frozen? ⟨w.heap.size + 1, 0, none⟩ = false := by rw [hb1.frozen (by simp <;> omega)]; simp
  have f1 : w1.frozen? ⟨w.heap.size + 1, 1, none⟩ = false := by rw [hb1.frozen (by simp <;> omega)]; simp
  go_wp2
  refine bodyPost_ret (v := .tuple #[.agg #[.slice none 0 0, .slice none 0 0], .int .i64 c]) (by simp [results, Tryd.results27, go_sem, r0, r1]) rfl ⟨rfl, ?_⟩
  exact (hbw.setCell (by simp) _).setCell (by simp) _

theorem IntSl.form {w : World} {v : Value} {zs : List Int} (h : IntSl w v zs) {n : Nat} (hn : zs.length = n) : ∃ a cap, v = .slice a n cap := by
  obtain ⟨a, cap, rfl, _⟩ := h
  exact ⟨a, cap, by rw [hn]⟩

theorem pieceOf_length (hs ls : List Int) (f c : Nat) : (pieceOf hs ls f c).length = c := by simp [pieceOf]

theorem chk_zero {hs ls : List Int} {n : Int} (h : chk hs ls n = 0) : hs.length ≤ 4000 ∧ ls.length ≤ 4000 ∧ 0 < ls.length ∧ 1 ≤ n ∧ n ≤ 8 := by
  unfold chk at h
  split at h
  · cases h
  · split at h
    · cases h
    · split at h
      · cases h
      · omega

set_option maxRecDepth 100000 in
set_option maxHeartbeats 1000000 in
theorem least_good {w : World} {hv lv : Value} {hs ls : List Int} (hh : IntSl w hv hs) (hl : IntSl w lv ls) (n : Int) (h : chk hs ls n = 0) :
    Calls Tryd.prog 27 #[.agg #[hv, lv], .int .i64 n] w fun e w' => ∃ v1 v2 p k, e = .returned (.tuple #[.agg #[v1, v2], .int .i64 0]) ∧ LeastPer ls p ∧ LeastHead hs ls p k ∧ IntSl w' v1 (pieceOf hs ls 0 k) ∧ IntSl w' v2 (pieceOf hs ls k p) ∧ Below w.heap.size w w' := by
  obtain ⟨hl1, hl2, hl3, -, -⟩ := chk_zero h
  have hne : ls ≠ [] := List.length_pos_iff.1 hl3
  have HC : Hid (∀ w1, Below w.heap.size w w1 → Calls Tryd.prog 29 #[.agg #[hv, lv], .int .i64 n] w1 fun e w' => e = .returned (.int .i64 0) ∧ Below w1.heap.size w1 w') := fun w1 hb => by
    have := check_any n (hh.below hb) (hl.below hb)
    rwa [h] at this
  have HL : Hid (∀ w1, Below w.heap.size w w1 → ∀ i : Int, 0 ≤ i → i ≤ 9223372036854775807 → Calls Tryd.prog 46 #[.agg #[hv, lv], .int .i64 i] w1 fun e w' => e = .returned (.int .i64 (lat hs ls i.toNat)) ∧ Below w1.heap.size w1 w') :=
    fun w1 hb i h0 hi => letterAt_any (hh.below hb) (hl.below hb) i h0 hi hne
  have HP : Hid (∀ w1, Below w.heap.size w w1 → Calls Tryd.prog 45 #[lv] w1 fun e w' => ∃ p : Nat, e = .returned (.int .i64 p) ∧ LeastPer ls p ∧ ∃ m, w' = w1.drewN m) := fun w1 hb => period_any (hl.below hb) hl2 hl3
  have HQ : Hid (∀ w1, Below w.heap.size w w1 → ∀ f c : Nat, f ≤ 1000000 → c ≤ 1000000 → Calls Tryd.prog 47 #[.agg #[hv, lv], .int .i64 f, .int .i64 c] w1 fun e w' => ∃ v, e = .returned v ∧ IntSl w' v (pieceOf hs ls f c) ∧ Below w1.heap.size w1 w' ∧ (∀ k, v.ownBlock = some k → w1.heap.size ≤ k)) := fun w1 hb f c hf hc => piece_any (hh.below hb) (hl.below hb) hne f c hf hc
  obtain ⟨a0, c0, rfl, hm0, -, -⟩ := hh
  obtain ⟨a1, c1, rfl, hm1, -, -⟩ := hl
  clear h hne hm0 hm1
  go_enter Tryd.func27, Tryd.ntmps27
  go_wp2_with (fail)
  refine (HC.out _ (by repeat (first | exact Below.refl _ _ | assumption | refine below_drewN ?_ _ | refine Below.drew ?_ | refine Below.alloc ?_ (by simp <;> omega) _ | refine below_trans ?_ (by assumption)))).mono ?_
  rintro e w1 ⟨rfl, hb1⟩
  generalize hW0 : (w.alloc (Obj.cells #[Value.slice a0 hs.length c0, Value.slice a1 ls.length c1] 28)).alloc (Obj.cells #[Value.slice none 0 0, Value.slice none 0 0] 28) = W0 at hb1
  have hbW : Below w.heap.size w W0 := by rw [← hW0]; exact (by repeat (first | exact Below.refl _ _ | assumption | refine below_drewN ?_ _ | refine Below.drew ?_ | refine Below.alloc ?_ (by simp <;> omega) _ | refine below_trans ?_ (by assumption)))
  have hsz : W0.heap.size = w.heap.size + 2 := by rw [← hW0]; simp
  have hB : ∀ {w' : World}, Below W0.heap.size W0 w' → w'.cell? ⟨w.heap.size, 0, none⟩ = some (.slice a0 hs.length c0) ∧ w'.cell? ⟨w.heap.size, 1, none⟩ = some (.slice a1 ls.length c1) ∧ w'.cell? ⟨w.heap.size + 1, 0, none⟩ = some (.slice none 0 0) ∧ w'.cell? ⟨w.heap.size + 1, 1, none⟩ = some (.slice none 0 0) ∧ w'.frozen? ⟨w.heap.size + 1, 0, none⟩ = false ∧ w'.frozen? ⟨w.heap.size + 1, 1, none⟩ = false := by
    intro w' hb
    refine ⟨?_, ?_, ?_, ?_, ?_, ?_⟩
    · rw [hb.cell (by rw [hsz]; simp), ← hW0]; simp
    · rw [hb.cell (by rw [hsz]; simp), ← hW0]; simp
    · rw [hb.cell (by rw [hsz]; simp), ← hW0]; simp
    · rw [hb.cell (by rw [hsz]; simp), ← hW0]; simp
    · rw [hb.frozen (by rw [hsz]; simp), ← hW0]; simp
    · rw [hb.frozen (by rw [hsz]; simp), ← hW0]; simp
  clear hW0
  have HB : Hid (∀ {w' : World}, Below W0.heap.size W0 w' → _) := hB
  obtain ⟨x0, x1, -, -, -, -⟩ := hB hb1
  clear hB
  have hbw := below_trans hbW hb1
  go_wp2_with (fail)
  refine (HP.out _ hbw).mono ?_
  rintro e w2 ⟨p, rfl, hp, m, rfl⟩
  have Hp : Hid _ := hp
  have hp1 : 1 ≤ p := hp.1.1
  have hp2 : p ≤ ls.length := hp.1.2.1
  clear hp
  have hb2 := below_drewN hb1 m
  clear x0 x1 hbw hb1
  obtain ⟨x0, x1, -, -, -, -⟩ := HB.out hb2
  go_wp2_with (fail)
  go_loopw [8] (fun i wr => ∃ k : Nat, k ≤ hs.length ∧ i = .int .i64 k ∧ (∀ j, k ≤ j → j < hs.length → lat hs ls j = lat hs ls (j + p)) ∧ Below W0.heap.size W0 wr) (fun i _ => (intOf i).toNat)
  case atStart => exact ⟨hs.length, Nat.le_refl _, rfl, fun j h1 h2 => by omega, hb2⟩
  case round =>
    obtain ⟨k, hk, rfl, htk, hbr⟩ := hrel
    have Htk : Hid _ := htk
    clear htk hb2 x0 x1
    obtain ⟨x0, x1, x2, x3, x4, x5⟩ := HB.out hbr
    by_cases hpos : 0 < k
    · have k0 := cell_regrown x0
      have k1 := cell_regrown x1
      have cL : ∀ d os (i : Int), 0 ≤ i → i ≤ 9223372036854775807 → Calls Tryd.prog 46 #[.agg #[.slice a0 hs.length c0, .slice a1 ls.length c1], .int .i64 i] (grow (redrawn wr d) os) fun e w'' => e = .returned (.int .i64 (lat hs ls i.toNat)) ∧ ∃ p : Regrown, w'' = grow (redrawn wr p.d) p.os :=
        fun d os i h0 hi => Calls.regrown_of (HL.out _ (below_trans (below_trans hbW hbr) (below_regrown wr d os)) i h0 hi)
      have CL : Hid _ := cL
      clear cL
      go_wp2_with (fail)
      refine wp_region_quiet_below (by kernel_rfl) (by kernel_rfl) ?_
      repeat (go_big_quiet_step (exact CL.out _ _ _ (by omega) (by omega)))
      refine wpQuiet_nil ?_
      intro _ hw'
      obtain ⟨⟨dq, osq⟩, hw''⟩ := hw'
      subst hw''
      have hbq := below_trans hbr (below_regrown wr dq osq)
      clear k0 k1 x0 x1 x2 x3 x4 x5 CL
      dsimp only at hbq ⊢
      generalize hwq : grow (redrawn wr dq) osq = wq at hbq ⊢
      clear hwq
      generalize hr : (lat hs ls (k - 1) == lat hs ls (k - 1 + p)) = r
      have Hr : Hid _ := hr
      clear hr
      cases r with
      | true =>
        go_wp2
        go_roundw
        case rel => exact ⟨k - 1, by omega, by go_num, fun j h1 h2 => by
          by_cases e : j = k - 1
          · subst e; exact beq_iff_eq.1 Hr.out
          · exact Htk.out j (by omega) h2, hbq⟩
        case measure => simp [intOf]; omega
      | false =>
        have Hd : Hid (LeastHead hs ls p k) := ⟨hk, Htk.out, Or.inr (beq_eq_false_iff_ne.1 Hr.out)⟩
        clear Hr Htk
        obtain ⟨x0, x1, x2, x3, x4, x5⟩ := HB.out hbq
        have HQ1 : Hid (∀ w1, Below W0.heap.size W0 w1 → Calls Tryd.prog 47 #[.agg #[.slice a0 hs.length c0, .slice a1 ls.length c1], .int .i64 0, .int .i64 k] w1 fun e w' => ∃ ad cap, e = .returned (.slice ad k cap) ∧ IntSl w' (.slice ad k cap) (pieceOf hs ls 0 k) ∧ Below w1.heap.size w1 w' ∧ (∀ q, (Value.slice ad k cap).ownBlock = some q → w1.heap.size ≤ q) ∧ (∀ b o, b < w.heap.size + 2 → w'.cell? ⟨b, o, none⟩ = w1.cell? ⟨b, o, none⟩) ∧ (∀ b o, b < w.heap.size + 2 → w'.frozen? ⟨b, o, none⟩ = w1.frozen? ⟨b, o, none⟩)) := fun w1 hb =>
          (HQ.out w1 (below_trans hbW hb) 0 k (by omega) (by omega)).mono fun e w' ⟨v, he, hv, hb', hfr⟩ => let ⟨ad, cap, hvv⟩ := hv.form (pieceOf_length _ _ _ _); ⟨ad, cap, hvv ▸ he, hvv ▸ hv, hb', hvv ▸ hfr, fun b o h => hb'.cell (p := ⟨b, o, none⟩) (by have := hb.size; simp; omega), fun b o h => hb'.frozen (p := ⟨b, o, none⟩) (by have := hb.size; simp; omega)⟩
        have HQ2 : Hid (∀ w1, Below W0.heap.size W0 w1 → Calls Tryd.prog 47 #[.agg #[.slice a0 hs.length c0, .slice a1 ls.length c1], .int .i64 k, .int .i64 p] w1 fun e w' => ∃ ad cap, e = .returned (.slice ad p cap) ∧ IntSl w' (.slice ad p cap) (pieceOf hs ls k p) ∧ Below w1.heap.size w1 w' ∧ (∀ q, (Value.slice ad p cap).ownBlock = some q → w1.heap.size ≤ q) ∧ (∀ b o, b < w.heap.size + 2 → w'.cell? ⟨b, o, none⟩ = w1.cell? ⟨b, o, none⟩) ∧ (∀ b o, b < w.heap.size + 2 → w'.frozen? ⟨b, o, none⟩ = w1.frozen? ⟨b, o, none⟩)) := fun w1 hb =>
          (HQ.out w1 (below_trans hbW hb) k p (by omega) (by omega)).mono fun e w' ⟨v, he, hv, hb', hfr⟩ => let ⟨ad, cap, hvv⟩ := hv.form (pieceOf_length _ _ _ _); ⟨ad, cap, hvv ▸ he, hvv ▸ hv, hb', hvv ▸ hfr, fun b o h => hb'.cell (p := ⟨b, o, none⟩) (by have := hb.size; simp; omega), fun b o h => hb'.frozen (p := ⟨b, o, none⟩) (by have := hb.size; simp; omega)⟩
        go_wp2_with (fail)
        go_region_held3 (fun w' => w'.cell? ⟨w.heap.size, 0, none⟩ = some (.slice a0 hs.length c0) ∧ w'.cell? ⟨w.heap.size, 1, none⟩ = some (.slice a1 ls.length c1)) (go_keep) (first | (go_at_call_of 47 (Value.int IntKind.i64 (p : Int)); refine (HQ2.out _ ?_).mono ?_; exact below_trans hbq3 hb3; rintro e w4 ⟨d4, e4, rfl, hv4, hb4, hq4, hc4, hf4⟩) | (go_at_call 47; refine (HQ1.out _ ?_).mono ?_; exact Below.drew hbq; rintro e w3 ⟨d3, e3, rfl, hv3, hb3, hq3, hc3, hf3⟩; have hbq3 := Below.drew hbq))
        have hbq4 := below_trans (below_trans hbq3 hb3) hb4
        have hsz3 : w.heap.size + 2 ≤ wq.heap.size := by have := hbq.size; omega
        have hsz4 : wq.heap.size ≤ w3.heap.size := hb3.size
        have hr0 : w4.cell? ⟨w.heap.size + 1, 0, none⟩ = some (.slice none 0 0) := by rw [hc4 _ _ (by omega), hc3 _ _ (by omega)]; exact x2
        have hr1 : w4.cell? ⟨w.heap.size + 1, 1, none⟩ = some (.slice none 0 0) := by rw [hc4 _ _ (by omega), hc3 _ _ (by omega)]; exact x3
        have Hv3 : Hid (IntSl ((w4.setCell ⟨w.heap.size + 1, 0, none⟩ (.slice d3 k e3)).setCell ⟨w.heap.size + 1, 1, none⟩ (.slice d4 p e4)) (.slice d3 k e3) (pieceOf hs ls 0 k)) :=
          ((hv3.below hb4).setCell (fun q hq => by have h1 := hq3 q hq; have h2 : wq.heap.size ≤ q := h1; simp; omega) _).setCell (fun q hq => by have h1 := hq3 q hq; have h2 : wq.heap.size ≤ q := h1; simp; omega) _
        have Hv4 : Hid (IntSl ((w4.setCell ⟨w.heap.size + 1, 0, none⟩ (.slice d3 k e3)).setCell ⟨w.heap.size + 1, 1, none⟩ (.slice d4 p e4)) (.slice d4 p e4) (pieceOf hs ls k p)) :=
          (hv4.setCell (fun q hq => by have := hq4 q hq; simp; omega) _).setCell (fun q hq => by have := hq4 q hq; simp; omega) _
        have Hbf : Hid (Below w.heap.size w ((w4.setCell ⟨w.heap.size + 1, 0, none⟩ (.slice d3 k e3)).setCell ⟨w.heap.size + 1, 1, none⟩ (.slice d4 p e4))) :=
          ((below_trans hbW hbq4).setCell (by simp) _).setCell (by simp) _
        clear hv3 hv4 hq3 hq4 hc3 hc4 hf3 hf4 hb3 hb4 hbq3 hbq4 x0 x1 x2 x3 x4 x5
        go_wp2
        exact bodyPost_ret (v := .tuple #[.agg #[.slice d3 k e3, .slice d4 p e4], .int .i64 0]) (by simp [results, Tryd.results27, go_sem, hr0, hr1]) rfl ⟨_, _, p, k, rfl, Hp.out, Hd.out, Hv3.out, Hv4.out, Hbf.out⟩
    · have Hk0 : Hid (k = 0) := by show k = 0; omega
      have hd0 : decide (0 < k) = false := by simp; omega
      have Hd : Hid (LeastHead hs ls p k) := ⟨hk, Htk.out, Or.inl Hk0.out⟩
      clear Htk hpos
      go_wp2_with (fail)
      refine wp_region_quiet_below (by kernel_rfl) (by kernel_rfl) ?_
      repeat (go_big_quiet_step (fail))
      refine wpQuiet_nil ?_
      intro _ hw'
      obtain ⟨⟨dq, osq⟩, hw''⟩ := hw'
      subst hw''
      have hbq := below_trans hbr (below_regrown wr dq osq)
      clear x0 x1 x2 x3 x4 x5
      dsimp only at hbq ⊢
      generalize hwq : grow (redrawn wr dq) osq = wq at hbq ⊢
      clear hwq hd0
      obtain ⟨x0, x1, x2, x3, x4, x5⟩ := HB.out hbq
      have HQ1 : Hid (∀ w1, Below W0.heap.size W0 w1 → Calls Tryd.prog 47 #[.agg #[.slice a0 hs.length c0, .slice a1 ls.length c1], .int .i64 0, .int .i64 k] w1 fun e w' => ∃ ad cap, e = .returned (.slice ad k cap) ∧ IntSl w' (.slice ad k cap) (pieceOf hs ls 0 k) ∧ Below w1.heap.size w1 w' ∧ (∀ q, (Value.slice ad k cap).ownBlock = some q → w1.heap.size ≤ q) ∧ (∀ b o, b < w.heap.size + 2 → w'.cell? ⟨b, o, none⟩ = w1.cell? ⟨b, o, none⟩) ∧ (∀ b o, b < w.heap.size + 2 → w'.frozen? ⟨b, o, none⟩ = w1.frozen? ⟨b, o, none⟩)) := fun w1 hb =>
        (HQ.out w1 (below_trans hbW hb) 0 k (by omega) (by omega)).mono fun e w' ⟨v, he, hv, hb', hfr⟩ => let ⟨ad, cap, hvv⟩ := hv.form (pieceOf_length _ _ _ _); ⟨ad, cap, hvv ▸ he, hvv ▸ hv, hb', hvv ▸ hfr, fun b o h => hb'.cell (p := ⟨b, o, none⟩) (by have := hb.size; simp; omega), fun b o h => hb'.frozen (p := ⟨b, o, none⟩) (by have := hb.size; simp; omega)⟩
      have HQ2 : Hid (∀ w1, Below W0.heap.size W0 w1 → Calls Tryd.prog 47 #[.agg #[.slice a0 hs.length c0, .slice a1 ls.length c1], .int .i64 k, .int .i64 p] w1 fun e w' => ∃ ad cap, e = .returned (.slice ad p cap) ∧ IntSl w' (.slice ad p cap) (pieceOf hs ls k p) ∧ Below w1.heap.size w1 w' ∧ (∀ q, (Value.slice ad p cap).ownBlock = some q → w1.heap.size ≤ q) ∧ (∀ b o, b < w.heap.size + 2 → w'.cell? ⟨b, o, none⟩ = w1.cell? ⟨b, o, none⟩) ∧ (∀ b o, b < w.heap.size + 2 → w'.frozen? ⟨b, o, none⟩ = w1.frozen? ⟨b, o, none⟩)) := fun w1 hb =>
        (HQ.out w1 (below_trans hbW hb) k p (by omega) (by omega)).mono fun e w' ⟨v, he, hv, hb', hfr⟩ => let ⟨ad, cap, hvv⟩ := hv.form (pieceOf_length _ _ _ _); ⟨ad, cap, hvv ▸ he, hvv ▸ hv, hb', hvv ▸ hfr, fun b o h => hb'.cell (p := ⟨b, o, none⟩) (by have := hb.size; simp; omega), fun b o h => hb'.frozen (p := ⟨b, o, none⟩) (by have := hb.size; simp; omega)⟩
      go_wp2_with (fail)
      go_region_held3 (fun w' => w'.cell? ⟨w.heap.size, 0, none⟩ = some (.slice a0 hs.length c0) ∧ w'.cell? ⟨w.heap.size, 1, none⟩ = some (.slice a1 ls.length c1)) (go_keep) (first | (go_at_call_of 47 (Value.int IntKind.i64 (p : Int)); refine (HQ2.out _ ?_).mono ?_; exact below_trans hbq3 hb3; rintro e w4 ⟨d4, e4, rfl, hv4, hb4, hq4, hc4, hf4⟩) | (go_at_call 47; refine (HQ1.out _ ?_).mono ?_; exact Below.drew hbq; rintro e w3 ⟨d3, e3, rfl, hv3, hb3, hq3, hc3, hf3⟩; have hbq3 := Below.drew hbq))
      have hbq4 := below_trans (below_trans hbq3 hb3) hb4
      have hsz3 : w.heap.size + 2 ≤ wq.heap.size := by have := hbq.size; omega
      have hsz4 : wq.heap.size ≤ w3.heap.size := hb3.size
      have hr0 : w4.cell? ⟨w.heap.size + 1, 0, none⟩ = some (.slice none 0 0) := by rw [hc4 _ _ (by omega), hc3 _ _ (by omega)]; exact x2
      have hr1 : w4.cell? ⟨w.heap.size + 1, 1, none⟩ = some (.slice none 0 0) := by rw [hc4 _ _ (by omega), hc3 _ _ (by omega)]; exact x3
      have Hv3 : Hid (IntSl ((w4.setCell ⟨w.heap.size + 1, 0, none⟩ (.slice d3 k e3)).setCell ⟨w.heap.size + 1, 1, none⟩ (.slice d4 p e4)) (.slice d3 k e3) (pieceOf hs ls 0 k)) :=
        ((hv3.below hb4).setCell (fun q hq => by have h1 := hq3 q hq; have h2 : wq.heap.size ≤ q := h1; simp; omega) _).setCell (fun q hq => by have h1 := hq3 q hq; have h2 : wq.heap.size ≤ q := h1; simp; omega) _
      have Hv4 : Hid (IntSl ((w4.setCell ⟨w.heap.size + 1, 0, none⟩ (.slice d3 k e3)).setCell ⟨w.heap.size + 1, 1, none⟩ (.slice d4 p e4)) (.slice d4 p e4) (pieceOf hs ls k p)) :=
        (hv4.setCell (fun q hq => by have := hq4 q hq; simp; omega) _).setCell (fun q hq => by have := hq4 q hq; simp; omega) _
      have Hbf : Hid (Below w.heap.size w ((w4.setCell ⟨w.heap.size + 1, 0, none⟩ (.slice d3 k e3)).setCell ⟨w.heap.size + 1, 1, none⟩ (.slice d4 p e4))) :=
        ((below_trans hbW hbq4).setCell (by simp) _).setCell (by simp) _
      clear hv3 hv4 hq3 hq4 hc3 hc4 hf3 hf4 hb3 hb4 hbq3 hbq4 x0 x1 x2 x3 x4 x5
      go_wp2
      exact bodyPost_ret (v := .tuple #[.agg #[.slice d3 k e3, .slice d4 p e4], .int .i64 0]) (by simp [results, Tryd.results27, go_sem, hr0, hr1]) rfl ⟨_, _, p, k, rfl, Hp.out, Hd.out, Hv3.out, Hv4.out, Hbf.out⟩
end Go.Proofs.YtpiacnnifdjlkabDoor

/-
  What LeastOf of the reference answers.
-/
namespace Go.Proofs.YtpiacnnifdjlkabDoor
open Go.RowKit Go.Sort

/-- What stands behind the head is the same n further on, all along. -/
def IsShift (hs ls : List Int) (n : Nat) : Prop := ∀ i, hs.length ≤ i → i < hs.length + ls.length → lat hs ls i = lat hs ls (i + n)

def LeastShift (hs ls : List Int) (n : Nat) : Prop := 1 ≤ n ∧ n ≤ ls.length ∧ IsShift hs ls n ∧ ∀ q, 1 ≤ q → IsShift hs ls q → n ≤ q

theorem isShift_all (hs ls : List Int) : IsShift hs ls ls.length := by
  intro i h1 h2
  unfold lat
  rw [if_neg (by omega), if_neg (by omega)]
  congr 1
  rw [show i + ls.length - hs.length = (i - hs.length) + ls.length by omega, Nat.add_mod_right]

theorem grown_of_below {w w' : World} (h : Below w.heap.size w w') : w.grownBy w' none := ⟨h.os, h.tape, h.output, h.size, fun k hk _ => h.block k hk⟩

theorem owns_below {w w' : World} {base : Nat} {e : TypeId} {size : Nat} {v : Value} {n : Nat} {xs : List Value} (h : w.ownsRow base e size v n xs) (hb : Below w.heap.size w w') : w'.ownsRow base e size v n xs :=
  h.kept (grown_of_below hb) (by cases hv : v.ownBlock <;> simp)

theorem owns_form {w : World} {base : Nat} {e : TypeId} {size : Nat} {v : Value} {n : Nat} {xs : List Value} (h : w.ownsRow base e size v n xs) : ∃ a cap, v = .slice a n cap := by
  rcases h.2 with ⟨rfl, rfl⟩ | ⟨g, cap, cur, rfl, _⟩
  · exact ⟨none, 0, rfl⟩
  · exact ⟨_, _, rfl⟩

/-- append at a step of a region that draws its order; the new slice written out. -/
theorem step_append_sl2 {ops : Array Oper} {o : Oper} {a : Act} {K : Act → World → Prop} {Q : Exit → Act → World → Prop} {E : Prop} {w : World} (hgd : o.guard = none) (s x : Operand)
    (ho : o.op = .call { callee := .builtin .append, args := #[s, x], argTypes := #[22, 22] })
    (base : Nat) (v : Value) (n : Nat) (xs : List Value) (hs : a.eval s = v) (hown : w.ownsRow base 3 1 v n xs) (sv : Value) (zs : List Int) (hx : a.eval x = sv) (hz : IntSl w sv zs)
    (h63 : n + zs.length ≤ 1000000) (hbase : base ≤ w.heap.size)
    (h : ∀ ad cap w', w'.ownsRow base 3 1 (.slice ad (n + zs.length) cap) (n + zs.length) (xs ++ zs.map (.int .i64)) → Below base w w' → (∀ b o, b < base → w'.cell? ⟨b, o, none⟩ = w.cell? ⟨b, o, none⟩) → (∀ b o, b < base → w'.frozen? ⟨b, o, none⟩ = w.frozen? ⟨b, o, none⟩) → base ≤ w'.heap.size → K (a.put o.dst (.slice ad (n + zs.length) cap)) w') :
    if Region.wanted o (yielded ops a.tmps) = true then Oper.wp Tryd.prog o a w K Q else E :=
  step_append_sl hgd s x ho base v n xs hs hown sv zs hx hz h63 hbase fun v' w' h2 hb hc hsz => by
    obtain ⟨ad, cap, rfl⟩ := owns_form h2
    exact h ad cap w' h2 hb hc (fun b o hlt => hb.frozen (p := ⟨b, o, none⟩) hlt) hsz

/-- A call of a Go function at a step of a region that draws its order. -/
theorem step_call {ops : Array Oper} {o : Oper} {a : Act} {K : Act → World → Prop} {Q : Exit → Act → World → Prop} {E : Prop} {w : World} (hgd : o.guard = none) (f : Nat) (args : List Operand) (tys : Array TypeId)
    (ho : o.op = .call { callee := .value (.func f), args := args.toArray, argTypes := tys }) (hf : ∀ args w, (callFunc f args).run Tryd.prog w = .ok (.enter f args) w)
    (h : Calls Tryd.prog f (args.map a.eval).toArray w fun e w' => ∃ v, e = .returned v ∧ K (a.put o.dst v) w') :
    if Region.wanted o (yielded ops a.tmps) = true then Oper.wp Tryd.prog o a w K Q else E := by
  have hw : Region.wanted o (yielded ops a.tmps) = true := by simp [Region.wanted, hgd]
  rw [if_pos hw]
  have hrun : (execOp a.eval o).run Tryd.prog w = .ok (.enter f (args.map a.eval).toArray) w := by
    unfold execOp
    simp only [ho, resolve, Deferred.ofValue, invoke, Sem.run_bind, Sem.run_pure, Result.andThen_ok, List.map_toArray, Act.eval, Array.empty_append, Array.append_empty, hf]
  unfold Oper.wp
  rw [hrun, Oper.upon_enter]
  exact h.mono fun e w' ⟨v, he, hk⟩ => by subst he; exact hk

theorem intSl_one (w : World) (g : Nat) (x : Int) (h : w.cell? ⟨g, 0, none⟩ = some (.int .i64 x)) : IntSl w (.slice (some ⟨g, 0, none⟩) 1 1) [x] :=
  ⟨_, _, rfl, by simp [maxLen], Or.inr ⟨g, 0, rfl, fun i hi => by
    have : i = 0 := by simpa using hi
    subst this
    exact h⟩, (fun h => by cases h), by simp⟩

theorem IntSl.belowB {w w' : World} {v : Value} {zs : List Int} {B : Nat} (h : IntSl w v zs) (hb : Below B w w') (hk : ∀ k, v.ownBlock = some k → k < B) : IntSl w' v zs := by
  obtain ⟨a, cap, rfl, hm, h, hn⟩ := h
  refine ⟨a, cap, rfl, hm, ?_, hn⟩
  rcases h with h | ⟨b, off, rfl, hc⟩
  · exact Or.inl h
  · exact Or.inr ⟨b, off, rfl, fun i hi => by rw [hb.cell (p := ⟨b, off + i, none⟩) (hk b rfl)]; exact hc i hi⟩

theorem pieceOf_succ (hs ls : List Int) (f m : Nat) : pieceOf hs ls f (m + 1) = pieceOf hs ls f m ++ [lat hs ls (f + m)] := by
  simp [pieceOf, List.range_succ]

end Go.Proofs.YtpiacnnifdjlkabDoor

/-
  Plain facts: the shortest list that, again and again, makes up a loop, and the least shift of a word, are one.
-/
namespace Go.Proofs.YtpiacnnifdjlkabDoor
open Go.RowKit

def cyc (ls : List Int) (j : Nat) : Int := ls.getD (j % ls.length) 0

theorem lat_cyc (hs ls : List Int) (j : Nat) : lat hs ls (hs.length + j) = cyc ls j := by
  unfold lat cyc
  rw [if_neg (by omega), Nat.add_sub_cancel_left]

theorem cyc_mod (ls : List Int) (j : Nat) : cyc ls (j % ls.length) = cyc ls j := by
  unfold cyc
  rw [Nat.mod_mod]

theorem cyc_len (ls : List Int) (j : Nat) : cyc ls (j + ls.length) = cyc ls j := by
  unfold cyc
  rw [Nat.add_mod_right]

/-- The word behind its head is the same n further on. -/
def Period (ls : List Int) (n : Nat) : Prop := ∀ j, cyc ls j = cyc ls (j + n)

theorem period_of_shift {hs ls : List Int} {n : Nat} (h0 : 0 < ls.length) (h : IsShift hs ls n) : Period ls n := by
  intro j
  have h1 := h (hs.length + j % ls.length) (by omega) (by have := Nat.mod_lt j h0; omega)
  rw [lat_cyc, Nat.add_assoc, lat_cyc, cyc_mod] at h1
  rw [h1]
  unfold cyc
  rw [Nat.mod_add_mod]

theorem shift_of_period {hs ls : List Int} {n : Nat} (h : Period ls n) : IsShift hs ls n := by
  intro i h1 _
  obtain ⟨j, rfl⟩ : ∃ j, i = hs.length + j := ⟨i - hs.length, by omega⟩
  rw [lat_cyc, Nat.add_assoc, lat_cyc]
  exact h j

theorem period_mul {ls : List Int} {n : Nat} (h : Period ls n) (q j : Nat) : cyc ls j = cyc ls (j + n * q) := by
  induction q with
  | zero => rfl
  | succ q ih => rw [ih, h (j + n * q), Nat.mul_succ, Nat.add_assoc]

theorem per_step {ls : List Int} {p : Nat} (h : IsPer ls p) (j : Nat) (hj : j + p < ls.length) : ls.getD (j + p) 0 = ls.getD j 0 := by
  have h4 := h.2.2.2
  have h1 : (ls.drop p).getD j 0 = (ls.take (ls.length - p)).getD j 0 := by rw [h4]
  simp only [List.getD, List.getElem?_drop, List.getElem?_take] at h1
  rw [if_pos (by omega), Nat.add_comm p j] at h1
  exact h1

theorem per_mul {ls : List Int} {p : Nat} (h : IsPer ls p) (r q : Nat) (hj : r + p * q < ls.length) : ls.getD (r + p * q) 0 = ls.getD r 0 := by
  induction q with
  | zero => rfl
  | succ q ih =>
    rw [Nat.mul_succ, ← Nat.add_assoc] at hj ⊢
    rw [per_step h _ hj, ih (by omega)]

theorem period_of_per {ls : List Int} {p : Nat} (h : IsPer ls p) : Period ls p := by
  have h0 : 0 < ls.length := by have := h.1; have := h.2.1; omega
  have key : ∀ i, i < ls.length → cyc ls i = ls.getD (i % p) 0 := by
    intro i hi
    have e : i % p + p * (i / p) = i := Nat.mod_add_div i p
    unfold cyc
    rw [Nat.mod_eq_of_lt hi]
    have := per_mul h (i % p) (i / p) (by rw [e]; exact hi)
    rw [e] at this
    exact this
  have dv : p ∣ ls.length := Nat.dvd_of_mod_eq_zero h.2.2.1
  have all : ∀ j, cyc ls j = ls.getD (j % p) 0 := by
    intro j
    rw [← cyc_mod, key _ (Nat.mod_lt _ h0), Nat.mod_mod_of_dvd _ dv]
  intro j
  rw [all j, all (j + p), Nat.add_mod_right]

theorem per_of_period {ls : List Int} {n : Nat} (h1 : 1 ≤ n) (h2 : n ≤ ls.length) (hd : ls.length % n = 0) (h : Period ls n) : IsPer ls n := by
  refine ⟨h1, h2, hd, ?_⟩
  apply List.ext_getElem
  · simp
  · intro i hi1 hi2
    have hi : i < ls.length - n := by simpa using hi1
    have e := h i
    unfold cyc at e
    rw [Nat.mod_eq_of_lt (by omega), Nat.mod_eq_of_lt (show i + n < ls.length by omega)] at e
    simp [List.getD, show i < ls.length by omega, show i + n < ls.length by omega] at e
    simp [e, Nat.add_comm]

theorem least_same {hs ls : List Int} {n p : Nat} (hn : LeastShift hs ls n) (hp : LeastPer ls p) : n = p := by
  obtain ⟨h1, h2, h3, h4⟩ := hn
  have h0 : 0 < ls.length := by omega
  have hpn := period_of_shift h0 h3
  have hmod : ls.length % n = 0 := by
    rcases Nat.eq_zero_or_pos (ls.length % n) with h | h
    · exact h
    · have hr : Period ls (ls.length % n) := by
        intro j
        have e : ls.length % n + n * (ls.length / n) = ls.length := Nat.mod_add_div _ _
        have := period_mul hpn (ls.length / n) (j + ls.length % n)
        rw [Nat.add_assoc, e, cyc_len] at this
        exact this.symm
      have := h4 _ h (shift_of_period hr)
      have := Nat.mod_lt ls.length (show 0 < n by omega)
      omega
  have a := hp.2 n (per_of_period h1 h2 hmod hpn)
  have b := h4 p hp.1.1 (shift_of_period (period_of_per hp.1))
  omega

theorem head_same {hs ls : List Int} {p k k' : Nat} (h : LeastHead hs ls p k) (h' : LeastHead hs ls p k') : k = k' := by
  have aux : ∀ {a b : Nat}, LeastHead hs ls p a → LeastHead hs ls p b → ¬ a < b := by
    intro a b ha hb hlt
    rcases hb.2.2 with h | h
    · omega
    · exact h (ha.2.1 (b - 1) (by omega) (by have := hb.1; omega))
  have := aux h h'
  have := aux h' h
  omega

/-- The least lasso of a word, and the same of the reference, have the same letters. -/
theorem leasts_same {hs ls : List Int} {p k p' k' : Nat} (hp : LeastPer ls p) (hk : LeastHead hs ls p k) (hp' : LeastShift hs ls p') (hk' : LeastHead hs ls p' k') : pieceOf hs ls 0 k = pieceOf hs ls 0 k' ∧ pieceOf hs ls k p = pieceOf hs ls k' p' := by
  have e := least_same hp' hp
  subst e
  have e2 := head_same hk hk'
  subst e2
  exact ⟨rfl, rfl⟩
end Go.Proofs.YtpiacnnifdjlkabDoor

namespace Go.Proofs.YtpiacnnifdjlkabDoor
open Go.RowKit Go.Sort

/-- A slice of bools that reads as this list. -/
def BoolSl (w : World) (v : Value) (zs : List Bool) : Prop :=
  ∃ a cap, v = .slice a zs.length cap ∧ zs.length ≤ maxLen ∧ (zs = [] ∨ ∃ b off, a = some ⟨b, off, none⟩ ∧ ∀ i, i < zs.length → w.cell? ⟨b, off + i, none⟩ = some (.bool (zs.getD i false))) ∧ (a = none → cap = 0) ∧ zs.length ≤ cap

theorem BoolSl.below {w w' : World} {v : Value} {zs : List Bool} (h : BoolSl w v zs) (hb : Below w.heap.size w w') : BoolSl w' v zs := by
  obtain ⟨a, cap, rfl, hm, h, hn⟩ := h
  refine ⟨a, cap, rfl, hm, ?_, hn⟩
  rcases h with h | ⟨b, off, rfl, hc⟩
  · exact Or.inl h
  · refine Or.inr ⟨b, off, rfl, fun i hi => ?_⟩
    have := hc i hi
    rw [hb.cell (World.block_lt_of_cell? w _ this)]; exact this

/-- A step: from, letter, to. -/
structure Stp where
  f : Int
  l : Int
  t : Int

def stp0 : Stp := ⟨0, 0, 0⟩

/-- A slice of steps that reads as this list. -/
def StepSl (w : World) (v : Value) (zs : List Stp) : Prop :=
  ∃ a cap, v = .slice a zs.length cap ∧ zs.length ≤ maxLen ∧ (zs = [] ∨ ∃ b off, a = some ⟨b, off, none⟩ ∧ ∀ i, i < zs.length → w.cell? ⟨b, off + i * 3, none⟩ = some (.int .i64 (zs.getD i stp0).f) ∧ w.cell? ⟨b, off + i * 3 + 1, none⟩ = some (.int .i64 (zs.getD i stp0).l) ∧ w.cell? ⟨b, off + i * 3 + 2, none⟩ = some (.int .i64 (zs.getD i stp0).t)) ∧ (a = none → cap = 0) ∧ zs.length ≤ cap

theorem StepSl.below {w w' : World} {v : Value} {zs : List Stp} (h : StepSl w v zs) (hb : Below w.heap.size w w') : StepSl w' v zs := by
  obtain ⟨a, cap, rfl, hm, h, hn⟩ := h
  refine ⟨a, cap, rfl, hm, ?_, hn⟩
  rcases h with h | ⟨b, off, rfl, hc⟩
  · exact Or.inl h
  · refine Or.inr ⟨b, off, rfl, fun i hi => ?_⟩
    obtain ⟨h1, h2, h3⟩ := hc i hi
    refine ⟨?_, ?_, ?_⟩
    · rw [hb.cell (World.block_lt_of_cell? w _ h1)]; exact h1
    · rw [hb.cell (World.block_lt_of_cell? w _ h2)]; exact h2
    · rw [hb.cell (World.block_lt_of_cell? w _ h3)]; exact h3

/-- An automaton. -/
structure Aut where
  n : Int
  m : Int
  first : List Int
  good : List Bool
  steps : List Stp

def AutV (w : World) (v : Value) (A : Aut) : Prop :=
  ∃ fv gv sv, v = .agg #[.int .i64 A.n, .int .i64 A.m, fv, gv, sv] ∧ IntSl w fv A.first ∧ BoolSl w gv A.good ∧ StepSl w sv A.steps

theorem AutV.below {w w' : World} {v : Value} {A : Aut} (h : AutV w v A) (hb : Below w.heap.size w w') : AutV w' v A := by
  obtain ⟨fv, gv, sv, rfl, h1, h2, h3⟩ := h
  exact ⟨fv, gv, sv, rfl, h1.below hb, h2.below hb, h3.below hb⟩

set_option maxHeartbeats 400000 in
theorem within_any (a n : Int) (w : World) :
    Calls Tryd.prog 83 #[.int .i64 a, .int .i64 n] w fun e w' => e = .returned (.bool (decide (0 ≤ a ∧ a < n))) ∧ w' = w := by
  by_cases h1 : 0 ≤ a
  · go_enter Tryd.func83, Tryd.ntmps83
    go_wp2
    go_ret
    exact ⟨by simp [h1], rfl⟩
  · have h2 : a < 0 := by omega
    have e : decide (0 ≤ a ∧ a < n) = false := by simp; omega
    rw [e]
    clear h1 e
    go_enter Tryd.func83, Tryd.ntmps83
    go_wp2
    go_ret
    exact ⟨rfl, rfl⟩

def cmpI (a b : Int) : Int := if a < b then -1 else if b < a then 1 else 0

set_option maxHeartbeats 400000 in
theorem compare_any (a b : Int) (w : World) :
    Calls Tryd.prog 79 #[.int .i64 a, .int .i64 b] w fun e w' => e = .returned (.int .i64 (cmpI a b)) ∧ w' = w := by
  have ha : (a != a) = false := by simp
  have hb : (b != b) = false := by simp
  by_cases h1 : a < b
  · rw [show cmpI a b = -1 by simp [cmpI, h1]]
    go_enter Tryd.func79, Tryd.ntmps79
    go_wp2
    go_ret
    exact ⟨rfl, rfl⟩
  · by_cases h2 : b < a
    · rw [show cmpI a b = 1 by simp [cmpI, h1, h2]]
      clear h1
      go_enter Tryd.func79, Tryd.ntmps79
      go_wp2
      go_ret
      exact ⟨rfl, rfl⟩
    · rw [show cmpI a b = 0 by simp [cmpI, h1, h2]]
      have h3 : a ≤ b := by omega
      have h4 : b ≤ a := by omega
      clear h1 h2
      go_enter Tryd.func79, Tryd.ntmps79
      go_wp2
      go_ret
      exact ⟨rfl, rfl⟩

def orI (x y z : Int) : Int := if x ≠ 0 then x else if y ≠ 0 then y else z

set_option maxHeartbeats 400000 in
theorem or_any (g : Nat) (x y z : Int) (w : World) (h0 : w.cell? ⟨g, 0, none⟩ = some (.int .i64 x)) (h1 : w.cell? ⟨g, 1, none⟩ = some (.int .i64 y)) (h2 : w.cell? ⟨g, 2, none⟩ = some (.int .i64 z)) :
    Calls Tryd.prog 97 #[.slice (some ⟨g, 0, none⟩) 3 3] w fun e w' => e = .returned (.int .i64 (orI x y z)) ∧ w' = w := by
  by_cases hx : x = 0
  · have bx : (x != 0) = false := by simp [hx]
    by_cases hy : y = 0
    · have bY : (y != 0) = false := by simp [hy]
      by_cases hz : z = 0
      · have bz : (z != 0) = false := by simp [hz]
        have e : orI x y z = 0 := by simp [orI, hx, hy, hz]
        rw [e]
        clear hx hy hz e
        go_enter Tryd.func97, Tryd.ntmps97
        go_wp2
        refine wp_loop_rounds 4 ?_
        repeat (rw [rounds_succ]; go_wp2)
        go_ret
        exact ⟨rfl, rfl⟩
      · have bz : (z != 0) = true := by simp [hz]
        have e : orI x y z = z := by simp [orI, hx, hy]
        rw [e]
        clear hx hy hz e
        go_enter Tryd.func97, Tryd.ntmps97
        go_wp2
        refine wp_loop_rounds 4 ?_
        repeat (rw [rounds_succ]; go_wp2)
        go_ret
        exact ⟨rfl, rfl⟩
    · have bY : (y != 0) = true := by simp [hy]
      have e : orI x y z = y := by simp [orI, hx, hy]
      rw [e]
      clear hx hy e
      go_enter Tryd.func97, Tryd.ntmps97
      go_wp2
      refine wp_loop_rounds 4 ?_
      repeat (rw [rounds_succ]; go_wp2)
      go_ret
      exact ⟨rfl, rfl⟩
  · have bx : (x != 0) = true := by simp [hx]
    have e : orI x y z = x := by simp [orI, hx]
    rw [e]
    clear hx e
    go_enter Tryd.func97, Tryd.ntmps97
    go_wp2
    refine wp_loop_rounds 4 ?_
    repeat (rw [rounds_succ]; go_wp2)
    go_ret
    exact ⟨rfl, rfl⟩

theorem cell_three (w : World) (a b : Obj) (c : Array Value) (t : TypeId) (i : Nat) : (((w.alloc a).alloc b).alloc (.cells c t)).drew.cell? ⟨w.heap.size + 1 + 1, i, none⟩ = c[i]? := by
  have := World.cell?_alloc_new ((w.alloc a).alloc b) c t i
  rw [World.size_alloc, World.size_alloc] at this
  exact this

def ordS (a b : Stp) : Int := orI (cmpI a.f b.f) (cmpI a.l b.l) (cmpI a.t b.t)

set_option maxRecDepth 100000 in
set_option maxHeartbeats 1000000 in
theorem order_any (a b : Stp) (w : World) :
    Calls Tryd.prog 75 #[.agg #[.int .i64 a.f, .int .i64 a.l, .int .i64 a.t], .agg #[.int .i64 b.f, .int .i64 b.l, .int .i64 b.t]] w fun e w' => e = .returned (.int .i64 (ordS a b)) ∧ Below w.heap.size w w' := by
  obtain ⟨af, al, at_⟩ := a
  obtain ⟨bf, bl, bt⟩ := b
  dsimp only [ordS]
  go_enter Tryd.func75, Tryd.ntmps75
  go_wp2_with (fail)
  go_region_held3 (fun w' => w'.cell? ⟨w.heap.size, 0, none⟩ = some (.int .i64 af) ∧ w'.cell? ⟨w.heap.size, 1, none⟩ = some (.int .i64 al) ∧ w'.cell? ⟨w.heap.size, 2, none⟩ = some (.int .i64 at_) ∧ w'.cell? ⟨w.heap.size + 1, 0, none⟩ = some (.int .i64 bf) ∧ w'.cell? ⟨w.heap.size + 1, 1, none⟩ = some (.int .i64 bl) ∧ w'.cell? ⟨w.heap.size + 1, 2, none⟩ = some (.int .i64 bt)) (go_keep) (first | (go_at_call 79; refine (compare_any _ _ _).mono ?_; rintro e w' ⟨rfl, rfl⟩) | (go_at_call 97; refine (or_any _ (cmpI af bf) (cmpI al bl) (cmpI at_ bt) _ ?_ ?_ ?_).mono ?_; exact cell_three _ _ _ _ _ 0; exact cell_three _ _ _ _ _ 1; exact cell_three _ _ _ _ _ 2; rintro e w' ⟨rfl, rfl⟩))
  go_wp2
  go_ret
  exact ⟨rfl, (by repeat (first | exact Below.refl _ _ | assumption | refine below_drewN ?_ _ | refine Below.drew ?_ | refine Below.alloc ?_ (by simp <;> omega) _ | refine below_trans ?_ (by assumption)))⟩
end Go.Proofs.YtpiacnnifdjlkabDoor
