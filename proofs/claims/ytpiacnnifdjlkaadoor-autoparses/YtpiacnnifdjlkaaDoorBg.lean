/-
  What Least of package word answers.
-/
import Derived.Test.YtpiacnnifdjlkaaDoorBf
namespace Go.Proofs.YtpiacnnifdjlkaaDoor
open Go.RowKit Go.Sort

def LeastHead (hs ls : List Int) (p k : Nat) : Prop := k ≤ hs.length ∧ (∀ j, k ≤ j → j < hs.length → lat hs ls j = lat hs ls (j + p)) ∧ (k = 0 ∨ lat hs ls (k - 1) ≠ lat hs ls (k - 1 + p))

set_option maxHeartbeats 400000 in
theorem least_bad {w : World} {hv lv : Value} {hs ls : List Int} (hh : IntSl w hv hs) (hl : IntSl w lv ls) (n : Int) (h : (chk hs ls n != 0) = true) :
    Calls Tryd.prog 24 #[.agg #[hv, lv], .int .i64 n] w fun e w' => e = .returned (.tuple #[.agg #[.slice none 0 0, .slice none 0 0], .int .i64 (chk hs ls n)]) ∧ Below w.heap.size w w' := by
  have HC : Hid (∀ w1, Below w.heap.size w w1 → Calls Tryd.prog 30 #[.agg #[hv, lv], .int .i64 n] w1 fun e w' => e = .returned (.int .i64 (chk hs ls n)) ∧ Below w1.heap.size w1 w') := fun w1 hb => check_any n (hh.below hb) (hl.below hb)
  clear hh hl
  generalize chk hs ls n = c at *
  go_enter Tryd.func24, Tryd.ntmps24
  go_wp2_with (fail)
  refine (HC.out _ (by repeat (first | exact Below.refl _ _ | assumption | refine below_drewN ?_ _ | refine Below.drew ?_ | refine Below.alloc ?_ (by simp <;> omega) _ | refine below_trans ?_ (by assumption)))).mono ?_
  rintro e w1 ⟨rfl, hb1⟩
  have hbw : Below w.heap.size w w1 := below_trans (by repeat (first | exact Below.refl _ _ | assumption | refine below_drewN ?_ _ | refine Below.drew ?_ | refine Below.alloc ?_ (by simp <;> omega) _ | refine below_trans ?_ (by assumption))) hb1
  have r0 : w1.cell? ⟨w.heap.size + 1, 0, none⟩ = some (.slice none 0 0) := by rw [hb1.cell (by simp <;> omega)]; simp
  have r1 : w1.cell? ⟨w.heap.size + 1, 1, none⟩ = some (.slice none 0 0) := by rw [hb1.cell (by simp <;> omega)]; simp
  have f0 : w1.frozen? ⟨w.heap.size + 1, 0, none⟩ = false := by rw [hb1.frozen (by simp <;> omega)]; simp
  have f1 : w1.frozen? ⟨w.heap.size + 1, 1, none⟩ = false := by rw [hb1.frozen (by simp <;> omega)]; simp
  go_wp2
  refine bodyPost_ret (v := .tuple #[.agg #[.slice none 0 0, .slice none 0 0], .int .i64 c]) (by simp [results, Tryd.results24, go_sem, r0, r1]) rfl ⟨rfl, ?_⟩
  exact (hbw.setCell (by simp) _).setCell (by simp) _

theorem IntSl.form {w : World} {v : Value} {zs : List Int} (h : IntSl w v zs) {n : Nat} (hn : zs.length = n) : ∃ a cap, v = .slice a n cap := by
  obtain ⟨a, cap, rfl, _⟩ := h
  exact ⟨a, cap, by rw [hn]⟩

theorem pieceOf_length (hs ls : List Int) (f c : Nat) : (pieceOf hs ls f c).length = c := by simp [pieceOf]

theorem chk_zero {hs ls : List Int} {n : Int} (h : chk hs ls n = 0) : hs.length ≤ 4000 ∧ ls.length ≤ 4000 ∧ 0 < ls.length ∧ 1 ≤ n ∧ n ≤ 8 := by
  unfold chk at h
  split at h
  · cases h
  · split at h
    · cases h
    · split at h
      · cases h
      · omega

set_option maxRecDepth 100000 in
set_option maxHeartbeats 1000000 in
theorem least_good {w : World} {hv lv : Value} {hs ls : List Int} (hh : IntSl w hv hs) (hl : IntSl w lv ls) (n : Int) (h : chk hs ls n = 0) :
    Calls Tryd.prog 24 #[.agg #[hv, lv], .int .i64 n] w fun e w' => ∃ v1 v2 p k, e = .returned (.tuple #[.agg #[v1, v2], .int .i64 0]) ∧ LeastPer ls p ∧ LeastHead hs ls p k ∧ IntSl w' v1 (pieceOf hs ls 0 k) ∧ IntSl w' v2 (pieceOf hs ls k p) ∧ Below w.heap.size w w' := by
  obtain ⟨hl1, hl2, hl3, -, -⟩ := chk_zero h
  have hne : ls ≠ [] := List.length_pos_iff.1 hl3
  have HC : Hid (∀ w1, Below w.heap.size w w1 → Calls Tryd.prog 30 #[.agg #[hv, lv], .int .i64 n] w1 fun e w' => e = .returned (.int .i64 0) ∧ Below w1.heap.size w1 w') := fun w1 hb => by
    have := check_any n (hh.below hb) (hl.below hb)
    rwa [h] at this
  have HL : Hid (∀ w1, Below w.heap.size w w1 → ∀ i : Int, 0 ≤ i → i ≤ 9223372036854775807 → Calls Tryd.prog 62 #[.agg #[hv, lv], .int .i64 i] w1 fun e w' => e = .returned (.int .i64 (lat hs ls i.toNat)) ∧ Below w1.heap.size w1 w') :=
    fun w1 hb i h0 hi => letterAt_any (hh.below hb) (hl.below hb) i h0 hi hne
  have HP : Hid (∀ w1, Below w.heap.size w w1 → Calls Tryd.prog 61 #[lv] w1 fun e w' => ∃ p : Nat, e = .returned (.int .i64 p) ∧ LeastPer ls p ∧ ∃ m, w' = w1.drewN m) := fun w1 hb => period_any (hl.below hb) hl2 hl3
  have HQ : Hid (∀ w1, Below w.heap.size w w1 → ∀ f c : Nat, f ≤ 1000000 → c ≤ 1000000 → Calls Tryd.prog 63 #[.agg #[hv, lv], .int .i64 f, .int .i64 c] w1 fun e w' => ∃ v, e = .returned v ∧ IntSl w' v (pieceOf hs ls f c) ∧ Below w1.heap.size w1 w' ∧ (∀ k, v.ownBlock = some k → w1.heap.size ≤ k)) := fun w1 hb f c hf hc => piece_any (hh.below hb) (hl.below hb) hne f c hf hc
  obtain ⟨a0, c0, rfl, hm0, -, -⟩ := hh
  obtain ⟨a1, c1, rfl, hm1, -, -⟩ := hl
  clear h hne hm0 hm1
  go_enter Tryd.func24, Tryd.ntmps24
  go_wp2_with (fail)
  refine (HC.out _ (by repeat (first | exact Below.refl _ _ | assumption | refine below_drewN ?_ _ | refine Below.drew ?_ | refine Below.alloc ?_ (by simp <;> omega) _ | refine below_trans ?_ (by assumption)))).mono ?_
  rintro e w1 ⟨rfl, hb1⟩
  generalize hW0 : (w.alloc (Obj.cells #[Value.slice a0 hs.length c0, Value.slice a1 ls.length c1] 44)).alloc (Obj.cells #[Value.slice none 0 0, Value.slice none 0 0] 44) = W0 at hb1
  have hbW : Below w.heap.size w W0 := by rw [← hW0]; exact (by repeat (first | exact Below.refl _ _ | assumption | refine below_drewN ?_ _ | refine Below.drew ?_ | refine Below.alloc ?_ (by simp <;> omega) _ | refine below_trans ?_ (by assumption)))
  have hsz : W0.heap.size = w.heap.size + 2 := by rw [← hW0]; simp
  have hB : ∀ {w' : World}, Below W0.heap.size W0 w' → w'.cell? ⟨w.heap.size, 0, none⟩ = some (.slice a0 hs.length c0) ∧ w'.cell? ⟨w.heap.size, 1, none⟩ = some (.slice a1 ls.length c1) ∧ w'.cell? ⟨w.heap.size + 1, 0, none⟩ = some (.slice none 0 0) ∧ w'.cell? ⟨w.heap.size + 1, 1, none⟩ = some (.slice none 0 0) ∧ w'.frozen? ⟨w.heap.size + 1, 0, none⟩ = false ∧ w'.frozen? ⟨w.heap.size + 1, 1, none⟩ = false := by
    intro w' hb
    refine ⟨?_, ?_, ?_, ?_, ?_, ?_⟩
    · rw [hb.cell (by rw [hsz]; simp), ← hW0]; simp
    · rw [hb.cell (by rw [hsz]; simp), ← hW0]; simp
    · rw [hb.cell (by rw [hsz]; simp), ← hW0]; simp
    · rw [hb.cell (by rw [hsz]; simp), ← hW0]; simp
    · rw [hb.frozen (by rw [hsz]; simp), ← hW0]; simp
    · rw [hb.frozen (by rw [hsz]; simp), ← hW0]; simp
  clear hW0
  have HB : Hid (∀ {w' : World}, Below W0.heap.size W0 w' → _) := hB
  obtain ⟨x0, x1, -, -, -, -⟩ := hB hb1
  clear hB
  have hbw := below_trans hbW hb1
  go_wp2_with (fail)
  refine (HP.out _ hbw).mono ?_
  rintro e w2 ⟨p, rfl, hp, m, rfl⟩
  have Hp : Hid _ := hp
  have hp1 : 1 ≤ p := hp.1.1
  have hp2 : p ≤ ls.length := hp.1.2.1
  clear hp
  have hb2 := below_drewN hb1 m
  clear x0 x1 hbw hb1
  obtain ⟨x0, x1, -, -, -, -⟩ := HB.out hb2
  go_wp2_with (fail)
  go_loopw [8] (fun i wr => ∃ k : Nat, k ≤ hs.length ∧ i = .int .i64 k ∧ (∀ j, k ≤ j → j < hs.length → lat hs ls j = lat hs ls (j + p)) ∧ Below W0.heap.size W0 wr) (fun i _ => (intOf i).toNat)
  case atStart => exact ⟨hs.length, Nat.le_refl _, rfl, fun j h1 h2 => by omega, hb2⟩
  case round =>
    obtain ⟨k, hk, rfl, htk, hbr⟩ := hrel
    have Htk : Hid _ := htk
    clear htk hb2 x0 x1
    obtain ⟨x0, x1, x2, x3, x4, x5⟩ := HB.out hbr
    by_cases hpos : 0 < k
    · have k0 := cell_regrown x0
      have k1 := cell_regrown x1
      have cL : ∀ d os (i : Int), 0 ≤ i → i ≤ 9223372036854775807 → Calls Tryd.prog 62 #[.agg #[.slice a0 hs.length c0, .slice a1 ls.length c1], .int .i64 i] (grow (redrawn wr d) os) fun e w'' => e = .returned (.int .i64 (lat hs ls i.toNat)) ∧ ∃ p : Regrown, w'' = grow (redrawn wr p.d) p.os :=
        fun d os i h0 hi => Calls.regrown_of (HL.out _ (below_trans (below_trans hbW hbr) (below_regrown wr d os)) i h0 hi)
      have CL : Hid _ := cL
      clear cL
      go_wp2_with (fail)
      refine wp_region_quiet_below (by kernel_rfl) (by kernel_rfl) ?_
      repeat (go_big_quiet_step (exact CL.out _ _ _ (by omega) (by omega)))
      refine wpQuiet_nil ?_
      intro _ hw'
      obtain ⟨⟨dq, osq⟩, hw''⟩ := hw'
      subst hw''
      have hbq := below_trans hbr (below_regrown wr dq osq)
      clear k0 k1 x0 x1 x2 x3 x4 x5 CL
      dsimp only at hbq ⊢
      generalize hwq : grow (redrawn wr dq) osq = wq at hbq ⊢
      clear hwq
      generalize hr : (lat hs ls (k - 1) == lat hs ls (k - 1 + p)) = r
      have Hr : Hid _ := hr
      clear hr
      cases r with
      | true =>
        go_wp2
        go_roundw
        case rel => exact ⟨k - 1, by omega, by go_num, fun j h1 h2 => by
          by_cases e : j = k - 1
          · subst e; exact beq_iff_eq.1 Hr.out
          · exact Htk.out j (by omega) h2, hbq⟩
        case measure => simp [intOf]; omega
      | false =>
        have Hd : Hid (LeastHead hs ls p k) := ⟨hk, Htk.out, Or.inr (beq_eq_false_iff_ne.1 Hr.out)⟩
        clear Hr Htk
        obtain ⟨x0, x1, x2, x3, x4, x5⟩ := HB.out hbq
        have HQ1 : Hid (∀ w1, Below W0.heap.size W0 w1 → Calls Tryd.prog 63 #[.agg #[.slice a0 hs.length c0, .slice a1 ls.length c1], .int .i64 0, .int .i64 k] w1 fun e w' => ∃ ad cap, e = .returned (.slice ad k cap) ∧ IntSl w' (.slice ad k cap) (pieceOf hs ls 0 k) ∧ Below w1.heap.size w1 w' ∧ (∀ q, (Value.slice ad k cap).ownBlock = some q → w1.heap.size ≤ q) ∧ (∀ b o, b < w.heap.size + 2 → w'.cell? ⟨b, o, none⟩ = w1.cell? ⟨b, o, none⟩) ∧ (∀ b o, b < w.heap.size + 2 → w'.frozen? ⟨b, o, none⟩ = w1.frozen? ⟨b, o, none⟩)) := fun w1 hb =>
          (HQ.out w1 (below_trans hbW hb) 0 k (by omega) (by omega)).mono fun e w' ⟨v, he, hv, hb', hfr⟩ => let ⟨ad, cap, hvv⟩ := hv.form (pieceOf_length _ _ _ _); ⟨ad, cap, hvv ▸ he, hvv ▸ hv, hb', hvv ▸ hfr, fun b o h => hb'.cell (p := ⟨b, o, none⟩) (by have := hb.size; simp; omega), fun b o h => hb'.frozen (p := ⟨b, o, none⟩) (by have := hb.size; simp; omega)⟩
        have HQ2 : Hid (∀ w1, Below W0.heap.size W0 w1 → Calls Tryd.prog 63 #[.agg #[.slice a0 hs.length c0, .slice a1 ls.length c1], .int .i64 k, .int .i64 p] w1 fun e w' => ∃ ad cap, e = .returned (.slice ad p cap) ∧ IntSl w' (.slice ad p cap) (pieceOf hs ls k p) ∧ Below w1.heap.size w1 w' ∧ (∀ q, (Value.slice ad p cap).ownBlock = some q → w1.heap.size ≤ q) ∧ (∀ b o, b < w.heap.size + 2 → w'.cell? ⟨b, o, none⟩ = w1.cell? ⟨b, o, none⟩) ∧ (∀ b o, b < w.heap.size + 2 → w'.frozen? ⟨b, o, none⟩ = w1.frozen? ⟨b, o, none⟩)) := fun w1 hb =>
          (HQ.out w1 (below_trans hbW hb) k p (by omega) (by omega)).mono fun e w' ⟨v, he, hv, hb', hfr⟩ => let ⟨ad, cap, hvv⟩ := hv.form (pieceOf_length _ _ _ _); ⟨ad, cap, hvv ▸ he, hvv ▸ hv, hb', hvv ▸ hfr, fun b o h => hb'.cell (p := ⟨b, o, none⟩) (by have := hb.size; simp; omega), fun b o h => hb'.frozen (p := ⟨b, o, none⟩) (by have := hb.size; simp; omega)⟩
        go_wp2_with (fail)
        go_region_held3 (fun w' => w'.cell? ⟨w.heap.size, 0, none⟩ = some (.slice a0 hs.length c0) ∧ w'.cell? ⟨w.heap.size, 1, none⟩ = some (.slice a1 ls.length c1)) (go_keep) (first | (go_at_call_of 63 (Value.int IntKind.i64 (p : Int)); refine (HQ2.out _ ?_).mono ?_; exact below_trans hbq3 hb3; rintro e w4 ⟨d4, e4, rfl, hv4, hb4, hq4, hc4, hf4⟩) | (go_at_call 63; refine (HQ1.out _ ?_).mono ?_; exact Below.drew hbq; rintro e w3 ⟨d3, e3, rfl, hv3, hb3, hq3, hc3, hf3⟩; have hbq3 := Below.drew hbq))
        have hbq4 := below_trans (below_trans hbq3 hb3) hb4
        have hsz3 : w.heap.size + 2 ≤ wq.heap.size := by have := hbq.size; omega
        have hsz4 : wq.heap.size ≤ w3.heap.size := hb3.size
        have hr0 : w4.cell? ⟨w.heap.size + 1, 0, none⟩ = some (.slice none 0 0) := by rw [hc4 _ _ (by omega), hc3 _ _ (by omega)]; exact x2
        have hr1 : w4.cell? ⟨w.heap.size + 1, 1, none⟩ = some (.slice none 0 0) := by rw [hc4 _ _ (by omega), hc3 _ _ (by omega)]; exact x3
        have Hv3 : Hid (IntSl ((w4.setCell ⟨w.heap.size + 1, 0, none⟩ (.slice d3 k e3)).setCell ⟨w.heap.size + 1, 1, none⟩ (.slice d4 p e4)) (.slice d3 k e3) (pieceOf hs ls 0 k)) :=
          ((hv3.below hb4).setCell (fun q hq => by have h1 := hq3 q hq; have h2 : wq.heap.size ≤ q := h1; simp; omega) _).setCell (fun q hq => by have h1 := hq3 q hq; have h2 : wq.heap.size ≤ q := h1; simp; omega) _
        have Hv4 : Hid (IntSl ((w4.setCell ⟨w.heap.size + 1, 0, none⟩ (.slice d3 k e3)).setCell ⟨w.heap.size + 1, 1, none⟩ (.slice d4 p e4)) (.slice d4 p e4) (pieceOf hs ls k p)) :=
          (hv4.setCell (fun q hq => by have := hq4 q hq; simp; omega) _).setCell (fun q hq => by have := hq4 q hq; simp; omega) _
        have Hbf : Hid (Below w.heap.size w ((w4.setCell ⟨w.heap.size + 1, 0, none⟩ (.slice d3 k e3)).setCell ⟨w.heap.size + 1, 1, none⟩ (.slice d4 p e4))) :=
          ((below_trans hbW hbq4).setCell (by simp) _).setCell (by simp) _
        clear hv3 hv4 hq3 hq4 hc3 hc4 hf3 hf4 hb3 hb4 hbq3 hbq4 x0 x1 x2 x3 x4 x5
        go_wp2
        exact bodyPost_ret (v := .tuple #[.agg #[.slice d3 k e3, .slice d4 p e4], .int .i64 0]) (by simp [results, Tryd.results24, go_sem, hr0, hr1]) rfl ⟨_, _, p, k, rfl, Hp.out, Hd.out, Hv3.out, Hv4.out, Hbf.out⟩
    · have Hk0 : Hid (k = 0) := by show k = 0; omega
      have hd0 : decide (0 < k) = false := by simp; omega
      have Hd : Hid (LeastHead hs ls p k) := ⟨hk, Htk.out, Or.inl Hk0.out⟩
      clear Htk hpos
      go_wp2_with (fail)
      refine wp_region_quiet_below (by kernel_rfl) (by kernel_rfl) ?_
      repeat (go_big_quiet_step (fail))
      refine wpQuiet_nil ?_
      intro _ hw'
      obtain ⟨⟨dq, osq⟩, hw''⟩ := hw'
      subst hw''
      have hbq := below_trans hbr (below_regrown wr dq osq)
      clear x0 x1 x2 x3 x4 x5
      dsimp only at hbq ⊢
      generalize hwq : grow (redrawn wr dq) osq = wq at hbq ⊢
      clear hwq hd0
      obtain ⟨x0, x1, x2, x3, x4, x5⟩ := HB.out hbq
      have HQ1 : Hid (∀ w1, Below W0.heap.size W0 w1 → Calls Tryd.prog 63 #[.agg #[.slice a0 hs.length c0, .slice a1 ls.length c1], .int .i64 0, .int .i64 k] w1 fun e w' => ∃ ad cap, e = .returned (.slice ad k cap) ∧ IntSl w' (.slice ad k cap) (pieceOf hs ls 0 k) ∧ Below w1.heap.size w1 w' ∧ (∀ q, (Value.slice ad k cap).ownBlock = some q → w1.heap.size ≤ q) ∧ (∀ b o, b < w.heap.size + 2 → w'.cell? ⟨b, o, none⟩ = w1.cell? ⟨b, o, none⟩) ∧ (∀ b o, b < w.heap.size + 2 → w'.frozen? ⟨b, o, none⟩ = w1.frozen? ⟨b, o, none⟩)) := fun w1 hb =>
        (HQ.out w1 (below_trans hbW hb) 0 k (by omega) (by omega)).mono fun e w' ⟨v, he, hv, hb', hfr⟩ => let ⟨ad, cap, hvv⟩ := hv.form (pieceOf_length _ _ _ _); ⟨ad, cap, hvv ▸ he, hvv ▸ hv, hb', hvv ▸ hfr, fun b o h => hb'.cell (p := ⟨b, o, none⟩) (by have := hb.size; simp; omega), fun b o h => hb'.frozen (p := ⟨b, o, none⟩) (by have := hb.size; simp; omega)⟩
      have HQ2 : Hid (∀ w1, Below W0.heap.size W0 w1 → Calls Tryd.prog 63 #[.agg #[.slice a0 hs.length c0, .slice a1 ls.length c1], .int .i64 k, .int .i64 p] w1 fun e w' => ∃ ad cap, e = .returned (.slice ad p cap) ∧ IntSl w' (.slice ad p cap) (pieceOf hs ls k p) ∧ Below w1.heap.size w1 w' ∧ (∀ q, (Value.slice ad p cap).ownBlock = some q → w1.heap.size ≤ q) ∧ (∀ b o, b < w.heap.size + 2 → w'.cell? ⟨b, o, none⟩ = w1.cell? ⟨b, o, none⟩) ∧ (∀ b o, b < w.heap.size + 2 → w'.frozen? ⟨b, o, none⟩ = w1.frozen? ⟨b, o, none⟩)) := fun w1 hb =>
        (HQ.out w1 (below_trans hbW hb) k p (by omega) (by omega)).mono fun e w' ⟨v, he, hv, hb', hfr⟩ => let ⟨ad, cap, hvv⟩ := hv.form (pieceOf_length _ _ _ _); ⟨ad, cap, hvv ▸ he, hvv ▸ hv, hb', hvv ▸ hfr, fun b o h => hb'.cell (p := ⟨b, o, none⟩) (by have := hb.size; simp; omega), fun b o h => hb'.frozen (p := ⟨b, o, none⟩) (by have := hb.size; simp; omega)⟩
      go_wp2_with (fail)
      go_region_held3 (fun w' => w'.cell? ⟨w.heap.size, 0, none⟩ = some (.slice a0 hs.length c0) ∧ w'.cell? ⟨w.heap.size, 1, none⟩ = some (.slice a1 ls.length c1)) (go_keep) (first | (go_at_call_of 63 (Value.int IntKind.i64 (p : Int)); refine (HQ2.out _ ?_).mono ?_; exact below_trans hbq3 hb3; rintro e w4 ⟨d4, e4, rfl, hv4, hb4, hq4, hc4, hf4⟩) | (go_at_call 63; refine (HQ1.out _ ?_).mono ?_; exact Below.drew hbq; rintro e w3 ⟨d3, e3, rfl, hv3, hb3, hq3, hc3, hf3⟩; have hbq3 := Below.drew hbq))
      have hbq4 := below_trans (below_trans hbq3 hb3) hb4
      have hsz3 : w.heap.size + 2 ≤ wq.heap.size := by have := hbq.size; omega
      have hsz4 : wq.heap.size ≤ w3.heap.size := hb3.size
      have hr0 : w4.cell? ⟨w.heap.size + 1, 0, none⟩ = some (.slice none 0 0) := by rw [hc4 _ _ (by omega), hc3 _ _ (by omega)]; exact x2
      have hr1 : w4.cell? ⟨w.heap.size + 1, 1, none⟩ = some (.slice none 0 0) := by rw [hc4 _ _ (by omega), hc3 _ _ (by omega)]; exact x3
      have Hv3 : Hid (IntSl ((w4.setCell ⟨w.heap.size + 1, 0, none⟩ (.slice d3 k e3)).setCell ⟨w.heap.size + 1, 1, none⟩ (.slice d4 p e4)) (.slice d3 k e3) (pieceOf hs ls 0 k)) :=
        ((hv3.below hb4).setCell (fun q hq => by have h1 := hq3 q hq; have h2 : wq.heap.size ≤ q := h1; simp; omega) _).setCell (fun q hq => by have h1 := hq3 q hq; have h2 : wq.heap.size ≤ q := h1; simp; omega) _
      have Hv4 : Hid (IntSl ((w4.setCell ⟨w.heap.size + 1, 0, none⟩ (.slice d3 k e3)).setCell ⟨w.heap.size + 1, 1, none⟩ (.slice d4 p e4)) (.slice d4 p e4) (pieceOf hs ls k p)) :=
        (hv4.setCell (fun q hq => by have := hq4 q hq; simp; omega) _).setCell (fun q hq => by have := hq4 q hq; simp; omega) _
      have Hbf : Hid (Below w.heap.size w ((w4.setCell ⟨w.heap.size + 1, 0, none⟩ (.slice d3 k e3)).setCell ⟨w.heap.size + 1, 1, none⟩ (.slice d4 p e4))) :=
        ((below_trans hbW hbq4).setCell (by simp) _).setCell (by simp) _
      clear hv3 hv4 hq3 hq4 hc3 hc4 hf3 hf4 hb3 hb4 hbq3 hbq4 x0 x1 x2 x3 x4 x5
      go_wp2
      exact bodyPost_ret (v := .tuple #[.agg #[.slice d3 k e3, .slice d4 p e4], .int .i64 0]) (by simp [results, Tryd.results24, go_sem, hr0, hr1]) rfl ⟨_, _, p, k, rfl, Hp.out, Hd.out, Hv3.out, Hv4.out, Hbf.out⟩
end Go.Proofs.YtpiacnnifdjlkaaDoor
