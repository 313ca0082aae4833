/-
  What the reference's TableOf answers.
-/
import Derived.Test.YtpiacnnifdjlkaaEs
namespace Go.Proofs.Ytpiacnnifdjlkaa
open Go.RowKit Go.Sort

theorem take_row (T : List (List Bool)) (h p : Nat) (L : Nat → Int) (x : Nd) (k : Nat) (hk : k < h + p) : (rowV T h p L x).take (k + 1) = (rowV T h p L x).take k ++ [valB T h p L x k] := by
  have hl : k < (rowV T h p L x).length := by rw [rowV_len]; exact hk
  rw [List.take_succ_eq_append_getElem hl]
  congr 2
  have := rowV_get T h p L x k hk
  rw [← this]
  simp [List.getD, hl]

theorem owns_keep {w w' : World} {base n : Nat} {e : TypeId} {v : Value} {xs : List Value} (h : w.ownsRow base e 1 v n xs) (hb : Below w.heap.size w w') : w'.ownsRow base e 1 v n xs :=
  h.kept (row := none) ⟨hb.os, hb.tape, hb.output, hb.size, fun k hk _ => hb.block k hk⟩ (by cases hv : v.ownBlock <;> simp)

theorem owns_shape {w : World} {base n : Nat} {e : TypeId} {v : Value} {xs : List Value} (h : w.ownsRow base e 1 v n xs) : ∃ a cap, v = .slice a n cap := by
  rcases h.2 with ⟨rfl, rfl⟩ | ⟨g, cap, cur, rfl, _⟩
  · exact ⟨none, 0, rfl⟩
  · exact ⟨_, _, rfl⟩

set_option maxRecDepth 100000 in
set_option maxHeartbeats 4000000 in
theorem tableOf_any {w : World} {fv hv lv : Value} {F : List Nd} {hs ls : List Int} (hF : NodeSl w fv F) (hh : IntSl w hv hs) (hl : IntSl w lv ls) (hok : chkF F = 0) (hck : chk hs ls 8 = 0) :
    Calls Try.prog 9 #[fv, .agg #[hv, lv]] w fun e w' => ∃ v, e = .returned v ∧ GridSl w' v (tabF F hs ls) ∧ Below w.heap.size w w' := by
  obtain ⟨k1, k2, k3, k4⟩ := chk_ok hck
  obtain ⟨hM0, h12, hall⟩ := chkF_ok hok
  have HH : Hid (∀ W tv i at_, Below w.heap.size w W → GridSl W tv (tabN F hs.length ls.length (fun i => (hs ++ ls).getD i 0) i) → i < F.length → at_ < hs.length + ls.length → Calls Try.prog 18 #[fv, .agg #[hv, lv], tv, .int .i64 (i : Nat), .int .i64 (at_ : Nat)] W fun e w' => e = .returned (.bool (valB (tabN F hs.length ls.length (fun i => (hs ++ ls).getD i 0) i) hs.length ls.length (fun i => (hs ++ ls).getD i 0) (F.getD i nd0) at_)) ∧ Below W.heap.size W w') :=
    hide fun W tv i at_ hb hg hi ha => holdsAt_any ⟨hF.below hb, hh.below hb, hl.below hb, hg, tabN_len _ _ _ _ _, fun j hj => tabN_row F _ _ _ j i hj, hall i hi, hi, h12, k1, k2, k3, ha, k4⟩
  obtain ⟨a, c, rfl, -⟩ := hF
  obtain ⟨a0, c0, rfl, -⟩ := hh
  obtain ⟨a1, c1, rfl, -⟩ := hl
  clear hok hck k4 hall
  generalize hN : hs.length = n0 at *
  generalize hM : ls.length = n1 at *
  generalize hL : (fun i => (hs ++ ls).getD i 0) = L at *
  have HT : Hid (tabF F hs ls = tabN F n0 n1 L F.length) := by
    unfold tabF
    rw [hN, hM, hL]
    exact hide rfl
  clear hN hM hL
  go_enter Try.func9, Try.ntmps9
  go_wp2_with (fail)
  go_loopw [5, 6] (fun ov iv wr => ∃ i : Nat, i ≤ F.length ∧ iv = .int .i64 i ∧ Hid (OutOk wr (w.heap.size + 1) ov (tabN F n0 n1 L i) ∧ Below (w.heap.size + 1) (w.alloc (Obj.cells #[.slice a0 n0 c0, .slice a1 n1 c1] 26)) wr)) (fun _ iv _ => F.length - (intOf iv).toNat)
  case atStart => exact ⟨0, Nat.zero_le _, rfl, hide ⟨⟨[], ⟨rfl, .inl ⟨rfl, rfl⟩⟩, fun j hj => by simp [tabN] at hj⟩, Below.refl _ _⟩⟩
  case round =>
    obtain ⟨i, hi, rfl, ho⟩ := hrel
    have hbx : wr.heap[w.heap.size]? = some (Obj.cells #[.slice a0 n0 c0, .slice a1 n1 c1] 26) := (ho.out.2.block w.heap.size (by omega)).trans (heap_alloc_new w _)
    have q0 := cell_of_row _ _ 0 _ _ _ hbx
    have q1 := cell_of_row _ _ 1 _ _ _ hbx
    by_cases hlt : i < F.length
    · generalize hrV : rowV (tabN F n0 n1 L i) n0 n1 L (F.getD i nd0) = rV at *
      have HV := hide hrV
      have hlen : rV.length = n0 + n1 := by rw [← hrV, rowV_len]
      have htk : ∀ k, k < n0 + n1 → rV.take (k + 1) = rV.take k ++ [valB (tabN F n0 n1 L i) n0 n1 L (F.getD i nd0) k] := fun k hk => by rw [← hrV]; exact take_row _ _ _ _ _ k hk
      have HTK := hide htk
      have HLN := hide hlen
      clear hrV hlen htk hbx
      obtain ⟨W1, hW1⟩ : ∃ W1, W1 = wr := ⟨_, rfl⟩
      subst hW1
      have hW0 : Below w.heap.size w W1 := below_trans (below_new w _) (ho.out.2.mono (by simp))
      have HW0 := hide hW0
      clear hW0
      go_wp2_with (fail)
      go_loopw [7, 8] (fun rv av wr2 => ∃ p : Nat, p ≤ n0 + n1 ∧ av = .int .i64 p ∧ Hid (wr2.ownsRow W1.heap.size 4 1 rv p ((rV.take p).map .bool) ∧ Below W1.heap.size W1 wr2)) (fun _ av _ => n0 + n1 - (intOf av).toNat)
      case atStart => exact ⟨0, Nat.zero_le _, rfl, hide ⟨⟨rfl, .inl ⟨rfl, rfl⟩⟩, Below.refl _ _⟩⟩
      case round =>
        obtain ⟨p, hp, rfl, hown⟩ := hrel
        have r0 := cell_keep q0 hown.out.2
        have r1 := cell_keep q1 hown.out.2
        by_cases hplt : p < n0 + n1
        · have hplt' : (p : Int) < (n0 : Int) + n1 := by omega
          have HC := hide (HH.out wr u5 i p (below_trans HW0.out hown.out.2) ((ho.out.1.below hown.out.2).grid (by rw [tabN_len]; omega)) hlt hplt)
          generalize hvb : valB (tabN F n0 n1 L i) n0 n1 L (F.getD i nd0) p = vb at *
          have HVB := hide hvb
          clear hvb
          go_wp2_with (fail)
          refine HC.out.mono ?_
          rintro e w2 ⟨rfl, hb2⟩
          have hb3 := below_trans hb2 (below_new w2 (Obj.cells #[.bool vb] 4))
          obtain ⟨v', w4, hr4, ho4, hg4⟩ := run_app1 (w2.alloc (Obj.cells #[.bool vb] 4)) 37 37 4 W1.heap.size p 1 elkBool u7 _ (owns_keep hown.out.1 hb3) w2.heap.size 1 (.bool vb) (by simp) rfl (by omega) (by have := hown.out.2.size; have := hb3.size; omega)
          have hb4 : Below W1.heap.size W1 w4 := (below_trans hown.out.2 hb3).grown hg4 (by have := hown.out.2.size; have := hb3.size; omega) (fun k hk => ((owns_keep hown.out.1 hb3).lt k hk).1)
          have HR := hide hr4
          have HO := hide (And.intro ho4 hb4)
          clear hr4 ho4 hb4 hg4 hb3 hb2 HC r0 r1
          go_wp2_with (at_builtin; refine Lib.wpList_append_run _ rfl _ _ _ _ rfl _ _ rfl rfl _ _ HR.out ?_)
          go_roundw
          case rel => exact ⟨p + 1, by omega, by go_num, hide ⟨by rw [HTK.out p hplt, List.map_append, HVB.out]; exact HO.out.1, HO.out.2⟩⟩
          case measure => simp [intOf]; omega
        · have hplt' : (n0 : Int) + n1 ≤ (p : Int) := by omega
          have hpe : rV.take p = rV := List.take_of_length_le (by rw [HLN.out]; omega)
          have hrow := hown.out.1
          rw [hpe] at hrow
          have hrB := rowB_of_owns hrow
          obtain ⟨ra, rc, hrv⟩ := owns_shape hrow
          subst hrv
          obtain ⟨vs, hvs1, hvs2⟩ := (ho.out.1.below hown.out.2).owns
          have hb3 := below_new wr (Obj.cells #[.slice ra p rc] 37)
          have hsz := hown.out.2.size
          have hsz0 := ho.out.2.size
          rw [World.size_alloc] at hsz0
          obtain ⟨v', w4, hr4, ho4, hg4⟩ := run_app1 (wr.alloc (Obj.cells #[.slice ra p rc] 37)) 27 27 37 (w.heap.size + 1) _ 24 elkRow u5 vs (owns_keep hvs1 hb3) wr.heap.size 1 (.slice ra p rc) (by simp) rfl (by rw [tabN_len]; omega) (by have := hb3.size; omega)
          have hout := OutOk.app (owns_keep hvs1 hb3) (fun j hj => by obtain ⟨a, n, c, h1, h2⟩ := hvs2 j hj; exact ⟨a, n, c, h1, h2.below hb3⟩) (hrB.below hb3) ho4 hg4
          have hb4 : Below (w.heap.size + 1) (w.alloc (Obj.cells #[.slice a0 n0 c0, .slice a1 n1 c1] 26)) w4 := ((ho.out.2.trans (hown.out.2.mono (by omega))).trans (hb3.mono (by omega))).grown hg4 (by have := hb3.size; omega) (fun k hk => ((owns_keep hvs1 hb3).lt k hk).1)
          have HR := hide hr4
          have HO := hide (And.intro hout hb4)
          clear hr4 ho4 hb4 hg4 hb3 hvs1 hvs2 hrow hrB hpe hout
          go_wp2_with (at_builtin; refine Lib.wpList_append_run _ rfl _ _ _ _ rfl _ _ rfl rfl _ _ HR.out ?_)
          go_roundw
          case rel => exact ⟨i + 1, by omega, by go_num, hide ⟨by rw [tabN, HV.out]; exact HO.out.1, HO.out.2⟩⟩
          case measure => simp [intOf]; omega
    · have hie : i = F.length := by omega
      have hB : Below w.heap.size w wr := below_trans (below_new w _) (ho.out.2.mono (by simp))
      have HB := hide hB
      clear hbx hB
      go_wp2_with (fail)
      go_ret
      exact ⟨_, rfl, by rw [HT.out, ← hie]; exact ho.out.1.grid (by rw [tabN_len]; omega), HB.out⟩
end Go.Proofs.Ytpiacnnifdjlkaa
