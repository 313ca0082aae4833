/-
  What takes of package word answers.
-/
import Derived.Test.YtpiacnnifdjlkaaDoorBw
namespace Go.Proofs.YtpiacnnifdjlkaaDoor
open Go.RowKit Go.Sort

/-- What holds between the questions of an outer search. -/
def POut (R : Rn) (D : Nat → Nat → Nat → Nat) (gs : List Bool) (rI : Nat) (done : Spot → Prop) (w : World) : Prop :=
  ∃ MI, MetAt w rI MI ∧ Dfs (Edge R D) (inM MI) (inM MI) [] ∧ (∀ z, inM MI z → ∃ s, done s ∧ gs.getD s.2 false = true ∧ Leads (Edge R D) s z) ∧ (∀ s, done s → gs.getD s.2 false = true → ¬ LeadsOn (Edge R D) s s)

/-- A good spot is come to, and again from itself. -/
def Found (R : Rn) (D : Nat → Nat → Nat → Nat) (gs : List Bool) (frm : Spot) : Prop := ∃ z, Leads (Edge R D) frm z ∧ gs.getD z.2 false = true ∧ LeadsOn (Edge R D) z z

theorem outerSearch_any {w : World} {rO rI : Nat} {MO : Nat → Nat → Nat} {gs : List Bool} (R : Rn) (D : Nat → Nat → Nat → Nat) (frm : Spot) (B1 B4 : Nat) (hb1 : RunAt w B1 R) (hb4 : VarAt w B4 (.map (some rI))) (hR : RnOk w R D) (ht : Tab w) (hg : GoodAt w R gs) (hM : MetAt w rO MO)
    (hD : Dfs (Edge R D) (inM MO) (inM MO) []) (hP : POut R D gs rI (inM MO) w) (hne : rO ≠ rI) (hx : InR R frm) :
    Calls Tryd.prog 100 #[rnV R, .agg #[.int .i64 frm.1, .int .i64 frm.2], .map (some rO), .func (.func 101) #[] #[.pointer (some ⟨B1, 0, none⟩), .pointer (some ⟨B4, 0, none⟩)]] w fun e w' =>
      ∃ b, e = .returned (.bool b) ∧ Fr [rO, rI] w w' ∧ (b = true → Found R D gs frm) ∧
        (b = false → ∃ M, MetAt w' rO M ∧ Dfs (Edge R D) (inM M) (inM M) [] ∧ POut R D gs rI (inM M) w' ∧ (∀ z, inM MO z → inM M z) ∧ inM M frm) := by
  have hLI : IsMap w rI := let ⟨_, h, _⟩ := hP; h.isMap
  have hLm : ∀ k, k ∈ [rO, rI] → IsMap w k := fun k hk => by
    have : k = rO ∨ k = rI := by simpa using hk
    rcases this with rfl | rfl
    · exact hM.isMap
    · exact hLI
  have hrI : rI < w.heap.size := let ⟨_, h, _⟩ := hP; h.lt
  refine (search_any (w := w) (r := rO) (M0 := MO) R D [rI] 101 #[.pointer (some ⟨B1, 0, none⟩), .pointer (some ⟨B4, 0, none⟩)] frm (Found R D gs frm) (POut R D gs rI)
    (fun w1 h => hR.frM h hLm) (fun w1 h => ht.frM h hLm) hM hD hP hx ?_ (fun k hk => by rw [List.mem_singleton.1 hk]; exact hrI) (by simpa using hne) callF_outer ?_).mono ?_
  · rintro done w1 w2 RR ⟨MI, h1, h2⟩ hf hk
    exact ⟨MI, h1.fr hf (fun hm => by rcases hk _ hm with h | h; exact hne h.symm; omega), h2⟩
  · intro done path x M w1 hf hm hd hl hall hz hp
    obtain ⟨MI, hMI, hDI, hI, hno⟩ := hp
    refine (outer_any R D x B1 B4 (hb1.frM hf hLm) (hb4.frM hf hLm) (hR.frM hf hLm) (ht.frM hf hLm) ⟨hg.1.frM hf hLm, hg.2⟩ hMI hDI hz).mono ?_
    rintro e w' ⟨b, rfl, hf', h1, h2⟩
    refine ⟨b, rfl, hf', fun h => ⟨x, hl, h1 h⟩, fun h => ?_⟩
    obtain ⟨M', a1, a2, a3, a4, a5⟩ := h2 h
    cases hgx : gs.getD x.2 false with
    | false =>
      have := a4 hgx
      subst this
      refine ⟨M', a1, a2, fun z hz => ?_, ?_⟩
      · obtain ⟨s, s1, s2, s3⟩ := hI z hz
        exact ⟨s, Or.inl s1, s2, s3⟩
      · rintro s (s1 | rfl) s2
        · exact hno s s1 s2
        · rw [hgx] at s2; cases s2
    | true =>
      obtain ⟨b1, b2, b3⟩ := a5 hgx
      refine ⟨M', a1, a2, fun z hz => ?_, ?_⟩
      · rcases b2 z hz with h | h
        · obtain ⟨s, s1, s2, s3⟩ := hI z h
          exact ⟨s, Or.inl s1, s2, s3⟩
        · exact ⟨x, Or.inr rfl, hgx, h⟩
      · rintro s (s1 | rfl) s2
        · exact hno s s1 s2
        · exact no_circle (good := fun z => gs.getD z.2 false = true) (I := inM MI) (I' := inM M') hd hI hno (fun u v hu he => a2.closed u v hu he) b3 (fun u hu hn => b1 u hu hn)
  · rintro e w' ⟨b, rfl, hf, h1, h2⟩
    refine ⟨b, rfl, hf, h1, fun h => ?_⟩
    obtain ⟨M, a1, a2, a3, a4, a5, a6⟩ := h2 h
    exact ⟨M, a1, a2, a3, a5, a6⟩

set_option maxRecDepth 100000 in
set_option maxHeartbeats 2000000 in
theorem first_any {w : World} {rO rI : Nat} {MO : Nat → Nat → Nat} {gs : List Bool} (R : Rn) (D : Nat → Nat → Nat → Nat) (f : Nat) (B1 B3 B4 : Nat) (hb1 : RunAt w B1 R) (hb3 : VarAt w B3 (.map (some rO))) (hb4 : VarAt w B4 (.map (some rI))) (hR : RnOk w R D) (ht : Tab w) (hg : GoodAt w R gs) (hM : MetAt w rO MO)
    (hD : Dfs (Edge R D) (inM MO) (inM MO) []) (hP : POut R D gs rI (inM MO) w) (hne : rO ≠ rI) (hx : InR R (0, f)) :
    Calls Tryd.prog 99 #[.int .i64 f, .pointer (some ⟨B1, 0, none⟩), .pointer (some ⟨B3, 0, none⟩), .pointer (some ⟨B4, 0, none⟩)] w fun e w' =>
      ∃ b, e = .returned (.bool b) ∧ Fr [rO, rI] w w' ∧ (b = true → Found R D gs (0, f)) ∧
        (b = false → ∃ M, MetAt w' rO M ∧ Dfs (Edge R D) (inM M) (inM M) [] ∧ POut R D gs rI (inM M) w' ∧ (∀ z, inM MO z → inM M z) ∧ inM M (0, f)) := by
  have HS := hide (outerSearch_any R D (0, f) B1 B4 hb1 hb4 hR ht hg hM hD hP hne hx)
  have e1 : ∀ j, w.cell? ⟨B1, j, none⟩ = _ := fun j => cell_of_row w B1 j _ _ _ hb1
  have e3 : w.cell? ⟨B3, 0, none⟩ = some (.map (some rO)) := cell_of_row w B3 0 _ _ _ hb3
  have k0 := e1 0
  have k1 := e1 1
  have k2 := e1 2
  have k3 := e1 3
  have k4 := e1 4
  have k5 := e1 5
  have k6 := e1 6
  have k7 := e1 7
  clear hb1 hb3 hb4 hR ht hg hM hD hP hne hx e1
  unfold rnV at HS
  go_enter Tryd.func99, Tryd.ntmps99
  go_wp2_with (fail)
  refine Calls.mono HS.out ?_
  rintro e w1 ⟨b, rfl, hf, ht, hfa⟩
  have Ht := hide ht
  have Hfa := hide hfa
  clear ht hfa
  go_wp2
  go_ret
  exact ⟨b, rfl, hf, Ht.out, Hfa.out⟩
set_option maxRecDepth 100000 in
set_option maxHeartbeats 400000 in
theorem indexFunc_st (n b off cap F : Nat) (caps : Array Value) (f : Nat → Int) (w : World) (Inv : Nat → World → Prop) (T : World → Prop) (hm : n ≤ maxLen) (hF : ∀ args w, (callFunc F args).run Tryd.prog w = .ok (.enter F args) w)
    (h0 : Inv 0 w) (hx : ∀ k w1, Inv k w1 → ∀ i, i < n → w1.cell? ⟨b, off + i, none⟩ = some (.int .i64 (f i)))
    (hp : ∀ i, i < n → ∀ w1, Inv i w1 → Calls Tryd.prog F (#[.int .i64 (f i)] ++ caps) w1 fun e w' => ∃ b, e = .returned (.bool b) ∧ (b = true → T w') ∧ (b = false → Inv (i + 1) w')) :
    Calls Tryd.prog 97 #[.slice (some ⟨b, off, none⟩) n cap, .func (.func F) #[] caps] w fun e w' => ∃ r : Int, e = .returned (.int .i64 r) ∧ (0 ≤ r → T w') ∧ (r < 0 → Inv n w') := by
  unfold maxLen at hm
  have Hp := hide hp
  have Hx := hide hx
  have H0 := hide h0
  clear hp hx h0
  go_enter Tryd.func97, Tryd.ntmps97
  go_wp2
  go_loopw [8] (fun i wr => ∃ k : Nat, k ≤ n ∧ i = .int .i64 k ∧ Inv k wr) (fun i _ => n - (intOf i).toNat)
  case atStart => exact ⟨0, Nat.zero_le _, rfl, H0.out⟩
  case round =>
    obtain ⟨k, hk, rfl, hinv⟩ := hrel
    have Hinv := hide hinv
    clear hinv
    by_cases hlt : k < n
    · have hx' := Hx.out k wr Hinv.out k hlt
      go_wp2_with (fail)
      refine (Hp.out k hlt wr Hinv.out).mono ?_
      rintro e w1 ⟨pk, rfl, h1, h2⟩
      have H1 := hide h1
      have H2 := hide h2
      clear h1 h2
      cases pk with
      | false =>
        go_wp2
        go_roundw
        case rel => exact ⟨k + 1, by omega, by go_num, by first | exact H2.out rfl | exact H2.out trivial⟩
        case measure => simp [intOf]; omega
      | true =>
        go_wp2
        go_ret
        exact ⟨k, rfl, (fun _ => by first | exact H1.out rfl | exact H1.out trivial), fun h => by omega⟩
    · go_wp2
      go_ret
      have : k = n := by omega
      subst this
      exact ⟨-1, rfl, (fun h => by omega), fun _ => Hinv.out⟩

set_option maxHeartbeats 400000 in
theorem indexFunc_zero2 (a : Option Addr) (cap : Nat) (fv : Value) (w : World) :
    Calls Tryd.prog 97 #[.slice a 0 cap, fv] w fun e w' => e = .returned (.int .i64 (-1)) ∧ w' = w := by
  go_enter Tryd.func97, Tryd.ntmps97
  go_wp2
  refine wp_loop_rounds 1 ?_; rw [rounds_succ]
  go_wp2
  go_ret
  exact ⟨rfl, rfl⟩

set_option maxHeartbeats 400000 in
theorem containsFunc_st {v : Value} {zs : List Int} {w : World} (F : Nat) (caps : Array Value) (Inv : Nat → World → Prop) (T : World → Prop) (hF : ∀ args w, (callFunc F args).run Tryd.prog w = .ok (.enter F args) w)
    (h0 : Inv 0 w) (hv : ∀ k w1, Inv k w1 → IntSl w1 v zs)
    (hp : ∀ i, i < zs.length → ∀ w1, Inv i w1 → Calls Tryd.prog F (#[.int .i64 (zs.getD i 0)] ++ caps) w1 fun e w' => ∃ b, e = .returned (.bool b) ∧ (b = true → T w') ∧ (b = false → Inv (i + 1) w')) :
    Calls Tryd.prog 66 #[v, .func (.func F) #[] caps] w fun e w' => ∃ b, e = .returned (.bool b) ∧ (b = true → T w') ∧ (b = false → Inv zs.length w') := by
  have H : Calls Tryd.prog 97 #[v, .func (.func F) #[] caps] w fun e w' => ∃ r : Int, e = .returned (.int .i64 r) ∧ (0 ≤ r → T w') ∧ (r < 0 → Inv zs.length w') := by
    obtain ⟨a, cap, rfl, hm, h, hn, hn2⟩ := hv 0 w h0
    rcases h with rfl | ⟨b, off, rfl, hc⟩
    · refine (indexFunc_zero2 a cap _ w).mono ?_
      rintro e w' ⟨rfl, rfl⟩
      exact ⟨-1, rfl, (fun h => by omega), fun _ => h0⟩
    · refine indexFunc_st zs.length b off cap F caps (fun i => zs.getD i 0) w Inv T hm hF h0 (fun k w1 hi i hlt => ?_) hp
      obtain ⟨a', cap', he, hm', h', _⟩ := hv k w1 hi
      rcases h' with rfl | ⟨b', off', rfl, hc'⟩
      · simp at hlt
      · cases he; exact hc' i hlt
  have HH := hide H
  clear H hp hF hv h0
  go_enter Tryd.func66, Tryd.ntmps66
  go_wp2_with (fail)
  refine Calls.mono HH.out ?_
  rintro e w1 ⟨r, rfl, h1, h2⟩
  have H1 := hide h1
  have H2 := hide h2
  clear h1 h2
  go_wp2
  go_ret
  refine ⟨decide (0 ≤ r), rfl, fun h => H1.out (by simpa using h), fun h => H2.out (by simpa using h)⟩

theorem callF_first : ∀ args w, (callFunc 99 args).run Tryd.prog w = .ok (.enter 99 args) w := Tryd.call99

/-- What is kept from one first state to the next one. -/
structure TInv (R : Rn) (D : Nat → Nat → Nat → Nat) (gs : List Bool) (fs : List Int) (W : World) (rO rI k : Nat) (w : World) : Prop where
  fr : Fr [rO, rI] W w
  met : ∃ M, MetAt w rO M ∧ Dfs (Edge R D) (inM M) (inM M) [] ∧ POut R D gs rI (inM M) w ∧ ∀ i, i < k → inM M (0, (fs.getD i 0).toNat)

/-- A run of an automaton takes a word. -/
def RunTakes (R : Rn) (D : Nat → Nat → Nat → Nat) (gs : List Bool) (fs : List Int) : Prop := ∃ i, i < fs.length ∧ Found R D gs (0, (fs.getD i 0).toNat)

theorem TInv.none {R : Rn} {D : Nat → Nat → Nat → Nat} {gs : List Bool} {fs : List Int} {W : World} {rO rI : Nat} {w : World} (h : TInv R D gs fs W rO rI fs.length w) : ¬ RunTakes R D gs fs := by
  rintro ⟨i, hi, z, h1, h2, h3⟩
  obtain ⟨M, _, hd, ⟨MI, _, _, _, hno⟩, hin⟩ := h.met
  have hz : inM M z := closed_leads (S := inM M) (fun x y hx he => hd.closed x y hx he) h1 (hin i hi)
  exact hno z hz h2 h3

/-- The search over the first states. -/
theorem takesAll_any {W : World} {rO rI : Nat} {gs : List Bool} {fs : List Int} (R : Rn) (D : Nat → Nat → Nat → Nat) (B1 B3 B4 : Nat) (hb1 : RunAt W B1 R) (hb3 : VarAt W B3 (.map (some rO))) (hb4 : VarAt W B4 (.map (some rI))) (hR : RnOk W R D) (ht : Tab W) (hg : GoodAt W R gs) (hf : IntSl W (.slice R.a1 R.l1 R.c1) fs)
    (hin : ∀ i, i < fs.length → 0 ≤ fs.getD i 0 ∧ fs.getD i 0 < R.N) (hO : MetAt W rO (fun _ _ => 0)) (hI : MetAt W rI (fun _ _ => 0)) (hne : rO ≠ rI) :
    Calls Tryd.prog 66 #[.slice R.a1 R.l1 R.c1, .func (.func 99) #[] #[.pointer (some ⟨B1, 0, none⟩), .pointer (some ⟨B3, 0, none⟩), .pointer (some ⟨B4, 0, none⟩)]] W fun e w' =>
      ∃ b, e = .returned (.bool b) ∧ (b = true ↔ RunTakes R D gs fs) ∧ Fr [rO, rI] W w' := by
  have hempty : ∀ z, ¬ inM (fun _ _ => 0) z := fun z h => by unfold inM inB at h; simp at h
  have hLm : ∀ k, k ∈ [rO, rI] → IsMap W k := fun k hk => by
    have : k = rO ∨ k = rI := by simpa using hk
    rcases this with rfl | rfl
    · exact hO.isMap
    · exact hI.isMap
  have hd0 : Dfs (Edge R D) (inM fun _ _ => 0) (inM fun _ _ => 0) [] :=
    ⟨fun x hx => by (cases hx), fun x hx => absurd hx (hempty x), fun x hx => hx, fun x y hx _ => absurd hx (hempty x), trivial, List.nodup_nil, fun x hx _ => absurd hx (hempty x)⟩
  refine (containsFunc_st (zs := fs) 99 _ (TInv R D gs fs W rO rI) (fun w' => RunTakes R D gs fs ∧ Fr [rO, rI] W w') callF_first ?_ ?_ ?_).mono ?_
  · exact ⟨Fr.refl _ _, fun _ _ => 0, hO, hd0, ⟨fun _ _ => 0, hI, hd0, fun z hz => absurd hz (hempty z), fun z hz => absurd hz (hempty z)⟩, fun i hi => by omega⟩
  · intro k w1 h
    exact hf.frM h.fr hLm
  · intro i hi w1 h
    obtain ⟨hi0, hi1⟩ := hin i hi
    obtain ⟨M, hM, hD, hP, hk⟩ := h.met
    have hlen : 0 < R.hs.length + R.ls.length := by have := List.length_pos_iff.2 hR.lpos; omega
    have h1 := first_any R D (fs.getD i 0).toNat B1 B3 B4 (hb1.frM h.fr hLm) (hb3.frM h.fr hLm) (hb4.frM h.fr hLm) (hR.frM h.fr hLm) (ht.frM h.fr hLm) ⟨hg.1.frM h.fr hLm, hg.2⟩ hM hD hP hne ⟨hlen, by dsimp only; omega⟩
    rw [Int.toNat_of_nonneg hi0] at h1
    refine h1.mono ?_
    rintro e w' ⟨b, rfl, hf', ht', hfa⟩
    refine ⟨b, rfl, fun hb => ⟨⟨i, hi, ht' hb⟩, h.fr.trans hf'⟩, fun hb => ?_⟩
    obtain ⟨M', a1, a2, a3, a4, a5⟩ := hfa hb
    refine ⟨h.fr.trans hf', M', a1, a2, a3, fun j hj => ?_⟩
    by_cases e : j = i
    · subst e; exact a5
    · exact a4 _ (hk j (by omega))
  · rintro e w' ⟨b, rfl, h1, h2⟩
    cases b with
    | true => exact ⟨true, rfl, ⟨fun _ => (h1 rfl).1, fun _ => rfl⟩, (h1 rfl).2⟩
    | false => exact ⟨false, rfl, ⟨(fun h => by cases h), fun h => absurd h (h2 rfl).none⟩, (h2 rfl).fr⟩
end Go.Proofs.YtpiacnnifdjlkaaDoor
