/-
  WordTells of the statements: true, whatever it is handed.
-/
import Derived.Test.YtpiacnnifdjlkaaGreatDoorCd
import Derived.Deep.RegionWith
/-
  What Takes of package word tells.
-/
namespace Go.Proofs.YtpiacnnifdjlkaaGreatDoor
open Go.RowKit Go.Sort

theorem ordS_le {a b : Stp} (h : ordS a b < 0) : a.f ≤ b.f := by
  unfold ordS orI cmpI at h
  by_cases h1 : a.f < b.f
  · omega
  · by_cases h2 : b.f < a.f
    · simp [h1, h2] at h
    · omega

theorem steps_right (n m : Int) : ∀ (ss : List Stp) (p : Option Stp), chkStepsFrom n m p ss = 0 → (∀ s ∈ ss, badS n m s = false) ∧ ss.Pairwise (fun a b => a.f ≤ b.f) ∧ (∀ q, p = some q → ∀ s ∈ ss, q.f ≤ s.f)
  | [], _, _ => ⟨fun s h => (by cases h), List.Pairwise.nil, fun q _ s h => (by cases h)⟩
  | s :: r, p, h => by
    unfold chkStepsFrom at h
    cases hb : badS n m s with
    | true => rw [hb] at h; simp at h
    | false =>
      rw [hb] at h
      cases p with
      | none =>
        obtain ⟨h1, h2, h3⟩ := steps_right n m r (some s) (by simpa using h)
        refine ⟨fun x hx => ?_, List.Pairwise.cons (fun x hx => h3 s rfl x hx) h2, fun q e => by cases e⟩
        rcases List.mem_cons.1 hx with rfl | hx
        · exact hb
        · exact h1 x hx
      | some q =>
        by_cases ho : 0 ≤ ordS q s
        · simp [ho] at h
        · obtain ⟨h1, h2, h3⟩ := steps_right n m r (some s) (by simpa [ho] using h)
          have hq : q.f ≤ s.f := ordS_le (by omega)
          refine ⟨fun x hx => ?_, List.Pairwise.cons (fun x hx => h3 s rfl x hx) h2, fun q' e x hx => ?_⟩
          · rcases List.mem_cons.1 hx with rfl | hx
            · exact hb
            · exact h1 x hx
          · cases e
            rcases List.mem_cons.1 hx with rfl | hx
            · exact hq
            · have := h3 s rfl x hx
              omega

/-- What Check asks of an automaton. -/
structure Right (A : Aut) : Prop where
  n1 : 1 ≤ A.n
  n3 : A.n ≤ 300
  m1 : 1 ≤ A.m
  m8 : A.m ≤ 8
  good : (A.good.length : Int) = A.n
  few : A.steps.length ≤ 6000
  first : ∀ x ∈ A.first, 0 ≤ x ∧ x < A.n
  steps : ∀ s ∈ A.steps, 0 ≤ s.f ∧ s.f < A.n ∧ 0 ≤ s.l ∧ s.l < A.m ∧ 0 ≤ s.t ∧ s.t < A.n
  sorted : A.steps.Pairwise (fun a b => a.f ≤ b.f)

theorem outB_false {n x : Int} (h : outB n x = false) : 0 ≤ x ∧ x < n := by
  simpa [outB] using h

theorem right_of {A : Aut} (h : chkA A = 0) : Right A := by
  unfold chkA at h
  by_cases h1 : A.n < 1 ∨ 300 < A.n ∨ A.m < 1 ∨ 8 < A.m
  · rw [if_pos h1] at h; omega
  rw [if_neg h1] at h
  by_cases h2 : (A.good.length : Int) ≠ A.n
  · rw [if_pos h2] at h; omega
  rw [if_neg h2] at h
  by_cases h3 : 6000 < A.steps.length
  · rw [if_pos h3] at h; omega
  rw [if_neg h3] at h
  by_cases h4 : chkFirst A.n A.first ≠ 0
  · rw [if_pos h4] at h; omega
  rw [if_neg h4] at h
  have h4' : chkFirst A.n A.first = 0 := by omega
  unfold chkFirst at h4'
  have h5 : A.first.any (outB A.n) = false := by
    cases hb : A.first.any (outB A.n) with
    | false => rfl
    | true => rw [hb] at h4'; simp at h4'
  obtain ⟨g1, g2, _⟩ := steps_right A.n A.m A.steps none h
  refine ⟨by omega, by omega, by omega, by omega, by omega, by omega, fun x hx => ?_, fun s hs => ?_, g2⟩
  · rw [List.any_eq_false] at h5
    exact outB_false (by simpa using h5 x hx)
  · have := g1 s hs
    unfold badS at this
    rw [Bool.or_eq_false_iff, Bool.or_eq_false_iff] at this
    have q1 := outB_false this.1.1
    have q2 := outB_false this.1.2
    have q3 := outB_false this.2
    omega

/-- A step of a run, at a word's place. -/
def EdgeA (A : Aut) (hs ls : List Int) (x y : Spot) : Prop :=
  y.1 = (if x.1 + 1 = hs.length + ls.length then hs.length else x.1 + 1) ∧ ∃ s ∈ A.steps, s.f = x.2 ∧ s.l = lat hs ls x.1 ∧ s.t = y.2

/-- An automaton takes a word: a good spot, come to from a first one, leads back to itself. -/
def TakesA (A : Aut) (hs ls : List Int) : Prop :=
  ∃ i, i < A.first.length ∧ ∃ z, Leads (EdgeA A hs ls) (0, (A.first.getD i 0).toNat) z ∧ A.good.getD z.2 false = true ∧ LeadsOn (EdgeA A hs ls) z z

def tkE (A : Aut) (hs ls : List Int) : Int := if chkA A ≠ 0 then chkA A else chk hs ls A.m

theorem lat_range {hs ls : List Int} {n : Int} (h : chk hs ls n = 0) (p : Nat) : 0 ≤ lat hs ls p ∧ lat hs ls p < n ∧ n ≤ 8 := by
  unfold chk at h
  by_cases h1 : n < 1 ∨ 8 < n
  · rw [if_pos h1] at h; omega
  rw [if_neg h1] at h
  by_cases h2 : 4000 < hs.length ∨ 4000 < ls.length
  · rw [if_pos h2] at h; omega
  rw [if_neg h2] at h
  by_cases h3 : ls.length = 0
  · rw [if_pos h3] at h; omega
  rw [if_neg h3] at h
  have h4 : (hs ++ ls).any (fun x => decide (x < 0) || decide (n ≤ x)) = false := by
    cases hb : (hs ++ ls).any (fun x => decide (x < 0) || decide (n ≤ x)) with
    | false => rfl
    | true => rw [hb] at h; simp at h
  rw [List.any_eq_false] at h4
  have key : ∀ x ∈ hs ++ ls, 0 ≤ x ∧ x < n ∧ n ≤ 8 := fun x hx => by
    have := h4 x hx
    simp at this
    omega
  unfold lat
  by_cases hp : p < hs.length
  · rw [if_pos hp]
    refine key _ (List.mem_append_left _ ?_)
    simp [List.getD, hp]
  · rw [if_neg hp]
    refine key _ (List.mem_append_right _ ?_)
    have : (p - hs.length) % ls.length < ls.length := Nat.mod_lt _ (by omega)
    simp [List.getD, this]

theorem chk_lens {hs ls : List Int} {n : Int} (h : chk hs ls n = 0) : hs.length ≤ 4000 ∧ ls.length ≤ 4000 ∧ ls ≠ [] := by
  unfold chk at h
  by_cases h1 : n < 1 ∨ 8 < n
  · rw [if_pos h1] at h; omega
  rw [if_neg h1] at h
  by_cases h2 : 4000 < hs.length ∨ 4000 < ls.length
  · rw [if_pos h2] at h; omega
  rw [if_neg h2] at h
  by_cases h3 : ls.length = 0
  · rw [if_pos h3] at h; omega
  refine ⟨by omega, by omega, fun e => h3 (by rw [e]; rfl)⟩

theorem edge_eq {A : Aut} {R : Rn} {D : Nat → Nat → Nat → Nat} {N : Nat} (hA : Right A) (hN : (N : Int) = A.n) (hD : SD A.steps N D) (hl : ∀ p, 0 ≤ lat R.hs R.ls p) : Edge R D = EdgeA A R.hs R.ls := by
  funext x y
  apply propext
  unfold Edge EdgeA nextOf
  rw [hD.2]
  have e : ((lat R.hs R.ls x.1).toNat : Int) = lat R.hs R.ls x.1 := Int.toNat_of_nonneg (hl _)
  constructor
  · rintro ⟨h1, s, hs, h2, h3, h4, h5⟩
    exact ⟨h1, s, hs, h2, by rw [h3, e], h4⟩
  · rintro ⟨h1, s, hs, h2, h3, h4⟩
    exact ⟨h1, s, hs, h2, by rw [h3, e], h4, by have := hA.steps s hs; omega⟩

theorem mono_getD {ss : List Stp} (h : ss.Pairwise (fun a b => a.f ≤ b.f)) (i j : Nat) (hij : i ≤ j) (hj : j < ss.length) : (ss.getD i stp0).f ≤ (ss.getD j stp0).f := by
  rw [stp_getD _ _ hj, stp_getD _ _ (by omega)]
  rcases Nat.lt_or_eq_of_le hij with hlt | rfl
  · exact List.pairwise_iff_getElem.1 h i j (by omega) hj hlt
  · omega

theorem two_alloc (w : World) (a b : Obj) : ((w.alloc a).alloc b).heap[w.heap.size]? = some a ∧ ((w.alloc a).alloc b).heap[w.heap.size + 1]? = some b := by
  refine ⟨?_, ?_⟩
  · rw [heap_alloc_old _ _ (by simp)]
    exact heap_alloc_new w a
  · have := heap_alloc_new (w.alloc a) b
    rwa [World.size_alloc] at this

set_option maxRecDepth 100000 in
set_option maxHeartbeats 1000000 in
theorem takes_any {w : World} {v hv lv : Value} {A : Aut} {hs ls : List Int} (hA : AutV w v A) (hh : IntSl w hv hs) (hl : IntSl w lv ls) (ht : Tab w) :
    Calls Tryz.prog 10 #[v, .agg #[hv, lv]] w fun e w' => ∃ b : Bool, e = .returned (.tuple #[.bool b, .int .i64 (tkE A hs ls)]) ∧ (b = true ↔ tkE A hs ls = 0 ∧ TakesA A hs ls) ∧ Below w.heap.size w w' := by
  have HA := hide (fun w1 (hb : Below w.heap.size w w1) => autoCheck_any (hA.below hb))
  have HC := hide (fun w1 (hb : Below w.heap.size w w1) => check_any A.m (hh.below hb) (hl.below hb))
  obtain ⟨fv, gv, sv, rfl, h1, h2, h3⟩ := hA
  have Hall := hide (And.intro h1 (And.intro h2 (And.intro h3 (And.intro hh (And.intro hl ht)))))
  obtain ⟨a1, c1, rfl, -⟩ := h1
  obtain ⟨a2, c2, rfl, -⟩ := h2
  obtain ⟨a3, c3, rfl, -⟩ := h3
  obtain ⟨a4, c4, rfl, -⟩ := hh
  obtain ⟨a5, c5, rfl, -⟩ := hl
  clear ht
  by_cases hc : chkA A = 0
  · by_cases hk : chk hs ls A.m = 0
    · have hR := right_of hc
      obtain ⟨N, hN⟩ := Int.eq_ofNat_of_zero_le (show 0 ≤ A.n from by have := hR.n1; omega)
      have et : tkE A hs ls = 0 := by unfold tkE; rw [if_neg (by omega), hk]
      rw [et]
      rw [hc] at HA
      rw [hk] at HC
      have HN := hide (fun w1 (hb : Below w.heap.size w w1) => newRun_any A.m a1 a2 a3 a4 a5 A.first.length A.good.length hs.length ls.length c1 c2 c3 c4 c5 N A.steps.length rfl (by have := hR.n3; omega) (Hall.out.2.2.1.below hb) hR.few (mono_getD hR.sorted) (fun x hx => by have := hR.steps x hx; have := hR.m8; omega))
      have HR := hide hR
      have HN0 := hide hN
      rw [hN] at HA ⊢
      have Hk := hide hk
      generalize hm : A.m = m at *
      clear hN hR et hc hk
      generalize A.first.length = L1 at *
      generalize A.good.length = L2 at *
      generalize A.steps.length = L3 at *
      go_enter Tryz.func10, Tryz.ntmps10
      go_wp2_with (fail)
      have hb0 : Below w.heap.size w ((w.alloc (Obj.cells #[Value.int .i64 (N : Nat), .int .i64 m, .slice a1 L1 c1, .slice a2 L2 c2, .slice a3 L3 c3] 30)).alloc (Obj.cells #[Value.slice a4 hs.length c4, .slice a5 ls.length c5] 26)) := (by repeat (first | exact Below.refl _ _ | assumption | refine below_drewN ?_ _ | refine Below.drew ?_ | refine Below.alloc ?_ (by simp <;> omega) _ | refine below_trans ?_ (by assumption)))
      refine (HA.out _ hb0).mono ?_
      rintro e w1 ⟨rfl, hb1⟩
      have q0 := two_alloc w (Obj.cells #[Value.int .i64 (N : Nat), .int .i64 m, .slice a1 L1 c1, .slice a2 L2 c2, .slice a3 L3 c3] 30) (Obj.cells #[Value.slice a4 hs.length c4, .slice a5 ls.length c5] 26)
      have hs0 : ((w.alloc (Obj.cells #[Value.int .i64 (N : Nat), .int .i64 m, .slice a1 L1 c1, .slice a2 L2 c2, .slice a3 L3 c3] 30)).alloc (Obj.cells #[Value.slice a4 hs.length c4, .slice a5 ls.length c5] 26)).heap.size = w.heap.size + 2 := by simp
      generalize ((w.alloc (Obj.cells #[Value.int .i64 (N : Nat), .int .i64 m, .slice a1 L1 c1, .slice a2 L2 c2, .slice a3 L3 c3] 30)).alloc (Obj.cells #[Value.slice a4 hs.length c4, .slice a5 ls.length c5] 26)) = W0 at hb0 hb1 q0 hs0 ⊢
      have z0 := (hb1.block _ (by omega)).trans q0.1
      have z1 := (hb1.block _ (by omega)).trans q0.2
      have hB1 := below_trans hb0 hb1
      have hs1 := hb1.size
      clear q0
      have p0 := cell_of_row w1 _ 0 _ _ _ z0
      have p1 := cell_of_row w1 _ 1 _ _ _ z0
      have p2 := cell_of_row w1 _ 2 _ _ _ z0
      have p3 := cell_of_row w1 _ 3 _ _ _ z0
      have p4 := cell_of_row w1 _ 4 _ _ _ z0
      have p5 := cell_of_row w1 _ 0 _ _ _ z1
      have p6 := cell_of_row w1 _ 1 _ _ _ z1
      go_wp2_with (fail)
      refine (HC.out _ hB1).mono ?_
      rintro e w2 ⟨rfl, hb2⟩
      have hB2 := below_trans hB1 hb2
      have hs2 := hb2.size
      have y0 := (hb2.block _ (by omega)).trans z0
      have y1 := (hb2.block _ (by omega)).trans z1
      clear p0 p1 p2 p3 p4 p5 p6
      have p0 := cell_of_row w2 _ 0 _ _ _ y0
      have p1 := cell_of_row w2 _ 1 _ _ _ y0
      have p2 := cell_of_row w2 _ 2 _ _ _ y0
      have p3 := cell_of_row w2 _ 3 _ _ _ y0
      have p4 := cell_of_row w2 _ 4 _ _ _ y0
      have p5 := cell_of_row w2 _ 0 _ _ _ y1
      have p6 := cell_of_row w2 _ 1 _ _ _ y1
      go_wp2_with (fail)
      refine (HN.out _ hB2).mono ?_
      rintro e w3 ⟨g, D, rfl, hb3, hD, hcell⟩
      have hB3 := below_trans hB2 hb3
      obtain ⟨i1, i2, i3, i4, i5, hT⟩ := Hall.out
      have hlr := fun p => lat_range Hk.out p
      have hlen := chk_lens Hk.out
      have hRn : RnOk w3 ⟨N, m, a1, L1, c1, a2, L2, c2, a3, L3, c3, a4, c4, a5, c5, g, N, hs, ls⟩ D :=
        ⟨i4.below hB3, i5.below hB3, hlen.1, hlen.2.1, hlen.2.2, by have := HR.out.n3; have := HN0.out; dsimp only; omega, fun p => ⟨(hlr p).1, by have := hlr p; dsimp only; omega⟩, hcell, hD.1, fun s l t ht => by
          obtain ⟨x, hx, _, _, h, _⟩ := (hD.2 s l t).1 ht
          have := HR.out.steps x hx
          have := HN0.out
          dsimp only
          omega⟩
      have hT2 := hide (runTakes_any (gs := A.good) (fs := A.first) ⟨N, m, a1, L1, c1, a2, L2, c2, a3, L3, c3, a4, c4, a5, c5, g, N, hs, ls⟩ D hRn (hT.below hB3) ⟨i2.below hB3, by have := HR.out.good; have := HN0.out; dsimp only; omega⟩ (i1.below hB3) (fun i hi => by
        have := HR.out.first (A.first.getD i 0) (by simp [List.getD, hi])
        have := HN0.out
        dsimp only
        omega))
      have hE := edge_eq HR.out HN0.out.symm hD (R := ⟨N, m, a1, L1, c1, a2, L2, c2, a3, L3, c3, a4, c4, a5, c5, g, N, hs, ls⟩) (fun p => (hlr p).1)
      have HE := hide hE
      clear hE hRn hcell hD hlr hlen i1 i2 i3 i4 i5 hT p0 p1 p2 p3 p4 p5 p6
      unfold rnV at hT2
      dsimp only at hT2
      go_wp2_with (fail)
      refine hT2.out.mono ?_
      rintro e w4 ⟨b, rfl, hb, hb4⟩
      have hB4 := below_trans hB3 hb4
      have Hb := hide hb
      clear hb hT2
      go_wp2_with (fail)
      refine bodyPost_ret (v := .tuple #[.bool b, .int .i64 0]) (by simp [results, Tryz.results10, go_sem]) rfl ?_
      refine ⟨b, rfl, ?_, hB4⟩
      rw [Hb.out]
      unfold RunTakes Found TakesA
      rw [HE.out]
      simp
    · have et : tkE A hs ls = chk hs ls A.m := by unfold tkE; rw [if_neg (by omega)]
      rw [et]
      rw [hc] at HA
      generalize chk hs ls A.m = c at *
      generalize hm : A.m = m at *
      generalize hn : A.n = n at *
      clear et hc
      generalize A.first.length = L1 at *
      generalize A.good.length = L2 at *
      generalize A.steps.length = L3 at *
      clear Hall
      go_enter Tryz.func10, Tryz.ntmps10
      go_wp2_with (fail)
      have hb0 : Below w.heap.size w ((w.alloc (Obj.cells #[Value.int .i64 n, .int .i64 m, .slice a1 L1 c1, .slice a2 L2 c2, .slice a3 L3 c3] 30)).alloc (Obj.cells #[Value.slice a4 hs.length c4, .slice a5 ls.length c5] 26)) := (by repeat (first | exact Below.refl _ _ | assumption | refine below_drewN ?_ _ | refine Below.drew ?_ | refine Below.alloc ?_ (by simp <;> omega) _ | refine below_trans ?_ (by assumption)))
      refine (HA.out _ hb0).mono ?_
      rintro e w1 ⟨rfl, hb1⟩
      have q0 := two_alloc w (Obj.cells #[Value.int .i64 n, .int .i64 m, .slice a1 L1 c1, .slice a2 L2 c2, .slice a3 L3 c3] 30) (Obj.cells #[Value.slice a4 hs.length c4, .slice a5 ls.length c5] 26)
      have hs0 : ((w.alloc (Obj.cells #[Value.int .i64 n, .int .i64 m, .slice a1 L1 c1, .slice a2 L2 c2, .slice a3 L3 c3] 30)).alloc (Obj.cells #[Value.slice a4 hs.length c4, .slice a5 ls.length c5] 26)).heap.size = w.heap.size + 2 := by simp
      generalize ((w.alloc (Obj.cells #[Value.int .i64 n, .int .i64 m, .slice a1 L1 c1, .slice a2 L2 c2, .slice a3 L3 c3] 30)).alloc (Obj.cells #[Value.slice a4 hs.length c4, .slice a5 ls.length c5] 26)) = W0 at hb0 hb1 q0 hs0 ⊢
      have z0 := (hb1.block _ (by omega)).trans q0.1
      have z1 := (hb1.block _ (by omega)).trans q0.2
      have hB1 := below_trans hb0 hb1
      have hs1 := hb1.size
      clear q0
      have p0 := cell_of_row w1 _ 0 _ _ _ z0
      have p1 := cell_of_row w1 _ 1 _ _ _ z0
      have p2 := cell_of_row w1 _ 2 _ _ _ z0
      have p3 := cell_of_row w1 _ 3 _ _ _ z0
      have p4 := cell_of_row w1 _ 4 _ _ _ z0
      have p5 := cell_of_row w1 _ 0 _ _ _ z1
      have p6 := cell_of_row w1 _ 1 _ _ _ z1
      go_wp2_with (fail)
      refine (HC.out _ hB1).mono ?_
      rintro e w2 ⟨rfl, hb2⟩
      have hB2 := below_trans hB1 hb2
      have hs2 := hb2.size
      go_wp2_with (fail)
      refine bodyPost_ret (v := .tuple #[.bool false, .int .i64 c]) (by simp [results, Tryz.results10, go_sem]) rfl ?_
      exact ⟨false, rfl, by simp [hk], hB2⟩
  · have et : tkE A hs ls = chkA A := by unfold tkE; rw [if_pos hc]
    rw [et]
    generalize chkA A = c at *
    generalize hm : A.m = m at *
    generalize hn : A.n = n at *
    clear et Hall HC
    generalize A.first.length = L1 at *
    generalize A.good.length = L2 at *
    generalize A.steps.length = L3 at *
    go_enter Tryz.func10, Tryz.ntmps10
    go_wp2_with (fail)
    have hb0 : Below w.heap.size w ((w.alloc (Obj.cells #[Value.int .i64 n, .int .i64 m, .slice a1 L1 c1, .slice a2 L2 c2, .slice a3 L3 c3] 30)).alloc (Obj.cells #[Value.slice a4 hs.length c4, .slice a5 ls.length c5] 26)) := (by repeat (first | exact Below.refl _ _ | assumption | refine below_drewN ?_ _ | refine Below.drew ?_ | refine Below.alloc ?_ (by simp <;> omega) _ | refine below_trans ?_ (by assumption)))
    refine (HA.out _ hb0).mono ?_
    rintro e w1 ⟨rfl, hb1⟩
    have q0 := two_alloc w (Obj.cells #[Value.int .i64 n, .int .i64 m, .slice a1 L1 c1, .slice a2 L2 c2, .slice a3 L3 c3] 30) (Obj.cells #[Value.slice a4 hs.length c4, .slice a5 ls.length c5] 26)
    have hs0 : ((w.alloc (Obj.cells #[Value.int .i64 n, .int .i64 m, .slice a1 L1 c1, .slice a2 L2 c2, .slice a3 L3 c3] 30)).alloc (Obj.cells #[Value.slice a4 hs.length c4, .slice a5 ls.length c5] 26)).heap.size = w.heap.size + 2 := by simp
    generalize ((w.alloc (Obj.cells #[Value.int .i64 n, .int .i64 m, .slice a1 L1 c1, .slice a2 L2 c2, .slice a3 L3 c3] 30)).alloc (Obj.cells #[Value.slice a4 hs.length c4, .slice a5 ls.length c5] 26)) = W0 at hb0 hb1 q0 hs0 ⊢
    have z0 := (hb1.block _ (by omega)).trans q0.1
    have z1 := (hb1.block _ (by omega)).trans q0.2
    have hB1 := below_trans hb0 hb1
    have hs1 := hb1.size
    clear q0
    have p0 := cell_of_row w1 _ 0 _ _ _ z0
    have p1 := cell_of_row w1 _ 1 _ _ _ z0
    have p2 := cell_of_row w1 _ 2 _ _ _ z0
    have p3 := cell_of_row w1 _ 3 _ _ _ z0
    have p4 := cell_of_row w1 _ 4 _ _ _ z0
    have p5 := cell_of_row w1 _ 0 _ _ _ z1
    have p6 := cell_of_row w1 _ 1 _ _ _ z1
    go_wp2_with (fail)
    refine bodyPost_ret (v := .tuple #[.bool false, .int .i64 c]) (by simp [results, Tryz.results10, go_sem]) rfl ?_
    exact ⟨false, rfl, by simp [hc], hB1⟩
end Go.Proofs.YtpiacnnifdjlkaaGreatDoor

/-
  What must be in any case: the statements' own automaton of one state, its own word, and what begun tells of package word.
-/
namespace Go.Proofs.YtpiacnnifdjlkaaGreatDoor
open Go.RowKit Go.Sort

def oneA : Aut := ⟨1, 2, [0], [true], [⟨0, 0, 0⟩]⟩

theorem boolSl_one (w : World) (g : Nat) (x : Bool) (h : w.cell? ⟨g, 0, none⟩ = some (.bool x)) : BoolSl w (.slice (some ⟨g, 0, none⟩) 1 1) [x] :=
  ⟨_, _, rfl, by simp [maxLen], Or.inr ⟨g, 0, rfl, fun i hi => by
    have : i = 0 := by simpa using hi
    subst this
    exact h⟩, fun e => (by cases e), by simp⟩

theorem stepSl_one (w : World) (g : Nat) (x : Stp) (h0 : w.cell? ⟨g, 0, none⟩ = some (.int .i64 x.f)) (h1 : w.cell? ⟨g, 1, none⟩ = some (.int .i64 x.l)) (h2 : w.cell? ⟨g, 2, none⟩ = some (.int .i64 x.t)) : StepSl w (.slice (some ⟨g, 0, none⟩) 1 1) [x] :=
  ⟨_, _, rfl, by simp [maxLen], Or.inr ⟨g, 0, rfl, fun i hi => by
    have : i = 0 := by simpa using hi
    subst this
    exact ⟨h0, h1, h2⟩⟩, fun e => (by cases e), by simp⟩

theorem intSl_nil (w : World) : IntSl w (.slice none 0 0) [] := ⟨none, 0, rfl, by simp [maxLen], Or.inl rfl, fun _ => rfl, by simp⟩

theorem four_alloc (w : World) (a b c d : Obj) : ((((w.alloc a).alloc b).alloc c).alloc d).heap[w.heap.size]? = some a ∧ ((((w.alloc a).alloc b).alloc c).alloc d).heap[w.heap.size + 1]? = some b ∧ ((((w.alloc a).alloc b).alloc c).alloc d).heap[w.heap.size + 1 + 1]? = some c ∧
    ((((w.alloc a).alloc b).alloc c).alloc d).heap[w.heap.size + 1 + 1 + 1]? = some d := by
  obtain ⟨h1, h2, h3⟩ := three_alloc w a b c
  refine ⟨?_, ?_, ?_, ?_⟩
  · rw [heap_alloc_old _ _ (by simp; omega)]; exact h1
  · rw [heap_alloc_old _ _ (by simp)]; exact h2
  · rw [heap_alloc_old _ _ (by simp)]; exact h3
  · have := heap_alloc_new (((w.alloc a).alloc b).alloc c) d
    rwa [World.size_alloc, World.size_alloc, World.size_alloc] at this

theorem takes_one : TakesA oneA [] [0] := by
  refine ⟨0, by decide, (0, 0), ⟨0, rfl⟩, rfl, ⟨0, (0, 0), ⟨rfl, ⟨0, 0, 0⟩, by simp [oneA], rfl, rfl, rfl⟩, rfl⟩⟩

theorem not_takes_one : ¬ TakesA oneA [1] [0] := by
  have no : ∀ z, ¬ EdgeA oneA [1] [0] (0, 0) z := by
    rintro z ⟨_, s, hs, _, h, _⟩
    have : s = ⟨0, 0, 0⟩ := by simpa [oneA] using hs
    subst this
    exact absurd h (by decide)
  have stay : ∀ z, Leads (EdgeA oneA [1] [0]) (0, 0) z → z = (0, 0) := by
    rintro z ⟨n, h⟩
    cases n with
    | zero => exact h.symm
    | succ n => obtain ⟨y, hy, _⟩ := h; exact absurd hy (no y)
  rintro ⟨i, hi, z, h1, _, n, h2⟩
  have hi0 : i = 0 := by simpa [oneA] using hi
  subst hi0
  have := stay z h1
  subst this
  obtain ⟨y, hy, _⟩ := h2
  exact no y hy

theorem leastBegun {p k : Nat} (hp : LeastPer [0, 0] p) (hk : LeastHead [0] [0, 0] p k) : pieceOf [0] [0, 0] 0 k = [] ∧ pieceOf [0] [0, 0] k p = [0] := by
  have p1 : p = 1 := by
    have h1 := hp.1.1
    have h2 := hp.2 1 ⟨by decide, by decide, by decide, by decide⟩
    omega
  subst p1
  obtain ⟨h1, _, h3⟩ := hk
  have k0 : k = 0 := by
    rcases h3 with h | h
    · exact h
    · have hk2 : k = 0 ∨ k = 1 := by simp at h1; omega
      rcases hk2 with rfl | rfl
      · rfl
      · exact absurd (by decide) h
  subst k0
  exact ⟨by decide, by decide⟩

theorem intSl_two (w : World) (g : Nat) (x y : Int) (h0 : w.cell? ⟨g, 0, none⟩ = some (.int .i64 x)) (h1 : w.cell? ⟨g, 1, none⟩ = some (.int .i64 y)) : IntSl w (.slice (some ⟨g, 0, none⟩) 2 2) [x, y] :=
  ⟨_, _, rfl, by simp [maxLen], Or.inr ⟨g, 0, rfl, fun i hi => by
    have : i = 0 ∨ i = 1 := by simp at hi; omega
    rcases this with rfl | rfl
    · exact h0
    · exact h1⟩, fun e => (by cases e), by simp⟩

theorem autV_one {w : World} {g1 g2 g3 : Nat} (h1 : w.cell? ⟨g1, 0, none⟩ = some (.int .i64 0)) (h2 : w.cell? ⟨g2, 0, none⟩ = some (.bool true)) (h3 : w.cell? ⟨g3, 0, none⟩ = some (.int .i64 0)) (h4 : w.cell? ⟨g3, 1, none⟩ = some (.int .i64 0)) (h5 : w.cell? ⟨g3, 2, none⟩ = some (.int .i64 0)) :
    AutV w (.agg #[.int .i64 1, .int .i64 2, .slice (some ⟨g1, 0, none⟩) 1 1, .slice (some ⟨g2, 0, none⟩) 1 1, .slice (some ⟨g3, 0, none⟩) 1 1]) oneA :=
  ⟨_, _, _, rfl, intSl_one w g1 0 h1, boolSl_one w g2 true h2, stepSl_one w g3 ⟨0, 0, 0⟩ h3 h4 h5⟩

theorem takesB {w : World} {g1 g2 g3 g : Nat} (ht : Tab w) (h1 : w.cell? ⟨g1, 0, none⟩ = some (.int .i64 0)) (h2 : w.cell? ⟨g2, 0, none⟩ = some (.bool true)) (h3 : w.cell? ⟨g3, 0, none⟩ = some (.int .i64 0)) (h4 : w.cell? ⟨g3, 1, none⟩ = some (.int .i64 0)) (h5 : w.cell? ⟨g3, 2, none⟩ = some (.int .i64 0)) (h : w.cell? ⟨g, 0, none⟩ = some (.int .i64 0)) :
    Calls Tryz.prog 10 #[.agg #[.int .i64 1, .int .i64 2, .slice (some ⟨g1, 0, none⟩) 1 1, .slice (some ⟨g2, 0, none⟩) 1 1, .slice (some ⟨g3, 0, none⟩) 1 1], .agg #[.slice none 0 0, .slice (some ⟨g, 0, none⟩) 1 1]] w fun e w' => e = .returned (.tuple #[.bool true, .int .i64 0]) ∧ Below w.heap.size w w' := by
  refine (takes_any (autV_one h1 h2 h3 h4 h5) (intSl_nil w) (intSl_one w g 0 h) ht).mono ?_
  rintro e w' ⟨b, rfl, hb, hw⟩
  have e0 : tkE oneA [] [0] = 0 := by decide
  have : b = true := hb.2 ⟨e0, takes_one⟩
  subst this
  rw [e0]
  exact ⟨rfl, hw⟩

theorem takesN {w : World} {g1 g2 g3 g g' : Nat} (ht : Tab w) (h1 : w.cell? ⟨g1, 0, none⟩ = some (.int .i64 0)) (h2 : w.cell? ⟨g2, 0, none⟩ = some (.bool true)) (h3 : w.cell? ⟨g3, 0, none⟩ = some (.int .i64 0)) (h4 : w.cell? ⟨g3, 1, none⟩ = some (.int .i64 0)) (h5 : w.cell? ⟨g3, 2, none⟩ = some (.int .i64 0)) (h : w.cell? ⟨g, 0, none⟩ = some (.int .i64 1)) (h' : w.cell? ⟨g', 0, none⟩ = some (.int .i64 0)) :
    Calls Tryz.prog 10 #[.agg #[.int .i64 1, .int .i64 2, .slice (some ⟨g1, 0, none⟩) 1 1, .slice (some ⟨g2, 0, none⟩) 1 1, .slice (some ⟨g3, 0, none⟩) 1 1], .agg #[.slice (some ⟨g, 0, none⟩) 1 1, .slice (some ⟨g', 0, none⟩) 1 1]] w fun e w' => e = .returned (.tuple #[.bool false, .int .i64 0]) ∧ Below w.heap.size w w' := by
  refine (takes_any (autV_one h1 h2 h3 h4 h5) (intSl_one w g 1 h) (intSl_one w g' 0 h') ht).mono ?_
  rintro e w' ⟨b, rfl, hb, hw⟩
  have e0 : tkE oneA [1] [0] = 0 := by decide
  have : b = false := by
    cases b with
    | false => rfl
    | true => exact absurd (hb.1 rfl).2 not_takes_one
  subst this
  rw [e0]
  exact ⟨rfl, hw⟩
end Go.Proofs.YtpiacnnifdjlkaaGreatDoor

/-
  A region that draws its order, of which there are few: each of them is walked as it stands. And: wordBegun of the statements is true.
-/
namespace Go.Proofs.YtpiacnnifdjlkaaGreatDoor
open Go.RowKit Go.Sort

section
variable {P : Program} {Q : Exit → Act → World → Prop}

/-- All orders in which operations may come up. -/
def ordersOf (md : Region.Mode) (ops : Array Oper) : Nat → Array Bool → List (List Nat)
  | 0, _ => [[]]
  | f + 1, listed => match Region.ready md ops listed with
    | [] => [[]]
    | r => r.flatMap fun i => (ordersOf md ops f (listed.setIfInBounds i true)).map (i :: ·)

theorem lin_mem (md : Region.Mode) (ops : Array Oper) : ∀ (fuel t : Nat) (listed : Array Bool), Region.linearise.go md ops fuel t listed [] ∈ ordersOf md ops fuel listed := by
  intro fuel
  induction fuel with
  | zero => intro t listed; simp [Region.linearise.go, ordersOf]
  | succ fuel ih =>
    intro t listed
    simp only [Region.linearise.go]
    change (match (Region.ready md ops listed)[t % (Region.ready md ops listed).length]? with
      | some i => Region.linearise.go md ops fuel (t / (Region.ready md ops listed).length) (listed.setIfInBounds i true) [i]
      | none => [].reverse) ∈ _
    unfold ordersOf
    cases hi : (Region.ready md ops listed)[t % (Region.ready md ops listed).length]? with
    | none =>
      have hnil : Region.ready md ops listed = [] := by
        cases hr : Region.ready md ops listed with
        | nil => rfl
        | cons x xs =>
          rw [hr] at hi
          have hlt : t % (x :: xs).length < (x :: xs).length := Nat.mod_lt _ (by simp)
          simp at hi
          simp at hlt
          omega
      rw [hnil]
      simp
    | some i =>
      have hm := List.mem_of_getElem? hi
      simp only []
      rw [linearise_go_acc, List.reverse_singleton, List.singleton_append]
      cases hr : Region.ready md ops listed with
      | nil => rw [hr] at hm; cases hm
      | cons x xs =>
        rw [hr] at hm
        simp only []
        exact List.mem_flatMap.2 ⟨i, hm, List.mem_map.2 ⟨_, ih _ _, rfl⟩⟩

theorem wpOps_list (ops : Array Oper) : ∀ (l : List Nat), wpOps P ops Q l = wpList P ops Q (l.filterMap (ops[·]?))
  | [] => by funext a w; simp [wpOps, wpList]
  | i :: l => by
    funext a w
    cases h : ops[i]? with
    | none => simp only [wpOps, h, wpOps_list ops l, List.filterMap_cons]
    | some o => simp only [wpOps, h, wpOps_list ops l, List.filterMap_cons, wpList]

theorem wp_region_orders {id : Nat} {a : Act} {w : World} {ops : List Oper} (L : List (List Nat)) (hm : P.follows .mixedOrders = true) (hL : ordersOf .any ops.toArray ops.length (Array.replicate ops.length false) = L)
    (h : ∀ o ∈ L, wpList P ops.toArray Q (o.filterMap (ops[·]?)) a w.drew) : (Code.region id ops.toArray true).wp P Q a w := by
  refine wp_region_draw fun t => ?_
  have hsch : Region.schedule (P.follows .mixedOrders) ops.toArray t = Region.linearise.go .any ops.toArray ops.length t (Array.replicate ops.length false) [] := by
    simp only [Region.schedule, hm, Bool.true_or, if_true]
    rfl
  rw [hsch, wpOps_list]
  have := h _ (hL ▸ lin_mem .any ops.toArray ops.length t _)
  simpa using this
end

theorem checkZ {w : World} {g : Nat} (h : w.cell? ⟨g, 0, none⟩ = some (.int .i64 0)) :
    Calls Tryz.prog 24 #[.agg #[.slice none 0 0, .slice (some ⟨g, 0, none⟩) 1 1], .int .i64 1] w fun e w' => e = .returned (.int .i64 0) ∧ Below w.heap.size w w' :=
  check_any 1 (intSl_nil w) (intSl_one w g 0 h)

end Go.Proofs.YtpiacnnifdjlkaaGreatDoor

namespace Go.Proofs.YtpiacnnifdjlkaaGreatDoor
open Go.RowKit Go.Sort

theorem belowRow {w w' : World} (h : Below w.heap.size w w') {b : Nat} {o : Obj} (hb : w.heap[b]? = some o) : w'.heap[b]? = some o := (h.block b (Array.getElem?_eq_some_iff.1 hb).1).trans hb

theorem allocRow (w : World) (o' : Obj) {b : Nat} {o : Obj} (hb : w.heap[b]? = some o) : (w.alloc o').heap[b]? = some o := belowRow (below_new w o') hb

theorem one_new (w : World) (o : Obj) : (w.alloc o).heap[w.heap.size]? = some o := heap_alloc_new w o

theorem IntSl.put {w : World} {v : Value} {zs : List Int} (h : IntSl w v zs) {y : Nat} {p0 p1 : Option Addr} {q0 q1 s0 s1 : Nat} {t : TypeId} (hy : w.heap[y]? = some (.cells #[.slice p0 q0 s0, .slice p1 q1 s1] t)) (z0 z1 : Value) : IntSl ((w.setCell ⟨y, 0, none⟩ z0).setCell ⟨y, 1, none⟩ z1) v zs := by
  obtain ⟨a, cap, rfl, hm, h, hn⟩ := h
  refine ⟨a, cap, rfl, hm, ?_, hn⟩
  rcases h with h | ⟨b, off, rfl, hc⟩
  · exact Or.inl h
  · refine Or.inr ⟨b, off, rfl, fun i hi => ?_⟩
    have h1 := hc i hi
    have hne : b ≠ y := by
      rintro rfl
      rw [cell_of_row w b (off + i) _ _ _ hy] at h1
      match off + i, h1 with
      | 0, h1 => simp at h1
      | 1, h1 => simp at h1
      | k + 2, h1 => simp at h1
    rw [World.cell?_setCell_other _ _ _ _ (fun e => hne (congrArg Addr.block e).symm), World.cell?_setCell_other _ _ _ _ (fun e => hne (congrArg Addr.block e).symm)]
    exact h1

theorem putRow {w : World} {y : Nat} {u0 u1 : Value} {t : TypeId} (hy : w.heap[y]? = some (.cells #[u0, u1] t)) (z0 z1 : Value) : ((w.setCell ⟨y, 0, none⟩ z0).setCell ⟨y, 1, none⟩ z1).heap[y]? = some (.cells #[z0, z1] t) := by
  simpa using heap_setCell_row 1 z1 (heap_setCell_row 0 z0 hy)

theorem putOther {w : World} {y b : Nat} {o : Obj} (z0 z1 : Value) (hb : w.heap[b]? = some o) (hne : b ≠ y) : ((w.setCell ⟨y, 0, none⟩ z0).setCell ⟨y, 1, none⟩ z1).heap[b]? = some o := by
  rw [heap_setCell_other _ _ _ _ hne, heap_setCell_other _ _ _ _ hne]
  exact hb

end Go.Proofs.YtpiacnnifdjlkaaGreatDoor
