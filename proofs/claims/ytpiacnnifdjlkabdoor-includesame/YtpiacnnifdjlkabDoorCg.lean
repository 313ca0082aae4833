/-
  A region that draws its order, of which there are few: each of them is walked as it stands. And: wordBegun of the statements is true.
-/
import Derived.Test.YtpiacnnifdjlkabDoorCd
import Derived.Deep.RegionWith
/-
  What Takes of package word tells.
-/
namespace Go.Proofs.YtpiacnnifdjlkabDoor
open Go.RowKit Go.Sort

theorem ordS_le {a b : Stp} (h : ordS a b < 0) : a.f ≤ b.f := by
  unfold ordS orI cmpI at h
  by_cases h1 : a.f < b.f
  · omega
  · by_cases h2 : b.f < a.f
    · simp [h1, h2] at h
    · omega

theorem steps_right (n m : Int) : ∀ (ss : List Stp) (p : Option Stp), chkStepsFrom n m p ss = 0 → (∀ s ∈ ss, badS n m s = false) ∧ ss.Pairwise (fun a b => a.f ≤ b.f) ∧ (∀ q, p = some q → ∀ s ∈ ss, q.f ≤ s.f)
  | [], _, _ => ⟨fun s h => (by cases h), List.Pairwise.nil, fun q _ s h => (by cases h)⟩
  | s :: r, p, h => by
    unfold chkStepsFrom at h
    cases hb : badS n m s with
    | true => rw [hb] at h; simp at h
    | false =>
      rw [hb] at h
      cases p with
      | none =>
        obtain ⟨h1, h2, h3⟩ := steps_right n m r (some s) (by simpa using h)
        refine ⟨fun x hx => ?_, List.Pairwise.cons (fun x hx => h3 s rfl x hx) h2, fun q e => by cases e⟩
        rcases List.mem_cons.1 hx with rfl | hx
        · exact hb
        · exact h1 x hx
      | some q =>
        by_cases ho : 0 ≤ ordS q s
        · simp [ho] at h
        · obtain ⟨h1, h2, h3⟩ := steps_right n m r (some s) (by simpa [ho] using h)
          have hq : q.f ≤ s.f := ordS_le (by omega)
          refine ⟨fun x hx => ?_, List.Pairwise.cons (fun x hx => h3 s rfl x hx) h2, fun q' e x hx => ?_⟩
          · rcases List.mem_cons.1 hx with rfl | hx
            · exact hb
            · exact h1 x hx
          · cases e
            rcases List.mem_cons.1 hx with rfl | hx
            · exact hq
            · have := h3 s rfl x hx
              omega

/-- What Check asks of an automaton. -/
structure Right (A : Aut) : Prop where
  n1 : 1 ≤ A.n
  n3 : A.n ≤ 300
  m1 : 1 ≤ A.m
  m8 : A.m ≤ 8
  good : (A.good.length : Int) = A.n
  few : A.steps.length ≤ 6000
  first : ∀ x ∈ A.first, 0 ≤ x ∧ x < A.n
  steps : ∀ s ∈ A.steps, 0 ≤ s.f ∧ s.f < A.n ∧ 0 ≤ s.l ∧ s.l < A.m ∧ 0 ≤ s.t ∧ s.t < A.n
  sorted : A.steps.Pairwise (fun a b => a.f ≤ b.f)

theorem outB_false {n x : Int} (h : outB n x = false) : 0 ≤ x ∧ x < n := by
  simpa [outB] using h

theorem right_of {A : Aut} (h : chkA A = 0) : Right A := by
  unfold chkA at h
  by_cases h1 : A.n < 1 ∨ 300 < A.n ∨ A.m < 1 ∨ 8 < A.m
  · rw [if_pos h1] at h; omega
  rw [if_neg h1] at h
  by_cases h2 : (A.good.length : Int) ≠ A.n
  · rw [if_pos h2] at h; omega
  rw [if_neg h2] at h
  by_cases h3 : 6000 < A.steps.length
  · rw [if_pos h3] at h; omega
  rw [if_neg h3] at h
  by_cases h4 : chkFirst A.n A.first ≠ 0
  · rw [if_pos h4] at h; omega
  rw [if_neg h4] at h
  have h4' : chkFirst A.n A.first = 0 := by omega
  unfold chkFirst at h4'
  have h5 : A.first.any (outB A.n) = false := by
    cases hb : A.first.any (outB A.n) with
    | false => rfl
    | true => rw [hb] at h4'; simp at h4'
  obtain ⟨g1, g2, _⟩ := steps_right A.n A.m A.steps none h
  refine ⟨by omega, by omega, by omega, by omega, by omega, by omega, fun x hx => ?_, fun s hs => ?_, g2⟩
  · rw [List.any_eq_false] at h5
    exact outB_false (by simpa using h5 x hx)
  · have := g1 s hs
    unfold badS at this
    rw [Bool.or_eq_false_iff, Bool.or_eq_false_iff] at this
    have q1 := outB_false this.1.1
    have q2 := outB_false this.1.2
    have q3 := outB_false this.2
    omega

/-- A step of a run, at a word's place. -/
def EdgeA (A : Aut) (hs ls : List Int) (x y : Spot) : Prop :=
  y.1 = (if x.1 + 1 = hs.length + ls.length then hs.length else x.1 + 1) ∧ ∃ s ∈ A.steps, s.f = x.2 ∧ s.l = lat hs ls x.1 ∧ s.t = y.2

/-- An automaton takes a word: a good spot, come to from a first one, leads back to itself. -/
def TakesA (A : Aut) (hs ls : List Int) : Prop :=
  ∃ i, i < A.first.length ∧ ∃ z, Leads (EdgeA A hs ls) (0, (A.first.getD i 0).toNat) z ∧ A.good.getD z.2 false = true ∧ LeadsOn (EdgeA A hs ls) z z

def tkE (A : Aut) (hs ls : List Int) : Int := if chkA A ≠ 0 then chkA A else chk hs ls A.m

theorem lat_range {hs ls : List Int} {n : Int} (h : chk hs ls n = 0) (p : Nat) : 0 ≤ lat hs ls p ∧ lat hs ls p < n ∧ n ≤ 8 := by
  unfold chk at h
  by_cases h1 : n < 1 ∨ 8 < n
  · rw [if_pos h1] at h; omega
  rw [if_neg h1] at h
  by_cases h2 : 4000 < hs.length ∨ 4000 < ls.length
  · rw [if_pos h2] at h; omega
  rw [if_neg h2] at h
  by_cases h3 : ls.length = 0
  · rw [if_pos h3] at h; omega
  rw [if_neg h3] at h
  have h4 : (hs ++ ls).any (fun x => decide (x < 0) || decide (n ≤ x)) = false := by
    cases hb : (hs ++ ls).any (fun x => decide (x < 0) || decide (n ≤ x)) with
    | false => rfl
    | true => rw [hb] at h; simp at h
  rw [List.any_eq_false] at h4
  have key : ∀ x ∈ hs ++ ls, 0 ≤ x ∧ x < n ∧ n ≤ 8 := fun x hx => by
    have := h4 x hx
    simp at this
    omega
  unfold lat
  by_cases hp : p < hs.length
  · rw [if_pos hp]
    refine key _ (List.mem_append_left _ ?_)
    simp [List.getD, hp]
  · rw [if_neg hp]
    refine key _ (List.mem_append_right _ ?_)
    have : (p - hs.length) % ls.length < ls.length := Nat.mod_lt _ (by omega)
    simp [List.getD, this]

theorem chk_lens {hs ls : List Int} {n : Int} (h : chk hs ls n = 0) : hs.length ≤ 4000 ∧ ls.length ≤ 4000 ∧ ls ≠ [] := by
  unfold chk at h
  by_cases h1 : n < 1 ∨ 8 < n
  · rw [if_pos h1] at h; omega
  rw [if_neg h1] at h
  by_cases h2 : 4000 < hs.length ∨ 4000 < ls.length
  · rw [if_pos h2] at h; omega
  rw [if_neg h2] at h
  by_cases h3 : ls.length = 0
  · rw [if_pos h3] at h; omega
  refine ⟨by omega, by omega, fun e => h3 (by rw [e]; rfl)⟩

theorem edge_eq {A : Aut} {R : Rn} {D : Nat → Nat → Nat → Nat} {N : Nat} (hA : Right A) (hN : (N : Int) = A.n) (hD : SD A.steps N D) (hl : ∀ p, 0 ≤ lat R.hs R.ls p) : Edge R D = EdgeA A R.hs R.ls := by
  funext x y
  apply propext
  unfold Edge EdgeA nextOf
  rw [hD.2]
  have e : ((lat R.hs R.ls x.1).toNat : Int) = lat R.hs R.ls x.1 := Int.toNat_of_nonneg (hl _)
  constructor
  · rintro ⟨h1, s, hs, h2, h3, h4, h5⟩
    exact ⟨h1, s, hs, h2, by rw [h3, e], h4⟩
  · rintro ⟨h1, s, hs, h2, h3, h4⟩
    exact ⟨h1, s, hs, h2, by rw [h3, e], h4, by have := hA.steps s hs; omega⟩

theorem mono_getD {ss : List Stp} (h : ss.Pairwise (fun a b => a.f ≤ b.f)) (i j : Nat) (hij : i ≤ j) (hj : j < ss.length) : (ss.getD i stp0).f ≤ (ss.getD j stp0).f := by
  rw [stp_getD _ _ hj, stp_getD _ _ (by omega)]
  rcases Nat.lt_or_eq_of_le hij with hlt | rfl
  · exact List.pairwise_iff_getElem.1 h i j (by omega) hj hlt
  · omega

theorem two_alloc (w : World) (a b : Obj) : ((w.alloc a).alloc b).heap[w.heap.size]? = some a ∧ ((w.alloc a).alloc b).heap[w.heap.size + 1]? = some b := by
  refine ⟨?_, ?_⟩
  · rw [heap_alloc_old _ _ (by simp)]
    exact heap_alloc_new w a
  · have := heap_alloc_new (w.alloc a) b
    rwa [World.size_alloc] at this

set_option maxRecDepth 100000 in
set_option maxHeartbeats 1000000 in
theorem takes_any {w : World} {v hv lv : Value} {A : Aut} {hs ls : List Int} (hA : AutV w v A) (hh : IntSl w hv hs) (hl : IntSl w lv ls) (ht : Tab w) :
    Calls Tryd.prog 13 #[v, .agg #[hv, lv]] w fun e w' => ∃ b : Bool, e = .returned (.tuple #[.bool b, .int .i64 (tkE A hs ls)]) ∧ (b = true ↔ tkE A hs ls = 0 ∧ TakesA A hs ls) ∧ Below w.heap.size w w' := by
  have HA := hide (fun w1 (hb : Below w.heap.size w w1) => autoCheck_any (hA.below hb))
  have HC := hide (fun w1 (hb : Below w.heap.size w w1) => check_any A.m (hh.below hb) (hl.below hb))
  obtain ⟨fv, gv, sv, rfl, h1, h2, h3⟩ := hA
  have Hall := hide (And.intro h1 (And.intro h2 (And.intro h3 (And.intro hh (And.intro hl ht)))))
  obtain ⟨a1, c1, rfl, -⟩ := h1
  obtain ⟨a2, c2, rfl, -⟩ := h2
  obtain ⟨a3, c3, rfl, -⟩ := h3
  obtain ⟨a4, c4, rfl, -⟩ := hh
  obtain ⟨a5, c5, rfl, -⟩ := hl
  clear ht
  by_cases hc : chkA A = 0
  · by_cases hk : chk hs ls A.m = 0
    · have hR := right_of hc
      obtain ⟨N, hN⟩ := Int.eq_ofNat_of_zero_le (show 0 ≤ A.n from by have := hR.n1; omega)
      have et : tkE A hs ls = 0 := by unfold tkE; rw [if_neg (by omega), hk]
      rw [et]
      rw [hc] at HA
      rw [hk] at HC
      have HN := hide (fun w1 (hb : Below w.heap.size w w1) => newRun_any A.m a1 a2 a3 a4 a5 A.first.length A.good.length hs.length ls.length c1 c2 c3 c4 c5 N A.steps.length rfl (by have := hR.n3; omega) (Hall.out.2.2.1.below hb) hR.few (mono_getD hR.sorted) (fun x hx => by have := hR.steps x hx; have := hR.m8; omega))
      have HR := hide hR
      have HN0 := hide hN
      rw [hN] at HA ⊢
      have Hk := hide hk
      generalize hm : A.m = m at *
      clear hN hR et hc hk
      generalize A.first.length = L1 at *
      generalize A.good.length = L2 at *
      generalize A.steps.length = L3 at *
      go_enter Tryd.func13, Tryd.ntmps13
      go_wp2_with (fail)
      have hb0 : Below w.heap.size w ((w.alloc (Obj.cells #[Value.int .i64 (N : Nat), .int .i64 m, .slice a1 L1 c1, .slice a2 L2 c2, .slice a3 L3 c3] 26)).alloc (Obj.cells #[Value.slice a4 hs.length c4, .slice a5 ls.length c5] 28)) := (by repeat (first | exact Below.refl _ _ | assumption | refine below_drewN ?_ _ | refine Below.drew ?_ | refine Below.alloc ?_ (by simp <;> omega) _ | refine below_trans ?_ (by assumption)))
      refine (HA.out _ hb0).mono ?_
      rintro e w1 ⟨rfl, hb1⟩
      have q0 := two_alloc w (Obj.cells #[Value.int .i64 (N : Nat), .int .i64 m, .slice a1 L1 c1, .slice a2 L2 c2, .slice a3 L3 c3] 26) (Obj.cells #[Value.slice a4 hs.length c4, .slice a5 ls.length c5] 28)
      have hs0 : ((w.alloc (Obj.cells #[Value.int .i64 (N : Nat), .int .i64 m, .slice a1 L1 c1, .slice a2 L2 c2, .slice a3 L3 c3] 26)).alloc (Obj.cells #[Value.slice a4 hs.length c4, .slice a5 ls.length c5] 28)).heap.size = w.heap.size + 2 := by simp
      generalize ((w.alloc (Obj.cells #[Value.int .i64 (N : Nat), .int .i64 m, .slice a1 L1 c1, .slice a2 L2 c2, .slice a3 L3 c3] 26)).alloc (Obj.cells #[Value.slice a4 hs.length c4, .slice a5 ls.length c5] 28)) = W0 at hb0 hb1 q0 hs0 ⊢
      have z0 := (hb1.block _ (by omega)).trans q0.1
      have z1 := (hb1.block _ (by omega)).trans q0.2
      have hB1 := below_trans hb0 hb1
      have hs1 := hb1.size
      clear q0
      have p0 := cell_of_row w1 _ 0 _ _ _ z0
      have p1 := cell_of_row w1 _ 1 _ _ _ z0
      have p2 := cell_of_row w1 _ 2 _ _ _ z0
      have p3 := cell_of_row w1 _ 3 _ _ _ z0
      have p4 := cell_of_row w1 _ 4 _ _ _ z0
      have p5 := cell_of_row w1 _ 0 _ _ _ z1
      have p6 := cell_of_row w1 _ 1 _ _ _ z1
      go_wp2_with (fail)
      refine (HC.out _ hB1).mono ?_
      rintro e w2 ⟨rfl, hb2⟩
      have hB2 := below_trans hB1 hb2
      have hs2 := hb2.size
      have y0 := (hb2.block _ (by omega)).trans z0
      have y1 := (hb2.block _ (by omega)).trans z1
      clear p0 p1 p2 p3 p4 p5 p6
      have p0 := cell_of_row w2 _ 0 _ _ _ y0
      have p1 := cell_of_row w2 _ 1 _ _ _ y0
      have p2 := cell_of_row w2 _ 2 _ _ _ y0
      have p3 := cell_of_row w2 _ 3 _ _ _ y0
      have p4 := cell_of_row w2 _ 4 _ _ _ y0
      have p5 := cell_of_row w2 _ 0 _ _ _ y1
      have p6 := cell_of_row w2 _ 1 _ _ _ y1
      go_wp2_with (fail)
      refine (HN.out _ hB2).mono ?_
      rintro e w3 ⟨g, D, rfl, hb3, hD, hcell⟩
      have hB3 := below_trans hB2 hb3
      obtain ⟨i1, i2, i3, i4, i5, hT⟩ := Hall.out
      have hlr := fun p => lat_range Hk.out p
      have hlen := chk_lens Hk.out
      have hRn : RnOk w3 ⟨N, m, a1, L1, c1, a2, L2, c2, a3, L3, c3, a4, c4, a5, c5, g, N, hs, ls⟩ D :=
        ⟨i4.below hB3, i5.below hB3, hlen.1, hlen.2.1, hlen.2.2, by have := HR.out.n3; have := HN0.out; dsimp only; omega, fun p => ⟨(hlr p).1, by have := hlr p; dsimp only; omega⟩, hcell, hD.1, fun s l t ht => by
          obtain ⟨x, hx, _, _, h, _⟩ := (hD.2 s l t).1 ht
          have := HR.out.steps x hx
          have := HN0.out
          dsimp only
          omega⟩
      have hT2 := hide (runTakes_any (gs := A.good) (fs := A.first) ⟨N, m, a1, L1, c1, a2, L2, c2, a3, L3, c3, a4, c4, a5, c5, g, N, hs, ls⟩ D hRn (hT.below hB3) ⟨i2.below hB3, by have := HR.out.good; have := HN0.out; dsimp only; omega⟩ (i1.below hB3) (fun i hi => by
        have := HR.out.first (A.first.getD i 0) (by simp [List.getD, hi])
        have := HN0.out
        dsimp only
        omega))
      have hE := edge_eq HR.out HN0.out.symm hD (R := ⟨N, m, a1, L1, c1, a2, L2, c2, a3, L3, c3, a4, c4, a5, c5, g, N, hs, ls⟩) (fun p => (hlr p).1)
      have HE := hide hE
      clear hE hRn hcell hD hlr hlen i1 i2 i3 i4 i5 hT p0 p1 p2 p3 p4 p5 p6
      unfold rnV at hT2
      dsimp only at hT2
      go_wp2_with (fail)
      refine hT2.out.mono ?_
      rintro e w4 ⟨b, rfl, hb, hb4⟩
      have hB4 := below_trans hB3 hb4
      have Hb := hide hb
      clear hb hT2
      go_wp2_with (fail)
      refine bodyPost_ret (v := .tuple #[.bool b, .int .i64 0]) (by simp [results, Tryd.results13, go_sem]) rfl ?_
      refine ⟨b, rfl, ?_, hB4⟩
      rw [Hb.out]
      unfold RunTakes Found TakesA
      rw [HE.out]
      simp
    · have et : tkE A hs ls = chk hs ls A.m := by unfold tkE; rw [if_neg (by omega)]
      rw [et]
      rw [hc] at HA
      generalize chk hs ls A.m = c at *
      generalize hm : A.m = m at *
      generalize hn : A.n = n at *
      clear et hc
      generalize A.first.length = L1 at *
      generalize A.good.length = L2 at *
      generalize A.steps.length = L3 at *
      clear Hall
      go_enter Tryd.func13, Tryd.ntmps13
      go_wp2_with (fail)
      have hb0 : Below w.heap.size w ((w.alloc (Obj.cells #[Value.int .i64 n, .int .i64 m, .slice a1 L1 c1, .slice a2 L2 c2, .slice a3 L3 c3] 26)).alloc (Obj.cells #[Value.slice a4 hs.length c4, .slice a5 ls.length c5] 28)) := (by repeat (first | exact Below.refl _ _ | assumption | refine below_drewN ?_ _ | refine Below.drew ?_ | refine Below.alloc ?_ (by simp <;> omega) _ | refine below_trans ?_ (by assumption)))
      refine (HA.out _ hb0).mono ?_
      rintro e w1 ⟨rfl, hb1⟩
      have q0 := two_alloc w (Obj.cells #[Value.int .i64 n, .int .i64 m, .slice a1 L1 c1, .slice a2 L2 c2, .slice a3 L3 c3] 26) (Obj.cells #[Value.slice a4 hs.length c4, .slice a5 ls.length c5] 28)
      have hs0 : ((w.alloc (Obj.cells #[Value.int .i64 n, .int .i64 m, .slice a1 L1 c1, .slice a2 L2 c2, .slice a3 L3 c3] 26)).alloc (Obj.cells #[Value.slice a4 hs.length c4, .slice a5 ls.length c5] 28)).heap.size = w.heap.size + 2 := by simp
      generalize ((w.alloc (Obj.cells #[Value.int .i64 n, .int .i64 m, .slice a1 L1 c1, .slice a2 L2 c2, .slice a3 L3 c3] 26)).alloc (Obj.cells #[Value.slice a4 hs.length c4, .slice a5 ls.length c5] 28)) = W0 at hb0 hb1 q0 hs0 ⊢
      have z0 := (hb1.block _ (by omega)).trans q0.1
      have z1 := (hb1.block _ (by omega)).trans q0.2
      have hB1 := below_trans hb0 hb1
      have hs1 := hb1.size
      clear q0
      have p0 := cell_of_row w1 _ 0 _ _ _ z0
      have p1 := cell_of_row w1 _ 1 _ _ _ z0
      have p2 := cell_of_row w1 _ 2 _ _ _ z0
      have p3 := cell_of_row w1 _ 3 _ _ _ z0
      have p4 := cell_of_row w1 _ 4 _ _ _ z0
      have p5 := cell_of_row w1 _ 0 _ _ _ z1
      have p6 := cell_of_row w1 _ 1 _ _ _ z1
      go_wp2_with (fail)
      refine (HC.out _ hB1).mono ?_
      rintro e w2 ⟨rfl, hb2⟩
      have hB2 := below_trans hB1 hb2
      have hs2 := hb2.size
      go_wp2_with (fail)
      refine bodyPost_ret (v := .tuple #[.bool false, .int .i64 c]) (by simp [results, Tryd.results13, go_sem]) rfl ?_
      exact ⟨false, rfl, by simp [hk], hB2⟩
  · have et : tkE A hs ls = chkA A := by unfold tkE; rw [if_pos hc]
    rw [et]
    generalize chkA A = c at *
    generalize hm : A.m = m at *
    generalize hn : A.n = n at *
    clear et Hall HC
    generalize A.first.length = L1 at *
    generalize A.good.length = L2 at *
    generalize A.steps.length = L3 at *
    go_enter Tryd.func13, Tryd.ntmps13
    go_wp2_with (fail)
    have hb0 : Below w.heap.size w ((w.alloc (Obj.cells #[Value.int .i64 n, .int .i64 m, .slice a1 L1 c1, .slice a2 L2 c2, .slice a3 L3 c3] 26)).alloc (Obj.cells #[Value.slice a4 hs.length c4, .slice a5 ls.length c5] 28)) := (by repeat (first | exact Below.refl _ _ | assumption | refine below_drewN ?_ _ | refine Below.drew ?_ | refine Below.alloc ?_ (by simp <;> omega) _ | refine below_trans ?_ (by assumption)))
    refine (HA.out _ hb0).mono ?_
    rintro e w1 ⟨rfl, hb1⟩
    have q0 := two_alloc w (Obj.cells #[Value.int .i64 n, .int .i64 m, .slice a1 L1 c1, .slice a2 L2 c2, .slice a3 L3 c3] 26) (Obj.cells #[Value.slice a4 hs.length c4, .slice a5 ls.length c5] 28)
    have hs0 : ((w.alloc (Obj.cells #[Value.int .i64 n, .int .i64 m, .slice a1 L1 c1, .slice a2 L2 c2, .slice a3 L3 c3] 26)).alloc (Obj.cells #[Value.slice a4 hs.length c4, .slice a5 ls.length c5] 28)).heap.size = w.heap.size + 2 := by simp
    generalize ((w.alloc (Obj.cells #[Value.int .i64 n, .int .i64 m, .slice a1 L1 c1, .slice a2 L2 c2, .slice a3 L3 c3] 26)).alloc (Obj.cells #[Value.slice a4 hs.length c4, .slice a5 ls.length c5] 28)) = W0 at hb0 hb1 q0 hs0 ⊢
    have z0 := (hb1.block _ (by omega)).trans q0.1
    have z1 := (hb1.block _ (by omega)).trans q0.2
    have hB1 := below_trans hb0 hb1
    have hs1 := hb1.size
    clear q0
    have p0 := cell_of_row w1 _ 0 _ _ _ z0
    have p1 := cell_of_row w1 _ 1 _ _ _ z0
    have p2 := cell_of_row w1 _ 2 _ _ _ z0
    have p3 := cell_of_row w1 _ 3 _ _ _ z0
    have p4 := cell_of_row w1 _ 4 _ _ _ z0
    have p5 := cell_of_row w1 _ 0 _ _ _ z1
    have p6 := cell_of_row w1 _ 1 _ _ _ z1
    go_wp2_with (fail)
    refine bodyPost_ret (v := .tuple #[.bool false, .int .i64 c]) (by simp [results, Tryd.results13, go_sem]) rfl ?_
    exact ⟨false, rfl, by simp [hc], hB1⟩
end Go.Proofs.YtpiacnnifdjlkabDoor

/-
  What must be in any case: the statements' own automaton of one state, its own word, and what begun tells of package word.
-/
namespace Go.Proofs.YtpiacnnifdjlkabDoor
open Go.RowKit Go.Sort

def oneA : Aut := ⟨1, 2, [0], [true], [⟨0, 0, 0⟩]⟩

theorem boolSl_one (w : World) (g : Nat) (x : Bool) (h : w.cell? ⟨g, 0, none⟩ = some (.bool x)) : BoolSl w (.slice (some ⟨g, 0, none⟩) 1 1) [x] :=
  ⟨_, _, rfl, by simp [maxLen], Or.inr ⟨g, 0, rfl, fun i hi => by
    have : i = 0 := by simpa using hi
    subst this
    exact h⟩, fun e => (by cases e), by simp⟩

theorem stepSl_one (w : World) (g : Nat) (x : Stp) (h0 : w.cell? ⟨g, 0, none⟩ = some (.int .i64 x.f)) (h1 : w.cell? ⟨g, 1, none⟩ = some (.int .i64 x.l)) (h2 : w.cell? ⟨g, 2, none⟩ = some (.int .i64 x.t)) : StepSl w (.slice (some ⟨g, 0, none⟩) 1 1) [x] :=
  ⟨_, _, rfl, by simp [maxLen], Or.inr ⟨g, 0, rfl, fun i hi => by
    have : i = 0 := by simpa using hi
    subst this
    exact ⟨h0, h1, h2⟩⟩, fun e => (by cases e), by simp⟩

theorem intSl_nil (w : World) : IntSl w (.slice none 0 0) [] := ⟨none, 0, rfl, by simp [maxLen], Or.inl rfl, fun _ => rfl, by simp⟩

theorem four_alloc (w : World) (a b c d : Obj) : ((((w.alloc a).alloc b).alloc c).alloc d).heap[w.heap.size]? = some a ∧ ((((w.alloc a).alloc b).alloc c).alloc d).heap[w.heap.size + 1]? = some b ∧ ((((w.alloc a).alloc b).alloc c).alloc d).heap[w.heap.size + 1 + 1]? = some c ∧
    ((((w.alloc a).alloc b).alloc c).alloc d).heap[w.heap.size + 1 + 1 + 1]? = some d := by
  obtain ⟨h1, h2, h3⟩ := three_alloc w a b c
  refine ⟨?_, ?_, ?_, ?_⟩
  · rw [heap_alloc_old _ _ (by simp; omega)]; exact h1
  · rw [heap_alloc_old _ _ (by simp)]; exact h2
  · rw [heap_alloc_old _ _ (by simp)]; exact h3
  · have := heap_alloc_new (((w.alloc a).alloc b).alloc c) d
    rwa [World.size_alloc, World.size_alloc, World.size_alloc] at this

set_option maxHeartbeats 400000 in
theorem zero_any (w : World) :
    Calls Tryd.prog 26 #[] w fun e w' => ∃ g, e = .returned (.agg #[.slice none 0 0, .slice (some ⟨g, 0, none⟩) 1 1]) ∧ w'.cell? ⟨g, 0, none⟩ = some (.int .i64 0) ∧ Below w.heap.size w w' := by
  go_enter Tryd.func26, Tryd.ntmps26
  go_wp2
  have q := two_alloc w (Obj.cells #[Value.slice none 0 0, .slice (some ⟨w.heap.size + 1, 0, none⟩) 1 1] 28) (Obj.cells #[Value.int .i64 0] 3)
  have c0 := cell_of_row _ _ 0 _ _ _ q.1
  have c1 := cell_of_row _ _ 1 _ _ _ q.1
  have c2 := cell_of_row _ _ 0 _ _ _ q.2
  refine bodyPost_ret (v := .agg #[.slice none 0 0, .slice (some ⟨w.heap.size + 1, 0, none⟩) 1 1]) (by simp [results, Tryd.results26, go_sem, c0, c1]) rfl ⟨_, rfl, c2, (by repeat (first | exact Below.refl _ _ | assumption | refine below_drewN ?_ _ | refine Below.drew ?_ | refine Below.alloc ?_ (by simp <;> omega) _ | refine below_trans ?_ (by assumption)))⟩

set_option maxHeartbeats 400000 in
theorem one_any (w : World) :
    Calls Tryd.prog 24 #[] w fun e w' => ∃ g1 g2 g3, e = .returned (.agg #[.int .i64 1, .int .i64 2, .slice (some ⟨g1, 0, none⟩) 1 1, .slice (some ⟨g2, 0, none⟩) 1 1, .slice (some ⟨g3, 0, none⟩) 1 1]) ∧ w'.cell? ⟨g1, 0, none⟩ = some (.int .i64 0) ∧ w'.cell? ⟨g2, 0, none⟩ = some (.bool true) ∧ w'.cell? ⟨g3, 0, none⟩ = some (.int .i64 0) ∧ w'.cell? ⟨g3, 1, none⟩ = some (.int .i64 0) ∧ w'.cell? ⟨g3, 2, none⟩ = some (.int .i64 0) ∧ Below w.heap.size w w' := by
  go_enter Tryd.func24, Tryd.ntmps24
  go_wp2
  have q := four_alloc w (Obj.cells #[Value.int .i64 1, .int .i64 2, .slice (some ⟨w.heap.size + 1, 0, none⟩) 1 1, .slice (some ⟨w.heap.size + 1 + 1, 0, none⟩) 1 1, .slice (some ⟨w.heap.size + 1 + 1 + 1, 0, none⟩) 1 1] 26) (Obj.cells #[Value.int .i64 0] 3) (Obj.cells #[Value.bool true] 4) (Obj.cells #[Value.int .i64 0, .int .i64 0, .int .i64 0] 49)
  have c0 := cell_of_row _ _ 0 _ _ _ q.1
  have c1 := cell_of_row _ _ 1 _ _ _ q.1
  have c2 := cell_of_row _ _ 2 _ _ _ q.1
  have c3 := cell_of_row _ _ 3 _ _ _ q.1
  have c4 := cell_of_row _ _ 4 _ _ _ q.1
  refine bodyPost_ret (v := .agg #[.int .i64 1, .int .i64 2, .slice (some ⟨w.heap.size + 1, 0, none⟩) 1 1, .slice (some ⟨w.heap.size + 1 + 1, 0, none⟩) 1 1, .slice (some ⟨w.heap.size + 1 + 1 + 1, 0, none⟩) 1 1]) (by simp [results, Tryd.results24, go_sem, c0, c1, c2, c3, c4]) rfl ⟨_, _, _, rfl, cell_of_row _ _ 0 _ _ _ q.2.1, cell_of_row _ _ 0 _ _ _ q.2.2.1, cell_of_row _ _ 0 _ _ _ q.2.2.2, cell_of_row _ _ 1 _ _ _ q.2.2.2, cell_of_row _ _ 2 _ _ _ q.2.2.2, (by repeat (first | exact Below.refl _ _ | assumption | refine below_drewN ?_ _ | refine Below.drew ?_ | refine Below.alloc ?_ (by simp <;> omega) _ | refine below_trans ?_ (by assumption)))⟩

theorem takes_one : TakesA oneA [] [0] := by
  refine ⟨0, by decide, (0, 0), ⟨0, rfl⟩, rfl, ⟨0, (0, 0), ⟨rfl, ⟨0, 0, 0⟩, by simp [oneA], rfl, rfl, rfl⟩, rfl⟩⟩

theorem not_takes_one : ¬ TakesA oneA [1] [0] := by
  have no : ∀ z, ¬ EdgeA oneA [1] [0] (0, 0) z := by
    rintro z ⟨_, s, hs, _, h, _⟩
    have : s = ⟨0, 0, 0⟩ := by simpa [oneA] using hs
    subst this
    exact absurd h (by decide)
  have stay : ∀ z, Leads (EdgeA oneA [1] [0]) (0, 0) z → z = (0, 0) := by
    rintro z ⟨n, h⟩
    cases n with
    | zero => exact h.symm
    | succ n => obtain ⟨y, hy, _⟩ := h; exact absurd hy (no y)
  rintro ⟨i, hi, z, h1, _, n, h2⟩
  have hi0 : i = 0 := by simpa [oneA] using hi
  subst hi0
  have := stay z h1
  subst this
  obtain ⟨y, hy, _⟩ := h2
  exact no y hy

theorem leastBegun {p k : Nat} (hp : LeastPer [0, 0] p) (hk : LeastHead [0] [0, 0] p k) : pieceOf [0] [0, 0] 0 k = [] ∧ pieceOf [0] [0, 0] k p = [0] := by
  have p1 : p = 1 := by
    have h1 := hp.1.1
    have h2 := hp.2 1 ⟨by decide, by decide, by decide, by decide⟩
    omega
  subst p1
  obtain ⟨h1, _, h3⟩ := hk
  have k0 : k = 0 := by
    rcases h3 with h | h
    · exact h
    · have hk2 : k = 0 ∨ k = 1 := by simp at h1; omega
      rcases hk2 with rfl | rfl
      · rfl
      · exact absurd (by decide) h
  subst k0
  exact ⟨by decide, by decide⟩

theorem intSl_two (w : World) (g : Nat) (x y : Int) (h0 : w.cell? ⟨g, 0, none⟩ = some (.int .i64 x)) (h1 : w.cell? ⟨g, 1, none⟩ = some (.int .i64 y)) : IntSl w (.slice (some ⟨g, 0, none⟩) 2 2) [x, y] :=
  ⟨_, _, rfl, by simp [maxLen], Or.inr ⟨g, 0, rfl, fun i hi => by
    have : i = 0 ∨ i = 1 := by simp at hi; omega
    rcases this with rfl | rfl
    · exact h0
    · exact h1⟩, fun e => (by cases e), by simp⟩

theorem autV_one {w : World} {g1 g2 g3 : Nat} (h1 : w.cell? ⟨g1, 0, none⟩ = some (.int .i64 0)) (h2 : w.cell? ⟨g2, 0, none⟩ = some (.bool true)) (h3 : w.cell? ⟨g3, 0, none⟩ = some (.int .i64 0)) (h4 : w.cell? ⟨g3, 1, none⟩ = some (.int .i64 0)) (h5 : w.cell? ⟨g3, 2, none⟩ = some (.int .i64 0)) :
    AutV w (.agg #[.int .i64 1, .int .i64 2, .slice (some ⟨g1, 0, none⟩) 1 1, .slice (some ⟨g2, 0, none⟩) 1 1, .slice (some ⟨g3, 0, none⟩) 1 1]) oneA :=
  ⟨_, _, _, rfl, intSl_one w g1 0 h1, boolSl_one w g2 true h2, stepSl_one w g3 ⟨0, 0, 0⟩ h3 h4 h5⟩

/-- Least, at the word with which it begins. -/
theorem leastB {w : World} {g0 g1 : Nat} (h0 : w.cell? ⟨g0, 0, none⟩ = some (.int .i64 0)) (h1 : w.cell? ⟨g1, 0, none⟩ = some (.int .i64 0)) (h2 : w.cell? ⟨g1, 1, none⟩ = some (.int .i64 0)) :
    Calls Tryd.prog 27 #[.agg #[.slice (some ⟨g0, 0, none⟩) 1 1, .slice (some ⟨g1, 0, none⟩) 2 2], .int .i64 2] w fun e w' => ∃ a1 c1 a2 c2, e = .returned (.tuple #[.agg #[.slice a1 0 c1, .slice a2 1 c2], .int .i64 0]) ∧ IntSl w' (.slice a1 0 c1) [] ∧ IntSl w' (.slice a2 1 c2) [0] ∧ Below w.heap.size w w' := by
  refine (least_good (intSl_one w g0 0 h0) (intSl_two w g1 0 0 h1 h2) 2 (by decide)).mono ?_
  rintro e w' ⟨v1, v2, p, k, rfl, hp, hk, i1, i2, hb⟩
  obtain ⟨e1, e2⟩ := leastBegun hp hk
  rw [e1] at i1
  rw [e2] at i2
  obtain ⟨a1, c1, f1⟩ := i1.form rfl
  obtain ⟨a2, c2, f2⟩ := i2.form rfl
  subst f1 f2
  exact ⟨a1, c1, a2, c2, rfl, i1, i2, hb⟩

theorem atB {w : World} {g0 g1 : Nat} (h0 : w.cell? ⟨g0, 0, none⟩ = some (.int .i64 1)) (h1 : w.cell? ⟨g1, 0, none⟩ = some (.int .i64 0)) :
    Calls Tryd.prog 28 #[.agg #[.slice (some ⟨g0, 0, none⟩) 1 1, .slice (some ⟨g1, 0, none⟩) 1 1], .int .i64 2, .int .i64 0] w fun e w' => e = .returned (.tuple #[.int .i64 1, .int .i64 0]) ∧ Below w.heap.size w w' :=
  at_good (intSl_one w g0 1 h0) (intSl_one w g1 0 h1) (by simp) 2 0 (by decide) (by omega) (by omega)

theorem takesB {w : World} {g1 g2 g3 g : Nat} (ht : Tab w) (h1 : w.cell? ⟨g1, 0, none⟩ = some (.int .i64 0)) (h2 : w.cell? ⟨g2, 0, none⟩ = some (.bool true)) (h3 : w.cell? ⟨g3, 0, none⟩ = some (.int .i64 0)) (h4 : w.cell? ⟨g3, 1, none⟩ = some (.int .i64 0)) (h5 : w.cell? ⟨g3, 2, none⟩ = some (.int .i64 0)) (h : w.cell? ⟨g, 0, none⟩ = some (.int .i64 0)) :
    Calls Tryd.prog 13 #[.agg #[.int .i64 1, .int .i64 2, .slice (some ⟨g1, 0, none⟩) 1 1, .slice (some ⟨g2, 0, none⟩) 1 1, .slice (some ⟨g3, 0, none⟩) 1 1], .agg #[.slice none 0 0, .slice (some ⟨g, 0, none⟩) 1 1]] w fun e w' => e = .returned (.tuple #[.bool true, .int .i64 0]) ∧ Below w.heap.size w w' := by
  refine (takes_any (autV_one h1 h2 h3 h4 h5) (intSl_nil w) (intSl_one w g 0 h) ht).mono ?_
  rintro e w' ⟨b, rfl, hb, hw⟩
  have e0 : tkE oneA [] [0] = 0 := by decide
  have : b = true := hb.2 ⟨e0, takes_one⟩
  subst this
  rw [e0]
  exact ⟨rfl, hw⟩

theorem takesN {w : World} {g1 g2 g3 g g' : Nat} (ht : Tab w) (h1 : w.cell? ⟨g1, 0, none⟩ = some (.int .i64 0)) (h2 : w.cell? ⟨g2, 0, none⟩ = some (.bool true)) (h3 : w.cell? ⟨g3, 0, none⟩ = some (.int .i64 0)) (h4 : w.cell? ⟨g3, 1, none⟩ = some (.int .i64 0)) (h5 : w.cell? ⟨g3, 2, none⟩ = some (.int .i64 0)) (h : w.cell? ⟨g, 0, none⟩ = some (.int .i64 1)) (h' : w.cell? ⟨g', 0, none⟩ = some (.int .i64 0)) :
    Calls Tryd.prog 13 #[.agg #[.int .i64 1, .int .i64 2, .slice (some ⟨g1, 0, none⟩) 1 1, .slice (some ⟨g2, 0, none⟩) 1 1, .slice (some ⟨g3, 0, none⟩) 1 1], .agg #[.slice (some ⟨g, 0, none⟩) 1 1, .slice (some ⟨g', 0, none⟩) 1 1]] w fun e w' => e = .returned (.tuple #[.bool false, .int .i64 0]) ∧ Below w.heap.size w w' := by
  refine (takes_any (autV_one h1 h2 h3 h4 h5) (intSl_one w g 1 h) (intSl_one w g' 0 h') ht).mono ?_
  rintro e w' ⟨b, rfl, hb, hw⟩
  have e0 : tkE oneA [1] [0] = 0 := by decide
  have : b = false := by
    cases b with
    | false => rfl
    | true => exact absurd (hb.1 rfl).2 not_takes_one
  subst this
  rw [e0]
  exact ⟨rfl, hw⟩
end Go.Proofs.YtpiacnnifdjlkabDoor

namespace Go.Proofs.YtpiacnnifdjlkabDoor
open Go.RowKit Go.Sort

section
variable {P : Program} {Q : Exit → Act → World → Prop}

/-- All orders in which operations may come up. -/
def ordersOf (md : Region.Mode) (ops : Array Oper) : Nat → Array Bool → List (List Nat)
  | 0, _ => [[]]
  | f + 1, listed => match Region.ready md ops listed with
    | [] => [[]]
    | r => r.flatMap fun i => (ordersOf md ops f (listed.setIfInBounds i true)).map (i :: ·)

theorem lin_mem (md : Region.Mode) (ops : Array Oper) : ∀ (fuel t : Nat) (listed : Array Bool), Region.linearise.go md ops fuel t listed [] ∈ ordersOf md ops fuel listed := by
  intro fuel
  induction fuel with
  | zero => intro t listed; simp [Region.linearise.go, ordersOf]
  | succ fuel ih =>
    intro t listed
    simp only [Region.linearise.go]
    change (match (Region.ready md ops listed)[t % (Region.ready md ops listed).length]? with
      | some i => Region.linearise.go md ops fuel (t / (Region.ready md ops listed).length) (listed.setIfInBounds i true) [i]
      | none => [].reverse) ∈ _
    unfold ordersOf
    cases hi : (Region.ready md ops listed)[t % (Region.ready md ops listed).length]? with
    | none =>
      have hnil : Region.ready md ops listed = [] := by
        cases hr : Region.ready md ops listed with
        | nil => rfl
        | cons x xs =>
          rw [hr] at hi
          have hlt : t % (x :: xs).length < (x :: xs).length := Nat.mod_lt _ (by simp)
          simp at hi
          simp at hlt
          omega
      rw [hnil]
      simp
    | some i =>
      have hm := List.mem_of_getElem? hi
      simp only []
      rw [linearise_go_acc, List.reverse_singleton, List.singleton_append]
      cases hr : Region.ready md ops listed with
      | nil => rw [hr] at hm; cases hm
      | cons x xs =>
        rw [hr] at hm
        simp only []
        exact List.mem_flatMap.2 ⟨i, hm, List.mem_map.2 ⟨_, ih _ _, rfl⟩⟩

theorem wpOps_list (ops : Array Oper) : ∀ (l : List Nat), wpOps P ops Q l = wpList P ops Q (l.filterMap (ops[·]?))
  | [] => by funext a w; simp [wpOps, wpList]
  | i :: l => by
    funext a w
    cases h : ops[i]? with
    | none => simp only [wpOps, h, wpOps_list ops l, List.filterMap_cons]
    | some o => simp only [wpOps, h, wpOps_list ops l, List.filterMap_cons, wpList]

theorem wp_region_orders {id : Nat} {a : Act} {w : World} {ops : List Oper} (L : List (List Nat)) (hm : P.follows .mixedOrders = true) (hL : ordersOf .any ops.toArray ops.length (Array.replicate ops.length false) = L)
    (h : ∀ o ∈ L, wpList P ops.toArray Q (o.filterMap (ops[·]?)) a w.drew) : (Code.region id ops.toArray true).wp P Q a w := by
  refine wp_region_draw fun t => ?_
  have hsch : Region.schedule (P.follows .mixedOrders) ops.toArray t = Region.linearise.go .any ops.toArray ops.length t (Array.replicate ops.length false) [] := by
    simp only [Region.schedule, hm, Bool.true_or, if_true]
    rfl
  rw [hsch, wpOps_list]
  have := h _ (hL ▸ lin_mem .any ops.toArray ops.length t _)
  simpa using this
end

theorem sameB {w : World} {a1 a2 : Option Addr} {c1 c2 g : Nat} (h1 : IntSl w (.slice a1 0 c1) []) (h2 : IntSl w (.slice a2 1 c2) [0]) (h : w.cell? ⟨g, 0, none⟩ = some (.int .i64 0)) :
    Calls Tryd.prog 30 #[.agg #[.slice a1 0 c1, .slice a2 1 c2], .agg #[.slice none 0 0, .slice (some ⟨g, 0, none⟩) 1 1]] w fun e w' => e = .returned (.bool true) ∧ Below w.heap.size w w' :=
  sameLasso_any h1 h2 (intSl_nil w) (intSl_one w g 0 h)

theorem checkZ {w : World} {g : Nat} (h : w.cell? ⟨g, 0, none⟩ = some (.int .i64 0)) :
    Calls Tryd.prog 29 #[.agg #[.slice none 0 0, .slice (some ⟨g, 0, none⟩) 1 1], .int .i64 1] w fun e w' => e = .returned (.int .i64 0) ∧ Below w.heap.size w w' :=
  check_any 1 (intSl_nil w) (intSl_one w g 0 h)

set_option maxRecDepth 100000 in
set_option maxHeartbeats 1000000 in
theorem wordBegun_any {w : World} (ht : Tab w) :
    Calls Tryd.prog 12 #[] w fun e w' => e = .returned (.bool true) ∧ Below w.heap.size w w' := by
  have Ht := hide ht
  clear ht
  go_enter Tryd.func12, Tryd.ntmps12
  go_wp2_with (fail)
  have q := two_alloc w (Obj.cells #[Value.int .i64 0] 3) (Obj.cells #[Value.int .i64 0, .int .i64 0] 3)
  refine (leastB (cell_of_row _ _ 0 _ _ _ q.1) (cell_of_row _ _ 0 _ _ _ q.2) (cell_of_row _ _ 1 _ _ _ q.2)).mono ?_
  rintro e w1 ⟨a1, c1, a2, c2, rfl, i1, i2, hb⟩
  have hb1 : Below w.heap.size w w1 := below_trans (by repeat (first | exact Below.refl _ _ | assumption | refine below_drewN ?_ _ | refine Below.drew ?_ | refine Below.alloc ?_ (by simp <;> omega) _ | refine below_trans ?_ (by assumption))) hb
  have I1 := hide i1
  have I2 := hide i2
  clear q i1 i2 hb
  go_wp2_with (fail)
  have q := three_alloc w1 (Obj.cells #[Value.slice a1 0 c1, .slice a2 1 c2] 28) (Obj.cells #[Value.int .i64 1] 3) (Obj.cells #[Value.int .i64 0] 3)
  refine (atB (cell_of_row _ _ 0 _ _ _ q.2.1) (cell_of_row _ _ 0 _ _ _ q.2.2)).mono ?_
  rintro e w2 ⟨rfl, hb⟩
  have hb2 : Below w1.heap.size w1 w2 := below_trans (by repeat (first | exact Below.refl _ _ | assumption | refine below_drewN ?_ _ | refine Below.drew ?_ | refine Below.alloc ?_ (by simp <;> omega) _ | refine below_trans ?_ (by assumption))) hb
  have b0 := (hb.block w1.heap.size (by simp; omega)).trans q.1
  clear q hb
  go_wp2_with (fail)
  refine (one_any _).mono ?_
  rintro e w3 ⟨g1, g2, g3, rfl, j1, j2, j3, j4, j5, hb3⟩
  go_wp2_with (fail)
  refine (zero_any _).mono ?_
  rintro e w4 ⟨g4, rfl, j6, hb4⟩
  have hB4 : Below w.heap.size w w4 := below_trans (below_trans (below_trans hb1 hb2) hb3) hb4
  go_wp2_with (fail)
  refine (takesB (Ht.out.below hB4) ((hb4.cell (World.block_lt_of_cell? _ _ j1)).trans j1) ((hb4.cell (World.block_lt_of_cell? _ _ j2)).trans j2) ((hb4.cell (World.block_lt_of_cell? _ _ j3)).trans j3) ((hb4.cell (World.block_lt_of_cell? _ _ j4)).trans j4) ((hb4.cell (World.block_lt_of_cell? _ _ j5)).trans j5) j6).mono ?_
  rintro e w5 ⟨rfl, hb5⟩
  clear j1 j2 j3 j4 j5 j6
  go_wp2_with (fail)
  refine (one_any _).mono ?_
  rintro e w6 ⟨g1', g2', g3', rfl, j1, j2, j3, j4, j5, hb6⟩
  have hB6 : Below w.heap.size w w6 := below_trans (below_trans hB4 hb5) hb6
  go_wp2_with (fail)
  have q := two_alloc w6 (Obj.cells #[Value.int .i64 1] 3) (Obj.cells #[Value.int .i64 0] 3)
  have hn : Below w6.heap.size w6 ((w6.alloc (Obj.cells #[Value.int .i64 1] 3)).alloc (Obj.cells #[Value.int .i64 0] 3)) := (by repeat (first | exact Below.refl _ _ | assumption | refine below_drewN ?_ _ | refine Below.drew ?_ | refine Below.alloc ?_ (by simp <;> omega) _ | refine below_trans ?_ (by assumption)))
  refine (takesN ((Ht.out.below hB6).below hn) ((hn.cell (World.block_lt_of_cell? _ _ j1)).trans j1) ((hn.cell (World.block_lt_of_cell? _ _ j2)).trans j2) ((hn.cell (World.block_lt_of_cell? _ _ j3)).trans j3) ((hn.cell (World.block_lt_of_cell? _ _ j4)).trans j4) ((hn.cell (World.block_lt_of_cell? _ _ j5)).trans j5) (cell_of_row _ _ 0 _ _ _ q.1) (cell_of_row _ _ 0 _ _ _ q.2)).mono ?_
  rintro e w7 ⟨rfl, hb⟩
  have hb7 : Below w6.heap.size w6 w7 := below_trans hn hb
  clear j1 j2 j3 j4 j5 q hn hb
  have hl1 : w1.heap.size < w2.heap.size := (Array.getElem?_eq_some_iff.1 b0).1
  have hb27 : Below w2.heap.size w2 w7 := below_trans (below_trans (below_trans (below_trans hb3 hb4) hb5) hb6) hb7
  have b7 := (hb27.block w1.heap.size hl1).trans b0
  have hB7 : Below w.heap.size w w7 := below_trans hB6 hb7
  have hl7 := (Array.getElem?_eq_some_iff.1 b7).1
  have i1 := (I1.out.below hb2).below hb27
  have i2 := (I2.out.below hb2).below hb27
  have II1 := hide i1
  have II2 := hide i2
  clear hb27 hb7 hb6 hb5 hb4 hb3 b0 hl1 hB6 hB4 i1 i2 I1 I2 hb1 hb2 Ht
  go_wp2_with (fail)
  have k0 : w7.cell? ⟨w1.heap.size, 0, none⟩ = some (.slice a1 0 c1) := cell_of_row _ _ 0 _ _ _ b7
  have k1 : w7.cell? ⟨w1.heap.size, 1, none⟩ = some (.slice a2 1 c2) := cell_of_row _ _ 1 _ _ _ b7
  clear b7
  refine wp_region_orders [[0, 1, 2, 3, 4, 5, 6, 7, 8, 9, 10, 11, 12, 13, 14, 15, 16, 17, 18, 19, 20, 21, 22, 23, 24, 25, 26, 27, 28, 29, 30, 31, 32, 33, 34, 35], [0, 1, 2, 3, 4, 5, 6, 7, 8, 9, 10, 11, 12, 13, 14, 15, 16, 17, 18, 19, 21, 20, 22, 23, 24, 25, 26, 27, 28, 29, 30, 31, 32, 33, 34, 35]] (by kernel_rfl) (by kernel_rfl) ?_
  simp only [List.forall_mem_cons, List.filterMap_cons, List.filterMap_nil, List.getElem?_cons_succ, List.getElem?_cons_zero, List.not_mem_nil, false_implies, implies_true, and_true]
  refine ⟨?_, ?_⟩
  · go_wp2_with (fail)
    refine (zero_any _).mono ?_
    rintro e wz ⟨gz, rfl, zz, hbz⟩
    have Z0 : Below w7.heap.size w7 wz := below_trans (Below.drew (Below.refl _ _)) hbz
    clear hbz
    go_wp2_with (fail)
    refine (checkZ zz).mono ?_
    rintro e wc ⟨rfl, hbc⟩
    have Z1 := below_trans Z0 hbc
    have k2 : wc.cell? ⟨w1.heap.size, 0, none⟩ = some (.slice a1 0 c1) := (Z1.cell (World.block_lt_of_cell? w7 _ k0)).trans k0
    have k3 : wc.cell? ⟨w1.heap.size, 1, none⟩ = some (.slice a2 1 c2) := (Z1.cell (World.block_lt_of_cell? w7 _ k1)).trans k1
    clear hbc zz
    go_wp2_with (fail)
    refine (zero_any _).mono ?_
    rintro e wy ⟨gy, rfl, zy, hby⟩
    have Z2 := below_trans Z1 hby
    have k4 : wy.cell? ⟨w1.heap.size, 0, none⟩ = some (.slice a1 0 c1) := (Z2.cell (World.block_lt_of_cell? w7 _ k0)).trans k0
    have k5 : wy.cell? ⟨w1.heap.size, 1, none⟩ = some (.slice a2 1 c2) := (Z2.cell (World.block_lt_of_cell? w7 _ k1)).trans k1
    clear hby k2 k3
    go_wp2_with (fail)
    refine (sameB (II1.out.below Z2) (II2.out.below Z2) zy).mono ?_
    rintro e wx ⟨rfl, hbx⟩
    have Z3 := below_trans Z2 hbx
    clear k4 k5 zy hbx k0 k1
    go_wp2
    go_ret
    exact ⟨rfl, below_trans hB7 Z3⟩
  · go_wp2_with (fail)
    refine (zero_any _).mono ?_
    rintro e wz ⟨gz, rfl, zz, hbz⟩
    have Z0 : Below w7.heap.size w7 wz := below_trans (Below.drew (Below.refl _ _)) hbz
    clear hbz
    go_wp2_with (fail)
    refine (checkZ zz).mono ?_
    rintro e wc ⟨rfl, hbc⟩
    have Z1 := below_trans Z0 hbc
    have k2 : wc.cell? ⟨w1.heap.size, 0, none⟩ = some (.slice a1 0 c1) := (Z1.cell (World.block_lt_of_cell? w7 _ k0)).trans k0
    have k3 : wc.cell? ⟨w1.heap.size, 1, none⟩ = some (.slice a2 1 c2) := (Z1.cell (World.block_lt_of_cell? w7 _ k1)).trans k1
    clear hbc zz
    go_wp2_with (fail)
    refine (zero_any _).mono ?_
    rintro e wy ⟨gy, rfl, zy, hby⟩
    have Z2 := below_trans Z1 hby
    have k4 : wy.cell? ⟨w1.heap.size, 0, none⟩ = some (.slice a1 0 c1) := (Z2.cell (World.block_lt_of_cell? w7 _ k0)).trans k0
    have k5 : wy.cell? ⟨w1.heap.size, 1, none⟩ = some (.slice a2 1 c2) := (Z2.cell (World.block_lt_of_cell? w7 _ k1)).trans k1
    clear hby k2 k3
    go_wp2_with (fail)
    refine (sameB (II1.out.below Z2) (II2.out.below Z2) zy).mono ?_
    rintro e wx ⟨rfl, hbx⟩
    have Z3 := below_trans Z2 hbx
    clear k4 k5 zy hbx k0 k1
    go_wp2
    go_ret
    exact ⟨rfl, below_trans hB7 Z3⟩
end Go.Proofs.YtpiacnnifdjlkabDoor
