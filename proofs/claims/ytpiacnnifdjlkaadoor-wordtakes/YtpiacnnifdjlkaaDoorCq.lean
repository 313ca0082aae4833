/-
  What an automaton among the arguments reads as.
-/
import Derived.Test.YtpiacnnifdjlkaaDoorCp
import Derived.Deep.Grids
import Derived.Deep.Strs
namespace Go.Proofs.YtpiacnnifdjlkaaDoor
open Go.ChangeShapes Go.WideShapes Go.ChangeAt Go.RowKit Go.Deep
set_option maxRecDepth 100000

theorem cellsBool : Tryd.prog.cellsOf 4 = 1 := by kernel_rfl
theorem cellsStep : Tryd.prog.cellsOf 81 = 3 := by kernel_rfl
theorem cellsAuto : Tryd.prog.cellsOf 26 = 5 := by kernel_rfl

/-- An address at which a cell can be read is a plain one. -/
theorem plain_addr {W : World} {a : Addr} {v : Value} (h : W.cell? (a.add 0) = some v) : ∃ b off, a = ⟨b, off, none⟩ := by
  obtain ⟨b, off, spot⟩ := a
  simp only [Addr.add, if_true, World.cell?] at h
  split at h
  · cases spot with
    | none => exact ⟨b, off, rfl⟩
    | some s => simp at h
  · cases h

theorem boolSl_of_trod {H : Type} {enc : TypeId × Value → H} {W : World} {n : Nat} {u : Value} {y : DataW H × List MemPlace} (h : DataW.trod enc Tryd.prog W 0 (fun _ => true) true n 23 [u] = some y) :
    ∃ zs, BoolSl W u zs := by
  rcases open_bools Tryd.underlying23 Tryd.underlying4 cellsBool h with ⟨hcs, _⟩ | ⟨a, len, cap, B, hcs, _, hl, hm, _, hcell⟩
  · simp only [List.cons.injEq, and_true] at hcs
    subst hcs
    exact ⟨[], .none, 0, rfl, by simp [maxLen], Or.inl rfl, fun _ => rfl, by simp⟩
  · simp only [List.cons.injEq, and_true] at hcs
    subst hcs
    have hlen : ((List.range len).map B).length = len := by simp
    refine ⟨(List.range len).map B, some a, cap, by rw [hlen], by rw [hlen]; omega, ?_, fun e => (by cases e), by rw [hlen]; exact hl⟩
    by_cases h0 : len = 0
    · left
      rw [h0]
      rfl
    · right
      obtain ⟨b, off, rfl⟩ := plain_addr (hcell 0 (by omega))
      refine ⟨b, off, rfl, fun i hi => ?_⟩
      rw [hlen] at hi
      have ci := hcell i (by omega)
      rw [add_none] at ci
      rw [ci]
      congr 2
      simp [List.getD, hi]

theorem one_int {H : Type} {enc : TypeId × Value → H} {W : World} {n : Nat} {c : Value} {y : DataW H × List MemPlace} (h : DataW.trod enc Tryd.prog W 0 (fun _ => true) true n 3 [c] = some y) : ∃ z, c = .int .i64 z ∧ (Lit.int .i64 z).wf = true := by
  obtain ⟨z, hc, _, hw⟩ := DataW.trod_int Tryd.underlying3 h
  simp only [List.cons.injEq, and_true] at hc
  exact ⟨z, hc, hw⟩

theorem three_of {cs : List Value} (h : cs.length = 3) : ∃ c0 c1 c2, cs = [c0, c1, c2] := by
  match cs, h with
  | [c0, c1, c2], _ => exact ⟨c0, c1, c2, rfl⟩

theorem five_of {cs : Array Value} (h : cs.size = 5) : ∃ c0 c1 c2 c3 c4, cs = #[c0, c1, c2, c3, c4] := by
  obtain ⟨l⟩ := cs
  match l, h with
  | [c0, c1, c2, c3, c4], _ => exact ⟨c0, c1, c2, c3, c4, rfl⟩

theorem step_of_trod {H : Type} {enc : TypeId × Value → H} {W : World} {n : Nat} {cs : List Value} {y : DataW H × List MemPlace} (h : DataW.trod enc Tryd.prog W 0 (fun _ => true) true n 81 cs = some y) :
    ∃ s : Stp, cs = [.int .i64 s.f, .int .i64 s.l, .int .i64 s.t] := by
  obtain ⟨y0, y1, y2, m, _, hl, h0, h1, h2⟩ := trod_struct3 Tryd.underlying81 h
  rw [cellsStep] at hl
  obtain ⟨c0, c1, c2, rfl⟩ := three_of hl
  have e := cellsInt
  dsimp only at h0 h1 h2
  rw [e] at h0 h1 h2
  obtain ⟨z0, rfl, _⟩ := one_int h0
  obtain ⟨z1, rfl, _⟩ := one_int h1
  obtain ⟨z2, rfl, _⟩ := one_int h2
  exact ⟨⟨z0, z1, z2⟩, rfl⟩

theorem stepSl_of_trod {H : Type} {enc : TypeId × Value → H} {W : World} {n : Nat} {u : Value} {y : DataW H × List MemPlace} (h : DataW.trod enc Tryd.prog W 0 (fun _ => true) true n 24 [u] = some y) :
    ∃ zs, StepSl W u zs := by
  rcases open_slice Tryd.underlying24 h with ⟨hcs, _⟩ | ⟨a, len, cap, m, k, D, Pl, hcs, _, hl, hm, hmm, _, hel⟩
  · simp only [List.cons.injEq, and_true] at hcs
    subst hcs
    exact ⟨[], .none, 0, rfl, by simp [maxLen], Or.inl rfl, fun _ => rfl, by simp⟩
  · simp only [List.cons.injEq, and_true] at hcs
    subst hcs
    simp only [if_true] at hmm
    subst hmm
    rw [cellsStep] at hel
    have each : ∀ i, i < m → ∃ s : Stp, W.cell? ((a.add (i * 3)).add 0) = some (.int .i64 s.f) ∧ W.cell? ((a.add (i * 3)).add 1) = some (.int .i64 s.l) ∧ W.cell? ((a.add (i * 3)).add 2) = some (.int .i64 s.t) := by
      intro i hi
      obtain ⟨cs', hc, ht⟩ := hel i hi
      obtain ⟨s, rfl⟩ := step_of_trod ht
      obtain ⟨_, _, hcell⟩ := World.cells?_some hc
      exact ⟨s, hcell 0 (by omega), hcell 1 (by omega), hcell 2 (by omega)⟩
    obtain ⟨S, hS⟩ := @choose_lt Stp ⟨stp0⟩ _ _ each
    have hlen : ((List.range len).map S).length = len := by simp
    refine ⟨(List.range len).map S, some a, m, by rw [hlen], by rw [hlen]; omega, ?_, fun e => (by cases e), by rw [hlen]; exact hl⟩
    by_cases h0 : len = 0
    · left
      rw [h0]
      rfl
    · right
      have c0 := (hS 0 (by omega)).1
      rw [Nat.zero_mul] at c0
      have c00 : W.cell? (a.add 0) = some (.int .i64 (S 0).f) := c0
      obtain ⟨b, off, rfl⟩ := plain_addr c00
      refine ⟨b, off, rfl, fun i hi => ?_⟩
      rw [hlen] at hi
      obtain ⟨q0, q1, q2⟩ := hS i (by omega)
      rw [add_none, add_none] at q0 q1 q2
      have e : ((List.range len).map S).getD i stp0 = S i := by simp [List.getD, hi]
      rw [e]
      exact ⟨q0, q1, q2⟩

theorem auto_of_trod {H : Type} {enc : TypeId × Value → H} {W : World} {r : Reach} {b0 : Nat} {v : Value} {d : DataW H} {p : List MemPlace} (hv : Value.okWide Tryd.prog W r b0 26 v) (h : DataW.Trod enc Tryd.prog W 0 (fun _ => true) true 26 v d p) :
    ∃ A, AutV W v A := by
  obtain ⟨cs, rfl, hsz⟩ := okWide_struct Tryd.underlying26 hv
  obtain ⟨c0, c1, c2, c3, c4, rfl⟩ := five_of (hsz.trans cellsAuto)
  obtain ⟨fuel, hf⟩ := h
  obtain ⟨xs, n, _, _, _, hlen, hfs⟩ := DataW.trod_struct Tryd.underlying26 hf
  have hx : xs.length = 5 := hlen
  have key : ∀ i (hi : i < 5), xs[i]? = some (xs[i]'(by omega)) := fun i hi => List.getElem?_eq_getElem (by omega)
  have t0 : DataW.trod enc Tryd.prog W 0 (fun _ => true) true n 3 (List.take (Tryd.prog.cellsOf 3) (List.drop 0 [c0, c1, c2, c3, c4])) = some (xs[0]'(by omega)) := (hfs 0 _ rfl).trans (key 0 (by omega))
  have t1 : DataW.trod enc Tryd.prog W 0 (fun _ => true) true n 3 (List.take (Tryd.prog.cellsOf 3) (List.drop 1 [c0, c1, c2, c3, c4])) = some (xs[1]'(by omega)) := (hfs 1 _ rfl).trans (key 1 (by omega))
  have t2 : DataW.trod enc Tryd.prog W 0 (fun _ => true) true n 22 (List.take (Tryd.prog.cellsOf 22) (List.drop 2 [c0, c1, c2, c3, c4])) = some (xs[2]'(by omega)) := (hfs 2 _ rfl).trans (key 2 (by omega))
  have t3 : DataW.trod enc Tryd.prog W 0 (fun _ => true) true n 23 (List.take (Tryd.prog.cellsOf 23) (List.drop 3 [c0, c1, c2, c3, c4])) = some (xs[3]'(by omega)) := (hfs 3 _ rfl).trans (key 3 (by omega))
  have t4 : DataW.trod enc Tryd.prog W 0 (fun _ => true) true n 24 (List.take (Tryd.prog.cellsOf 24) (List.drop 4 [c0, c1, c2, c3, c4])) = some (xs[4]'(by omega)) := (hfs 4 _ rfl).trans (key 4 (by omega))
  have e3 := cellsInt
  have e22 : Tryd.prog.cellsOf 22 = 1 := by kernel_rfl
  have e23 : Tryd.prog.cellsOf 23 = 1 := by kernel_rfl
  have e24 : Tryd.prog.cellsOf 24 = 1 := by kernel_rfl
  rw [e3] at t0 t1
  rw [e22] at t2
  rw [e23] at t3
  rw [e24] at t4
  obtain ⟨z0, rfl, _⟩ := one_int t0
  obtain ⟨z1, rfl, _⟩ := one_int t1
  obtain ⟨fs, i2, _⟩ := intSl_of_trod t2
  obtain ⟨gs, i3⟩ := boolSl_of_trod t3
  obtain ⟨ss, i4⟩ := stepSl_of_trod t4
  exact ⟨⟨z0, z1, fs, gs, ss⟩, c2, c3, c4, rfl, i2, i3, i4⟩
end Go.Proofs.YtpiacnnifdjlkaaDoor
