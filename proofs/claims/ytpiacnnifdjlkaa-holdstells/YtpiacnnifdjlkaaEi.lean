/-
  What (table).fill answers: a node's row.
-/
import Derived.Test.YtpiacnnifdjlkaaEh
namespace Go.Proofs.Ytpiacnnifdjlkaa
open Go.RowKit Go.Sort

def allFalse (c : Nat) : Array Value := Array.replicate c (.bool false)

theorem boolInfo2 : Try.prog.info? 4 = some Try.t4 := by kernel_rfl

theorem make_rowE (c : Nat) (h : c ≤ 1000000) (w : World) : (Instr.makeSlice 37 (.int .i64 c) (.int .i64 c)).run Try.prog w = .ok (.slice (some ⟨w.heap.size, 0, none⟩) c c) (w.alloc (.cells (allFalse c) 4)) := by
  have hz : Try.t4.zero = some (.bool false) := by kernel_rfl
  have hb : Try.t4.bytes = 1 := by kernel_rfl
  have hs : Try.t4.size = 1 := by kernel_rfl
  rw [run_make w 37 4 Try.t4 (.bool false) Try.underlying37 boolInfo2 hz .i64 .i64 c c (by omega) (by omega) (by rw [hb]; omega) (by omega)]
  have e : madeCells (Value.cells (.bool false)) (c * 1) = allFalse c := by
    apply Array.ext
    · simp [size_madeCells, allFalse]
    · intro i h1 h2
      simp [madeCells, allFalse, Value.cells, Nat.mod_one]
  rw [hs, Int.toNat_natCast, e]

theorem set_far (W : World) (a : Addr) (v : Value) (k : Nat) (h : k ≠ a.block) : (W.setCell a v).heap[k]? = W.heap[k]? := by
  simp only [World.setCell, Array.getElem?_modify]
  rw [if_neg (fun e => h e.symm)]

/-- A block of N bools. -/
structure RB (W : World) (g N : Nat) (f : Nat → Bool) : Prop where
  cell : ∀ i, i < N → W.cell? ⟨g, i, none⟩ = some (.bool (f i))
  soft : ∀ o, W.frozen? ⟨g, o, none⟩ = false
  lt : g < W.heap.size

theorem RB.of_block {W W' : World} {g N : Nat} {f : Nat → Bool} (h : RB W g N f) (hb : W'.heap[g]? = W.heap[g]?) : RB W' g N f :=
  ⟨fun i hi => (World.cell?_of_block (a := ⟨g, i, none⟩) hb).trans (h.cell i hi), fun o => (World.frozen?_of_block (a := ⟨g, o, none⟩) hb).trans (h.soft o), by
    have := h.lt
    have h2 : W.heap[g]? = some W.heap[g] := by simp [this]
    rw [h2] at hb
    exact (Array.getElem?_eq_some_iff.1 hb).1⟩

theorem RB.old {W W' : World} {g N : Nat} {f : Nat → Bool} (h : RB W g N f) (hb : Below W.heap.size W W') : RB W' g N f := h.of_block (hb.block g h.lt)

theorem RB.new {W : World} {g N : Nat} (h : W.heap[g]? = some (.cells (allFalse N) 4)) : RB W g N (fun _ => false) :=
  ⟨fun i hi => by rw [cell_of_row W g i _ _ _ h]; simp [allFalse, hi], fun o => by simp [World.frozen?, h], (Array.getElem?_eq_some_iff.1 h).1⟩

theorem RB.set {W : World} {g N : Nat} {f : Nat → Bool} (h : RB W g N f) (t : Nat) (ht : t < N) (v : Bool) : RB (W.setCell ⟨g, t, none⟩ (.bool v)) g N (fun i => if i = t then v else f i) := by
  refine ⟨fun i hi => ?_, fun o => by rw [World.frozen?_setCell]; exact h.soft o, by simpa [World.setCell] using h.lt⟩
  by_cases e : i = t
  · subst e
    rw [World.cell?_setCell_same _ _ _ (h.cell i hi)]
    simp
  · rw [World.cell?_setCell_other _ _ _ _ (fun e' => e (congrArg Addr.off e').symm), h.cell i hi]
    simp [e]

theorem RB.far {W : World} {g g' N : Nat} {f : Nat → Bool} (h : RB W g N f) (o : Nat) (v : Value) (hne : g ≠ g') : RB (W.setCell ⟨g', o, none⟩ v) g N f := h.of_block (set_far W _ _ g hne)

theorem RB.congr {W : World} {g N : Nat} {f f' : Nat → Bool} (h : RB W g N f) (e : ∀ i, i < N → f i = f' i) : RB W g N f' := ⟨fun i hi => by rw [h.cell i hi, e i hi], h.soft, h.lt⟩

theorem RB.row {W : World} {g N : Nat} {f : Nat → Bool} {zs : List Bool} (h : RB W g N f) (hN : N ≤ maxLen) (hl : zs.length = N) (e : ∀ i, i < N → f i = zs.getD i false) : RowSl W (.slice (some ⟨g, 0, none⟩) N N) zs :=
  ⟨_, _, by rw [hl], by omega, Or.inr ⟨g, 0, rfl, fun i hi => by rw [Nat.zero_add, h.cell i (by omega), e i (by omega)]⟩, (fun h => by cases h), by omega⟩

/-- What lies in the boxes while a row is filled. -/
structure FB (B : Nat) (w0 W : World) (rb nb wb g F : Nat) (caps : Array Value) (N : Nat) (x : Bool) (f : Nat → Bool) : Prop where
  below : Below B w0 W
  rule : W.cell? ⟨rb, 0, none⟩ = some (.func (.func F) #[] caps)
  next : W.cell? ⟨nb, 0, none⟩ = some (.bool x)
  soft : W.frozen? ⟨nb, 0, none⟩ = false
  row : W.cell? ⟨wb, 0, none⟩ = some (.slice (some ⟨g, 0, none⟩) N N)
  bools : RB W g N f

theorem FB.step {B : Nat} {w0 W : World} {rb nb wb g F : Nat} {caps : Array Value} {N : Nat} {x : Bool} {f : Nat → Bool} (h : FB B w0 W rb nb wb g F caps N x f) (hd : rb ≠ nb ∧ rb ≠ wb ∧ rb ≠ g ∧ nb ≠ wb ∧ nb ≠ g ∧ wb ≠ g) (hB2 : B ≤ nb) (hB4 : B ≤ g) (j : Nat) (hj : j < N) (y : Bool) :
    FB B w0 ((W.setCell ⟨nb, 0, none⟩ (.bool y)).setCell ⟨g, j, none⟩ (.bool y)) rb nb wb g F caps N y (fun i => if i = j then y else f i) := by
  obtain ⟨d1, d2, d3, d4, d5, d6⟩ := hd
  refine ⟨(h.below.setCell (by exact hB2) _).setCell (by exact hB4) _, ?_, ?_, ?_, ?_, ?_⟩
  · rw [World.cell?_setCell_other _ _ _ _ (fun e => d3 (congrArg Addr.block e).symm), World.cell?_setCell_other _ _ _ _ (fun e => d1 (congrArg Addr.block e).symm)]; exact h.rule
  · rw [World.cell?_setCell_other _ _ _ _ (fun e => d5 (congrArg Addr.block e).symm), World.cell?_setCell_same _ _ _ h.next]
  · rw [World.frozen?_setCell, World.frozen?_setCell]; exact h.soft
  · rw [World.cell?_setCell_other _ _ _ _ (fun e => d6 (congrArg Addr.block e).symm), World.cell?_setCell_other _ _ _ _ (fun e => d4 (congrArg Addr.block e))]; exact h.row
  · exact (h.bools.far 0 (.bool y) (fun e => d5 e.symm)).set j hj y

/-- The places from d on have been filled, down from m. -/
def filled (u : Nat → Bool → Bool) (x : Bool) (m d : Nat) (f : Nat → Bool) (i : Nat) : Bool := if d ≤ i ∧ i < m then look u x (m - i) i else f i

theorem filled_step (u : Nat → Bool → Bool) (x : Bool) (m d : Nat) (f : Nat → Bool) (hd : d < m) (i : Nat) : (if i = d then u d (look u x (m - (d + 1)) (d + 1)) else filled u x m (d + 1) f i) = filled u x m d f i := by
  unfold filled
  by_cases e : i = d
  · subst e
    rw [if_pos rfl, if_pos ⟨Nat.le_refl _, hd⟩, show m - i = (m - (i + 1)) + 1 by omega]
    rfl
  · rw [if_neg e]
    by_cases h : d + 1 ≤ i ∧ i < m
    · rw [if_pos h, if_pos ⟨by omega, h.2⟩]
    · rw [if_neg h, if_neg (by omega)]

set_option maxRecDepth 100000 in
set_option maxHeartbeats 4000000 in
theorem back_any {B : Nat} {w0 w : World} {rb nb wb g F : Nat} {caps : Array Value} {N : Nat} {x : Bool} {f : Nat → Bool} {u : Nat → Bool → Bool} (hb : FB B w0 w rb nb wb g F caps N x f) (hr : RuleOk w0 F caps u N) (hB : B = w0.heap.size) (hB2 : B ≤ nb) (hB4 : B ≤ g)
    (hd : rb ≠ nb ∧ rb ≠ wb ∧ rb ≠ g ∧ nb ≠ wb ∧ nb ≠ g ∧ wb ≠ g) (m d : Nat) (hm : m ≤ N) (hdm : d ≤ m) (hN : N ≤ 1000000) :
    Calls Try.prog 32 #[.int .i64 m, .int .i64 d, .pointer (some ⟨rb, 0, none⟩), .pointer (some ⟨nb, 0, none⟩), .pointer (some ⟨wb, 0, none⟩)] w fun e w' => e = .returned (.tuple #[]) ∧ FB B w0 w' rb nb wb g F caps N (look u x (m - d) d) (filled u x m d f) := by
  have HB := hide hb
  have HR := hide hr
  clear hb hr
  go_enter Try.func32, Try.ntmps32
  go_wp2_with (fail)
  go_loopw [7] (fun iv wr => ∃ k : Nat, d ≤ k ∧ k ≤ m ∧ iv = .int .i64 ((k : Int) - 1) ∧ FB B w0 wr rb nb wb g F caps N (look u x (m - k) k) (filled u x m k f)) (fun iv _ => (intOf iv + 1 - d).toNat)
  case atStart => exact ⟨m, hdm, Nat.le_refl _, rfl, by
    have := HB.out
    rw [Nat.sub_self]
    exact ⟨this.below, this.rule, this.next, this.soft, this.row, this.bools.congr (fun i _ => by unfold filled; rw [if_neg (by omega)])⟩⟩
  case round =>
    obtain ⟨k, hk1, hk2, rfl, hb⟩ := hrel
    have HF := hide hb
    by_cases hlt : d < k
    · obtain ⟨j, rfl⟩ : ∃ j, k = j + 1 := ⟨k - 1, by omega⟩
      have ej : ((j + 1 : Nat) : Int) - 1 = j := by omega
      rw [ej]
      obtain ⟨hbel, c1, c2, c3, c4, hrow⟩ := hb
      have HC := hide (HR.out.2 j (by omega) (look u x (m - (j + 1)) (j + 1)) wr (by rw [← hB]; exact hbel))
      have hcall := HR.out.1
      generalize hnx : look u x (m - (j + 1)) (j + 1) = nx at *
      have Hnx := hide hnx
      clear hnx
      have hjd : (d : Int) ≤ j := by omega
      clear hbel hrow
      go_wp2_with (fail)
      refine HC.out.mono ?_
      rintro e w1 ⟨rfl, hb1⟩
      generalize hy : u j nx = y
      have hF1 : FB B w0 w1 rb nb wb g F caps N nx (filled u x m (j + 1) f) := by
        have := HF.out
        exact ⟨this.below.trans (hb1.mono (by have := this.below.size; omega)), cell_keep this.rule hb1, cell_keep this.next hb1, (hb1.frozen (p := ⟨nb, 0, none⟩) (World.block_lt_of_cell? _ _ this.next)).trans this.soft, cell_keep this.row hb1, this.bools.old hb1⟩
      clear HF HC hb1 c1 c2 c3 c4
      have HF1 := hide hF1
      obtain ⟨_, r1, r2, r3, r4, r5⟩ := hF1
      have r6 := r5.cell j (by omega)
      have r7 := r5.soft j
      clear r5
      obtain ⟨d1, d2, d3, d4, d5, d6⟩ := hd
      have m1 : ¬ nb = rb := fun e => d1 e.symm
      have m2 : ¬ nb = wb := d4
      have m3 : ¬ nb = g := d5
      have m4 : ¬ g = nb := fun e => d5 e.symm
      have m5 : ¬ wb = nb := fun e => d4 e.symm
      have HD := hide (And.intro d1 (And.intro d2 (And.intro d3 (And.intro d4 (And.intro d5 d6)))))
      clear d1 d2 d3 d4 d5 d6
      have Hy := hide hy
      clear hy hcall HR
      generalize filled u x m (j + 1) f j = old at *
      go_wp2_with (fail)
      go_roundw
      case rel =>
        have hlk : look u x (m - j) j = y := by
          rw [show m - j = (m - (j + 1)) + 1 by omega]
          show u j (look u x (m - (j + 1)) (j + 1)) = y
          rw [Hnx.out, Hy.out]
        refine ⟨j, by omega, by omega, rfl, ?_⟩
        rw [hlk]
        have h1 := HF1.out.step HD.out hB2 hB4 j (by omega) y
        exact ⟨h1.below, h1.rule, h1.next, h1.soft, h1.row, h1.bools.congr fun i _ => by rw [← filled_step u x m j f (by omega) i, Hnx.out, Hy.out]⟩
      case measure => simp [intOf]; omega
    · have hkd : k = d := by omega
      subst hkd
      have hlt' : (k : Int) - 1 < k := by omega
      have HH := HF.out
      clear hb
      go_wp2_with (fail)
      go_end0
      exact ⟨rfl, HH⟩

theorem RuleOk.below {w w' : World} {F : Nat} {caps : Array Value} {u : Nat → Bool → Bool} {N : Nat} (h : RuleOk w F caps u N) (hb : Below w.heap.size w w') : RuleOk w' F caps u N :=
  ⟨h.1, fun i hi nx w1 hb1 => h.2 i hi nx w1 (below_trans hb hb1)⟩

/-- What is known when a row has been filled. -/
def rowU (u : Nat → Bool → Bool) (e : Bool) (h p : Nat) : List Bool := (List.range (h + p)).map fun i => look (fun k => u (plc h p k)) e (h + p) i

theorem rowU_get (u : Nat → Bool → Bool) (e : Bool) (h p i : Nat) (hi : i < h + p) : (rowU u e h p).getD i false = look (fun k => u (plc h p k)) e (h + p) i := by simp [rowU, List.getD, hi]

theorem filled_all (u : Nat → Bool → Bool) (e : Bool) (h p : Nat) (hp : 0 < p) (hm : Mono u) (f : Nat → Bool) (i : Nat) (hi : i < h + p) :
    filled u (look u (look u e p h) p h) h 0 (filled u (look u e p h) (h + p) h (filled u e (h + p) h f)) i = (rowU u e h p).getD i false := by
  rw [rowU_get u e h p i hi, ← passes u e h p hp hm i hi]
  unfold filled
  by_cases hih : i < h
  · rw [if_pos ⟨Nat.zero_le _, hih⟩, if_pos hih]
  · rw [if_neg (by omega), if_pos ⟨by omega, hi⟩, if_neg hih]

theorem fill_start (w : World) (o : Obj) (F : Nat) (caps : Array Value) (N : Nat) (e : Bool) :
    FB (w.heap.size + 1 + 1) ((w.alloc o).alloc (Obj.cells #[.func (.func F) #[] caps] 59)) (((((w.alloc o).alloc (Obj.cells #[.func (.func F) #[] caps] 59)).alloc (Obj.cells (allFalse N) 4)).alloc (Obj.cells #[.slice (some ⟨w.heap.size + 1 + 1, 0, none⟩) N N] 37)).alloc (Obj.cells #[.bool e] 4))
      (w.heap.size + 1) (w.heap.size + 1 + 1 + 1 + 1) (w.heap.size + 1 + 1 + 1) (w.heap.size + 1 + 1) F caps N e (fun _ => false) := by
  generalize hw0 : (w.alloc o).alloc (Obj.cells #[.func (.func F) #[] caps] 59) = w0
  have hs : w0.heap.size = w.heap.size + 1 + 1 := by rw [← hw0]; simp
  have h1 : w0.heap[w.heap.size + 1]? = some (Obj.cells #[.func (.func F) #[] caps] 59) := by
    rw [← hw0]
    have := heap_alloc_new (w.alloc o) (Obj.cells #[.func (.func F) #[] caps] 59)
    rwa [World.size_alloc] at this
  have k0 := below_new w0 (Obj.cells (allFalse N) 4)
  have n0 := heap_alloc_new w0 (Obj.cells (allFalse N) 4)
  have n1 := heap_alloc_new (w0.alloc (Obj.cells (allFalse N) 4)) (Obj.cells #[.slice (some ⟨w.heap.size + 1 + 1, 0, none⟩) N N] 37)
  have k1 := below_new (w0.alloc (Obj.cells (allFalse N) 4)) (Obj.cells #[.slice (some ⟨w.heap.size + 1 + 1, 0, none⟩) N N] 37)
  have n2 := heap_alloc_new ((w0.alloc (Obj.cells (allFalse N) 4)).alloc (Obj.cells #[.slice (some ⟨w.heap.size + 1 + 1, 0, none⟩) N N] 37)) (Obj.cells #[.bool e] 4)
  have k2 := below_new ((w0.alloc (Obj.cells (allFalse N) 4)).alloc (Obj.cells #[.slice (some ⟨w.heap.size + 1 + 1, 0, none⟩) N N] 37)) (Obj.cells #[.bool e] 4)
  simp only [World.size_alloc] at n1 n2
  rw [hs] at n0 n1 n2
  have hbl : Below w0.heap.size w0 (((w0.alloc (Obj.cells (allFalse N) 4)).alloc (Obj.cells #[.slice (some ⟨w.heap.size + 1 + 1, 0, none⟩) N N] 37)).alloc (Obj.cells #[.bool e] 4)) := below_trans (below_trans k0 k1) k2
  refine ⟨hbl.mono (by omega), ?_, ?_, ?_, ?_, ?_⟩
  · exact cell_of_row _ _ 0 _ _ _ (block_keep h1 hbl)
  · exact cell_of_row _ _ 0 _ _ _ n2
  · simp [World.frozen?, n2]
  · exact cell_of_row _ _ 0 _ _ _ (block_keep n1 k2)
  · exact RB.new (block_keep (block_keep n0 k1) k2)

set_option maxRecDepth 100000 in
set_option maxHeartbeats 4000000 in
theorem fill_any {w : World} {F : Nat} {caps : Array Value} {u : Nat → Bool → Bool} (a0 : Option Addr) (N c0 h p : Nat) (rv : Value) (e : Bool) (hr : RuleOk w F caps u N) (hN : N = h + p) (hp : 0 < p) (hNN : N ≤ 1000000) (hm : Mono u) :
    Calls Try.prog 25 #[.agg #[.slice a0 N c0, .int .i64 h, rv], .bool e, .func (.func F) #[] caps] w fun en w' => ∃ v, en = .returned v ∧ RowSl w' v (rowU u e h p) ∧ (∃ g, v = .slice (some ⟨g, 0, none⟩) N N ∧ w.heap.size ≤ g) ∧ Below w.heap.size w w' := by
  have hmf : ∀ (fn : Fn) (first cap : Array Value) (w : World), (Instr.makeFunc fn first cap).run Try.prog w = .ok (.func fn first cap) w := fun _ _ _ _ => rfl
  have hmk := make_rowE N hNN
  have hcl := Try.call32
  have HR := hide hr
  have HN := hide hN
  have HM := hide hm
  clear hr hN hm
  go_enter Try.func25, Try.ntmps25
  go_wp2_with (fail)
  have hF0 := fill_start w (Obj.cells #[.slice a0 N c0, .int .i64 h, rv] 40) F caps N e
  have hB : w.heap.size + 1 + 1 = ((w.alloc (Obj.cells #[.slice a0 N c0, .int .i64 h, rv] 40)).alloc (Obj.cells #[.func (.func F) #[] caps] 59)).heap.size := by simp
  have hr0 := (HR.out.below (below_new w (Obj.cells #[.slice a0 N c0, .int .i64 h, rv] 40))).below (below_new _ (Obj.cells #[.func (.func F) #[] caps] 59))
  have t0 : (w.alloc (Obj.cells #[.slice a0 N c0, .int .i64 h, rv] 40)).cell? ⟨w.heap.size, 1, none⟩ = some (.int .i64 h) := by simp
  have t1 := cell_under _ (Obj.cells #[.func (.func F) #[] caps] 59) t0
  have HBW : Hid (Below w.heap.size w ((w.alloc (Obj.cells #[.slice a0 N c0, .int .i64 h, rv] 40)).alloc (Obj.cells #[.func (.func F) #[] caps] 59))) := hide (by repeat (first | exact Below.refl _ _ | assumption | refine below_drewN ?_ _ | refine Below.drew ?_ | refine Below.alloc ?_ (by simp <;> omega) _ | refine below_trans ?_ (by assumption)))
  clear t0 HR
  generalize (w.alloc (Obj.cells #[.slice a0 N c0, .int .i64 h, rv] 40)).alloc (Obj.cells #[.func (.func F) #[] caps] 59) = w0 at *
  have H0 := hide (And.intro hB (And.intro hr0 t1))
  clear hB hr0 t1
  have hdis : w.heap.size + 1 ≠ w.heap.size + 1 + 1 + 1 + 1 ∧ w.heap.size + 1 ≠ w.heap.size + 1 + 1 + 1 ∧ w.heap.size + 1 ≠ w.heap.size + 1 + 1 ∧ w.heap.size + 1 + 1 + 1 + 1 ≠ w.heap.size + 1 + 1 + 1 ∧ w.heap.size + 1 + 1 + 1 + 1 ≠ w.heap.size + 1 + 1 ∧ w.heap.size + 1 + 1 + 1 ≠ w.heap.size + 1 + 1 := by omega
  have HD := hide hdis
  clear hdis
  have hhN : h ≤ N := by rw [HN.out]; omega
  have hpN : N - h = p := by rw [HN.out]; omega
  have HP := hide hpN
  clear hpN
  refine (back_any hF0 H0.out.2.1 H0.out.1 (by omega) (by omega) HD.out N h (Nat.le_refl _) hhN hNN).mono ?_
  clear hF0
  rintro en w1 ⟨rfl, hF1⟩
  rw [HP.out] at hF1
  have c1 := hF1.row
  have c2 := (hF1.below.cell (p := ⟨w.heap.size, 1, none⟩) (by show w.heap.size < _; omega)).trans H0.out.2.2
  have HF1 := hide hF1
  clear hF1
  go_wp2_with (fail)
  refine (back_any HF1.out H0.out.2.1 H0.out.1 (by omega) (by omega) HD.out N h (Nat.le_refl _) hhN hNN).mono ?_
  clear c1 c2 HF1
  rintro en w2 ⟨rfl, hF2⟩
  rw [HP.out] at hF2
  have c2 := (hF2.below.cell (p := ⟨w.heap.size, 1, none⟩) (by show w.heap.size < _; omega)).trans H0.out.2.2
  have HF2 := hide hF2
  clear hF2
  go_wp2_with (fail)
  refine (back_any HF2.out H0.out.2.1 H0.out.1 (by omega) (by omega) HD.out h 0 hhN (Nat.zero_le _) hNN).mono ?_
  clear c2 HF2
  rintro en w3 ⟨rfl, hF3⟩
  have c1 := hF3.row
  have HF3 := hide hF3
  clear hF3
  go_wp2_with (fail)
  go_ret
  have hN := HN.out
  subst hN
  exact ⟨_, rfl, HF3.out.bools.row (by unfold maxLen; omega) (by simp [rowU]) (fun i hi => filled_all u e h p hp HM.out _ i hi), ⟨_, rfl, by omega⟩, HBW.out.trans (HF3.out.below.mono (by omega))⟩
end Go.Proofs.Ytpiacnnifdjlkaa
