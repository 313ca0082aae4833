/-
  Package include: boxes, entries and remarks that are built; regions of values that are told ahead, with a store at their end.
-/
import Derived.Test.YtpiacnnifdjlkabDoorXb
import Derived.MapKept
import Derived.Laws.StructEq
import Derived.ChangeKeysEq
import Derived.Deep.WholeRow
import Derived.Test.YtpiacnnifdjlkabDoorRd
import Derived.Great.BuildSlice
/-
  Package include: a map of boxes to their numbers: what is looked up in it and stored.
-/
namespace Go.Proofs.YtpiacnnifdjlkabDoor
open Go.RowKit Go.Sort Go.MapKept

abbrev Bx : Type := List Nat × List Nat
def bxE (b : Bx) : List Value := tE (b.1 ++ b.2)
abbrev bxV (b : Bx) : Value := .agg (bxE b).toArray

theorem bxE_len {b : Bx} (h : bOk b) : (bxE b).length = 18 := by rw [bxE, tE_len, List.length_append, h.1.1, h.2.1]

theorem eqItems_all {dd : Nat} {e : TypeId} {sz : Nat} {X Y : Array Value} {w : World} {px py : Nat → Value} {q : Nat → Bool} : ∀ (is : List Nat), (∀ i ∈ is, (part e X (i * sz)).run Tryd.prog w = .ok (px i) w ∧ (part e Y (i * sz)).run Tryd.prog w = .ok (py i) w ∧ (Op.equalIn dd e (px i) (py i)).run Tryd.prog w = .ok (q i) w) →
    (Op.eqItems dd e sz X Y is).run Tryd.prog w = .ok (is.all q) w
  | [], _ => by simp [Op.eqItems]
  | i :: is, h => by
    obtain ⟨h1, h2, h3⟩ := h i (List.mem_cons_self ..)
    have ih := eqItems_all is (fun j hj => h j (List.mem_cons_of_mem _ hj))
    simp only [Op.eqItems, Sem.run_bind, h1, h2, h3, Result.andThen_ok, List.all_cons]
    cases q i with
    | false => simp
    | true => simpa using ih

theorem ok_bool {a b : Bool} (h : a = b) (w : World) : (Result.ok a w : Result Bool) = .ok b w := by rw [h]

theorem eqRow {r s : List Nat} (hr : r.length = 3) (hs : s.length = 3) (d : Nat) (w : World) : (Op.equalIn (d + 2) 107 (tV r) (tV s)).run Tryd.prog w = .ok (decide (r = s)) w := by
  obtain ⟨i, hq, _⟩ := info_of_size (ty := 106) (m := 1) (by kernel_rfl)
  have hu : Tryd.prog.underlying 106 = some (.int .u8) := by kernel_rfl
  rw [run_equalIn_array w (d + 1) _ _ markUnder hq, cells_mark, eqItems_all (px := fun k => .int .u8 (r.getD k 0 : Nat)) (py := fun k => .int .u8 (s.getD k 0 : Nat)) (q := fun k => decide (r.getD k 0 = s.getD k 0)) (List.range 3) (fun k hk => by
    have hk := List.mem_range.1 hk
    rw [Nat.mul_one]
    refine ⟨part_mark r (by omega) w, part_mark s (by omega) w, ?_⟩
    rw [run_equalIn_int w d _ _ .u8 _ _ hu]
    refine ok_bool ?_ w
    rw [Bool.eq_iff_iff, beq_iff_eq, decide_eq_true_iff]
    omega)]
  refine ok_bool ?_ w
  rw [Bool.eq_iff_iff, List.all_eq_true, decide_eq_true_iff]
  constructor
  · intro h
    refine List.ext_getElem (by omega) fun k h1 h2 => ?_
    have := of_decide_eq_true (h k (List.mem_range.2 (by omega)))
    simpa [List.getD, h1, h2] using this
  · rintro rfl
    simp

theorem eqTab {t u : List Nat} (ht : t.length = 9) (hu : u.length = 9) (d : Nat) (w : World) : (Op.equalIn (d + 3) 109 (tV t) (tV u)).run Tryd.prog w = .ok (decide (t = u)) w := by
  obtain ⟨i, hq, _⟩ := info_of_size rowSize
  rw [run_equalIn_array w (d + 2) _ _ tabUnder hq, cells_row, eqItems_all (px := fun k => tV (rowT t k)) (py := fun k => tV (rowT u k)) (q := fun k => decide (rowT t k = rowT u k)) (List.range 3) (fun k hk => by
    have hk := List.mem_range.1 hk
    refine ⟨by rw [part_agg markUnder rowSize, Nat.mul_comm]; rfl, by rw [part_agg markUnder rowSize, Nat.mul_comm]; rfl, ?_⟩
    exact eqRow (rowT_len ht hk) (rowT_len hu hk) d w)]
  refine ok_bool ?_ w
  rw [Bool.eq_iff_iff, List.all_eq_true, decide_eq_true_iff]
  constructor
  · intro h
    refine tab_ext ht hu fun p q hp hq => ?_
    have := of_decide_eq_true (h p (List.mem_range.2 hp))
    rw [← rowT_at hq, this, rowT_at hq]
  · rintro rfl
    simp

theorem box_half {b : Bx} (h : bOk b) (w : World) : (part 109 (bxE b).toArray (0 * 9)).run Tryd.prog w = .ok (tV b.1) w ∧ (part 109 (bxE b).toArray (1 * 9)).run Tryd.prog w = .ok (tV b.2) w := by
  unfold bxE
  refine ⟨?_, ?_⟩
  · rw [part_agg tabUnder tabSize, Nat.zero_mul, List.drop_zero, List.take_append_of_le_length (by rw [h.1.1]; omega), List.take_of_length_le (by rw [h.1.1]; omega)]
  · rw [part_agg tabUnder tabSize, Nat.one_mul, List.drop_append_of_le_length (by rw [h.1.1]; omega), List.drop_eq_nil_of_le (by rw [h.1.1]; omega), List.nil_append, List.take_of_length_le (by rw [h.2.1]; omega)]

theorem bxEq {x y : Bx} (hx : bOk x) (hy : bOk y) (w : World) : (Op.equal 111 (bxV x) (bxV y)).run Tryd.prog w = .ok (decide (x = y)) w := by
  obtain ⟨i, hq, _⟩ := info_of_size tabSize
  unfold Op.equal Op.maxDepth
  rw [show (10000 : Nat) = 9996 + 3 + 1 from rfl, run_equalIn_array w (9996 + 3) _ _ boxUnder hq, cells_tab, eqItems_all (px := fun k => tV (if k = 0 then x.1 else x.2)) (py := fun k => tV (if k = 0 then y.1 else y.2)) (q := fun k => if k = 0 then decide (x.1 = y.1) else decide (x.2 = y.2)) (List.range 2) (fun k hk => by
    have hk := List.mem_range.1 hk
    have : k = 0 ∨ k = 1 := by omega
    rcases this with rfl | rfl
    · exact ⟨(box_half hx w).1, (box_half hy w).1, eqTab hx.1.1 hy.1.1 9996 w⟩
    · exact ⟨(box_half hx w).2, (box_half hy w).2, eqTab hx.2.1 hy.2.1 9996 w⟩)]
  refine ok_bool ?_ w
  rw [Bool.eq_iff_iff, decide_eq_true_iff]
  simp [show List.range 2 = [0, 1] from rfl, Prod.ext_iff]

theorem checkKey_array {d n : Nat} {t e : TypeId} {m : Nat} (hu : Tryd.prog.underlying t = some (.array n e)) (hi : (Tryd.prog.info? e).map (·.size) = some m) {X : Array Value} {w : World} {em : Bool} {px : Nat → Value} (h : ∀ i, i < n → (part e X (i * m)).run Tryd.prog w = .ok (px i) w ∧ (Instr.checkKey em d e (px i)).run Tryd.prog w = .ok () w) :
    (Instr.checkKey em (d + 1) t (.agg X)).run Tryd.prog w = .ok () w := by
  unfold Instr.checkKey
  simp only [Sem.run_bind, run_underlying hu, Result.andThen_ok]
  simp only [Std.Legacy.Range.forIn_eq_forIn_range', Std.Legacy.Range.size, Nat.sub_zero, Nat.add_one_sub_one, Nat.div_one, ← List.range_eq_range']
  have key : ∀ is : List Nat, (∀ j ∈ is, j < n) → (forIn (m := Sem) is PUnit.unit (fun i _ => do
      Instr.checkKey em d e (← part e X (i * (← sizeOf e)))
      pure (ForInStep.yield PUnit.unit))).run Tryd.prog w = .ok PUnit.unit w := by
    intro is
    induction is with
    | nil => intro _; simp
    | cons j is ih =>
      intro hj
      obtain ⟨h1, h2⟩ := h j (hj j (List.mem_cons_self ..))
      have ih := ih (fun k hk => hj k (List.mem_cons_of_mem _ hk))
      simp only [List.forIn_cons, Sem.run_bind, size_run hi, Sem.run_pure, Result.andThen_ok, h1, h2]
      exact ih
  have := key (List.range n) (fun j hj => List.mem_range.1 hj)
  simp only [this, Result.andThen_ok, Sem.run_pure]

theorem bxKey {x : Bx} (hx : bOk x) (em : Bool) (w : World) : (Instr.checkKey em 10000 111 (bxV x)).run Tryd.prog w = .ok () w := by
  have hu : Tryd.prog.underlying 106 = some (.int .u8) := by kernel_rfl
  have h1 : ∀ (d : Nat) (k : Nat), (Instr.checkKey em (d + 1) 106 (.int .u8 (k : Nat))).run Tryd.prog w = .ok () w := fun d k => by
    unfold Instr.checkKey
    simp only [Sem.run_bind, run_underlying hu, Result.andThen_ok, Sem.run_pure]
  have h2 : ∀ (d : Nat) (r : List Nat), r.length = 3 → (Instr.checkKey em (d + 2) 107 (tV r)).run Tryd.prog w = .ok () w := fun d r hr =>
    checkKey_array (m := 1) markUnder (by kernel_rfl) (px := fun k => .int .u8 (r.getD k 0 : Nat)) (fun k hk => ⟨by rw [Nat.mul_one]; exact part_mark r (by omega) w, h1 d _⟩)
  have h3 : ∀ (d : Nat) (t : List Nat), t.length = 9 → (Instr.checkKey em (d + 3) 109 (tV t)).run Tryd.prog w = .ok () w := fun d t ht =>
    checkKey_array (m := 3) tabUnder rowSize (px := fun k => tV (rowT t k)) (fun k hk => ⟨by rw [part_agg markUnder rowSize, Nat.mul_comm]; rfl, h2 d _ (rowT_len ht hk)⟩)
  exact checkKey_array (d := 9996 + 3) (m := 9) boxUnder tabSize (px := fun k => tV (if k = 0 then x.1 else x.2)) (fun k hk => by
    have : k = 0 ∨ k = 1 := by omega
    rcases this with rfl | rfl
    · exact ⟨(box_half hx w).1, h3 9996 _ hx.1.1⟩
    · exact ⟨(box_half hx w).2, h3 9996 _ hx.2.1⟩)

/-- The number of a box among those that were met. -/
def nOf : List Bx → Bx → Nat
  | [], _ => 0
  | y :: ms, x => if x = y then 0 else nOf ms x + 1

theorem bxFind {x : Bx} (hx : bOk x) (w : World) : ∀ (l : List MapEntry) (ms : List Bx) (i : Nat), (∀ y ∈ ms, bOk y) → l.length = ms.length → (∀ (j : Nat) (y : Bx), ms[j]? = some y → ∃ e, l[j]? = some e ∧ e.key = bxV y ∧ e.val = .int .i64 ((i + j : Nat))) →
    (Instr.findAsking 111 (bxV x) l i).run Tryd.prog w = .ok (if x ∈ ms then some (i + nOf ms x, .int .i64 ((i + nOf ms x : Nat))) else none) w
  | [], [], i, _, _, _ => by simp [Instr.findAsking]
  | [], _ :: _, _, _, h, _ => by simp at h
  | _ :: _, [], _, _, h, _ => by simp at h
  | e :: l, y :: ms, i, hok, hl, h => by
    obtain ⟨e', he, hk, hv⟩ := h 0 y rfl
    obtain rfl : e = e' := by simpa using he
    have ih := bxFind hx w l ms (i + 1) (fun z hz => hok z (List.mem_cons_of_mem _ hz)) (by simpa using hl) (fun j z hz => by
      obtain ⟨e2, h1, h2, h3⟩ := h (j + 1) z hz
      exact ⟨e2, h1, h2, by rw [h3]; congr 2; omega⟩)
    unfold Instr.findAsking
    simp only [Sem.run_bind, hk, bxEq hx (hok y (List.mem_cons_self ..)), Result.andThen_ok]
    by_cases hxy : x = y
    · rw [decide_eq_true hxy, if_pos rfl, if_pos (by rw [hxy]; simp), hv]
      have : nOf (y :: ms) x = 0 := by unfold nOf; rw [if_pos hxy]
      rw [this]
      rfl
    · rw [decide_eq_false hxy, if_neg (by simp), ih]
      have hm : x ∈ y :: ms ↔ x ∈ ms := by simp [hxy]
      by_cases hx' : x ∈ ms
      · rw [if_pos hx', if_pos (hm.2 hx')]
        have : nOf (y :: ms) x = nOf ms x + 1 := by show (if x = y then 0 else nOf ms x + 1) = _; rw [if_neg hxy]
        rw [this, show i + 1 + nOf ms x = i + (nOf ms x + 1) by omega]
      · rw [if_neg hx', if_neg (fun h' => hx' (hm.1 h'))]

theorem bxFindKey {x : Bx} (hx : bOk x) (w : World) (l : List MapEntry) (ms : List Bx) (hok : ∀ y ∈ ms, bOk y) (hl : l.length = ms.length) (h : ∀ (j : Nat) (y : Bx), ms[j]? = some y → ∃ e, l[j]? = some e ∧ e.key = bxV y ∧ e.val = .int .i64 (j : Nat)) :
    (Instr.findKey 111 (bxV x) l).run Tryd.prog w = .ok (if x ∈ ms then some (nOf ms x, .int .i64 (nOf ms x : Nat)) else none) w := by
  have h1 := bxFind hx w l ms 0 hok hl (fun j y hy => by rw [Nat.zero_add]; exact h j y hy)
  rw [Nat.zero_add] at h1
  rw [← h1]
  unfold Instr.findKey
  simp only [Sem.run_bind, run_underlying boxUnder, Result.andThen_ok]
  cases l with
  | nil => simp [Instr.findNow, Instr.findAsking]
  | cons e l => simp [Instr.findNow, Instr.sameNow]

/-- The map in block r tells of these boxes their numbers. -/
def bxMap (w : World) (r : Nat) (met : List Bx) : Prop :=
  (∀ y ∈ met, bOk y) ∧ ∃ es clock, w.heap[r]? = some (.map es clock) ∧ es.size = met.length ∧ ∀ (i : Nat) (x : Bx), met[i]? = some x → ∃ e, es[i]? = some e ∧ e.key = bxV x ∧ e.val = .int .i64 (i : Nat)

theorem bxMap.lt {w : World} {r : Nat} {met : List Bx} (h : bxMap w r met) : r < w.heap.size := by
  obtain ⟨_, es, clock, hr, _⟩ := h
  exact (Array.getElem?_eq_some_iff.1 hr).1

theorem bxMap.keep {w w' : World} {r : Nat} {met : List Bx} (h : bxMap w r met) (hb : ∀ o, w.heap[r]? = some o → w'.heap[r]? = some o) : bxMap w' r met := by
  obtain ⟨hok, es, clock, hr, h2⟩ := h
  exact ⟨hok, es, clock, hb _ hr, h2⟩

theorem bxMap.not_cells {w : World} {r : Nat} {met : List Bx} (h : bxMap w r met) : ∃ o : Obj, w.heap[r]? = some o ∧ o.isCells = false := by
  obtain ⟨_, es, clock, hr, _⟩ := h
  exact ⟨_, hr, rfl⟩

theorem bxLookup {w : World} {r : Nat} {met : List Bx} (h : bxMap w r met) {x : Bx} (hok : bOk x) : (Instr.lookup 142 (.map (some r)) (bxV x) true).run Tryd.prog w = .ok (.tuple #[.int .i64 ((if x ∈ met then nOf met x else 0 : Nat)), .bool (decide (x ∈ met))]) w := by
  obtain ⟨hm, es, clock, hr, hl, hes⟩ := h
  have hf := bxFindKey hok w es.toList met hm (by simpa using hl) (fun j y hy => by obtain ⟨e, h1, h2⟩ := hes j y hy; exact ⟨e, by simpa using h1, h2⟩)
  have hk := bxKey hok es.isEmpty w
  unfold Instr.lookup
  simp only [Sem.run_bind, run_underlying Tryd.underlying142, Result.andThen_ok, Go.MapKept.run_getObj_map hr, Sem.run_pure, hk, hf]
  by_cases hx : x ∈ met
  · simp [hx]
  · simp [hx, go_sem]

theorem bxUpdate {w : World} {r : Nat} {met : List Bx} (h : bxMap w r met) {x : Bx} (hok : bOk x) (hx : x ∉ met) : ∃ o, (Instr.mapUpdate 142 (.map (some r)) (bxV x) (.int .i64 (met.length : Nat))).run Tryd.prog w = .ok () (w.putObj r o) ∧ bxMap (w.putObj r o) r (met ++ [x]) := by
  obtain ⟨hm, es, clock, hr, hl, hes⟩ := h
  have hf := bxFindKey hok w es.toList met hm (by simpa using hl) (fun j y hy => by obtain ⟨e, h1, h2⟩ := hes j y hy; exact ⟨e, by simpa using h1, h2⟩)
  have hk := bxKey hok false w
  rw [if_neg hx] at hf
  refine ⟨.map (es.push { key := bxV x, val := .int .i64 (met.length : Nat), born := clock }) (clock + 1), ?_, fun y hy => ?_, _, _, World.putObj_heap_same (Array.getElem?_eq_some_iff.1 hr).1, by simp [hl], fun i y hy => ?_⟩
  · unfold Instr.mapUpdate
    simp only [Sem.run_bind, run_underlying Tryd.underlying142, Result.andThen_ok, Go.MapKept.run_getObj_map hr, hk, hf, Go.MapKept.run_setObj_map _ hr]
    rfl
  · rcases List.mem_append.1 hy with hy | hy
    · exact hm y hy
    · have : y = x := by simpa using hy
      rw [this]
      exact hok
  · by_cases hi : i < met.length
    · rw [List.getElem?_append_left hi] at hy
      obtain ⟨e, h1, h2⟩ := hes i y hy
      exact ⟨e, by rw [Array.getElem?_push, if_neg (by omega)]; exact h1, h2⟩
    · rw [List.getElem?_append_right (by omega)] at hy
      have hi2 : i = met.length := by
        have := (List.getElem?_eq_some_iff.1 hy).1
        simp at this
        omega
      subst hi2
      rw [Nat.sub_self] at hy
      obtain rfl : x = y := by simpa using hy
      refine ⟨{ key := bxV x, val := .int .i64 (met.length : Nat), born := clock }, ?_, rfl, rfl⟩
      rw [show met.length = es.size from hl.symm]
      exact Array.getElem?_push_size

end Go.Proofs.YtpiacnnifdjlkabDoor

/-
  Package include: the table of a word, and behind it another one.
-/
namespace Go.Proofs.YtpiacnnifdjlkabDoor
open Go.RowKit Go.Sort

/-- What then has before it: the second table, and what it has made. -/
structure ThI (w wr : World) (u o : List Nat) : Prop where
  bl : Below w.heap.size w wr
  sz : w.heap.size + 4 ≤ wr.heap.size
  bu : wr.heap[w.heap.size + 1]? = some (.cells (tE u).toArray 109)
  br : wr.heap[w.heap.size + 1 + 1]? = some (.cells #[Value.int .u8 0, Value.int .u8 0, Value.int .u8 0, Value.int .u8 0, Value.int .u8 0, Value.int .u8 0, Value.int .u8 0, Value.int .u8 0, Value.int .u8 0] 109)
  bo : wr.heap[w.heap.size + 1 + 1 + 1]? = some (.cells (tE o).toArray 109)

theorem ThI.below {w wr w2 : World} {u o : List Nat} (h : ThI w wr u o) (hb : Below wr.heap.size wr w2) : ThI w w2 u o :=
  ⟨below_trans h.bl hb, Nat.le_trans h.sz hb.size, belowRow hb h.bu, belowRow hb h.br, belowRow hb h.bo⟩

theorem fourRows (w : World) (a b c d : Obj) : ((((w.alloc a).alloc b).alloc c).alloc d).heap[w.heap.size]? = some a ∧ ((((w.alloc a).alloc b).alloc c).alloc d).heap[w.heap.size + 1]? = some b ∧ ((((w.alloc a).alloc b).alloc c).alloc d).heap[w.heap.size + 1 + 1]? = some c ∧ ((((w.alloc a).alloc b).alloc c).alloc d).heap[w.heap.size + 1 + 1 + 1]? = some d := by
  obtain ⟨h1, h2⟩ := two_alloc w a b
  have h3 := one_new ((w.alloc a).alloc b) c
  have h4 := one_new (((w.alloc a).alloc b).alloc c) d
  rw [World.size_alloc, World.size_alloc] at h3
  rw [World.size_alloc, World.size_alloc, World.size_alloc] at h4
  exact ⟨belowRow (below_new _ _) (belowRow (below_new _ _) h1), belowRow (below_new _ _) (belowRow (below_new _ _) h2), belowRow (below_new _ _) h3, h4⟩

theorem ThI.start (w : World) (t u : List Nat) : ThI w ((((w.alloc (Obj.cells (tE t).toArray 109)).alloc (Obj.cells (tE u).toArray 109)).alloc (Obj.cells #[Value.int .u8 0, Value.int .u8 0, Value.int .u8 0, Value.int .u8 0, Value.int .u8 0, Value.int .u8 0, Value.int .u8 0, Value.int .u8 0, Value.int .u8 0] 109)).alloc (Obj.cells #[Value.int .u8 0, Value.int .u8 0, Value.int .u8 0, Value.int .u8 0, Value.int .u8 0, Value.int .u8 0, Value.int .u8 0, Value.int .u8 0, Value.int .u8 0] 109)) u (List.replicate 9 0) := by
  obtain ⟨_, h2, h3, h4⟩ := fourRows w (Obj.cells (tE t).toArray 109) (Obj.cells (tE u).toArray 109) (Obj.cells #[Value.int .u8 0, Value.int .u8 0, Value.int .u8 0, Value.int .u8 0, Value.int .u8 0, Value.int .u8 0, Value.int .u8 0, Value.int .u8 0, Value.int .u8 0] 109) (Obj.cells #[Value.int .u8 0, Value.int .u8 0, Value.int .u8 0, Value.int .u8 0, Value.int .u8 0, Value.int .u8 0, Value.int .u8 0, Value.int .u8 0, Value.int .u8 0] 109)
  exact ⟨(by repeat (first | exact Below.refl _ _ | assumption | refine below_drewN ?_ _ | refine Below.drew ?_ | refine Below.alloc ?_ (by simp <;> omega) _ | refine below_trans ?_ (by assumption))), by simp, h2, h3, h4⟩

/-- One mark more. -/
theorem ThI.put {w wr : World} {u o : List Nat} (h : ThI w wr u o) (k v : Nat) : ThI w (wr.setCell ⟨w.heap.size + 1 + 1 + 1, k, none⟩ (.int .u8 (v : Nat))) u (o.set k v) := by
  have hs := h.sz
  refine ⟨h.bl.setCell (by show w.heap.size ≤ w.heap.size + 1 + 1 + 1; omega) _, by simpa [World.setCell] using h.sz, ?_, ?_, ?_⟩
  · rw [heap_setCell_other _ _ _ _ (by show w.heap.size + 1 ≠ w.heap.size + 1 + 1 + 1; omega)]; exact h.bu
  · rw [heap_setCell_other _ _ _ _ (by show w.heap.size + 1 + 1 ≠ w.heap.size + 1 + 1 + 1; omega)]; exact h.br
  · have := box_set h.bo k (.int .u8 (v : Nat))
    rw [this, ← tE_set]
    simp

theorem ThI.cell {w wr : World} {u o : List Nat} (h : ThI w wr u o) (ho : o.length = 9) {k : Nat} (hk : k < 9) : wr.cell? ⟨w.heap.size + 1 + 1 + 1, k, none⟩ = some (.int .u8 (o.getD k 0 : Nat)) := by
  rw [cell_of_row _ _ _ _ _ _ h.bo, List.getElem?_toArray]
  exact tE_at (by omega)

theorem ThI.drew {w wr : World} {u o : List Nat} (h : ThI w wr u o) : ThI w wr.drew u o := ⟨h.bl.drew, h.sz, h.bu, h.br, h.bo⟩

theorem then_put {t u : List Nat} {i j k a b : Nat} (hj : j < 3) (hk : k < 3) (ha : a = atT t i j) (hb : b = atT u j k) :
    thenSt t u (9 * i + 3 * j + (k + 1)) = if a ≠ 0 ∧ b ≠ 0 then (thenSt t u (9 * i + 3 * j + k)).set (i * 3 + k) (max (max ((thenSt t u (9 * i + 3 * j + k)).getD (i * 3 + k) 0) a) b) else thenSt t u (9 * i + 3 * j + k) := by
  show thenStep t u (thenSt t u (9 * i + 3 * j + k)) (9 * i + 3 * j + k) = _
  unfold thenStep
  rw [show (9 * i + 3 * j + k) / 9 = i by omega, show (9 * i + 3 * j + k) / 3 % 3 = j by omega, show (9 * i + 3 * j + k) % 3 = k by omega, ← ha, ← hb, show 3 * i + k = i * 3 + k by omega]
  unfold atT
  rw [show 3 * i + k = i * 3 + k by omega]

theorem max_int (v a b : Nat) : (if (if v < a then (a : Int) else (v : Int)) < (b : Int) then (b : Int) else if v < a then (a : Int) else (v : Int)) = ((max (max v a) b : Nat) : Int) := by
  split <;> split at * <;> omega

set_option maxRecDepth 100000 in
set_option maxHeartbeats 1000000 in
theorem then_any {w : World} {t u : List Nat} (ht : tOk t) (hu : tOk u) :
    Calls Tryd.prog 101 #[tV t, tV u] w fun e w' => e = .returned (tV (thenT t u)) ∧ Below w.heap.size w w' := by
  have HS := hide (ThI.start w t u)
  have h0 : ((((w.alloc (Obj.cells (tE t).toArray 109)).alloc (Obj.cells (tE u).toArray 109)).alloc (Obj.cells #[Value.int .u8 0, Value.int .u8 0, Value.int .u8 0, Value.int .u8 0, Value.int .u8 0, Value.int .u8 0, Value.int .u8 0, Value.int .u8 0, Value.int .u8 0] 109)).alloc (Obj.cells #[Value.int .u8 0, Value.int .u8 0, Value.int .u8 0, Value.int .u8 0, Value.int .u8 0, Value.int .u8 0, Value.int .u8 0, Value.int .u8 0, Value.int .u8 0] 109)).heap[w.heap.size]? = some (.cells (tE t).toArray 109) := (fourRows w _ _ _ _).1
  have HL := hide (load_row h0 tabUnder (by rw [tabSize]; simp [tE_len, ht.1]))
  have HA := hide (thenSt_all ht hu)
  have HK := hide (fun k => thenSt_ok ht hu k)
  have HT := hide ht
  have HU := hide hu
  clear h0 ht hu
  go_enter Tryd.func101, Tryd.ntmps101
  go_upto_region 2 with (fail)
  generalize ((((w.alloc (Obj.cells (tE t).toArray 109)).alloc (Obj.cells (tE u).toArray 109)).alloc (Obj.cells #[Value.int .u8 0, Value.int .u8 0, Value.int .u8 0, Value.int .u8 0, Value.int .u8 0, Value.int .u8 0, Value.int .u8 0, Value.int .u8 0, Value.int .u8 0] 109)).alloc (Obj.cells #[Value.int .u8 0, Value.int .u8 0, Value.int .u8 0, Value.int .u8 0, Value.int .u8 0, Value.int .u8 0, Value.int .u8 0, Value.int .u8 0, Value.int .u8 0] 109)) = W0 at *
  go_wp2_with (refine wpl_load HL.out rfl rfl rfl ?_)
  clear HL
  go_loopw [13] (fun iv wr => ∃ i : Nat, i ≤ 3 ∧ iv = .int .i64 i ∧ Hid (ThI w wr u (thenSt t u (9 * i)))) (fun iv _ => 3 - (intOf iv).toNat)
  case atStart => exact ⟨0, by omega, rfl, HS⟩
  case round =>
    obtain ⟨i, hi, rfl, ho⟩ := hrel
    by_cases hlt : i < 3
    · have HI := hide (tab_index (t := t) hlt wr)
      have hr3 := rowT_len HT.out.1 hlt
      have HS2 := hide (run_storeAt_new (P := Tryd.prog) wr 107 #[Value.int .u8 0, Value.int .u8 0, Value.int .u8 0] (tE (rowT t i)).toArray (by rw [rowSize]; simp [tE_len, hr3]) (by simp [tE_len, hr3]) (tE_one _))
      have HL := hide (run_loadAt_new (P := Tryd.prog) wr 107 (tE (rowT t i)).toArray 3 _ markUnder (by rw [rowSize]; simp [tE_len, hr3]))
      have HR3 := hide hr3
      clear hr3
      have HO2 := hide (ho.out.below (below_new wr (Obj.cells (tE (rowT t i)).toArray 107)))
      go_wp2_with (first | refine wpl_index HI.out rfl rfl rfl rfl ?_ | refine wpl_store HS2.out rfl rfl rfl rfl ?_ | refine wpl_load HL.out rfl rfl rfl ?_)
      generalize wr.alloc (Obj.cells (tE (rowT t i)).toArray 107) = W1 at *
      clear HI HS2 HL
      go_loopw [18] (fun jv wr2 => ∃ j : Nat, j ≤ 3 ∧ jv = .int .i64 j ∧ Hid (ThI w wr2 u (thenSt t u (9 * i + 3 * j)))) (fun jv _ => 3 - (intOf jv).toNat)
      case atStart => exact ⟨0, by omega, rfl, HO2⟩
      case round =>
        obtain ⟨j, hj, rfl, hoj⟩ := hrel
        by_cases hjl : j < 3
        · obtain ⟨a, ha⟩ : ∃ a, a = atT t i j := ⟨_, rfl⟩
          have HI : Hid ((Instr.index 107 (tV (rowT t i)) (.int .i64 (j : Nat))).run Tryd.prog wr = .ok (.int .u8 (a : Nat)) wr) := hide (by rw [ha, ← rowT_at hjl]; exact row_index HR3.out hjl wr)
          have HL : Hid ((Instr.loadAt 107 (.pointer (some ⟨w.heap.size + 1, j * 3, none⟩))).run Tryd.prog wr = .ok (tV (rowT u j)) wr) := hide (by
            have := load_part hoj.out.bu (j * 3) markUnder rowSize (by simp [tE_len, HU.out.1]; omega)
            rw [this, List.toList_toArray, tE_part, Nat.mul_comm]
            rfl)
          have HAa := hide ha
          clear ha
          go_wp2_with (first | refine wpl_index HI.out rfl rfl rfl rfl ?_ | refine wpl_load HL.out rfl rfl rfl ?_)
          clear HI HL
          go_loopw [25] (fun kv wr3 => ∃ k : Nat, k ≤ 3 ∧ kv = .int .i64 k ∧ Hid (ThI w wr3 u (thenSt t u (9 * i + 3 * j + k)))) (fun kv _ => 3 - (intOf kv).toNat)
          case atStart => exact ⟨0, by omega, rfl, hoj⟩
          case round =>
            obtain ⟨k, hk, rfl, hok⟩ := hrel
            by_cases hkl : k < 3
            · obtain ⟨b, hb⟩ : ∃ b, b = atT u j k := ⟨_, rfl⟩
              have HI : Hid ((Instr.index 107 (tV (rowT u j)) (.int .i64 (k : Nat))).run Tryd.prog wr = .ok (.int .u8 (b : Nat)) wr) := hide (by rw [hb, ← rowT_at hkl]; exact row_index (rowT_len HU.out.1 hjl) hkl wr)
              have HBb := hide hb
              obtain ⟨v, hv⟩ : ∃ v, v = (thenSt t u (9 * i + 3 * j + k)).getD (i * 3 + k) 0 := ⟨_, rfl⟩
              have hc := hok.out.cell (HK.out _).1 (show i * 3 + k < 9 by omega)
              rw [← hv] at hc
              have hz : wr.frozen? ⟨w.heap.size + 1 + 1 + 1, i * 3 + k, none⟩ = false := by simp [World.frozen?, hok.out.bo]
              have HV := hide hv
              clear hv hb
              by_cases hab : a ≠ 0 ∧ b ≠ 0
              · have d1 : ((a : Int) != 0) = true := by simp; omega
                have d2 : ((b : Int) != 0) = true := by simp; omega
                go_wp2_with (first | refine wpl_index HI.out rfl rfl rfl rfl ?_)
                have HD := hide (And.intro hok.out.bl hab)
                clear hab
                go_region
                rw [max_int]
                generalize hm : max (max v a) b = mv
                have HM := hide hm
                clear hm
                go_wp2_with (fail)
                go_roundw
                case rel => exact ⟨k + 1, by omega, by go_num, hide (by rw [then_put hjl hkl HAa.out HBb.out, if_pos HD.out.2, ← HV.out, HM.out]; exact (hok.out.put _ _).drew)⟩
                case measure => simp [intOf]; omega
              · have HD := hide hab
                by_cases ha0 : a = 0
                · have d1 : ((a : Int) != 0) = false := by simp; omega
                  clear hab ha0
                  go_wp2_with (first | refine wpl_index HI.out rfl rfl rfl rfl ?_)
                  go_roundw
                  case rel => exact ⟨k + 1, by omega, by go_num, hide (by rw [then_put hjl hkl HAa.out HBb.out, if_neg HD.out]; exact hok.out)⟩
                  case measure => simp [intOf]; omega
                · have d2 : ((b : Int) != 0) = false := by simp; omega
                  have d1 : ((a : Int) != 0) = true := by simp; omega
                  clear hab ha0
                  go_wp2_with (first | refine wpl_index HI.out rfl rfl rfl rfl ?_)
                  go_roundw
                  case rel => exact ⟨k + 1, by omega, by go_num, hide (by rw [then_put hjl hkl HAa.out HBb.out, if_neg HD.out]; exact hok.out)⟩
                  case measure => simp [intOf]; omega
            · have hk3 : k = 3 := by omega
              subst hk3
              go_wp2_with (fail)
              go_roundw
              case rel => exact ⟨j + 1, by omega, by go_num, hok⟩
              case measure => simp [intOf]; omega
        · have hj3 : j = 3 := by omega
          subst hj3
          go_wp2_with (fail)
          go_roundw
          case rel => exact ⟨i + 1, by omega, by go_num, hoj⟩
          case measure => simp [intOf]; omega
    · have hi3 : i = 3 := by omega
      subst hi3
      have hbo := ho.out.bo
      rw [show 9 * 3 = 27 from rfl, HA.out] at hbo
      have hlen : (thenT t u).length = 9 := (tOk_then HT.out HU.out).1
      have HL := hide (load_row hbo tabUnder (by rw [tabSize]; simp [tE_len, hlen]))
      have HS2 := hide (store_row (cs := (tE (thenT t u)).toArray) (ty := 109) ho.out.br (by rw [tabSize]; simp [tE_len, hlen]) (by simp [tE_len, hlen]) (tE_one _))
      have hrow := setRow_heap wr (w.heap.size + 1 + 1) _ (tE (thenT t u)).toArray _ _ ho.out.br
      have HE := hide (loadV_row hrow tabUnder rfl (by rw [tabSize]; simp [tE_len, hlen]))
      have HB := hide (below_setRow ho.out.bl (b := w.heap.size + 1 + 1) (by omega) (tE (thenT t u)).toArray)
      clear hbo hrow hlen
      go_wp2_with (first | refine wpl_store HS2.out rfl rfl rfl rfl ?_ | refine wpl_load HL.out rfl rfl rfl ?_)
      exact bodyPost_ret (v := tV (thenT t u)) (res_cell HE.out Tryd.results101 rfl) rfl ⟨rfl, HB.out⟩

end Go.Proofs.YtpiacnnifdjlkabDoor

namespace Go.Proofs.YtpiacnnifdjlkabDoor
open Go.RowKit Go.Sort

theorem fill_cons {place : Nat → Option (Nat × Nat)} {cells : List Value} {i off size : Nat} {v : Value} {rest : List (Nat × Value)} (hp : place i = some (off, size)) (hv : v.cells.size = size) (hle : off + size ≤ cells.length) :
    Instr.fill place cells.toArray ((i, v) :: rest) = Instr.fill place (cells.take off ++ v.cells.toList ++ cells.drop (off + size)).toArray rest := by
  conv => lhs; unfold Instr.fill
  rw [hp]
  simp only [hv]
  rw [if_neg (by simp; omega)]
  refine congrArg (fun c => Instr.fill place c rest) ?_
  rw [← Array.foldl_toList, Array.toList_zipIdx]
  obtain ⟨h1, h2⟩ := Great.foldl_set off v.cells.toList 0 cells.toArray
  apply Array.ext_getElem?
  intro k
  rw [h2 k]
  have hl : v.cells.toList.length = size := by simpa using hv
  simp only [Nat.add_zero, List.getElem?_toArray, List.size_toArray, hl]
  by_cases c1 : k < off
  · rw [if_neg (by omega), List.append_assoc, List.getElem?_append_left (by simp; omega), List.getElem?_take, if_pos c1]
  · by_cases c2 : k < off + size
    · rw [if_pos ⟨by omega, c2, by omega⟩, List.getElem?_append_left (by simp; omega), List.getElem?_append_right (by simp; omega)]
      rw [List.length_take, Nat.min_eq_left (by omega)]
    · rw [if_neg (by omega), List.getElem?_append_right (by simp; omega)]
      rw [List.getElem?_drop, List.length_append, List.length_take, hl, Nat.min_eq_left (by omega), show off + size + (k - (off + size)) = k by omega]

theorem zero_box : ∃ it, Tryd.prog.info? 111 = some it ∧ it.zero = some (.agg (tE (List.replicate 18 0)).toArray) := ⟨Tryd.t111, by kernel_rfl, by kernel_rfl⟩

theorem build_box {s t : List Nat} (hs : s.length = 9) (ht : t.length = 9) (w : World) : (Instr.build 111 #[(0, tV s), (1, tV t)]).run Tryd.prog w = .ok (bxV (s, t)) w := by
  refine run_build w _ _ _ ?_
  obtain ⟨it, hi, hz⟩ := zero_box
  obtain ⟨ie, hq, hsz⟩ := info_of_size tabSize
  have e1 : (Value.agg (tE s).toArray).cells.size = 9 := by simp [Value.cells, tE_len, hs]
  have e2 : (Value.agg (tE t).toArray).cells.size = 9 := by simp [Value.cells, tE_len, ht]
  unfold Program.built
  simp only [hi, boxUnder, hz, hq, hsz]
  show Instr.fill (fun i => some (i * 9, 9)) (tE (List.replicate 18 0)).toArray [(0, tV s), (1, tV t)] = _
  rw [fill_cons (off := 0) rfl e1 (by simp [tE]), fill_cons (off := 9) rfl e2 (by simp [tE, Value.cells, hs])]
  unfold Instr.fill
  refine congrArg some ?_
  simp [Value.cells, bxE, tE, hs]

/-- An entry: a box, the number of the one ahead of it, a letter. -/
abbrev En : Type := Bx × Nat × Nat
def enE (e : En) : List Value := bxE e.1 ++ [.int .i64 (e.2.1 : Nat), .int .i64 (e.2.2 : Nat)]
abbrev enV (e : En) : Value := .agg (enE e).toArray

theorem enE_len {e : En} (h : bOk e.1) : (enE e).length = 20 := by rw [enE, List.length_append, bxE_len h]; rfl

theorem enUnder : ∃ fs, Tryd.prog.underlying 144 = some (.struct fs) ∧ fs.toList.mapM (fun f => (Tryd.prog.info? f.type).map fun i => (f.offset, i.size)) = some [(0, 18), (18, 1), (19, 1)] := ⟨_, Tryd.underlying144, by kernel_rfl⟩

theorem zero_entry : Tryd.t144.zero = some (.agg (tE (List.replicate 18 0) ++ [Value.int .i64 0, Value.int .i64 0]).toArray) := by kernel_rfl

theorem build_entry {b : Bx} (hb : bOk b) (x y : Nat) (w : World) : (Instr.build 144 #[(0, bxV b), (1, .int .i64 (x : Nat)), (2, .int .i64 (y : Nat))]).run Tryd.prog w = .ok (enV (b, x, y)) w := by
  refine run_build w _ _ _ ?_
  obtain ⟨fs, hu, hpl⟩ := enUnder
  have hi : Tryd.prog.info? 144 = some Tryd.t144 := by kernel_rfl
  have e1 : (Value.agg (bxE b).toArray).cells.size = 18 := by simp [Value.cells, bxE_len hb]
  unfold Program.built
  simp only [hi, hu, zero_entry, hpl]
  show Instr.fill _ (tE (List.replicate 18 0) ++ [Value.int .i64 0, .int .i64 0]).toArray [(0, bxV b), (1, .int .i64 (x : Nat)), (2, .int .i64 (y : Nat))] = _
  rw [fill_cons (off := 0) (size := 18) rfl e1 (by simp [tE]), fill_cons (off := 18) (size := 1) rfl rfl (by simp [tE, Value.cells, bxE_len hb]), fill_cons (off := 19) (size := 1) rfl rfl (by simp [tE, Value.cells, bxE_len hb])]
  unfold Instr.fill
  refine congrArg some ?_
  have d19 : (bxE b).drop 19 = [] := List.drop_eq_nil_of_le (by rw [bxE_len hb]; omega)
  have d20 : (bxE b).drop 20 = [] := List.drop_eq_nil_of_le (by rw [bxE_len hb]; omega)
  have t19 : (bxE b).take 19 = bxE b := List.take_of_length_le (by rw [bxE_len hb]; omega)
  simp [Value.cells, enE, tE, bxE_len hb, List.take_append, List.drop_append, d19, d20, t19]

theorem build_entry0 {b : Bx} (hb : bOk b) (w : World) : (Instr.build 144 #[(0, bxV b)]).run Tryd.prog w = .ok (enV (b, 0, 0)) w := by
  refine run_build w _ _ _ ?_
  obtain ⟨fs, hu, hpl⟩ := enUnder
  have hi : Tryd.prog.info? 144 = some Tryd.t144 := by kernel_rfl
  have e1 : (Value.agg (bxE b).toArray).cells.size = 18 := by simp [Value.cells, bxE_len hb]
  unfold Program.built
  simp only [hi, hu, zero_entry, hpl]
  show Instr.fill _ (tE (List.replicate 18 0) ++ [Value.int .i64 0, .int .i64 0]).toArray [(0, bxV b)] = _
  rw [fill_cons (off := 0) (size := 18) rfl e1 (by simp [tE])]
  unfold Instr.fill
  refine congrArg some ?_
  simp [Value.cells, enE, tE]

/-- A slice of one element. -/
theorem slice_one {t e : TypeId} {ie : TypeInfo} {z : Value} {cs : List Value} {m : Nat} (hu : Tryd.prog.underlying t = some (.slice e)) (hie : Tryd.prog.info? e = some ie) (hz : ie.zero = some z) (hm : ie.size = m) (hc : cs.length = m) (h0 : 0 < m) (h1 : m ≤ 100) (w : World) :
    (Instr.buildSlice t 1 #[(0, .agg cs.toArray)]).run Tryd.prog w = .ok (.slice (some ⟨w.heap.size, 0, none⟩) 1 1) (w.alloc (.cells cs.toArray e)) := by
  refine run_buildSlice w t e 1 _ cs.toArray ie z hu hie hz (by omega) (by omega) ?_
  obtain ⟨zl, hzl⟩ : ∃ zl : List Value, zl.toArray = (Array.range (1 * ie.size)).map (z.cells[· % z.cells.size]!) := ⟨((Array.range (1 * ie.size)).map (z.cells[· % z.cells.size]!)).toList, Array.toArray_toList ..⟩
  have hl : zl.length = m := by
    have := congrArg Array.size hzl
    simpa [hm] using this
  rw [← hzl]
  show Instr.fill _ zl.toArray [(0, .agg cs.toArray)] = _
  rw [fill_cons (off := 0) (size := m) (by rw [Nat.zero_mul, hm]) (by simp [Value.cells, hc]) (by omega)]
  unfold Instr.fill
  refine congrArg some ?_
  rw [Nat.zero_add, List.drop_eq_nil_of_le (by omega)]
  simp [Value.cells]

theorem putPairs_congr {vs us : Nat → Value} : ∀ (ds : List (Nat × Tmp)) (t : Array Value), (∀ p ∈ ds, vs p.1 = us p.1) → putPairs vs ds t = putPairs us ds t
  | [], _, _ => rfl
  | (i, d) :: ds, t, h => by
    show putPairs vs ds (t.setIfInBounds d (vs i)) = putPairs us ds (t.setIfInBounds d (us i))
    rw [h (i, d) (List.mem_cons_self ..)]
    exact putPairs_congr ds _ (fun p hp => h p (List.mem_cons_of_mem _ hp))

/-- What an operation of such a region is asked for. -/
def ValOk (ops : Array Oper) (a0 : Act) (val : Nat → Value) (Wp : World → Prop) (i : Nat) (o : Oper) : Prop :=
  ∀ (a : Act) (W : World), Wp W → (∀ t, free ops i t = true → a.tmps[t]?.getD undef = a0.tmps[t]?.getD undef) → (∀ j d, dep o j = true → dstAt ops j = some d → a.tmps[d]?.getD undef = val j) →
    (execOp a.eval o).run Tryd.prog W = .ok (.value (val i)) W ∨ ∃ f args, (execOp a.eval o).run Tryd.prog W = .ok (.enter f args) W ∧ Calls Tryd.prog f args W fun e w' => e = .returned (val i) ∧ Wp w'

/-- A region that draws its order: all values are told ahead, the world is only kept; a row is stored at the end. -/
theorem wp_region_vals {ops : Array Oper} {Q : Exit → Act → World → Prop} {a0 : Act} {id : Nat} {w : World} (L : Nat) (ds : List (Nat × Tmp)) (val : Nat → Value) (Wp : World → Prop) (ty : TypeId) (ka kv y : Nat) (cs : Array Value) (hds : dstList ops (List.range L) = ds) (hlt : (ds.all fun p => decide (p.1 < L)) = true) (hm : Tryd.prog.follows .mixedOrders = true) (h : orderly ops a0.tmps.size = true) (hh : hung ops = true) (hsz : ops.size = L + 1)
    (hop : ops[L]?.map (fun o => (o.op, o.dst)) = some (.store ty (.tmp ka) (.tmp kv), none)) (hL : 0 < L) (h0 : Wp { w with drawn := w.drawn + 1 }) (hstep : ∀ i o, i < L → ops[i]? = some o → ValOk ops a0 val Wp i o)
    (hka : (putPairs val ds a0.tmps)[ka]?.getD undef = .pointer (some ⟨y, 0, none⟩)) (hkv : (putPairs val ds a0.tmps)[kv]?.getD undef = .agg cs)
    (hst : ∀ W, Wp W → (Instr.storeAt ty (.pointer (some ⟨y, 0, none⟩)) (.agg cs)).run Tryd.prog W = .ok () (W.setRow y cs))
    (hend : ∀ W, Wp W → Q .normal { a0 with tmps := putPairs val ds a0.tmps } (W.setRow y cs)) : (Code.region id ops true).wp Tryd.prog Q a0 w := by
  have hgen : ∀ i o, i < L → ops[i]? = some o → ∀ (a : Act) (W : World) (vs : Nat → Value), Wp W → (∀ t, free ops i t = true → a.eval (.tmp t) = a0.eval (.tmp t)) → (∀ j, dep o j = true → (fun i v (_ : World) => v = val i) j (vs j) W ∧ ∀ d, dstAt ops j = some d → a.eval (.tmp d) = vs j) →
      ∀ K : Act → World → Prop, (∀ w', Wp w' → K (a.put o.dst (val i)) w') → o.wp Tryd.prog a W K Q := fun i o hi ho a W vs hW he hd K hK => by
    have k1 : ∀ t, free ops i t = true → a.tmps[t]?.getD undef = a0.tmps[t]?.getD undef := fun t ht => free_val he t ht
    have k2 : ∀ j d, dep o j = true → dstAt ops j = some d → a.tmps[d]?.getD undef = val j := fun j d h1 h2 => dep_val (w := W) (R := fun i v _ => v = val i) hd j d h1 h2
    rcases hstep i o hi ho a W hW k1 k2 with hr | ⟨f, args, hr, hc⟩
    · unfold Oper.wp
      rw [hr]
      exact hK W hW
    · unfold Oper.wp
      rw [hr, Oper.upon_enter]
      exact hc.mono fun e w' ⟨he, h1⟩ => by subst he; exact hK w' h1
  cases ho : ops[L]? with
  | none => rw [ho] at hop; cases hop
  | some oL =>
    rw [ho] at hop
    injection hop with hop
    injection hop with hop1 hop2
    refine wp_region_last L 0 oL ds (fun _ => Wp) (fun i v _ => v = val i) hds hm h hh hsz ho hL h0 (fun i o hi _ ho _ a W vs hW he hd => hgen i o hi ho a W vs hW he hd _ fun w' h' => ⟨_, rfl, h', rfl, fun _ _ h => h⟩) (fun o ho a W vs hW he hd => hgen 0 o hL ho a W vs hW he hd _ fun w' h' => ⟨_, rfl, h', rfl, fun _ _ _ h => h⟩) fun vs W hW hR => ?_
    rw [putPairs_congr ds a0.tmps (fun p hp => hR p.1 (by simpa using List.all_eq_true.1 hlt p hp))]
    unfold Oper.wp execOp
    simp only [hop1, eval_tmp, hka, hkv, Sem.run_bind, hst W hW, Result.andThen_ok, Sem.run_pure]
    show Q .normal (Act.put _ oL.dst undef) (W.setRow y cs)
    rw [hop2]
    exact hend W hW

end Go.Proofs.YtpiacnnifdjlkabDoor
