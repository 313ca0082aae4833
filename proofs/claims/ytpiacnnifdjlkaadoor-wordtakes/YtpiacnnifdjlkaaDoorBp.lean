/-
  The map of spots that were met: what is looked up in it and stored.
-/
import Derived.Test.YtpiacnnifdjlkaaDoorBo
import Derived.MapKept
namespace Go.Proofs.YtpiacnnifdjlkaaDoor
open Go.RowKit Go.Sort Go.MapKept

/-- All but these blocks is as it was. -/
structure Fr (R : List Nat) (w w' : World) : Prop where
  os : w'.os = w.os
  tape : w'.tape = w.tape
  output : w'.output = w.output
  size : w.heap.size ≤ w'.heap.size
  block : ∀ k, k < w.heap.size → k ∉ R → w'.heap[k]? = w.heap[k]?

theorem Fr.refl (R : List Nat) (w : World) : Fr R w w := ⟨rfl, rfl, rfl, Nat.le_refl _, fun _ _ _ => rfl⟩

theorem Fr.trans {R : List Nat} {a b c : World} (h : Fr R a b) (k : Fr R b c) : Fr R a c :=
  ⟨k.os.trans h.os, k.tape.trans h.tape, k.output.trans h.output, Nat.le_trans h.size k.size, fun i hi hn => (k.block i (Nat.lt_of_lt_of_le hi h.size) hn).trans (h.block i hi hn)⟩

theorem Fr.of_below {R : List Nat} {w w' : World} (h : Below w.heap.size w w') : Fr R w w' := ⟨h.os, h.tape, h.output, h.size, fun k hk _ => h.block k hk⟩

theorem Fr.mono {R R' : List Nat} {w w' : World} (h : Fr R w w') (hs : ∀ k, k ∈ R → k ∈ R') : Fr R' w w' :=
  ⟨h.os, h.tape, h.output, h.size, fun k hk hn => h.block k hk (fun hm => hn (hs k hm))⟩

theorem Fr.cell {R : List Nat} {w w' : World} (h : Fr R w w') {p : Addr} (hp : p.block < w.heap.size) (hn : p.block ∉ R) : w'.cell? p = w.cell? p := World.cell?_of_block (w := w) (h.block p.block hp hn)

theorem Fr.frozen {R : List Nat} {w w' : World} (h : Fr R w w') {p : Addr} (hp : p.block < w.heap.size) (hn : p.block ∉ R) : w'.frozen? p = w.frozen? p := World.frozen?_of_block (w := w) (h.block p.block hp hn)

def stV (B : Nat → Nat) : Value := .agg #[.int .u64 (B 0), .int .u64 (B 1), .int .u64 (B 2), .int .u64 (B 3), .int .u64 (B 4)]

/-- The map in block r has, by place, these sets. -/
def MetAt (w : World) (r : Nat) (M : Nat → Nat → Nat) : Prop :=
  (∀ p, Words (M p)) ∧ ∃ es clock, w.heap[r]? = some (.map es clock) ∧ (∀ e ∈ es.toList, ∃ q : Nat, e.key = .int .i64 q ∧ e.val = stV (M q)) ∧
    (∀ q : Nat, (∀ e ∈ es.toList, e.key ≠ .int .i64 q) → M q = fun _ => 0) ∧ (es.toList.map (·.key)).Nodup

theorem MetAt.lt {w : World} {r : Nat} {M : Nat → Nat → Nat} (h : MetAt w r M) : r < w.heap.size := by
  obtain ⟨_, es, clock, hr, _⟩ := h
  exact (Array.getElem?_eq_some_iff.1 hr).1

theorem MetAt.keep {w w' : World} {r : Nat} {M : Nat → Nat → Nat} (h : MetAt w r M) (hb : w'.heap[r]? = w.heap[r]?) : MetAt w' r M := by
  obtain ⟨hw, es, clock, hr, h2⟩ := h
  exact ⟨hw, es, clock, by rw [hb]; exact hr, h2⟩

theorem MetAt.fr {w w' : World} {r : Nat} {M : Nat → Nat → Nat} {R : List Nat} (h : MetAt w r M) (hb : Fr R w w') (hn : r ∉ R) : MetAt w' r M := h.keep (hb.block r h.lt hn)

theorem MetAt.below {w w' : World} {r : Nat} {M : Nat → Nat → Nat} (h : MetAt w r M) (hb : Below w.heap.size w w') : MetAt w' r M := h.keep (hb.block r h.lt)

theorem find_spec (p : Nat) : ∀ (l : List MapEntry) (i : Nat), (∀ e ∈ l, ∃ q : Nat, e.key = .int .i64 q) →
    (Instr.findNow (.int .i64) (.int .i64 p) l i = some none ∧ ∀ e ∈ l, e.key ≠ .int .i64 p) ∨
    ∃ j e, l[j]? = some e ∧ e.key = .int .i64 p ∧ Instr.findNow (.int .i64) (.int .i64 p) l i = some (some (i + j, e.val))
  | [], i, _ => Or.inl ⟨rfl, by simp⟩
  | e :: l, i, h => by
    obtain ⟨q, hq⟩ := h e (by simp)
    by_cases hpq : p = q
    · right
      subst hpq
      exact ⟨0, e, rfl, hq, by simp [Instr.findNow, Instr.sameNow, hq]⟩
    · have hne : ((p : Int) == (q : Int)) = false := by rw [beq_eq_false_iff_ne]; omega
      have hstep : Instr.findNow (.int .i64) (.int .i64 p) (e :: l) i = Instr.findNow (.int .i64) (.int .i64 p) l (i + 1) := by
        simp [Instr.findNow, Instr.sameNow, hq, hne]
      rcases find_spec p l (i + 1) (fun x hx => h x (by simp [hx])) with ⟨h1, h2⟩ | ⟨j, x, h1, h2, h3⟩
      · left
        refine ⟨by rw [hstep, h1], fun x hx => ?_⟩
        rcases List.mem_cons.1 hx with rfl | hx
        · rw [hq]; intro e; simp at e; omega
        · exact h2 x hx
      · right
        exact ⟨j + 1, x, by simpa using h1, h2, by rw [hstep, h3]; simp; omega⟩

theorem isKey_int (p : Int) : IsKey (.int .i64) (.int .i64 p) := by simp [IsKey]

theorem run_lookup_met {w : World} {r : Nat} {M : Nat → Nat → Nat} (h : MetAt w r M) (p : Nat) : (Instr.lookup 148 (.map (some r)) (.int .i64 p) false).run Tryd.prog w = .ok (stV (M p)) w := by
  obtain ⟨hw, es, clock, hr, hes, hno, hnd⟩ := h
  have hk := run_checkKey (P := Tryd.prog) (w := w) Tryd.underlying3 (isKey_int p) es.isEmpty 9999
  rcases find_spec p es.toList 0 (fun e he => let ⟨q, hq, _⟩ := hes e he; ⟨q, hq⟩) with ⟨h1, h2⟩ | ⟨j, e, h1, h2, h3⟩
  · have hf := run_findKey (P := Tryd.prog) (w := w) Tryd.underlying3 h1
    have hM : M p = fun _ => 0 := hno p h2
    have hz : stV (M p) = .agg #[.int .u64 0, .int .u64 0, .int .u64 0, .int .u64 0, .int .u64 0] := by rw [hM]; rfl
    rw [hz]
    simp [Instr.lookup, run_underlying Tryd.underlying148, Go.MapKept.run_getObj_map hr, hk, hf]
  · have hf := run_findKey (P := Tryd.prog) (w := w) Tryd.underlying3 h3
    have hv : e.val = stV (M p) := by
      obtain ⟨q, hq, hv⟩ := hes e (List.mem_of_getElem? h1)
      rw [h2] at hq
      have : p = q := by simp at hq; omega
      subst this
      exact hv
    rw [hv] at hf
    simp [Instr.lookup, run_underlying Tryd.underlying148, Go.MapKept.run_getObj_map hr, hk, hf]

def updM (M : Nat → Nat → Nat) (p : Nat) (B : Nat → Nat) : Nat → Nat → Nat := fun q => if q = p then B else M q

theorem run_update_met {w : World} {r : Nat} {M : Nat → Nat → Nat} (h : MetAt w r M) (p : Nat) (B : Nat → Nat) (hB : Words B) :
    ∃ w', (Instr.mapUpdate 148 (.map (some r)) (.int .i64 p) (stV B)).run Tryd.prog w = .ok () w' ∧ MetAt w' r (updM M p B) ∧ Fr [r] w w' := by
  obtain ⟨hw, es, clock, hr, hes, hno, hnd⟩ := h
  have hd := Tryd.underlying3
  have hk := isKey_int p
  have hfr : ∀ o, Fr [r] w { w with heap := w.heap.setIfInBounds r o } := fun o =>
    ⟨rfl, rfl, rfl, by simp, fun k _ hn => (heap_set (o' := o) hr).2 k (by simpa using hn)⟩
  have hwm : ∀ q, Words (updM M p B q) := fun q => by
    unfold updM
    split
    · exact hB
    · exact hw q
  rcases find_spec p es.toList 0 (fun e he => let ⟨q, hq, _⟩ := hes e he; ⟨q, hq⟩) with ⟨h1, h2⟩ | ⟨j, e, h1, h2, h3⟩
  · refine ⟨{ w with heap := w.heap.setIfInBounds r (.map (es.push { key := .int .i64 p, val := stV B, born := clock }) (clock + 1)) }, ?_, ⟨hwm, _, _, (heap_set hr).1, ?_, ?_, ?_⟩, hfr _⟩
    · simp [Instr.mapUpdate, run_underlying Tryd.underlying148, Go.MapKept.run_getObj_map hr, Go.MapKept.run_checkKey hd hk, Go.MapKept.run_findKey hd h1, Go.MapKept.run_setObj_map _ hr, Result.andThen]
    · intro x hx
      simp only [Array.toList_push, List.mem_append, List.mem_singleton] at hx
      rcases hx with hx | rfl
      · obtain ⟨q, hq, hv⟩ := hes x hx
        refine ⟨q, hq, ?_⟩
        have : ¬ q = p := by intro e; subst e; exact h2 x hx hq
        unfold updM; rw [if_neg this]; exact hv
      · exact ⟨p, rfl, by unfold updM; rw [if_pos rfl]⟩
    · intro q hq
      have hqp : ¬ q = p := by
        intro e; subst e
        exact hq { key := .int .i64 q, val := stV B, born := clock } (by simp) rfl
      unfold updM; rw [if_neg hqp]
      exact hno q fun x hx => hq x (by simp [Array.toList_push, hx])
    · rw [Array.toList_push, List.map_append, List.nodup_append]
      refine ⟨hnd, by simp, ?_⟩
      intro a ha b hb
      simp at hb
      subst hb
      obtain ⟨x, hx, rfl⟩ := List.mem_map.1 ha
      exact h2 x hx
  · have hj : es[j]? = some e := by simpa using h1
    have hjl : j < es.size := (Array.getElem?_eq_some_iff.1 hj).1
    refine ⟨{ w with heap := w.heap.setIfInBounds r (.map (es.modify j fun e => { e with key := .int .i64 p, val := stV B }) clock) }, ?_, ⟨hwm, _, _, (heap_set hr).1, ?_, ?_, ?_⟩, hfr _⟩
    · rw [Nat.zero_add] at h3
      simp [Instr.mapUpdate, run_underlying Tryd.underlying148, Go.MapKept.run_getObj_map hr, Go.MapKept.run_checkKey hd hk, Go.MapKept.run_findKey hd h3, hj, h2, Go.MapKept.run_keyThatStays hk, Go.MapKept.run_setObj_map _ hr, Result.andThen]
    · intro x hx
      obtain ⟨i, hi⟩ := List.mem_iff_getElem?.1 hx
      rw [Array.getElem?_toList, Array.getElem?_modify] at hi
      by_cases hij : j = i
      · subst hij
        rw [if_pos rfl, hj] at hi
        simp at hi
        subst hi
        exact ⟨p, rfl, by unfold updM; rw [if_pos rfl]⟩
      · rw [if_neg hij] at hi
        have hxm : x ∈ es.toList := by rw [Array.mem_toList_iff]; exact Array.mem_of_getElem? hi
        obtain ⟨q, hq, hv⟩ := hes x hxm
        refine ⟨q, hq, ?_⟩
        have hqp : ¬ q = p := by
          intro e; subst e
          have a1 : (es.toList.map (·.key))[j]? = some (.int .i64 q) := by simp [hj, h2]
          have a2 : (es.toList.map (·.key))[i]? = some (.int .i64 q) := by simp [hi, hq]
          exact hij ((List.getElem?_inj (by simpa using hjl) hnd).1 (a1.trans a2.symm))
        unfold updM; rw [if_neg hqp]; exact hv
    · intro q hq
      have hkeys := Go.MapKept.modify_keys (es := es) j (fun e => { e with key := .int .i64 p, val := stV B }) (fun e' he' => by rw [hj] at he'; cases he'; exact h2.symm)
      have hall : ∀ x ∈ es.toList, x.key ≠ .int .i64 q := by
        intro x hx e1
        have : x.key ∈ (es.modify j fun e => { e with key := .int .i64 p, val := stV B }).toList.map (·.key) := by rw [hkeys]; exact List.mem_map.2 ⟨x, hx, rfl⟩
        obtain ⟨y, hy, e2⟩ := List.mem_map.1 this
        exact hq y hy (e2.trans e1)
      have hqp : ¬ q = p := by
        intro e1; subst e1
        exact hall e (List.mem_of_getElem? h1) h2
      unfold updM; rw [if_neg hqp]
      exact hno q hall
    · rw [Go.MapKept.modify_keys (es := es) j (fun e => { e with key := .int .i64 p, val := stV B }) (fun e' he' => by rw [hj] at he'; cases he'; exact h2.symm)]
      exact hnd
end Go.Proofs.YtpiacnnifdjlkaaDoor
