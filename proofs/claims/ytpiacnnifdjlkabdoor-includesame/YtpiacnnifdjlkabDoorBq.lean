/-
  Plain facts on looking through a graph as deep as one can first: what is kept while one goes, and what is known when nothing was found.
-/
import Derived.Test.YtpiacnnifdjlkabDoorBn
import Derived.Lib.TrailingZeros
import Derived.MapKept
/-
  What TrailingZeros64 and without answer.
-/
namespace Go.Proofs.YtpiacnnifdjlkabDoor
open Go.RowKit Go.Sort

/-- The library's table of 64 bytes, as it is laid. -/
def Tab (w : World) : Prop := ∀ i, i < 64 → w.cell? ⟨0, i, none⟩ = some (.int .u8 (Lib.deBruijn64tab.getD i 0 : Nat))

theorem Tab.below {w w' : World} (h : Tab w) (hb : Below w.heap.size w w') : Tab w' := fun i hi => by
  have := h i hi
  rw [hb.cell (World.block_lt_of_cell? w _ this)]; exact this

theorem cast_quo (y c m d : Nat) : (y : Int) * (c : Int) % (m : Int) / (d : Int) = ((y * c % m / d : Nat) : Int) := by push_cast; rfl

theorem quo_range (x : Int) : 0 ≤ IntKind.u64.wrap x / 288230376151711744 ∧ IntKind.u64.wrap x / 288230376151711744 < 64 := by
  rw [IntKind.wrap_u64]; omega

theorem tz_index (x : Nat) (h0 : x ≠ 0) (hx : x < 18446744073709551616) :
    (IntKind.u64.wrap (bits BinOp.and IntKind.u64 (x : Int) (IntKind.u64.wrap (-(x : Int))) * 285870213051353865) / 288230376151711744).toNat < 64 ∧
    Lib.deBruijn64tab.getD (IntKind.u64.wrap (bits BinOp.and IntKind.u64 (x : Int) (IntKind.u64.wrap (-(x : Int))) * 285870213051353865) / 288230376151711744).toNat 0 = Lib.ctz 64 x := by
  obtain ⟨h1, h2⟩ := Lib.lowest_bit 64 x h0 hx
  have e1 : IntKind.u64.wrap (-(x : Int)) = ((2 ^ 64 - x : Nat) : Int) := by rw [IntKind.wrap_u64]; omega
  have e2 : bits BinOp.and IntKind.u64 (x : Int) ((2 ^ 64 - x : Nat) : Int) = ((2 ^ Lib.ctz 64 x : Nat) : Int) := by
    rw [bits_and_u64_nat x (2 ^ 64 - x) hx (by omega), h1]
  rw [e1, e2, IntKind.wrap_u64]
  have e3 : (((2 ^ Lib.ctz 64 x : Nat) : Int) * 285870213051353865 % 18446744073709551616 / 288230376151711744).toNat = 2 ^ Lib.ctz 64 x * 285870213051353865 % 18446744073709551616 / 288230376151711744 := by
    generalize 2 ^ Lib.ctz 64 x = y
    have e4 : (y : Int) * 285870213051353865 % 18446744073709551616 / 288230376151711744 = ((y * 285870213051353865 % 18446744073709551616 / 288230376151711744 : Nat) : Int) := cast_quo y 285870213051353865 18446744073709551616 288230376151711744
    rw [e4, Int.toNat_natCast]
  rw [e3]
  exact Lib.deBruijn64_at _ h2

set_option maxHeartbeats 400000 in
theorem tz_any (x : Nat) (w : World) (h0 : ((x : Int) == 0) = false) (hx : x < 18446744073709551616) (ht : Tab w) :
    Calls Tryd.prog 112 #[.int .u64 x] w fun e w' => e = .returned (.int .i64 (Lib.ctz 64 x : Nat)) ∧ w' = w := by
  obtain ⟨h1, h2⟩ := tz_index x (by intro e; subst e; simp at h0) hx
  have hc := ht _ h1
  rw [h2] at hc
  have hlt : Lib.ctz 64 x < 64 := (Lib.lowest_bit 64 x (by intro e; subst e; simp at h0) hx).2
  generalize Lib.ctz 64 x = z at *
  obtain ⟨q0, q1⟩ := quo_range (bits BinOp.and IntKind.u64 (x : Int) (IntKind.u64.wrap (-(x : Int))) * 285870213051353865)
  clear h1 h2 ht
  go_enter Tryd.func112, Tryd.ntmps112
  go_wp2
  go_ret
  exact ⟨rfl, rfl⟩

/-- What is in one word and not in the other one. -/
def lessW (x y : Nat) : Nat := x &&& (18446744073709551615 - y)

theorem andNot_word (x y : Nat) (hx : x < 18446744073709551616) (hy : y < 18446744073709551616) : bits BinOp.andNot IntKind.u64 (x : Int) (y : Int) = ((lessW x y : Nat) : Int) := u64_andNot_nat x y hx hy

theorem lessW_lt (x y : Nat) (hx : x < 18446744073709551616) : lessW x y < 18446744073709551616 :=
  Nat.lt_of_le_of_lt Nat.and_le_left hx

theorem lessW_bit (x y c : Nat) (hy : y < 18446744073709551616) (hc : c < 64) : (lessW x y).testBit c = (x.testBit c && !y.testBit c) := by
  unfold lessW
  rw [Nat.testBit_and, show 18446744073709551615 - y = 2 ^ 64 - (y + 1) by omega, Nat.testBit_two_pow_sub_succ hy]
  simp [hc]

theorem ctz_bit (z : Nat) (h0 : z ≠ 0) (hz : z < 18446744073709551616) : z.testBit (Lib.ctz 64 z) = true ∧ Lib.ctz 64 z < 64 := by
  obtain ⟨h1, h2⟩ := Lib.lowest_bit 64 z h0 hz
  refine ⟨?_, h2⟩
  have : (z &&& (2 ^ 64 - z)).testBit (Lib.ctz 64 z) = true := by rw [h1]; simp
  rw [Nat.testBit_and, Bool.and_eq_true] at this
  exact this.1

theorem index_five0 (x0 x1 x2 x3 x4 : Value) (w : World) : (Instr.index 87 (.agg #[x0, x1, x2, x3, x4]) (.int .i64 0)).run Tryd.prog w = .ok x0 w := by kernel_rfl
theorem index_five1 (x0 x1 x2 x3 x4 : Value) (w : World) : (Instr.index 87 (.agg #[x0, x1, x2, x3, x4]) (.int .i64 1)).run Tryd.prog w = .ok x1 w := by kernel_rfl
theorem index_five2 (x0 x1 x2 x3 x4 : Value) (w : World) : (Instr.index 87 (.agg #[x0, x1, x2, x3, x4]) (.int .i64 2)).run Tryd.prog w = .ok x2 w := by kernel_rfl
theorem index_five3 (x0 x1 x2 x3 x4 : Value) (w : World) : (Instr.index 87 (.agg #[x0, x1, x2, x3, x4]) (.int .i64 3)).run Tryd.prog w = .ok x3 w := by kernel_rfl
theorem index_five4 (x0 x1 x2 x3 x4 : Value) (w : World) : (Instr.index 87 (.agg #[x0, x1, x2, x3, x4]) (.int .i64 4)).run Tryd.prog w = .ok x4 w := by kernel_rfl

theorem index_five (B : Nat → Nat) (k : Nat) (hk : k < 5) (w : World) : (Instr.index 87 (.agg #[.int .u64 (B 0), .int .u64 (B 1), .int .u64 (B 2), .int .u64 (B 3), .int .u64 (B 4)]) (.int .i64 k)).run Tryd.prog w = .ok (.int .u64 (B k)) w := by
  have h : k = 0 ∨ k = 1 ∨ k = 2 ∨ k = 3 ∨ k = 4 := by omega
  rcases h with rfl | rfl | rfl | rfl | rfl
  · exact index_five0 _ _ _ _ _ w
  · exact index_five1 _ _ _ _ _ w
  · exact index_five2 _ _ _ _ _ w
  · exact index_five3 _ _ _ _ _ w
  · exact index_five4 _ _ _ _ _ w

/-- The first one that is in one set and not in the other one, from word k on. -/
def woutGo (B C : Nat → Nat) : Nat → Nat → Nat × Bool
  | 0, _ => (0, false)
  | fuel + 1, k => if lessW (B k) (C k) = 0 then woutGo B C fuel (k + 1) else (64 * k + Lib.ctz 64 (lessW (B k) (C k)), true)

def wout (B C : Nat → Nat) : Nat × Bool := woutGo B C 5 0

theorem woutGo_spec {B C : Nat → Nat} (hB : Words B) (hC : Words C) : ∀ (fuel k : Nat), k + fuel = 5 →
    ((woutGo B C fuel k).2 = true → (woutGo B C fuel k).1 < 320 ∧ inB B (woutGo B C fuel k).1 = true ∧ inB C (woutGo B C fuel k).1 = false) ∧
    ((woutGo B C fuel k).2 = false → (woutGo B C fuel k).1 = 0 ∧ ∀ t, k ≤ t / 64 → t < 320 → inB B t = true → inB C t = true)
  | 0, k, h => ⟨(fun e => by cases e), fun _ => ⟨rfl, fun t h1 h2 _ => by omega⟩⟩
  | fuel + 1, k, h => by
    by_cases h0 : lessW (B k) (C k) = 0
    · have e : woutGo B C (fuel + 1) k = woutGo B C fuel (k + 1) := by rw [woutGo, if_pos h0]
      rw [e]
      obtain ⟨g1, g2⟩ := woutGo_spec hB hC fuel (k + 1) (by omega)
      refine ⟨g1, fun hf => ⟨(g2 hf).1, fun t h1 h2 h3 => ?_⟩⟩
      by_cases hk : t / 64 = k
      · have hbit := lessW_bit (B k) (C k) (t % 64) (hC k) (Nat.mod_lt _ (by decide))
        unfold inB at h3 ⊢
        rw [hk] at h3 ⊢
        rw [h0, h3] at hbit
        simpa using hbit
      · exact (g2 hf).2 t (by omega) h2 h3
    · have e : woutGo B C (fuel + 1) k = (64 * k + Lib.ctz 64 (lessW (B k) (C k)), true) := by rw [woutGo, if_neg h0]
      rw [e]
      obtain ⟨b1, b2⟩ := ctz_bit _ h0 (lessW_lt (B k) (C k) (hB k))
      generalize Lib.ctz 64 (lessW (B k) (C k)) = c at *
      refine ⟨fun _ => ?_, fun e => by cases e⟩
      rw [lessW_bit _ _ _ (hC k) b2, Bool.and_eq_true, Bool.not_eq_true'] at b1
      have e1 : (64 * k + c) / 64 = k := by omega
      have e2 : (64 * k + c) % 64 = c := by omega
      refine ⟨by show 64 * k + c < 320; omega, ?_, ?_⟩
      · unfold inB; rw [e1, e2]; exact b1.1
      · unfold inB; rw [e1, e2]; exact b1.2

set_option maxRecDepth 100000 in
set_option maxHeartbeats 1000000 in
theorem without_any (B C : Nat → Nat) (w : World) (hB : Words B) (hC : Words C) (ht : Tab w) :
    Calls Tryd.prog 99 #[.agg #[.int .u64 (B 0), .int .u64 (B 1), .int .u64 (B 2), .int .u64 (B 3), .int .u64 (B 4)], .agg #[.int .u64 (C 0), .int .u64 (C 1), .int .u64 (C 2), .int .u64 (C 3), .int .u64 (C 4)]] w fun e w' => e = .returned (.tuple #[.int .i64 (wout B C).1, .bool (wout B C).2]) ∧ Below w.heap.size w w' := by
  have HB := hide hB
  have HC := hide hC
  have HT := hide ht
  clear hB hC ht
  generalize hgo : wout B C = q
  have Hgo : Hid (woutGo B C (5 - 0) 0 = q) := hgo
  clear hgo
  go_enter Tryd.func99, Tryd.ntmps99
  go_wp2
  generalize hW0 : (w.alloc (Obj.cells #[Value.int .u64 (B 0), .int .u64 (B 1), .int .u64 (B 2), .int .u64 (B 3), .int .u64 (B 4)] 89)).alloc (Obj.cells #[Value.int .u64 (C 0), .int .u64 (C 1), .int .u64 (C 2), .int .u64 (C 3), .int .u64 (C 4)] 89) = W0
  have hbW : Below w.heap.size w W0 := by rw [← hW0]; exact (by repeat (first | exact Below.refl _ _ | assumption | refine below_drewN ?_ _ | refine Below.drew ?_ | refine Below.alloc ?_ (by simp <;> omega) _ | refine below_trans ?_ (by assumption)))
  have HcC : Hid (∀ k, k < 5 → W0.cell? ⟨w.heap.size + 1, k, none⟩ = some (.int .u64 (C k))) := fun k hk => by
    rw [← hW0, World.cell?_alloc2_new]; exact five_get C .u64 k hk
  clear hW0
  go_loopw [11] (fun i wr => ∃ k : Nat, k ≤ 5 ∧ i = .int .i64 k ∧ woutGo B C (5 - k) k = q ∧ wr = W0) (fun i _ => 5 - (intOf i).toNat)
  case atStart => exact ⟨0, Nat.zero_le _, rfl, Hgo.out, rfl⟩
  case round =>
    obtain ⟨k, hk, rfl, htk, rfl⟩ := hrel
    have Htk := hide htk
    clear htk
    by_cases hlt : k < 5
    · have hix := index_five B k hlt
      have hcC := HcC.out k hlt
      have hand := andNot_word (B k) (C k) (HB.out k) (HC.out k)
      have Hst : Hid (q = if lessW (B k) (C k) = 0 then woutGo B C (5 - (k + 1)) (k + 1) else (64 * k + Lib.ctz 64 (lessW (B k) (C k)), true)) := by
        show q = _
        rw [← Htk.out, show 5 - k = (5 - (k + 1)) + 1 by omega, woutGo]
      generalize hz : lessW (B k) (C k) = z at hand Hst
      have hzl : z < 18446744073709551616 := by rw [← hz]; exact lessW_lt _ _ (HB.out k)
      clear hz
      generalize hBk : B k = x at hix hand
      generalize hCk : C k = y at hcC hand
      clear hBk hCk
      by_cases h0 : z = 0
      · have hb : ((z : Int) != 0) = false := by rw [bne_eq_false_iff_eq]; omega
        have H0 := hide h0
        clear h0
        go_wp2
        go_roundw
        case rel => exact ⟨k + 1, by omega, by go_num, by rw [Hst.out, if_pos H0.out], by first | rfl | trivial⟩
        case measure => simp [intOf]; omega
      · have hb : ((z : Int) != 0) = true := by rw [bne_iff_ne]; omega
        have Hq : Hid (q = (64 * k + Lib.ctz 64 z, true)) := by show q = _; rw [Hst.out, if_neg h0]
        have HZ := hide (tz_any z _ (by rw [beq_eq_false_iff_ne]; omega) hzl (HT.out.below hbW))
        have hcl : Lib.ctz 64 z < 64 := (ctz_bit z h0 hzl).2
        clear h0 Hst
        generalize hcc : Lib.ctz 64 z = c at *
        clear hcc
        go_wp2_with (fail)
        refine Calls.mono HZ.out ?_
        rintro e w' ⟨rfl, rfl⟩
        go_wp2
        go_ret2
        exact ⟨by rw [Hq.out]; rfl, hbW⟩
    · go_wp2
      go_ret2
      have hq : q = (0, false) := by
        have e : 5 - k = 0 := by omega
        rw [← Htk.out, e]; rfl
      exact ⟨by rw [hq]; rfl, hbW⟩
end Go.Proofs.YtpiacnnifdjlkabDoor

/-
  The map of spots that were met: what is looked up in it and stored.
-/
namespace Go.Proofs.YtpiacnnifdjlkabDoor
open Go.RowKit Go.Sort Go.MapKept

/-- All but these blocks is as it was. -/
structure Fr (R : List Nat) (w w' : World) : Prop where
  os : w'.os = w.os
  tape : w'.tape = w.tape
  output : w'.output = w.output
  size : w.heap.size ≤ w'.heap.size
  block : ∀ k, k < w.heap.size → k ∉ R → w'.heap[k]? = w.heap[k]?

theorem Fr.refl (R : List Nat) (w : World) : Fr R w w := ⟨rfl, rfl, rfl, Nat.le_refl _, fun _ _ _ => rfl⟩

theorem Fr.trans {R : List Nat} {a b c : World} (h : Fr R a b) (k : Fr R b c) : Fr R a c :=
  ⟨k.os.trans h.os, k.tape.trans h.tape, k.output.trans h.output, Nat.le_trans h.size k.size, fun i hi hn => (k.block i (Nat.lt_of_lt_of_le hi h.size) hn).trans (h.block i hi hn)⟩

theorem Fr.of_below {R : List Nat} {w w' : World} (h : Below w.heap.size w w') : Fr R w w' := ⟨h.os, h.tape, h.output, h.size, fun k hk _ => h.block k hk⟩

theorem Fr.mono {R R' : List Nat} {w w' : World} (h : Fr R w w') (hs : ∀ k, k ∈ R → k ∈ R') : Fr R' w w' :=
  ⟨h.os, h.tape, h.output, h.size, fun k hk hn => h.block k hk (fun hm => hn (hs k hm))⟩

theorem Fr.cell {R : List Nat} {w w' : World} (h : Fr R w w') {p : Addr} (hp : p.block < w.heap.size) (hn : p.block ∉ R) : w'.cell? p = w.cell? p := World.cell?_of_block (w := w) (h.block p.block hp hn)

theorem Fr.frozen {R : List Nat} {w w' : World} (h : Fr R w w') {p : Addr} (hp : p.block < w.heap.size) (hn : p.block ∉ R) : w'.frozen? p = w.frozen? p := World.frozen?_of_block (w := w) (h.block p.block hp hn)

def stV (B : Nat → Nat) : Value := .agg #[.int .u64 (B 0), .int .u64 (B 1), .int .u64 (B 2), .int .u64 (B 3), .int .u64 (B 4)]

/-- The map in block r has, by place, these sets. -/
def MetAt (w : World) (r : Nat) (M : Nat → Nat → Nat) : Prop :=
  (∀ p, Words (M p)) ∧ ∃ es clock, w.heap[r]? = some (.map es clock) ∧ (∀ e ∈ es.toList, ∃ q : Nat, e.key = .int .i64 q ∧ e.val = stV (M q)) ∧
    (∀ q : Nat, (∀ e ∈ es.toList, e.key ≠ .int .i64 q) → M q = fun _ => 0) ∧ (es.toList.map (·.key)).Nodup

theorem MetAt.lt {w : World} {r : Nat} {M : Nat → Nat → Nat} (h : MetAt w r M) : r < w.heap.size := by
  obtain ⟨_, es, clock, hr, _⟩ := h
  exact (Array.getElem?_eq_some_iff.1 hr).1

theorem MetAt.keep {w w' : World} {r : Nat} {M : Nat → Nat → Nat} (h : MetAt w r M) (hb : w'.heap[r]? = w.heap[r]?) : MetAt w' r M := by
  obtain ⟨hw, es, clock, hr, h2⟩ := h
  exact ⟨hw, es, clock, by rw [hb]; exact hr, h2⟩

theorem MetAt.fr {w w' : World} {r : Nat} {M : Nat → Nat → Nat} {R : List Nat} (h : MetAt w r M) (hb : Fr R w w') (hn : r ∉ R) : MetAt w' r M := h.keep (hb.block r h.lt hn)

theorem MetAt.below {w w' : World} {r : Nat} {M : Nat → Nat → Nat} (h : MetAt w r M) (hb : Below w.heap.size w w') : MetAt w' r M := h.keep (hb.block r h.lt)

theorem find_spec (p : Nat) : ∀ (l : List MapEntry) (i : Nat), (∀ e ∈ l, ∃ q : Nat, e.key = .int .i64 q) →
    (Instr.findNow (.int .i64) (.int .i64 p) l i = some none ∧ ∀ e ∈ l, e.key ≠ .int .i64 p) ∨
    ∃ j e, l[j]? = some e ∧ e.key = .int .i64 p ∧ Instr.findNow (.int .i64) (.int .i64 p) l i = some (some (i + j, e.val))
  | [], i, _ => Or.inl ⟨rfl, by simp⟩
  | e :: l, i, h => by
    obtain ⟨q, hq⟩ := h e (by simp)
    by_cases hpq : p = q
    · right
      subst hpq
      exact ⟨0, e, rfl, hq, by simp [Instr.findNow, Instr.sameNow, hq]⟩
    · have hne : ((p : Int) == (q : Int)) = false := by rw [beq_eq_false_iff_ne]; omega
      have hstep : Instr.findNow (.int .i64) (.int .i64 p) (e :: l) i = Instr.findNow (.int .i64) (.int .i64 p) l (i + 1) := by
        simp [Instr.findNow, Instr.sameNow, hq, hne]
      rcases find_spec p l (i + 1) (fun x hx => h x (by simp [hx])) with ⟨h1, h2⟩ | ⟨j, x, h1, h2, h3⟩
      · left
        refine ⟨by rw [hstep, h1], fun x hx => ?_⟩
        rcases List.mem_cons.1 hx with rfl | hx
        · rw [hq]; intro e; simp at e; omega
        · exact h2 x hx
      · right
        exact ⟨j + 1, x, by simpa using h1, h2, by rw [hstep, h3]; simp; omega⟩

theorem isKey_int (p : Int) : IsKey (.int .i64) (.int .i64 p) := by simp [IsKey]

theorem run_lookup_met {w : World} {r : Nat} {M : Nat → Nat → Nat} (h : MetAt w r M) (p : Nat) : (Instr.lookup 93 (.map (some r)) (.int .i64 p) false).run Tryd.prog w = .ok (stV (M p)) w := by
  obtain ⟨hw, es, clock, hr, hes, hno, hnd⟩ := h
  have hk := run_checkKey (P := Tryd.prog) (w := w) Tryd.underlying3 (isKey_int p) es.isEmpty 9999
  rcases find_spec p es.toList 0 (fun e he => let ⟨q, hq, _⟩ := hes e he; ⟨q, hq⟩) with ⟨h1, h2⟩ | ⟨j, e, h1, h2, h3⟩
  · have hf := run_findKey (P := Tryd.prog) (w := w) Tryd.underlying3 h1
    have hM : M p = fun _ => 0 := hno p h2
    have hz : stV (M p) = .agg #[.int .u64 0, .int .u64 0, .int .u64 0, .int .u64 0, .int .u64 0] := by rw [hM]; rfl
    rw [hz]
    simp [Instr.lookup, run_underlying Tryd.underlying93, Go.MapKept.run_getObj_map hr, hk, hf]
  · have hf := run_findKey (P := Tryd.prog) (w := w) Tryd.underlying3 h3
    have hv : e.val = stV (M p) := by
      obtain ⟨q, hq, hv⟩ := hes e (List.mem_of_getElem? h1)
      rw [h2] at hq
      have : p = q := by simp at hq; omega
      subst this
      exact hv
    rw [hv] at hf
    simp [Instr.lookup, run_underlying Tryd.underlying93, Go.MapKept.run_getObj_map hr, hk, hf]

def updM (M : Nat → Nat → Nat) (p : Nat) (B : Nat → Nat) : Nat → Nat → Nat := fun q => if q = p then B else M q

theorem run_update_met {w : World} {r : Nat} {M : Nat → Nat → Nat} (h : MetAt w r M) (p : Nat) (B : Nat → Nat) (hB : Words B) :
    ∃ w', (Instr.mapUpdate 93 (.map (some r)) (.int .i64 p) (stV B)).run Tryd.prog w = .ok () w' ∧ MetAt w' r (updM M p B) ∧ Fr [r] w w' := by
  obtain ⟨hw, es, clock, hr, hes, hno, hnd⟩ := h
  have hd := Tryd.underlying3
  have hk := isKey_int p
  have hfr : ∀ o, Fr [r] w { w with heap := w.heap.setIfInBounds r o } := fun o =>
    ⟨rfl, rfl, rfl, by simp, fun k _ hn => (heap_set (o' := o) hr).2 k (by simpa using hn)⟩
  have hwm : ∀ q, Words (updM M p B q) := fun q => by
    unfold updM
    split
    · exact hB
    · exact hw q
  rcases find_spec p es.toList 0 (fun e he => let ⟨q, hq, _⟩ := hes e he; ⟨q, hq⟩) with ⟨h1, h2⟩ | ⟨j, e, h1, h2, h3⟩
  · refine ⟨{ w with heap := w.heap.setIfInBounds r (.map (es.push { key := .int .i64 p, val := stV B, born := clock }) (clock + 1)) }, ?_, ⟨hwm, _, _, (heap_set hr).1, ?_, ?_, ?_⟩, hfr _⟩
    · simp [Instr.mapUpdate, run_underlying Tryd.underlying93, Go.MapKept.run_getObj_map hr, Go.MapKept.run_checkKey hd hk, Go.MapKept.run_findKey hd h1, Go.MapKept.run_setObj_map _ hr, Result.andThen]
    · intro x hx
      simp only [Array.toList_push, List.mem_append, List.mem_singleton] at hx
      rcases hx with hx | rfl
      · obtain ⟨q, hq, hv⟩ := hes x hx
        refine ⟨q, hq, ?_⟩
        have : ¬ q = p := by intro e; subst e; exact h2 x hx hq
        unfold updM; rw [if_neg this]; exact hv
      · exact ⟨p, rfl, by unfold updM; rw [if_pos rfl]⟩
    · intro q hq
      have hqp : ¬ q = p := by
        intro e; subst e
        exact hq { key := .int .i64 q, val := stV B, born := clock } (by simp) rfl
      unfold updM; rw [if_neg hqp]
      exact hno q fun x hx => hq x (by simp [Array.toList_push, hx])
    · rw [Array.toList_push, List.map_append, List.nodup_append]
      refine ⟨hnd, by simp, ?_⟩
      intro a ha b hb
      simp at hb
      subst hb
      obtain ⟨x, hx, rfl⟩ := List.mem_map.1 ha
      exact h2 x hx
  · have hj : es[j]? = some e := by simpa using h1
    have hjl : j < es.size := (Array.getElem?_eq_some_iff.1 hj).1
    refine ⟨{ w with heap := w.heap.setIfInBounds r (.map (es.modify j fun e => { e with key := .int .i64 p, val := stV B }) clock) }, ?_, ⟨hwm, _, _, (heap_set hr).1, ?_, ?_, ?_⟩, hfr _⟩
    · rw [Nat.zero_add] at h3
      simp [Instr.mapUpdate, run_underlying Tryd.underlying93, Go.MapKept.run_getObj_map hr, Go.MapKept.run_checkKey hd hk, Go.MapKept.run_findKey hd h3, hj, h2, Go.MapKept.run_keyThatStays hk, Go.MapKept.run_setObj_map _ hr, Result.andThen]
    · intro x hx
      obtain ⟨i, hi⟩ := List.mem_iff_getElem?.1 hx
      rw [Array.getElem?_toList, Array.getElem?_modify] at hi
      by_cases hij : j = i
      · subst hij
        rw [if_pos rfl, hj] at hi
        simp at hi
        subst hi
        exact ⟨p, rfl, by unfold updM; rw [if_pos rfl]⟩
      · rw [if_neg hij] at hi
        have hxm : x ∈ es.toList := by rw [Array.mem_toList_iff]; exact Array.mem_of_getElem? hi
        obtain ⟨q, hq, hv⟩ := hes x hxm
        refine ⟨q, hq, ?_⟩
        have hqp : ¬ q = p := by
          intro e; subst e
          have a1 : (es.toList.map (·.key))[j]? = some (.int .i64 q) := by simp [hj, h2]
          have a2 : (es.toList.map (·.key))[i]? = some (.int .i64 q) := by simp [hi, hq]
          exact hij ((List.getElem?_inj (by simpa using hjl) hnd).1 (a1.trans a2.symm))
        unfold updM; rw [if_neg hqp]; exact hv
    · intro q hq
      have hkeys := Go.MapKept.modify_keys (es := es) j (fun e => { e with key := .int .i64 p, val := stV B }) (fun e' he' => by rw [hj] at he'; cases he'; exact h2.symm)
      have hall : ∀ x ∈ es.toList, x.key ≠ .int .i64 q := by
        intro x hx e1
        have : x.key ∈ (es.modify j fun e => { e with key := .int .i64 p, val := stV B }).toList.map (·.key) := by rw [hkeys]; exact List.mem_map.2 ⟨x, hx, rfl⟩
        obtain ⟨y, hy, e2⟩ := List.mem_map.1 this
        exact hq y hy (e2.trans e1)
      have hqp : ¬ q = p := by
        intro e1; subst e1
        exact hall e (List.mem_of_getElem? h1) h2
      unfold updM; rw [if_neg hqp]
      exact hno q hall
    · rw [Go.MapKept.modify_keys (es := es) j (fun e => { e with key := .int .i64 p, val := stV B }) (fun e' he' => by rw [hj] at he'; cases he'; exact h2.symm)]
      exact hnd
end Go.Proofs.YtpiacnnifdjlkabDoor

namespace Go.Proofs.YtpiacnnifdjlkabDoor

abbrev Spot := Nat × Nat

/-- n steps lead from x to y. -/
def goN (E : Spot → Spot → Prop) : Nat → Spot → Spot → Prop
  | 0, x, y => x = y
  | n + 1, x, y => ∃ z, E x z ∧ goN E n z y

def Leads (E : Spot → Spot → Prop) (x y : Spot) : Prop := ∃ n, goN E n x y

/-- One step or more. -/
def LeadsOn (E : Spot → Spot → Prop) (x y : Spot) : Prop := ∃ n, goN E (n + 1) x y

section
variable {E : Spot → Spot → Prop}

theorem goN_trans {m n : Nat} {x y z : Spot} (h : goN E m x y) (k : goN E n y z) : goN E (m + n) x z := by
  induction m generalizing x with
  | zero => rw [Nat.zero_add]; have e : x = y := h; rw [e]; exact k
  | succ m ih =>
    obtain ⟨u, h1, h2⟩ := h
    rw [Nat.succ_add]
    exact ⟨u, h1, ih h2⟩

theorem Leads.refl (x : Spot) : Leads E x x := ⟨0, rfl⟩
theorem Leads.trans {x y z : Spot} (h : Leads E x y) (k : Leads E y z) : Leads E x z := let ⟨m, h⟩ := h; let ⟨n, k⟩ := k; ⟨m + n, goN_trans h k⟩
theorem Leads.one {x y : Spot} (h : E x y) : Leads E x y := ⟨1, y, h, rfl⟩
theorem LeadsOn.one {x y : Spot} (h : E x y) : LeadsOn E x y := ⟨0, y, h, rfl⟩
theorem LeadsOn.leads {x y : Spot} (h : LeadsOn E x y) : Leads E x y := let ⟨n, h⟩ := h; ⟨n + 1, h⟩
theorem LeadsOn.trans_right {x y z : Spot} (h : LeadsOn E x y) (k : Leads E y z) : LeadsOn E x z := by
  obtain ⟨m, h⟩ := h
  obtain ⟨n, k⟩ := k
  have := goN_trans h k
  rw [Nat.succ_add] at this
  exact ⟨m + n, this⟩
theorem LeadsOn.trans_left {x y z : Spot} (h : Leads E x y) (k : LeadsOn E y z) : LeadsOn E x z := by
  obtain ⟨m, h⟩ := h
  obtain ⟨n, k⟩ := k
  have := goN_trans h k
  exact ⟨m + n, this⟩

/-- A set that steps don't lead out of. -/
theorem closed_leads {S : Spot → Prop} (hc : ∀ x y, S x → E x y → S y) {x y : Spot} (h : Leads E x y) (hx : S x) : S y := by
  obtain ⟨n, h⟩ := h
  induction n generalizing x with
  | zero => have e : x = y := h; rw [← e]; exact hx
  | succ n ih =>
    obtain ⟨z, h1, h2⟩ := h
    exact ih (hc x z hx h1) h2

/-- On a way out of a set there is a first one outside. -/
theorem leaves {S : Spot → Prop} {x y : Spot} (h : Leads E x y) (hx : S x) (hy : ¬ S y) : ∃ u v, Leads E x u ∧ S u ∧ E u v ∧ ¬ S v ∧ Leads E v y := by
  obtain ⟨n, h⟩ := h
  induction n generalizing x with
  | zero => have e : x = y := h; rw [← e] at hy; exact absurd hx hy
  | succ n ih =>
    obtain ⟨z, h1, h2⟩ := h
    by_cases hz : S z
    · obtain ⟨u, v, a, b, c, d, e⟩ := ih hz h2
      exact ⟨u, v, (Leads.one h1).trans a, b, c, d, e⟩
    · exact ⟨x, z, Leads.refl x, hx, h1, hz, n, h2⟩

/-- Each one of the path leads to the next one; the newest stands first. -/
def Path (E : Spot → Spot → Prop) : List Spot → Prop
  | [] => True
  | [_] => True
  | x :: y :: r => E y x ∧ Path E (y :: r)

theorem path_leads {x y : Spot} {r : List Spot} (h : Path E (x :: r)) (hy : y ∈ x :: r) : Leads E y x := by
  induction r generalizing x with
  | nil => have : y = x := by simpa using hy
           rw [this]; exact Leads.refl x
  | cons z r ih =>
    rcases List.mem_cons.1 hy with rfl | hy
    · exact Leads.refl _
    · exact (ih h.2 hy).trans (Leads.one h.1)

/-- What is kept while one goes: who was seen, who is done with, and the path. -/
structure Dfs (E : Spot → Spot → Prop) (seen done : Spot → Prop) (path : List Spot) : Prop where
  onPath : ∀ x, x ∈ path → seen x ∧ ¬ done x
  split : ∀ x, seen x → done x ∨ x ∈ path
  sub : ∀ x, done x → seen x
  closed : ∀ x y, done x → E x y → seen y
  chain : Path E path
  nodup : List.Nodup path
  back : ∀ x, done x → (∃ y, ¬ done y ∧ Leads E x y) → LeadsOn E x x

theorem Dfs.push {seen done : Spot → Prop} {x y : Spot} {r : List Spot} (h : Dfs E seen done (x :: r)) (he : E x y) (hy : ¬ seen y) :
    Dfs E (fun z => seen z ∨ z = y) done (y :: x :: r) := by
  refine ⟨?_, ?_, fun z hz => Or.inl (h.sub z hz), fun a b ha hb => Or.inl (h.closed a b ha hb), ⟨he, h.chain⟩, ?_, h.back⟩
  · intro z hz
    rcases List.mem_cons.1 hz with rfl | hz
    · exact ⟨Or.inr rfl, fun hd => hy (h.sub _ hd)⟩
    · exact ⟨Or.inl (h.onPath z hz).1, (h.onPath z hz).2⟩
  · intro z hz
    rcases hz with hz | rfl
    · rcases h.split z hz with h1 | h1
      · exact Or.inl h1
      · exact Or.inr (List.mem_cons_of_mem _ h1)
    · exact Or.inr (by simp)
  · rw [List.nodup_cons]
    exact ⟨fun hm => hy (h.onPath y hm).1, h.nodup⟩

theorem Dfs.pop {seen done : Spot → Prop} {x : Spot} {r : List Spot} (h : Dfs E seen done (x :: r)) (hall : ∀ y, E x y → seen y) :
    Dfs E seen (fun z => done z ∨ z = x) r := by
  have hnd := h.nodup
  rw [List.nodup_cons] at hnd
  have hpath : Path E r := by
    cases r with
    | nil => trivial
    | cons y r => exact h.chain.2
  have hclosed : ∀ a b, (done a ∨ a = x) → E a b → seen b := by
    intro a b ha hb
    rcases ha with ha | rfl
    · exact h.closed a b ha hb
    · exact hall b hb
  refine ⟨?_, ?_, ?_, hclosed, hpath, hnd.2, ?_⟩
  · intro z hz
    refine ⟨(h.onPath z (List.mem_cons_of_mem _ hz)).1, ?_⟩
    rintro (hd | rfl)
    · exact (h.onPath z (List.mem_cons_of_mem _ hz)).2 hd
    · exact hnd.1 hz
  · intro z hz
    rcases h.split z hz with h1 | h1
    · exact Or.inl (Or.inl h1)
    · rcases List.mem_cons.1 h1 with rfl | h1
      · exact Or.inl (Or.inr rfl)
      · exact Or.inr h1
  · rintro z (hz | rfl)
    · exact h.sub z hz
    · exact (h.onPath z (by simp)).1
  · rintro z hz ⟨y, hy, hl⟩
    rcases hz with hz | rfl
    · exact h.back z hz ⟨y, fun hd => hy (Or.inl hd), hl⟩
    · obtain ⟨u, v, h1, h2, h3, h4, _⟩ := leaves (S := fun a => done a ∨ a = z) hl (Or.inr rfl) hy
      have hs := hclosed u v h2 h3
      rcases h.split v hs with hd | hm
      · exact absurd (Or.inl hd) h4
      · have hv : v ∈ r := by
          rcases List.mem_cons.1 hm with rfl | hm
          · exact absurd (Or.inr rfl) h4
          · exact hm
        exact (LeadsOn.trans_left h1 (LeadsOn.one h3)).trans_right (path_leads h.chain (List.mem_cons_of_mem _ hv))

theorem Dfs.begin_ {seen done : Spot → Prop} {x : Spot} (h : Dfs E seen done []) (hx : ¬ seen x) : Dfs E (fun z => seen z ∨ z = x) done [x] := by
  refine ⟨?_, ?_, fun z hz => Or.inl (h.sub z hz), fun a b ha hb => Or.inl (h.closed a b ha hb), trivial, by simp, h.back⟩
  · intro z hz
    have : z = x := by simpa using hz
    subst this
    exact ⟨Or.inr rfl, fun hd => hx (h.sub _ hd)⟩
  · intro z hz
    rcases hz with hz | rfl
    · rcases h.split z hz with h1 | h1
      · exact Or.inl h1
      · cases h1
    · exact Or.inr (by simp)

theorem Dfs.whole {seen done : Spot → Prop} (h : Dfs E seen done []) (x : Spot) : seen x ↔ done x :=
  ⟨fun hs => (h.split x hs).resolve_right (by simp), h.sub x⟩

/-- THE INNER LOOK FOUND NOTHING: the seed does not lead to itself. -/
theorem no_circle {good : Spot → Prop} {seen done : Spot → Prop} {r : List Spot} {seed : Spot} {I I' : Spot → Prop}
    (h : Dfs E seen done (seed :: r)) (hI : ∀ x, I x → ∃ s, done s ∧ good s ∧ Leads E s x) (hno : ∀ s, done s → good s → ¬ LeadsOn E s s)
    (hI' : ∀ x y, I' x → E x y → I' y) (hs : I' seed) (hnew : ∀ x, I' x → ¬ I x → ¬ E x seed) : ¬ LeadsOn E seed seed := by
  intro hc
  have hnot : ∀ x, Leads E x seed → ¬ I x := by
    intro x hx hIx
    obtain ⟨s, hd, hg, hl⟩ := hI x hIx
    exact hno s hd hg (h.back s hd ⟨seed, (h.onPath seed (by simp)).2, hl.trans hx⟩)
  have key : ∀ n x, I' x → goN E (n + 1) x seed → False := by
    intro n
    induction n with
    | zero =>
      rintro x hx ⟨z, h1, h2⟩
      have e : z = seed := h2
      rw [e] at h1
      exact hnew x hx (hnot x (Leads.one h1)) h1
    | succ n ih =>
      rintro x hx ⟨z, h1, h2⟩
      exact ih z (hI' x z hx h1) h2
  obtain ⟨n, hn⟩ := hc
  exact key n seed hs hn
end
end Go.Proofs.YtpiacnnifdjlkabDoor
