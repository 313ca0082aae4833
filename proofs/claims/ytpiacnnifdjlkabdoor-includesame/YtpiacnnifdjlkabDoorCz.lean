/-
  Words without an end that an automaton takes; whether a lasso is taken hangs on its letters alone.
-/
import Derived.Test.YtpiacnnifdjlkabDoorRd
import Derived.Test.YtpiacnnifdjlkabDoorCx
import Derived.Deep.DeepFit
import Derived.Test.YtpiacnnifdjlkabDoorCq
/-
  Regions that append one element to a row of the call's own, in a field of a box: what they keep.
-/
namespace Go.Proofs.YtpiacnnifdjlkabDoor
open Go.RowKit Go.Sort

/-- All old blocks are as they were, but for one row of the call's own. -/
structure KR (base : Nat) (r : Option Nat) (w0 w : World) : Prop where
  below : Below base w0 w
  size : w0.heap.size ≤ w.heap.size
  keep : ∀ b, b < w0.heap.size → some b ≠ r → w.heap[b]? = w0.heap[b]?

theorem KR.refl (base : Nat) (r : Option Nat) (w : World) : KR base r w w := ⟨Below.refl _ _, Nat.le_refl _, fun _ _ _ => rfl⟩

theorem KR.drew {base : Nat} {r : Option Nat} {w0 w : World} (h : KR base r w0 w) : KR base r w0 { w with drawn := w.drawn + 1 } := ⟨h.below.drew, h.size, h.keep⟩

theorem KR.alloc {base : Nat} {r : Option Nat} {w0 w : World} (h : KR base r w0 w) (hb : base ≤ w0.heap.size) (o : Obj) : KR base r w0 (w.alloc o) :=
  ⟨h.below.alloc (Nat.le_trans hb h.size) o, by rw [World.size_alloc]; exact Nat.le_succ_of_le h.size, fun b h1 h2 => (heap_alloc_old w o (Nat.lt_of_lt_of_le h1 h.size)).trans (h.keep b h1 h2)⟩

theorem KR.grown {base : Nat} {r : Option Nat} {w0 w w' : World} (h : KR base r w0 w) (hg : w.grownBy w' r) (hb : base ≤ w0.heap.size) (hr : ∀ k, r = some k → base ≤ k) : KR base r w0 w' :=
  ⟨h.below.grown hg (Nat.le_trans hb h.size) hr, Nat.le_trans h.size hg.size, fun b h1 h2 => (hg.block b (Nat.lt_of_lt_of_le h1 h.size) h2).trans (h.keep b h1 h2)⟩

theorem KR.cell {base : Nat} {r : Option Nat} {w0 w : World} (h : KR base r w0 w) {b o : Nat} {v : Value} (hc : w0.cell? ⟨b, o, none⟩ = some v) (hne : some b ≠ r) : w.cell? ⟨b, o, none⟩ = some v :=
  (World.cell?_of_block (a := ⟨b, o, none⟩) (h.keep b (World.block_lt_of_cell? w0 _ hc) hne)).trans hc

theorem KR.block {base : Nat} {r : Option Nat} {w0 w : World} (h : KR base r w0 w) {b : Nat} {o : Obj} (hc : w0.heap[b]? = some o) (hne : some b ≠ r) : w.heap[b]? = some o :=
  (h.keep b (Array.getElem?_eq_some_iff.1 hc).1 hne).trans hc

/-- What is known in such a region: ahead of the append the row is owned as it was. -/
def VA (base e sz : Nat) (sv : Value) (n : Nat) (xs : List Value) (w0 : World) (b : Bool) (w : World) : Prop := KR base sv.ownBlock w0 w ∧ (b = false → w.ownsRow base e sz sv n xs)

/-- The new element, laid in a block of its own. -/
def NewEl (w0 : World) (news : List Value) (v : Value) (w : World) : Prop := ∃ B c, v = .slice (some ⟨B, 0, none⟩) 1 c ∧ w0.heap.size ≤ B ∧ ∀ j u, news[j]? = some u → w.cell? ⟨B, j, none⟩ = some u

/-- The row, one element longer. -/
def NewRow (base e sz n : Nat) (ys : List Value) (r0 : Option Nat) (s0 : Nat) (v : Value) (w : World) : Prop := ∃ g cap, v = .slice (some ⟨g, 0, none⟩) (n + 1) cap ∧ w.ownsRow base e sz v (n + 1) ys ∧ (r0 = some g ∨ s0 ≤ g)

theorem NewEl.alloc {w0 w : World} {news : List Value} {v : Value} (h : NewEl w0 news v w) (o : Obj) : NewEl w0 news v (w.alloc o) := by
  obtain ⟨B, c, rfl, hB, hc⟩ := h
  exact ⟨B, c, rfl, hB, fun j u hu => (World.cell?_alloc_past _ _ _ (World.block_lt_of_cell? w _ (hc j u hu))).trans (hc j u hu)⟩

theorem NewEl.grown {w0 w w' : World} {news : List Value} {v : Value} {r : Option Nat} (h : NewEl w0 news v w) (hg : w.grownBy w' r) (hr : ∀ k, r = some k → k < w0.heap.size) : NewEl w0 news v w' := by
  obtain ⟨B, c, rfl, hB, hc⟩ := h
  exact ⟨B, c, rfl, hB, fun j u hu => hg.cell (hc j u hu) (fun e => by have := hr B e.symm; omega)⟩

theorem NewRow.alloc {w : World} {base e sz n : Nat} {ys : List Value} {r0 : Option Nat} {s0 : Nat} {v : Value} (h : NewRow base e sz n ys r0 s0 v w) (o : Obj) : NewRow base e sz n ys r0 s0 v (w.alloc o) := by
  obtain ⟨g, cap, rfl, h, h'⟩ := h
  exact ⟨g, cap, rfl, h.alloc o, h'⟩

theorem el_new (cs : Array Value) (t : TypeId) : ∀ (w : World) j u, cs.toList[j]? = some u → (w.alloc (.cells cs t)).cell? ⟨w.heap.size, j, none⟩ = some u := fun w j u hu => by
  rw [cell_of_row _ _ j _ _ _ (one_new w (.cells cs t))]
  simpa using hu

section
variable {ops : Array Oper} {Q : Exit → Act → World → Prop} {R : Nat → Value → World → Prop} {a0 : Act} {i : Nat} {o : Oper}

/-- The element is laid. -/
theorem stepOk_el {base e sz : Nat} {sv : Value} {n : Nat} {xs : List Value} {w0 : World} {b : Bool} (hb : base ≤ w0.heap.size) (obj : Obj) (news : List Value) (c : Nat) (hnews : ∀ (w : World) j u, news[j]? = some u → (w.alloc obj).cell? ⟨w.heap.size, j, none⟩ = some u)
    (hrun : ∀ (a : Act) (w : World) (vs : Nat → Value), (∀ t, free ops i t = true → a.eval (.tmp t) = a0.eval (.tmp t)) → (∀ j, dep o j = true → R j (vs j) w ∧ ∀ d, dstAt ops j = some d → a.eval (.tmp d) = vs j) → (execOp a.eval o).run Tryd.prog w = .ok (.value (.slice (some ⟨w.heap.size, 0, none⟩) 1 c)) (w.alloc obj))
    (hR : ∀ v w, NewEl w0 news v w → R i v w) (hst : ∀ (w : World) j x, R j x w → R j x (w.alloc obj)) : StepOk Tryd.prog ops Q (VA base e sz sv n xs w0 b) R a0 i o := by
  refine stepOk_new fun a w vs hV he hd => ?_
  refine ⟨_, _, hrun a w vs he hd, ⟨hV.1.alloc hb obj, fun hb' => (hV.2 hb').alloc obj⟩, hR _ _ ⟨w.heap.size, c, rfl, hV.1.size, hnews w⟩, hst w⟩

/-- The row grows. -/
theorem stepX_app {base t e sz by_ : Nat} {sv : Value} {n : Nat} {xs news : List Value} {w0 : World} (hT : ElT t e sz by_) (hb : base ≤ w0.heap.size) (hown0 : w0.ownsRow base e sz sv n xs) (s x : Operand)
    (ho : o.op = .call { callee := .builtin .append, args := #[s, x], argTypes := #[t, t] }) (hnl : news.length = sz) (h1 : ∀ u ∈ news, u.oneCell' = true) (hn : n ≤ 900000)
    (hs : ∀ (a : Act) (w : World) (vs : Nat → Value), (∀ j, dep o j = true → R j (vs j) w ∧ ∀ d, dstAt ops j = some d → a.eval (.tmp d) = vs j) → a.eval s = sv ∧ NewEl w0 news (a.eval x) w)
    (hR : ∀ v w, NewRow base e sz n (xs ++ news) sv.ownBlock w0.heap.size v w → R i v w) (hst : ∀ (w w' : World), w.grownBy w' sv.ownBlock → ∀ j x, j ≠ i → R j x w → R j x w') : StepX Tryd.prog ops Q (VA base e sz sv n xs w0) R a0 i o := by
  intro a w vs hV he hd
  obtain ⟨e1, B, c, e2, hB, hc⟩ := hs a w vs hd
  obtain ⟨g', cap', w', hr, h2, h3, h4, h5⟩ := run_append_one w o.type t e base n sz by_ hT sv xs (hV.2 rfl) B c news hnl hc h1 hn (Nat.le_trans hb hV.1.size)
  have hr0 : ∀ k, sv.ownBlock = some k → base ≤ k := fun k hk => (hown0.lt k hk).1
  unfold Oper.wp execOp
  simp only [ho, resolve, invoke, builtin, Sem.run_bind, Sem.run_pure, Result.andThen_ok, List.map_toArray, List.map_cons, List.map_nil, e1, e2, hr]
  exact ⟨_, rfl, ⟨hV.1.grown h3 hb hr0, fun h => by cases h⟩, hR _ _ ⟨g', cap', rfl, h2, h4.imp id fun e => by rw [e]; exact hV.1.size⟩, hst w w' h3⟩
end

/-- What operation j has left: a value, told ahead; the element's block; the longer row. -/
def RR (Rp : Nat → Value → Prop) (jB jX base e sz n : Nat) (w0 : World) (news ys : List Value) (r0 : Option Nat) (j : Nat) (v : Value) (w : World) : Prop := Rp j v ∧ (j = jB → NewEl w0 news v w) ∧ (j = jX → NewRow base e sz n ys r0 w0.heap.size v w)

theorem RR.alloc {Rp : Nat → Value → Prop} {jB jX base e sz n : Nat} {w0 : World} {news ys : List Value} {r0 : Option Nat} {j : Nat} {v : Value} {w : World} (h : RR Rp jB jX base e sz n w0 news ys r0 j v w) (o : Obj) : RR Rp jB jX base e sz n w0 news ys r0 j v (w.alloc o) :=
  ⟨h.1, fun e => (h.2.1 e).alloc o, fun e => (h.2.2 e).alloc o⟩

section
variable {ops : Array Oper} {Q : Exit → Act → World → Prop} {a0 : Act}

/-- A REGION THAT APPENDS ONE ELEMENT TO THE ROW OF A BOX'S FIELD: its operations jB (the element's block) and jX (the append), the others but the last plain, the last one the field's store. -/
theorem wp_region_app {id : Nat} {w0 : World} (L jB jX : Nat) (oL : Oper) (ds : List (Nat × Tmp)) (Rp : Nat → Value → Prop) {base t e sz by_ n : Nat} {sv : Value} {xs : List Value} (news : List Value) (hT : ElT t e sz by_) (hb : base ≤ w0.heap.size) (hown0 : w0.ownsRow base e sz sv n xs) (hn : n ≤ 900000) (hnl : news.length = sz) (h1 : ∀ u ∈ news, u.oneCell' = true)
    (hds : dstList ops (List.range L) = ds) (hm : Tryd.prog.follows .mixedOrders = true) (h : orderly ops a0.tmps.size = true) (hh : hung ops = true) (hsz : ops.size = L + 1) (hoL : ops[L]? = some oL) (hXL : jX < L) (hBX : jB ≠ jX)
    (obj : Obj) (c : Nat) (hnews : ∀ (w : World) j u, news[j]? = some u → (w.alloc obj).cell? ⟨w.heap.size, j, none⟩ = some u) (tB : Rp jB = fun _ => True) (tX : Rp jX = fun _ => True)
    (hel : ∀ o, ops[jB]? = some o → ∀ (a : Act) (w : World) (vs : Nat → Value), (∀ t, free ops jB t = true → a.eval (.tmp t) = a0.eval (.tmp t)) → (∀ j, dep o j = true → RR Rp jB jX base e sz n w0 news (xs ++ news) sv.ownBlock j (vs j) w ∧ ∀ d, dstAt ops j = some d → a.eval (.tmp d) = vs j) → (execOp a.eval o).run Tryd.prog w = .ok (.value (.slice (some ⟨w.heap.size, 0, none⟩) 1 c)) (w.alloc obj))
    (oX : Oper) (hoX : ops[jX]? = some oX) (s x : Operand) (hopX : oX.op = .call { callee := .builtin .append, args := #[s, x], argTypes := #[t, t] })
    (hs : ∀ (a : Act) (w : World) (vs : Nat → Value), (∀ j, dep oX j = true → RR Rp jB jX base e sz n w0 news (xs ++ news) sv.ownBlock j (vs j) w ∧ ∀ d, dstAt ops j = some d → a.eval (.tmp d) = vs j) → a.eval s = sv ∧ NewEl w0 news (a.eval x) w)
    (hpure : ∀ i o, i < L → i ≠ jB → i ≠ jX → ops[i]? = some o → ∀ (a : Act) (w : World) (vs : Nat → Value), KR base sv.ownBlock w0 w → (∀ t, free ops i t = true → a.eval (.tmp t) = a0.eval (.tmp t)) → (∀ j, dep o j = true → RR Rp jB jX base e sz n w0 news (xs ++ news) sv.ownBlock j (vs j) w ∧ ∀ d, dstAt ops j = some d → a.eval (.tmp d) = vs j) → ∃ v, (execOp a.eval o).run Tryd.prog w = .ok (.value v) w ∧ Rp i v)
    (hend : ∀ (vs : Nat → Value) (w : World), KR base sv.ownBlock w0 w → (∀ i, i < L → Rp i (vs i)) → NewRow base e sz n (xs ++ news) sv.ownBlock w0.heap.size (vs jX) w → oL.wp Tryd.prog { a0 with tmps := putPairs vs ds a0.tmps } w (fun a' w' => Q .normal a' w') Q) : (Code.region id ops true).wp Tryd.prog Q a0 w0 := by
  refine wp_region_last L jX oL ds (VA base e sz sv n xs w0) (RR Rp jB jX base e sz n w0 news (xs ++ news) sv.ownBlock) hds hm h hh hsz hoL hXL ⟨(KR.refl _ _ _).drew, fun _ => owns_kept hown0 fun _ _ => rfl⟩ ?_ ?_ ?_
  · intro i o hi hiX ho b
    by_cases hiB : i = jB
    · subst hiB
      exact stepOk_el hb obj news c hnews (fun a w vs he hd => hel o ho a w vs he hd) (fun v w hv => ⟨by rw [tB]; trivial, fun _ => hv, fun e => absurd e hBX⟩) (fun w j x hj => hj.alloc obj)
    · refine stepOk_val fun a w vs hV he hd => ?_
      obtain ⟨v, hr, hv⟩ := hpure i o hi hiB hiX ho a w vs hV.1 he hd
      exact ⟨v, hr, hv, fun e => absurd e hiB, fun e => absurd e hiX⟩
  · intro o ho
    obtain rfl := Option.some.inj (ho.symm.trans hoX)
    exact stepX_app hT hb hown0 s x hopX hnl h1 hn hs (fun v w hv => ⟨by rw [tX]; trivial, fun e => absurd e.symm hBX, fun _ => hv⟩) (fun w w' hg j x hj hr => ⟨hr.1, fun e => (hr.2.1 e).grown hg (fun k hk => (hown0.lt k hk).2), fun e => absurd e hj⟩)
  · intro vs w hV hR
    exact hend vs w hV.1 (fun i hi => (hR i hi).1) ((hR jX hXL).2.2 rfl)

theorem wp_store_one {o : Oper} {t : TypeId} {ka kv : Nat} {a : Act} {w : World} {K : Act → World → Prop} {Q : Exit → Act → World → Prop} (ho : o.op = .store t (.tmp ka) (.tmp kv)) (hd : o.dst = none) (hsz : ∀ w, (sizeOf t).run Tryd.prog w = .ok 1 w) {p : Addr} {b : Option Addr} {n c : Nat} {v0 : Value} (ha : a.tmps[ka]?.getD undef = .pointer (some p)) (hv : a.tmps[kv]?.getD undef = .slice b n c) (hc : w.cell? p = some v0) (hz : w.frozen? p = false) (h : K a (w.setCell p (.slice b n c))) : o.wp Tryd.prog a w K Q := by
  unfold Oper.wp execOp
  simp [ho, go_sem, ha, hv, hsz, hc, hz]
  rw [hd]
  exact h

theorem sizeInts : ∀ w, (sizeOf 22).run Tryd.prog w = .ok 1 w := by intro w; simp [go_sem]
theorem sizeBools : ∀ w, (sizeOf 23).run Tryd.prog w = .ok 1 w := by intro w; simp [go_sem]
theorem sizeSteps : ∀ w, (sizeOf 24).run Tryd.prog w = .ok 1 w := by intro w; simp [go_sem]

/-- As wp_region_app, the field's store done. -/
theorem wp_region_put {id : Nat} {w0 : World} (L jB jX : Nat) (oL : Oper) (ds : List (Nat × Tmp)) (Rp : Nat → Value → Prop) {base t e sz by_ n : Nat} {sv : Value} {xs : List Value} (news : List Value) (hT : ElT t e sz by_) (hb : base ≤ w0.heap.size) (hown0 : w0.ownsRow base e sz sv n xs) (hn : n ≤ 900000) (hnl : news.length = sz) (h1 : ∀ u ∈ news, u.oneCell' = true)
    (hds : dstList ops (List.range L) = ds) (hm : Tryd.prog.follows .mixedOrders = true) (h : orderly ops a0.tmps.size = true) (hh : hung ops = true) (hsz : ops.size = L + 1) (hoL : ops[L]? = some oL) (hXL : jX < L) (hBX : jB ≠ jX)
    (obj : Obj) (c : Nat) (hnews : ∀ (w : World) j u, news[j]? = some u → (w.alloc obj).cell? ⟨w.heap.size, j, none⟩ = some u) (tB : Rp jB = fun _ => True) (tX : Rp jX = fun _ => True)
    (hel : ∀ o, ops[jB]? = some o → ∀ (a : Act) (w : World) (vs : Nat → Value), (∀ t, free ops jB t = true → a.eval (.tmp t) = a0.eval (.tmp t)) → (∀ j, dep o j = true → RR Rp jB jX base e sz n w0 news (xs ++ news) sv.ownBlock j (vs j) w ∧ ∀ d, dstAt ops j = some d → a.eval (.tmp d) = vs j) → (execOp a.eval o).run Tryd.prog w = .ok (.value (.slice (some ⟨w.heap.size, 0, none⟩) 1 c)) (w.alloc obj))
    (oX : Oper) (hoX : ops[jX]? = some oX) (s x : Operand) (hopX : oX.op = .call { callee := .builtin .append, args := #[s, x], argTypes := #[t, t] })
    (hs : ∀ (a : Act) (w : World) (vs : Nat → Value), (∀ j, dep oX j = true → RR Rp jB jX base e sz n w0 news (xs ++ news) sv.ownBlock j (vs j) w ∧ ∀ d, dstAt ops j = some d → a.eval (.tmp d) = vs j) → a.eval s = sv ∧ NewEl w0 news (a.eval x) w)
    (hpure : ∀ i o, i < L → i ≠ jB → i ≠ jX → ops[i]? = some o → ∀ (a : Act) (w : World) (vs : Nat → Value), KR base sv.ownBlock w0 w → (∀ t, free ops i t = true → a.eval (.tmp t) = a0.eval (.tmp t)) → (∀ j, dep o j = true → RR Rp jB jX base e sz n w0 news (xs ++ news) sv.ownBlock j (vs j) w ∧ ∀ d, dstAt ops j = some d → a.eval (.tmp d) = vs j) → ∃ v, (execOp a.eval o).run Tryd.prog w = .ok (.value v) w ∧ Rp i v)
    {tS : TypeId} {ka kv : Nat} (hopL : oL.op = .store tS (.tmp ka) (.tmp kv)) (hdL : oL.dst = none) (hszS : ∀ w, (sizeOf tS).run Tryd.prog w = .ok 1 w) {pb k : Nat} {cs : Array Value} {tb : TypeId} (hbox : w0.heap[pb]? = some (.cells cs tb)) (hne : some pb ≠ sv.ownBlock) (hk : k < cs.size)
    (hka : ∀ vs : Nat → Value, (∀ i, i < L → Rp i (vs i)) → (putPairs vs ds a0.tmps)[ka]?.getD undef = .pointer (some ⟨pb, k, none⟩)) (hkv : ∀ vs : Nat → Value, (putPairs vs ds a0.tmps)[kv]?.getD undef = vs jX)
    (hend : ∀ (vs : Nat → Value) (w : World) (g cap : Nat), KR base sv.ownBlock w0 w → (∀ i, i < L → Rp i (vs i)) → w.ownsRow base e sz (.slice (some ⟨g, 0, none⟩) (n + 1) cap) (n + 1) (xs ++ news) → (sv.ownBlock = some g ∨ w0.heap.size ≤ g) → Q .normal { a0 with tmps := putPairs vs ds a0.tmps } (w.setCell ⟨pb, k, none⟩ (.slice (some ⟨g, 0, none⟩) (n + 1) cap))) : (Code.region id ops true).wp Tryd.prog Q a0 w0 := by
  refine wp_region_app L jB jX oL ds Rp news hT hb hown0 hn hnl h1 hds hm h hh hsz hoL hXL hBX obj c hnews tB tX hel oX hoX s x hopX hs hpure ?_
  rintro vs w hV hRp ⟨g, cap, hvX, hrow, hwh⟩
  have hb1 := hV.block hbox hne
  rw [hvX] at hrow
  refine wp_store_one hopL hdL hszS (p := ⟨pb, k, none⟩) (hka vs hRp) ((hkv vs).trans hvX) (v0 := cs[k]) ?_ (frozen_of_row _ _ k _ _ hb1) (hend vs w g cap hV hRp hrow hwh)
  rw [cell_of_row _ _ k _ _ _ hb1]
  simp [hk]
end
end Go.Proofs.YtpiacnnifdjlkabDoor

/-
  An automaton in a box, its rows of the call's own: what appending to them leaves.
-/
namespace Go.Proofs.YtpiacnnifdjlkabDoor
open Go.RowKit Go.Sort

def stepCells (ss : List Stp) : List Value := ss.flatMap fun s => [.int .i64 s.f, .int .i64 s.l, .int .i64 s.t]

theorem stepCells_len (ss : List Stp) : (stepCells ss).length = ss.length * 3 := by
  induction ss with
  | nil => rfl
  | cons s ss ih => simp [stepCells] at ih ⊢; omega

theorem stepCells_snoc (ss : List Stp) (s : Stp) : stepCells (ss ++ [s]) = stepCells ss ++ [.int .i64 s.f, .int .i64 s.l, .int .i64 s.t] := by simp [stepCells]

theorem stepCells_get (ss : List Stp) : ∀ i, i < ss.length → (stepCells ss)[i * 3]? = some (.int .i64 (ss.getD i stp0).f) ∧ (stepCells ss)[i * 3 + 1]? = some (.int .i64 (ss.getD i stp0).l) ∧ (stepCells ss)[i * 3 + 2]? = some (.int .i64 (ss.getD i stp0).t) := by
  induction ss with
  | nil => intro i hi; simp at hi
  | cons s ss ih =>
    intro i hi
    have e : stepCells (s :: ss) = .int .i64 s.f :: .int .i64 s.l :: .int .i64 s.t :: stepCells ss := by simp [stepCells]
    rw [e]
    cases i with
    | zero => simp
    | succ i =>
      have := ih i (by simpa using hi)
      rw [show (i + 1) * 3 = i * 3 + 1 + 1 + 1 by omega]
      simpa using this

theorem boolSl_of_owns {w : World} {base : Nat} {v : Value} {zs : List Bool} {n : Nat} (h : w.ownsRow base 4 1 v n (zs.map .bool)) : BoolSl w v zs := by
  obtain ⟨hl, h⟩ := h
  have hn : zs.length = n := by simpa using hl
  rcases h with ⟨rfl, h0⟩ | ⟨g, cap, cur, rfl, hb, hg, h1, h2, hs, ht⟩
  · obtain rfl : zs = [] := List.eq_nil_of_length_eq_zero (by omega)
    exact boolSl_nil w
  · subst hn
    refine ⟨_, cap, rfl, by omega, Or.inr ⟨g, 0, rfl, fun i hi => ?_⟩, (fun e => by cases e), h1⟩
    have hc := cell_of_row w g (0 + i) _ _ _ hg
    rw [hc, Nat.zero_add]
    have : cur.toList[i]? = some (.bool (zs.getD i false)) := by
      have h3 : (cur.toList.take (zs.length * 1))[i]? = some (.bool (zs.getD i false)) := by rw [ht]; simp [List.getD, hi]
      rw [List.getElem?_take] at h3
      split at h3
      · exact h3
      · cases h3
    simpa using this

theorem stepSl_of_owns {w : World} {base : Nat} {v : Value} {zs : List Stp} {n : Nat} (h : w.ownsRow base 49 3 v n (stepCells zs)) : StepSl w v zs := by
  obtain ⟨hl, h⟩ := h
  have hn : zs.length = n := by rw [stepCells_len] at hl; omega
  rcases h with ⟨rfl, h0⟩ | ⟨g, cap, cur, rfl, hb, hg, h1, h2, hs, ht⟩
  · obtain rfl : zs = [] := List.eq_nil_of_length_eq_zero (by omega)
    exact stepSl_nil w
  · subst hn
    have hc : ∀ k u, (stepCells zs)[k]? = some u → w.cell? ⟨g, 0 + k, none⟩ = some u := fun k u hu => by
      rw [cell_of_row w g (0 + k) _ _ _ hg, Nat.zero_add]
      rw [← ht, List.getElem?_take] at hu
      split at hu
      · simpa using hu
      · cases hu
    refine ⟨_, cap, rfl, by omega, Or.inr ⟨g, 0, rfl, fun i hi => ?_⟩, (fun e => by cases e), h1⟩
    obtain ⟨k1, k2, k3⟩ := stepCells_get zs i hi
    exact ⟨hc _ _ k1, hc _ _ k2, hc _ _ k3⟩

/-- An automaton in a box, its rows of the call's own. -/
structure RA (w : World) (base pb : Nat) (fv gv sv : Value) (A : Aut) : Prop where
  box : w.heap[pb]? = some (.cells #[.int .i64 A.n, .int .i64 A.m, fv, gv, sv] 26)
  f : w.ownsRow base 3 1 fv A.first.length (A.first.map (.int .i64))
  g : w.ownsRow base 4 1 gv A.good.length (A.good.map .bool)
  s : w.ownsRow base 49 3 sv A.steps.length (stepCells A.steps)
  hb : base ≤ pb

/-- A row of elements that are no automata does not lie in the box. -/
theorem row_apart {w : World} {base e sz n pb : Nat} {v : Value} {xs : List Value} {c : Array Value} {t : TypeId} (h : w.ownsRow base e sz v n xs) (hp : w.heap[pb]? = some (.cells c t)) (hne : e ≠ t) : ∀ r, v.ownBlock = some r → r ≠ pb := by
  intro r hr e1
  obtain ⟨c', fz, hc⟩ := owns_cells h r hr
  rw [e1, hp] at hc
  injection hc with hc
  injection hc with _ h2
  exact hne h2.symm

theorem box_set {w : World} {pb : Nat} {c : Array Value} {t : TypeId} (h : w.heap[pb]? = some (.cells c t)) (k : Nat) (v : Value) : (w.setCell ⟨pb, k, none⟩ v).heap[pb]? = some (.cells (c.setIfInBounds k v) t) := by
  rw [setCell_eq_setRow w pb k c t _ v h]
  exact setRow_heap w pb c _ t _ h

theorem owns_set {w : World} {base e sz n pb : Nat} {v : Value} {xs : List Value} {c : Array Value} {t : TypeId} (h : w.ownsRow base e sz v n xs) (hp : w.heap[pb]? = some (.cells c t)) (hne : e ≠ t) (k : Nat) (u : Value) : (w.setCell ⟨pb, k, none⟩ u).ownsRow base e sz v n xs :=
  owns_kept h fun r hr => heap_setCell_other w _ _ r (row_apart h hp hne r hr)

theorem below_set {base : Nat} {w w' : World} (h : Below base w w') {pb : Nat} (hb : base ≤ pb) (k : Nat) (u : Value) : Below base w (w'.setCell ⟨pb, k, none⟩ u) := h.setCell hb u

theorem RA.below {w w' : World} {base pb : Nat} {fv gv sv : Value} {A : Aut} (h : RA w base pb fv gv sv A) (hb : Below w.heap.size w w') : RA w' base pb fv gv sv A :=
  ⟨(hb.block pb (Array.getElem?_eq_some_iff.1 h.box).1).trans h.box, owns_below h.f hb, owns_below h.g hb, owns_below h.s hb, h.hb⟩

theorem RA.aut {w : World} {base pb : Nat} {fv gv sv : Value} {A : Aut} (h : RA w base pb fv gv sv A) : AutV w (.agg #[.int .i64 A.n, .int .i64 A.m, fv, gv, sv]) A :=
  ⟨fv, gv, sv, rfl, intSl_of_owns h.f, boolSl_of_owns h.g, stepSl_of_owns h.s⟩

theorem RA.hb0 {w : World} {base pb : Nat} {fv gv sv : Value} {A : Aut} (h : RA w base pb fv gv sv A) : base ≤ w.heap.size := Nat.le_trans h.hb (Nat.le_of_lt (Array.getElem?_eq_some_iff.1 h.box).1)

/-- Rows of unlike elements lie apart, told of both blocks. -/
theorem rows_far {w : World} {base base' e e' sz sz' n n' : Nat} {v v' : Value} {xs xs' : List Value} (h : w.ownsRow base e sz v n xs) (h' : w.ownsRow base' e' sz' v' n' xs') (hne : e ≠ e') : ∀ r, v.ownBlock = some r → some r ≠ v'.ownBlock := fun _ hr e => rows_apart h h' hne hr e.symm

theorem KR.owns {base : Nat} {r : Option Nat} {w0 w : World} (h : KR base r w0 w) {base' e sz n : Nat} {v : Value} {xs : List Value} (ho : w0.ownsRow base' e sz v n xs) (hne : ∀ k, v.ownBlock = some k → some k ≠ r) : w.ownsRow base' e sz v n xs :=
  owns_kept ho fun k hk => h.keep k (ho.lt k hk).2 (hne k hk)

theorem RA.apart {w : World} {base pb : Nat} {fv gv sv : Value} {A : Aut} (h : RA w base pb fv gv sv A) : some pb ≠ fv.ownBlock ∧ some pb ≠ gv.ownBlock ∧ some pb ≠ sv.ownBlock :=
  ⟨fun e => row_apart h.f h.box (by decide) pb e.symm rfl, fun e => row_apart h.g h.box (by decide) pb e.symm rfl, fun e => row_apart h.s h.box (by decide) pb e.symm rfl⟩

theorem RA.appFirst {w W : World} {base pb : Nat} {fv gv sv v' : Value} {A : Aut} {z : Int} (h : RA w base pb fv gv sv A) (hk : KR base fv.ownBlock w W) (hn : W.ownsRow base 3 1 v' (A.first.length + 1) (A.first.map (.int .i64) ++ [.int .i64 z])) : RA (W.setCell ⟨pb, 2, none⟩ v') base pb v' gv sv { A with first := A.first ++ [z] } := by
  have hb := hk.block h.box h.apart.1
  refine ⟨box_set hb 2 v', ?_, owns_set (hk.owns h.g (rows_far h.g h.f (by decide))) hb (by decide) _ _, owns_set (hk.owns h.s (rows_far h.s h.f (by decide))) hb (by decide) _ _, h.hb⟩
  have := owns_set hn hb (by decide) 2 v'
  simpa using this

theorem RA.appGood {w W : World} {base pb : Nat} {fv gv sv v' : Value} {A : Aut} {z : Bool} (h : RA w base pb fv gv sv A) (hk : KR base gv.ownBlock w W) (hn : W.ownsRow base 4 1 v' (A.good.length + 1) (A.good.map .bool ++ [.bool z])) : RA (W.setCell ⟨pb, 3, none⟩ v') base pb fv v' sv { A with good := A.good ++ [z] } := by
  have hb := hk.block h.box h.apart.2.1
  refine ⟨box_set hb 3 v', owns_set (hk.owns h.f (rows_far h.f h.g (by decide))) hb (by decide) _ _, ?_, owns_set (hk.owns h.s (rows_far h.s h.g (by decide))) hb (by decide) _ _, h.hb⟩
  have := owns_set hn hb (by decide) 3 v'
  simpa using this

theorem RA.appStep {w W : World} {base pb : Nat} {fv gv sv v' : Value} {A : Aut} {z : Stp} (h : RA w base pb fv gv sv A) (hk : KR base sv.ownBlock w W) (hn : W.ownsRow base 49 3 v' (A.steps.length + 1) (stepCells A.steps ++ [.int .i64 z.f, .int .i64 z.l, .int .i64 z.t])) : RA (W.setCell ⟨pb, 4, none⟩ v') base pb fv gv v' { A with steps := A.steps ++ [z] } := by
  have hb := hk.block h.box h.apart.2.2
  refine ⟨box_set hb 4 v', owns_set (hk.owns h.f (rows_far h.f h.s (by decide))) hb (by decide) _ _, owns_set (hk.owns h.g (rows_far h.g h.s (by decide))) hb (by decide) _ _, ?_, h.hb⟩
  have := owns_set hn hb (by decide) 4 v'
  simpa [stepCells_snoc] using this
end Go.Proofs.YtpiacnnifdjlkabDoor

/-
  Package include: sets of states, and the box of nothing.
-/
namespace Go.Proofs.YtpiacnnifdjlkabDoor
open Go.RowKit Go.Sort

set_option maxHeartbeats 1000000 in
theorem iWith_any {w : World} {s q : Nat} (hs : s < 8) (hq : q < 3) :
    Calls Tryd.prog 92 #[.int .u8 s, .int .i64 q] w fun e w' => e = .returned (.int .u8 (s ||| 1 <<< q : Nat)) ∧ Below w.heap.size w w' := by
  have h1 : s = 0 ∨ s = 1 ∨ s = 2 ∨ s = 3 ∨ s = 4 ∨ s = 5 ∨ s = 6 ∨ s = 7 := by omega
  have h2 : q = 0 ∨ q = 1 ∨ q = 2 := by omega
  rcases h1 with rfl | rfl | rfl | rfl | rfl | rfl | rfl | rfl <;> rcases h2 with rfl | rfl | rfl
  all_goals
    go_enter Tryd.func92, Tryd.ntmps92
    go_wp2
    go_ret
    exact ⟨by kernel_rfl, Below.refl _ _⟩

set_option maxHeartbeats 1000000 in
theorem iMeets_any {w : World} {s q : Nat} (hs : s < 8) (hq : q < 8) :
    Calls Tryd.prog 70 #[.int .u8 s, .int .u8 q] w fun e w' => e = .returned (.bool (s &&& q != 0)) ∧ Below w.heap.size w w' := by
  have h1 : s = 0 ∨ s = 1 ∨ s = 2 ∨ s = 3 ∨ s = 4 ∨ s = 5 ∨ s = 6 ∨ s = 7 := by omega
  have h2 : q = 0 ∨ q = 1 ∨ q = 2 ∨ q = 3 ∨ q = 4 ∨ q = 5 ∨ q = 6 ∨ q = 7 := by omega
  rcases h1 with rfl | rfl | rfl | rfl | rfl | rfl | rfl | rfl <;> rcases h2 with rfl | rfl | rfl | rfl | rfl | rfl | rfl | rfl
  all_goals
    go_enter Tryd.func70, Tryd.ntmps70
    go_wp2
    go_ret
    exact ⟨by kernel_rfl, Below.refl _ _⟩

end Go.Proofs.YtpiacnnifdjlkabDoor

namespace Go.Proofs.YtpiacnnifdjlkabDoor

/-- n steps of an automaton that reads a word without an end, from a place on. -/
def pathU (A : Aut) (u : Nat → Int) : Nat → Nat → Nat → Nat → Prop
  | 0, _, q, q' => q = q'
  | n + 1, t, q, q' => ∃ z : Nat, (∃ s ∈ A.steps, s.f = q ∧ s.l = u t ∧ s.t = z) ∧ pathU A u n (t + 1) z q'

/-- A word is taken: a good state, come to from a first one, is come to again and again. -/
def TakesU (A : Aut) (u : Nat → Int) : Prop :=
  ∃ i, i < A.first.length ∧ ∃ n q m, pathU A u n 0 (A.first.getD i 0).toNat q ∧ A.good.getD q false = true ∧ 0 < m ∧ ∀ j, pathU A u m (n + j * m) q q

theorem pathU_trans {A : Aut} {u : Nat → Int} : ∀ {n m t q q' q'' : Nat}, pathU A u n t q q' → pathU A u m (t + n) q' q'' → pathU A u (n + m) t q q''
  | 0, m, t, q, q', q'', h, k => by
    have h : q = q' := h
    subst h
    rw [Nat.zero_add]
    exact k
  | n + 1, m, t, q, q', q'', h, k => by
    obtain ⟨z, hz, h⟩ := h
    rw [Nat.succ_add]
    exact ⟨z, hz, pathU_trans h (by rw [show t + 1 + n = t + (n + 1) by omega]; exact k)⟩

section
variable {A : Aut} {hs ls : List Int}

theorem pl_far (hL : 0 < ls.length) {t : Nat} (h : hs.length ≤ t) : pl hs ls 0 t = hs.length + (t - hs.length) % ls.length := by
  rw [show t = hs.length + (t - hs.length) by omega, pl_add, pl_head hs ls hL _ (Nat.le_refl _), pl_loop hs ls hL, show hs.length + (t - hs.length) - hs.length = t - hs.length by omega]

theorem lat_pl (hL : 0 < ls.length) (t : Nat) : lat hs ls (pl hs ls 0 t) = lat hs ls t := by
  by_cases h : t < hs.length
  · rw [pl_head hs ls hL t (by omega)]
  · rw [pl_far hL (by omega)]
    unfold lat
    rw [if_neg (by omega), if_neg h, Nat.add_sub_cancel_left, Nat.mod_mod]

theorem goN_pathU (hL : 0 < ls.length) : ∀ (n t q : Nat) (y : Spot), goN (EdgeA A hs ls) n (pl hs ls 0 t, q) y ↔ y.1 = pl hs ls 0 (t + n) ∧ pathU A (lat hs ls) n t q y.2
  | 0, t, q, y => by
    constructor
    · intro h
      have h : (pl hs ls 0 t, q) = y := h
      subst h
      exact ⟨rfl, rfl⟩
    · rintro ⟨h1, h2⟩
      exact Prod.ext h1.symm h2
  | n + 1, t, q, y => by
    constructor
    · rintro ⟨z, ⟨h1, s, hs', e1, e2, e3⟩, h⟩
      have hz : z = (pl hs ls 0 (t + 1), z.2) := Prod.ext h1 rfl
      rw [hz] at h
      obtain ⟨k1, k2⟩ := (goN_pathU hL n (t + 1) z.2 y).1 h
      refine ⟨by rw [k1]; congr 1; omega, z.2, ⟨s, hs', e1, ?_, e3⟩, k2⟩
      rw [e2]
      exact lat_pl hL t
    · rintro ⟨h1, z, ⟨s, hs', e1, e2, e3⟩, h⟩
      refine ⟨(pl hs ls 0 (t + 1), z), ⟨rfl, s, hs', e1, ?_, e3⟩, (goN_pathU hL n (t + 1) z y).2 ⟨by rw [h1]; congr 1; omega, h⟩⟩
      rw [e2]
      exact (lat_pl hL t).symm

theorem pathU_times {u : Nat → Int} {n m q : Nat} (h : ∀ j, pathU A u m (n + j * m) q q) (j0 : Nat) : ∀ k, pathU A u (k * m) (n + j0 * m) q q
  | 0 => by rw [Nat.zero_mul]; rfl
  | k + 1 => by
    rw [Nat.succ_mul]
    refine pathU_trans (pathU_times h j0 k) ?_
    have := h (j0 + k)
    rw [Nat.add_mul] at this
    rw [Nat.add_assoc]
    exact this

/-- Whether a lasso is taken hangs on its letters alone. -/
theorem takes_word (hL : 0 < ls.length) : TakesA A hs ls ↔ TakesU A (lat hs ls) := by
  constructor
  · rintro ⟨i, hi, z, ⟨n, hn⟩, hg, m, hm⟩
    have hn' : goN (EdgeA A hs ls) n (pl hs ls 0 0, (A.first.getD i 0).toNat) z := hn
    obtain ⟨k1, k2⟩ := (goN_pathU hL n 0 _ z).1 hn'
    rw [Nat.zero_add] at k1
    refine ⟨i, hi, n, z.2, m + 1, k2, hg, Nat.succ_pos _, ?_⟩
    have hp : ∀ j, pl hs ls 0 (n + j * (m + 1)) = z.1 := by
      intro j
      induction j with
      | zero => rw [Nat.zero_mul, Nat.add_zero, k1]
      | succ j ih =>
        have hz : z = (pl hs ls 0 (n + j * (m + 1)), z.2) := Prod.ext ih.symm rfl
        have hm' := hm
        rw [show goN (EdgeA A hs ls) (m + 1) z z ↔ goN (EdgeA A hs ls) (m + 1) (pl hs ls 0 (n + j * (m + 1)), z.2) z by rw [← hz]] at hm'
        have := ((goN_pathU hL (m + 1) _ z.2 z).1 hm').1
        rw [Nat.succ_mul, ← Nat.add_assoc]
        exact this.symm
    intro j
    have hz : z = (pl hs ls 0 (n + j * (m + 1)), z.2) := Prod.ext (hp j).symm rfl
    have hm' := hm
    rw [show goN (EdgeA A hs ls) (m + 1) z z ↔ goN (EdgeA A hs ls) (m + 1) (pl hs ls 0 (n + j * (m + 1)), z.2) z by rw [← hz]] at hm'
    exact ((goN_pathU hL (m + 1) _ z.2 z).1 hm').2
  · rintro ⟨i, hi, n, q, m, hn, hg, hm, hc⟩
    have h1 := pathU_trans hn (by rw [Nat.zero_add]; have := pathU_times hc 0 hs.length; rwa [Nat.zero_mul, Nat.add_zero] at this)
    have h2 := pathU_times hc hs.length ls.length
    have hT : hs.length ≤ n + hs.length * m := Nat.le_trans (Nat.le_mul_of_pos_right _ hm) (Nat.le_add_left _ _)
    have hback : pl hs ls 0 (n + hs.length * m + ls.length * m) = pl hs ls 0 (n + hs.length * m) := by
      rw [pl_far hL (by omega), pl_far hL hT, show n + hs.length * m + ls.length * m - hs.length = n + hs.length * m - hs.length + ls.length * m by omega, Nat.add_mul_mod_self_left]
    refine ⟨i, hi, (pl hs ls 0 (n + hs.length * m), q), ⟨n + hs.length * m, (goN_pathU hL _ 0 _ _).2 ⟨by rw [Nat.zero_add], h1⟩⟩, hg, ls.length * m - 1, ?_⟩
    have hpos : 0 < ls.length * m := Nat.mul_pos hL hm
    rw [show ls.length * m - 1 + 1 = ls.length * m by omega]
    exact (goN_pathU hL _ _ q _).2 ⟨hback.symm, h2⟩
end

theorem takes_same {A : Aut} {hs ls hs' ls' : List Int} (hL : 0 < ls.length) (hL' : 0 < ls'.length) (h : ∀ t, lat hs ls t = lat hs' ls' t) : TakesA A hs ls ↔ TakesA A hs' ls' := by
  rw [takes_word hL, takes_word hL', show lat hs ls = lat hs' ls' from funext h]
end Go.Proofs.YtpiacnnifdjlkabDoor
