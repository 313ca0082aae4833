/-
  What auto.reached answers: the states that can be come to.
-/
import Derived.Test.YtpiacnnifdjlkaaDoorCt
import Derived.Deep.LoopGhost
import Derived.Shelf.Abstract
namespace Go.Proofs.YtpiacnnifdjlkaaDoor
open Go.RowKit Go.Sort
attribute [local go_sem] Oper.semAt_some

def EdgeS (A : Aut) (x y : Nat) : Prop := ∃ s ∈ A.steps, s.f = x ∧ s.t = y
def ReachA (A : Aut) (q : Nat) : Prop := ∃ i, i < A.first.length ∧ ∃ n, rN (EdgeS A) n (A.first.getD i 0).toNat q

theorem ReachA.step {A : Aut} {q t : Nat} (h : ReachA A q) (he : EdgeS A q t) : ReachA A t := by
  obtain ⟨i, hi, n, hn⟩ := h
  exact ⟨i, hi, n + 1, q, hn, he⟩

theorem MT.row {W : World} {base BM BT gM N : Nat} {f : Nat → Bool} {xs : List Int} (h : MT W base BM BT gM N f xs) (X : List Nat) : RowIn base X BT W := by
  intro v r hv hr
  obtain ⟨v', hv', hown⟩ := h.bt
  rw [hv] at hv'
  have e : v = v' := by
    injection hv' with h1
    injection h1 with h2
    have := congrArg (fun a => a[0]?) h2
    simpa using this
  subst e
  exact Or.inr (hown.lt r hr).1

/-- What is kept while states are gone through: all that were met can be come to, those that are to be gone through were met, and there are not too many. -/
structure GT (A : Aut) (N : Nat) (f : Nat → Bool) (xs : List Int) : Prop where
  sound : ∀ q, f q = true → ReachA A q
  todo : ∀ x ∈ xs, 0 ≤ x ∧ x < N ∧ f x.toNat = true
  few : xs.length + left f N ≤ N

theorem left_le (f : Nat → Bool) (N : Nat) : left f N ≤ N := by
  unfold left
  have := List.countP_le_length (p := fun q : Nat => !f q) (l := List.range N)
  rwa [List.length_range] at this

theorem left_add {f : Nat → Bool} {N s : Nat} (hs : s < N) (h : f s = false) : left (addF f s) N < left f N :=
  left_lt N (fun q hq => by unfold addF; rw [hq]; rfl) s hs h (by simp [addF])

theorem addF_old {f : Nat → Bool} {s : Nat} (h : f s = true) : addF f s = f := by
  funext i
  unfold addF
  by_cases e : i = s
  · rw [e, h]; rfl
  · simp [e]

structure GT0 (N : Nat) (f : Nat → Bool) (xs : List Int) : Prop where
  todo : ∀ x ∈ xs, 0 ≤ x ∧ x < N ∧ f x.toNat = true
  few : xs.length + left f N ≤ N

theorem GT0.meet {N : Nat} {f : Nat → Bool} {xs : List Int} (h : GT0 N f xs) (s : Nat) (hs : s < N) : GT0 N (addF f s) (if f s then xs else xs ++ [(s : Int)]) ∧ 2 * left (addF f s) N + (if f s then xs else xs ++ [(s : Int)]).length ≤ 2 * left f N + xs.length := by
  cases hf : f s with
  | true =>
    rw [addF_old hf]
    simp only [if_true]
    exact ⟨h, Nat.le_refl _⟩
  | false =>
    have hl := left_add hs hf
    simp only [Bool.false_eq_true, if_false, List.length_append, List.length_singleton]
    refine ⟨⟨fun x hx => ?_, ?_⟩, by omega⟩
    · rcases List.mem_append.1 hx with hx | hx
      · obtain ⟨h1, h2, h3⟩ := h.todo x hx
        exact ⟨h1, h2, by unfold addF; rw [h3]; rfl⟩
      · rw [List.mem_singleton] at hx
        subst hx
        exact ⟨by omega, by omega, by simp [addF]⟩
    · have := h.few
      rw [List.length_append, List.length_singleton]
      omega

/-- One meeting. -/
theorem GT.meet {A : Aut} {N : Nat} {f : Nat → Bool} {xs : List Int} (h : GT A N f xs) (s : Nat) (hs : s < N) (hr : ReachA A s) : GT A N (addF f s) (if f s then xs else xs ++ [(s : Int)]) := by
  obtain ⟨⟨h1, h2⟩, _⟩ := GT0.meet ⟨h.todo, h.few⟩ s hs
  refine ⟨fun q hq => ?_, h1, h2⟩
  unfold addF at hq
  rw [Bool.or_eq_true, decide_eq_true_eq] at hq
  rcases hq with hq | rfl
  · exact h.sound q hq
  · exact hr

theorem owns_drop {w : World} {base : Nat} {e : TypeId} {v : Value} {n : Nat} {xs : List Value} {x : Value} (h : w.ownsRow base e 1 v (n + 1) (xs ++ [x])) :
    ∃ g cap, v = .slice (some ⟨g, 0, none⟩) (n + 1) cap ∧ base ≤ g ∧ g < w.heap.size ∧ (∃ o : Obj, w.heap[g]? = some o ∧ o.isCells = true) ∧ n + 1 ≤ cap ∧ w.ownsRow base e 1 (.slice (some ⟨g, 0, none⟩) n cap) n xs ∧ w.cell? ⟨g, n, none⟩ = some x := by
  have hl : xs.length = n := by have := h.1; simp at this; omega
  rcases h.2 with ⟨_, h0⟩ | ⟨g, cap, cur, rfl, hb, hg, hnc, hcm, hcs, ht⟩
  · omega
  · have h2 : cur.toList.take (n * 1) = xs := by
      have := congrArg (List.take n) ht
      rw [List.take_take, Nat.mul_one, Nat.min_eq_left (by omega), List.take_left' hl] at this
      rw [Nat.mul_one]; exact this
    refine ⟨g, cap, rfl, hb, (Array.getElem?_eq_some_iff.1 hg).1, ⟨_, hg, rfl⟩, hnc, ⟨by omega, .inr ⟨g, cap, cur, rfl, hb, hg, by omega, hcm, hcs, h2⟩⟩, ?_⟩
    have hc : w.cell? ⟨g, n, none⟩ = cur[n]? := by simp [World.cell?, hg]
    rw [hc]
    have h3 := congrArg (fun l => l[n]?) ht
    simp only [List.getElem?_append_right (show xs.length ≤ n by omega), hl, Nat.sub_self, List.getElem?_cons_zero] at h3
    rw [List.getElem?_take_of_lt (by omega), Array.getElem?_toList] at h3
    exact h3

theorem MT.old {W W' : World} {base BM BT gM N : Nat} {f : Nat → Bool} {xs : List Int} (h : MT W base BM BT gM N f xs) (hb : Below W.heap.size W W') : MT W' base BM BT gM N f xs := by
  have hlo := h.lo
  obtain ⟨v, hv, hown⟩ := h.bt
  exact ⟨belowRow hb h.bm, ⟨v, belowRow hb hv, owns_below hown hb⟩, h.br.old hb, ⟨hlo.1, hlo.2.1, hlo.2.2.1, Nat.le_trans hlo.2.2.2.1 hb.size, hlo.2.2.2.2⟩⟩

/-- It stands where blocks are laid, and what is no cells is turned. -/
theorem MT.grown {W W' : World} {base BM BT gM N : Nat} {f : Nat → Bool} {xs : List Int} {row : Option Nat} (h : MT W base BM BT gM N f xs) (hg : W.grownBy W' row) (hr : ∀ r, row = some r → base ≤ r ∧ ∃ o : Obj, W.heap[r]? = some o ∧ o.isCells = false) : MT W' base BM BT gM N f xs := by
  have hlo := h.lo
  obtain ⟨v, hv, hown⟩ := h.bt
  have low : ∀ k, k < base → W'.heap[k]? = W.heap[k]? := fun k hk => hg.block k (by omega) (fun e => by have := (hr k e.symm).1; omega)
  refine ⟨(low BM hlo.1).trans h.bm, ⟨v, (low BT hlo.2.1).trans hv, owns_kept hown (fun r hrr => hg.block r (hown.lt r hrr).2 (fun e => ?_))⟩, h.br.of_block (low gM hlo.2.2.1), ⟨hlo.1, hlo.2.1, hlo.2.2.1, Nat.le_trans hlo.2.2.2.1 hg.size, hlo.2.2.2.2⟩⟩
  obtain ⟨_, o, ho, hc⟩ := hr r e.symm
  rcases hown.2 with ⟨rfl, _⟩ | ⟨g, cap, cur, rfl, _, hgr, _⟩
  · cases hrr
  · have : g = r := by simpa [Value.ownBlock] using hrr
    subst this
    rw [hgr] at ho
    cases ho
    cases hc

theorem Marks.of_kx {W W' : World} {lo m : Nat} {X : List Nat} {Ds : List Nat} (h : Marks W lo Ds) (hk : KX m X W W') (hm : W.heap.size ≤ m) (hX : ∀ x ∈ X, x < lo ∨ ∃ o : Obj, W.heap[x]? = some o ∧ o.isCells = true) : Marks W' lo Ds := by
  refine ⟨h.1, fun D hD => ?_⟩
  obtain ⟨h1, h2⟩ := h.2 D hD
  refine ⟨h1, ?_⟩
  rw [hk.block D (by have := (Array.getElem?_eq_some_iff.1 h2).1; omega) (fun hx => ?_)]
  · exact h2
  · rcases hX D hx with h3 | ⟨o, ho, hc⟩
    · omega
    · rw [h2] at ho; cases ho; cases hc

/-- What is kept while the steps of one state are gone through. -/
structure HT (N : Nat) (f : Nat → Bool) (xs : List Int) (ts : List Nat) (f2 : Nat → Bool) (xs2 : List Int) : Prop where
  gt : GT0 N f2 xs2
  old : ∀ q, f q = true → f2 q = true
  snd : ∀ q, f2 q = true → f q = true ∨ q ∈ ts
  new : ∀ t ∈ ts, f2 t = true
  todo : ∀ q, f2 q = true → f q = false → (q : Int) ∈ xs2
  keep : ∀ x ∈ xs, x ∈ xs2
  less : 2 * left f2 N + xs2.length ≤ 2 * left f N + xs.length

theorem HT.begin_ {N : Nat} {f : Nat → Bool} {xs : List Int} (h : GT0 N f xs) : HT N f xs [] f xs :=
  ⟨h, fun _ h => h, fun _ h => .inl h, fun t h => (by cases h), fun q h1 h2 => (by rw [h1] at h2; cases h2), fun _ h => h, Nat.le_refl _⟩

theorem HT.meet {N : Nat} {f f2 : Nat → Bool} {xs xs2 : List Int} {ts : List Nat} (h : HT N f xs ts f2 xs2) (s : Nat) (hs : s < N) : HT N f xs (ts ++ [s]) (addF f2 s) (if f2 s then xs2 else xs2 ++ [(s : Int)]) := by
  obtain ⟨h1, h2⟩ := h.gt.meet s hs
  have mono : ∀ q, f2 q = true → addF f2 s q = true := fun q hq => by unfold addF; rw [hq]; rfl
  refine ⟨h1, fun q hq => mono q (h.old q hq), fun q hq => ?_, fun t ht => ?_, fun q hq hf => ?_, fun x hx => ?_, Nat.le_trans h2 h.less⟩
  · unfold addF at hq
    rw [Bool.or_eq_true, decide_eq_true_eq] at hq
    rcases hq with hq | rfl
    · rcases h.snd q hq with h3 | h3
      · exact .inl h3
      · exact .inr (List.mem_append_left _ h3)
    · exact .inr (by simp)
  · rcases List.mem_append.1 ht with ht | ht
    · exact mono t (h.new t ht)
    · rw [List.mem_singleton] at ht
      subst ht
      simp [addF]
  · unfold addF at hq
    rw [Bool.or_eq_true, decide_eq_true_eq] at hq
    cases hfs : f2 s with
    | true =>
      simp only [if_true]
      rcases hq with hq | rfl
      · exact h.todo q hq hf
      · exact h.todo q hfs hf
    | false =>
      simp only [Bool.false_eq_true, if_false]
      rcases hq with hq | rfl
      · exact List.mem_append_left _ (h.todo q hq hf)
      · simp
  · cases hfs : f2 s with
    | true => simp only [if_true]; exact h.keep x hx
    | false => simp only [Bool.false_eq_true, if_false]; exact List.mem_append_left _ (h.keep x hx)

theorem putOther1 (W : World) (y : Nat) (z : Value) : ∀ b, b ≠ y → (W.setCell ⟨y, 0, none⟩ z).heap[b]? = W.heap[b]? := fun b hb => heap_setCell_other W _ _ b hb

set_option maxRecDepth 100000 in
set_option maxHeartbeats 8000000 in
theorem reached_any {w : World} {A : Aut} (N : Nat) (m : Int) (a1 a3 : Option Addr) (gv : Value) (c1 c3 : Nat) (hA : Right A) (hN : (N : Int) = A.n) (hF : IntSl w (.slice a1 A.first.length c1) A.first) (hS : StepSl w (.slice a3 A.steps.length c3) A.steps) (hg1 : ∃ a l c, gv = .slice a l c) :
    Calls Tryd.prog 49 #[.agg #[.int .i64 (N : Nat), .int .i64 m, .slice a1 A.first.length c1, gv, .slice a3 A.steps.length c3]] w fun e w' =>
      ∃ g f, e = .returned (.slice (some ⟨g, 0, none⟩) N N) ∧ BR w' g N f ∧ (∀ q, q < N → (f q = true ↔ ReachA A q)) ∧ Below w.heap.size w w' := by
  have hN3 : N ≤ 300 := by have := hA.n3; omega
  have hmk := make_bools N (by omega)
  have hmf : ∀ (fn : Fn) (first cap : Array Value) (w : World), (Instr.makeFunc fn first cap).run Tryd.prog w = .ok (.func fn first cap) w := fun _ _ _ _ => rfl
  have hsf : ∀ (a : Addr) (fn : Fn) (x y : Array Value) (md : Mode) (w : World), (store a (.func fn x y) md).run Tryd.prog w = stored Tryd.prog w a (.func fn x y) md := fun a fn x y md w => run_store Tryd.prog w a _ md rfl
  obtain ⟨ag, lg, cg, rfl⟩ := hg1
  have hm1 : A.first.length ≤ maxLen := by obtain ⟨_, _, _, h, _⟩ := hF; exact h
  unfold maxLen at hm1
  have Hall := hide (And.intro hA (And.intro hN (And.intro hF hS)))
  clear hA hN hF hS
  generalize hL1 : A.first.length = L1 at *
  generalize hL3 : A.steps.length = L3 at *
  have HL1 := hide hL1
  have HL3 := hide hL3
  clear hL1 hL3
  refine (callsIn_wide (n := 10)).1 ?_
  refine callsIn_of_wp_marks Tryd.func49 rfl trivial ?_ rfl
  simp only [Tryd.ntmps49, List.size_toArray, List.length_cons, List.length_nil, Nat.reduceAdd, Nat.reduceSub, Array.replicate_succ, Array.replicate_zero, List.push_toArray, List.append_toArray, List.nil_append, List.cons_append]
  refine wpIn_wide.2 ?_
  go_wp2_with (fail)
  obtain ⟨f0, f1, f2, f3, f4⟩ := five_alloc w (Obj.cells #[Value.int .i64 (N : Nat), .int .i64 m, .slice a1 L1 c1, .slice ag lg cg, .slice a3 L3 c3] 26) (Obj.cells (falses N) 4) (Obj.cells #[Value.slice (some ⟨w.heap.size + 1, 0, none⟩) N N] 23) (Obj.cells #[Value.slice none 0 0] 22) (Obj.cells #[Value.func (.func 88) #[] #[.pointer (some ⟨w.heap.size + 1 + 1, 0, none⟩), .pointer (some ⟨w.heap.size + 1 + 1 + 1, 0, none⟩)]] 129)
  have hbW : Below w.heap.size w (((((w.alloc (Obj.cells #[Value.int .i64 (N : Nat), .int .i64 m, .slice a1 L1 c1, .slice ag lg cg, .slice a3 L3 c3] 26)).alloc (Obj.cells (falses N) 4)).alloc (Obj.cells #[Value.slice (some ⟨w.heap.size + 1, 0, none⟩) N N] 23)).alloc (Obj.cells #[Value.slice none 0 0] 22)).alloc (Obj.cells #[Value.func (.func 88) #[] #[.pointer (some ⟨w.heap.size + 1 + 1, 0, none⟩), .pointer (some ⟨w.heap.size + 1 + 1 + 1, 0, none⟩)]] 129)) := (by repeat (first | exact Below.refl _ _ | assumption | refine below_drewN ?_ _ | refine Below.drew ?_ | refine Below.alloc ?_ (by simp <;> omega) _ | refine below_trans ?_ (by assumption)))
  have hsz : (((((w.alloc (Obj.cells #[Value.int .i64 (N : Nat), .int .i64 m, .slice a1 L1 c1, .slice ag lg cg, .slice a3 L3 c3] 26)).alloc (Obj.cells (falses N) 4)).alloc (Obj.cells #[Value.slice (some ⟨w.heap.size + 1, 0, none⟩) N N] 23)).alloc (Obj.cells #[Value.slice none 0 0] 22)).alloc (Obj.cells #[Value.func (.func 88) #[] #[.pointer (some ⟨w.heap.size + 1 + 1, 0, none⟩), .pointer (some ⟨w.heap.size + 1 + 1 + 1, 0, none⟩)]] 129)).heap.size = w.heap.size + 5 := by simp
  generalize (((((w.alloc (Obj.cells #[Value.int .i64 (N : Nat), .int .i64 m, .slice a1 L1 c1, .slice ag lg cg, .slice a3 L3 c3] 26)).alloc (Obj.cells (falses N) 4)).alloc (Obj.cells #[Value.slice (some ⟨w.heap.size + 1, 0, none⟩) N N] 23)).alloc (Obj.cells #[Value.slice none 0 0] 22)).alloc (Obj.cells #[Value.func (.func 88) #[] #[.pointer (some ⟨w.heap.size + 1 + 1, 0, none⟩), .pointer (some ⟨w.heap.size + 1 + 1 + 1, 0, none⟩)]] 129)) = W5 at f0 f1 f2 f3 f4 hbW hsz ⊢
  have hMT0 : MT W5 (w.heap.size + 5) (w.heap.size + 1 + 1) (w.heap.size + 1 + 1 + 1) (w.heap.size + 1) N (fun _ => false) [] :=
    ⟨f2, ⟨_, f3, World.ownsRow_nil _ _ _ _⟩, BR.new f1, by omega, by omega, by omega, by omega, by omega, by omega, by omega⟩
  have HMT0 := hide hMT0
  have Hf0 := hide f0
  have Hf4 := hide f4
  have HbW := hide hbW
  clear hMT0 f0 f1 f2 f3 f4 hbW hmk hmf hsf
  go_loopw [17] (fun s17 wr => ∃ (i : Nat) (f : Nat → Bool) (xs : List Int), s17 = .int .i64 i ∧ i ≤ L1 ∧ MT wr (w.heap.size + 5) (w.heap.size + 1 + 1) (w.heap.size + 1 + 1 + 1) (w.heap.size + 1) N f xs ∧ GT A N f xs ∧ (∀ j, j < i → f (A.first.getD j 0).toNat = true) ∧ (∀ q, f q = true → (q : Int) ∈ xs) ∧ KX (w.heap.size + 5) [w.heap.size + 1, w.heap.size + 1 + 1 + 1] W5 wr) (fun s17 _ => L1 - (intOf s17).toNat)
  case atStart => exact ⟨0, fun _ => false, [], rfl, Nat.zero_le _, HMT0.out, ⟨fun q h => (by cases h), fun x h => (by cases h), (by rw [List.length_nil, Nat.zero_add]; exact left_le _ _)⟩, (fun j h => by omega), (fun q h => by cases h), KX.refl _ _ _⟩
  case round =>
    obtain ⟨i, f, xs, rfl, hi, hMT, hGT, hfi, hall, hKX⟩ := hrel
    have HMT := hide hMT
    have HGT := hide hGT
    have Hfi := hide hfi
    have Hal := hide hall
    have HKX := hide hKX
    have e4 := (hKX.block (w.heap.size + 1 + 1 + 1 + 1) (by omega) (by simp <;> omega)).trans Hf4.out
    have q4 := cell_of_row wr _ 0 _ _ _ e4
    have hlo := hMT.lo
    clear hMT hGT hfi hall hKX e4
    by_cases hil : i < L1
    · obtain ⟨hA, hN, hF, hS⟩ := Hall.out
      have hls : i < A.first.length := by rw [HL1.out]; exact hil
      obtain ⟨a', cap', e, _, hz, _⟩ := hF
      injection e with e1 e2 e3
      subst e1
      rcases hz with hz | ⟨b5, o5, e, hc⟩
      · rw [hz] at hls; simp at hls
      subst e
      have d0 := hc i hls
      have hb5 : b5 < w.heap.size := World.block_lt_of_cell? w _ d0
      have d0 := ((HKX.out.cell (a := ⟨b5, _, none⟩) (by show b5 < _; omega) (by show b5 ∉ _; simp <;> omega)).trans (HbW.out.cell (p := ⟨b5, _, none⟩) hb5)).trans d0
      have hmem : A.first.getD i 0 ∈ A.first := by simp [List.getD, hls]
      have hr := hA.first _ hmem
      have Hreach := hide (show ReachA A (A.first.getD i 0).toNat from ⟨i, hls, 0, rfl⟩)
      have Hgi := hide (show A.first.getD i 0 = A.first.getD i 0 from rfl)
      generalize hzz : A.first.getD i 0 = z at *
      obtain ⟨zn, rfl⟩ := Int.eq_ofNat_of_zero_le hr.1
      have hzn : zn < N := by omega
      have Hzz := hide hzz
      clear hc e2 e3 hzz hmem hA hS hr hN
      go_wp2_with (fail)
      refine (meet_any (m := w.heap.size + 5) (X := [w.heap.size + 1, w.heap.size + 1 + 1 + 1]) zn HMT.out hzn (by have := HGT.out.few; omega) hlo.2.2.2.1 (by simp) (by simp) (HMT.out.row _)).mono ?_
      rintro e w1 ⟨⟨rv, rfl⟩, hMT1, hKX1, _, _⟩
      have HMT1 := hide hMT1
      have HKX1 := hide (HKX.out.trans hKX1)
      have HGT1 := hide (HGT.out.meet zn hzn Hreach.out)
      clear hMT1 hKX1
      go_wp2
      go_roundw
      case rel =>
        refine ⟨i + 1, addF f zn, _, by go_num, by omega, HMT1.out, HGT1.out, fun j hj => ?_, fun q hq => ?_, HKX1.out⟩
        · by_cases e : j = i
          · rw [e, Hzz.out]; simp [addF]
          · unfold addF; rw [Hfi.out j (by omega)]; rfl
        · unfold addF at hq
          rw [Bool.or_eq_true, decide_eq_true_eq] at hq
          cases hfz : f zn with
          | true =>
            simp only [if_true]
            rcases hq with hq | rfl
            · exact Hal.out q hq
            · exact Hal.out q hfz
          | false =>
            simp only [Bool.false_eq_true, if_false]
            rcases hq with hq | rfl
            · exact List.mem_append_left _ (Hal.out q hq)
            · simp
      case measure => simp [intOf]; omega
    · obtain rfl : L1 = i := by omega
      clear hi hil
      go_wp2_with (fail)
      refine wp_loop_ghost_k (fun gk a Wk => ∃ (f : Nat → Bool) (xs : List Int) (v8 v25 v26 v27 v28 v29 v30 v31 v32 v33 v34 v35 v36 v37 v38 v39 v40 v41 : Value) (Ds : List Nat), gk = 2 * left f N + xs.length ∧ a = { tmps := #[.agg #[.int .i64 (N : Nat), .int .i64 m, .slice a1 L1 c1, .slice ag lg cg, .slice a3 L3 c3], .pointer (some ⟨w.heap.size, 0, none⟩), .slice none 0 0, .pointer (some ⟨w.heap.size + 1 + 1, 0, none⟩), .pointer (some ⟨w.heap.size + 1 + 1 + 1, 0, none⟩), .pointer (some ⟨w.heap.size + 1 + 1 + 1 + 1, 0, none⟩), undef, u7, v8, undef, .pointer (some ⟨w.heap.size, 0, none⟩), .int .i64 (N : Nat), .slice (some ⟨w.heap.size + 1, 0, none⟩) N N, .func (.func 88) #[] #[.pointer (some ⟨w.heap.size + 1 + 1, 0, none⟩), .pointer (some ⟨w.heap.size + 1 + 1 + 1, 0, none⟩)], .pointer (some ⟨w.heap.size, 2, none⟩), .slice a1 L1 c1, .int .i64 (L1 : Nat), .int .i64 (L1 : Nat), .bool false, u19, u20, u21, u22, u23, u24, v25, v26, v27, v28, v29, v30, v31, v32, v33, v34, v35, v36, v37, v38, v39, v40, v41, undef, undef, undef, undef, undef, undef], defers := marksOf Ds } ∧ MT Wk (w.heap.size + 5) (w.heap.size + 1 + 1) (w.heap.size + 1 + 1 + 1) (w.heap.size + 1) N f xs ∧ GT A N f xs ∧ (∀ j, j < L1 → f (A.first.getD j 0).toNat = true) ∧ (∀ q, f q = true → (q : Int) ∉ xs → ∀ t, EdgeS A q t → f t = true) ∧ KX (w.heap.size + 5) [w.heap.size + 1, w.heap.size + 1 + 1 + 1] W5 Wk ∧ Marks Wk (w.heap.size + 5) Ds) (2 * left f N + xs.length) ?_ ?_
      · exact ⟨f, xs, undef, undef, undef, undef, undef, undef, undef, undef, undef, undef, undef, undef, undef, undef, undef, undef, undef, undef, [], rfl, rfl, HMT.out, HGT.out, Hfi.out, fun q hq hx => absurd (Hal.out q hq) hx, HKX.out, List.nodup_nil, fun D h => by cases h⟩
      clear HMT HGT Hfi Hal HKX q4 hlo
      rintro gk a Wk ⟨f, xs, v8, v25, v26, v27, v28, v29, v30, v31, v32, v33, v34, v35, v36, v37, v38, v39, v40, v41, Ds, rfl, rfl, hMT, hGT, hfi, hcl, hKX, hmk⟩ J K hJ hK
      have HMT := hide hMT
      have HGT := hide hGT
      have Hfi := hide hfi
      have Hcl := hide hcl
      have HKX := hide hKX
      have Hmk := hide hmk
      have hlo := hMT.lo
      have e0 := (hKX.block w.heap.size (by omega) (by simp <;> omega)).trans Hf0.out
      have e4 := (hKX.block (w.heap.size + 1 + 1 + 1 + 1) (by omega) (by simp <;> omega)).trans Hf4.out
      have q4 := cell_of_row Wk _ 0 _ _ _ e4
      have p0 := cell_of_row Wk _ 0 _ _ _ e0
      have p1 := cell_of_row Wk _ 1 _ _ _ e0
      have p2 := cell_of_row Wk _ 2 _ _ _ e0
      have p3 := cell_of_row Wk _ 3 _ _ _ e0
      have p4 := cell_of_row Wk _ 4 _ _ _ e0
      obtain ⟨v, ebt, hown⟩ := hMT.bt
      have ebm := hMT.bm
      have m0 := cell_of_row Wk _ 0 _ _ _ ebm
      rcases List.eq_nil_or_concat xs with rfl | ⟨ys, x, hxs⟩
      · obtain ⟨ad, cp, rfl⟩ := owns_form hown
        have t0 := cell_of_row Wk _ 0 _ _ _ ebt
        clear ebt hown ebm e0 e4 hMT hGT hfi hcl hKX hmk
        rw [List.length_nil] at t0
        go_wp2
        refine leaves_marks (w.heap.size + 5) Ds _ Hmk.out ?_
        intro W' hSh
        obtain ⟨hA, hN, _, _⟩ := Hall.out
        refine ⟨_, results_tmp rfl _ _ _, w.heap.size + 1, rfl, f, HMT.out.br.of_block (hSh.low _ (by omega)), fun q hq => ⟨HGT.out.sound q, ?_⟩, ⟨hSh.os.trans (HKX.out.os.trans HbW.out.os), hSh.tape.trans (HKX.out.tape.trans HbW.out.tape), hSh.output.trans (HKX.out.output.trans HbW.out.output), Nat.le_trans (Nat.le_trans HbW.out.size HKX.out.size) hSh.size, fun i hi => ?_⟩⟩
        · rintro ⟨i, hi, n, hn⟩
          have h0 := Hfi.out i (by rw [← HL1.out]; exact hi)
          clear hq
          induction n generalizing q with
          | zero => cases hn; exact h0
          | succ n ih =>
            obtain ⟨z, h1, h2⟩ := hn
            exact Hcl.out z (ih z h1) (fun h => by cases h) q h2
        · rw [hSh.low i (by omega), HKX.out.block i (by omega) (by simp <;> omega)]
          exact HbW.out.block i hi
      · rw [List.concat_eq_append] at hxs
        subst hxs
        rw [List.map_append, List.length_append] at hown
        obtain ⟨g8, cap8, rfl, hg8, hg8l, hg8c, hcap8, hown8, hcx⟩ := owns_drop (n := ys.length) (x := .int .i64 x) hown
        obtain ⟨hx0, hxN, hfx⟩ := HGT.out.todo x (by simp)
        obtain ⟨hh, rfl⟩ := Int.eq_ofNat_of_zero_le hx0
        have hhN : hh < N := by omega
        have t0 := cell_of_row Wk _ 0 _ _ _ ebt
        have tf : ∀ o, Wk.frozen? ⟨w.heap.size + 1 + 1 + 1, o, none⟩ = false := fun o => by simp [World.frozen?, ebt]
        have few := HGT.out.few
        have hys : ys.length ≤ 300 := by rw [List.length_append] at few; simp at few; omega
        have W1r := putOther1 Wk (w.heap.size + 1 + 1 + 1) (.slice (some ⟨g8, 0, none⟩) ys.length cap8)
        have hnl : ys.length < cap8 := by omega
        have Hebt := hide ebt
        have Hown8 := hide hown8
        have He0 := hide e0
        clear ebt hown ebm e0 e4 hMT hGT hfi hcl hKX hmk hx0 hxN few hown8
        have nb1 : ¬ w.heap.size + 1 + 1 + 1 = w.heap.size := by omega
        have nb2 : w.heap.size < Wk.heap.size := by omega
        go_wp2_with (refine (from_any _ _ _ _ _ _ _).mono ?_; rintro e w1 ⟨rfl, rfl⟩)
        have hsz1 : (Wk.setCell ⟨w.heap.size + 1 + 1 + 1, 0, none⟩ (.slice (some ⟨g8, 0, none⟩) ys.length cap8)).heap.size = Wk.heap.size := by simp [World.setCell]
        have hMTa : MT (Wk.setCell ⟨w.heap.size + 1 + 1 + 1, 0, none⟩ (.slice (some ⟨g8, 0, none⟩) ys.length cap8)) (w.heap.size + 5) (w.heap.size + 1 + 1) (w.heap.size + 1 + 1 + 1) (w.heap.size + 1) N f ys := ⟨(W1r _ (by omega)).trans HMT.out.bm, ⟨_, by simpa using heap_setCell_row 0 (.slice (some ⟨g8, 0, none⟩) ys.length cap8) Hebt.out, owns_kept Hown8.out (fun r hr => W1r r (by have := (Hown8.out.lt r hr).1; omega))⟩, HMT.out.br.far 0 _ (by omega), by omega, by omega, by omega, by rw [hsz1]; omega, by omega, by omega, by omega⟩
        have hb10 : Below (Wk.setCell ⟨w.heap.size + 1 + 1 + 1, 0, none⟩ (.slice (some ⟨g8, 0, none⟩) ys.length cap8)).heap.size (Wk.setCell ⟨w.heap.size + 1 + 1 + 1, 0, none⟩ (.slice (some ⟨g8, 0, none⟩) ys.length cap8)) (((Wk.setCell ⟨w.heap.size + 1 + 1 + 1, 0, none⟩ (.slice (some ⟨g8, 0, none⟩) ys.length cap8)).alloc (Obj.cells #[Value.int .i64 (N : Nat), .int .i64 m, .slice a1 L1 c1, .slice ag lg cg, .slice a3 L3 c3] 26)).alloc (Obj.cells #[Value.int .i64 (hh : Nat)] 3)) := (below_new _ _).trans ((below_new _ _).mono (by simp))
        have hMT0 := hMTa.old hb10
        have hbt0 := belowRow hb10 (by simpa using heap_setCell_row 0 (.slice (some ⟨g8, 0, none⟩) ys.length cap8) Hebt.out)
        have hrows := two_alloc (Wk.setCell ⟨w.heap.size + 1 + 1 + 1, 0, none⟩ (.slice (some ⟨g8, 0, none⟩) ys.length cap8)) (Obj.cells #[Value.int .i64 (N : Nat), .int .i64 m, .slice a1 L1 c1, .slice ag lg cg, .slice a3 L3 c3] 26) (Obj.cells #[Value.int .i64 (hh : Nat)] 3)
        rw [hsz1] at hrows
        have hsz0 : (((Wk.setCell ⟨w.heap.size + 1 + 1 + 1, 0, none⟩ (.slice (some ⟨g8, 0, none⟩) ys.length cap8)).alloc (Obj.cells #[Value.int .i64 (N : Nat), .int .i64 m, .slice a1 L1 c1, .slice ag lg cg, .slice a3 L3 c3] 26)).alloc (Obj.cells #[Value.int .i64 (hh : Nat)] 3)).heap.size = Wk.heap.size + 2 := by simp [World.setCell]
        have hK10 : KX Wk.heap.size [w.heap.size + 1 + 1 + 1] Wk (((Wk.setCell ⟨w.heap.size + 1 + 1 + 1, 0, none⟩ (.slice (some ⟨g8, 0, none⟩) ys.length cap8)).alloc (Obj.cells #[Value.int .i64 (N : Nat), .int .i64 m, .slice a1 L1 c1, .slice ag lg cg, .slice a3 L3 c3] 26)).alloc (Obj.cells #[Value.int .i64 (hh : Nat)] 3)) := (KX.set _ _ Wk _ 0 _ (by simp)).trans (KX.of_below hb10 (by rw [hsz1]; exact Nat.le_refl _))
        have hg8c0 : ∃ o : Obj, (((Wk.setCell ⟨w.heap.size + 1 + 1 + 1, 0, none⟩ (.slice (some ⟨g8, 0, none⟩) ys.length cap8)).alloc (Obj.cells #[Value.int .i64 (N : Nat), .int .i64 m, .slice a1 L1 c1, .slice ag lg cg, .slice a3 L3 c3] 26)).alloc (Obj.cells #[Value.int .i64 (hh : Nat)] 3)).heap[g8]? = some o ∧ o.isCells = true := by
          obtain ⟨o, ho, hc⟩ := hg8c
          exact ⟨o, (hK10.block g8 hg8l (by simp; omega)).trans ho, hc⟩
        have e4 := ((hK10.block (w.heap.size + 1 + 1 + 1 + 1) (by omega) (by simp <;> omega)).trans (HKX.out.block (w.heap.size + 1 + 1 + 1 + 1) (by omega) (by simp <;> omega))).trans Hf4.out
        generalize (((Wk.setCell ⟨w.heap.size + 1 + 1 + 1, 0, none⟩ (.slice (some ⟨g8, 0, none⟩) ys.length cap8)).alloc (Obj.cells #[Value.int .i64 (N : Nat), .int .i64 m, .slice a1 L1 c1, .slice ag lg cg, .slice a3 L3 c3] 26)).alloc (Obj.cells #[Value.int .i64 (hh : Nat)] 3)) = W0 at hb10 hMT0 hbt0 hrows hsz0 hK10 hg8c0 e4 ⊢
        clear hMTa hb10 hsz1 W1r p0 p1 p2 p3 p4 q4 t0 tf m0 hcx
        obtain ⟨hA, hN, hF, hS⟩ := Hall.out
        have hKX0 : KX (w.heap.size + 5) [w.heap.size + 1, w.heap.size + 1 + 1 + 1] W5 W0 := HKX.out.trans (hK10.mono (by omega) (fun x hx => by simp at hx; subst hx; left; simp))
        have hb0 : Below w.heap.size w W0 := ⟨hKX0.os.trans HbW.out.os, hKX0.tape.trans HbW.out.tape, hKX0.output.trans HbW.out.output, Nat.le_trans HbW.out.size hKX0.size, fun i hi => (hKX0.block i (by omega) (by simp <;> omega)).trans (HbW.out.block i hi)⟩
        have hlt : ∀ b off, A.steps ≠ [] → a3 = some ⟨b, off, none⟩ → b < W0.heap.size ∧ b ∉ [w.heap.size + 1, w.heap.size + 1 + 1 + 1, g8] := by
          intro b off hne ha
          subst ha
          obtain ⟨a', cap', e, _, hz, _⟩ := hS
          injection e with e1 e2 e3
          subst e1
          rcases hz with h | ⟨b', off', e, hc⟩
          · exact absurd h hne
          · cases e
            have : b < w.heap.size := World.block_lt_of_cell? w _ (hc 0 (List.length_pos_iff.2 hne)).1
            exact ⟨by omega, by simp <;> omega⟩
        have hS0 := hS.below hb0
        rw [← HL3.out] at hS0
        have hB1 := cell_of_row W0 _ 4 _ _ _ hrows.1
        have hB1' : W0.cell? ⟨Wk.heap.size, 4, none⟩ = some (.slice a3 A.steps.length c3) := by rw [HL3.out]; exact hB1
        have hGT0 : GT0 N f ys := ⟨fun x hx => HGT.out.todo x (List.mem_append_left _ hx), by have := HGT.out.few; rw [List.length_append] at this; simp at this; omega⟩
        refine wpIn_wide.1 (wpIn_rangeFunc_ownH (n := 10) rfl (by decide) (gf := 116) (lb := #[.pointer (some ⟨Wk.heap.size, 0, none⟩), .pointer (some ⟨Wk.heap.size + 1, 0, none⟩)]) rfl trivial (enters_of Tryd.func116 (by kernel_rfl) rfl)
          (fromSeqX 9 Wk.heap.size (Wk.heap.size + 1) W0.heap.size [w.heap.size + 1, w.heap.size + 1 + 1 + 1, g8] N (hh : Nat) W0 (Nat.le_refl _) hB1' (cell_of_row W0 _ 0 _ _ _ hrows.2) ⟨by omega, by simp <;> omega⟩ hS0 hlt hA.few (mono_getD hA.sorted) (fun x hx hf => by have := hA.steps x hx; have := hA.m8; exact ⟨hf, by omega, by omega, by omega, by omega⟩))
          (fun h h' => h.trans h') (fun W l o o' hl ho hc hw => KX.grownBy (grownBy_putObj' W l o') (by have := (Array.getElem?_eq_some_iff.1 ho).1; omega) (fun r e => by cases e; exact .inr hl)) (Below.refl _ _) (fun _ => rfl)
          (fun pre W => KX W0.heap.size [w.heap.size + 1, w.heap.size + 1 + 1 + 1, g8] W0 W ∧ RowIn W0.heap.size [w.heap.size + 1, w.heap.size + 1 + 1 + 1, g8] (w.heap.size + 1 + 1 + 1) W ∧ ∃ f2 xs2, MT W (w.heap.size + 5) (w.heap.size + 1 + 1) (w.heap.size + 1 + 1 + 1) (w.heap.size + 1) N f2 xs2 ∧ HT N f ys (pre.map (fun y => y.1.t.toNat)) f2 xs2) (fun _ _ _ => False) ?own1 (fun _ _ _ _ _ h _ _ => h) ?start
          (fun x a' W => ∃ Bx, W0.heap.size ≤ Bx ∧ W.heap[Bx]? = some (.cells #[.int .i64 x.1.f, .int .i64 x.1.l, .int .i64 x.1.t] 81) ∧ a' = { tmps := #[.agg #[.int .i64 (N : Nat), .int .i64 m, .slice a1 L1 c1, .slice ag lg cg, .slice a3 L3 c3], .pointer (some ⟨w.heap.size, 0, none⟩), .slice none 0 0, .pointer (some ⟨w.heap.size + 1 + 1, 0, none⟩), .pointer (some ⟨w.heap.size + 1 + 1 + 1, 0, none⟩), .pointer (some ⟨w.heap.size + 1 + 1 + 1 + 1, 0, none⟩), undef, u7, .int .i64 (hh : Nat), .pointer (some ⟨Bx, 0, none⟩), .pointer (some ⟨w.heap.size, 0, none⟩), .int .i64 (N : Nat), .slice (some ⟨w.heap.size + 1, 0, none⟩) N N, .func (.func 88) #[] #[.pointer (some ⟨w.heap.size + 1 + 1, 0, none⟩), .pointer (some ⟨w.heap.size + 1 + 1 + 1, 0, none⟩)], .pointer (some ⟨w.heap.size, 2, none⟩), .slice a1 L1 c1, .int .i64 (L1 : Nat), .int .i64 (L1 : Nat), .bool false, u19, u20, u21, u22, u23, u24, .slice (some ⟨g8, 0, none⟩) (ys.length + 1) cap8, .int .i64 ((ys.length : Nat) + 1 : Int), .bool true, .slice (some ⟨g8, 0, none⟩) (ys.length + 1) cap8, .slice (some ⟨g8, 0, none⟩) (ys.length + 1) cap8, .int .i64 ((ys.length : Nat) + 1 : Int), .int .i64 (ys.length : Nat), .pointer (some ⟨g8, ys.length, none⟩), .int .i64 (hh : Nat), .slice (some ⟨g8, 0, none⟩) (ys.length + 1) cap8, .slice (some ⟨g8, 0, none⟩) (ys.length + 1) cap8, .int .i64 ((ys.length : Nat) + 1 : Int), .int .i64 (ys.length : Nat), .slice (some ⟨g8, 0, none⟩) ys.length cap8, .agg #[.int .i64 (N : Nat), .int .i64 m, .slice a1 L1 c1, .slice ag lg cg, .slice a3 L3 c3], .int .i64 (hh : Nat), .func (.func 116) #[] #[.pointer (some ⟨Wk.heap.size, 0, none⟩), .pointer (some ⟨Wk.heap.size + 1, 0, none⟩)], .agg #[.int .i64 x.1.f, .int .i64 x.1.l, .int .i64 x.1.t], undef, undef, undef, undef, undef], defers := [] }) ?own ?assign ?body ?done ?stop)
        case own1 =>
          rintro pre W W' row ⟨hk, hrow, f2, xs2, hmt, hht⟩ hg hr
          have hkb : W'.heap[w.heap.size + 1 + 1 + 1]? = W.heap[w.heap.size + 1 + 1 + 1]? := hg.block _ (by have := hk.size; omega) (fun e => by have := (hr _ e.symm).1; omega)
          exact ⟨hk.trans (KX.grownBy hg hk.size (fun r e => .inr (hr r e).1)), fun v r hv => hrow v r (hkb.symm.trans hv), f2, xs2, hmt.grown hg (fun r e => ⟨by have := (hr r e).1; omega, (hr r e).2⟩), hht⟩
        case start =>
          refine ⟨KX.refl _ _ _, fun v r hv hr => ?_, f, ys, hMT0, HT.begin_ hGT0⟩
          rw [hbt0] at hv
          have e : v = .slice (some ⟨g8, 0, none⟩) ys.length cap8 := by
            injection hv with h1
            injection h1 with h2
            have := congrArg (fun a => a[0]?) h2
            simpa using this.symm
          subst e
          have er : r = g8 := by simpa [Value.ownBlock] using hr.symm
          left; rw [er]; simp
        case own =>
          rintro x a' _ A B row ⟨Bx, h1, h2, h3⟩ hg hr
          refine ⟨Bx, h1, (hg.block Bx (Array.getElem?_eq_some_iff.1 h2).1 (fun e => ?_)).trans h2, h3⟩
          obtain ⟨_, o, ho, hc⟩ := hr Bx e.symm
          rw [h2] at ho
          cases ho
          cases hc
        case assign =>
          rintro l pre x W K' hi hK'
          have HK' := hide hK'
          have Hi := hide hi
          clear hK' hi e4 hrows hb0 hS hS0 hlt hB1 hB1' hA hN hF
          gi_wp2
          obtain ⟨hk, hrow, f2, xs2, hmt, hht⟩ := Hi.out
          have hbn := below_new W (Obj.cells #[Value.int .i64 x.1.f, .int .i64 x.1.l, .int .i64 x.1.t] 81)
          have hkb := hbn.block (w.heap.size + 1 + 1 + 1) (by have := hk.size; omega)
          exact HK'.out _ _ ((KeepsOthers.alloc _ _).from _) (KX.of_below hbn hk.size) ⟨hk.trans (KX.of_below hbn hk.size), fun v r hv => hrow v r (hkb.symm.trans hv), f2, xs2, hmt.old hbn, hht⟩ ⟨W.heap.size, hk.size, one_new W _, rfl⟩
        case body =>
          rintro l pre x a' W hl ⟨r, hr⟩ hi ⟨Bx, hBx, hbx, rfl⟩ hlt'
          generalize hQ2 : ownPostG W0.heap.size (KX W0.heap.size [w.heap.size + 1, w.heap.size + 1 + 1 + 1, g8]) _ (fun _ _ _ => False) (pre ++ [x]) W = Q2
          have HQ2 := hide (show ∀ a W', (KeepsFrom W0.heap.size W W' ∧ KX W0.heap.size [w.heap.size + 1, w.heap.size + 1 + 1 + 1, g8] W W' ∧ (KX W0.heap.size [w.heap.size + 1, w.heap.size + 1 + 1 + 1, g8] W0 W' ∧ RowIn W0.heap.size [w.heap.size + 1, w.heap.size + 1 + 1 + 1, g8] (w.heap.size + 1 + 1 + 1) W' ∧ ∃ f2 xs2, MT W' (w.heap.size + 5) (w.heap.size + 1 + 1) (w.heap.size + 1 + 1 + 1) (w.heap.size + 1) N f2 xs2 ∧ HT N f ys ((pre ++ [x]).map (fun y => y.1.t.toNat)) f2 xs2)) → Q2 .normal a W' from by rw [← hQ2]; exact fun _ _ h => h)
          clear hQ2
          obtain ⟨hk, hrow, f2, xs2, hmt, hht⟩ := hi
          have hxt := x.2.2.2.2
          obtain ⟨tn, htn⟩ := Int.eq_ofNat_of_zero_le hxt.1
          have htN : tn < N := by omega
          have q4 := cell_of_row W _ 0 _ _ _ ((hk.block (w.heap.size + 1 + 1 + 1 + 1) (by omega) (by simp <;> omega)).trans e4)
          rw [htn] at hbx
          have x2 := cell_of_row W _ 2 _ _ _ hbx
          have HM := hide (meet_any (m := W0.heap.size) (X := [w.heap.size + 1, w.heap.size + 1 + 1 + 1, g8]) tn hmt htN (by have := hht.gt.few; omega) hk.size (by simp) (by simp) hrow)
          have Hpk := hide (And.intro hk (hht.meet tn htN))
          have Htn := hide htn
          clear hk hrow hmt hht hxt htn hbx e4 hrows hb0 hS hS0 hlt hB1 hB1' hA hN hF hbt0 hMT0
          gi_wp2_with (fail)
          refine ⟨trivial, (CallsIn.inRound l (callsIn_wide.2 HM.out)).mono ?_⟩
          rintro e W' ⟨⟨rv, rfl⟩, hmt', hkx', hrow', hko'⟩
          have Hres := hide (And.intro hmt' (And.intro hkx' (And.intro hrow' hko')))
          clear hmt' hkx' hrow' hko'
          gi_wp2
          obtain ⟨hmt', hkx', hrow', hko'⟩ := Hres.out
          refine HQ2.out _ _ ⟨hko'.from _, hkx', Hpk.out.1.trans hkx', hrow', _, _, hmt', ?_⟩
          rw [List.map_append]
          have e : [x].map (fun y => y.1.t.toNat) = [tn] := by simp [Htn.out]
          rw [e]
          exact Hpk.out.2
        case done =>
          rintro D2 zs W hD2 hzs ⟨hk, hrow, f2, xs2, hmt, hht⟩ hdef
          have Hres := hide (And.intro hzs (And.intro hk (And.intro hmt (And.intro hht hdef))))
          have HA := hide hA
          have HK0 := hide (And.intro hK10 (And.intro hKX0 hg8c0))
          clear hzs hk hrow hmt hht hdef e4 hrows hb0 hS hS0 hlt hB1 hB1' hA hN hF hbt0 hMT0 hK10 hKX0
          go_wp2
          obtain ⟨hzs, hk, hmt, hht, hdef⟩ := Hres.out
          obtain ⟨hK10, hKX0, hg8c0⟩ := HK0.out
          have hless := hht.less
          have mem_of : ∀ y ∈ zs, y.1 ∈ A.steps := fun y hy => by
            have : y.1 ∈ A.steps.filter (fun x => decide (x.f = (hh : Int))) := by rw [← hzs]; exact List.mem_map_of_mem hy
            exact (List.mem_filter.1 this).1
          have hlen2 : (ys ++ [(hh : Int)]).length = ys.length + 1 := by simp
          refine Handed.intro (2 * left f2 N + xs2.length) (by omega) (hJ _ _ _ ⟨f2, xs2, _, _, _, _, _, _, _, _, _, _, _, _, _, _, _, _, _, _, D2 :: Ds, rfl, rfl, hmt, ⟨fun q hq => ?_, hht.gt.todo, hht.gt.few⟩, fun j hj => hht.old _ (Hfi.out j hj), fun q hq hx t he => ?_, hKX0.trans (hk.mono (by omega) (fun x hx => ?_)), ((Hmk.out.of_kx hK10 (Nat.le_refl _) (fun x hx => ?_)).of_kx hk (Nat.le_refl _) (fun x hx => ?_)).cons (by omega) hdef (fun hm => ?_)⟩)
          · rcases hht.snd q hq with h | h
            · exact HGT.out.sound q h
            · obtain ⟨y, hy, rfl⟩ := List.mem_map.1 h
              have h1 := y.2.1
              have h2 := y.2.2.2.2
              exact (HGT.out.sound hh hfx).step ⟨y.1, mem_of y hy, h1, by omega⟩
          · have hfq : f q = true := by
              cases hfq : f q with
              | true => rfl
              | false => exact absurd (hht.todo q hq hfq) hx
            by_cases e : q = hh
            · subst e
              obtain ⟨st, hst, h1, h2⟩ := he
              have hmf : st ∈ A.steps.filter (fun x => decide (x.f = (q : Int))) := List.mem_filter.2 ⟨hst, by simpa using h1⟩
              rw [← hzs] at hmf
              obtain ⟨y, hy, rfl⟩ := List.mem_map.1 hmf
              refine hht.new t (List.mem_map.2 ⟨y, hy, ?_⟩)
              omega
            · refine hht.old t (Hcl.out q hfq (fun hm => ?_) t he)
              rcases List.mem_append.1 hm with hm | hm
              · exact hx (hht.keep _ hm)
              · rw [List.mem_singleton] at hm
                exact e (by omega)
          · simp at hx
            rcases hx with rfl | rfl | rfl
            · left; simp
            · left; simp
            · right; omega
          · simp at hx
            subst hx
            left; omega
          · simp at hx
            rcases hx with rfl | rfl | rfl
            · left; omega
            · left; omega
            · right; exact hg8c0
          · have := (Array.getElem?_eq_some_iff.1 (Hmk.out.2 D2 hm).2).1
            omega
        case stop =>
          rintro D2 c pre W _ _ h _
          exact h.elim
end Go.Proofs.YtpiacnnifdjlkaaDoor
