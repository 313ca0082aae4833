/-
  append of one element, of whatever type, to a slice of the call's own: in a plain region, and in one that draws its order.
-/
import Derived.Test.YtpiacnnifdjlkabDoorCq
import Derived.Deep.LoopGhost
import Derived.Shelf.Abstract
/-
  steps.From as a loop takes it whose rounds turn several blocks.
-/
namespace Go.Proofs.YtpiacnnifdjlkabDoor
open Go.RowKit Go.Sort
attribute [local go_sem] Oper.semAt_some

/-- All but some blocks, of those that were there, are kept. -/
structure KX (m : Nat) (X : List Nat) (W W' : World) : Prop where
  os : W'.os = W.os
  tape : W'.tape = W.tape
  output : W'.output = W.output
  size : W.heap.size ≤ W'.heap.size
  block : ∀ k, k < m → k ∉ X → W'.heap[k]? = W.heap[k]?

theorem KX.refl (m : Nat) (X : List Nat) (W : World) : KX m X W W := ⟨rfl, rfl, rfl, Nat.le_refl _, fun _ _ _ => rfl⟩
theorem KX.trans {m : Nat} {X : List Nat} {A B C : World} (h : KX m X A B) (k : KX m X B C) : KX m X A C :=
  ⟨k.os.trans h.os, k.tape.trans h.tape, k.output.trans h.output, Nat.le_trans h.size k.size, fun i hi hn => (k.block i hi hn).trans (h.block i hi hn)⟩
theorem KX.of_below {m : Nat} {X : List Nat} {W W' : World} (h : Below W.heap.size W W') (hm : m ≤ W.heap.size) : KX m X W W' := ⟨h.os, h.tape, h.output, h.size, fun k hk _ => h.block k (by omega)⟩
theorem KX.cell {m : Nat} {X : List Nat} {W W' : World} (h : KX m X W W') {a : Addr} (hm : a.block < m) (hg : a.block ∉ X) : W'.cell? a = W.cell? a := World.cell?_of_block (w := W) (h.block a.block hm hg)
theorem KX.mono {m m' : Nat} {X X' : List Nat} {W W' : World} (h : KX m X W W') (hm : m' ≤ m) (hX : ∀ x ∈ X, x ∈ X' ∨ m' ≤ x) : KX m' X' W W' :=
  ⟨h.os, h.tape, h.output, h.size, fun k hk hn => h.block k (by omega) (fun hx => by rcases hX k hx with h | h; exact hn h; omega)⟩
theorem KX.set (m : Nat) (X : List Nat) (W : World) (g o : Nat) (v : Value) (hg : g ∈ X) : KX m X W (W.setCell ⟨g, o, none⟩ v) :=
  ⟨rfl, rfl, rfl, by simp [World.setCell], fun k _ hk => heap_setCell_other W _ _ k (fun e => hk (by rw [e]; exact hg))⟩
theorem KX.grownBy {m : Nat} {X : List Nat} {W W' : World} {row : Option Nat} (hg : W.grownBy W' row) (hm : m ≤ W.heap.size) (hr : ∀ r, row = some r → r ∈ X ∨ m ≤ r) : KX m X W W' :=
  ⟨hg.os, hg.tape, hg.output, hg.size, fun k hk hn => hg.block k (by omega) (fun e => by rcases hr k e.symm with h | h; exact hn h; omega)⟩

set_option maxRecDepth 100000 in
set_option maxHeartbeats 2000000 in
theorem fromOneX_in {ss : List Stp} {b off cap : Nat} (n l B1 B2 m : Nat) (X : List Nat) (N : Nat) (st : Int) (J Jx : List { x : Stp // GS st N x } → World → Prop)
    (hY : ∀ (pre : List { x : Stp // GS st N x }) (x : { x : Stp // GS st N x }) (W1 : World), J pre W1 → pre.length < ss.length → YieldAt Fence.wide (n - 1) Tryd.prog l #[.agg #[.int .i64 x.1.f, .int .i64 x.1.l, .int .i64 x.1.t]] W1 fun e W' =>
      (e = .returned (.bool true) ∧ J (pre ++ [x]) W' ∧ KX m X W1 W') ∨ (e = .returned (.bool false) ∧ Jx (pre ++ [x]) W'))
    (W : World) (hJ : AbidesFrom W.heap.size J) (hm : m ≤ W.heap.size) (hB1 : W.cell? ⟨B1, 4, none⟩ = some (.slice (some ⟨b, off, none⟩) ss.length cap)) (hB2 : W.cell? ⟨B2, 0, none⟩ = some (.int .i64 st)) (hb2 : B2 < m ∧ B2 ∉ X) (hbs : b < m ∧ b ∉ X)
    (hlen : ss.length ≤ 6000) (hcap : ss.length ≤ cap) (hc : ∀ i, i < ss.length → W.cell? ⟨b, off + i * 3, none⟩ = some (.int .i64 (ss.getD i stp0).f) ∧ W.cell? ⟨b, off + i * 3 + 1, none⟩ = some (.int .i64 (ss.getD i stp0).l) ∧ W.cell? ⟨b, off + i * 3 + 2, none⟩ = some (.int .i64 (ss.getD i stp0).t))
    (hmono : ∀ i j, i ≤ j → j < ss.length → (ss.getD i stp0).f ≤ (ss.getD j stp0).f) (hgs : ∀ x, x ∈ ss → x.f = st → GS st N x) (h0 : J [] W) :
    CallsIn Fence.wide n Tryd.prog 76 #[.func (.yield l) #[] #[], .pointer (some ⟨B1, 0, none⟩), .pointer (some ⟨B2, 0, none⟩)] W fun e W' => (∃ v, e = .returned v) ∧
      ((∃ xs, (xs.map (·.1)) = ss.filter (fun x => decide (x.f = st)) ∧ J xs W') ∨ (∃ pre, Jx pre W')) := by
  have HS := hide (bsf_go ss b off cap st W (by omega) hc hmono)
  refine callsIn_of_wp Tryd.func76 rfl trivial ?_ rfl
  simp only [Tryd.ntmps76, List.size_toArray, List.length_cons, List.length_nil, Nat.reduceAdd, Nat.reduceSub, Array.replicate_succ, Array.replicate_zero, List.push_toArray, List.append_toArray, List.nil_append, List.cons_append]
  have Hc := hide hc
  have HY := hide hY
  have Hgs := hide hgs
  have HJ := hide hJ
  clear hc hY hgs hJ
  gi_wp2_with (fail)
  refine ⟨trivial, fun h => by simp [Fence.wide] at h, (callsIn_wide.2 HS.out).mono ?_⟩
  rintro e w1 ⟨k0, q0, rfl, hk0, hlo, hhi, hb1⟩
  have Hlo := hide hlo
  have Hhi := hide hhi
  clear hlo hhi
  have x1 : w1.cell? ⟨B1, 4, none⟩ = some (.slice (some ⟨b, off, none⟩) ss.length cap) := (hb1.cell (World.block_lt_of_cell? W _ hB1)).trans hB1
  have hK1 : KX m X W w1 := KX.of_below hb1 hm
  have hJ1 : J [] w1 := HJ.out [] W w1 none h0 (grown_of_below hb1) (fun r e => by cases e)
  have hbl := hbs.1
  have HJ1 := hide hJ1
  clear hJ1 h0 HS
  have Hmo := hide hmono
  clear hmono
  by_cases hkl : k0 < ss.length
  · have hne : ¬ cap = k0 := by omega
    have hne2 : ¬ k0 = cap := by omega
    have hle0 : k0 ≤ cap := by omega
    gi_wp2_with (fail)
    gi_loopw [20] (fun iv wr => ∃ i : Nat, iv = .int .i64 i ∧ k0 + i ≤ ss.length ∧ (∃ pre, pre.map (·.1) = (ss.drop k0).take i ∧ J pre wr) ∧ (∀ j, k0 ≤ j → j < k0 + i → (ss.getD j stp0).f = st) ∧ KX m X W wr) (fun iv _ => ss.length - k0 - (intOf iv).toNat)
    case atStart => exact ⟨0, rfl, by omega, ⟨[], by simp, HJ1.out⟩, (fun j h1 h2 => by omega), hK1⟩
    case round =>
      obtain ⟨i, rfl, hi, ⟨pre, hpre, hJp⟩, hall, hK⟩ := hrel
      have Hpre := hide hpre
      have HJp := hide hJp
      have Hall := hide hall
      clear hpre hJp hall
      by_cases hil : k0 + i < ss.length
      · have hil2 : i < ss.length - k0 := by omega
        obtain ⟨d0, d1, d2⟩ := Hc.out (k0 + i) hil
        have ea : off + (k0 + i) * 3 = off + k0 * 3 + i * 3 := by omega
        rw [ea] at d0 d1 d2
        rw [← hK.cell (a := ⟨b, _, none⟩) hbs.1 hbs.2] at d0 d1 d2
        have y2 : wr.cell? ⟨B2, 0, none⟩ = some (.int .i64 st) := by rw [hK.cell (a := ⟨B2, 0, none⟩) hb2.1 hb2.2]; exact hB2
        generalize hx : ss.getD (k0 + i) stp0 = x at *
        have Hx := hide hx
        clear hx
        have hxm : x ∈ ss := by
          rw [← Hx.out, stp_getD _ _ hil]
          exact List.getElem_mem _
        have Hxm := hide hxm
        clear hxm
        have hlb : B2 < wr.heap.size := World.block_lt_of_cell? _ _ y2
        by_cases hfs : x.f = st
        · have hd : (x.f != st) = false := by simp [hfs]
          have Hfs := hide hfs
          clear hfs
          have hlt' : pre.length < ss.length := by
            have := congrArg List.length Hpre.out
            simp at this
            omega
          have hJa : J pre (wr.alloc (Obj.cells #[Value.int .i64 x.f, .int .i64 x.l, .int .i64 x.t] 49)) := HJ.out pre wr _ none HJp.out (World.grownBy_alloc _ _ _) (fun r e => by cases e)
          obtain ⟨fn, tmps, assign, body, hy, hR⟩ := HY.out pre ⟨x, Hgs.out x Hxm.out Hfs.out⟩ _ hJa hlt'
          dsimp only at hy
          have HR := hide hR
          clear hR
          gi_wp2_with (fail)
          refine ⟨fun h => by simp [Fence.wide] at h, HR.out.mono ?_⟩
          rintro e W3 (⟨rfl, hJ3, hk3⟩ | ⟨rfl, hJx3⟩)
          · have HJ3 := hide hJ3
            clear hJ3
            have hk4 : KX m X W W3 := (hK.trans (KX.of_below (below_new wr _) (Nat.le_trans hm hK.size))).trans hk3
            gi_wp2
            go_roundw
            case rel =>
              refine ⟨i + 1, by go_num, by omega, ⟨pre ++ [⟨x, Hgs.out x Hxm.out Hfs.out⟩], ?_, HJ3.out⟩, fun j h1 h2 => ?_, hk4⟩
              · rw [take_snoc_getD ss k0 i hil, Hx.out, List.map_append, Hpre.out]
                rfl
              · by_cases hj : j = k0 + i
                · subst hj; rw [Hx.out]; exact Hfs.out
                · exact Hall.out j h1 (by omega)
            case measure => simp [intOf]; omega
          · have HJx3 := hide hJx3
            clear hJx3
            gi_wp2
            refine bodyPost_ret (results_none rfl _ _ _) rfl ?_
            exact ⟨⟨_, rfl⟩, .inr ⟨_, HJx3.out⟩⟩
        · have hd : (x.f != st) = true := by simp [hfs]
          have Hfs := hide hfs
          clear hfs
          gi_wp2
          refine ⟨fun _ h => (by cases h), ?_⟩
          gi_wp2
          refine bodyPost_ret (results_none rfl _ _ _) rfl ?_
          refine ⟨⟨_, rfl⟩, .inl ⟨pre, ?_, HJ.out pre wr _ none HJp.out (World.grownBy_alloc _ _ _) (fun r e => by cases e)⟩⟩
          rw [Hpre.out]
          refine (from_filter ss st k0 i Hlo.out Hall.out (fun j h1 h2 => ?_) hi).symm
          have h3 := Hmo.out (k0 + i) j h1 h2
          have h4 := Hhi.out (k0 + i) (by omega) hil
          rw [Hx.out] at h3 h4
          have h5 : x.f ≠ st := Hfs.out
          omega
      · gi_wp2
        go_end0
        refine ⟨⟨_, rfl⟩, .inl ⟨pre, ?_, HJp.out⟩⟩
        rw [Hpre.out]
        exact (from_filter ss st k0 i Hlo.out Hall.out (fun j h1 h2 => by omega) hi).symm
  · have hke : k0 = ss.length := by omega
    subst hke
    have hfin : ([] : List { x : Stp // GS st N x }).map (·.1) = ss.filter (fun x => decide (x.f = st)) := by
      rw [from_filter ss st ss.length 0 Hlo.out (fun j h1 h2 => by omega) (fun j h1 h2 => by omega) (by omega)]
      simp
    have Hfin := hide hfin
    clear hfin
    gi_wp2_with (fail)
    all_goals
      refine wpIn_loop_rounds 1 ?_
      rw [roundsIn_succ]
      gi_wp2
      go_end0
      exact ⟨⟨_, rfl⟩, .inl ⟨[], Hfin.out, HJ1.out⟩⟩
theorem fromSeqX {ss : List Stp} {a : Option Addr} {cap : Nat} (n B1 B2 m : Nat) (X : List Nat) (N : Nat) (st : Int) (w0 : World) (hm : m ≤ w0.heap.size) (hB1 : w0.cell? ⟨B1, 4, none⟩ = some (.slice a ss.length cap)) (hB2 : w0.cell? ⟨B2, 0, none⟩ = some (.int .i64 st)) (hb2 : B2 < m ∧ B2 ∉ X)
    (hS : StepSl w0 (.slice a ss.length cap) ss) (hlt : ∀ b off, ss ≠ [] → a = some ⟨b, off, none⟩ → b < m ∧ b ∉ X) (hlen : ss.length ≤ 6000)
    (hmono : ∀ i j, i ≤ j → j < ss.length → (ss.getD i stp0).f ≤ (ss.getD j stp0).f) (hgs : ∀ x, x ∈ ss → x.f = st → GS st N x) :
    SeqStopsK Fence.wide n Tryd.prog 76 #[.pointer (some ⟨B1, 0, none⟩), .pointer (some ⟨B2, 0, none⟩)] (fun x : { x : Stp // GS st N x } => #[.agg #[.int .i64 x.1.f, .int .i64 x.1.l, .int .i64 x.1.t]]) (KX m X)
      (fun xs => xs.map (·.1) = ss.filter (fun x => decide (x.f = st))) (fun _ => True) ss.length w0 := by
  intro l J Jx W hb hJ hJx hY h0
  have hx1 := (hb.cell (World.block_lt_of_cell? w0 _ hB1)).trans hB1
  have hx2 := (hb.cell (World.block_lt_of_cell? w0 _ hB2)).trans hB2
  have hS' := hS.below hb
  obtain ⟨a', cap', e, _, hz, hn, hcap⟩ := hS'
  cases e
  rcases hz with rfl | ⟨b, off, rfl, hc⟩
  · refine (fromZero_in hn n l B1 B2 st J W hx1 hx2 h0).mono ?_
    rintro e W' ⟨hv, hj⟩
    exact ⟨hv, .inl ⟨[], rfl, hj⟩⟩
  · by_cases hnil : ss = []
    · subst hnil
      refine (fromZero_in hn n l B1 B2 st J W hx1 hx2 h0).mono ?_
      rintro e W' ⟨hv, hj⟩
      exact ⟨hv, .inl ⟨[], rfl, hj⟩⟩
    · refine (fromOneX_in n l B1 B2 m X N st J Jx hY W hJ (Nat.le_trans hm hb.size) hx1 hx2 hb2 (hlt b off hnil rfl) hlen hcap hc hmono hgs h0).mono ?_
      rintro e W' ⟨hv, h⟩
      refine ⟨hv, ?_⟩
      rcases h with h | ⟨pre, h⟩
      · exact .inl h
      · exact .inr ⟨pre, trivial, h⟩
end Go.Proofs.YtpiacnnifdjlkabDoor

/-
  What meet of auto.reached does: a state that was not met is marked, and is to be gone through.
-/
namespace Go.Proofs.YtpiacnnifdjlkabDoor
open Go.RowKit Go.Sort

theorem owns_slice {w : World} {base : Nat} {e : TypeId} {size : Nat} {v : Value} {n : Nat} {xs : List Value} (h : w.ownsRow base e size v (n + 1) xs) : ∃ g cap, v = .slice (some ⟨g, 0, none⟩) (n + 1) cap ∧ base ≤ g := by
  rcases h.2 with ⟨_, h0⟩ | ⟨g, cap, cur, rfl, hb, _⟩
  · omega
  · exact ⟨g, cap, rfl, hb⟩

theorem wpList_append_int (w : World) {ops : Array Oper} {rest : List Oper} {o : Oper} {a : Act} {Q : Exit → Act → World → Prop} (hgd : o.guard = none) (s x : Operand)
    (ho : o.op = .call { callee := .builtin .append, args := #[s, x], argTypes := #[22, 22] }) (base n : Nat) (v : Value) (xs : List Value) (hs : a.eval s = v)
    (hown : w.ownsRow base 3 1 v n xs) (B c : Nat) (z : Int) (hx : a.eval x = .slice (some ⟨B, 0, none⟩) 1 c) (hc : 1 ≤ c) (h0 : w.cell? ⟨B, 0, none⟩ = some (.int .i64 z)) (hn : n ≤ 900000) (hbase : base ≤ w.heap.size)
    (h : ∀ g' cap' w', w'.ownsRow base 3 1 (.slice (some ⟨g', 0, none⟩) (n + 1) cap') (n + 1) (xs ++ [.int .i64 z]) → w.grownBy w' v.ownBlock → (v.ownBlock = some g' ∨ g' = w.heap.size) → base ≤ g' → wpList Tryd.prog ops Q rest (a.put o.dst (.slice (some ⟨g', 0, none⟩) (n + 1) cap')) w') : wpList Tryd.prog ops Q (o :: rest) a w := by
  have hz : IntSl w (.slice (some ⟨B, 0, none⟩) 1 c) [z] := ⟨_, _, rfl, by simp [maxLen], Or.inr ⟨B, 0, rfl, fun i hi => by
    have : i = 0 := by simpa using hi
    subst this
    exact h0⟩, fun e => (by cases e), by simpa using hc⟩
  obtain ⟨v', w', hr, h2, h3, h4⟩ := run_append_sl w o.type base v n xs hown _ [z] hz (by simp; omega) hbase
  have h2' : w'.ownsRow base 3 1 v' (n + 1) (xs ++ [.int .i64 z]) := h2
  obtain ⟨g', cap', rfl, hb⟩ := owns_slice h2'
  refine wpList_plain hgd fun K hK => ?_
  unfold Oper.wp execOp
  simp only [ho, resolve, invoke, builtin, Sem.run_bind, Sem.run_pure, Result.andThen_ok, List.map_toArray, List.map_cons, List.map_nil, hs, hx, hr]
  refine hK _ _ (h g' cap' w' h2' h3 ?_ hb)
  rcases h4 with h4 | h4
  · left; rw [← h4]; rfl
  · right; simpa [Value.ownBlock] using h4

/-- What meet has before it: the marks, and what is to be gone through. -/
structure MT (W : World) (base BM BT gM N : Nat) (f : Nat → Bool) (xs : List Int) : Prop where
  bm : W.heap[BM]? = some (.cells #[.slice (some ⟨gM, 0, none⟩) N N] 23)
  bt : ∃ v, W.heap[BT]? = some (.cells #[v] 22) ∧ W.ownsRow base 3 1 v xs.length (xs.map (.int .i64))
  br : BR W gM N f
  lo : BM < base ∧ BT < base ∧ gM < base ∧ base ≤ W.heap.size ∧ BM ≠ BT ∧ gM ≠ BM ∧ gM ≠ BT

/-- The list's row lies among the blocks that may turn. -/
def RowIn (m : Nat) (X : List Nat) (BT : Nat) (W : World) : Prop := ∀ v r, W.heap[BT]? = some (.cells #[v] 22) → v.ownBlock = some r → r ∈ X ∨ m ≤ r

def addF (f : Nat → Bool) (s : Nat) : Nat → Bool := fun i => f i || decide (i = s)

theorem owns_kept {w w' : World} {base : Nat} {e : TypeId} {size : Nat} {v : Value} {n : Nat} {xs : List Value} (h : w.ownsRow base e size v n xs) (hk : ∀ r, v.ownBlock = some r → w'.heap[r]? = w.heap[r]?) : w'.ownsRow base e size v n xs := by
  refine ⟨h.1, ?_⟩
  rcases h.2 with h2 | ⟨g, cap, cur, rfl, hb, hg, r⟩
  · exact .inl h2
  · exact .inr ⟨g, cap, cur, rfl, hb, by rw [hk g rfl]; exact hg, r⟩

/-- What grows one row that the call owns leaves all that is no cells. -/
theorem grown_others {w w' : World} {base : Nat} {e : TypeId} {size : Nat} {v : Value} {n : Nat} {xs : List Value} (hg : w.grownBy w' v.ownBlock) (h : w.ownsRow base e size v n xs) : KeepsOthers w w' := by
  refine ⟨hg.size, fun k o hk ho => ?_⟩
  refine (hg.block k (Array.getElem?_eq_some_iff.1 hk).1 (fun e => ?_)).trans hk
  rcases h.2 with ⟨rfl, _⟩ | ⟨g, cap, cur, rfl, hb, hgr, _⟩
  · cases e
  · have : k = g := by simpa [Value.ownBlock] using e
    subst this
    rw [hgr] at hk
    cases hk
    cases ho

end Go.Proofs.YtpiacnnifdjlkabDoor

/-
  What auto.reached answers: the states that can be come to.
-/
namespace Go.Proofs.YtpiacnnifdjlkabDoor
open Go.RowKit Go.Sort
attribute [local go_sem] Oper.semAt_some

def EdgeS (A : Aut) (x y : Nat) : Prop := ∃ s ∈ A.steps, s.f = x ∧ s.t = y
def ReachA (A : Aut) (q : Nat) : Prop := ∃ i, i < A.first.length ∧ ∃ n, rN (EdgeS A) n (A.first.getD i 0).toNat q

theorem ReachA.step {A : Aut} {q t : Nat} (h : ReachA A q) (he : EdgeS A q t) : ReachA A t := by
  obtain ⟨i, hi, n, hn⟩ := h
  exact ⟨i, hi, n + 1, q, hn, he⟩

theorem MT.row {W : World} {base BM BT gM N : Nat} {f : Nat → Bool} {xs : List Int} (h : MT W base BM BT gM N f xs) (X : List Nat) : RowIn base X BT W := by
  intro v r hv hr
  obtain ⟨v', hv', hown⟩ := h.bt
  rw [hv] at hv'
  have e : v = v' := by
    injection hv' with h1
    injection h1 with h2
    have := congrArg (fun a => a[0]?) h2
    simpa using this
  subst e
  exact Or.inr (hown.lt r hr).1

/-- What is kept while states are gone through: all that were met can be come to, those that are to be gone through were met, and there are not too many. -/
structure GT (A : Aut) (N : Nat) (f : Nat → Bool) (xs : List Int) : Prop where
  sound : ∀ q, f q = true → ReachA A q
  todo : ∀ x ∈ xs, 0 ≤ x ∧ x < N ∧ f x.toNat = true
  few : xs.length + left f N ≤ N

theorem left_le (f : Nat → Bool) (N : Nat) : left f N ≤ N := by
  unfold left
  have := List.countP_le_length (p := fun q : Nat => !f q) (l := List.range N)
  rwa [List.length_range] at this

theorem left_add {f : Nat → Bool} {N s : Nat} (hs : s < N) (h : f s = false) : left (addF f s) N < left f N :=
  left_lt N (fun q hq => by unfold addF; rw [hq]; rfl) s hs h (by simp [addF])

theorem addF_old {f : Nat → Bool} {s : Nat} (h : f s = true) : addF f s = f := by
  funext i
  unfold addF
  by_cases e : i = s
  · rw [e, h]; rfl
  · simp [e]

structure GT0 (N : Nat) (f : Nat → Bool) (xs : List Int) : Prop where
  todo : ∀ x ∈ xs, 0 ≤ x ∧ x < N ∧ f x.toNat = true
  few : xs.length + left f N ≤ N

theorem GT0.meet {N : Nat} {f : Nat → Bool} {xs : List Int} (h : GT0 N f xs) (s : Nat) (hs : s < N) : GT0 N (addF f s) (if f s then xs else xs ++ [(s : Int)]) ∧ 2 * left (addF f s) N + (if f s then xs else xs ++ [(s : Int)]).length ≤ 2 * left f N + xs.length := by
  cases hf : f s with
  | true =>
    rw [addF_old hf]
    simp only [if_true]
    exact ⟨h, Nat.le_refl _⟩
  | false =>
    have hl := left_add hs hf
    simp only [Bool.false_eq_true, if_false, List.length_append, List.length_singleton]
    refine ⟨⟨fun x hx => ?_, ?_⟩, by omega⟩
    · rcases List.mem_append.1 hx with hx | hx
      · obtain ⟨h1, h2, h3⟩ := h.todo x hx
        exact ⟨h1, h2, by unfold addF; rw [h3]; rfl⟩
      · rw [List.mem_singleton] at hx
        subst hx
        exact ⟨by omega, by omega, by simp [addF]⟩
    · have := h.few
      rw [List.length_append, List.length_singleton]
      omega

/-- One meeting. -/
theorem GT.meet {A : Aut} {N : Nat} {f : Nat → Bool} {xs : List Int} (h : GT A N f xs) (s : Nat) (hs : s < N) (hr : ReachA A s) : GT A N (addF f s) (if f s then xs else xs ++ [(s : Int)]) := by
  obtain ⟨⟨h1, h2⟩, _⟩ := GT0.meet ⟨h.todo, h.few⟩ s hs
  refine ⟨fun q hq => ?_, h1, h2⟩
  unfold addF at hq
  rw [Bool.or_eq_true, decide_eq_true_eq] at hq
  rcases hq with hq | rfl
  · exact h.sound q hq
  · exact hr

theorem owns_drop {w : World} {base : Nat} {e : TypeId} {v : Value} {n : Nat} {xs : List Value} {x : Value} (h : w.ownsRow base e 1 v (n + 1) (xs ++ [x])) :
    ∃ g cap, v = .slice (some ⟨g, 0, none⟩) (n + 1) cap ∧ base ≤ g ∧ g < w.heap.size ∧ (∃ o : Obj, w.heap[g]? = some o ∧ o.isCells = true) ∧ n + 1 ≤ cap ∧ w.ownsRow base e 1 (.slice (some ⟨g, 0, none⟩) n cap) n xs ∧ w.cell? ⟨g, n, none⟩ = some x := by
  have hl : xs.length = n := by have := h.1; simp at this; omega
  rcases h.2 with ⟨_, h0⟩ | ⟨g, cap, cur, rfl, hb, hg, hnc, hcm, hcs, ht⟩
  · omega
  · have h2 : cur.toList.take (n * 1) = xs := by
      have := congrArg (List.take n) ht
      rw [List.take_take, Nat.mul_one, Nat.min_eq_left (by omega), List.take_left' hl] at this
      rw [Nat.mul_one]; exact this
    refine ⟨g, cap, rfl, hb, (Array.getElem?_eq_some_iff.1 hg).1, ⟨_, hg, rfl⟩, hnc, ⟨by omega, .inr ⟨g, cap, cur, rfl, hb, hg, by omega, hcm, hcs, h2⟩⟩, ?_⟩
    have hc : w.cell? ⟨g, n, none⟩ = cur[n]? := by simp [World.cell?, hg]
    rw [hc]
    have h3 := congrArg (fun l => l[n]?) ht
    simp only [List.getElem?_append_right (show xs.length ≤ n by omega), hl, Nat.sub_self, List.getElem?_cons_zero] at h3
    rw [List.getElem?_take_of_lt (by omega), Array.getElem?_toList] at h3
    exact h3

theorem MT.old {W W' : World} {base BM BT gM N : Nat} {f : Nat → Bool} {xs : List Int} (h : MT W base BM BT gM N f xs) (hb : Below W.heap.size W W') : MT W' base BM BT gM N f xs := by
  have hlo := h.lo
  obtain ⟨v, hv, hown⟩ := h.bt
  exact ⟨belowRow hb h.bm, ⟨v, belowRow hb hv, owns_below hown hb⟩, h.br.old hb, ⟨hlo.1, hlo.2.1, hlo.2.2.1, Nat.le_trans hlo.2.2.2.1 hb.size, hlo.2.2.2.2⟩⟩

/-- It stands where blocks are laid, and what is no cells is turned. -/
theorem MT.grown {W W' : World} {base BM BT gM N : Nat} {f : Nat → Bool} {xs : List Int} {row : Option Nat} (h : MT W base BM BT gM N f xs) (hg : W.grownBy W' row) (hr : ∀ r, row = some r → base ≤ r ∧ ∃ o : Obj, W.heap[r]? = some o ∧ o.isCells = false) : MT W' base BM BT gM N f xs := by
  have hlo := h.lo
  obtain ⟨v, hv, hown⟩ := h.bt
  have low : ∀ k, k < base → W'.heap[k]? = W.heap[k]? := fun k hk => hg.block k (by omega) (fun e => by have := (hr k e.symm).1; omega)
  refine ⟨(low BM hlo.1).trans h.bm, ⟨v, (low BT hlo.2.1).trans hv, owns_kept hown (fun r hrr => hg.block r (hown.lt r hrr).2 (fun e => ?_))⟩, h.br.of_block (low gM hlo.2.2.1), ⟨hlo.1, hlo.2.1, hlo.2.2.1, Nat.le_trans hlo.2.2.2.1 hg.size, hlo.2.2.2.2⟩⟩
  obtain ⟨_, o, ho, hc⟩ := hr r e.symm
  rcases hown.2 with ⟨rfl, _⟩ | ⟨g, cap, cur, rfl, _, hgr, _⟩
  · cases hrr
  · have : g = r := by simpa [Value.ownBlock] using hrr
    subst this
    rw [hgr] at ho
    cases ho
    cases hc

theorem Marks.of_kx {W W' : World} {lo m : Nat} {X : List Nat} {Ds : List Nat} (h : Marks W lo Ds) (hk : KX m X W W') (hm : W.heap.size ≤ m) (hX : ∀ x ∈ X, x < lo ∨ ∃ o : Obj, W.heap[x]? = some o ∧ o.isCells = true) : Marks W' lo Ds := by
  refine ⟨h.1, fun D hD => ?_⟩
  obtain ⟨h1, h2⟩ := h.2 D hD
  refine ⟨h1, ?_⟩
  rw [hk.block D (by have := (Array.getElem?_eq_some_iff.1 h2).1; omega) (fun hx => ?_)]
  · exact h2
  · rcases hX D hx with h3 | ⟨o, ho, hc⟩
    · omega
    · rw [h2] at ho; cases ho; cases hc

/-- What is kept while the steps of one state are gone through. -/
structure HT (N : Nat) (f : Nat → Bool) (xs : List Int) (ts : List Nat) (f2 : Nat → Bool) (xs2 : List Int) : Prop where
  gt : GT0 N f2 xs2
  old : ∀ q, f q = true → f2 q = true
  snd : ∀ q, f2 q = true → f q = true ∨ q ∈ ts
  new : ∀ t ∈ ts, f2 t = true
  todo : ∀ q, f2 q = true → f q = false → (q : Int) ∈ xs2
  keep : ∀ x ∈ xs, x ∈ xs2
  less : 2 * left f2 N + xs2.length ≤ 2 * left f N + xs.length

theorem HT.begin_ {N : Nat} {f : Nat → Bool} {xs : List Int} (h : GT0 N f xs) : HT N f xs [] f xs :=
  ⟨h, fun _ h => h, fun _ h => .inl h, fun t h => (by cases h), fun q h1 h2 => (by rw [h1] at h2; cases h2), fun _ h => h, Nat.le_refl _⟩

theorem HT.meet {N : Nat} {f f2 : Nat → Bool} {xs xs2 : List Int} {ts : List Nat} (h : HT N f xs ts f2 xs2) (s : Nat) (hs : s < N) : HT N f xs (ts ++ [s]) (addF f2 s) (if f2 s then xs2 else xs2 ++ [(s : Int)]) := by
  obtain ⟨h1, h2⟩ := h.gt.meet s hs
  have mono : ∀ q, f2 q = true → addF f2 s q = true := fun q hq => by unfold addF; rw [hq]; rfl
  refine ⟨h1, fun q hq => mono q (h.old q hq), fun q hq => ?_, fun t ht => ?_, fun q hq hf => ?_, fun x hx => ?_, Nat.le_trans h2 h.less⟩
  · unfold addF at hq
    rw [Bool.or_eq_true, decide_eq_true_eq] at hq
    rcases hq with hq | rfl
    · rcases h.snd q hq with h3 | h3
      · exact .inl h3
      · exact .inr (List.mem_append_left _ h3)
    · exact .inr (by simp)
  · rcases List.mem_append.1 ht with ht | ht
    · exact mono t (h.new t ht)
    · rw [List.mem_singleton] at ht
      subst ht
      simp [addF]
  · unfold addF at hq
    rw [Bool.or_eq_true, decide_eq_true_eq] at hq
    cases hfs : f2 s with
    | true =>
      simp only [if_true]
      rcases hq with hq | rfl
      · exact h.todo q hq hf
      · exact h.todo q hfs hf
    | false =>
      simp only [Bool.false_eq_true, if_false]
      rcases hq with hq | rfl
      · exact List.mem_append_left _ (h.todo q hq hf)
      · simp
  · cases hfs : f2 s with
    | true => simp only [if_true]; exact h.keep x hx
    | false => simp only [Bool.false_eq_true, if_false]; exact List.mem_append_left _ (h.keep x hx)

theorem putOther1 (W : World) (y : Nat) (z : Value) : ∀ b, b ≠ y → (W.setCell ⟨y, 0, none⟩ z).heap[b]? = W.heap[b]? := fun b hb => heap_setCell_other W _ _ b hb

end Go.Proofs.YtpiacnnifdjlkabDoor

/-
  SameAuto of the reference, at two automata that read alike: true.
-/
namespace Go.Proofs.YtpiacnnifdjlkabDoor
open Go.RowKit Go.Sort

end Go.Proofs.YtpiacnnifdjlkabDoor

/-
  autoIs of the statements, where it is so: true.
-/
namespace Go.Proofs.YtpiacnnifdjlkabDoor
open Go.RowKit Go.Sort

def zeroA : Aut := ⟨0, 0, [], [], []⟩

theorem boolSl_nil (w : World) : BoolSl w (.slice none 0 0) [] := ⟨none, 0, rfl, by simp [maxLen], Or.inl rfl, fun _ => rfl, by simp⟩
theorem stepSl_nil (w : World) : StepSl w (.slice none 0 0) [] := ⟨none, 0, rfl, by simp [maxLen], Or.inl rfl, fun _ => rfl, by simp⟩

theorem autV_zero (w : World) : AutV w (.agg #[.int .i64 0, .int .i64 0, .slice none 0 0, .slice none 0 0, .slice none 0 0]) zeroA := ⟨_, _, _, rfl, intSl_nil w, boolSl_nil w, stepSl_nil w⟩

end Go.Proofs.YtpiacnnifdjlkabDoor

namespace Go.Proofs.YtpiacnnifdjlkabDoor
open Go.RowKit Go.Sort

/-- What is known of an element's type. -/
structure ElT (t e : TypeId) (sz by_ : Nat) : Prop where
  under : Tryd.prog.underlying t = some (.slice e)
  info : ∃ i z, Tryd.prog.info? e = some i ∧ i.zero = some z ∧ z.cells.size = sz ∧ i.size = sz ∧ i.bytes = by_
  pos : 0 < sz
  few : sz ≤ by_ ∧ by_ ≤ 64

theorem run_append_one (w : World) (ty t e base n sz by_ : Nat) (hT : ElT t e sz by_) (v : Value) (xs : List Value) (hown : w.ownsRow base e sz v n xs) (B c : Nat) (news : List Value) (hnl : news.length = sz) (hc : ∀ j u, news[j]? = some u → w.cell? ⟨B, j, none⟩ = some u) (h1 : ∀ u ∈ news, u.oneCell' = true) (hn : n ≤ 900000) (hbase : base ≤ w.heap.size) :
    ∃ g' cap' w', (Builtin.append_ #[t, t] ty #[v, .slice (some ⟨B, 0, none⟩) 1 c]).run Tryd.prog w = .ok (.slice (some ⟨g', 0, none⟩) (n + 1) cap') w' ∧ w'.ownsRow base e sz (.slice (some ⟨g', 0, none⟩) (n + 1) cap') (n + 1) (xs ++ news) ∧ w.grownBy w' v.ownBlock ∧ (v.ownBlock = some g' ∨ g' = w.heap.size) ∧ base ≤ g' := by
  obtain ⟨i, z, hi, hz, hzs, his, hib⟩ := hT.info
  have hp := hT.pos
  have hf := hT.few
  obtain ⟨v', w', hr, h2, h3, _, h5⟩ := run_append_own_at (P := Tryd.prog) w base t ty e i z sz by_ hT.under hi hz his hib hzs hp v n xs hown ⟨B, 0, none⟩ 1 c news (by omega) (fun j u hu => by rw [add_none, Nat.zero_add]; exact hc j u hu) h1 (by unfold maxLen; omega) (by have : (n + 1) * by_ ≤ 900001 * 64 := Nat.mul_le_mul (by omega) hf.2; omega) hbase
  obtain ⟨g', cap', rfl, hb⟩ := owns_slice h2
  refine ⟨g', cap', w', hr, h2, h3, ?_, hb⟩
  rcases h5 with h5 | h5
  · left; rw [← h5]; rfl
  · right; simpa [Value.ownBlock] using h5

theorem step_append_one {ops : Array Oper} {o : Oper} {a : Act} {K : Act → World → Prop} {Q : Exit → Act → World → Prop} {E : Prop} {w : World} (hgd : o.guard = none) (s x : Operand) (t e sz by_ : Nat)
    (ho : o.op = .call { callee := .builtin .append, args := #[s, x], argTypes := #[t, t] }) (hT : ElT t e sz by_) (base n : Nat) (v : Value) (xs : List Value) (hs : a.eval s = v)
    (hown : w.ownsRow base e sz v n xs) (B c : Nat) (news : List Value) (hx : a.eval x = .slice (some ⟨B, 0, none⟩) 1 c) (hnl : news.length = sz) (hc : ∀ j u, news[j]? = some u → w.cell? ⟨B, j, none⟩ = some u) (h1 : ∀ u ∈ news, u.oneCell' = true) (hn : n ≤ 900000) (hbase : base ≤ w.heap.size)
    (h : ∀ g' cap' w', w'.ownsRow base e sz (.slice (some ⟨g', 0, none⟩) (n + 1) cap') (n + 1) (xs ++ news) → w.grownBy w' v.ownBlock → (v.ownBlock = some g' ∨ g' = w.heap.size) → base ≤ g' → K (a.put o.dst (.slice (some ⟨g', 0, none⟩) (n + 1) cap')) w') :
    if Region.wanted o (yielded ops a.tmps) = true then Oper.wp Tryd.prog o a w K Q else E := by
  have hw : Region.wanted o (yielded ops a.tmps) = true := by simp [Region.wanted, hgd]
  rw [if_pos hw]
  obtain ⟨g', cap', w', hr, h2, h3, h4, h5⟩ := run_append_one w o.type t e base n sz by_ hT v xs hown B c news hnl hc h1 hn hbase
  unfold Oper.wp execOp
  simp only [ho, resolve, invoke, builtin, Sem.run_bind, Sem.run_pure, Result.andThen_ok, List.map_toArray, List.map_cons, List.map_nil, hs, hx, hr]
  exact h g' cap' w' h2 h3 h4 h5

theorem elInt : ElT 22 3 1 8 := ⟨Tryd.underlying22, ⟨_, .int .i64 0, intInfo, by kernel_rfl, rfl, by kernel_rfl, by kernel_rfl⟩, by decide, by decide⟩
theorem elBool : ElT 23 4 1 1 := ⟨Tryd.underlying23, ⟨_, .bool false, boolInfo, by kernel_rfl, rfl, by kernel_rfl, by kernel_rfl⟩, by decide, by decide⟩
theorem stepInfo : Tryd.prog.info? 49 = some Tryd.t49 := by kernel_rfl
theorem elStep : ElT 24 49 3 24 := ⟨Tryd.underlying24, ⟨_, .agg #[.int .i64 0, .int .i64 0, .int .i64 0], stepInfo, by kernel_rfl, rfl, by kernel_rfl, by kernel_rfl⟩, by decide, by decide⟩

/-- Rows of unlike elements lie in unlike blocks. -/
theorem rows_apart {w : World} {base base' e e' sz sz' n n' : Nat} {v v' : Value} {xs xs' : List Value} (h : w.ownsRow base e sz v n xs) (h' : w.ownsRow base' e' sz' v' n' xs') (hne : e ≠ e') {r : Nat} (hr : v.ownBlock = some r) (hr' : v'.ownBlock = some r) : False := by
  rcases h.2 with ⟨rfl, _⟩ | ⟨g, cap, cur, rfl, _, hg, _⟩
  · cases hr
  · rcases h'.2 with ⟨rfl, _⟩ | ⟨g', cap', cur', rfl, _, hg', _⟩
    · cases hr'
    · have e1 : g = r := by simpa [Value.ownBlock] using hr
      have e2 : g' = r := by simpa [Value.ownBlock] using hr'
      subst e1
      subst e2
      rw [hg] at hg'
      cases hg'
      exact hne rfl

/-- The row that the call owns is a row of its elements. -/
theorem owns_cells {w : World} {base : Nat} {e : TypeId} {size : Nat} {v : Value} {n : Nat} {xs : List Value} (h : w.ownsRow base e size v n xs) : ∀ g, v.ownBlock = some g → ∃ c fz, w.heap[g]? = some (.cells c e fz) := by
  intro g hg
  rcases h.2 with ⟨rfl, _⟩ | ⟨g', cap, cur, rfl, _, hc, _⟩
  · cases hg
  · have : g' = g := by simpa [Value.ownBlock] using hg
    subst this
    exact ⟨_, _, hc⟩

theorem wpList_append_one (w : World) {ops : Array Oper} {rest : List Oper} {o : Oper} {a : Act} {Q : Exit → Act → World → Prop} (hgd : o.guard = none) (s x : Operand) (t e sz by_ : Nat)
    (ho : o.op = .call { callee := .builtin .append, args := #[s, x], argTypes := #[t, t] }) (hT : ElT t e sz by_) (base n : Nat) (v : Value) (xs : List Value) (hs : a.eval s = v)
    (hown : w.ownsRow base e sz v n xs) (B c : Nat) (news : List Value) (hx : a.eval x = .slice (some ⟨B, 0, none⟩) 1 c) (hnl : news.length = sz) (hc : ∀ j u, news[j]? = some u → w.cell? ⟨B, j, none⟩ = some u) (h1 : ∀ u ∈ news, u.oneCell' = true) (hn : n ≤ 900000) (hbase : base ≤ w.heap.size)
    (h : ∀ g' cap' w', w'.ownsRow base e sz (.slice (some ⟨g', 0, none⟩) (n + 1) cap') (n + 1) (xs ++ news) → w.grownBy w' v.ownBlock → (v.ownBlock = some g' ∨ g' = w.heap.size) → base ≤ g' → wpList Tryd.prog ops Q rest (a.put o.dst (.slice (some ⟨g', 0, none⟩) (n + 1) cap')) w') : wpList Tryd.prog ops Q (o :: rest) a w := by
  obtain ⟨g', cap', w', hr, h2, h3, h4, h5⟩ := run_append_one w o.type t e base n sz by_ hT v xs hown B c news hnl hc h1 hn hbase
  refine wpList_plain hgd fun K hK => ?_
  unfold Oper.wp execOp
  simp only [ho, resolve, invoke, builtin, Sem.run_bind, Sem.run_pure, Result.andThen_ok, List.map_toArray, List.map_cons, List.map_nil, hs, hx, hr]
  exact hK _ _ (h g' cap' w' h2 h3 h4 h5)
end Go.Proofs.YtpiacnnifdjlkabDoor
