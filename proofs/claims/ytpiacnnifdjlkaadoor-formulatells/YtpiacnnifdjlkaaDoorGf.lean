/-
  What formula.Print answers.
-/
import Derived.Test.YtpiacnnifdjlkaaDoorRb
import Derived.Test.YtpiacnnifdjlkaaDoorHg
import Derived.Test.YtpiacnnifdjlkaaDoorGk
import Derived.Defers
import Derived.Recover
import Derived.Test.YtpiacnnifdjlkaaDoorGh
/-
  The reference's nodeAt makes of the text of a formula's opposite just the nodes that the program turns it into; and they are right.
-/
namespace Go.Proofs.YtpiacnnifdjlkaaDoor
open Go.RowKit Go.Sort

theorem RefAt.congr {T : List UInt8} {p q q' : Nat} {g g' : Nat → List Nd} (h : RefAt T p q g) (hq : q = q') (hg : ∀ m, g m = g' m) : RefAt T p q' g' := by
  subst hq
  obtain rfl : g = g' := funext hg
  exact h

theorem sub_end {T : List UInt8} {p : Nat} {s : List UInt8} (h : Sub T p s) (hs : 0 < s.length) : p + s.length ≤ T.length := by
  have h1 := h (s.length - 1) (by omega)
  rw [List.getElem?_eq_getElem (show s.length - 1 < s.length by omega)] at h1
  have := (List.getElem?_eq_some_iff.1 h1).1
  omega

theorem ref_leaf {T : List UInt8} (hT : T.length ≤ 30000) (x : Nd) (hk : x.k = 1 ∨ x.k = 2) (hn : x.k = 2 → 0 ≤ x.n ∧ x.n ≤ 2) (h1n : x.k = 1 → x.n = 0) {p : Nat} (h : Sub T p (leafTx x)) : RefAt T p (p + (leafTx x).length) (fun _ => [⟨x.k, 0, 0, x.n⟩]) := by
  rcases hk with hk | hk
  · have e : leafTx x = [116, 114, 117, 101] := by unfold leafTx; rw [if_pos hk]
    rw [e] at h ⊢
    have := sub_end h (by simp)
    exact (ref_true h this hT).congr rfl (fun m => by rw [hk, h1n hk])
  · have e : leafTx x = [112, UInt8.ofNat (48 + x.n.toNat)] := by unfold leafTx; rw [if_neg (by omega)]
    have hx := hn hk
    rw [e] at h ⊢
    obtain ⟨t0, h⟩ := h.head
    obtain ⟨t1, -⟩ := h.head
    have hd : (UInt8.ofNat (48 + x.n.toNat)).toNat = 48 + x.n.toNat := by
      have : x.n.toNat ≤ 2 := by omega
      simp [UInt8.toNat_ofNat]
      omega
    refine (ref_prop (UInt8.ofNat (48 + x.n.toNat)) (by rw [hd]; omega) t0 t1 hT).congr rfl (fun m => ?_)
    rw [hd, hk, show ((48 + x.n.toNat : Nat) : Int) - 48 = x.n by omega]

theorem ref_fl {F : List Nd} (hF : AllOk F) {T : List UInt8} (hT : T.length ≤ 30000) : ∀ i, i < F.length → ∀ o p, Sub T p (nt F i o) → RefAt T p (p + (nt F i o).length) (fl F i o) := by
  intro i
  induction i using Nat.strongRecOn with
  | ind i ih =>
    intro hi o p hs
    obtain ⟨hk, ⟨a0, a1, _⟩, ⟨b0, b1, _⟩, hxn⟩ := node_ok (hF i hi)
    have hn0 : (F.getD i nd0).k ≠ 2 → (F.getD i nd0).n = 0 := fun h => node_n0 (hF i hi) h
    rw [nt_eq hF i hi] at hs ⊢
    have hfl : ∀ m, flS (F.getD i nd0) (fl F) o m = fl F i o m := fun m => (fl_eq hF i hi o m).symm
    generalize F.getD i nd0 = x at *
    refine RefAt.congr ?_ rfl hfl
    clear hfl
    unfold ntS at hs ⊢
    unfold flS
    by_cases h1 : x.k = 1 ∨ x.k = 2
    · simp only [if_pos h1] at hs ⊢
      cases o with
      | false =>
        simp only [Bool.false_eq_true, if_false] at hs ⊢
        exact ref_leaf hT x h1 hxn (fun h => hn0 (by omega)) hs
      | true =>
        simp only [if_true] at hs ⊢
        obtain ⟨t0, hs⟩ := hs.head
        refine (ref_one 3 (Or.inl rfl) t0 (ref_leaf hT x h1 hxn (fun h => hn0 (by omega)) hs) (fun m => by simp) hT).congr (by simp; omega) (fun m => by simp)
    simp only [if_neg h1] at hs ⊢
    have ha := a1 (by omega)
    by_cases h3 : x.k = 3
    · simp only [if_pos h3] at hs ⊢
      exact ih x.a.toNat (by omega) (by omega) (!o) p hs
    simp only [if_neg h3] at hs ⊢
    have hpa := fun m => (fl_len hF x.a.toNat (by omega) o m).2.1
    by_cases h6 : x.k = 6
    · simp only [if_pos h6] at hs ⊢
      obtain ⟨t0, hs⟩ := hs.head
      exact (ref_one 6 (Or.inr rfl) t0 (ih x.a.toNat (by omega) (by omega) o (p + 1) hs) hpa hT).congr (by simp; omega) (fun m => rfl)
    simp only [if_neg h6] at hs ⊢
    have hb := b1 (by omega)
    have hpb := fun m => (fl_len hF x.b.toNat (by omega) o m).2.1
    obtain ⟨t0, hs⟩ := hs.head
    obtain ⟨sa, hs⟩ := hs.app
    obtain ⟨t1, hs⟩ := hs.head
    obtain ⟨t2, hs⟩ := hs.head
    obtain ⟨t3, hs⟩ := hs.head
    obtain ⟨sb, hs⟩ := hs.app
    obtain ⟨t4, -⟩ := hs.head
    have n1 := ih x.a.toNat (by omega) (by omega) o (p + 1) sa
    have n2 := ih x.b.toNat (by omega) (by omega) o _ sb
    have hK : ((if o = true then oppK x.k else x.k).toNat = 4 ∨ (if o = true then oppK x.k else x.k).toNat = 5 ∨ (if o = true then oppK x.k else x.k).toNat = 7 ∨ (if o = true then oppK x.k else x.k).toNat = 8) ∧ (((if o = true then oppK x.k else x.k).toNat : Nat) : Int) = (if o = true then oppK x.k else x.k) := by
      rcases (show x.k = 4 ∨ x.k = 5 ∨ x.k = 7 ∨ x.k = 8 by omega) with e | e | e | e <;> rw [e] <;> cases o <;> simp [oppK]
    generalize (if o = true then oppK x.k else x.k) = kk at *
    obtain ⟨hK, eK⟩ := hK
    refine (ref_pair kk.toNat hK t0 n1 t1 (by rw [eK]; exact t2) t3 n2 t4 hpa hpb hT).congr (by simp; omega) (fun m => by rw [eK])

theorem fl_right {F : List Nd} (hF : AllOk F) : ∀ i, i < F.length → ∀ (o : Bool) (m d : Nat), d < (fl F i o m).length → nodeErr ((fl F i o m).getD d nd0) ((m + d : Nat) : Int) = 0 := by
  intro i
  induction i using Nat.strongRecOn with
  | ind i ih =>
    intro hi o m d hd
    obtain ⟨hk, ⟨a0, a1, _⟩, ⟨b0, b1, _⟩, hxn⟩ := node_ok (hF i hi)
    have hn0 : (F.getD i nd0).k ≠ 2 → (F.getD i nd0).n = 0 := fun h => node_n0 (hF i hi) h
    have hu := fl_eq hF i hi o m
    rw [hu] at hd ⊢
    clear hu
    generalize F.getD i nd0 = x at *
    unfold flS at hd ⊢
    by_cases h1 : x.k = 1 ∨ x.k = 2
    · simp only [if_pos h1] at hd ⊢
      have hx : nodeErr ⟨x.k, 0, 0, x.n⟩ (m : Int) = 0 := by
        rcases h1 with h | h
        · rw [h, hn0 (by omega)]; simp [nodeErr, chkN]
        · have := hxn h
          rw [h]; simp [nodeErr, chkN]; omega
      cases o with
      | false =>
        have e : d = 0 := by simpa using hd
        subst e
        exact hx
      | true =>
        have e : d = 0 ∨ d = 1 := by simp at hd; omega
        rcases e with rfl | rfl
        · exact hx
        · show nodeErr ⟨3, (m : Nat), 0, 0⟩ _ = 0
          unfold nodeErr chkN
          rw [if_pos (by dsimp only; omega), if_neg (by dsimp only; omega), if_neg (by dsimp only; omega), if_neg (by dsimp only; omega)]
    simp only [if_neg h1] at hd ⊢
    have ha := a1 (by omega)
    by_cases h3 : x.k = 3
    · simp only [if_pos h3] at hd ⊢
      exact ih x.a.toNat (by omega) (by omega) (!o) m d hd
    simp only [if_neg h3] at hd ⊢
    have iha := ih x.a.toNat (by omega) (by omega) o m
    have pa := (fl_len hF x.a.toNat (by omega) o m).2.1
    by_cases h6 : x.k = 6
    · simp only [if_pos h6] at hd ⊢
      generalize fl F x.a.toNat o m = A at *
      by_cases hdA : d < A.length
      · have e : (A ++ [(⟨6, (m + A.length - 1 : Nat), 0, 0⟩ : Nd)]).getD d nd0 = A.getD d nd0 := by simp [List.getD, List.getElem?_append, hdA]
        rw [e]
        exact iha d hdA
      · have ed : d = A.length := by simp at hd; omega
        subst ed
        have e : (A ++ [(⟨6, (m + A.length - 1 : Nat), 0, 0⟩ : Nd)]).getD A.length nd0 = ⟨6, (m + A.length - 1 : Nat), 0, 0⟩ := by simp [List.getD]
        rw [e]
        unfold nodeErr chkN
        rw [if_pos (by dsimp only; omega), if_neg (by dsimp only; omega), if_neg (by dsimp only; omega), if_neg (by dsimp only; omega)]
    simp only [if_neg h6] at hd ⊢
    have hb := b1 (by omega)
    have hKK : (if o = true then oppK x.k else x.k) = 4 ∨ (if o = true then oppK x.k else x.k) = 5 ∨ (if o = true then oppK x.k else x.k) = 7 ∨ (if o = true then oppK x.k else x.k) = 8 := by
      rcases (show x.k = 4 ∨ x.k = 5 ∨ x.k = 7 ∨ x.k = 8 by omega) with e | e | e | e <;> rw [e] <;> cases o <;> simp [oppK]
    generalize (if o = true then oppK x.k else x.k) = kk at *
    generalize fl F x.a.toNat o m = A at *
    have ihb := ih x.b.toNat (by omega) (by omega) o (m + A.length)
    have pb := (fl_len hF x.b.toNat (by omega) o (m + A.length)).2.1
    generalize fl F x.b.toNat o (m + A.length) = B at *
    by_cases hdA : d < A.length
    · have e : (A ++ (B ++ [(⟨kk, (m + A.length - 1 : Nat), (m + A.length + B.length - 1 : Nat), 0⟩ : Nd)])).getD d nd0 = A.getD d nd0 := by simp [List.getD, List.getElem?_append, hdA]
      rw [e]
      exact iha d hdA
    by_cases hdB : d < A.length + B.length
    · obtain ⟨d', rfl⟩ : ∃ d', d = A.length + d' := ⟨d - A.length, by omega⟩
      have hd' : d' < B.length := by omega
      have e : (A ++ (B ++ [(⟨kk, (m + A.length - 1 : Nat), (m + A.length + B.length - 1 : Nat), 0⟩ : Nd)])).getD (A.length + d') nd0 = B.getD d' nd0 := by simp [List.getD, List.getElem?_append, hd', show ¬ (A.length + d' < A.length) by omega]
      rw [e, ← Nat.add_assoc]
      exact ihb d' hd'
    · have ed : d = A.length + B.length := by simp at hd; omega
      subst ed
      have e : (A ++ (B ++ [(⟨kk, (m + A.length - 1 : Nat), (m + A.length + B.length - 1 : Nat), 0⟩ : Nd)])).getD (A.length + B.length) nd0 = ⟨kk, (m + A.length - 1 : Nat), (m + A.length + B.length - 1 : Nat), 0⟩ := by simp [List.getD]
      rw [e]
      unfold nodeErr chkN
      rw [if_pos (by dsimp only; omega), if_neg (by dsimp only; omega), if_neg (by dsimp only; omega), if_neg (by dsimp only; omega)]
end Go.Proofs.YtpiacnnifdjlkaaDoor

/-
  What formula.read and formula.Parse answer where all of a text is a formula.
-/
namespace Go.Proofs.YtpiacnnifdjlkaaDoor
open Go.RowKit Go.Sort

set_option maxRecDepth 100000 in
set_option maxHeartbeats 2000000 in
theorem read_idle (p q s : Addr) (w : World) :
    CallsD Tryd.prog 109 #[.pointer (some p), .pointer (some q), .pointer (some s)] .returning w fun e u' w' => e = .returned (.tuple #[]) ∧ u' = .returning ∧ w' = w := by
  refine callsD_of_wpS Tryd.func109 rfl fun c₀ cs hu => ?_
  apply wpS_seq
  apply wpS_region
  simp [wpOpsS, go_sem, recoverD, hu, Tryd.ntmps109, Exit.thenS]
  have he : ∀ W : World, (binOp .eql 20 .nilIface .nilIface).run Tryd.prog W = .ok (.bool true) W := fun _ => rfl
  refine wpS_of_wp ?_
  go_wp2
  cases c₀
  simp_all [bodyPostS, results, Tryd.results109]
end Go.Proofs.YtpiacnnifdjlkaaDoor

/-
  What formula.read and formula.Parse answer where all of a text is a formula.
-/
namespace Go.Proofs.YtpiacnnifdjlkaaDoor
open Go.RowKit Go.Sort

theorem below_set {w w3 : World} (hb : Below w.heap.size w w3) (nb o : Nat) (v : Value) (hnb : w.heap.size ≤ nb) : Below w.heap.size w (w3.setCell ⟨nb, o, none⟩ v) :=
  ⟨hb.os, hb.tape, hb.output, by simp only [World.setCell, Array.size_modify]; exact hb.size, fun k hk => (set_far w3 _ _ k (by show k ≠ nb; omega)).trans (hb.block k hk)⟩

theorem own_far {w : World} {base e size n : Nat} {v : Value} {xs : List Value} (h : w.ownsRow base e size v n xs) (nb o : Nat) (x : Value) (hrow : some nb ≠ v.ownBlock) : (w.setCell ⟨nb, o, none⟩ x).ownsRow base e size v n xs :=
  h.kept (row := some nb) ⟨rfl, rfl, rfl, by simp [World.setCell], fun k hk hne => set_far w _ _ k (fun e => hne (by rw [e]))⟩ (Or.inr fun e => hrow e.symm)

theorem rd_begin {w : World} {r : Nat} (hs : SgMap w r) (T : List UInt8) (ty : Nat) : RD (w.alloc (.cells #[.map (some r), .string ⟨T.toArray⟩, .int .i64 0, .slice none 0 0] ty)) w.heap.size r (w.heap.size + 1) T 0 none 0 [] := by
  have hb : Below w.heap.size w (w.alloc (.cells #[.map (some r), .string ⟨T.toArray⟩, .int .i64 0, .slice none 0 0] ty)) := below_new _ _
  have hrl := hs.lt
  refine ⟨?_, ?_, ?_, ?_, fun o => World.frozen?_alloc_new _ _ _ _, hs.below hb, ⟨rfl, Or.inl ⟨rfl, rfl⟩⟩, by simp, by omega, by omega, by omega⟩
  all_goals exact cell_top _ _ _ _ _ _ rfl rfl

set_option maxRecDepth 100000 in
set_option maxHeartbeats 4000000 in
theorem read_ok {T : List UInt8} {g : Nat → List Nd} (hN : NodeAt T 0 T.length g) (hg : (g 0).length ≤ 1000) (w : World) :
    Calls Tryd.prog 82 #[.string ⟨T.toArray⟩] w fun e w' => ∃ v, e = .returned (.tuple #[v, .int .i64 0, .bool true]) ∧ NodeSl w' v (g 0) ∧ Below w.heap.size w w' := by
  have hmf : ∀ (fn : Fn) (first cap : Array Value) (w : World), (Instr.makeFunc fn first cap).run Tryd.prog w = .ok (.func fn first cap) w := fun _ _ _ _ => rfl
  have HN := hide hN
  clear hN
  go_enter_defers Tryd.func82, Tryd.ntmps82
  go_wp2_with (fail)
  refine (signs_any _).mono ?_
  rintro e w1 ⟨r, rfl, hr, hr0, hb1⟩
  obtain ⟨W0, hW0⟩ : ∃ W0, W0 = ((w.alloc (Obj.cells #[.slice none 0 0] 59)).alloc (Obj.cells #[.int .i64 0] 3)).alloc (Obj.cells #[.bool false] 4) := ⟨_, rfl⟩
  rw [← hW0] at hb1
  have h00 : W0.heap.size = w.heap.size + 3 := by rw [hW0]; simp
  have hbw0 : Below w.heap.size w W0 := by rw [hW0]; exact (by repeat (first | exact Below.refl _ _ | assumption | refine below_drewN ?_ _ | refine Below.drew ?_ | refine Below.alloc ?_ (by simp <;> omega) _ | refine below_trans ?_ (by assumption)))
  have y0 : W0.heap[w.heap.size]? = some (Obj.cells #[.slice none 0 0] 59) := by
    rw [hW0]
    rw [heap_alloc_old _ _ (by simp <;> omega), heap_alloc_old _ _ (by simp <;> omega)]
    exact heap_alloc_new _ _
  have y1 : W0.heap[w.heap.size + 1]? = some (Obj.cells #[.int .i64 0] 3) := by
    rw [hW0]
    rw [heap_alloc_old _ _ (by simp <;> omega)]
    have := heap_alloc_new (w.alloc (Obj.cells #[.slice none 0 0] 59)) (Obj.cells #[.int .i64 0] 3)
    simpa using this
  have y2 : W0.heap[w.heap.size + 2]? = some (Obj.cells #[.bool false] 4) := by
    rw [hW0]
    have := heap_alloc_new ((w.alloc (Obj.cells #[.slice none 0 0] 59)).alloc (Obj.cells #[.int .i64 0] 3)) (Obj.cells #[.bool false] 4)
    simpa using this
  have hs1 := hb1.size
  clear hW0
  go_wp2_with (fail)
  have hR2 := rd_begin (w := w1) (r := r) hr T 162
  refine (HN.out _ _ _ _ _ _ _ hR2 (by simp; omega)).mono ?_
  rintro e w3 ⟨rfl, a3, c3, hrs3⟩
  have hrs3 : RS (w1.alloc (.cells #[.map (some r), .string ⟨T.toArray⟩, .int .i64 0, .slice none 0 0] 162)) w3 w1.heap.size r (w1.heap.size + 1) T T.length none a3 c3 (g 0) := hrs3
  have hz : ∀ k o, k < W0.heap.size → W0.heap[k]? = some o → w3.heap[k]? = some o := fun k o hk ho => by
    rw [hrs3.gt.block k (by simp; omega) (by omega) (by simp [rowOf, Value.ownBlock]), heap_alloc_old _ _ (by omega), hb1.block k hk]
    exact ho
  have y0 := hz _ _ (by omega) y0
  have y1 := hz _ _ (by omega) y1
  have y2 := hz _ _ (by omega) y2
  have z0 := box_cell (i := 0) y0 rfl
  have z1 := box_cell (i := 0) y1 rfl
  have z2 := box_cell (i := 0) y2 rfl
  have x0 := frozen_of_row _ _ 0 _ _ y0
  have x1 := frozen_of_row _ _ 0 _ _ y1
  have x2 := frozen_of_row _ _ 0 _ _ y2
  have k2 := hrs3.rd.c2
  have k3 := hrs3.rd.c3
  have HB3 := hide (neg_below hbw0 hb1 (show GT w1.heap.size none _ w3 from hrs3.gt))
  have HO3 := hide hrs3.rd.own
  have HW := hide h00
  have HS1 := hide hs1
  clear hrs3 hz y0 y1 y2 hR2 hr hr0 hb1 hbw0 HN h00 hs1
  go_wp2_with (fail)
  obtain ⟨w4, hw4⟩ : ∃ w4, w4 = ((w3.setCell ⟨w.heap.size, 0, none⟩ (.slice a3 (g 0).length c3)).setCell ⟨w.heap.size + 1, 0, none⟩ (.int .i64 0)).setCell ⟨w.heap.size + 1 + 1, 0, none⟩ (.bool true) := ⟨_, rfl⟩
  rw [← hw4]
  have q0 : w4.cell? ⟨w.heap.size, 0, none⟩ = some (.slice a3 (g 0).length c3) := by rw [hw4]; exact cell_set_ne (by omega) (cell_set_ne (by omega) (cell_set_eq z0))
  have q1 : w4.cell? ⟨w.heap.size + 1, 0, none⟩ = some (.int .i64 0) := by rw [hw4]; exact cell_set_ne (by omega) (cell_set_eq (cell_set_ne (by omega) z1))
  have q2 : w4.cell? ⟨w.heap.size + 1 + 1, 0, none⟩ = some (.bool true) := by rw [hw4]; exact cell_set_eq (cell_set_ne (by omega) (cell_set_ne (by omega) z2))
  have HB4 : Hid (Below w.heap.size w w4) := hide (by rw [hw4]; exact below_set (below_set (below_set HB3.out _ _ _ (by omega)) _ _ _ (by omega)) _ _ _ (by omega))
  have hrow : ∀ nb, nb < w1.heap.size + 1 → some nb ≠ (Value.slice a3 (g 0).length c3).ownBlock := fun nb hnb e => by
    have := (HO3.out.lt nb e.symm).1
    omega
  have HO4 : Hid (NodeSl w4 (.slice a3 (g 0).length c3) (g 0)) := hide (by
    have e1 := HW.out
    have e2 := HS1.out
    rw [hw4]
    exact nodeSl_of_owns (own_far (own_far (own_far HO3.out _ _ _ (hrow _ (by omega))) _ _ _ (hrow _ (by omega))) _ _ _ (hrow _ (by omega))))
  clear hw4 hrow z0 z1 z2 x0 x1 x2 k2 k3
  refine leaves_cons (f := 109) (args := #[.pointer (some ⟨w.heap.size, 0, none⟩), .pointer (some ⟨w.heap.size + 1, 0, none⟩), .pointer (some ⟨w.heap.size + 1 + 1, 0, none⟩)]) (by simp) (by simp [go_sem]) ?_
  refine (read_idle _ _ _ _).mono ?_
  rintro e u' w'' ⟨rfl, rfl, rfl⟩
  simp [Leaves, settle, results, Tryd.results82, go_sem, q0, q1, q2]
  exact ⟨HO4.out, HB4.out⟩

set_option maxRecDepth 100000 in
set_option maxHeartbeats 2000000 in
theorem parse_ok {T : List UInt8} {g : Nat → List Nd} (hN : NodeAt T 0 T.length g) (hT : T.length ≤ 2000) (hg : (g 0).length ≤ 1000) (hc : chkF (g 0) = 0) (w : World) :
    Calls Tryd.prog 42 #[.string ⟨T.toArray⟩] w fun e w' => ∃ v, e = .returned (.tuple #[v, .int .i64 0, .int .i64 0]) ∧ NodeSl w' v (g 0) ∧ Below w.heap.size w w' := by
  have HR := hide (read_ok hN hg w)
  have HC := hide hc
  clear hN hc
  have hlt : ¬ (2000 < (T.length : Int)) := by omega
  have hsz : (⟨T.toArray⟩ : ByteArray).size = T.length := by simp [ByteArray.size]
  go_enter Tryd.func42, Tryd.ntmps42
  go_wp2_with (fail)
  refine HR.out.mono ?_
  rintro e w1 ⟨v, rfl, hv, hb1⟩
  have HV := hide hv
  have HB1 := hide hb1
  clear hb1 HR
  obtain ⟨fa, fc, rfl, hm, -⟩ := hv
  go_wp2_with (fail)
  refine (formulaCheck_any HV.out).mono ?_
  rintro e w2 ⟨rfl, hb2⟩
  rw [HC.out]
  go_wp2_with (fail)
  go_ret3
  exact ⟨_, rfl, HV.out.below hb2, below_trans HB1.out hb2⟩
end Go.Proofs.YtpiacnnifdjlkaaDoor

/-
  What appendNode of package formula answers: the text of a node.
-/
namespace Go.Proofs.YtpiacnnifdjlkaaDoor
open Go.RowKit Go.Sort

/-- What a writer reads: the formula, the map of signs, the table of numerals; all of it below B. -/
structure PN (B : Nat) (w : World) (fv : Value) (F : List Nd) (r : Nat) : Prop where
  all : ∀ w1, Below B w w1 → NodeSl w1 fv F ∧ SgMap w1 r
  tab : Lib.TabBelow Tryd.prog B w "internal/strconv.uint64pow10" .u64 Lib.pow10Tab

theorem PN.on {B : Nat} {w w1 : World} {fv : Value} {F : List Nd} {r : Nat} (h : PN B w fv F r) (hb : Below B w w1) : PN B w1 fv F r := ⟨fun w2 h2 => h.all w2 (hb.trans h2), h.tab.on hb⟩

def AppOk (F : List Nd) (i : Nat) : Prop := ∀ (w : World) (B r : Nat) (fv sv : Value) (bs : List UInt8), AP B w w sv bs → PN B w fv F r → bs.length + (sh F i).length ≤ 800000 →
  Calls Tryd.prog 71 #[sv, fv, .int .i64 i, .map (some r)] w fun e w' => ∃ v', e = .returned v' ∧ AP B w w' v' (bs ++ sh F i)

theorem two_box {w w2 : World} {a b : Obj} (h : w2 = (w.alloc a).alloc b) : w2.heap[w.heap.size]? = some a ∧ w2.heap[w.heap.size + 1]? = some b ∧ w.heap.size + 2 = w2.heap.size := by
  subst h
  refine ⟨?_, ?_, by simp⟩
  · have := heap_alloc_old (w.alloc a) b (r := w.heap.size) (by simp)
    rw [this]
    exact heap_alloc_new w a
  · have := heap_alloc_new (w.alloc a) b
    simpa using this

set_option maxRecDepth 100000 in
set_option maxHeartbeats 4000000 in
theorem app_two {F : List Nd} (hF : AllOk F) (i : Nat) (hi : i < F.length) (hk : (F.getD i nd0).k = 4 ∨ (F.getD i nd0).k = 5 ∨ (F.getD i nd0).k = 7 ∨ (F.getD i nd0).k = 8) (ih : AppOk F (F.getD i nd0).a.toNat) (ihb : AppOk F (F.getD i nd0).b.toNat) : AppOk F i := by
  intro w B r fv sv bs h hP hlen
  have hsh : sh F i = 40 :: (sh F (F.getD i nd0).a.toNat ++ (32 :: signB (F.getD i nd0).k :: 32 :: (sh F (F.getD i nd0).b.toNat ++ [41]))) := by
    rw [sh_eq hF i hi]
    unfold shS
    rw [if_neg (by omega), if_neg (by omega), if_neg (by omega), if_neg (by omega)]
  rw [hsh] at hlen ⊢
  clear hsh
  obtain ⟨_, ⟨xa0, xa1, _⟩, ⟨xb0, xb1, xb2⟩, _⟩ := node_ok (hF i hi)
  obtain ⟨hN, hS⟩ := hP.all w (Below.refl _ _)
  obtain ⟨fa, fc, hfv, hfm, hc, -⟩ := hN
  subst hfv
  rcases hc with hc | ⟨b, off, rfl, hc⟩
  · rw [hc] at hi; simp at hi
  obtain ⟨d0, d1, d2, d3⟩ := hc i hi
  have hlk0 := (run_lookup_sign (w := w.alloc (Obj.cells #[.int .i64 (F.getD i nd0).k, .int .i64 (F.getD i nd0).a, .int .i64 (F.getD i nd0).b, .int .i64 (F.getD i nd0).n] 74)) (hS.below (below_new w _)) (F.getD i nd0).k).1
  have hsg : ∃ tp, (sgOf (F.getD i nd0).k).getD sg0 = ⟨[signB (F.getD i nd0).k], 2, false, tp, oppK (F.getD i nd0).k⟩ := by
    rcases hk with hk | hk | hk | hk <;> rw [hk] <;> exact ⟨_, rfl⟩
  obtain ⟨tp, hsg⟩ := hsg
  rw [hsg] at hlk0
  unfold sgV at hlk0
  have HI := hide ih
  have HIb := hide ihb
  have ea : ((F.getD i nd0).a.toNat : Int) = (F.getD i nd0).a := by omega
  have eb : ((F.getD i nd0).b.toNat : Int) = (F.getD i nd0).b := by omega
  unfold AppOk at HI HIb
  rw [ea] at HI
  rw [eb] at HIb
  simp only [List.length_cons, List.length_append, List.length_nil] at hlen
  have HP := hide hP
  have HA := hide h
  clear hc hsg h ea eb ih ihb xa0 xa1 xb0 xb1 xb2 hk hP hS
  generalize sh F (F.getD i nd0).a.toNat = ta at *
  generalize sh F (F.getD i nd0).b.toNat = tb at *
  generalize F.getD i nd0 = x at *
  obtain ⟨k, xa, xb, xn⟩ := x
  dsimp only at *
  generalize oppK k = kk at *
  generalize signB k = sb at *
  go_enter Tryd.func71, Tryd.ntmps71
  go_wp2_with (fail)
  obtain ⟨w2, hw2⟩ : ∃ w2, w2 = (w.alloc (Obj.cells #[.int .i64 k, .int .i64 xa, .int .i64 xb, .int .i64 xn] 74)).alloc (Obj.cells #[.string ⟨[sb].toArray⟩, .int .i64 2, .bool false, .bool tp, .int .i64 kk] 119) := ⟨_, rfl⟩
  have HA2 := hide (show AP B w w2 sv bs by rw [hw2]; exact (HA.out.alloc _).alloc _)
  obtain ⟨x1, x2, x3⟩ := two_box hw2
  rw [← hw2]
  have HAw := hide HA2.out.again
  have n1 : w2.cell? ⟨w.heap.size, 1, none⟩ = some (.int .i64 xa) := box_cell x1 rfl
  have hsz2 : w.heap.size < w2.heap.size := by omega
  have X1 := hide x1
  have X2 := hide x2
  clear hw2 x1 x2 d0 d1 d2 d3 hlk0
  go_region_law (first | (refine step_app1 (B := B) (w0 := w2) (bs := bs) (v := sv) ?_ rfl (.tmp 22) (.tmp 23) 40 rfl rfl _ _ rfl ?_ ?_ ?_; (focus (repeat (first | (with_reducible exact HAw.out) | (with_reducible refine AP.drew ?_) | (with_reducible refine AP.alloc ?_ _)))); (focus ((repeat (first | ((with_reducible refine cell_top _ _ _ _ _ _ ?_ ?_); (focus (first | rfl | (simp; done))); exact rfl) | (with_reducible refine cell_drew ?_) | (with_reducible refine cell_under _ _ ?_))))); (focus omega); intro v5 w5 hap5; have q5 : w5.cell? ⟨w.heap.size, 1, none⟩ = some (.int .i64 xa) := box_cell (hap5.box X1.out (by decide)) rfl) | (refine step_callG rfl 71 [.tmp 24, .tmp 25, .tmp 27, .tmp 28] _ rfl Tryd.call71 ?_; refine (HI.out _ B r _ _ (bs ++ [40]) ?_ ?_ ?_).mono ?_; (focus (first | exact hap5.again | exact hap5.drew.again | exact hap5.drew.drew.again)); (focus (first | exact HP.out.on (HA2.out.trans hap5).below | exact HP.out.on (HA2.out.trans hap5.drew).below | exact HP.out.on (HA2.out.trans hap5.drew.drew).below)); (focus (simp; omega)); rintro e w6 ⟨v6, rfl, hap6⟩; refine ⟨_, rfl, ?_⟩; have hap6' : AP B w2 w6 v6 (bs ++ [40] ++ ta) := (by first | exact hap5.trans hap6 | exact hap5.drew.trans hap6 | exact hap5.drew.drew.trans hap6)))
  all_goals
    have HA6 := hide hap6'
    clear hap5 hap6 hap6' q5 HI n1 hsz2
    go_wp2_with (at_builtin; first | (refine wp_app1 (HA6.out.alloc _) rfl (.tmp 30) (.tmp 31) 32 rfl rfl _ _ rfl (cell_top _ _ _ _ _ _ rfl rfl) (by simp; omega) ?_; intro v7 w7 hap7; have q7 : w7.cell? ⟨w.heap.size + 1, 0, none⟩ = some (.string ⟨[sb].toArray⟩) := box_cell (hap7.box X2.out (by decide)) rfl) | (refine wp_appStr hap7 rfl (.tmp 33) (.tmp 35) [sb] rfl rfl rfl (by simp; omega) ?_; intro v8 w8 hap8; clear hap7 q7) | (refine wp_app1 (hap8.alloc _) rfl (.tmp 37) (.tmp 38) 32 rfl rfl _ _ rfl (cell_top _ _ _ _ _ _ rfl rfl) (by simp; omega) ?_; intro v9 w9 hap9; clear hap8; have q9 : w9.cell? ⟨w.heap.size, 2, none⟩ = some (.int .i64 xb) := box_cell (hap9.box X1.out (by decide)) rfl))
    refine (HIb.out _ B r _ _ _ hap9.again (HP.out.on (HA2.out.trans hap9).below) (by simp; omega)).mono ?_
    rintro e w10 ⟨v10, rfl, hap10⟩
    have HA10 := hide (hap9.trans hap10)
    clear hap9 hap10 q9 HIb HA6
    go_wp2_with (at_builtin; refine wp_app1 (HA10.out.alloc _) rfl (.tmp 45) (.tmp 46) 41 rfl rfl _ _ rfl (cell_top _ _ _ _ _ _ rfl rfl) (by simp; omega) ?_; intro v11 w11 hap11; have HA11 := hide hap11; clear hap11)
    go_ret
    refine ⟨_, rfl, ?_⟩
    have := HA2.out.trans HA11.out
    simpa using this
end Go.Proofs.YtpiacnnifdjlkaaDoor

/-
  What appendNode and Print of package formula answer.
-/
namespace Go.Proofs.YtpiacnnifdjlkaaDoor
open Go.RowKit Go.Sort

theorem itoa_few (n : Int) (h : 0 ≤ n ∧ n ≤ 2) : Lib.itoa n = [UInt8.ofNat (48 + n.toNat)] := by
  obtain rfl | rfl | rfl : n = 0 ∨ n = 1 ∨ n = 2 := by omega
  all_goals decide +kernel

set_option maxRecDepth 100000 in
set_option maxHeartbeats 4000000 in
theorem app_true {F : List Nd} (hF : AllOk F) (i : Nat) (hi : i < F.length) (hk : (F.getD i nd0).k = 1) : AppOk F i := by
  intro w B r fv sv bs h hP hlen
  have hsh : sh F i = [116, 114, 117, 101] := by
    rw [sh_eq hF i hi]
    unfold shS
    rw [if_pos hk]
  rw [hsh] at hlen ⊢
  clear hsh
  obtain ⟨hN, hS⟩ := hP.all w (Below.refl _ _)
  obtain ⟨fa, fc, hfv, hfm, hc, -⟩ := hN
  subst hfv
  rcases hc with hc | ⟨b, off, rfl, hc⟩
  · rw [hc] at hi; simp at hi
  obtain ⟨d0, d1, d2, d3⟩ := hc i hi
  have hlk0 := (run_lookup_sign (w := w.alloc (Obj.cells #[.int .i64 (F.getD i nd0).k, .int .i64 (F.getD i nd0).a, .int .i64 (F.getD i nd0).b, .int .i64 (F.getD i nd0).n] 74)) (hS.below (below_new w _)) (F.getD i nd0).k).1
  have hsg : (sgOf (F.getD i nd0).k).getD sg0 = ⟨[116, 114, 117, 101], 0, false, false, 0⟩ := by rw [hk]; rfl
  rw [hsg] at hlk0
  unfold sgV at hlk0
  have HA := hide h
  clear hc hsg h hk hP hS
  generalize F.getD i nd0 = x at *
  obtain ⟨k, xa, xb, xn⟩ := x
  dsimp only at *
  simp only [List.length_cons, List.length_nil] at hlen
  have X := hide (two_box (w := w) (a := Obj.cells #[.int .i64 k, .int .i64 xa, .int .i64 xb, .int .i64 xn] 74) (b := Obj.cells #[.string ⟨[116, 114, 117, 101].toArray⟩, .int .i64 0, .bool false, .bool false, .int .i64 0] 119) rfl)
  go_enter Tryd.func71, Tryd.ntmps71
  go_wp2_with (at_builtin; refine wp_appStr ((HA.out.alloc _).alloc _).again rfl (.tmp 48) (.tmp 50) [116, 114, 117, 101] rfl rfl rfl (by simp; omega) ?_; intro v7 w7 hap7; have q7 : w7.cell? ⟨w.heap.size + 1, 1, none⟩ = some (.int .i64 0) := box_cell (hap7.box X.out.2.1 (by decide)) rfl; have q8 : w7.cell? ⟨w.heap.size + 1, 2, none⟩ = some (.bool false) := box_cell (hap7.box X.out.2.1 (by decide)) rfl; have HA7 := hide hap7; clear hap7)
  go_ret
  exact ⟨_, rfl, ((HA.out.alloc _).alloc _).trans HA7.out⟩

set_option maxRecDepth 100000 in
set_option maxHeartbeats 4000000 in
theorem app_prop {F : List Nd} (hF : AllOk F) (i : Nat) (hi : i < F.length) (hk : (F.getD i nd0).k = 2) : AppOk F i := by
  intro w B r fv sv bs h hP hlen
  have hsh : sh F i = [112, UInt8.ofNat (48 + (F.getD i nd0).n.toNat)] := by
    rw [sh_eq hF i hi]
    unfold shS
    rw [if_neg (by omega), if_pos hk]
  have hxn := (node_ok (hF i hi)).2.2.2 hk
  have hit := itoa_few _ hxn
  rw [hsh] at hlen ⊢
  clear hsh
  obtain ⟨hN, hS⟩ := hP.all w (Below.refl _ _)
  obtain ⟨fa, fc, hfv, hfm, hc, -⟩ := hN
  subst hfv
  rcases hc with hc | ⟨b, off, rfl, hc⟩
  · rw [hc] at hi; simp at hi
  obtain ⟨d0, d1, d2, d3⟩ := hc i hi
  have hlk0 := (run_lookup_sign (w := w.alloc (Obj.cells #[.int .i64 (F.getD i nd0).k, .int .i64 (F.getD i nd0).a, .int .i64 (F.getD i nd0).b, .int .i64 (F.getD i nd0).n] 74)) (hS.below (below_new w _)) (F.getD i nd0).k).1
  have hsg : (sgOf (F.getD i nd0).k).getD sg0 = ⟨[112], 0, true, false, 0⟩ := by rw [hk]; rfl
  rw [hsg] at hlk0
  unfold sgV at hlk0
  have HA := hide h
  have HP := hide hP
  clear hc hsg h hk hP hS
  generalize F.getD i nd0 = x at *
  obtain ⟨k, xa, xb, xn⟩ := x
  dsimp only at *
  simp only [List.length_cons, List.length_nil] at hlen
  have HXN := hide hxn
  have HIT := hide hit
  clear hit hxn
  have X := hide (two_box (w := w) (a := Obj.cells #[.int .i64 k, .int .i64 xa, .int .i64 xb, .int .i64 xn] 74) (b := Obj.cells #[.string ⟨[112].toArray⟩, .int .i64 0, .bool true, .bool false, .int .i64 0] 119) rfl)
  go_enter Tryd.func71, Tryd.ntmps71
  go_wp2_with (at_builtin; refine wp_appStr ((HA.out.alloc _).alloc _).again rfl (.tmp 48) (.tmp 50) [112] rfl rfl rfl (by simp; omega) ?_; intro v7 w7 hap7; have q7 : w7.cell? ⟨w.heap.size + 1, 1, none⟩ = some (.int .i64 0) := box_cell (hap7.box X.out.2.1 (by decide)) rfl; have q8 : w7.cell? ⟨w.heap.size + 1, 2, none⟩ = some (.bool true) := box_cell (hap7.box X.out.2.1 (by decide)) rfl; have q9 : w7.cell? ⟨w.heap.size, 3, none⟩ = some (.int .i64 xn) := box_cell (hap7.box X.out.1 (by decide)) rfl; have HA7 := hide hap7; clear hap7)
  have HA8 := hide (((HA.out.alloc _).alloc _).trans HA7.out)
  refine (appendInt_any B _ xn (by have := HXN.out; omega) (by have := HXN.out; omega) _ _ w7 HA8.out.own HA8.out.hB (by simp; omega) (HP.out.tab.on HA8.out.below)).mono ?_
  rintro e w9 ⟨v9, rfl, hown9, hb9, hk9⟩
  rw [HIT.out] at hown9
  have HA9 : Hid (AP B w7 w9 v9 (bs ++ [112] ++ [UInt8.ofNat (48 + xn.toNat)])) := hide ⟨by rw [List.length_append, Lib.byteCells_append]; exact hown9, hb9, hk9, Nat.le_trans HA8.out.hB hb9.size⟩
  clear hown9 hb9 hk9 q7 q8 q9
  go_wp2_with (fail)
  go_ret
  exact ⟨_, rfl, by simpa using HA8.out.trans HA9.out⟩

set_option maxRecDepth 100000 in
set_option maxHeartbeats 4000000 in
theorem app_one {F : List Nd} (hF : AllOk F) (i : Nat) (hi : i < F.length) (hk : (F.getD i nd0).k = 3 ∨ (F.getD i nd0).k = 6) (ih : AppOk F (F.getD i nd0).a.toNat) : AppOk F i := by
  intro w B r fv sv bs h hP hlen
  obtain ⟨sb, tp, op, hsh, hsg⟩ : ∃ sb tp op, sh F i = sb :: sh F (F.getD i nd0).a.toNat ∧ (sgOf (F.getD i nd0).k).getD sg0 = ⟨[sb], 1, false, tp, op⟩ := by
    rw [sh_eq hF i hi]
    unfold shS
    rcases hk with hk | hk
    · rw [if_neg (by omega), if_neg (by omega), if_pos hk, hk]
      exact ⟨_, _, _, rfl, rfl⟩
    · rw [if_neg (by omega), if_neg (by omega), if_neg (by omega), if_pos hk, hk]
      exact ⟨_, _, _, rfl, rfl⟩
  rw [hsh] at hlen ⊢
  clear hsh
  obtain ⟨_, ⟨xa0, xa1, _⟩, _⟩ := node_ok (hF i hi)
  obtain ⟨hN, hS⟩ := hP.all w (Below.refl _ _)
  obtain ⟨fa, fc, hfv, hfm, hc, -⟩ := hN
  subst hfv
  rcases hc with hc | ⟨b, off, rfl, hc⟩
  · rw [hc] at hi; simp at hi
  obtain ⟨d0, d1, d2, d3⟩ := hc i hi
  have hlk0 := (run_lookup_sign (w := w.alloc (Obj.cells #[.int .i64 (F.getD i nd0).k, .int .i64 (F.getD i nd0).a, .int .i64 (F.getD i nd0).b, .int .i64 (F.getD i nd0).n] 74)) (hS.below (below_new w _)) (F.getD i nd0).k).1
  rw [hsg] at hlk0
  unfold sgV at hlk0
  have ea : ((F.getD i nd0).a.toNat : Int) = (F.getD i nd0).a := by omega
  have HI := hide ih
  unfold AppOk at HI
  rw [ea] at HI
  have HA := hide h
  have HP := hide hP
  clear hc hsg h hk hP hS ih ea xa0 xa1
  generalize sh F (F.getD i nd0).a.toNat = ta at *
  generalize F.getD i nd0 = x at *
  obtain ⟨k, xa, xb, xn⟩ := x
  dsimp only at *
  simp only [List.length_cons] at hlen
  have X := hide (two_box (w := w) (a := Obj.cells #[.int .i64 k, .int .i64 xa, .int .i64 xb, .int .i64 xn] 74) (b := Obj.cells #[.string ⟨[sb].toArray⟩, .int .i64 1, .bool false, .bool tp, .int .i64 op] 119) rfl)
  go_enter Tryd.func71, Tryd.ntmps71
  go_wp2_with (at_builtin; refine wp_appStr ((HA.out.alloc _).alloc _).again rfl (.tmp 48) (.tmp 50) [sb] rfl rfl rfl (by simp; omega) ?_; intro v7 w7 hap7; have q7 : w7.cell? ⟨w.heap.size + 1, 1, none⟩ = some (.int .i64 1) := box_cell (hap7.box X.out.2.1 (by decide)) rfl; have q9 : w7.cell? ⟨w.heap.size, 1, none⟩ = some (.int .i64 xa) := box_cell (hap7.box X.out.1 (by decide)) rfl; have HA7 := hide hap7; clear hap7)
  have HA8 := hide (((HA.out.alloc _).alloc _).trans HA7.out)
  refine (HI.out _ B r _ _ _ HA8.out.again (HP.out.on HA8.out.below) (by simp; omega)).mono ?_
  rintro e w9 ⟨v9, rfl, hap9⟩
  have HA9 := hide hap9
  clear hap9 q7 q9 HI
  go_wp2_with (fail)
  go_ret
  exact ⟨_, rfl, by simpa using HA8.out.trans HA9.out⟩

theorem app_any {F : List Nd} (hF : AllOk F) : ∀ i, i < F.length → AppOk F i := by
  intro i
  induction i using Nat.strongRecOn with
  | ind i ih =>
    intro hi
    obtain ⟨hk, ⟨a0, a1, _⟩, ⟨b0, b1, _⟩, _⟩ := node_ok (hF i hi)
    by_cases h1 : (F.getD i nd0).k = 1
    · exact app_true hF i hi h1
    by_cases h2 : (F.getD i nd0).k = 2
    · exact app_prop hF i hi h2
    have ha := a1 (by omega)
    by_cases h3 : (F.getD i nd0).k = 3 ∨ (F.getD i nd0).k = 6
    · exact app_one hF i hi h3 (ih _ (by omega) (by omega))
    have hb := b1 (by omega)
    exact app_two hF i hi (by omega) (ih _ (by omega) (by omega)) (ih _ (by omega) (by omega))

/-- What Print answers. -/
def prt (F : List Nd) : List UInt8 := if chkF F = 0 then sh F (F.length - 1) else []
end Go.Proofs.YtpiacnnifdjlkaaDoor

namespace Go.Proofs.YtpiacnnifdjlkaaDoor
open Go.RowKit Go.Sort

theorem owns_row {w : World} {base : Nat} {e : TypeId} {size : Nat} {v : Value} {n : Nat} {xs : List Value} (h : w.ownsRow base e size v n xs) (hn : 0 < n) : ∃ g cap, v = .slice (some ⟨g, 0, none⟩) n cap := by
  rcases h.2 with ⟨_, h0⟩ | ⟨g, cap, cur, rfl, _⟩
  · omega
  · exact ⟨g, cap, rfl⟩

theorem sh_pos {F : List Nd} (hF : AllOk F) (i : Nat) (hi : i < F.length) : 0 < (sh F i).length := by
  rw [sh_eq hF i hi]
  unfold shS
  by_cases h1 : (F.getD i nd0).k = 1
  · rw [if_pos h1]; simp
  rw [if_neg h1]
  by_cases h2 : (F.getD i nd0).k = 2
  · rw [if_pos h2]; simp
  rw [if_neg h2]
  by_cases h3 : (F.getD i nd0).k = 3
  · rw [if_pos h3]; simp
  rw [if_neg h3]
  by_cases h6 : (F.getD i nd0).k = 6
  · rw [if_pos h6]; simp
  rw [if_neg h6]; simp

theorem run_text {w : World} {B : Nat} {g cap : Nat} {bs : List UInt8} (h : w.ownsRow B 5 1 (.slice (some ⟨g, 0, none⟩) bs.length cap) bs.length (Lib.byteCells bs)) :
    (convert 106 9 (.slice (some ⟨g, 0, none⟩) bs.length cap)).run Tryd.prog w = .ok (.string ⟨bs.toArray⟩) w :=
  run_convert_bytes_back (P := Tryd.prog) w 106 9 5 ⟨g, 0, none⟩ cap bs (by kernel_rfl) (by kernel_rfl) (by kernel_rfl) (fun j hj => h.cells (g := g) rfl j _ (by simp [Lib.byteCells, hj]))

theorem tab_below {w w1 : World} {name : String} {k : IntKind} {zs : List Int} (h : Lib.TabBelow Tryd.prog w.heap.size w name k zs) (hb : Below w.heap.size w w1) : Lib.TabBelow Tryd.prog w1.heap.size w1 name k zs :=
  fun w' h' => h w' (hb.trans (h'.mono hb.size))

set_option maxRecDepth 100000 in
set_option maxHeartbeats 2000000 in
theorem print_any {w : World} {fv : Value} {F : List Nd} (hF : NodeSl w fv F) (ht : Lib.TabBelow Tryd.prog w.heap.size w "internal/strconv.uint64pow10" .u64 Lib.pow10Tab) :
    Calls Tryd.prog 34 #[fv] w fun e w' => e = .returned (.tuple #[.string ⟨(prt F).toArray⟩, .int .i64 (chkF F)]) ∧ Below w.heap.size w w' := by
  have HC : Hid (∀ W v G, NodeSl W v G → Calls Tryd.prog 40 #[v] W fun e w' => e = .returned (.int .i64 (chkF G)) ∧ Below W.heap.size W w') := hide fun W v G h => formulaCheck_any h
  have HV := hide hF
  have HT := hide ht
  clear ht
  obtain ⟨fa, fc, rfl, hm, -⟩ := hF
  unfold prt
  by_cases hq : chkF F = 0
  · rw [if_pos hq]
    obtain ⟨hM0, h12, hall⟩ := chkF_ok hq
    have hsl := sh_len hall (F.length - 1) (by omega)
    have hpw : 2 ^ (F.length - 1 + 1) ≤ 2 ^ 12 := Nat.pow_le_pow_right (by decide) (by omega)
    have hsp := sh_pos hall (F.length - 1) (by omega)
    have HAp := hide (app_any hall (F.length - 1) (by omega))
    unfold AppOk at HAp
    have hi0 : ((F.length - 1 : Nat) : Int) = (F.length : Int) - 1 := by omega
    rw [hi0] at HAp
    have hlen : (sh F (F.length - 1)).length ≤ 800000 := by omega
    generalize sh F (F.length - 1) = tx at *
    rw [hq]
    have HQ := hide hq
    clear hi0 hpw hsl hq hall
    go_enter Tryd.func34, Tryd.ntmps34
    go_wp2_with (fail)
    refine (HC.out _ _ F HV.out).mono ?_
    rintro e w1 ⟨rfl, hb1⟩
    rw [HQ.out]
    go_wp2_with (fail)
    refine (signs_any _).mono ?_
    rintro e w2 ⟨r, rfl, hr, hr0, hb2⟩
    have hB2 := below_trans hb1 hb2
    have HB2 := hide hB2
    have HN2 := hide (HV.out.below hB2)
    have HR2 := hide (show SgMap w2 r from hr)
    clear hr hb1 hb2 hB2
    go_wp2_with (fail)
    refine (HAp.out w2 w2.heap.size r _ (.slice none 0 0) [] ⟨World.ownsRow_nil _ _ _ _, Below.refl _ _, Lib.OthersKept.refl _ _ _, Nat.le_refl _⟩ ⟨fun w1 hb => ⟨HN2.out.below hb, HR2.out.below hb⟩, tab_below HT.out HB2.out⟩ (by simpa using hlen)).mono ?_
    rintro e w3 ⟨v3, rfl, hap3⟩
    rw [List.nil_append] at hap3
    have hcv := hap3.own
    obtain ⟨g, cap, rfl⟩ := owns_row hcv hsp
    have hcv := run_text hcv
    have HB3 := hide (HB2.out.trans (hap3.below.mono HB2.out.size))
    clear hap3
    go_wp2_with (fail)
    go_ret2
    exact ⟨rfl, HB3.out⟩
  · rw [if_neg hq]
    have bq : (chkF F != 0) = true := by simpa using hq
    generalize hcq : chkF F = s at *
    have HS := hide hcq
    clear hcq hq
    go_enter Tryd.func34, Tryd.ntmps34
    go_wp2_with (fail)
    refine (HC.out _ _ F HV.out).mono ?_
    rintro e w1 ⟨rfl, hb1⟩
    rw [HS.out]
    go_wp2_with (fail)
    go_ret2
    exact ⟨rfl, hb1⟩
end Go.Proofs.YtpiacnnifdjlkaaDoor
