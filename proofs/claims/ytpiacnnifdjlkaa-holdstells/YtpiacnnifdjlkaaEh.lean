/-
  What (table).rule answers: a rule that does as the node asks.
-/
import Derived.Test.YtpiacnnifdjlkaaEg
namespace Go.Proofs.Ytpiacnnifdjlkaa
open Go.RowKit Go.Sort

set_option maxRecDepth 100000 in
set_option maxHeartbeats 1000000 in
theorem rule5_any {w : World} {av rv : Value} {A : List Bool} (i : Nat) (nx : Bool) (pa pt : Nat) (a0 : Option Addr) (c h N : Nat) (hN : N ≤ 9223372036854775807) (hi : i < N) (ha : w.cell? ⟨pa, 0, none⟩ = some av) (hA : RowSl w av A) (hAN : A.length = N)
    (ht : w.heap[pt]? = some (.cells #[.slice a0 N c, .int .i64 h, rv] 40)) (hh : h < N) :
    Calls Try.prog 37 #[.int .i64 i, .bool nx, .pointer (some ⟨pa, 0, none⟩), .pointer (some ⟨pt, 0, none⟩)] w fun e w' => e = .returned (.bool (A.getD (if i + 1 = N then h else i + 1) false)) ∧ Below w.heap.size w w' := by
  have HN := hide (fun w1 => next_place (w := w1) (a := a0) (c := c) h i rv hN hi)
  have hj : (if i + 1 = N then h else i + 1) < A.length := by split <;> omega
  obtain ⟨b, off, cap, rfl, hc, hm⟩ := hA.at _ hj
  clear hA
  generalize (if i + 1 = N then h else i + 1) = j at *
  rw [hAN] at hj
  generalize A.getD j false = x at *
  rw [hAN] at *
  have k0 := cell_regrown (cell_of_row w pt 0 _ _ _ ht)
  have k1 := cell_regrown (cell_of_row w pt 1 _ _ _ ht)
  have k2 := cell_regrown (cell_of_row w pt 2 _ _ _ ht)
  have ka := cell_regrown ha
  have kc := cell_regrown hc
  have CN := hide (fun d os => Calls.regrown_of (HN.out (grow (redrawn w d) os)))
  clear HN ht ha hc hi
  go_enter Try.func37, Try.ntmps37
  go_wp2_with (fail)
  refine wp_region_quiet_below (by kernel_rfl) (by kernel_rfl) ?_
  (repeat (go_big_quiet_step (exact CN.out _ _)))
  refine wpQuiet_nil ?_
  intro _ hw'
  obtain ⟨⟨dq, osq⟩, hw''⟩ := hw'
  subst hw''
  have hbq := below_regrown w dq osq
  clear k0 k1 k2 ka kc CN
  go_wp2
  go_ret
  exact ⟨rfl, hbq⟩

/-- A function that answers, at each place, as the rule u does. -/
def RuleOk (w : World) (F : Nat) (caps : Array Value) (u : Nat → Bool → Bool) (N : Nat) : Prop :=
  (∀ args w, (callFunc F args).run Try.prog w = .ok (.enter F args) w) ∧ ∀ i, i < N → ∀ nx w1, Below w.heap.size w w1 → Calls Try.prog F (#[.int .i64 (i : Nat), .bool nx] ++ caps) w1 fun e w' => e = .returned (.bool (u i nx)) ∧ Below w1.heap.size w1 w'

theorem cell_keep {w w1 : World} {a : Addr} {v : Value} (h : w.cell? a = some v) (hb : Below w.heap.size w w1) : w1.cell? a = some v := by
  rw [hb.cell (World.block_lt_of_cell? w _ h)]; exact h

theorem block_keep {w w1 : World} {g : Nat} {o : Obj} (h : w.heap[g]? = some o) (hb : Below w.heap.size w w1) : w1.heap[g]? = some o :=
  (hb.block g (Array.getElem?_eq_some_iff.1 h).1).trans h

theorem four_allocE (w : World) (o0 o1 o2 o3 : Obj) : Below w.heap.size w ((((w.alloc o0).alloc o1).alloc o2).alloc o3).drew ∧
    ((((w.alloc o0).alloc o1).alloc o2).alloc o3).drew.heap[w.heap.size]? = some o0 ∧ ((((w.alloc o0).alloc o1).alloc o2).alloc o3).drew.heap[w.heap.size + 1]? = some o1 ∧
    ((((w.alloc o0).alloc o1).alloc o2).alloc o3).drew.heap[w.heap.size + 1 + 1]? = some o2 ∧ ((((w.alloc o0).alloc o1).alloc o2).alloc o3).drew.heap[w.heap.size + 1 + 1 + 1]? = some o3 := by
  have n0 := heap_alloc_new w o0
  have n1 := heap_alloc_new (w.alloc o0) o1
  have n2 := heap_alloc_new ((w.alloc o0).alloc o1) o2
  have n3 := heap_alloc_new (((w.alloc o0).alloc o1).alloc o2) o3
  have b1 := below_new (w.alloc o0) o1
  have b2 := below_new ((w.alloc o0).alloc o1) o2
  have b3 := Below.drew (below_new (((w.alloc o0).alloc o1).alloc o2) o3)
  simp only [World.size_alloc] at n1 n2 n3
  refine ⟨(by repeat (first | exact Below.refl _ _ | assumption | refine below_drewN ?_ _ | refine Below.drew ?_ | refine Below.alloc ?_ (by simp <;> omega) _ | refine below_trans ?_ (by assumption))), ?_, ?_, ?_, ?_⟩
  · exact block_keep (block_keep (block_keep n0 b1) b2) b3
  · exact block_keep (block_keep n1 b2) b3
  · exact block_keep n2 b3
  · exact n3

theorem same_below {w w' : World} {p : Prop} (h : p ∧ w' = w) : p ∧ Below w.heap.size w w' := ⟨h.1, by rw [h.2]; exact Below.refl _ _⟩

section
variable {w : World} {T : List (List Bool)} {h p N : Nat} {L : Nat → Int} {x : Nd} {a b pa pb : Nat} {av bv : Value}

theorem ok1 (hk : x.k = 1) : RuleOk w 41 #[] (ruleB T h p L x) N :=
  ⟨Try.call41, fun i _ nx w1 _ => (rule8_any (w := w1) i nx).mono fun e w' he => same_below ⟨by rw [he.1]; simp [ruleB, hk], he.2⟩⟩

theorem ok2 {lv : Value} {Ls : List Int} {pt pn : Nat} (hk : x.k = 2) (hn : 0 ≤ x.n ∧ x.n ≤ 2) (h0 : w.cell? ⟨pt, 0, none⟩ = some lv) (hL : IntSl w lv Ls) (hN : Ls.length = N) (hx : ∀ i, i < N → 0 ≤ Ls.getD i 0 ∧ Ls.getD i 0 ≤ 7) (hLL : ∀ i, i < N → L i = Ls.getD i 0) (h3 : w.cell? ⟨pn, 3, none⟩ = some (.int .i64 x.n)) :
    RuleOk w 33 #[.pointer (some ⟨pt, 0, none⟩), .pointer (some ⟨pn, 0, none⟩)] (ruleB T h p L x) N :=
  ⟨Try.call33, fun i hi nx w1 hb => (rule1_any (w := w1) i nx pt pn x.n (cell_keep h0 hb) (hL.below hb) (by omega) (hx i hi) hn (cell_keep h3 hb)).mono fun e w' he => ⟨by rw [he.1]; simp [ruleB, hk, hLL i hi], by obtain ⟨m, hm⟩ := he.2; rw [hm]; exact below_drawn _ _⟩⟩

theorem ok3 (hk : x.k = 3) (ha : x.a = a) (ca : w.cell? ⟨pa, 0, none⟩ = some av) (hA : RowSl w av (T.getD a [])) (hAN : (T.getD a []).length = N) :
    RuleOk w 34 #[.pointer (some ⟨pa, 0, none⟩)] (ruleB T h p L x) N :=
  ⟨Try.call34, fun i hi nx w1 hb => (rule2_any (w := w1) i nx pa (cell_keep ca hb) (hA.below hb) (by omega)).mono fun e w' he => same_below ⟨by rw [he.1]; simp [ruleB, hk, bt, ha], he.2⟩⟩

theorem ok4 (hk : x.k = 4) (ha : x.a = a) (hb' : x.b = b) (ca : w.cell? ⟨pa, 0, none⟩ = some av) (hA : RowSl w av (T.getD a [])) (hAN : (T.getD a []).length = N) (cb : w.cell? ⟨pb, 0, none⟩ = some bv) (hB : RowSl w bv (T.getD b [])) (hBN : (T.getD b []).length = N) :
    RuleOk w 35 #[.pointer (some ⟨pa, 0, none⟩), .pointer (some ⟨pb, 0, none⟩)] (ruleB T h p L x) N :=
  ⟨Try.call35, fun i hi nx w1 hb => (rule3_any (w := w1) i nx pa pb (cell_keep ca hb) (hA.below hb) (by omega) (cell_keep cb hb) (hB.below hb) (by omega)).mono fun e w' he => same_below ⟨by rw [he.1]; simp [ruleB, hk, bt, ha, hb'], he.2⟩⟩

theorem ok5 (hk : x.k = 5) (ha : x.a = a) (hb' : x.b = b) (ca : w.cell? ⟨pa, 0, none⟩ = some av) (hA : RowSl w av (T.getD a [])) (hAN : (T.getD a []).length = N) (cb : w.cell? ⟨pb, 0, none⟩ = some bv) (hB : RowSl w bv (T.getD b [])) (hBN : (T.getD b []).length = N) :
    RuleOk w 36 #[.pointer (some ⟨pa, 0, none⟩), .pointer (some ⟨pb, 0, none⟩)] (ruleB T h p L x) N :=
  ⟨Try.call36, fun i hi nx w1 hb => (rule4_any (w := w1) i nx pa pb (cell_keep ca hb) (hA.below hb) (by omega) (cell_keep cb hb) (hB.below hb) (by omega)).mono fun e w' he => same_below ⟨by rw [he.1]; simp [ruleB, hk, bt, ha, hb'], he.2⟩⟩

theorem ok7 (hk : x.k = 7) (ha : x.a = a) (hb' : x.b = b) (ca : w.cell? ⟨pa, 0, none⟩ = some av) (hA : RowSl w av (T.getD a [])) (hAN : (T.getD a []).length = N) (cb : w.cell? ⟨pb, 0, none⟩ = some bv) (hB : RowSl w bv (T.getD b [])) (hBN : (T.getD b []).length = N) :
    RuleOk w 39 #[.pointer (some ⟨pb, 0, none⟩), .pointer (some ⟨pa, 0, none⟩)] (ruleB T h p L x) N :=
  ⟨Try.call39, fun i hi nx w1 hb => (rule6_any (w := w1) i nx pa pb (cell_keep ca hb) (hA.below hb) (by omega) (cell_keep cb hb) (hB.below hb) (by omega)).mono fun e w' he => same_below ⟨by rw [he.1]; simp [ruleB, hk, bt, ha, hb'], he.2⟩⟩

theorem ok8 (hk : x.k = 8) (ha : x.a = a) (hb' : x.b = b) (ca : w.cell? ⟨pa, 0, none⟩ = some av) (hA : RowSl w av (T.getD a [])) (hAN : (T.getD a []).length = N) (cb : w.cell? ⟨pb, 0, none⟩ = some bv) (hB : RowSl w bv (T.getD b [])) (hBN : (T.getD b []).length = N) :
    RuleOk w 40 #[.pointer (some ⟨pb, 0, none⟩), .pointer (some ⟨pa, 0, none⟩)] (ruleB T h p L x) N :=
  ⟨Try.call40, fun i hi nx w1 hb => (rule7_any (w := w1) i nx pa pb (cell_keep ca hb) (hA.below hb) (by omega) (cell_keep cb hb) (hB.below hb) (by omega)).mono fun e w' he => same_below ⟨by rw [he.1]; simp [ruleB, hk, bt, ha, hb'], he.2⟩⟩

theorem ok6 {a0 : Option Addr} {c pt : Nat} {rv : Value} (hk : x.k = 6) (ha : x.a = a) (hNN : N ≤ 9223372036854775807) (hN : N = h + p) (hp : 0 < p) (ca : w.cell? ⟨pa, 0, none⟩ = some av) (hA : RowSl w av (T.getD a [])) (hAN : (T.getD a []).length = N)
    (ht : w.heap[pt]? = some (.cells #[.slice a0 N c, .int .i64 h, rv] 40)) :
    RuleOk w 37 #[.pointer (some ⟨pa, 0, none⟩), .pointer (some ⟨pt, 0, none⟩)] (ruleB T h p L x) N :=
  ⟨Try.call37, fun i hi nx w1 hb => (rule5_any (w := w1) i nx pa pt a0 c h N hNN hi (cell_keep ca hb) (hA.below hb) hAN (block_keep ht hb) (by omega)).mono fun e w' he => ⟨by rw [he.1]; simp [ruleB, hk, bt, ha, nxp, hN], he.2⟩⟩
end

set_option maxRecDepth 100000 in
set_option maxHeartbeats 4000000 in
theorem rule_any {w : World} {T : List (List Bool)} {Ls : List Int} {L : Nat → Int} (a0 : Option Addr) (N c0 h p R M : Nat) (x : Nd) (a b : Nat) (a1 a2 : Option Addr) (n1 c1 n2 c2 : Nat) (_hM : M ≤ 12) (ha : a < M) (hb : b < M) (hxk : 1 ≤ x.k ∧ x.k ≤ 8) (hxa : x.a = a) (hxb : x.b = b) (hxn : x.k = 2 → 0 ≤ x.n ∧ x.n ≤ 2) (hav : w.cell? ⟨R, a, none⟩ = some (.slice a1 n1 c1)) (hbv : w.cell? ⟨R, b, none⟩ = some (.slice a2 n2 c2))
    (hNN : N ≤ 9223372036854775807) (hN : N = h + p) (hp : 0 < p) (hL : IntSl w (.slice a0 N c0) Ls) (hLN : Ls.length = N) (hL7 : ∀ i, i < N → 0 ≤ Ls.getD i 0 ∧ Ls.getD i 0 ≤ 7) (hLL : ∀ i, i < N → L i = Ls.getD i 0)
    (hA : 3 ≤ x.k → RowSl w (.slice a1 n1 c1) (T.getD a []) ∧ (T.getD a []).length = N) (hB : x.k = 4 ∨ x.k = 5 ∨ x.k = 7 ∨ x.k = 8 → RowSl w (.slice a2 n2 c2) (T.getD b []) ∧ (T.getD b []).length = N) :
    Calls Try.prog 26 #[.agg #[.slice a0 N c0, .int .i64 h, .slice (some ⟨R, 0, none⟩) M M], .agg #[.int .i64 x.k, .int .i64 x.a, .int .i64 x.b, .int .i64 x.n]] w fun e w' => ∃ F caps, e = .returned (.func (.func F) #[] caps) ∧ RuleOk w' F caps (ruleB T h p L x) N ∧ Below w.heap.size w w' := by
  have hmf : ∀ (fn : Fn) (first cap : Array Value) (w : World), (Instr.makeFunc fn first cap).run Try.prog w = .ok (.func fn first cap) w := fun _ _ _ _ => rfl
  have hR := World.block_lt_of_cell? w _ hav
  dsimp only at hR
  have hR1 : R < w.heap.size + 1 := by omega
  have hR2 : R < w.heap.size + 1 + 1 := by omega
  have hR3 : R < w.heap.size + 1 + 1 + 1 := by omega
  have HALL := hide (And.intro hNN (And.intro hN (And.intro hp (And.intro hL (And.intro hLN (And.intro hL7 (And.intro hLL (And.intro hA (And.intro hB (And.intro hxa (And.intro hxb (And.intro hxk hxn))))))))))))
  clear hN hp hL hLN hL7 hLL hA hB hxk hxn
  have hxa' : x.a = (a : Nat) := hxa
  rw [hxa, hxb]
  clear hxa hxb hxa'
  generalize hk : x.k = k
  generalize hn : x.n = n
  have HK := hide hk
  have HN := hide hn
  clear hk hn
  go_enter Try.func26, Try.ntmps26
  go_wp2_with (fail)
  rename_i K hK
  have key : ∀ (pa pb : Nat) (W : World), Below w.heap.size w W → W.heap[w.heap.size]? = some (Obj.cells #[.slice a0 N c0, .int .i64 h, .slice (some ⟨R, 0, none⟩) M M] 40) → W.heap[w.heap.size + 1]? = some (Obj.cells #[.int .i64 k, .int .i64 a, .int .i64 b, .int .i64 n] 44) → W.cell? ⟨pa, 0, none⟩ = some (.slice a1 n1 c1) → W.cell? ⟨pb, 0, none⟩ = some (.slice a2 n2 c2) →
      K { tmps := #[.agg #[.slice a0 N c0, .int .i64 h, .slice (some ⟨R, 0, none⟩) M M], .agg #[.int .i64 k, .int .i64 a, .int .i64 b, .int .i64 n], .pointer (some ⟨w.heap.size, 0, none⟩), .pointer (some ⟨w.heap.size + 1, 0, none⟩), .nilFunc, .pointer (some ⟨pa, 0, none⟩), .pointer (some ⟨pb, 0, none⟩), .pointer (some ⟨w.heap.size, 2, none⟩), .slice (some ⟨R, 0, none⟩) M M, .pointer (some ⟨w.heap.size + 1, 1, none⟩), .int .i64 a, .pointer (some ⟨R, a, none⟩), .slice a1 n1 c1, .pointer (some ⟨w.heap.size, 2, none⟩), .slice (some ⟨R, 0, none⟩) M M, .pointer (some ⟨w.heap.size + 1, 2, none⟩), .int .i64 b, .pointer (some ⟨R, b, none⟩), .slice a2 n2 c2, undef, undef, undef, undef, undef, undef, undef, undef, undef, undef, undef, undef, undef, undef, undef, undef, undef, undef, undef, undef, undef, undef, undef], defers := [] } W := by
    intro pa pb W hbW e0 e1 ca cb
    refine hK _ _ ?_
    clear hK
    obtain ⟨hNN, hN, hp, hL, hLN, hL7, hLL, hA, hB, hxa, hxb, hxk, hxn⟩ := HALL.out
    have HA := hide (fun h3 => And.intro ((hA h3).1.below hbW) (hA h3).2)
    have HB := hide (fun h3 => And.intro ((hB h3).1.below hbW) (hB h3).2)
    have HX := hide (And.intro hNN (And.intro hN (And.intro hp (And.intro (hL.below hbW) (And.intro hLN (And.intro hL7 (And.intro hLL (And.intro hxa (And.intro hxb hxn)))))))))
    have q0 := cell_of_row W _ 0 _ _ _ e1
    have q3 := cell_of_row W _ 3 _ _ _ e1
    have t0 := cell_of_row W _ 0 _ _ _ e0
    have Q3 := hide q3
    have T0 := hide t0
    have E0 := hide e0
    have CA := hide ca
    have CB := hide cb
    have HW := hide hbW
    have hkk : k = 1 ∨ k = 2 ∨ k = 3 ∨ k = 4 ∨ k = 5 ∨ k = 6 ∨ k = 7 ∨ k = 8 := by rw [HK.out] at hxk; omega
    clear hNN hN hp hL hLN hL7 hLL hA hB hxa hxb hxk hxn hbW e0 e1 ca cb q3 t0 HALL
    rcases hkk with rfl | rfl | rfl | rfl | rfl | rfl | rfl | rfl
    · go_wp2_with (fail)
      go_ret
      exact ⟨_, _, rfl, ok1 HK.out, HW.out⟩
    · go_wp2_with (fail)
      go_ret
      exact ⟨_, _, rfl, ok2 HK.out (HX.out.2.2.2.2.2.2.2.2.2 HK.out) T0.out HX.out.2.2.2.1 HX.out.2.2.2.2.1 HX.out.2.2.2.2.2.1 HX.out.2.2.2.2.2.2.1 (Q3.out.trans (by rw [HN.out]; rfl)), HW.out⟩
    · go_wp2_with (fail)
      go_ret
      exact ⟨_, _, rfl, ok3 HK.out HX.out.2.2.2.2.2.2.2.1 CA.out (HA.out (by rw [HK.out]; omega)).1 (HA.out (by rw [HK.out]; omega)).2, HW.out⟩
    · go_wp2_with (fail)
      go_ret
      exact ⟨_, _, rfl, ok4 HK.out HX.out.2.2.2.2.2.2.2.1 HX.out.2.2.2.2.2.2.2.2.1 CA.out (HA.out (by rw [HK.out]; omega)).1 (HA.out (by rw [HK.out]; omega)).2 CB.out (HB.out (by rw [HK.out]; omega)).1 (HB.out (by rw [HK.out]; omega)).2, HW.out⟩
    · go_wp2_with (fail)
      go_ret
      exact ⟨_, _, rfl, ok5 HK.out HX.out.2.2.2.2.2.2.2.1 HX.out.2.2.2.2.2.2.2.2.1 CA.out (HA.out (by rw [HK.out]; omega)).1 (HA.out (by rw [HK.out]; omega)).2 CB.out (HB.out (by rw [HK.out]; omega)).1 (HB.out (by rw [HK.out]; omega)).2, HW.out⟩
    · go_wp2_with (fail)
      go_ret
      exact ⟨_, _, rfl, ok6 HK.out HX.out.2.2.2.2.2.2.2.1 HX.out.1 HX.out.2.1 HX.out.2.2.1 CA.out (HA.out (by rw [HK.out]; omega)).1 (HA.out (by rw [HK.out]; omega)).2 E0.out, HW.out⟩
    · go_wp2_with (fail)
      go_ret
      exact ⟨_, _, rfl, ok7 HK.out HX.out.2.2.2.2.2.2.2.1 HX.out.2.2.2.2.2.2.2.2.1 CA.out (HA.out (by rw [HK.out]; omega)).1 (HA.out (by rw [HK.out]; omega)).2 CB.out (HB.out (by rw [HK.out]; omega)).1 (HB.out (by rw [HK.out]; omega)).2, HW.out⟩
    · go_wp2_with (fail)
      go_ret
      exact ⟨_, _, rfl, ok8 HK.out HX.out.2.2.2.2.2.2.2.1 HX.out.2.2.2.2.2.2.2.2.1 CA.out (HA.out (by rw [HK.out]; omega)).1 (HA.out (by rw [HK.out]; omega)).2 CB.out (HB.out (by rw [HK.out]; omega)).1 (HB.out (by rw [HK.out]; omega)).2, HW.out⟩
  clear hK HALL HK HN hmf
  go_region
  · obtain ⟨hb0, h0, h1, h2, h3⟩ := four_allocE w (Obj.cells #[.slice a0 N c0, .int .i64 h, .slice (some ⟨R, 0, none⟩) M M] 40) (Obj.cells #[.int .i64 k, .int .i64 a, .int .i64 b, .int .i64 n] 44) (Obj.cells #[Value.slice a1 n1 c1] 37) (Obj.cells #[Value.slice a2 n2 c2] 37)
    exact key (w.heap.size + 1 + 1) (w.heap.size + 1 + 1 + 1) _ hb0 h0 h1 (cell_of_row _ _ 0 _ _ _ h2) (cell_of_row _ _ 0 _ _ _ h3)
  · obtain ⟨hb0, h0, h1, h2, h3⟩ := four_allocE w (Obj.cells #[.slice a0 N c0, .int .i64 h, .slice (some ⟨R, 0, none⟩) M M] 40) (Obj.cells #[.int .i64 k, .int .i64 a, .int .i64 b, .int .i64 n] 44) (Obj.cells #[Value.slice a2 n2 c2] 37) (Obj.cells #[Value.slice a1 n1 c1] 37)
    exact key (w.heap.size + 1 + 1 + 1) (w.heap.size + 1 + 1) _ hb0 h0 h1 (cell_of_row _ _ 0 _ _ _ h3) (cell_of_row _ _ 0 _ _ _ h2)
end Go.Proofs.Ytpiacnnifdjlkaa
