/-
  What slices.Grow and Concat answer at bools, and Clone at steps.
-/
import Derived.Test.YtpiacnnifdjlkabDoorVm
import Derived.Lib.AppendZerosOnto
namespace Go.Proofs.YtpiacnnifdjlkabDoor
open Go.RowKit Go.Sort

/-- append(v, s...), both of bools, v of the call's own. -/
theorem run_append_bl (w : World) (ty base : Nat) (v : Value) (n : Nat) (xs : List Value) (hown : w.ownsRow base 4 1 v n xs) (sv : Value) (zs : List Bool) (hs : BoolSl w sv zs)
    (h63 : n + zs.length ≤ 1000000) (hbase : base ≤ w.heap.size) :
    ∃ v' w', (Builtin.append_ #[23, 23] ty #[v, sv]).run Tryd.prog w = .ok v' w' ∧ w'.ownsRow base 4 1 v' (n + zs.length) (xs ++ zs.map .bool) ∧ w.grownBy w' v.ownBlock ∧ (v'.ownBlock = v.ownBlock ∨ v'.ownBlock = some w.heap.size) := by
  obtain ⟨a, cap, rfl, hm, hc, hn⟩ := hs
  cases a with
  | none =>
    have hz : zs = [] := by
      rcases hc with h | ⟨b, off, h, _⟩
      · exact h
      · cases h
    have hc0 := hn.1 rfl
    subst hz hc0
    refine ⟨v, w, run_append_owned_none w base 23 ty 4 Tryd.t4 1 Tryd.underlying23 boolInfo v n xs hown, by simpa using hown, ⟨rfl, rfl, rfl, Nat.le_refl _, fun _ _ _ => rfl⟩, Or.inl rfl⟩
  | some a =>
    have hnews : ∀ j u, (zs.map Value.bool)[j]? = some u → w.cell? (a.add j) = some u := by
      intro j u hu
      rcases hc with h | ⟨b, off, h, hcell⟩
      · subst h; simp at hu
      · cases h
        rw [add_none]
        rw [List.getElem?_map] at hu
        cases hj : zs[j]? with
        | none => rw [hj] at hu; simp at hu
        | some z =>
          rw [hj] at hu
          have hlt : j < zs.length := (List.getElem?_eq_some_iff.1 hj).1
          rw [hcell j hlt, List.getD, hj]
          simpa using hu
    obtain ⟨v', w', hr, h2, h3, _, h5⟩ := run_append_own_at (P := Tryd.prog) w base 23 ty 4 Tryd.t4 (.bool false) 1 1 Tryd.underlying23 boolInfo (by kernel_rfl) (by kernel_rfl) (by kernel_rfl) (by kernel_rfl) (by decide) v n xs hown a zs.length cap (zs.map .bool) (by simp) hnews (by intro u hu; obtain ⟨z, _, rfl⟩ := List.mem_map.1 hu; rfl) (by unfold maxLen; omega) (by omega) hbase
    exact ⟨v', w', hr, h2, h3, h5⟩

theorem cell_keepB {w w' : World} {a : Addr} {v : Value} (h : w.cell? a = some v) (hb : Below w.heap.size w w') : w'.cell? a = some v := (hb.cell (World.block_lt_of_cell? w _ h)).trans h

set_option maxHeartbeats 1000000 in
theorem growBools_any (n : Nat) (h0 : 0 < n) (hn : n ≤ 1000000) (w : World) :
    Calls Tryd.prog 72 #[.slice none 0 0, .int .i64 n] w fun e w' => ∃ v, e = .returned v ∧ w'.ownsRow w.heap.size 4 1 v 0 [] ∧ Below w.heap.size w w' := by
  have hz : Tryd.t4.zero = some (.bool false) := by kernel_rfl
  have hb : Tryd.t4.bytes = 1 := by kernel_rfl
  have hs : Tryd.t4.size = 1 := by kernel_rfl
  have hold : (Builtin.firstCells Tryd.t4.size 0 (.slice none 0 0)).run Tryd.prog w.drew = .ok ([] : List Value).toArray w.drew := run_firstCells_none w.drew _ 0 0 0
  have hrz := fun ty => Lib.run_append_grow_zeros w 23 3 ty 4 Tryd.t4 (.bool false) .i64 .i64 Tryd.underlying23 Tryd.underlying3 boolInfo hz none 0 0 [] hold n h0 (by rw [hs]; omega) (by omega) (by omega) (by rw [hb]; omega) (by rw [hb, Nat.zero_add]; exact growslice_fits (by omega) (by omega))
  have hge := grownCap_ge w n 0 4
  have hle := grownCap_le_maxLen w n 0 4 (by unfold maxLen; omega)
  rw [Nat.zero_add] at hrz
  generalize grownCap w n 0 4 = G at *
  generalize hcs : ([] : List Value).toArray ++ Builtin.zeroCells (Value.bool false).cells n ++ Builtin.zeroCells (Value.bool false).cells (G - n) = cs at *
  have hsz : cs.size = G := by rw [← hcs]; simp [size_zeroCells, Value.cells]; omega
  have HG := hide (And.intro hsz (And.intro hge hle))
  have hG63 : G ≤ 9223372036854775807 := by unfold maxLen at hle; omega
  clear hcs hold hsz hge hle hz hb hs
  go_enter Tryd.func72, Tryd.ntmps72
  go_wp2_with (at_builtin; refine Lib.wpList_append_run _ rfl _ _ _ _ rfl _ _ rfl rfl _ _ (hrz _) ?_)
  go_ret
  refine ⟨_, rfl, ⟨rfl, .inr ⟨w.heap.size, G, cs, rfl, Nat.le_refl _, heap_alloc_new w _, Nat.zero_le _, HG.out.2.2, by rw [HG.out.1, Nat.mul_one], by simp⟩⟩, (by repeat (first | exact Below.refl _ _ | assumption | refine below_drewN ?_ _ | refine Below.drew ?_ | refine Below.alloc ?_ (by simp <;> omega) _ | refine below_trans ?_ (by assumption)))⟩

set_option maxRecDepth 100000 in
set_option maxHeartbeats 2000000 in
theorem concatB_any {w : World} {a0 a1 : Option Addr} {c0 c1 vb : Nat} {hs ls : List Bool} (hh : BoolSl w (.slice a0 hs.length c0) hs) (hl : BoolSl w (.slice a1 ls.length c1) ls) (v0 : w.cell? ⟨vb, 0, none⟩ = some (.slice a0 hs.length c0)) (v1 : w.cell? ⟨vb, 1, none⟩ = some (.slice a1 ls.length c1)) (h5 : hs.length ≤ 4000) (h6 : ls.length ≤ 4000) (h7 : 0 < ls.length) :
    Calls Tryd.prog 38 #[.slice (some ⟨vb, 0, none⟩) 2 2] w fun e w' => ∃ g lc, e = .returned (.slice (some ⟨g, 0, none⟩) (hs.length + ls.length) lc) ∧ BoolSl w' (.slice (some ⟨g, 0, none⟩) (hs.length + ls.length) lc) (hs ++ ls) ∧ w.heap.size ≤ g ∧ Below w.heap.size w w' := by
  have Hh := hide hh
  have Hl := hide hl
  clear hh hl
  generalize hN : hs.length = n0 at *
  generalize hM : ls.length = n1 at *
  have HN := hide hN
  have HM := hide hM
  clear hN hM
  go_enter Tryd.func38, Tryd.ntmps38
  go_wp2_with (fail)
  refine wp_loop_rounds 3 ?_
  rw [rounds_succ]
  go_wp2_with (fail)
  rw [rounds_succ]
  go_wp2_with (fail)
  rw [rounds_succ]
  go_wp2_with (fail)
  have HG : Hid (Calls Tryd.prog 72 #[.slice none 0 0, .int .i64 ((n0 : Int) + n1)] w fun e w' => ∃ v, e = .returned v ∧ w'.ownsRow w.heap.size 4 1 v 0 [] ∧ Below w.heap.size w w') := by
    have := growBools_any (n0 + n1) (by omega) (by omega) w
    rw [Int.natCast_add] at this
    exact hide this
  refine HG.out.mono ?_
  rintro e w1 ⟨gv, rfl, hown, hb1⟩
  have u0 := cell_keepB v0 hb1
  have u1 := cell_keepB v1 hb1
  obtain ⟨g1, w2, hr2, ho2, hg2, -⟩ := run_append_bl w1 23 w.heap.size gv 0 [] hown _ hs (Hh.out.below hb1) (by rw [HN.out]; omega) hb1.size
  have hb2 : Below w.heap.size w w2 := hb1.trans ((Below.refl _ _).grown hg2 hb1.size fun k hk => (hown.lt k hk).1)
  have x0 := cell_keepB v0 hb2
  have x1 := cell_keepB v1 hb2
  obtain ⟨g2, w3, hr3, ho3, hg3, -⟩ := run_append_bl w2 23 w.heap.size g1 _ _ ho2 _ ls (Hl.out.below hb2) (by rw [HN.out, HM.out]; omega) hb2.size
  have hb3 : Below w.heap.size w w3 := hb2.trans ((Below.refl _ _).grown hg3 hb2.size fun k hk => (ho2.lt k hk).1)
  have hz : BoolSl w3 g2 (hs ++ ls) := boolSl_of_owns (n := 0 + hs.length + ls.length) (base := w.heap.size) (by simpa using ho3)
  obtain ⟨g, lc, rfl, hbg⟩ : ∃ g lc, g2 = .slice (some ⟨g, 0, none⟩) (n0 + n1) lc ∧ w.heap.size ≤ g := by
    rcases ho3.2 with ⟨_, h0⟩ | ⟨g, cap, cur, hv, hb, _⟩
    · exfalso
      rw [HN.out, HM.out] at h0
      omega
    · rw [HN.out, HM.out, Nat.zero_add] at hv
      exact ⟨g, cap, hv, hb⟩
  have HF := hide (And.intro hz (And.intro hbg hb3))
  clear hbg
  have HR2 := hide hr2
  have HR3 := hide hr3
  clear hz hb3 hg3 ho3 hg2 ho2 hb2 hb1 hown hr2 hr3 HG
  go_wp2_with (fail)
  refine wp_loop_rounds 3 ?_
  rw [rounds_succ]
  go_wp2_with (at_builtin; refine Lib.wpList_append_run _ rfl _ _ _ _ rfl _ _ rfl rfl _ _ HR2.out ?_)
  rw [rounds_succ]
  go_wp2_with (at_builtin; refine Lib.wpList_append_run _ rfl _ _ _ _ rfl _ _ rfl rfl _ _ HR3.out ?_)
  rw [rounds_succ]
  go_wp2_with (fail)
  go_ret
  exact ⟨_, _, rfl, HF.out⟩

theorem wpList_append_run3 (w : World) {ops : Array Oper} {rest : List Oper} {o : Oper} {a : Act} {Q : Exit → Act → World → Prop} (hgd : o.guard = none) (s x : Operand)
    (ho : o.op = .call { callee := .builtin .append, args := #[s, x], argTypes := #[24, 24] }) (base : Nat) (hbase : base ≤ w.heap.size) (g : Nat) (hg : w.ownsRow base 49 3 (.slice (some ⟨g, 0, none⟩) 0 0) 0 []) (hs : a.eval s = .slice (some ⟨g, 0, none⟩) 0 0) (b off k c : Nat) (zs : List Stp) (hk : zs.length = k) (hx : a.eval x = .slice (some ⟨b, off, none⟩) k c)
    (hc : ∀ j u, (stepCells zs)[j]? = some u → w.cell? ((⟨b, off, none⟩ : Addr).add j) = some u) (hn : k ≤ 6000)
    (h : ∀ v' w', w'.ownsRow base 49 3 v' k (stepCells zs) → w.grownBy w' (some g) → wpList Tryd.prog ops Q rest (a.put o.dst v') w') : wpList Tryd.prog ops Q (o :: rest) a w := by
  subst hk
  obtain ⟨v', w', hr, h2, h3, _, h5⟩ := run_append_own_at (P := Tryd.prog) w base 24 o.type 49 Tryd.t49 (.agg #[.int .i64 0, .int .i64 0, .int .i64 0]) 3 24 Tryd.underlying24 stepInfo (by kernel_rfl) (by kernel_rfl) (by kernel_rfl) (by kernel_rfl) (by decide) _ 0 [] hg ⟨b, off, none⟩ zs.length c (stepCells zs) (stepCells_len zs) hc (by intro u hu; simp only [stepCells, List.mem_flatMap, List.mem_cons, List.not_mem_nil, or_false] at hu; obtain ⟨s, _, h | h | h⟩ := hu <;> (rw [h]; rfl)) (by unfold maxLen; omega) (by omega) hbase
  refine wpList_plain hgd fun K hK => ?_
  unfold Oper.wp execOp
  simp only [ho, resolve, invoke, builtin, Sem.run_bind, Sem.run_pure, Result.andThen_ok, List.map_toArray, List.map_cons, List.map_nil, hs, hx, hr]
  exact hK _ _ (h v' w' (by simpa using h2) h3)

set_option maxRecDepth 100000 in
set_option maxHeartbeats 400000 in
theorem cloneSteps_one {w : World} {b off c : Nat} {s : Stp} (h0 : w.cell? ⟨b, off, none⟩ = some (.int .i64 s.f)) (h1 : w.cell? ⟨b, off + 1, none⟩ = some (.int .i64 s.l)) (h2 : w.cell? ⟨b, off + 2, none⟩ = some (.int .i64 s.t)) :
    Calls Tryd.prog 39 #[.slice (some ⟨b, off, none⟩) 1 c] w fun e w' => ∃ v', e = .returned v' ∧ w'.ownsRow w.heap.size 49 3 v' 1 (stepCells [s]) ∧ Below w.heap.size w w' := by
  have q24 : ∀ (w : World) (a : Option Addr) (n c n' c' : Nat), (binOp .eql 24 (.slice a n c) (.slice none n' c')).run Tryd.prog w = .ok (.bool a.isNone) w := fun w a n c n' c' => Lib.run_eql_slice_nil w _ _ a n c n' c' Tryd.underlying24
  have hb1 := below_new w (Obj.cells #[] 49 (0, 0))
  have HO := hide (show (w.alloc (Obj.cells #[] 49 (0, 0))).ownsRow w.heap.size 49 3 (.slice (some ⟨w.heap.size, 0, none⟩) 0 0) 0 [] from ⟨rfl, .inr ⟨w.heap.size, 0, #[], rfl, Nat.le_refl _, one_new w _, Nat.le_refl _, by simp [maxLen], rfl, rfl⟩⟩)
  have Hc := hide (show ∀ j u, (stepCells [s])[j]? = some u → (w.alloc (Obj.cells #[] 49 (0, 0))).cell? ((⟨b, off, none⟩ : Addr).add j) = some u from fun j u hu => by
    rw [add_none]
    match j, hu with
    | 0, hu => rw [Nat.add_zero, cell_keepB h0 hb1]; simpa [stepCells] using hu
    | 1, hu => rw [cell_keepB h1 hb1]; simpa [stepCells] using hu
    | 2, hu => rw [cell_keepB h2 hb1]; simpa [stepCells] using hu
    | j + 3, hu => simp [stepCells] at hu)
  have HB := hide hb1
  have hsz : w.heap.size ≤ (w.alloc (Obj.cells #[] 49 (0, 0))).heap.size := by simp
  clear h0 h1 h2 hb1
  go_enter Tryd.func39, Tryd.ntmps39
  go_wp2_with (at_builtin; refine wpList_append_run3 _ rfl (.tmp 5) (.tmp 6) rfl w.heap.size hsz w.heap.size HO.out rfl b off 1 c [s] rfl rfl Hc.out (by omega) ?_; intro v8 w8 hown8 hgrow8; have Hown8 := hide hown8; have Hgrow8 := hide hgrow8; clear hown8 hgrow8)
  go_ret
  exact ⟨_, rfl, Hown8.out, HB.out.trans ((Below.refl w.heap.size _).grown Hgrow8.out hsz (fun k hk => by injection hk with hk; omega))⟩

end Go.Proofs.YtpiacnnifdjlkabDoor
