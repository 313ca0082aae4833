/-
  Package include: a map of pairs of sets; remarks.
-/
import Derived.Test.YtpiacnnifdjlkabDoorVb
import Derived.Test.YtpiacnnifdjlkabDoorCx
import Derived.Shelf.Slices.Reverse
import Derived.Lib.SliceRun
import Derived.Sort.OwnSortedInts
import Derived.Ground.NamesProg
/-
  What slices.Contains, Clone and Reverse answer at ints; find.back: the letters of a way, from where it ends to where it began.
-/
namespace Go.Proofs
open Go.Shelf

def YtpiacnnifdjlkabDoor.laysReverse_ren : Go.Shelf.Ren := ⟨fun | 112 => 94 | n => n, fun | 28 => 22 | 3 => 3 | 4 => 4 | 0 => 0 | n => n, fun | n => n⟩
theorem YtpiacnnifdjlkabDoor.laysReverse : Go.Proofs.Lays.n112 Tryd.prog YtpiacnnifdjlkabDoor.laysReverse_ren := {
  mixed := by kernel_rfl
  f112 := Tryd.func94.trans (congrArg some (by kernel_rfl))
  t0 := Tryd.underlying0
  a0 := Tryd.isAgg0
  z0 := Tryd.sizeOf0
  v0 := Tryd.zeroValue0
  t3 := Tryd.underlying3
  a3 := Tryd.isAgg3
  z3 := Tryd.sizeOf3
  v3 := Tryd.zeroValue3
  t4 := Tryd.underlying4
  a4 := Tryd.isAgg4
  z4 := Tryd.sizeOf4
  v4 := Tryd.zeroValue4
  t28 := Tryd.underlying22
  a28 := Tryd.isAgg22
  z28 := Tryd.sizeOf22
  v28 := Tryd.zeroValue22 }
end Go.Proofs
namespace Go.Proofs.YtpiacnnifdjlkabDoor
open Go.RowKit Go.Sort Go.Shelf

theorem reverse_any {w : World} {base g cap : Nat} {us : List Int} (hown : w.ownsRow base 3 1 (.slice (some ⟨g, 0, none⟩) us.length cap) us.length (us.map (.int .i64))) :
    Calls Tryd.prog 94 #[.slice (some ⟨g, 0, none⟩) us.length cap] w fun e w' => e = .returned (.tuple #[]) ∧ w'.ownsRow base 3 1 (.slice (some ⟨g, 0, none⟩) us.length cap) us.length (us.reverse.map (.int .i64)) ∧ w.grownBy w' (some g) := by
  rcases hown.2 with ⟨e, _⟩ | ⟨g', cap', cur, e, hb, hg, hnc, hcm, hcs, htake⟩
  · cases e
  · cases e
    have hH : Holds (Value.int .i64) w g 0 us.toArray := by
      intro j hj
      have hj' : j < us.length := by simpa using hj
      refine ⟨?_, by simp [World.frozen?, hg]⟩
      have := hown.cells (g := g) rfl j (.int .i64 us[j]) (by simp [hj'])
      rw [add_none] at this
      rw [this]
      simp [hj']
    refine (Any.slices_Reverse_int laysReverse g 0 cap us w hH (by unfold maxLen at hcm; omega)).mono ?_
    rintro e w' ⟨rfl, n, rfl⟩
    have e1 : Go.Sort.putRow (Value.int .i64) (Sort.ahead w n) g 0 us.reverse.toArray = grow (Go.Sort.putRow (Value.int .i64) (Sort.ahead w n) g 0 us.reverse.toArray) #[] := (grow_empty _).symm
    rw [e1]
    exact ⟨rfl, ownsRow_sortedI (by simp) hb hg hnc hcm hcs, grownBy_sortedI _⟩

set_option maxRecDepth 100000 in
set_option maxHeartbeats 400000 in
theorem index_go (b off cap : Nat) (zs : List Int) (x : Int) (w : World) (hm : zs.length ≤ maxLen) (hx : ∀ i, i < zs.length → w.cell? ⟨b, off + i, none⟩ = some (.int .i64 (zs.getD i 0))) :
    Calls Tryd.prog 113 #[.slice (some ⟨b, off, none⟩) zs.length cap, .int .i64 x] w fun e w' => ∃ r : Int, e = .returned (.int .i64 r) ∧ (0 ≤ r ↔ x ∈ zs) ∧ w' = w := by
  unfold maxLen at hm
  have Hx := hide hx
  clear hx
  go_enter Tryd.func113, Tryd.ntmps113
  go_wp2
  go_loopw [8] (fun i wr => ∃ k : Nat, k ≤ zs.length ∧ i = .int .i64 k ∧ Hid (∀ j, j < k → zs.getD j 0 ≠ x) ∧ Hid (wr = w)) (fun i _ => zs.length - (intOf i).toNat)
  case atStart => exact ⟨0, Nat.zero_le _, rfl, hide fun j hj => by omega, hide rfl⟩
  case round =>
    obtain ⟨k, hk, rfl, Hk, Hw⟩ := hrel
    by_cases hlt : k < zs.length
    · have hc := Hx.out k hlt
      rw [← Hw.out] at hc
      have hmem : zs.getD k 0 ∈ zs := by simp [List.getD, hlt]
      generalize hz : zs.getD k 0 = z at hc hmem
      have Hz := hide (And.intro hz hmem)
      clear hz hmem
      by_cases he : x = z
      · have hb : (x == z) = true := by simp [he]
        have He := hide he
        clear he
        go_wp2
        go_ret
        exact ⟨(k : Int), rfl, ⟨fun _ => by rw [He.out]; exact Hz.out.2, fun _ => by omega⟩, Hw.out⟩
      · have hb : (x == z) = false := by simp [he]
        have He := hide he
        clear he
        go_wp2
        go_roundw
        case rel => exact ⟨k + 1, by omega, by go_num, hide fun j hj => by
          by_cases e : j = k
          · rw [e, Hz.out.1]; exact fun h => He.out h.symm
          · exact Hk.out j (by omega), Hw⟩
        case measure => simp [intOf]; omega
    · go_wp2
      go_ret
      refine ⟨-1, rfl, ⟨fun h => by omega, fun h => ?_⟩, Hw.out⟩
      obtain ⟨j, hj, hjx⟩ := List.mem_iff_getElem.1 h
      exact absurd (show zs.getD j 0 = x by simp [List.getD, hj, hjx]) (Hk.out j (by omega))

set_option maxRecDepth 100000 in
set_option maxHeartbeats 400000 in
theorem index_zero (a : Option Addr) (cap : Nat) (x : Int) (w : World) :
    Calls Tryd.prog 113 #[.slice a 0 cap, .int .i64 x] w fun e w' => e = .returned (.int .i64 (-1)) ∧ w' = w := by
  go_enter Tryd.func113, Tryd.ntmps113
  go_wp2
  refine wp_loop_rounds 1 ?_; rw [rounds_succ]
  go_wp2
  go_ret
  exact ⟨rfl, rfl⟩

set_option maxHeartbeats 400000 in
theorem contains_any {v : Value} {zs : List Int} {w : World} (x : Int) (hv : IntSl w v zs) :
    Calls Tryd.prog 100 #[v, .int .i64 x] w fun e w' => e = .returned (.bool (decide (x ∈ zs))) ∧ w' = w := by
  have H : Calls Tryd.prog 113 #[v, .int .i64 x] w fun e w' => ∃ r : Int, e = .returned (.int .i64 r) ∧ (0 ≤ r ↔ x ∈ zs) ∧ w' = w := by
    obtain ⟨a, cap, rfl, hm, h, hn, hn2⟩ := hv
    rcases h with rfl | ⟨b, off, rfl, hc⟩
    · refine (index_zero a cap x w).mono ?_
      rintro e w' ⟨rfl, rfl⟩
      exact ⟨-1, rfl, by simp, rfl⟩
    · exact index_go b off cap zs x w hm hc
  have HH := hide H
  clear H hv
  go_enter Tryd.func100, Tryd.ntmps100
  go_wp2_with (fail)
  refine Calls.mono HH.out ?_
  rintro e w1 ⟨r, rfl, hr, rfl⟩
  have Hr := hide hr
  clear hr
  go_wp2
  go_ret
  exact ⟨by rw [show decide (0 ≤ r) = decide (x ∈ zs) from decide_eq_decide.2 Hr.out]; rfl, rfl⟩

theorem wpList_append_slice (w : World) {ops : Array Oper} {rest : List Oper} {o : Oper} {a : Act} {Q : Exit → Act → World → Prop} (hgd : o.guard = none) (s x : Operand)
    (ho : o.op = .call { callee := .builtin .append, args := #[s, x], argTypes := #[22, 22] }) (base n : Nat) (v : Value) (xs : List Value) (hs : a.eval s = v)
    (hown : w.ownsRow base 3 1 v n xs) (sv : Value) (zs : List Int) (hx : a.eval x = sv) (hz : IntSl w sv zs) (hn : n + zs.length ≤ 1000000) (hbase : base ≤ w.heap.size)
    (h : ∀ v' w', w'.ownsRow base 3 1 v' (n + zs.length) (xs ++ zs.map (.int .i64)) → w.grownBy w' v.ownBlock → wpList Tryd.prog ops Q rest (a.put o.dst v') w') : wpList Tryd.prog ops Q (o :: rest) a w := by
  obtain ⟨v', w', hr, h2, h3, h4⟩ := run_append_sl w o.type base v n xs hown _ zs hz hn hbase
  refine wpList_plain hgd fun K hK => ?_
  unfold Oper.wp execOp
  simp only [ho, resolve, invoke, builtin, Sem.run_bind, Sem.run_pure, Result.andThen_ok, List.map_toArray, List.map_cons, List.map_nil, hs, hx, hr]
  exact hK _ _ (h v' w' h2 h3)

set_option maxRecDepth 100000 in
set_option maxHeartbeats 400000 in
theorem clone_any {v : Value} {zs : List Int} {w : World} (hv : IntSl w v zs) (hl : zs.length ≤ 900000) :
    Calls Tryd.prog 37 #[v] w fun e w' => ∃ v', e = .returned v' ∧ w'.ownsRow w.heap.size 3 1 v' zs.length (zs.map (.int .i64)) ∧ Below w.heap.size w w' := by
  have q22 : ∀ (w : World) (a : Option Addr) (n c n' c' : Nat), (binOp .eql 22 (.slice a n c) (.slice none n' c')).run Tryd.prog w = .ok (.bool a.isNone) w := fun w a n c n' c' => Lib.run_eql_slice_nil w _ _ a n c n' c' Tryd.underlying22
  have HV := hide hv
  obtain ⟨a, cap, rfl, hm, hz, hn, hn2⟩ := hv
  cases a with
  | none =>
    have h0 : zs = [] := by
      rcases hz with h | ⟨b, off, h, _⟩
      · exact h
      · cases h
    have hc0 := hn rfl
    subst h0 hc0
    clear hz hn hn2 hm hl
    go_enter Tryd.func37, Tryd.ntmps37
    go_wp2
    go_ret
    exact ⟨_, rfl, World.ownsRow_nil _ _ _ _, Below.refl _ _⟩
  | some a =>
    have hb1 := below_new w (Obj.cells #[] 3 (0, 0))
    have HO := hide (owns_empty (base := w.heap.size) (one_new w (Obj.cells #[] 3 (0, 0))) (Nat.le_refl _))
    have HS := hide (HV.out.below hb1)
    have HB := hide hb1
    have hsz : w.heap.size ≤ (w.alloc (Obj.cells #[] 3 (0, 0))).heap.size := by simp
    clear hz hn hn2 hm hb1
    go_enter Tryd.func37, Tryd.ntmps37
    go_wp2_with (at_builtin; refine wpList_append_slice _ rfl (.tmp 5) (.tmp 6) rfl w.heap.size 0 _ [] rfl HO.out _ zs rfl HS.out (by omega) hsz ?_; intro v8 w8 hown8 hgrow8; have Hown8 := hide hown8; have Hgrow8 := hide hgrow8; clear hown8 hgrow8)
    go_ret
    have hbb : Below w.heap.size w w8 := HB.out.trans ((Below.refl w.heap.size _).grown Hgrow8.out hsz (fun k hk => by have := (HO.out.lt k hk).1; omega))
    exact ⟨_, rfl, by have := Hown8.out; simpa using this, hbb⟩

theorem IntSl.of_block {W W' : World} {v : Value} {zs : List Int} (h : IntSl W v zs) (hb : ∀ b off k c, v = .slice (some ⟨b, off, none⟩) k c → zs ≠ [] → W'.heap[b]? = W.heap[b]?) : IntSl W' v zs := by
  obtain ⟨a, cap, rfl, hm, hz, hn⟩ := h
  refine ⟨a, cap, rfl, hm, ?_, hn⟩
  by_cases h0 : zs = []
  · exact Or.inl h0
  · rcases hz with h | ⟨b, off, rfl, hc⟩
    · exact absurd h h0
    · exact Or.inr ⟨b, off, rfl, fun i hi => (World.cell?_of_block (a := ⟨b, off + i, none⟩) (hb b off _ _ rfl h0)).trans (hc i hi)⟩

/-- How long a slice is. -/
def lenV : Value → Nat
  | .slice _ n _ => n
  | _ => 0

/-- The steps by which states were come to, in memory. -/
structure BY (W : World) (g N : Nat) (by_ : Nat → Stp) : Prop where
  cell : ∀ i, i < N → W.cell? ⟨g, i * 3, none⟩ = some (.int .i64 (by_ i).f) ∧ W.cell? ⟨g, i * 3 + 1, none⟩ = some (.int .i64 (by_ i).l) ∧ W.cell? ⟨g, i * 3 + 2, none⟩ = some (.int .i64 (by_ i).t)
  soft : ∀ o, W.frozen? ⟨g, o, none⟩ = false
  lt : g < W.heap.size

theorem BY.of_block {W W' : World} {g N : Nat} {by_ : Nat → Stp} (h : BY W g N by_) (hb : W'.heap[g]? = W.heap[g]?) : BY W' g N by_ :=
  ⟨fun i hi => ⟨(World.cell?_of_block (a := ⟨g, i * 3, none⟩) hb).trans (h.cell i hi).1, (World.cell?_of_block (a := ⟨g, i * 3 + 1, none⟩) hb).trans (h.cell i hi).2.1, (World.cell?_of_block (a := ⟨g, i * 3 + 2, none⟩) hb).trans (h.cell i hi).2.2⟩, fun o => (World.frozen?_of_block (a := ⟨g, o, none⟩) hb).trans (h.soft o), by
    have := h.lt
    have h2 : W.heap[g]? = some W.heap[g] := by simp [this]
    rw [h2] at hb
    exact (Array.getElem?_eq_some_iff.1 hb).1⟩

theorem BY.old {W W' : World} {g N : Nat} {by_ : Nat → Stp} (h : BY W g N by_) (hb : Below W.heap.size W W') : BY W' g N by_ := h.of_block (hb.block g h.lt)

theorem owns_one {w : World} {base g : Nat} {z : Int} (h : w.heap[g]? = some (.cells #[.int .i64 z] 3 (0, 0))) (hb : base ≤ g) : w.ownsRow base 3 1 (.slice (some ⟨g, 0, none⟩) 1 1) 1 [.int .i64 z] :=
  ⟨rfl, .inr ⟨g, 1, #[.int .i64 z], rfl, hb, h, Nat.le_refl _, by simp [maxLen], rfl, rfl⟩⟩

set_option maxRecDepth 100000 in
set_option maxHeartbeats 2000000 in
theorem backWay_any {w : World} {g N end_ : Nat} {fv : Value} {A : Aut} {from_ : List Int} {ord : List Nat} {by_ : Nat → Stp} (hby : BY w g N by_) (hf : IntSl w fv from_) (hA : ∀ s ∈ A.steps, 0 ≤ s.f) (hok : ByOk A from_ ord by_) (hr : ∀ q ∈ ord, q < N) (hN : N ≤ 900000) (hol : ord.length ≤ N) (he : end_ ∈ ord) :
    Calls Tryd.prog 87 #[.slice (some ⟨g, 0, none⟩) N N, fv, .int .i64 (end_ : Nat)] w fun e w' => ∃ v us, e = .returned v ∧ IntSl w' v us ∧ (∀ b off k c, v = .slice (some ⟨b, off, none⟩) k c → w.heap.size ≤ b) ∧ us ≠ [] ∧ us.length ≤ ord.length ∧ (∃ x ∈ from_, wayL A us x.toNat end_) ∧ Below w.heap.size w w' := by
  have HF := hide hf
  have hen := hr _ he
  have HB0 := hide (back_begin hA hok he)
  have HOn := hide (fun us q (hb : BackAt A from_ ord end_ us q) (hq : q ∉ from_) => back_on hA hok hb hq)
  have HDone := hide (fun us q (hb : BackAt A from_ ord end_ us q) (hq : q ∈ from_) => back_done hb hq)
  have HR := hide hr
  have HBY := hide hby
  obtain ⟨d0, d1, d2⟩ := hby.cell end_ hen
  obtain ⟨fa, fc, rfl, -⟩ := hf
  clear hok he hr hA
  have hb1 := below_new w (Obj.cells #[Value.int .i64 (by_ end_).l] 3 (0, 0))
  have HO := hide (owns_one (base := w.heap.size) (one_new w (Obj.cells #[Value.int .i64 (by_ end_).l] 3 (0, 0))) (Nat.le_refl _))
  have Hb1 := hide hb1
  have HB := HB0.out
  have hgl0 : g < w.heap.size := hby.lt
  clear hb1 hby
  generalize by_ end_ = s at *
  go_enter Tryd.func87, Tryd.ntmps87
  go_wp2_with (fail)
  clear d0 d1 d2
  go_loopw [7, 8] (fun s7 s8 wr => ∃ (us : List Int) (q : Int), s8 = .int .i64 q ∧ Hid (wr.ownsRow w.heap.size 3 1 s7 us.length (us.map (.int .i64))) ∧ Hid (BackAt A from_ ord end_ us q) ∧ Hid (Below w.heap.size w wr)) (fun s7 _ _ => ord.length - lenV s7)
  case atStart => exact ⟨[s.l], s.f, rfl, HO, hide HB, Hb1⟩
  case round =>
    obtain ⟨us, q, rfl, HOw, HBk, Hbw⟩ := hrel
    obtain ⟨qn, rfl⟩ := Int.eq_ofNat_of_zero_le HBk.out.2.2.1
    obtain ⟨ad, cp, rfl⟩ := owns_form HOw.out
    go_wp2_with (fail)
    refine (contains_any (qn : Int) (HF.out.below Hbw.out)).mono ?_
    rintro e w1 ⟨rfl, hw1⟩
    subst hw1
    by_cases hq : (qn : Int) ∈ from_
    · have hd : decide ((qn : Int) ∈ from_) = true := decide_eq_true hq
      have HD := hide (HDone.out us _ HBk.out hq)
      have hul := HBk.out.2.1
      have hu1 : 0 < us.length := List.length_pos_iff.2 HBk.out.1
      clear hq
      rw [hd]
      obtain ⟨g9, hg9⟩ : ∃ g9, ad = some ⟨g9, 0, none⟩ := by
        rcases HOw.out.2 with ⟨e, h0⟩ | ⟨g', cap', cur, e, hb, _⟩
        · omega
        · cases e; exact ⟨g', rfl⟩
      subst hg9
      have HRv := hide (reverse_any HOw.out)
      go_wp2_with (fail)
      refine HRv.out.mono ?_
      rintro e w2 ⟨rfl, hown2, hgr2⟩
      have Hown2 := hide hown2
      have Hgr2 := hide hgr2
      clear hown2 hgr2
      go_wp2
      go_ret
      refine ⟨_, us.reverse, rfl, ?_, ?_, HD.out.1, HD.out.2.1, HD.out.2.2, ?_⟩
      · exact intSl_of_owns Hown2.out
      · intro b off k c e
        injection e with e1 _ _
        injection e1 with e2
        injection e2 with e3 _ _
        rw [← e3]
        exact (HOw.out.lt g9 rfl).1
      · exact Hbw.out.trans ((Below.refl w.heap.size _).grown Hgr2.out Hbw.out.size (fun k hk => (HOw.out.lt k hk).1))
    · have hd : decide ((qn : Int) ∈ from_) = false := decide_eq_false hq
      obtain ⟨hm, hlt, hnx⟩ := HOn.out us _ HBk.out hq
      rw [Int.toNat_natCast] at hm hnx
      have hqN := HR.out _ hm
      have hgw : g < w.heap.size := HBY.out.lt
      obtain ⟨d0, d1, d2⟩ := (HBY.out.of_block (Hbw.out.block g hgw)).cell qn hqN
      have HNx := hide hnx
      have hsz := Hbw.out.size
      generalize by_ qn = s2 at *
      have hb2 := below_new w1 (Obj.cells #[Value.int .i64 s2.l] 3 (0, 0))
      have HownW := hide (owns_kept HOw.out (fun r hr => hb2.block r (HOw.out.lt r hr).2))
      have hn2 := one_new w1 (Obj.cells #[Value.int .i64 s2.l] 3 (0, 0))
      have Hc0 := hide (cell_of_row _ _ 0 _ _ _ hn2)
      have HszW := hide (show w.heap.size ≤ (w1.alloc (Obj.cells #[Value.int .i64 s2.l] 3 (0, 0))).heap.size by simp; omega)
      have Hb2 := hide (Hbw.out.trans (hb2.mono hsz))
      have hul : us.length ≤ 900000 := by omega
      have Hd0 := hide ((hb2.cell (p := ⟨g, qn * 3, none⟩) (by show g < w1.heap.size; omega)).trans d0)
      clear hq hm hnx hb2 hn2
      rw [hd]
      go_wp2_with (at_builtin; refine wpList_append_int _ rfl (.tmp 29) (.tmp 35) rfl w.heap.size us.length _ (us.map (.int .i64)) rfl HownW.out w1.heap.size 1 s2.l rfl (by decide) Hc0.out hul HszW.out ?_; intro g8 cap8 w8 hown8 hgrow8 hor8 hbase8; have z0 : w8.cell? ⟨g, qn * 3, none⟩ = some (.int .i64 s2.f) := (hgrow8.cell Hd0.out (fun e => by have := (HownW.out.lt g e.symm).1; omega)); have Hown8 := hide hown8; have Hbl8 := hide (Hb2.out.trans ((Below.refl w.heap.size _).grown hgrow8 HszW.out (fun k hk => (HownW.out.lt k hk).1))); clear hown8 hgrow8 hor8 hbase8)
      go_roundw
      case rel => exact ⟨us ++ [s2.l], s2.f, rfl, hide (by simpa using Hown8.out), HNx, Hbl8⟩
      case measure => simp [lenV]; omega

end Go.Proofs.YtpiacnnifdjlkabDoor

/-
  Package include: an entry's word.
-/
namespace Go.Proofs.YtpiacnnifdjlkabDoor
open Go.RowKit Go.Sort Go.Shelf

theorem own_entryCells {W : World} {base g n cap : Nat} {E : List En} (h : W.ownsRow base 144 20 (.slice (some ⟨g, 0, none⟩) n cap) n (E.flatMap enE)) (hok : ∀ x ∈ E, bOk x.1) {c : Nat} (hc : c < E.length) : W.cell? ⟨g, c * 20 + 18, none⟩ = some (.int .i64 (enA bxNone E c : Nat)) ∧ W.cell? ⟨g, c * 20 + 19, none⟩ = some (.int .i64 (enL bxNone E c : Nat)) := by
  have hr := own_range h (c * 20) 20
  have hk := hok _ (List.getElem_mem hc)
  rw [flat_part E c hc (fun x hx => enE_len (hok x hx))] at hr
  have hA : enA bxNone E c = E[c].2.1 := by simp [enA, List.getD, hc]
  have hL : enL bxNone E c = E[c].2.2 := by simp [enL, List.getD, hc]
  rw [hA, hL]
  refine ⟨hr 18 _ ?_, hr 19 _ ?_⟩
  · unfold enE
    rw [List.getElem?_append_right (by rw [bxE_len hk]; omega), bxE_len hk]
    rfl
  · unfold enE
    rw [List.getElem?_append_right (by rw [bxE_len hk]; omega), bxE_len hk]
    rfl

theorem reverse_nil {w : World} : Calls Tryd.prog 94 #[.slice none 0 0] w fun e w' => e = .returned (.tuple #[]) ∧ w' = w := by
  exact Any.slices_Reverse_int_empty laysReverse none 0 w

set_option maxRecDepth 100000 in
set_option maxHeartbeats 1000000 in
theorem spell_any {w : World} {base k m : Nat} {mv : Value} {E : List En} {b0 : Bx} {nx : Bx → Nat → Bx} (hown : w.ownsRow base 144 20 mv E.length (E.flatMap enE)) (hok : ∀ x ∈ E, bOk x.1) (hB : Bfs b0 nx m E.length (enB bxNone E) (enA bxNone E) (enL bxNone E)) (hk : k < E.length) (hfew : E.length ≤ 387420489) :
    Calls Tryd.prog 71 #[mv, .int .i64 (k : Nat)] w fun e w' => ∃ v, e = .returned v ∧ w'.ownsRow w.heap.size 3 1 v (spB (enA bxNone E) (enL bxNone E) E.length k).length ((toZ (spB (enA bxNone E) (enL bxNone E) E.length k)).map (.int .i64)) ∧ Below w.heap.size w w' := by
  obtain ⟨gE, cp, rfl⟩ := owns_some hown (by omega)
  have HO := hide hown
  have HK := hide hok
  have HB := hide hB
  clear hown hok hB
  go_enter Tryd.func71, Tryd.ntmps71
  go_wp2_with (fail)
  go_loopw [1, 5] (fun nv wv wr => ∃ (j : Nat) (us : List Nat), nv = .int .i64 j ∧ Hid (j < E.length ∧ spB (enA bxNone E) (enL bxNone E) E.length k = spB (enA bxNone E) (enL bxNone E) E.length j ++ us.reverse ∧ us.length + j ≤ k ∧ wr.ownsRow w.heap.size 3 1 wv us.length ((toZ us).map (.int .i64)) ∧ Below w.heap.size w wr)) (fun nv _ _ => (intOf nv).toNat)
  case atStart => exact ⟨k, [], rfl, hide ⟨hk, by simp, by simp, ⟨rfl, .inl ⟨rfl, rfl⟩⟩, Below.refl _ _⟩⟩
  case round =>
    obtain ⟨j, us, rfl, hS⟩ := hrel
    obtain ⟨hj, hsp, hlen, hown, hbl⟩ := hS.out
    obtain ⟨wa, wc, rfl⟩ := owns_form hown
    by_cases hj0 : 0 < j
    · obtain ⟨d1, d2⟩ := own_entryCells (owns_below HO.out hbl) HK.out hj
      have hst := HB.out.step j hj0 hj
      have hsb := spB_step HB.out hj0 hj
      generalize hA : enA bxNone E j = ah at *
      generalize hL : enL bxNone E j = le at *
      have Hst : Hid (ah < j ∧ spB (enA bxNone E) (enL bxNone E) E.length k = spB (enA bxNone E) (enL bxNone E) E.length ah ++ (us ++ [le]).reverse) := hide ⟨hst.1, by rw [hsp, hsb]; simp⟩
      have hW1 := below_new wr (Obj.cells #[Value.int .i64 (le : Nat)] 3)
      have HN1 := hide (one_new wr (Obj.cells #[Value.int .i64 (le : Nat)] 3))
      have Hown1 := hide (owns_below hown hW1)
      have Hbl1 := hide (below_trans hbl hW1)
      have hsz : w.heap.size ≤ (wr.alloc (Obj.cells #[Value.int .i64 (le : Nat)] 3)).heap.size := by have := hbl.size; simp; omega
      have hl' : us.length ≤ 1000000000 := by omega
      have Hlen := hide hlen
      have HAe := hide hA
      clear hst hsb hA hL hown hsp hW1 hbl hlen hS
      go_wp2_with (first | (show wpList _ _ _ (⟨some 20, _, _, _, _, _⟩ :: _) _ _; refine wpList_append_big _ rfl (.tmp 13) (.tmp 19) 22 3 1 8 rfl elInt w.heap.size _ _ _ rfl Hown1.out wr.heap.size 1 [.int .i64 (le : Nat)] rfl rfl (fun j u hu => (cell_of_row _ wr.heap.size j _ _ _ HN1.out).trans (by simpa using hu)) (by intro u hu; simp at hu; subst hu; rfl) hl' hsz ?_; intro g8 cap8 w8 hown8 hgrow8 hor8 hbase8; have Hown8 := hide hown8; have Hbl8 := hide (Below.grown Hbl1.out hgrow8 hsz (fun k hk => (Hown1.out.lt k hk).1)); have d3 := (own_entryCells (owns_below HO.out Hbl8.out) HK.out hj).1; rw [HAe.out] at d3; clear hown8 hgrow8 hor8 hbase8))
      go_roundw
      case rel => exact ⟨ah, us ++ [le], rfl, hide ⟨by have := Hst.out.1; omega, Hst.out.2, by have := Hst.out.1; have := Hlen.out; simp; omega, by simpa [toZ] using Hown8.out, Hbl8.out⟩⟩
      case measure => have := Hst.out.1; simp [intOf]; omega
    · have hj0 : j = 0 := by omega
      subst hj0
      rw [spB_zero, List.nil_append] at hsp
      have HSP := hide hsp
      by_cases hu : us = []
      · subst hu
        rcases hown.2 with ⟨e, _⟩ | ⟨g, cap, cur, e, h1, h2, h3⟩
        · injection e with e1 e2 e3
          subst e1
          subst e3
          have HB2 := hide hbl
          clear hown hsp hbl hS hlen
          go_wp2_with (fail)
          refine reverse_nil.mono ?_
          rintro e w2 ⟨rfl, rfl⟩
          go_wp2_with (fail)
          go_ret
          exact ⟨_, rfl, by rw [HSP.out]; exact ⟨rfl, .inl ⟨rfl, rfl⟩⟩, HB2.out⟩
        · injection e with e1 e2 e3
          subst e1
          subst e3
          have HB2 := hide hbl
          have HR := hide (reverse_any (us := []) hown)
          have HO2 := hide hown
          clear hown hsp hbl hS hlen
          go_wp2_with (fail)
          go_fit HR.out
          rintro e w2 ⟨rfl, ho2, hg2⟩
          have HO3 := hide ho2
          have HB3 := hide (Below.grown HB2.out hg2 HB2.out.size (fun k hk => (HO2.out.lt k hk).1))
          clear ho2 hg2
          go_wp2_with (fail)
          go_ret
          exact ⟨_, rfl, by rw [HSP.out]; exact HO3.out, HB3.out⟩
      · obtain ⟨g, cap, e⟩ := owns_some hown (List.length_pos_iff.2 hu)
        injection e with e1 e2 e3
        subst e1
        subst e3
        have hL : us.length = (toZ us).length := (toZ_length us).symm
        have HB2 := hide hbl
        have HR : Hid _ := hide (reverse_any (us := toZ us) (w := wr) (base := w.heap.size) (g := g) (cap := wc) (by rw [toZ_length]; exact hown))
        have HO2 := hide hown
        rw [toZ_length] at HR
        clear hown hsp hbl hS hlen hL
        go_wp2_with (fail)
        go_fit HR.out
        rintro e w2 ⟨rfl, ho2, hg2⟩
        have HO3 := hide ho2
        have HB3 := hide (Below.grown HB2.out hg2 HB2.out.size (fun k hk => (HO2.out.lt k hk).1))
        clear ho2 hg2
        go_wp2_with (fail)
        go_ret
        exact ⟨_, rfl, by rw [HSP.out, List.length_reverse, show toZ us.reverse = (toZ us).reverse by simp [toZ]]; exact HO3.out, HB3.out⟩

end Go.Proofs.YtpiacnnifdjlkabDoor

namespace Go.Proofs.YtpiacnnifdjlkabDoor
open Go.RowKit Go.Sort Go.MapKept

/-- A pair of sets. -/
abbrev pV (s : Nat × Nat) : Value := .agg #[.int .u8 (s.1 : Nat), .int .u8 (s.2 : Nat)]

theorem pStruct : Tryd.prog.underlying 114 = some (.struct (Tryd.prog.fieldsOf 114)) := by kernel_rfl

theorem pEq (x y : Nat × Nat) (w : World) : (Op.equal 114 (pV x) (pV y)).run Tryd.prog w = .ok (decide (x = y)) w := by
  have hp : Tryd.prog.stoodInHeld 114 = false := by kernel_rfl
  obtain ⟨x1, x2⟩ := x
  obtain ⟨y1, y2⟩ := y
  unfold Op.equal Op.maxDepth
  rw [show (10000 : Nat) = 9999 + 1 from rfl, run_equalIn_struct w 9999 114 _ _ pStruct hp]
  simp only [Program.fieldsOf, Tryd.underlying114]
  go_simp
  by_cases h1 : x1 = y1 <;> by_cases h2 : x2 = y2 <;> simp [h1, h2] <;> omega

theorem pKey (x : Nat × Nat) (e : Bool) (w : World) : (Instr.checkKey e 10000 114 (pV x)).run Tryd.prog w = .ok () w := by
  obtain ⟨x1, x2⟩ := x
  rw [show (10000 : Nat) = 9998 + 1 + 1 from rfl]
  generalize 9998 = d
  unfold Instr.checkKey
  simp only [Sem.run_bind, run_underlying Tryd.underlying114, Result.andThen_ok]
  rw [← Array.forIn_toList]
  simp [Instr.checkKey, go_sem]

theorem pFind (x : Nat × Nat) (w : World) : ∀ (l : List MapEntry) (ms : List (Nat × Nat)) (i : Nat), l.length = ms.length → (∀ (j : Nat) (y : Nat × Nat), ms[j]? = some y → ∃ e, l[j]? = some e ∧ e.key = pV y) →
    ∃ r, (Instr.findAsking 114 (pV x) l i).run Tryd.prog w = .ok r w ∧ (x ∈ ms → ∃ k v, r = some (k, v)) ∧ (x ∉ ms → r = none)
  | [], [], i, _, _ => ⟨none, by simp [Instr.findAsking], fun h => by simp at h, fun _ => rfl⟩
  | [], _ :: _, _, h, _ => by simp at h
  | _ :: _, [], _, h, _ => by simp at h
  | e :: l, y :: ms, i, hl, h => by
    obtain ⟨e', he, hk⟩ := h 0 y rfl
    obtain rfl : e = e' := by simpa using he
    obtain ⟨r, ih, i1, i2⟩ := pFind x w l ms (i + 1) (by simpa using hl) (fun j z hz => h (j + 1) z hz)
    unfold Instr.findAsking
    simp only [Sem.run_bind, hk, pEq, Result.andThen_ok]
    by_cases hxy : x = y
    · rw [decide_eq_true hxy, if_pos rfl]
      exact ⟨_, rfl, fun _ => ⟨_, _, rfl⟩, fun hn => absurd (by rw [hxy]; simp) hn⟩
    · rw [decide_eq_false hxy, if_neg (by simp), ih]
      have hm : x ∈ y :: ms ↔ x ∈ ms := by simp [hxy]
      exact ⟨r, rfl, fun hx => i1 (hm.1 hx), fun hx => i2 (fun h => hx (hm.2 h))⟩

theorem pFindKey (x : Nat × Nat) (w : World) (l : List MapEntry) (ms : List (Nat × Nat)) (hl : l.length = ms.length) (h : ∀ (j : Nat) (y : Nat × Nat), ms[j]? = some y → ∃ e, l[j]? = some e ∧ e.key = pV y) :
    ∃ r, (Instr.findKey 114 (pV x) l).run Tryd.prog w = .ok r w ∧ (x ∈ ms → ∃ k v, r = some (k, v)) ∧ (x ∉ ms → r = none) := by
  obtain ⟨r, h1, h2⟩ := pFind x w l ms 0 hl h
  refine ⟨r, ?_, h2⟩
  rw [← h1]
  unfold Instr.findKey
  simp only [Sem.run_bind, run_underlying Tryd.underlying114, Result.andThen_ok]
  cases l with
  | nil => simp [Instr.findNow, Instr.findAsking]
  | cons e l => simp [Instr.findNow, Instr.sameNow]

/-- The map in block r has these pairs. -/
def pMap (w : World) (r : Nat) (ks : List (Nat × Nat)) : Prop :=
  ∃ es clock, w.heap[r]? = some (.map es clock) ∧ es.size = ks.length ∧ ∀ (i : Nat) (x : Nat × Nat), ks[i]? = some x → ∃ e, es[i]? = some e ∧ e.key = pV x

theorem pMap.lt {w : World} {r : Nat} {ks : List (Nat × Nat)} (h : pMap w r ks) : r < w.heap.size := by
  obtain ⟨es, clock, hr, _⟩ := h
  exact (Array.getElem?_eq_some_iff.1 hr).1

theorem pMap.keep {w w' : World} {r : Nat} {ks : List (Nat × Nat)} (h : pMap w r ks) (hb : ∀ o, w.heap[r]? = some o → w'.heap[r]? = some o) : pMap w' r ks := by
  obtain ⟨es, clock, hr, h2⟩ := h
  exact ⟨es, clock, hb _ hr, h2⟩

theorem pMap.not_cells {w : World} {r : Nat} {ks : List (Nat × Nat)} (h : pMap w r ks) : ∃ o : Obj, w.heap[r]? = some o ∧ o.isCells = false := by
  obtain ⟨es, clock, hr, _⟩ := h
  exact ⟨_, hr, rfl⟩

theorem pLookup {w : World} {r : Nat} {ks : List (Nat × Nat)} (h : pMap w r ks) (x : Nat × Nat) : ∃ v, (Instr.lookup 148 (.map (some r)) (pV x) true).run Tryd.prog w = .ok (.tuple #[v, .bool (decide (x ∈ ks))]) w := by
  obtain ⟨es, clock, hr, hl, hes⟩ := h
  obtain ⟨rr, hf, f1, f2⟩ := pFindKey x w es.toList ks (by simpa using hl) (fun j y hy => by obtain ⟨e, h1, h2⟩ := hes j y hy; exact ⟨e, by simpa using h1, h2⟩)
  have hk := pKey x es.isEmpty w
  unfold Instr.lookup
  simp only [Sem.run_bind, run_underlying Tryd.underlying148, Result.andThen_ok, Go.MapKept.run_getObj_map hr, Sem.run_pure, hk, hf]
  by_cases hx : x ∈ ks
  · obtain ⟨k, v, rfl⟩ := f1 hx
    exact ⟨v, by simp [hx]⟩
  · rw [f2 hx]
    exact ⟨.int .i64 0, by simp [hx, go_sem]⟩

theorem pUpdate {w : World} {r : Nat} {ks : List (Nat × Nat)} (h : pMap w r ks) (x : Nat × Nat) (hx : x ∉ ks) (v : Value) : ∃ o, (Instr.mapUpdate 148 (.map (some r)) (pV x) v).run Tryd.prog w = .ok () (w.putObj r o) ∧ pMap (w.putObj r o) r (ks ++ [x]) := by
  obtain ⟨es, clock, hr, hl, hes⟩ := h
  obtain ⟨rr, hf, f1, f2⟩ := pFindKey x w es.toList ks (by simpa using hl) (fun j y hy => by obtain ⟨e, h1, h2⟩ := hes j y hy; exact ⟨e, by simpa using h1, h2⟩)
  have hk := pKey x false w
  rw [f2 hx] at hf
  refine ⟨.map (es.push { key := pV x, val := v, born := clock }) (clock + 1), ?_, _, _, World.putObj_heap_same (Array.getElem?_eq_some_iff.1 hr).1, by simp [hl], fun i y hy => ?_⟩
  · unfold Instr.mapUpdate
    simp only [Sem.run_bind, run_underlying Tryd.underlying148, Result.andThen_ok, Go.MapKept.run_getObj_map hr, hk, hf, Go.MapKept.run_setObj_map _ hr]
    rfl
  · by_cases hi : i < ks.length
    · rw [List.getElem?_append_left hi] at hy
      obtain ⟨e, h1, h2⟩ := hes i y hy
      exact ⟨e, by rw [Array.getElem?_push, if_neg (by omega)]; exact h1, h2⟩
    · rw [List.getElem?_append_right (by omega)] at hy
      have hi2 : i = ks.length := by
        have := (List.getElem?_eq_some_iff.1 hy).1
        simp at this
        omega
      subst hi2
      rw [Nat.sub_self] at hy
      obtain rfl : x = y := by simpa using hy
      refine ⟨{ key := pV x, val := v, born := clock }, ?_, rfl⟩
      rw [show ks.length = es.size from hl.symm]
      exact Array.getElem?_push_size

/-- A remark: a pair of sets, and a number. -/
abbrev Rm : Type := (Nat × Nat) × Nat
def rmE (r : Rm) : List Value := [.int .u8 (r.1.1 : Nat), .int .u8 (r.1.2 : Nat), .int .i64 (r.2 : Nat)]

theorem rmInfo : Tryd.prog.info? 119 = some Tryd.t119 := by kernel_rfl
theorem rmEl : ElT 104 119 3 16 := ⟨Tryd.underlying104, ⟨_, .agg #[.int .u8 0, .int .u8 0, .int .i64 0], rmInfo, by kernel_rfl, rfl, by kernel_rfl, by kernel_rfl⟩, by decide, by decide⟩
theorem rmE_one (r : Rm) : ∀ v ∈ rmE r, v.oneCell' = true := by
  intro v hv
  simp only [rmE, List.mem_cons, List.not_mem_nil, or_false] at hv
  rcases hv with rfl | rfl | rfl <;> rfl

end Go.Proofs.YtpiacnnifdjlkabDoor
