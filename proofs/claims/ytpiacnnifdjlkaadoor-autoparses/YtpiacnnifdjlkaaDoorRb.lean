/-
  What is asked of an operation of a region (Ra), by how it goes: a value, a value and a new world, a call.
-/
import Derived.Test.YtpiacnnifdjlkaaDoorDa
import Derived.Lib.ItoaLen
import Derived.Orders
/-
  What goodStates and appendNumbers of package auto answer.
-/
namespace Go.Proofs.YtpiacnnifdjlkaaDoor
open Go.RowKit Go.Sort

/-- The good states' numbers, of the first so many. -/
def goods (gd : List Bool) (i : Nat) : List Int := ((List.range i).filter fun q => gd.getD q false).map fun q : Nat => (q : Int)

theorem goods_succ (gd : List Bool) (i : Nat) : goods gd (i + 1) = goods gd i ++ (if gd.getD i false then [(i : Int)] else []) := by
  unfold goods
  rw [List.range_succ, List.filter_append, List.map_append]
  congr 1
  by_cases h : gd.getD i false = true
  · rw [if_pos h, List.filter_cons_of_pos (by exact h)]; rfl
  · rw [if_neg h, List.filter_cons_of_neg (by exact h)]; rfl

theorem goods_le (gd : List Bool) (i : Nat) : (goods gd i).length ≤ i := by
  unfold goods
  rw [List.length_map]
  have := List.length_filter_le (fun q => gd.getD q false) (List.range i)
  rwa [List.length_range] at this

set_option maxRecDepth 100000 in
set_option maxHeartbeats 1000000 in
theorem goodStates_any {w : World} {gd : List Bool} (n m : Int) (a1 a2 a3 : Option Addr) (l1 l3 c1 c2 c3 : Nat) (hG : BoolSl w (.slice a2 gd.length c2) gd) (hl : gd.length ≤ 300) :
    Calls Tryd.prog 86 #[.agg #[.int .i64 n, .int .i64 m, .slice a1 l1 c1, .slice a2 gd.length c2, .slice a3 l3 c3]] w fun e w' => ∃ v, e = .returned v ∧ w'.ownsRow (w.heap.size + 1) 3 1 v (goods gd gd.length).length ((goods gd gd.length).map (.int .i64)) ∧ Below w.heap.size w w' := by
  have HG := hide hG
  clear hG
  generalize hL : gd.length = L2 at *
  have HL := hide hL
  clear hL
  go_enter Tryd.func86, Tryd.ntmps86
  go_wp2_with (fail)
  go_loopw [3, 9] (fun s3 s9 wr => ∃ (i : Nat), s9 = .int .i64 i ∧ i ≤ L2 ∧ wr.ownsRow (w.heap.size + 1) 3 1 s3 (goods gd i).length ((goods gd i).map (.int .i64)) ∧ Below (w.heap.size + 1) (w.alloc (Obj.cells #[Value.int .i64 n, .int .i64 m, .slice a1 l1 c1, .slice a2 L2 c2, .slice a3 l3 c3] 26)) wr) (fun _ s9 _ => L2 - (intOf s9).toNat)
  case atStart => exact ⟨0, rfl, Nat.zero_le _, World.ownsRow_nil _ _ _ _, Below.refl _ _⟩
  case round =>
    obtain ⟨i, rfl, hi, hown, hb⟩ := hrel
    have hbw : Below w.heap.size w wr := below_trans (below_new w _) (hb.mono (by simp))
    have hsz := hb.size
    simp only [World.size_alloc] at hsz
    have Hb := hide hb
    have Hown := hide hown
    clear hb hown
    by_cases hlt : i < L2
    · have hls : i < gd.length := by rw [HL.out]; exact hlt
      obtain ⟨a', cap', e, _, hz, _⟩ := HG.out
      injection e with e1 e2 e3
      subst e1
      rcases hz with hz | ⟨b, off, e, hcell⟩
      · rw [hz] at hls; simp at hls
      subst e
      have d0 := hcell i hls
      have d0 := (hbw.cell (World.block_lt_of_cell? w _ d0)).trans d0
      have HS := hide (goods_succ gd i)
      have Hle := hide (goods_le gd i)
      clear hcell e2 e3
      generalize hbg : gd.getD i false = bg at *
      clear hbg
      cases bg
      · go_wp2
        go_roundw
        case rel => exact ⟨i + 1, by go_num, by omega, by rw [HS.out]; simpa using Hown.out, Hb.out⟩
        case measure => simp [intOf]; omega
      · have Hc0 := hide (cell_of_row _ _ 0 _ _ _ (one_new wr (Obj.cells #[Value.int .i64 (i : Nat)] 3)))
        have HoA := hide (Hown.out.alloc (Obj.cells #[Value.int .i64 (i : Nat)] 3))
        have HbA := hide (show w.heap.size + 1 ≤ (wr.alloc (Obj.cells #[Value.int .i64 (i : Nat)] 3)).heap.size by simp; omega)
        have HBA := hide (Hb.out.alloc hsz (Obj.cells #[Value.int .i64 (i : Nat)] 3))
        go_wp2_with (at_builtin; refine wpList_append_one _ rfl (.tmp 15) (.tmp 17) 22 3 1 8 rfl elInt (w.heap.size + 1) _ _ _ rfl HoA.out wr.heap.size 1 [.int .i64 (i : Nat)] rfl rfl (by intro j u hu; match j, hu with | 0, hu => simp at hu; subst hu; exact Hc0.out | j + 1, hu => simp at hu) (by intro u hu; simp at hu; subst hu; rfl) (by have := Hle.out; omega) HbA.out ?_; intro g8 cap8 w8 hown8 hgrow8 hor8 hbase8; have HR8 := hide (And.intro hown8 hgrow8); clear hown8 hgrow8 hor8)
        go_roundw
        case rel =>
          refine ⟨i + 1, by go_num, by omega, ?_, HBA.out.grown HR8.out.2 HbA.out (fun k hk => (HoA.out.lt k hk).1)⟩
          rw [HS.out, if_pos rfl, List.map_append, List.length_append]
          exact HR8.out.1
        case measure => simp [intOf]; omega
    · obtain rfl : L2 = i := by omega
      go_wp2
      go_ret
      exact ⟨_, rfl, Hown.out, hbw⟩

/-- A list of the call's own stands where only rows of bytes turn. -/
theorem intSl_others {w w' : World} {base n : Nat} {v : Value} {zs : List Int} (h : w.ownsRow base 3 1 v n (zs.map (.int .i64))) (hk : Lib.OthersKept 5 none w w') : IntSl w' v zs := by
  refine intSl_of_owns (owns_kept h (fun r hr => ?_))
  obtain ⟨c, fz, hc⟩ : ∃ c fz, w.heap[r]? = some (.cells c 3 fz) := by
    rcases h.2 with ⟨rfl, _⟩ | ⟨g', cap, cur, rfl, _, hc, _⟩
    · cases hr
    · have : g' = r := by simpa [Value.ownBlock] using hr
      subst this
      exact ⟨_, _, hc⟩
  rw [hc]
  exact hk r _ hc (by simp) (fun c' fz' e => by injection e with _ e2 _; cases e2)

theorem byteInfo : Tryd.prog.info? 5 = some Tryd.t5 := by kernel_rfl
theorem elByte : ElT 106 5 1 1 := ⟨Tryd.underlying106, ⟨_, .int .u8 0, byteInfo, by kernel_rfl, rfl, by kernel_rfl, by kernel_rfl⟩, by decide, by decide⟩

/-- Numbers, each behind a blank. -/
def numsT (zs : List Int) : List UInt8 := zs.flatMap fun z => 32 :: Lib.itoa z

theorem numsT_take (zs : List Int) (i : Nat) (h : i < zs.length) : numsT (zs.take (i + 1)) = numsT (zs.take i) ++ 32 :: Lib.itoa (zs.getD i 0) := by
  unfold numsT
  rw [List.take_add_one, List.getElem?_eq_getElem h, List.flatMap_append]
  simp [List.getD, h]

theorem byteCells_append (a b : List UInt8) : Lib.byteCells (a ++ b) = Lib.byteCells a ++ Lib.byteCells b := by simp [Lib.byteCells]

theorem byteCells_blank (a b c : List UInt8) : Lib.byteCells (a ++ (b ++ 32 :: c)) = Lib.byteCells (a ++ b) ++ [.int .u8 32] ++ Lib.byteCells c := by
  unfold Lib.byteCells
  rw [← List.append_assoc, List.map_append, List.map_cons, List.append_assoc, List.singleton_append]
  rfl

set_option maxRecDepth 100000 in
set_option maxHeartbeats 2000000 in
theorem appendNumbers_any {w : World} {zs : List Int} {bs : List UInt8} (B : Nat) (sv : Value) (a1 : Option Addr) (c1 : Nat) (hown : w.ownsRow B 5 1 sv bs.length (Lib.byteCells bs)) (hB : B ≤ w.heap.size) (hz : ∀ w1, Below B w w1 → Lib.OthersKept 5 none w w1 → IntSl w1 (.slice a1 zs.length c1) zs)
    (hr : ∀ z ∈ zs, -9223372036854775808 ≤ z ∧ z ≤ 9223372036854775807) (hlim : bs.length + 22 * zs.length + 30 ≤ 800000) (htab : Lib.TabBelow Tryd.prog B w "internal/strconv.uint64pow10" .u64 Lib.pow10Tab) :
    Calls Tryd.prog 85 #[sv, .slice a1 zs.length c1] w fun e w' => ∃ v', e = .returned v' ∧ w'.ownsRow B 5 1 v' (bs ++ numsT zs ++ [10]).length (Lib.byteCells (bs ++ numsT zs ++ [10])) ∧ Below B w w' ∧ Lib.OthersKept 5 none w w' := by
  have Hown := hide hown
  have Hz := hide hz
  have Hr := hide hr
  have Htab := hide htab
  have Hlen := hide (show ∀ z ∈ zs, (Lib.itoa z).length ≤ 21 from fun z hzz => Lib.itoa_length_le z (hr z hzz).1 (hr z hzz).2)
  clear hown hz hr htab
  generalize hL : zs.length = L at *
  have HL := hide hL
  clear hL
  go_enter Tryd.func85, Tryd.ntmps85
  go_wp2_with (fail)
  go_loopw [0, 9] (fun s0 s9 wr => ∃ (i : Nat), s9 = .int .i64 i ∧ i ≤ L ∧ wr.ownsRow B 5 1 s0 (bs ++ numsT (zs.take i)).length (Lib.byteCells (bs ++ numsT (zs.take i))) ∧ (bs ++ numsT (zs.take i)).length ≤ bs.length + 22 * i ∧ Below B w wr ∧ Lib.OthersKept 5 none w wr) (fun _ s9 _ => L - (intOf s9).toNat)
  case atStart => exact ⟨0, rfl, Nat.zero_le _, by simpa [numsT] using Hown.out, by simp [numsT], Below.refl _ _, Lib.OthersKept.refl _ _ _⟩
  case round =>
    obtain ⟨i, rfl, hi, hown, hle, hb, hko⟩ := hrel
    have Hko := hide hko
    clear hko
    have Hb := hide hb
    have Hown := hide hown
    have hsz := hb.size
    clear hb hown
    have hBr : B ≤ wr.heap.size := by omega
    by_cases hlt : i < L
    · have hls : i < zs.length := by rw [HL.out]; exact hlt
      obtain ⟨a', cap', e, _, hzz, _⟩ := Hz.out wr Hb.out Hko.out
      injection e with e1 e2 e3
      subst e1
      rcases hzz with hzz | ⟨b, off, e, hcell⟩
      · rw [hzz] at hls; simp at hls
      subst e
      have d0 := hcell i hls
      have hmem : zs.getD i 0 ∈ zs := by simp [List.getD, hls]
      have Hzr := hide (Hr.out _ hmem)
      have Hzl := hide (Hlen.out _ hmem)
      have HT := hide (numsT_take zs i hls)
      generalize zs.getD i 0 = z at *
      generalize numsT (zs.take i) = tx at *
      clear hcell e2 e3 hmem
      have Hc0 := hide (cell_of_row _ _ 0 _ _ _ (one_new wr (Obj.cells #[Value.int .u8 32] 5)))
      have HoA := hide (Hown.out.alloc (Obj.cells #[Value.int .u8 32] 5))
      have HbA := hide (show B ≤ (wr.alloc (Obj.cells #[Value.int .u8 32] 5)).heap.size by simp; omega)
      have HBA := hide (Hb.out.alloc hBr (Obj.cells #[Value.int .u8 32] 5))
      go_wp2_with (at_builtin; refine wpList_append_one _ rfl (.tmp 13) (.tmp 14) 106 5 1 1 rfl elByte B _ _ _ rfl HoA.out wr.heap.size 1 [.int .u8 32] rfl rfl (by intro j u hu; match j, hu with | 0, hu => simp at hu; subst hu; exact Hc0.out | j + 1, hu => simp at hu) (by intro u hu; simp at hu; subst hu; rfl) (by omega) HbA.out ?_; intro g8 cap8 w8 hown8 hgrow8 hor8 hbase8; have HR8 := hide (And.intro hown8 hgrow8); clear hown8 hgrow8 hor8)
      have HB8 := hide (HBA.out.grown HR8.out.2 HbA.out (fun k hk => (HoA.out.lt k hk).1))
      have HK8 := hide ((Hko.out.alloc (Obj.cells #[Value.int .u8 32] 5)).grown HR8.out.2 (owns_cells HoA.out))
      have ho8 : w8.ownsRow B 5 1 (.slice (some ⟨g8, 0, none⟩) ((bs ++ tx).length + 1) cap8) ((bs ++ tx).length + 1) (Lib.byteCells (bs ++ tx) ++ [.int .u8 32]) := HR8.out.1
      have elen : (bs ++ tx).length = bs.length + tx.length := List.length_append
      rw [elen] at ho8
      refine (appendInt_any B _ z Hzr.out.1 Hzr.out.2 _ _ w8 ho8 (Nat.le_trans hB HB8.out.size) (by rw [elen] at hle; omega) (Htab.out.on HB8.out)).mono ?_
      rintro e w9 ⟨v9, rfl, hown9, hb9, hk9⟩
      have HK9 := hide (HK8.out.trans hk9)
      have Hown9 := hide hown9
      have HB9 := hide (HB8.out.trans hb9)
      clear hown9 hb9 ho8 hk9
      go_wp2
      go_roundw
      case rel =>
        refine ⟨i + 1, by go_num, by omega, ?_, ?_, HB9.out, HK9.out⟩
        · rw [HT.out]
          have e1 : (bs ++ (tx ++ 32 :: Lib.itoa z)).length = bs.length + tx.length + 1 + (Lib.itoa z).length := by rw [List.length_append, List.length_append, List.length_cons]; omega
          have e2 := byteCells_blank bs tx (Lib.itoa z)
          rw [e1, e2]
          exact Hown9.out
        · rw [HT.out]
          have := Hzl.out
          rw [List.length_append, List.length_append, List.length_cons]
          rw [elen] at hle
          omega
      case measure => simp [intOf]; omega
    · obtain rfl : L = i := by omega
      have e1 : zs.take L = zs := by rw [← HL.out]; exact List.take_length
      rw [e1] at hle
      have hO := Hown.out
      rw [e1] at hO
      have HO := hide hO
      clear Hown hO e1
      have Hc0 := hide (cell_of_row _ _ 0 _ _ _ (one_new wr (Obj.cells #[Value.int .u8 10] 5)))
      have HoA := hide (HO.out.alloc (Obj.cells #[Value.int .u8 10] 5))
      have HbA := hide (show B ≤ (wr.alloc (Obj.cells #[Value.int .u8 10] 5)).heap.size by simp; omega)
      have HBA := hide (Hb.out.alloc hBr (Obj.cells #[Value.int .u8 10] 5))
      go_wp2_with (at_builtin; refine wpList_append_one _ rfl (.tmp 20) (.tmp 21) 106 5 1 1 rfl elByte B _ _ _ rfl HoA.out wr.heap.size 1 [.int .u8 10] rfl rfl (by intro j u hu; match j, hu with | 0, hu => simp at hu; subst hu; exact Hc0.out | j + 1, hu => simp at hu) (by intro u hu; simp at hu; subst hu; rfl) (by omega) HbA.out ?_; intro g8 cap8 w8 hown8 hgrow8 hor8 hbase8; have HR8 := hide (And.intro hown8 hgrow8); clear hown8 hgrow8 hor8)
      go_ret
      refine ⟨_, rfl, ?_, HBA.out.grown HR8.out.2 HbA.out (fun k hk => (HoA.out.lt k hk).1), (Hko.out.alloc (Obj.cells #[Value.int .u8 10] 5)).grown HR8.out.2 (owns_cells HoA.out)⟩
      have e2 : (bs ++ numsT zs ++ [10]).length = (bs ++ numsT zs).length + 1 := by rw [List.length_append]; rfl
      have e3 : Lib.byteCells (bs ++ numsT zs ++ [10]) = Lib.byteCells (bs ++ numsT zs) ++ [.int .u8 10] := by rw [byteCells_append]; rfl
      have hR := HR8.out.1
      rw [List.length_append] at hR
      rw [e2, e3, List.length_append]
      exact hR
end Go.Proofs.YtpiacnnifdjlkaaDoor

/-
  A region that draws its order, by what each operation leaves: one obligation an operation, whatever the order.
-/
namespace Go.Proofs.YtpiacnnifdjlkaaDoor

/-- The temporary of operation number i. -/
def dstAt (ops : Array Oper) (i : Nat) : Option Tmp := (ops[i]?).bind (·.dst)

/-- What is asked of a region's text: no guards; each operation waits for earlier ones alone; the temporaries are apart and lie. -/
def orderly (ops : Array Oper) (n : Nat) : Bool :=
  (List.range ops.size).all fun i => match ops[i]? with
    | none => false
    | some o => o.guard.isNone && o.after.toList.all (fun e => !Region.binds .any e || decide (e.on < i)) &&
      (match o.dst with
       | none => true
       | some d => decide (d < n) && (List.range ops.size).all fun j => i == j || dstAt ops j != some d)

/-- The temporaries once all operations are done. -/
def putAll (ops : Array Oper) (vs : Nat → Value) : List Nat → Array Value → Array Value
  | [], t => t
  | i :: l, t => putAll ops vs l (match dstAt ops i with | some d => t.setIfInBounds d (vs i) | none => t)

theorem putAll_size (ops : Array Oper) (vs : Nat → Value) : ∀ (l : List Nat) (t : Array Value), (putAll ops vs l t).size = t.size
  | [], _ => rfl
  | i :: l, t => by
    rw [putAll, putAll_size ops vs l]
    cases dstAt ops i <;> simp

theorem putAll_other (ops : Array Oper) (vs : Nat → Value) (k : Nat) : ∀ (l : List Nat) (t : Array Value), (∀ i ∈ l, dstAt ops i ≠ some k) → (putAll ops vs l t)[k]? = t[k]?
  | [], _, _ => rfl
  | i :: l, t, h => by
    rw [putAll, putAll_other ops vs k l _ (fun j hj => h j (List.mem_cons_of_mem _ hj))]
    have := h i (List.mem_cons_self ..)
    cases hd : dstAt ops i with
    | none => rfl
    | some d =>
      have hne : d ≠ k := fun e => this (by rw [hd, e])
      simp [hne]

theorem putAll_own (ops : Array Oper) (vs : Nat → Value) (k i : Nat) (hd : dstAt ops i = some k) : ∀ (l : List Nat) (t : Array Value), k < t.size → i ∈ l → (∀ j ∈ l, dstAt ops j = some k → j = i) → (putAll ops vs l t)[k]? = some (vs i)
  | [], _, _, h, _ => by cases h
  | j :: l, t, hk, h, hu => by
    rw [putAll]
    by_cases hm : i ∈ l
    · refine putAll_own ops vs k i hd l _ ?_ hm (fun j hj => hu j (List.mem_cons_of_mem _ hj))
      cases dstAt ops j <;> simp [hk]
    · have hij : i = j := (List.mem_cons.1 h).resolve_right hm
      subst hij
      rw [putAll_other ops vs k l _ (fun j hj e => hm (by rw [← hu j (List.mem_cons_of_mem _ hj) e]; exact hj)), hd]
      simp [hk]

section
variable {P : Program} {ops : Array Oper} {Q : Exit → Act → World → Prop} {W : World → Prop} {R : Nat → Value → World → Prop} {a0 : Act}

/-- How things stand when these operations are done. -/
structure Amid (ops : Array Oper) (W : World → Prop) (R : Nat → Value → World → Prop) (a0 : Act) (listed : Array Bool) (a : Act) (w : World) : Prop where
  size : listed.size = ops.size
  tsize : a.tmps.size = a0.tmps.size
  defers : a.defers = a0.defers
  wld : W w
  rest : ∀ t, (∀ i, listed[i]? = some true → dstAt ops i ≠ some t) → a.tmps[t]? = a0.tmps[t]?
  done : ∀ i, listed[i]? = some true → ∃ v, R i v w ∧ ∀ d, dstAt ops i = some d → a.tmps[d]? = some v
  closed : ∀ (i : Nat) (o : Oper), ops[i]? = some o → listed[i]? = some true → ∀ e ∈ o.after.toList, Region.binds .any e = true → listed[e.on]? = some true

/-- An operation waits for operation number j. -/
def dep (o : Oper) (j : Nat) : Bool := o.after.toList.any fun e => Region.binds .any e && e.on == j

/-- No operation of the region writes this temporary ahead of operation number i. -/
def free (ops : Array Oper) (i t : Nat) : Bool := (List.range ops.size).all fun j => match ops[j]? with
  | none => true
  | some o => o.dst != some t || dep o i

theorem free_out {i t : Nat} (h : free ops i t = true) {j : Nat} {o : Oper} (hj : ops[j]? = some o) (hd : o.dst = some t) : dep o i = true := by
  have hlt : j < ops.size := by
    rcases Nat.lt_or_ge j ops.size with h | h
    · exact h
    · rw [Array.getElem?_eq_none h] at hj; cases hj
  have := List.all_eq_true.1 h j (List.mem_range.2 hlt)
  rw [hj] at this
  simpa [hd] using this

/-- What is asked of an operation. -/
def StepOk (P : Program) (ops : Array Oper) (Q : Exit → Act → World → Prop) (W : World → Prop) (R : Nat → Value → World → Prop) (a0 : Act) (i : Nat) (o : Oper) : Prop :=
  ∀ (a : Act) (w : World) (vs : Nat → Value), W w → (∀ t, free ops i t = true → a.eval (.tmp t) = a0.eval (.tmp t)) →
    (∀ j, dep o j = true → R j (vs j) w ∧ ∀ d, dstAt ops j = some d → a.eval (.tmp d) = vs j) →
    o.wp P a w (fun a' w' => ∃ v, a' = a.put o.dst v ∧ W w' ∧ R i v w' ∧ ∀ j x, R j x w → R j x w') Q

theorem orderly_at (h : orderly ops a0.tmps.size = true) {i : Nat} {o : Oper} (hi : ops[i]? = some o) :
    o.guard = none ∧ (∀ e ∈ o.after.toList, Region.binds .any e = true → e.on < i) ∧ ∀ d, o.dst = some d → d < a0.tmps.size ∧ ∀ j, dstAt ops j = some d → j = i := by
  unfold orderly at h
  have hlt : i < ops.size := by
    rcases Nat.lt_or_ge i ops.size with h | h
    · exact h
    · rw [Array.getElem?_eq_none h] at hi; cases hi
  have := List.all_eq_true.1 h i (List.mem_range.2 hlt)
  rw [hi] at this
  simp only [Bool.and_eq_true] at this
  obtain ⟨⟨h1, h2⟩, h3⟩ := this
  refine ⟨by simpa using h1, fun e he hb => ?_, fun d hd => ?_⟩
  · have := List.all_eq_true.1 h2 e he
    rw [hb] at this
    simpa using this
  · rw [hd] at h3
    simp only [Bool.and_eq_true, decide_eq_true_eq] at h3
    refine ⟨h3.1, fun j hj => ?_⟩
    have hjl : j < ops.size := by
      rcases Nat.lt_or_ge j ops.size with h | h
      · exact h
      · unfold dstAt at hj; rw [Array.getElem?_eq_none h] at hj; cases hj
    have := List.all_eq_true.1 h3.2 j (List.mem_range.2 hjl)
    rw [hj] at this
    have : i = j := by simpa using this
    exact this.symm

theorem amid_listed (h : orderly ops a0.tmps.size = true) {listed : Array Bool} (hs : listed.size = ops.size) (hr : Region.ready .any ops listed = []) : ∀ i, i < ops.size → listed[i]? = some true := by
  intro i
  induction i using Nat.strongRecOn with
  | ind i ih =>
    intro hi
    have ho : ops[i]? = some ops[i] := Array.getElem?_eq_getElem hi
    have hl : listed[i]? = some (listed[i]'(by omega)) := Array.getElem?_eq_getElem (by omega)
    cases hb : listed[i]'(by omega) with
    | true => rw [hl, hb]
    | false =>
      exfalso
      have hm : i ∈ Region.ready .any ops listed := by
        unfold Region.ready
        refine List.mem_filter.2 ⟨List.mem_range.2 hi, ?_⟩
        rw [hb] at hl
        simp only [Array.getD_eq_getD_getElem?, hl, ho, Option.map_some, Option.getD_some, Bool.not_false, Bool.true_and]
        rw [Array.all_eq_true_iff_forall_mem]
        intro e he
        cases hbi : Region.binds .any e with
        | false => rfl
        | true =>
          have hlt := (orderly_at h ho).2.1 e (by simpa using he) hbi
          rw [ih e.on hlt (by omega)]
          rfl
      rw [hr] at hm
      cases hm

theorem amid_end (h : orderly ops a0.tmps.size = true) {listed : Array Bool} {a : Act} {w : World} (hA : Amid ops W R a0 listed a w) (hr : Region.ready .any ops listed = [])
    (hend : ∀ (vs : Nat → Value) (w : World), W w → (∀ i, i < ops.size → R i (vs i) w) → Q .normal { a0 with tmps := putAll ops vs (List.range ops.size) a0.tmps } w) : Q .normal a w := by
  have hall := amid_listed h hA.size hr
  have hex : ∀ i, ∃ v, i < ops.size → R i v w ∧ ∀ d, dstAt ops i = some d → a.tmps[d]? = some v := fun i => by
    by_cases hi : i < ops.size
    · obtain ⟨v, hv⟩ := hA.done i (hall i hi)
      exact ⟨v, fun _ => hv⟩
    · exact ⟨undef, fun h => absurd h hi⟩
  obtain ⟨vs, hvs⟩ := Classical.axiomOfChoice hex
  have ha : a = { a0 with tmps := putAll ops vs (List.range ops.size) a0.tmps } := by
    obtain ⟨t, d⟩ := a
    have hd := hA.defers
    dsimp only at hd
    subst hd
    congr 1
    apply Array.ext_getElem?
    intro k
    by_cases hk : ∃ i, i < ops.size ∧ dstAt ops i = some k
    · obtain ⟨i, hi, hd⟩ := hk
      have ho : ops[i]? = some ops[i] := Array.getElem?_eq_getElem hi
      have hd' : ops[i].dst = some k := by
        unfold dstAt at hd
        rw [ho] at hd
        exact hd
      obtain ⟨hlt, hu⟩ := (orderly_at h ho).2.2 k hd'
      rw [putAll_own ops vs k i hd _ _ hlt (List.mem_range.2 hi) (fun j _ hj => hu j hj)]
      exact (hvs i hi).2 k hd
    · rw [putAll_other ops vs k _ _ (fun i hi hd => hk ⟨i, List.mem_range.1 hi, hd⟩)]
      refine hA.rest k fun i hi hd => hk ⟨i, ?_, hd⟩
      have := (Array.getElem?_eq_some_iff.1 hi).1
      have := hA.size
      omega
  rw [ha]
  exact hend vs w hA.wld fun i hi => (hvs i hi).1

theorem wpAny_amid (h : orderly ops a0.tmps.size = true) (hstep : ∀ i o, ops[i]? = some o → StepOk P ops Q W R a0 i o)
    (hend : ∀ (vs : Nat → Value) (w : World), W w → (∀ i, i < ops.size → R i (vs i) w) → Q .normal { a0 with tmps := putAll ops vs (List.range ops.size) a0.tmps } w) :
    ∀ (fuel : Nat) (listed : Array Bool) (a : Act) (w : World), listed.toList.count false ≤ fuel → Amid ops W R a0 listed a w → wpAny P .any ops Q fuel listed a w := by
  intro fuel
  induction fuel with
  | zero =>
    intro listed a w hc hA
    have hr : Region.ready .any ops listed = [] := by
      unfold Region.ready
      refine List.filter_eq_nil_iff.2 fun i hi => ?_
      have hl : i < listed.size := by rw [hA.size]; exact List.mem_range.1 hi
      have hn : false ∉ listed.toList := List.count_eq_zero.1 (by omega)
      cases hb : listed[i] with
      | true => simp [Array.getD_eq_getD_getElem?, Array.getElem?_eq_getElem hl, hb]
      | false => exact absurd (by rw [← hb]; simp) hn
    exact ⟨hr, amid_end h hA hr hend⟩
  | succ fuel ih =>
    intro listed a w hc hA
    refine ⟨fun hr => amid_end h hA hr hend, fun i hi => ?_⟩
    unfold Region.ready at hi
    obtain ⟨hi1, hi2⟩ := List.mem_filter.1 hi
    have hio : i < ops.size := List.mem_range.1 hi1
    have hil : i < listed.size := by rw [hA.size]; exact hio
    have ho : ops[i]? = some ops[i] := Array.getElem?_eq_getElem hio
    obtain ⟨hg, hback, hdst⟩ := orderly_at h ho
    simp only [Array.getD_eq_getD_getElem?, Array.getElem?_eq_getElem hil, ho, Option.map_some, Option.getD_some, Bool.and_eq_true, Bool.not_eq_true'] at hi2
    obtain ⟨hf, hdeps⟩ := hi2
    have hw : Region.wanted ops[i] (yielded ops a.tmps) = true := by simp [Region.wanted, hg]
    unfold wpOp
    rw [ho]
    simp only [hw, if_true]
    refine Or.inl ?_
    have hex : ∀ j, ∃ v, listed[j]? = some true → R j v w ∧ ∀ d, dstAt ops j = some d → a.tmps[d]? = some v := fun j => by
      by_cases hj : listed[j]? = some true
      · obtain ⟨v, hv⟩ := hA.done j hj
        exact ⟨v, fun _ => hv⟩
      · exact ⟨undef, fun h => absurd h hj⟩
    obtain ⟨vs, hvs⟩ := Classical.axiomOfChoice hex
    refine Oper.wp_mono ?_ (hstep i _ ho a w vs hA.wld ?_ ?_)
    · rintro a' w' ⟨v, rfl, hW', hR', hst⟩
      refine ih _ _ _ ?_ ?_
      · rw [Array.toList_setIfInBounds]
        have := List.count_set (a := true) (b := false) (l := listed.toList) (i := i) (by simpa using hil)
        rw [this]
        have e : (listed.toList[i]'(by simpa using hil)) = false := by simpa using hf
        rw [e]
        have hp : 0 < listed.toList.count false := List.count_pos_iff.2 (by rw [← e]; simp)
        rw [if_pos (by rfl), if_neg (by decide)]
        omega
      · have hin : ∀ j, (listed.setIfInBounds i true)[j]? = some true → j = i ∨ (j ≠ i ∧ listed[j]? = some true) := fun j hj => by
          by_cases e : j = i
          · exact Or.inl e
          · rw [Array.getElem?_setIfInBounds, if_neg (fun e' => e e'.symm)] at hj
            exact Or.inr ⟨e, hj⟩
        have hmine : (listed.setIfInBounds i true)[i]? = some true := by rw [Array.getElem?_setIfInBounds, if_pos rfl, if_pos hil]
        have hdi : dstAt ops i = ops[i].dst := by unfold dstAt; rw [ho]; rfl
        refine ⟨by simpa using hA.size, ?_, ?_, hW', fun t ht => ?_, fun j hj => ?_, fun j oj hoj hj e he hbe => ?_⟩
        · cases hd : ops[i].dst <;> simp [Act.put, hA.tsize]
        · cases hd : ops[i].dst <;> simp [Act.put, hA.defers]
        · have h1 := ht i hmine
          have h2 := hA.rest t fun j hj => ht j (by
            by_cases e : j = i
            · rw [e]; exact hmine
            · rw [Array.getElem?_setIfInBounds, if_neg (fun e' => e e'.symm)]; exact hj)
          cases hd : ops[i].dst with
          | none => exact h2
          | some d =>
            have hne : d ≠ t := fun e => h1 (by rw [hdi, hd, e])
            simp only [Act.put]
            rw [Array.getElem?_setIfInBounds, if_neg hne]
            exact h2
        · rcases hin j hj with rfl | ⟨hne, hj'⟩
          · refine ⟨v, hR', fun d hd => ?_⟩
            rw [hdi] at hd
            have := (hdst d hd).1
            simp only [Act.put, hd]
            rw [Array.getElem?_setIfInBounds, if_pos rfl, if_pos (by rw [hA.tsize]; exact this)]
          · obtain ⟨u, hu1, hu2⟩ := hA.done j hj'
            refine ⟨u, hst j u hu1, fun d hd => ?_⟩
            cases hdd : ops[i].dst with
            | none => exact hu2 d hd
            | some d' =>
              have hne' : d' ≠ d := fun e => hne ((hdst d' hdd).2 j (by rw [e]; exact hd))
              simp only [Act.put]
              rw [Array.getElem?_setIfInBounds, if_neg hne']
              exact hu2 d hd
        · have hel : listed[e.on]? = some true := by
            rcases hin j hj with rfl | ⟨hne, hj'⟩
            · rw [ho] at hoj
              injection hoj with hoj
              subst hoj
              have hlt := hback e he hbe
              have hd := Array.all_eq_true_iff_forall_mem.1 hdeps e (by simpa using he)
              rw [hbe] at hd
              have hee : e.on < listed.size := by omega
              rw [Array.getElem?_eq_getElem hee] at hd ⊢
              simpa using hd
            · exact hA.closed j oj hoj hj' e he hbe
          by_cases hei : e.on = i
          · rw [hei]; exact hmine
          · rw [Array.getElem?_setIfInBounds, if_neg (fun e' => hei e'.symm)]; exact hel
    · intro t ht
      have := hA.rest t fun j hj hdj => by
        unfold dstAt at hdj
        cases hoj : ops[j]? with
        | none => rw [hoj] at hdj; cases hdj
        | some oj =>
          rw [hoj] at hdj
          obtain ⟨e, he, hbe⟩ := List.any_eq_true.1 (free_out ht hoj hdj)
          rw [Bool.and_eq_true] at hbe
          have hli := hA.closed j oj hoj hj e he hbe.1
          rw [show e.on = i by simpa using hbe.2, Array.getElem?_eq_getElem hil, hf] at hli
          cases hli
      simp only [Act.eval, Array.getD_eq_getD_getElem?, this]
    · intro j hj
      obtain ⟨e, he, hbe⟩ := List.any_eq_true.1 hj
      rw [Bool.and_eq_true] at hbe
      obtain ⟨hb, hej⟩ := hbe
      obtain rfl : e.on = j := by simpa using hej
      have hlt := hback e he hb
      have hd := Array.all_eq_true_iff_forall_mem.1 hdeps e (by simpa using he)
      rw [hb] at hd
      have hel : listed[e.on]? = some true := by
        have hee : e.on < listed.size := by omega
        rw [Array.getElem?_eq_getElem hee] at hd ⊢
        simpa using hd
      obtain ⟨h1, h2⟩ := hvs e.on hel
      refine ⟨h1, fun d hd => ?_⟩
      simp only [Act.eval, Array.getD_eq_getD_getElem?, h2 d hd, Option.getD_some]

/-- ONE OBLIGATION AN OPERATION: what each leaves (R) holds on through what the others do. -/
theorem wp_region_amid {id : Nat} {a0 : Act} {w : World} (W : World → Prop) (R : Nat → Value → World → Prop) (hm : P.follows .mixedOrders = true) (h : orderly ops a0.tmps.size = true)
    (h0 : W { w with drawn := w.drawn + 1 }) (hstep : ∀ i o, ops[i]? = some o → StepOk P ops Q W R a0 i o)
    (hend : ∀ (vs : Nat → Value) (w : World), W w → (∀ i, i < ops.size → R i (vs i) w) → Q .normal { a0 with tmps := putAll ops vs (List.range ops.size) a0.tmps } w) : (Code.region id ops true).wp P Q a0 w := by
  refine wp_region_any hm (wpAny_amid h hstep hend _ _ _ _ ?_ ⟨by simp, rfl, rfl, h0, fun _ _ => rfl, fun i hi => ?_, fun i o _ hi => ?_⟩)
  · exact Nat.le_trans (List.count_le_length) (by simp)
  · simp [Array.getElem?_replicate] at hi
  · simp [Array.getElem?_replicate] at hi
end
end Go.Proofs.YtpiacnnifdjlkaaDoor

namespace Go.Proofs.YtpiacnnifdjlkaaDoor

section
variable {P : Program} {ops : Array Oper} {Q : Exit → Act → World → Prop} {W : World → Prop} {R : Nat → Value → World → Prop} {a0 : Act} {i : Nat} {o : Oper}

theorem eval_tmp (a : Act) (d : Nat) : a.eval (.tmp d) = a.tmps[d]?.getD undef := by simp [Act.eval]

/-- What an operation that is waited for has left. -/
theorem dep_val {a : Act} {w : World} {vs : Nat → Value} (hd : ∀ j, dep o j = true → R j (vs j) w ∧ ∀ d, dstAt ops j = some d → a.eval (.tmp d) = vs j) (j d : Nat) (h1 : dep o j = true) (h2 : dstAt ops j = some d) : R j (a.tmps[d]?.getD undef) w := by
  obtain ⟨h, h'⟩ := hd j h1
  rw [← eval_tmp, h' d h2]
  exact h

theorem free_val {a : Act} (he : ∀ t, free ops i t = true → a.eval (.tmp t) = a0.eval (.tmp t)) (t : Nat) (h : free ops i t = true) : a.tmps[t]?.getD undef = a0.tmps[t]?.getD undef := by
  rw [← eval_tmp, ← eval_tmp]
  exact he t h

theorem stepOk_val (h : ∀ (a : Act) (w : World) (vs : Nat → Value), W w → (∀ t, free ops i t = true → a.eval (.tmp t) = a0.eval (.tmp t)) →
      (∀ j, dep o j = true → R j (vs j) w ∧ ∀ d, dstAt ops j = some d → a.eval (.tmp d) = vs j) → ∃ v, (execOp a.eval o).run P w = .ok (.value v) w ∧ R i v w) : StepOk P ops Q W R a0 i o := by
  intro a w vs hW he hd
  obtain ⟨v, hr, hR⟩ := h a w vs hW he hd
  unfold Oper.wp
  rw [hr]
  exact ⟨v, rfl, hW, hR, fun _ _ h => h⟩

theorem stepOk_new (h : ∀ (a : Act) (w : World) (vs : Nat → Value), W w → (∀ t, free ops i t = true → a.eval (.tmp t) = a0.eval (.tmp t)) →
      (∀ j, dep o j = true → R j (vs j) w ∧ ∀ d, dstAt ops j = some d → a.eval (.tmp d) = vs j) → ∃ v w', (execOp a.eval o).run P w = .ok (.value v) w' ∧ W w' ∧ R i v w' ∧ ∀ j x, R j x w → R j x w') : StepOk P ops Q W R a0 i o := by
  intro a w vs hW he hd
  obtain ⟨v, w', hr, hW', hR, hst⟩ := h a w vs hW he hd
  unfold Oper.wp
  rw [hr]
  exact ⟨v, rfl, hW', hR, hst⟩

theorem stepOk_call (h : ∀ (a : Act) (w : World) (vs : Nat → Value), W w → (∀ t, free ops i t = true → a.eval (.tmp t) = a0.eval (.tmp t)) →
      (∀ j, dep o j = true → R j (vs j) w ∧ ∀ d, dstAt ops j = some d → a.eval (.tmp d) = vs j) →
      ∃ f args, (execOp a.eval o).run P w = .ok (.enter f args) w ∧ Calls P f args w fun e w' => ∃ v, e = .returned v ∧ W w' ∧ R i v w' ∧ ∀ j x, R j x w → R j x w') : StepOk P ops Q W R a0 i o := by
  intro a w vs hW he hd
  obtain ⟨f, args, hr, hc⟩ := h a w vs hW he hd
  unfold Oper.wp
  rw [hr, Oper.upon_enter]
  exact hc.mono fun e w' ⟨v, he, h1, h2, h3⟩ => by subst he; exact ⟨v, rfl, h1, h2, h3⟩
end
end Go.Proofs.YtpiacnnifdjlkaaDoor
