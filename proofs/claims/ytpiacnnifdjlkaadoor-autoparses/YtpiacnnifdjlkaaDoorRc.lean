/-
  Texts joined in a region (Ra).
-/
import Derived.Test.YtpiacnnifdjlkaaDoorRb
import Derived.Test.YtpiacnnifdjlkaaDoorBf
import Derived.Laws.AppendOwn
import Derived.Laws.IdiomStrings
import Derived.Laws.CopyRow
import Derived.Lib.AppendStr
import Derived.Lib.OthersKept
import Derived.Below
import Derived.Lib.AppendIntMem
import Derived.Lib.ItoaMem
import Derived.Lib.Slices
import Derived.Shelf.Strconv.Itoa1
import Derived.Shelf.Strconv.Itoa2
import Derived.Ground.NamesProg
/-
  Bytes that a conversion of a string has laid: what of their row may not be written lies behind its cells, so that they can be appended to like any others of the call's own.
-/
namespace Go.Proofs.YtpiacnnifdjlkaaDoor
open Go.RowKit Go.Sort

/-- These bytes lie at the head of a row of the call's own. -/
def RowM (w : World) (base : Nat) (v : Value) (bs : List UInt8) : Prop :=
  ∃ g cap cur fz, v = .slice (some ⟨g, 0, none⟩) bs.length cap ∧ base ≤ g ∧ w.heap[g]? = some (.cells cur 5 fz) ∧ (∀ j, j < cap → ¬ (fz.1 ≤ j ∧ j < fz.2)) ∧ bs.length ≤ cap ∧ cap ≤ maxLen ∧ cur.size = cap ∧ cur.toList.take bs.length = Lib.byteCells bs

theorem RowM.lt {w : World} {base : Nat} {v : Value} {bs : List UInt8} (h : RowM w base v bs) : ∀ k, v.ownBlock = some k → base ≤ k ∧ k < w.heap.size := by
  obtain ⟨g, cap, cur, fz, rfl, hb, hg, -⟩ := h
  intro k hk
  obtain rfl : g = k := by simpa [Value.ownBlock] using hk
  exact ⟨hb, (Array.getElem?_eq_some_iff.1 hg).1⟩

theorem RowM.kind {w : World} {base : Nat} {v : Value} {bs : List UInt8} (h : RowM w base v bs) : ∀ g, v.ownBlock = some g → ∃ c fz, w.heap[g]? = some (.cells c 5 fz) := by
  obtain ⟨g, cap, cur, fz, rfl, hb, hg, -⟩ := h
  intro k hk
  obtain rfl : g = k := by simpa [Value.ownBlock] using hk
  exact ⟨_, _, hg⟩

theorem RowM.kept {w w' : World} {base : Nat} {v : Value} {bs : List UInt8} {row : Option Nat} (h : RowM w base v bs) (hg : w.grownBy w' row) (hne : v.ownBlock ≠ row) : RowM w' base v bs := by
  obtain ⟨g, cap, cur, fz, rfl, hb, hgg, rest⟩ := h
  refine ⟨g, cap, cur, fz, rfl, hb, ?_, rest⟩
  rw [hg.block g (Array.getElem?_eq_some_iff.1 hgg).1 (by simpa [Value.ownBlock] using hne)]
  exact hgg

theorem RowM.below {w w' : World} {base : Nat} {v : Value} {bs : List UInt8} (h : RowM w base v bs) (hb : Below w.heap.size w w') : RowM w' base v bs := by
  obtain ⟨g, cap, cur, fz, rfl, hbb, hgg, rest⟩ := h
  refine ⟨g, cap, cur, fz, rfl, hbb, ?_, rest⟩
  rw [hb.block g (Array.getElem?_eq_some_iff.1 hgg).1]
  exact hgg

theorem RowM.cells {w : World} {base g n cap : Nat} {bs : List UInt8} (h : RowM w base (.slice (some ⟨g, 0, none⟩) n cap) bs) : ∀ j u, (Lib.byteCells bs)[j]? = some u → w.cell? ((⟨g, 0, none⟩ : Addr).add j) = some u := by
  obtain ⟨g', cap', cur, fz, e, hb, hgg, -, hle, -, hs, ht⟩ := h
  injection e with e1 e2 e3
  injection e1 with e1
  injection e1 with e1
  subst e1
  intro j u hu
  rw [← ht] at hu
  rw [add_none, Nat.zero_add]
  have hj : cur.toList[j]? = some u := by
    rw [List.getElem?_take] at hu
    split at hu
    · exact hu
    · cases hu
  simp only [World.cell?, hgg]
  simpa using hj

/-- A stretch of cells is written, none of which may not be. -/
theorem store_free (P : Program) (g o : Nat) (t : TypeId) (fz : Nat × Nat) : ∀ (vs : List Value) (i : Nat) (cur : Array Value) (w : World), w.heap[g]? = some (.cells cur t fz) → (∀ j, j < o + i + vs.length → ¬ (fz.1 ≤ j ∧ j < fz.2)) → o + i + vs.length ≤ cur.size → (∀ v ∈ vs, v.oneCell' = true) →
    (storeCells ⟨g, o, none⟩ vs i).run P w = .ok () (w.setRow g (cur.toList.take (o + i) ++ vs ++ cur.toList.drop (o + i + vs.length)).toArray) := by
  intro vs
  induction vs with
  | nil =>
    intro i cur w hg _ _ _
    have e : (cur.toList.take (o + i) ++ ([] : List Value) ++ cur.toList.drop (o + i + ([] : List Value).length)).toArray = cur := by simp
    rw [e, setRow_self w g cur t fz hg]
    rfl
  | cons v rest ih =>
    intro i cur w hg hz hl h1
    have hlen : o + i + (rest.length + 1) ≤ cur.size := hl
    have hin : o + i < cur.size := by omega
    have hz0 := hz (o + i) (by rw [List.length_cons]; omega)
    have hcell : w.cell? ⟨g, o + i, none⟩ = some cur[o + i] := by simp [World.cell?, hg, hin]
    have hsoft : w.frozen? ⟨g, o + i, none⟩ = false := by
      simp only [World.frozen?, hg]
      rw [← Bool.not_eq_true, Bool.and_eq_true, decide_eq_true_eq, decide_eq_true_eq]
      exact hz0
    have hst : (store ((⟨g, o, none⟩ : Addr).add i) v).run P w = .ok () (w.setRow g (cur.setIfInBounds (o + i) v)) := by
      rw [add_none, run_store P w _ v _ (h1 v (List.mem_cons_self ..)), hcell, hsoft]
      simp only [Bool.false_eq_true, if_false]
      rw [setCell_eq_setRow w g (o + i) cur t fz v hg]
    have hnext := ih (i + 1) (cur.setIfInBounds (o + i) v) (w.setRow g (cur.setIfInBounds (o + i) v)) (setRow_heap w g cur _ t _ hg) (fun j hj => hz j (by rw [List.length_cons]; omega)) (by rw [Array.size_setIfInBounds]; omega) (fun x hx => h1 x (List.mem_cons_of_mem _ hx))
    unfold storeCells
    rw [Sem.run_bind, hst, Result.andThen_ok, hnext, setRow_setRow]
    have e := list_seg_step cur.toList (o + i) v rest (by simpa using hlen)
    rw [Array.toList_setIfInBounds, ← Nat.add_assoc, List.length_cons]
    rw [e]

theorem byteInfoM : Tryd.prog.info? 5 = some Tryd.t5 := by kernel_rfl

theorem byteCells_ones (T : List UInt8) : ∀ u ∈ Lib.byteCells T, u.oneCell' = true := by
  intro u hu
  simp only [Lib.byteCells, List.mem_map] at hu
  obtain ⟨b, -, rfl⟩ := hu
  rfl

theorem byteCells_len (T : List UInt8) : (Lib.byteCells T).length = T.length := by simp [Lib.byteCells]

theorem byteCells_app (S T : List UInt8) : Lib.byteCells (S ++ T) = Lib.byteCells S ++ Lib.byteCells T := by simp [Lib.byteCells]

/-- There is room: what is written behind. -/
theorem RowM.room {w : World} {base g cap : Nat} {cur : Array Value} {fz : Nat × Nat} {bs : List UInt8} (T : List UInt8) (hb : base ≤ g) (hg : w.heap[g]? = some (.cells cur 5 fz)) (hz : ∀ j, j < cap → ¬ (fz.1 ≤ j ∧ j < fz.2)) (hm : cap ≤ maxLen) (hs : cur.size = cap) (ht : cur.toList.take bs.length = Lib.byteCells bs) (hroom : bs.length + T.length ≤ cap) :
    RowM (w.setRow g (cur.toList.take bs.length ++ Lib.byteCells T ++ cur.toList.drop (bs.length + T.length)).toArray) base (.slice (some ⟨g, 0, none⟩) (bs.length + T.length) cap) (bs ++ T) ∧ w.grownBy (w.setRow g (cur.toList.take bs.length ++ Lib.byteCells T ++ cur.toList.drop (bs.length + T.length)).toArray) (some g) := by
  refine ⟨⟨g, cap, _, fz, by rw [List.length_append], hb, setRow_heap w g cur _ _ _ hg, hz, by rw [List.length_append]; exact hroom, hm, ?_, ?_⟩, ⟨rfl, rfl, rfl, by simp, fun k _ hk => setRow_other w g k _ (fun e => hk (by rw [e]))⟩⟩
  · simp only [List.size_toArray, List.length_append, List.length_take, List.length_drop, Array.length_toList, byteCells_len]
    omega
  · rw [ht, byteCells_app, List.length_append, ← byteCells_len bs, ← byteCells_len T, ← List.length_append]
    exact List.take_left

/-- There is none: a new row. -/
theorem RowM.grow {w : World} {base n c : Nat} {bs : List UInt8} (T : List UInt8) (hbase : base ≤ w.heap.size) (hn : n = bs.length + T.length) (hc : n ≤ c) (hm : c ≤ maxLen) (zs : Array Value) (hzs : zs.size = c - n) (row : Option Nat) :
    RowM (w.drew.alloc (.cells ((Lib.byteCells bs).toArray ++ (Lib.byteCells T).toArray ++ zs) 5)) base (.slice (some ⟨w.heap.size, 0, none⟩) n c) (bs ++ T) ∧ w.grownBy (w.drew.alloc (.cells ((Lib.byteCells bs).toArray ++ (Lib.byteCells T).toArray ++ zs) 5)) row := by
  subst hn
  refine ⟨⟨w.heap.size, c, _, (0, 0), by rw [List.length_append], hbase, heap_alloc_new w.drew _, fun j _ h => by have := h.2; simp at this, by rw [List.length_append]; exact hc, hm, ?_, ?_⟩, ⟨rfl, rfl, rfl, by simp, fun k hk _ => heap_alloc_old w.drew _ hk⟩⟩
  · simp only [Array.size_append, List.size_toArray, byteCells_len, hzs]
    omega
  · simp only [Array.toList_append, List.append_assoc]
    rw [← List.append_assoc, byteCells_app, List.length_append, ← byteCells_len bs, ← byteCells_len T, ← List.length_append]
    exact List.take_left

/-- Bytes of another row are appended. -/
theorem run_app_bytes {w : World} {base : Nat} {v : Value} {bs : List UInt8} (h : RowM w base v bs) (hbase : base ≤ w.heap.size) (ty : TypeId) (a : Addr) (c : Nat) (T : List UInt8) (hnews : ∀ j u, (Lib.byteCells T)[j]? = some u → w.cell? (a.add j) = some u) (hlim : bs.length + T.length ≤ 900000) :
    ∃ v' w', (Builtin.append_ #[106, 106] ty #[v, .slice (some a) T.length c]).run Tryd.prog w = .ok v' w' ∧ RowM w' base v' (bs ++ T) ∧ w.grownBy w' v.ownBlock := by
  have h' := h
  obtain ⟨g, cap, cur, fz, rfl, hb, hg, hz, hle, hm, hs, ht⟩ := h
  have hsz : (Tryd.t5).size = 1 := by kernel_rfl
  have hby : (Tryd.t5).bytes = 1 := by kernel_rfl
  by_cases hroom : bs.length + T.length ≤ cap
  · have hf := run_firstCells_some (P := Tryd.prog) w (Tryd.t5).size T.length a T.length c (Lib.byteCells T) (by rw [byteCells_len, hsz, Nat.mul_one]) hnews
    have hst := store_free Tryd.prog g bs.length 5 fz (Lib.byteCells T) 0 cur w hg (fun j hj => hz j (by rw [byteCells_len] at hj; omega)) (by rw [byteCells_len]; omega) (byteCells_ones T)
    simp only [Nat.add_zero, byteCells_len] at hst
    obtain ⟨r1, r2⟩ := RowM.room T hb hg hz hm hs ht hroom
    refine ⟨_, _, ?_, r1, r2⟩
    rw [hsz] at hf
    simp [Builtin.append_, run_underlying Tryd.underlying106, sizeOf, typeInfo, byteInfoM, hsz, Builtin.lenOf, hroom, hf, Addr.add_lit, hst]
  · have hr := run_append_grow (P := Tryd.prog) w 106 ty 5 Tryd.t5 (.int .u8 0) Tryd.underlying106 byteInfoM (by kernel_rfl) ⟨g, 0, none⟩ bs.length cap (Lib.byteCells bs) (by rw [byteCells_len, hsz, Nat.mul_one]) h'.cells a T.length c (Lib.byteCells T) (by rw [byteCells_len, hsz, Nat.mul_one]) hnews (by omega) (by omega) (growslice_fits (by omega) (by rw [hby]; omega))
    obtain ⟨r1, r2⟩ := RowM.grow (w := w) (bs := bs) T hbase rfl (grownCap_ge w (bs.length + T.length) cap 5) (grownCap_le_maxLen w (bs.length + T.length) cap 5 (by unfold maxLen; omega)) (Builtin.zeroCells (Value.int .u8 0).cells (grownCap w (bs.length + T.length) cap 5 - (bs.length + T.length))) (by rw [size_zeroCells]; show _ * 1 = _; omega) (some g)
    exact ⟨_, _, hr, r1, r2⟩

/-- A string's bytes are appended. -/
theorem run_app_text {w : World} {base : Nat} {v : Value} {bs : List UInt8} (h : RowM w base v bs) (hbase : base ≤ w.heap.size) (ty : TypeId) (T : List UInt8) (hlim : bs.length + T.length ≤ 900000) :
    ∃ v' w', (Builtin.append_ #[106, 9] ty #[v, .string ⟨T.toArray⟩]).run Tryd.prog w = .ok v' w' ∧ RowM w' base v' (bs ++ T) ∧ w.grownBy w' v.ownBlock := by
  have h' := h
  obtain ⟨g, cap, cur, fz, rfl, hb, hg, hz, hle, hm, hs, ht⟩ := h
  have hsz : (Tryd.t5).size = 1 := by kernel_rfl
  have hby : (Tryd.t5).bytes = 1 := by kernel_rfl
  have hT : (⟨T.toArray⟩ : ByteArray).size = T.length := by simp [ByteArray.size]
  have hsc : Lib.strCells ⟨T.toArray⟩ = Lib.byteCells T := by simp [Lib.strCells, Lib.byteCells]
  by_cases hroom : bs.length + T.length ≤ cap
  · have hf := Lib.run_firstCells_string (P := Tryd.prog) w 1 ⟨T.toArray⟩
    rw [hT, hsc] at hf
    have hst := store_free Tryd.prog g bs.length 5 fz (Lib.byteCells T) 0 cur w hg (fun j hj => hz j (by rw [byteCells_len] at hj; omega)) (by rw [byteCells_len]; omega) (byteCells_ones T)
    simp only [Nat.add_zero, byteCells_len] at hst
    obtain ⟨r1, r2⟩ := RowM.room T hb hg hz hm hs ht hroom
    refine ⟨_, _, ?_, r1, r2⟩
    simp [Builtin.append_, run_underlying Tryd.underlying106, run_underlying Tryd.underlying9, sizeOf, typeInfo, byteInfoM, hsz, Builtin.lenOf, hT, hroom, hf, Addr.add_lit, hst]
  · have hr := Lib.run_append_grow_string (P := Tryd.prog) w 106 9 ty 5 Tryd.t5 (.int .u8 0) Tryd.underlying106 Tryd.underlying9 byteInfoM (by kernel_rfl) ⟨g, 0, none⟩ bs.length cap (Lib.byteCells bs) (by rw [byteCells_len, hsz, Nat.mul_one]) h'.cells ⟨T.toArray⟩ (by rw [hT]; omega) (by rw [hT]; omega) (by rw [hT, hby]; exact growslice_fits (by omega) (by omega))
    rw [hT, hsc] at hr
    obtain ⟨r1, r2⟩ := RowM.grow (w := w) (bs := bs) T hbase rfl (grownCap_ge w (bs.length + T.length) cap 5) (grownCap_le_maxLen w (bs.length + T.length) cap 5 (by unfold maxLen; omega)) (Builtin.zeroCells (Value.int .u8 0).cells (grownCap w (bs.length + T.length) cap 5 - (bs.length + T.length))) (by rw [size_zeroCells]; show _ * 1 = _; omega) (some g)
    exact ⟨_, _, hr, r1, r2⟩
end Go.Proofs.YtpiacnnifdjlkaaDoor

/-
  A text that grows from a converted string on; numerals are appended to it.
-/
namespace Go.Proofs
open Go.Shelf

def YtpiacnnifdjlkaaDoor.laysSmall_ren : Go.Shelf.Ren := ⟨fun | 283 => 160 | n => n, fun | 3 => 3 | 9 => 9 | 4 => 4 | n => n, fun | n => n⟩
theorem YtpiacnnifdjlkaaDoor.laysSmall : Go.Proofs.Lays.n283 Tryd.prog YtpiacnnifdjlkaaDoor.laysSmall_ren := {
  mixed := by kernel_rfl
  f283 := Tryd.func160.trans (congrArg some (by kernel_rfl))
  t3 := Tryd.underlying3
  a3 := Tryd.isAgg3
  z3 := Tryd.sizeOf3
  v3 := Tryd.zeroValue3
  t4 := Tryd.underlying4
  a4 := Tryd.isAgg4
  z4 := Tryd.sizeOf4
  v4 := Tryd.zeroValue4
  t9 := Tryd.underlying9
  a9 := Tryd.isAgg9
  z9 := Tryd.sizeOf9
  v9 := Tryd.zeroValue9 }
def YtpiacnnifdjlkaaDoor.laysDigits_ren : Go.Shelf.Ren := ⟨fun | 284 => 161 | 129 => 173 | 317 => 172 | 318 => 174 | n => n, fun | 53 => 141 | 3 => 3 | 212 => 205 | 0 => 0 | 4 => 4 | 46 => 188 | 5 => 5 | 9 => 9 | n => n, fun | 17 => 1 | n => n⟩
theorem YtpiacnnifdjlkaaDoor.laysDigits : Go.Proofs.LaysM.n284 Tryd.prog YtpiacnnifdjlkaaDoor.laysDigits_ren := {
  mixed := by kernel_rfl
  f129 := Tryd.func173.trans (congrArg some (by kernel_rfl))
  f284 := Tryd.func161.trans (congrArg some (by kernel_rfl))
  f317 := Tryd.func172.trans (congrArg some (by kernel_rfl))
  f318 := Tryd.func174.trans (congrArg some (by kernel_rfl))
  t0 := Tryd.underlying0
  a0 := Tryd.isAgg0
  z0 := Tryd.sizeOf0
  v0 := Tryd.zeroValue0
  t3 := Tryd.underlying3
  a3 := Tryd.isAgg3
  z3 := Tryd.sizeOf3
  v3 := Tryd.zeroValue3
  t4 := Tryd.underlying4
  a4 := Tryd.isAgg4
  z4 := Tryd.sizeOf4
  v4 := Tryd.zeroValue4
  t5 := Tryd.underlying5
  a5 := Tryd.isAgg5
  z5 := Tryd.sizeOf5
  v5 := Tryd.zeroValue5
  t9 := Tryd.underlying9
  a9 := Tryd.isAgg9
  z9 := Tryd.sizeOf9
  v9 := Tryd.zeroValue9
  t46 := Tryd.underlying188
  a46 := Tryd.isAgg188
  z46 := Tryd.sizeOf188
  v46 := Tryd.zeroValue188
  t53 := Tryd.underlying141
  a53 := Tryd.isAgg141
  z53 := Tryd.sizeOf141
  v53 := Tryd.zeroValue141
  t212 := Tryd.underlying205
  a212 := Tryd.isAgg205
  z212 := Tryd.sizeOf205
  v212 := Tryd.zeroValue205
  g17 := by kernel_rfl
  i0 := by kernel_rfl
  i3 := by kernel_rfl
  i4 := by kernel_rfl
  i5 := by kernel_rfl
  i9 := by kernel_rfl
  i46 := by kernel_rfl
  i53 := by kernel_rfl
  i212 := by kernel_rfl
  m17 := by kernel_rfl }
def YtpiacnnifdjlkaaDoor.laysFormat_ren : Go.Shelf.Ren := ⟨fun | 285 => 162 | n => n, fun | 37 => 106 | 53 => 141 | 3 => 3 | 4 => 4 | 51 => 206 | 9 => 9 | 5 => 5 | 0 => 0 | n => n, fun | n => n⟩
theorem YtpiacnnifdjlkaaDoor.laysFormat : Go.Proofs.Lays.n285 Tryd.prog YtpiacnnifdjlkaaDoor.laysFormat_ren := {
  mixed := by kernel_rfl
  f285 := Tryd.func162.trans (congrArg some (by kernel_rfl))
  t0 := Tryd.underlying0
  a0 := Tryd.isAgg0
  z0 := Tryd.sizeOf0
  v0 := Tryd.zeroValue0
  t3 := Tryd.underlying3
  a3 := Tryd.isAgg3
  z3 := Tryd.sizeOf3
  v3 := Tryd.zeroValue3
  t4 := Tryd.underlying4
  a4 := Tryd.isAgg4
  z4 := Tryd.sizeOf4
  v4 := Tryd.zeroValue4
  t5 := Tryd.underlying5
  a5 := Tryd.isAgg5
  z5 := Tryd.sizeOf5
  v5 := Tryd.zeroValue5
  t9 := Tryd.underlying9
  a9 := Tryd.isAgg9
  z9 := Tryd.sizeOf9
  v9 := Tryd.zeroValue9
  t37 := Tryd.underlying106
  a37 := Tryd.isAgg106
  z37 := Tryd.sizeOf106
  v37 := Tryd.zeroValue106
  t51 := Tryd.underlying206
  a51 := Tryd.isAgg206
  z51 := Tryd.sizeOf206
  v51 := Tryd.zeroValue206
  t53 := Tryd.underlying141
  a53 := Tryd.isAgg141
  z53 := Tryd.sizeOf141
  v53 := Tryd.zeroValue141 }
end Go.Proofs
namespace Go.Proofs.YtpiacnnifdjlkaaDoor
open Go.RowKit Go.Sort Go.Shelf

theorem small_any (i : Nat) (h : i < 100) (w : World) : Calls Tryd.prog 160 #[.int .i64 i] w fun e w' => e = .returned (.string ⟨(Lib.decDigits i).toArray⟩) ∧ w' = w := Any.internal_strconv_small laysSmall i h w

theorem numDigits_any (u : Nat) (h1 : 1 ≤ u) (h2 : u < 18446744073709551616) (w : World) (htab : Lib.TabIs Tryd.prog w "internal/strconv.uint64pow10" .u64 Lib.pow10Tab) : Calls Tryd.prog 161 #[.int .u64 u] w fun e w' => e = .returned (.int .i64 (Lib.nDigits u)) ∧ w' = w := Any.internal_strconv_numDigits laysDigits u h1 h2 w htab

/-- A text that grows, since a world w0. -/
structure TM (B : Nat) (w0 w : World) (v : Value) (bs : List UInt8) : Prop where
  row : RowM w B v bs
  below : Below B w0 w
  kept : Lib.OthersKept 5 none w0 w
  hB : B ≤ w.heap.size

theorem TM.alloc {B : Nat} {w0 w : World} {v : Value} {bs : List UInt8} (h : TM B w0 w v bs) (o : Obj) : TM B w0 (w.alloc o) v bs :=
  ⟨h.row.below (below_new _ _), h.below.alloc h.hB o, h.kept.alloc o, by have := h.hB; simp; omega⟩

theorem TM.trans {B : Nat} {w0 w w' : World} {v v' : Value} {bs bs' : List UInt8} (h : TM B w0 w v bs) (k : TM B w w' v' bs') : TM B w0 w' v' bs' :=
  ⟨k.row, h.below.trans k.below, h.kept.trans k.kept, k.hB⟩

theorem TM.again {B : Nat} {w0 w : World} {v : Value} {bs : List UInt8} (h : TM B w0 w v bs) : TM B w w v bs := ⟨h.row, Below.refl _ _, Lib.OthersKept.refl _ _ _, h.hB⟩

theorem TM.grown {B : Nat} {w0 w w' : World} {v v' : Value} {bs bs' : List UInt8} (h : TM B w0 w v bs) (hr : RowM w' B v' bs') (hg : w.grownBy w' v.ownBlock) : TM B w0 w' v' bs' :=
  ⟨hr, h.below.grown hg h.hB (fun k hk => (h.row.lt k hk).1), h.kept.grown hg h.row.kind, Nat.le_trans h.hB hg.size⟩

/-- A box that is no row of bytes stands. -/
theorem TM.box {B : Nat} {w0 w : World} {v : Value} {bs : List UInt8} (h : TM B w0 w v bs) {k : Nat} {cs : Array Value} {t : TypeId} {fz : Nat × Nat} (hk : w0.heap[k]? = some (.cells cs t fz)) (ht : t ≠ 5) : w.heap[k]? = some (.cells cs t fz) :=
  h.kept k _ hk (by simp) (fun c f e => by cases e; exact ht rfl)

theorem wpM_text {B : Nat} {w0 w : World} {v : Value} {bs : List UInt8} (h : TM B w0 w v bs) {ops : Array Oper} {rest : List Oper} {o : Oper} {a : Act} {Q : Exit → Act → World → Prop} (hgd : o.guard = none) (s x : Operand) (T : List UInt8)
    (ho : o.op = .call { callee := .builtin .append, args := #[s, x], argTypes := #[106, 9] }) (hs : a.eval s = v) (hx : a.eval x = .string ⟨T.toArray⟩) (hn : bs.length + T.length ≤ 900000)
    (hK : ∀ v' w', TM B w0 w' v' (bs ++ T) → wpList Tryd.prog ops Q rest (a.put o.dst v') w') : wpList Tryd.prog ops Q (o :: rest) a w := by
  obtain ⟨v', w', hr, h2, h3⟩ := run_app_text h.row h.hB o.type T hn
  refine wpList_plain hgd fun K hk => ?_
  unfold Oper.wp execOp
  simp only [ho, resolve, invoke, builtin, Sem.run_bind, Sem.run_pure, Result.andThen_ok, List.map_toArray, List.map_cons, List.map_nil, hs, hx, hr]
  exact hk _ _ (hK v' w' (h.grown h2 h3))

theorem wpM_bytes {B : Nat} {w0 w : World} {v : Value} {bs : List UInt8} (h : TM B w0 w v bs) {ops : Array Oper} {rest : List Oper} {o : Oper} {a : Act} {Q : Exit → Act → World → Prop} (hgd : o.guard = none) (s x : Operand) (T : List UInt8)
    (ho : o.op = .call { callee := .builtin .append, args := #[s, x], argTypes := #[106, 106] }) (hs : a.eval s = v) (p : Addr) (n c : Nat) (hx : a.eval x = .slice (some p) n c) (hT : T.length = n) (hc : ∀ j u, (Lib.byteCells T)[j]? = some u → w.cell? (p.add j) = some u) (hn : bs.length + T.length ≤ 900000)
    (hK : ∀ v' w', TM B w0 w' v' (bs ++ T) → wpList Tryd.prog ops Q rest (a.put o.dst v') w') : wpList Tryd.prog ops Q (o :: rest) a w := by
  subst hT
  obtain ⟨v', w', hr, h2, h3⟩ := run_app_bytes h.row h.hB o.type p c T hc hn
  refine wpList_plain hgd fun K hk => ?_
  unfold Oper.wp execOp
  simp only [ho, resolve, invoke, builtin, Sem.run_bind, Sem.run_pure, Result.andThen_ok, List.map_toArray, List.map_cons, List.map_nil, hs, hx, hr]
  exact hk _ _ (hK v' w' (h.grown h2 h3))

theorem few_digits {u : Nat} (h : u < 1000) : Lib.nDigits u ≤ 3 := by
  by_cases h1 : u < 10
  · rw [Lib.nDigits_small h1]; omega
  rw [Lib.nDigits_big h1]
  by_cases h2 : u / 10 < 10
  · rw [Lib.nDigits_small h2]; omega
  rw [Lib.nDigits_big h2, Lib.nDigits_small (by omega)]
  omega

set_option maxRecDepth 100000 in
set_option maxHeartbeats 4000000 in
theorem appendUint_small {B : Nat} {w : World} {v : Value} {bs : List UInt8} (h : TM B w w v bs) (u : Nat) (hu : u < 100) (hn : bs.length ≤ 800000) :
    Calls Tryd.prog 147 #[v, .int .u64 u, .int .i64 10] w fun e w' => ∃ v', e = .returned v' ∧ TM B w w' v' (bs ++ Lib.decDigits u) := by
  have H := hide h
  have hd := few_digits (show u < 1000 by omega)
  have hl := Lib.decDigits_length u
  have hlt : (u : Int) < 100 := by omega
  clear h
  go_enter Tryd.func147, Tryd.ntmps147
  go_wp2_with (fail)
  refine (small_any u hu _).mono ?_
  rintro e w1 ⟨rfl, rfl⟩
  go_wp2_with (at_builtin; refine wpM_text H.out rfl (.tmp 13) (.tmp 16) (Lib.decDigits u) rfl rfl rfl (by omega) ?_; intro v5 w5 h5; have H5 := hide h5; clear h5)
  go_ret
  exact ⟨_, rfl, H5.out⟩

open Go.Lib in
theorem format_any (w : World) (t : TypeId) (u : Nat) (h1 : 100 ≤ u) (h2 : u < 1000) :
    Calls Tryd.prog 162 #[.slice (some ⟨w.heap.size, 0, none⟩) 3 24, .int .u64 u] (w.alloc (.cells Lib.zeros24 t)) fun e w' => e = .returned (.tuple #[]) ∧ Below w.heap.size w w' ∧ ∀ j x, (Lib.byteCells (Lib.decDigits u))[j]? = some x → w'.cell? ((⟨w.heap.size, 0, none⟩ : Addr).add j) = some x := by
  have hnd : Lib.nDigits u = 3 := by rw [Lib.nDigits_big (by omega), Lib.nDigits_big (by omega), Lib.nDigits_small (by omega)]
  have hH := Lib.holds_zero0 w t 3 (by omega)
  have hf := Any.internal_strconv_formatBase10 laysFormat w.heap.size 0 24 u (Array.replicate 3 0) (w.alloc (.cells Lib.zeros24 t)) hH (by rw [Array.size_replicate]; omega) (by omega) (by rw [Array.size_replicate]; omega)
  rw [Array.size_replicate] at hf
  refine hf.mono ?_
  rintro e w' ⟨rfl, k, v', dk, rfl, hF⟩
  obtain ⟨os, eo⟩ := Lib.fin_at w (.cells Lib.zeros24 t) dk k 0
  refine ⟨rfl, by rw [eo]; exact Lib.below_grow _ w (Nat.le_refl _) k os, fun j x hx => ?_⟩
  have hj : j < (Lib.decDigits u).length := by
    have := (List.getElem?_eq_some_iff.1 hx).1
    rwa [byteCells_len] at this
  have ex : (Lib.byteCells (Lib.decDigits u))[j]? = some (Value.int .u8 ((Lib.decDigits u)[j].toNat : Int)) := by simp [Lib.byteCells, hj]
  rw [ex] at hx
  injection hx with hx
  subst hx
  have hF' : FmtInv (Lib.nDigits u) u 0 v' dk := by rw [hnd]; exact hF
  rw [Lib.row_is_numeral hF' j hj, add_none, World.cell?_drewN]
  exact cell?_putRow (fun (b : UInt8) => Value.int .u8 (b.toNat : Int)) _ w.heap.size 0 _ dk hH (by rw [hF.size, Array.size_replicate]) j (by rw [hF.size]; rw [Lib.decDigits_length, hnd] at hj; exact hj)

set_option maxRecDepth 100000 in
set_option maxHeartbeats 4000000 in
theorem appendUint_big {B : Nat} {w : World} {v : Value} {bs : List UInt8} (h : TM B w w v bs) (u : Nat) (h1 : 100 ≤ u) (h2 : u < 1000) (hn : bs.length ≤ 800000) (htab : Lib.TabIs Tryd.prog w "internal/strconv.uint64pow10" .u64 Lib.pow10Tab) :
    Calls Tryd.prog 147 #[v, .int .u64 u, .int .i64 10] w fun e w' => ∃ v', e = .returned v' ∧ TM B w w' v' (bs ++ Lib.decDigits u) := by
  have H := hide h
  have hnd : Lib.nDigits u = 3 := by rw [Lib.nDigits_big (by omega), Lib.nDigits_big (by omega), Lib.nDigits_small (by omega)]
  have HD := hide (numDigits_any u (by omega) (by omega) (w.alloc (.cells Lib.zeros24 195)) (Lib.tabIs_alloc htab _))
  rw [hnd] at HD
  have HF := hide (format_any w 195 u h1 h2)
  have hl := Lib.decDigits_length u
  rw [hnd] at hl
  have hlt : ¬ ((u : Int) < 100) := by omega
  have hu1 : (0 : Int) ≤ (u : Int) := by omega
  clear h htab hnd
  go_enter Tryd.func147, Tryd.ntmps147
  go_wp2_with (fail)
  refine HD.out.mono ?_
  rintro e w1 ⟨rfl, rfl⟩
  go_wp2_with (fail)
  refine HF.out.mono ?_
  rintro e w2 ⟨rfl, hb2, hc2⟩
  have H2 := hide (show TM B w w2 v bs from ⟨H.out.row.below hb2, hb2.mono H.out.hB, fun k o hk _ _ => (hb2.block k (Array.getElem?_eq_some_iff.1 hk).1).trans hk, Nat.le_trans H.out.hB hb2.size⟩)
  have HC := hide hc2
  clear hb2 hc2 HF HD H
  go_wp2_with (at_builtin; refine wpM_bytes H2.out rfl (.tmp 24) (.tmp 26) (Lib.decDigits u) rfl rfl ⟨w.heap.size, 0, none⟩ 3 24 rfl hl HC.out (by omega) ?_; intro v5 w5 h5; have H5 := hide h5; clear h5)
  go_ret
  exact ⟨_, rfl, H5.out⟩

set_option maxRecDepth 100000 in
set_option maxHeartbeats 4000000 in
theorem appendInt_few {B : Nat} {w : World} {v : Value} {bs : List UInt8} (h : TM B w w v bs) (i : Int) (h0 : 0 ≤ i) (h1 : i < 1000) (hn : bs.length ≤ 800000) (htab : Lib.TabIs Tryd.prog w "internal/strconv.uint64pow10" .u64 Lib.pow10Tab) :
    Calls Tryd.prog 87 #[v, .int .i64 i, .int .i64 10] w fun e w' => ∃ v', e = .returned v' ∧ TM B w w' v' (bs ++ Lib.itoa i) := by
  obtain ⟨u, rfl⟩ : ∃ u : Nat, i = u := ⟨i.toNat, by omega⟩
  rw [Lib.itoa_nonneg]
  have HU : Hid (Calls Tryd.prog 147 #[v, .int .u64 u, .int .i64 10] w fun e w' => ∃ v', e = .returned v' ∧ TM B w w' v' (bs ++ Lib.decDigits u)) := hide (by
    by_cases hu : u < 100
    · exact appendUint_small h u hu hn
    · exact appendUint_big h u (by omega) (by omega) hn htab)
  have HI : Hid (Calls Tryd.prog 115 #[v, .int .i64 (u : Int), .int .i64 10] w fun e w' => ∃ v', e = .returned v' ∧ TM B w w' v' (bs ++ Lib.decDigits u)) := hide (by
    have hw : IntKind.u64.wrap (u : Int) = (u : Int) := by rw [IntKind.wrap_u64]; omega
    have hlt : ¬ ((u : Int) < 0) := by omega
    clear h htab
    go_enter Tryd.func115, Tryd.ntmps115
    go_wp2_with (fail)
    refine HU.out.mono ?_
    rintro e w1 ⟨v1, rfl, h1⟩
    have H1 := hide h1
    clear h1
    go_wp2_with (fail)
    go_ret
    exact ⟨_, rfl, H1.out⟩)
  clear h htab HU
  go_enter Tryd.func87, Tryd.ntmps87
  go_wp2_with (fail)
  refine HI.out.mono ?_
  rintro e w1 ⟨v1, rfl, h1⟩
  have H1 := hide h1
  clear h1
  go_wp2_with (fail)
  go_ret
  exact ⟨_, rfl, H1.out⟩
end Go.Proofs.YtpiacnnifdjlkaaDoor

/-
  What appendNumbers of package auto writes behind a text.
-/
namespace Go.Proofs.YtpiacnnifdjlkaaDoor
open Go.RowKit Go.Sort

theorem byte_new (w : World) (c : UInt8) : ∀ j u, (Lib.byteCells [c])[j]? = some u → (w.alloc (Obj.cells #[.int .u8 (c.toNat : Int)] 5)).cell? ((⟨w.heap.size, 0, none⟩ : Addr).add j) = some u := by
  intro j u hu
  match j, hu with
  | 0, hu =>
    simp [Lib.byteCells] at hu
    subst hu
    rw [add_none]
    exact cell_of_row _ _ 0 _ _ _ (one_new w (Obj.cells #[.int .u8 (c.toNat : Int)] 5))
  | j + 1, hu => simp [Lib.byteCells] at hu

theorem itoa_few_len {z : Int} (h0 : 0 ≤ z) (h1 : z < 1000) : (Lib.itoa z).length ≤ 3 := by
  obtain ⟨u, rfl⟩ : ∃ u : Nat, z = u := ⟨z.toNat, by omega⟩
  rw [Lib.itoa_nonneg, Lib.decDigits_length]
  exact few_digits (by omega)

theorem numsT_len {zs : List Int} (h : ∀ z ∈ zs, 0 ≤ z ∧ z < 1000) : (numsT zs).length ≤ 4 * zs.length := by
  induction zs with
  | nil => simp [numsT]
  | cons z r ih =>
    have h1 := h z (List.mem_cons_self ..)
    have h2 := itoa_few_len h1.1 h1.2
    have h3 := ih (fun x hx => h x (List.mem_cons_of_mem _ hx))
    unfold numsT at h3 ⊢
    rw [List.flatMap_cons, List.length_append, List.length_cons, List.length_cons]
    omega

set_option maxRecDepth 100000 in
set_option maxHeartbeats 4000000 in
theorem appendNumbers_tm {B : Nat} {w : World} {v : Value} {bs : List UInt8} {zs : List Int} (h : TM B w w v bs) (a1 : Option Addr) (c1 : Nat) (hz : ∀ w1, Below B w w1 → Lib.OthersKept 5 none w w1 → IntSl w1 (.slice a1 zs.length c1) zs)
    (hr : ∀ z ∈ zs, 0 ≤ z ∧ z < 1000) (hlim : bs.length + 4 * zs.length ≤ 700000) (htab : Lib.TabBelow Tryd.prog B w "internal/strconv.uint64pow10" .u64 Lib.pow10Tab) :
    Calls Tryd.prog 85 #[v, .slice a1 zs.length c1] w fun e w' => ∃ v', e = .returned v' ∧ TM B w w' v' (bs ++ numsT zs ++ [10]) := by
  have H := hide h
  have Hz := hide hz
  have Hr := hide hr
  have Htab := hide htab
  have HN := hide (fun i => numsT_len (zs := zs.take i) (fun z hz => hr z (List.mem_of_mem_take hz)))
  clear h hz hr htab
  generalize hL : zs.length = L at *
  have HL := hide hL
  clear hL
  go_enter Tryd.func85, Tryd.ntmps85
  go_wp2_with (fail)
  go_loopw [0, 9] (fun s0 s9 wr => ∃ (i : Nat), s9 = .int .i64 i ∧ i ≤ L ∧ Hid (TM B w wr s0 (bs ++ numsT (zs.take i)))) (fun _ s9 _ => L - (intOf s9).toNat)
  case atStart => exact ⟨0, rfl, Nat.zero_le _, hide (by simpa [numsT] using H.out)⟩
  case round =>
    obtain ⟨i, rfl, hi, ht⟩ := hrel
    have hle : (numsT (zs.take i)).length ≤ 4 * i := Nat.le_trans (HN.out i) (by rw [List.length_take]; omega)
    by_cases hlt : i < L
    · have hls : i < zs.length := by rw [HL.out]; exact hlt
      obtain ⟨a', cap', e, _, hzz, _⟩ := Hz.out wr ht.out.below ht.out.kept
      injection e with e1 e2 e3
      subst e1
      rcases hzz with hzz | ⟨b, off, e, hcell⟩
      · rw [hzz] at hls; simp at hls
      subst e
      have d0 := hcell i hls
      have hmem : zs.getD i 0 ∈ zs := by simp [List.getD, hls]
      have Hzr := hide (Hr.out _ hmem)
      have HT := hide (numsT_take zs i hls)
      generalize zs.getD i 0 = z at *
      generalize numsT (zs.take i) = tx at *
      clear hcell e2 e3 hmem
      go_wp2_with (at_builtin; refine wpM_bytes (ht.out.alloc _) rfl (.tmp 13) (.tmp 14) [32] rfl rfl ⟨wr.heap.size, 0, none⟩ 1 1 rfl rfl (byte_new wr 32) (by simp; omega) ?_; intro v5 w5 h5; have H5 := hide h5; clear h5)
      refine (appendInt_few H5.out.again z Hzr.out.1 Hzr.out.2 (by simp; omega) (Htab.out _ H5.out.below)).mono ?_
      rintro e w6 ⟨v6, rfl, h6⟩
      have H6 := hide (H5.out.trans h6)
      clear h6 H5 d0 ht
      go_wp2_with (fail)
      go_roundw
      case rel =>
        refine ⟨i + 1, by go_num, by omega, hide ?_⟩
        rw [HT.out]
        have := H6.out
        simpa using this
      case measure => simp [intOf]; omega
    · obtain rfl : L = i := by omega
      have e1 : zs.take L = zs := by rw [← HL.out]; exact List.take_length
      rw [e1] at ht hle
      have HT := hide ht.out
      clear ht
      go_wp2_with (at_builtin; refine wpM_bytes (HT.out.alloc _) rfl (.tmp 20) (.tmp 21) [10] rfl rfl ⟨wr.heap.size, 0, none⟩ 1 1 rfl rfl (byte_new wr 10) (by simp; omega) ?_; intro v5 w5 h5; have H5 := hide h5; clear h5)
      go_ret
      exact ⟨_, rfl, H5.out⟩
end Go.Proofs.YtpiacnnifdjlkaaDoor

namespace Go.Proofs.YtpiacnnifdjlkaaDoor
open Go.RowKit Go.Sort

/-- The temporaries that a region's operations write. -/
def dstList (ops : Array Oper) : List Nat → List (Nat × Tmp)
  | [] => []
  | i :: l => match dstAt ops i with
    | some d => (i, d) :: dstList ops l
    | none => dstList ops l

def putPairs (vs : Nat → Value) : List (Nat × Tmp) → Array Value → Array Value
  | [], t => t
  | (i, d) :: l, t => putPairs vs l (t.setIfInBounds d (vs i))

theorem putAll_pairs (ops : Array Oper) (vs : Nat → Value) : ∀ (l : List Nat) (t : Array Value), putAll ops vs l t = putPairs vs (dstList ops l) t
  | [], _ => rfl
  | i :: l, t => by
    rw [putAll, dstList, putAll_pairs ops vs l]
    cases dstAt ops i <;> rfl

/-- As wp_region_amid, the temporaries that are written told ahead. -/
theorem wp_region_told {P : Program} {ops : Array Oper} {Q : Exit → Act → World → Prop} {id : Nat} {a0 : Act} {w : World} (ds : List (Nat × Tmp)) (W : World → Prop) (R : Nat → Value → World → Prop) (hds : dstList ops (List.range ops.size) = ds) (hm : P.follows .mixedOrders = true) (h : orderly ops a0.tmps.size = true)
    (h0 : W { w with drawn := w.drawn + 1 }) (hstep : ∀ i o, ops[i]? = some o → StepOk P ops Q W R a0 i o)
    (hend : ∀ (vs : Nat → Value) (w : World), W w → (∀ i, i < ops.size → R i (vs i) w) → Q .normal { a0 with tmps := putPairs vs ds a0.tmps } w) : (Code.region id ops true).wp P Q a0 w :=
  wp_region_amid W R hm h h0 hstep (fun vs w hW hR => by rw [putAll_pairs, hds]; exact hend vs w hW hR)

theorem cell_kept {w w' : World} {b o : Nat} {v : Value} (h : w.cell? ⟨b, o, none⟩ = some v) (hb : Below w.heap.size w w') : w'.cell? ⟨b, o, none⟩ = some v := (hb.cell (p := ⟨b, o, none⟩) (World.block_lt_of_cell? w _ h)).trans h

theorem texts_app (l m : List UInt8) : (⟨l.toArray⟩ : ByteArray) ++ ⟨m.toArray⟩ = ⟨(l ++ m).toArray⟩ := by
  apply ByteArray.ext
  simp

theorem run_join (A B : List UInt8) (h : A.length + B.length ≤ 1000000) (W : World) : (binOp .add 9 (.string ⟨A.toArray⟩) (.string ⟨B.toArray⟩)).run Tryd.prog W = .ok (.string ⟨(A ++ B).toArray⟩) W := by
  have h1 : (⟨A.toArray⟩ : ByteArray).size = A.length := by simp [ByteArray.size]
  have h2 : (⟨B.toArray⟩ : ByteArray).size = B.length := by simp [ByteArray.size]
  rw [← texts_app]
  simp [go_sem, h1, h2]
  omega

theorem op_join {a : Act} {o : Oper} {x y : Operand} (A B : List UInt8) (W : World) (ho : o.op = .binOp .add 9 x y 9) (hx : a.eval x = .string ⟨A.toArray⟩) (hy : a.eval y = .string ⟨B.toArray⟩) (h : A.length + B.length ≤ 1000000) : (execOp a.eval o).run Tryd.prog W = .ok (.value (.string ⟨(A ++ B).toArray⟩)) W := by
  unfold execOp
  simp only [ho, hx, hy]
  have hr := run_join A B h W
  simp [eqGuard, hr]
end Go.Proofs.YtpiacnnifdjlkaaDoor
