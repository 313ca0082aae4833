/-
  What (reader).number answers where a digit stands, and none behind it.
-/
import Derived.Test.YtpiacnnifdjlkaaDoorAz
import Derived.Lib.AppendStr
import Derived.Lib.OthersKept
import Derived.Shelf.Strconv.AppendIntPublic10
import Derived.Shelf.Strings.Prefix
import Derived.Ground.NamesProg
import Derived.BigQuiet
import Derived.Lib.QuietBelow
/-
  A text that grows: bytes and strings appended to a row of the call's own; what Go's library answers to formula.Print and formula.Parse.
-/
namespace Go.Proofs
open Go.Shelf

def YtpiacnnifdjlkaaDoor.laysAppendInt_ren : Go.Shelf.Ren := ⟨fun | 176 => 87 | 249 => 115 | 288 => 147 | 283 => 160 | 284 => 161 | 285 => 162 | 286 => 163 | 129 => 173 | 317 => 172 | 318 => 174 | 319 => 175 | 320 => 176 | 337 => 180 | 338 => 171 | n => n, fun | 37 => 106 | 2 => 2 | 3 => 3 | 53 => 141 | 4 => 4 | 9 => 9 | 171 => 195 | 0 => 0 | 173 => 198 | 212 => 205 | 51 => 206 | 5 => 5 | 20 => 20 | 213 => 207 | 46 => 188 | 232 => 217 | 233 => 211 | n => n, fun | 17 => 1 | 18 => 5 | 19 => 2 | n => n⟩
theorem YtpiacnnifdjlkaaDoor.laysAppendInt : Go.Proofs.LaysM.n176 Tryd.prog YtpiacnnifdjlkaaDoor.laysAppendInt_ren := {
  mixed := by kernel_rfl
  f129 := Tryd.func173.trans (congrArg some (by kernel_rfl))
  f176 := Tryd.func87.trans (congrArg some (by kernel_rfl))
  f249 := Tryd.func115.trans (congrArg some (by kernel_rfl))
  f283 := Tryd.func160.trans (congrArg some (by kernel_rfl))
  f284 := Tryd.func161.trans (congrArg some (by kernel_rfl))
  f285 := Tryd.func162.trans (congrArg some (by kernel_rfl))
  f286 := Tryd.func163.trans (congrArg some (by kernel_rfl))
  f288 := Tryd.func147.trans (congrArg some (by kernel_rfl))
  f317 := Tryd.func172.trans (congrArg some (by kernel_rfl))
  f318 := Tryd.func174.trans (congrArg some (by kernel_rfl))
  f319 := Tryd.func175.trans (congrArg some (by kernel_rfl))
  f320 := Tryd.func176.trans (congrArg some (by kernel_rfl))
  f337 := Tryd.func180.trans (congrArg some (by kernel_rfl))
  f338 := Tryd.func171.trans (congrArg some (by kernel_rfl))
  t0 := Tryd.underlying0
  a0 := Tryd.isAgg0
  z0 := Tryd.sizeOf0
  v0 := Tryd.zeroValue0
  t2 := Tryd.underlying2
  a2 := Tryd.isAgg2
  z2 := Tryd.sizeOf2
  v2 := Tryd.zeroValue2
  t3 := Tryd.underlying3
  a3 := Tryd.isAgg3
  z3 := Tryd.sizeOf3
  v3 := Tryd.zeroValue3
  t4 := Tryd.underlying4
  a4 := Tryd.isAgg4
  z4 := Tryd.sizeOf4
  v4 := Tryd.zeroValue4
  t5 := Tryd.underlying5
  a5 := Tryd.isAgg5
  z5 := Tryd.sizeOf5
  v5 := Tryd.zeroValue5
  t9 := Tryd.underlying9
  a9 := Tryd.isAgg9
  z9 := Tryd.sizeOf9
  v9 := Tryd.zeroValue9
  t20 := Tryd.underlying20
  a20 := Tryd.isAgg20
  z20 := Tryd.sizeOf20
  v20 := Tryd.zeroValue20
  t37 := Tryd.underlying106
  a37 := Tryd.isAgg106
  z37 := Tryd.sizeOf106
  v37 := Tryd.zeroValue106
  t46 := Tryd.underlying188
  a46 := Tryd.isAgg188
  z46 := Tryd.sizeOf188
  v46 := Tryd.zeroValue188
  t51 := Tryd.underlying206
  a51 := Tryd.isAgg206
  z51 := Tryd.sizeOf206
  v51 := Tryd.zeroValue206
  t53 := Tryd.underlying141
  a53 := Tryd.isAgg141
  z53 := Tryd.sizeOf141
  v53 := Tryd.zeroValue141
  t171 := Tryd.underlying195
  a171 := Tryd.isAgg195
  z171 := Tryd.sizeOf195
  v171 := Tryd.zeroValue195
  t173 := Tryd.underlying198
  a173 := Tryd.isAgg198
  z173 := Tryd.sizeOf198
  v173 := Tryd.zeroValue198
  t212 := Tryd.underlying205
  a212 := Tryd.isAgg205
  z212 := Tryd.sizeOf205
  v212 := Tryd.zeroValue205
  t213 := Tryd.underlying207
  a213 := Tryd.isAgg207
  z213 := Tryd.sizeOf207
  t232 := Tryd.underlying217
  a232 := Tryd.isAgg217
  z232 := Tryd.sizeOf217
  v232 := Tryd.zeroValue217
  t233 := Tryd.underlying211
  a233 := Tryd.isAgg211
  z233 := Tryd.sizeOf211
  v233 := Tryd.zeroValue211
  g17 := by kernel_rfl
  g18 := by kernel_rfl
  g19 := by kernel_rfl
  i0 := by kernel_rfl
  i2 := by kernel_rfl
  i3 := by kernel_rfl
  i4 := by kernel_rfl
  i5 := by kernel_rfl
  i9 := by kernel_rfl
  i20 := by kernel_rfl
  i37 := by kernel_rfl
  i46 := by kernel_rfl
  i51 := by kernel_rfl
  i53 := by kernel_rfl
  i171 := by kernel_rfl
  i173 := by kernel_rfl
  i212 := by kernel_rfl
  i232 := by kernel_rfl
  i233 := by kernel_rfl
  m17 := by kernel_rfl
  m18 := by kernel_rfl
  m19 := by kernel_rfl }
def YtpiacnnifdjlkaaDoor.laysHasPrefix_ren : Go.Shelf.Ren := ⟨fun | 99 => 130 | 206 => 156 | n => n, fun | 9 => 9 | 4 => 4 | 3 => 3 | n => n, fun | n => n⟩
theorem YtpiacnnifdjlkaaDoor.laysHasPrefix : Go.Proofs.Lays.n99 Tryd.prog YtpiacnnifdjlkaaDoor.laysHasPrefix_ren := {
  mixed := by kernel_rfl
  f99 := Tryd.func130.trans (congrArg some (by kernel_rfl))
  f206 := Tryd.func156.trans (congrArg some (by kernel_rfl))
  t3 := Tryd.underlying3
  a3 := Tryd.isAgg3
  z3 := Tryd.sizeOf3
  v3 := Tryd.zeroValue3
  t4 := Tryd.underlying4
  a4 := Tryd.isAgg4
  z4 := Tryd.sizeOf4
  v4 := Tryd.zeroValue4
  t9 := Tryd.underlying9
  a9 := Tryd.isAgg9
  z9 := Tryd.sizeOf9
  v9 := Tryd.zeroValue9 }
end Go.Proofs
namespace Go.Proofs.YtpiacnnifdjlkaaDoor
open Go.RowKit Go.Sort Go.Shelf

theorem appendIntF_any (B n : Nat) (i : Int) (h0 : -9223372036854775808 ≤ i) (h1 : i ≤ 9223372036854775807) (sv : Value) (xs : List Value) (w : World) (hown : w.ownsRow B 5 1 sv n xs) (hB : B ≤ w.heap.size) (hlim : n + 21 ≤ 140737488355328) (htab : Lib.TabBelow Tryd.prog B w "internal/strconv.uint64pow10" .u64 Lib.pow10Tab) :
    Calls Tryd.prog 87 #[sv, .int .i64 i, .int .i64 10] w fun e w' => ∃ v', e = .returned v' ∧ w'.ownsRow B 5 1 v' (n + (Lib.itoa i).length) (xs ++ Lib.byteCells (Lib.itoa i)) ∧ Below B w w' ∧ Lib.OthersKept 5 none w w' :=
  Any.strconv_AppendInt_10 laysAppendInt B n i h0 h1 sv xs w hown hB hlim htab

theorem hasPrefix_any (s p : ByteArray) (w : World) :
    Calls Tryd.prog 130 #[.string s, .string p] w fun e w' => e = .returned (.bool (Lib.hasPrefix s.data.toList p.data.toList)) ∧ w' = w :=
  Any.strings_HasPrefix laysHasPrefix s p w

theorem byteInfoF : Tryd.prog.info? 5 = some Tryd.t5 := by kernel_rfl
theorem elkByte : ElK 106 5 1 := ⟨Tryd.underlying106, ⟨_, .int .u8 0, byteInfoF, by kernel_rfl, rfl, by kernel_rfl, by kernel_rfl⟩, by decide⟩

theorem owns_cellsF {w : World} {base : Nat} {e : TypeId} {size : Nat} {v : Value} {n : Nat} {xs : List Value} (h : w.ownsRow base e size v n xs) : ∀ g, v.ownBlock = some g → ∃ c fz, w.heap[g]? = some (.cells c e fz) := by
  intro g hg
  rcases h.2 with ⟨rfl, _⟩ | ⟨g', cap, cur, rfl, _, hc, _⟩
  · cases hg
  · have : g' = g := by simpa [Value.ownBlock] using hg
    subst this
    exact ⟨_, _, hc⟩

/-- A text that grows, since a world w0. -/
structure AP (B : Nat) (w0 w : World) (v : Value) (bs : List UInt8) : Prop where
  own : w.ownsRow B 5 1 v bs.length (Lib.byteCells bs)
  below : Below B w0 w
  kept : Lib.OthersKept 5 none w0 w
  hB : B ≤ w.heap.size

theorem AP.alloc {B : Nat} {w0 w : World} {v : Value} {bs : List UInt8} (h : AP B w0 w v bs) (o : Obj) : AP B w0 (w.alloc o) v bs :=
  ⟨h.own.alloc o, h.below.alloc h.hB o, h.kept.alloc o, by have := h.hB; simp; omega⟩

theorem AP.drew {B : Nat} {w0 w : World} {v : Value} {bs : List UInt8} (h : AP B w0 w v bs) : AP B w0 w.drew v bs := ⟨h.own, Below.drew h.below, h.kept, h.hB⟩

theorem AP.trans {B : Nat} {w0 w w' : World} {v v' : Value} {bs bs' : List UInt8} (h : AP B w0 w v bs) (k : AP B w w' v' bs') : AP B w0 w' v' bs' :=
  ⟨k.own, h.below.trans k.below, h.kept.trans k.kept, k.hB⟩

theorem AP.again {B : Nat} {w0 w : World} {v : Value} {bs : List UInt8} (h : AP B w0 w v bs) : AP B w w v bs := ⟨h.own, Below.refl _ _, Lib.OthersKept.refl _ _ _, h.hB⟩

theorem AP.grown {B : Nat} {w0 w w' : World} {v v' : Value} {bs bs' : List UInt8} (h : AP B w0 w v bs) (ho : w'.ownsRow B 5 1 v' bs'.length (Lib.byteCells bs')) (hg : w.grownBy w' v.ownBlock) : AP B w0 w' v' bs' :=
  ⟨ho, h.below.grown hg h.hB (fun k hk => (h.own.lt k hk).1), h.kept.grown hg (owns_cellsF h.own), Nat.le_trans h.hB hg.size⟩

/-- A box that is no row of bytes stands. -/
theorem AP.box {B : Nat} {w0 w : World} {v : Value} {bs : List UInt8} (h : AP B w0 w v bs) {k : Nat} {cs : Array Value} {t : TypeId} {fz : Nat × Nat} (hk : w0.heap[k]? = some (.cells cs t fz)) (ht : t ≠ 5) : w.heap[k]? = some (.cells cs t fz) :=
  h.kept k _ hk (by simp) (fun c f e => by cases e; exact ht rfl)

theorem box_cell {w : World} {k i : Nat} {cs : Array Value} {t : TypeId} {fz : Nat × Nat} {v : Value} (hk : w.heap[k]? = some (.cells cs t fz)) (hi : cs[i]? = some v) : w.cell? ⟨k, i, none⟩ = some v := by
  simp only [World.cell?, hk]
  exact hi

theorem byteCells_one (bs : List UInt8) (c : UInt8) : Lib.byteCells (bs ++ [c]) = Lib.byteCells bs ++ [.int .u8 (c.toNat : Int)] := by simp [Lib.byteCells]

theorem wp_app1 {B : Nat} {w0 w : World} {v : Value} {bs : List UInt8} (h : AP B w0 w v bs) {ops : Array Oper} {rest : List Oper} {o : Oper} {a : Act} {Q : Exit → Act → World → Prop} (hgd : o.guard = none) (s x : Operand) (c : UInt8)
    (ho : o.op = .call { callee := .builtin .append, args := #[s, x], argTypes := #[106, 106] }) (hs : a.eval s = v) (Bk cp : Nat) (hx : a.eval x = .slice (some ⟨Bk, 0, none⟩) 1 cp) (hc : w.cell? ⟨Bk, 0, none⟩ = some (.int .u8 (c.toNat : Int))) (hn : bs.length ≤ 900000)
    (hK : ∀ v' w', AP B w0 w' v' (bs ++ [c]) → wpList Tryd.prog ops Q rest (a.put o.dst v') w') : wpList Tryd.prog ops Q (o :: rest) a w := by
  obtain ⟨v', w', hr, h2, h3⟩ := run_app1 w o.type 106 5 B bs.length 1 elkByte v _ h.own Bk cp _ hc rfl hn h.hB
  refine wpList_plain hgd fun K hk => ?_
  unfold Oper.wp execOp
  simp only [ho, resolve, invoke, builtin, Sem.run_bind, Sem.run_pure, Result.andThen_ok, List.map_toArray, List.map_cons, List.map_nil, hs, hx, hr]
  exact hk _ _ (hK v' w' (h.grown (by rw [byteCells_one, List.length_append]; exact h2) h3))

theorem wp_appStr {B : Nat} {w0 w : World} {v : Value} {bs : List UInt8} (h : AP B w0 w v bs) {ops : Array Oper} {rest : List Oper} {o : Oper} {a : Act} {Q : Exit → Act → World → Prop} (hgd : o.guard = none) (s x : Operand) (t : List UInt8)
    (ho : o.op = .call { callee := .builtin .append, args := #[s, x], argTypes := #[106, 9] }) (hs : a.eval s = v) (hx : a.eval x = .string ⟨t.toArray⟩) (hn : bs.length + t.length ≤ 900000)
    (hK : ∀ v' w', AP B w0 w' v' (bs ++ t) → wpList Tryd.prog ops Q rest (a.put o.dst v') w') : wpList Tryd.prog ops Q (o :: rest) a w := by
  have hsz : (⟨t.toArray⟩ : ByteArray).size = t.length := by simp [ByteArray.size]
  refine Lib.wpList_append_own_string (P := Tryd.prog) (w := w) hgd s x 106 9 ho B 5 Tryd.t5 Tryd.underlying106 Tryd.underlying9 byteInfoF (by kernel_rfl) (by kernel_rfl) (by kernel_rfl) v bs.length (Lib.byteCells bs) hs h.own ⟨t.toArray⟩ hx (by rw [hsz]; unfold maxLen; omega) (by rw [hsz]; omega) h.hB ?_
  intro v' w' h2 h3 _
  refine hK v' w' (h.grown ?_ h3)
  rw [hsz] at h2
  rw [List.length_append, Lib.byteCells_append]
  simpa [Lib.strCells, Lib.byteCells] using h2

theorem step_callG {ops : Array Oper} {o : Oper} {a : Act} {K : Act → World → Prop} {Q : Exit → Act → World → Prop} {E : Prop} {w : World} (hgd : o.guard = none) (f : Nat) (args : List Operand) (tys : Array TypeId)
    (ho : o.op = .call { callee := .value (.func f), args := args.toArray, argTypes := tys }) (hf : ∀ args w, (callFunc f args).run Tryd.prog w = .ok (.enter f args) w)
    (h : Calls Tryd.prog f (args.map a.eval).toArray w fun e w' => ∃ v, e = .returned v ∧ K (a.put o.dst v) w') :
    if Region.wanted o (yielded ops a.tmps) = true then Oper.wp Tryd.prog o a w K Q else E := by
  have hw : Region.wanted o (yielded ops a.tmps) = true := by simp [Region.wanted, hgd]
  rw [if_pos hw]
  have hrun : (execOp a.eval o).run Tryd.prog w = .ok (.enter f (args.map a.eval).toArray) w := by
    unfold execOp
    simp only [ho, resolve, Deferred.ofValue, invoke, Sem.run_bind, Sem.run_pure, Result.andThen_ok, List.map_toArray, Act.eval, Array.empty_append, Array.append_empty, hf]
  unfold Oper.wp
  rw [hrun, Oper.upon_enter]
  exact h.mono fun e w' ⟨v, he, hk⟩ => by subst he; exact hk

theorem step_app1 {B : Nat} {w0 w : World} {v : Value} {bs : List UInt8} (h : AP B w0 w v bs) {ops : Array Oper} {o : Oper} {a : Act} {K : Act → World → Prop} {Q : Exit → Act → World → Prop} {E : Prop} (hgd : o.guard = none) (s x : Operand) (c : UInt8)
    (ho : o.op = .call { callee := .builtin .append, args := #[s, x], argTypes := #[106, 106] }) (hs : a.eval s = v) (Bk cp : Nat) (hx : a.eval x = .slice (some ⟨Bk, 0, none⟩) 1 cp) (hc : w.cell? ⟨Bk, 0, none⟩ = some (.int .u8 (c.toNat : Int))) (hn : bs.length ≤ 900000)
    (hK : ∀ v' w', AP B w0 w' v' (bs ++ [c]) → K (a.put o.dst v') w') :
    if Region.wanted o (yielded ops a.tmps) = true then Oper.wp Tryd.prog o a w K Q else E := by
  have hw : Region.wanted o (yielded ops a.tmps) = true := by simp [Region.wanted, hgd]
  rw [if_pos hw]
  obtain ⟨v', w', hr, h2, h3⟩ := run_app1 w o.type 106 5 B bs.length 1 elkByte v _ h.own Bk cp _ hc rfl hn h.hB
  unfold Oper.wp execOp
  simp only [ho, resolve, invoke, builtin, Sem.run_bind, Sem.run_pure, Result.andThen_ok, List.map_toArray, List.map_cons, List.map_nil, hs, hx, hr]
  exact hK v' w' (h.grown (by rw [byteCells_one, List.length_append]; exact h2) h3)
end Go.Proofs.YtpiacnnifdjlkaaDoor

/-
  A reader of a formula's text: what lies where.
-/
namespace Go.Proofs.YtpiacnnifdjlkaaDoor
open Go.RowKit Go.Sort

/-- A reader: its map, its text, the place, the nodes that it has made. -/
structure RD (w : World) (rb r base : Nat) (T : List UInt8) (at_ : Nat) (a : Option Addr) (c : Nat) (out : List Nd) : Prop where
  c0 : w.cell? ⟨rb, 0, none⟩ = some (.map (some r))
  c1 : w.cell? ⟨rb, 1, none⟩ = some (.string ⟨T.toArray⟩)
  c2 : w.cell? ⟨rb, 2, none⟩ = some (.int .i64 at_)
  c3 : w.cell? ⟨rb, 3, none⟩ = some (.slice a out.length c)
  soft : ∀ o, w.frozen? ⟨rb, o, none⟩ = false
  sg : SgMap w r
  own : w.ownsRow base 74 4 (.slice a out.length c) out.length (ndCells out)
  hb : base ≤ w.heap.size
  lt1 : rb < base
  lt2 : r < base
  ne2 : r ≠ rb

theorem RD.below {w w' : World} {rb r base : Nat} {T : List UInt8} {at_ : Nat} {a : Option Addr} {c : Nat} {out : List Nd} (h : RD w rb r base T at_ a c out) (hb : Below w.heap.size w w') : RD w' rb r base T at_ a c out :=
  ⟨cell_keep h.c0 hb, cell_keep h.c1 hb, cell_keep h.c2 hb, cell_keep h.c3 hb, fun o => (hb.frozen (p := ⟨rb, o, none⟩) (Nat.lt_of_lt_of_le h.lt1 h.hb)).trans (h.soft o), h.sg.below hb,
    h.own.kept (row := none) ⟨hb.os, hb.tape, hb.output, hb.size, fun k hk _ => hb.block k hk⟩ (by cases hv : (Value.slice a out.length c).ownBlock <;> simp), Nat.le_trans h.hb hb.size, h.lt1, h.lt2, h.ne2⟩

theorem RD.row_ne {w : World} {rb r base : Nat} {T : List UInt8} {at_ : Nat} {a : Option Addr} {c : Nat} {out : List Nd} (h : RD w rb r base T at_ a c out) (k : Nat) (hk : k < base) : some k ≠ (Value.slice a out.length c).ownBlock := fun e => by
  have := (h.own.lt k e.symm).1
  omega

theorem RD.fresh {w : World} {rb r base : Nat} {T : List UInt8} {at_ : Nat} {a : Option Addr} {c : Nat} {out : List Nd} (h : RD w rb r base T at_ a c out) (j : Nat) (hj : w.heap.size ≤ j) : some j ≠ rowOf a ∧ j ≠ rb := by
  refine ⟨fun e => ?_, ?_⟩
  · rw [← row_eq a out.length c] at e
    have := (h.own.lt _ e.symm).2
    omega
  · have := h.lt1
    have := h.hb
    omega

theorem RD.lt {w : World} {rb r base : Nat} {T : List UInt8} {at_ : Nat} {a : Option Addr} {c : Nat} {out : List Nd} (h : RD w rb r base T at_ a c out) : rb < w.heap.size := Nat.lt_of_lt_of_le h.lt1 h.hb

/-- The place moves on. -/
theorem RD.move {w : World} {rb r base : Nat} {T : List UInt8} {at_ : Nat} {a : Option Addr} {c : Nat} {out : List Nd} (h : RD w rb r base T at_ a c out) (at' : Nat) : RD (w.setCell ⟨rb, 2, none⟩ (.int .i64 at')) rb r base T at' a c out := by
  refine ⟨cell_set_off (by decide) h.c0, cell_set_off (by decide) h.c1, cell_set_eq h.c2, cell_set_off (by decide) h.c3, fun o => by rw [World.frozen?_setCell]; exact h.soft o, (set_far w _ _ r h.ne2).trans h.sg, ?_, by simp only [World.setCell, Array.size_modify]; exact h.hb, h.lt1, h.lt2, h.ne2⟩
  refine h.own.kept (row := some rb) ⟨rfl, rfl, rfl, by simp [World.setCell], fun k hk hne => set_far w _ _ k (fun e => hne (by rw [e]))⟩ ?_
  cases hv : (Value.slice a out.length c).ownBlock with
  | none => simp
  | some g =>
    right
    intro e
    have := (h.own.lt g hv).1
    have := h.lt1
    injection e with e
    omega

theorem GTf.own {rb : Nat} {row : Option Nat} {w w' : World} (h : GTf rb row w w') (o : Nat) (v : Value) : GTf rb row w (w'.setCell ⟨rb, o, none⟩ v) :=
  ⟨h.os, h.tape, h.output, by simp only [World.setCell, Array.size_modify]; exact h.size, fun k hk h1 h2 => (set_far w' _ _ k h1).trans (h.block k hk h1 h2)⟩

theorem RD.grown {w w1 : World} {rb r base : Nat} {T : List UInt8} {at_ : Nat} {a : Option Addr} {c : Nat} {out : List Nd} (h : RD w rb r base T at_ a c out) (x : Nd) {g cap : Nat} (ho : w1.ownsRow base 74 4 (.slice (some ⟨g, 0, none⟩) (out.length + 1) cap) (out.length + 1) (ndCells out ++ [.int .i64 x.k, .int .i64 x.a, .int .i64 x.b, .int .i64 x.n])) (hg : w.grownBy w1 (Value.slice a out.length c).ownBlock) :
    RD (w1.setCell ⟨rb, 3, none⟩ (.slice (some ⟨g, 0, none⟩) (out.length + 1) cap)) rb r base T at_ (some ⟨g, 0, none⟩) cap (out ++ [x]) ∧ GTf rb (Value.slice a out.length c).ownBlock w (w1.setCell ⟨rb, 3, none⟩ (.slice (some ⟨g, 0, none⟩) (out.length + 1) cap)) := by
  have hlen : (out ++ [x]).length = out.length + 1 := by simp
  have htb := h.lt
  have hrl := h.sg.lt
  have n1 := h.row_ne rb h.lt1
  have n2 := h.row_ne r h.lt2
  have hgb := (ho.lt g rfl).1
  have hl1 := h.lt1
  have hblk : ∀ k, k < w.heap.size → k ≠ rb → some k ≠ (Value.slice a out.length c).ownBlock → (w1.setCell ⟨rb, 3, none⟩ (.slice (some ⟨g, 0, none⟩) (out.length + 1) cap)).heap[k]? = w.heap[k]? := fun k hk h1 h2 => (set_far w1 _ _ k h1).trans (hg.block k hk h2)
  refine ⟨⟨cell_set_off (by decide) (grown_cell hg h.c0 n1), cell_set_off (by decide) (grown_cell hg h.c1 n1), cell_set_off (by decide) (grown_cell hg h.c2 n1), by rw [hlen]; exact cell_set_eq (grown_cell hg h.c3 n1), fun o => by rw [World.frozen?_setCell]; exact grown_frozen hg htb n1 (h.soft o), (hblk r hrl h.ne2 n2).trans h.sg, ?_, ?_, h.lt1, h.lt2, h.ne2⟩, ⟨hg.os, hg.tape, hg.output, by simpa [World.setCell] using hg.size, hblk⟩⟩
  · rw [hlen, ndCells_snoc]
    refine ho.kept (row := some rb) ⟨rfl, rfl, rfl, by simp [World.setCell], fun k hk hne => set_far w1 _ _ k (fun e => hne (by rw [e]))⟩ (Or.inr ?_)
    intro e
    have : g = rb := by simpa [Value.ownBlock] using e
    omega
  · have := hg.size
    have := h.hb
    simp only [World.setCell, Array.size_modify]
    omega

/-- What a reader's step leaves. -/
structure RS (w w' : World) (rb r base : Nat) (T : List UInt8) (at' : Nat) (a a' : Option Addr) (c' : Nat) (out' : List Nd) : Prop where
  rd : RD w' rb r base T at' a' c' out'
  gt : GTf rb (rowOf a) w w'
  new : RowNew w (rowOf a) (rowOf a')

theorem RS.refl {w : World} {rb r base : Nat} {T : List UInt8} {at_ : Nat} {a : Option Addr} {c : Nat} {out : List Nd} (h : RD w rb r base T at_ a c out) : RS w w rb r base T at_ a a c out := ⟨h, GTf.refl _ _ _, Or.inl rfl⟩

theorem RS.of_below {w w' : World} {rb r base : Nat} {T : List UInt8} {at_ : Nat} {a : Option Addr} {c : Nat} {out : List Nd} (h : RD w rb r base T at_ a c out) (hb : Below w.heap.size w w') : RS w w' rb r base T at_ a a c out := ⟨h.below hb, GTf.of_below hb, Or.inl rfl⟩

theorem RS.trans {w w1 w2 : World} {rb r base : Nat} {T : List UInt8} {at1 at2 : Nat} {a a1 a2 : Option Addr} {c1 c2 : Nat} {o1 o2 : List Nd} (h : RS w w1 rb r base T at1 a a1 c1 o1) (k : RS w1 w2 rb r base T at2 a1 a2 c2 o2) : RS w w2 rb r base T at2 a a2 c2 o2 :=
  ⟨k.rd, GTf.trans h.gt k.gt h.new, RowNew.trans h.new h.gt.size k.new⟩

theorem RS.move {w w1 : World} {rb r base : Nat} {T : List UInt8} {at1 : Nat} {a a1 : Option Addr} {c1 : Nat} {o1 : List Nd} (h : RS w w1 rb r base T at1 a a1 c1 o1) (at' : Nat) : RS w (w1.setCell ⟨rb, 2, none⟩ (.int .i64 at')) rb r base T at' a a1 c1 o1 :=
  ⟨h.rd.move at', h.gt.own 2 _, h.new⟩

theorem growR {w : World} {rb r base : Nat} {T : List UInt8} {at_ : Nat} {a : Option Addr} {c : Nat} {out : List Nd} (h : RD w rb r base T at_ a c out) (x : Nd) (hn : out.length ≤ 900000) :
    Calls Tryd.prog 107 #[.pointer (some ⟨rb, 3, none⟩), .agg #[.int .i64 x.k, .int .i64 x.a, .int .i64 x.b, .int .i64 x.n]] w fun e w' => e = .returned (.int .i64 out.length) ∧ ∃ a' c', RS w w' rb r base T at_ a a' c' (out ++ [x]) := by
  refine (grow_any x h.c3 (h.soft 3) h.own (fun g hg e => by have := (h.own.lt g hg).1; have := h.lt1; omega) hn h.hb).mono ?_
  rintro e w' ⟨rfl, g, cap, w1, rfl, ho, hg, hd⟩
  obtain ⟨h1, h2⟩ := h.grown x ho hg
  rw [row_eq] at h2 hd
  refine ⟨rfl, some ⟨g, 0, none⟩, cap, h1, h2, ?_⟩
  rcases hd with hd | hd
  · left; rw [hd]; rfl
  · right
    intro k hk
    have : g = k := by simpa [rowOf, Value.ownBlock] using hk
    omega
end Go.Proofs.YtpiacnnifdjlkaaDoor

/-
  What (reader).expect answers where the text goes on as it must.
-/
namespace Go.Proofs.YtpiacnnifdjlkaaDoor
open Go.RowKit Go.Sort

/-- A byte of a text. -/
theorem run_byte (w : World) (l : List UInt8) (i : Nat) (z : Int) (b : UInt8) (hz : z = i) (h : l[i]? = some b) : (Instr.index 9 (.string ⟨l.toArray⟩) (.int .i64 z)).run Tryd.prog w = .ok (.int .u8 (b.toNat : Int)) w := by
  subst hz
  obtain ⟨hl, he⟩ := List.getElem?_eq_some_iff.1 h
  have hsz : (⟨l.toArray⟩ : ByteArray).size = l.length := by simp [ByteArray.size]
  rw [run_index_string (P := Tryd.prog) w 9 ⟨l.toArray⟩ .i64 i Tryd.underlying9, dif_pos ⟨by omega, by rw [hsz]; omega⟩]
  have : (⟨l.toArray⟩ : ByteArray)[((i : Nat) : Int).toNat]'(by rw [hsz]; simpa using hl) = b := by
    rw [← he]
    rfl
  rw [this]

theorem RS.drewN {w w1 : World} {rb r base : Nat} {T : List UInt8} {at1 : Nat} {a a1 : Option Addr} {c1 : Nat} {o1 : List Nd} (h : RS w w1 rb r base T at1 a a1 c1 o1) (n : Nat) : RS w (w1.drewN n) rb r base T at1 a a1 c1 o1 :=
  RS.trans h (RS.of_below h.rd (below_drewN (Below.refl _ _) n))

set_option maxRecDepth 100000 in
set_option maxHeartbeats 2000000 in
theorem expect_ok {w : World} {rb r base : Nat} {T : List UInt8} {at_ : Nat} {a : Option Addr} {c : Nat} {out : List Nd} (h : RD w rb r base T at_ a c out) (t : List UInt8) (hs : ∀ j, j < t.length → ∃ b, T[at_ + j]? = some b ∧ t[j]? = some b) (hT : T.length ≤ 2000) (ht : t.length ≤ 2000) :
    Calls Tryd.prog 157 #[.pointer (some ⟨rb, 0, none⟩), .string ⟨t.toArray⟩] w fun e w' => e = .returned (.tuple #[]) ∧ RS w w' rb r base T (at_ + t.length) a a c out := by
  have H := hide h
  have HS := hide hs
  clear h hs
  have hsz : (⟨t.toArray⟩ : ByteArray).size = t.length := by simp [ByteArray.size]
  have hsT : (⟨T.toArray⟩ : ByteArray).size = T.length := by simp [ByteArray.size]
  go_enter Tryd.func157, Tryd.ntmps157
  go_wp2_with (fail)
  go_loopw [7] (fun iv wr => ∃ j : Nat, j ≤ t.length ∧ iv = .int .i64 j ∧ Hid (RS w wr rb r base T (at_ + j) a a c out)) (fun iv _ => t.length - (intOf iv).toNat)
  case atStart => exact ⟨0, Nat.zero_le _, rfl, hide (RS.refl H.out)⟩
  case round =>
    obtain ⟨j, hj, rfl, hrs⟩ := hrel
    by_cases hlt : j < t.length
    · obtain ⟨b, hb1, hb2⟩ := HS.out j hlt
      have hal : at_ + j < T.length := (List.getElem?_eq_some_iff.1 hb1).1
      have k1 := hrs.out.rd.c1
      have k2 := hrs.out.rd.c2
      have k3 := hrs.out.rd.soft 2
      have HRS := hide hrs.out
      have HE := hide (show at_ + j + 1 = at_ + (j + 1) by omega)
      generalize at_ + j = p at *
      have hd : ((p : Int) == (T.length : Int)) = false := by rw [beq_eq_false_iff_ne]; omega
      have i1 := fun W => run_byte W T p (p : Int) b rfl hb1
      have i2 := fun W => run_byte W t j (j : Int) b rfl hb2
      have bb : ((b.toNat : Int) != (b.toNat : Int)) = false := by simp
      clear hb1 hb2 hrs
      go_wp2_with (fail)
      (refine wp_region_quiet_lit (by kernel_rfl) (by kernel_rfl) ?_; (repeat (go_big_quiet_step (fail))); refine wpQuiet_nil ?_; intro _ hw'; obtain ⟨nq, hw''⟩ := hw'; subst hw'')
      go_wp2_with (fail)
      refine ⟨⟨j + 1, by omega, by go_num, hide ?_⟩, by simp [intOf]; omega⟩
      have := (HRS.out.drewN nq).move (p + 1)
      have e : ((p + 1 : Nat) : Int) = (p : Int) + 1 := by omega
      rw [e] at this
      rw [← HE.out]
      exact this
    · have hjt : t.length = j := by omega
      have HR := hide hrs.out
      clear hrs
      go_wp2_with (fail)
      go_end0
      exact ⟨rfl, by rw [hjt]; exact HR.out⟩

def digB (b : UInt8) : Bool := decide (48 ≤ b.toNat) && decide (b.toNat ≤ 57)

set_option maxHeartbeats 400000 in
theorem isDigit_any (b : UInt8) (w : World) :
    Calls Tryd.prog 159 #[.int .u8 (b.toNat : Int)] w fun e w' => e = .returned (.bool (digB b)) ∧ w' = w := by
  unfold digB
  by_cases h1 : 48 ≤ b.toNat
  · have h1' : (48 : Int) ≤ (b.toNat : Int) := by omega
    by_cases h2 : b.toNat ≤ 57
    · have h2' : (b.toNat : Int) ≤ 57 := by omega
      rw [decide_eq_true h1, decide_eq_true h2]
      clear h1 h2
      generalize (b.toNat : Int) = z at *
      go_enter Tryd.func159, Tryd.ntmps159
      go_wp2
      go_ret
      exact ⟨rfl, rfl⟩
    · have h2' : (57 : Int) < (b.toNat : Int) := by omega
      rw [decide_eq_true h1, decide_eq_false h2]
      clear h1 h2
      generalize (b.toNat : Int) = z at *
      go_enter Tryd.func159, Tryd.ntmps159
      go_wp2
      go_ret
      have e57 : decide (z ≤ 57) = false := decide_eq_false (by omega)
      exact ⟨by simp [e57], rfl⟩
  · have h1' : (b.toNat : Int) < 48 := by omega
    rw [decide_eq_false h1, Bool.false_and]
    clear h1
    generalize (b.toNat : Int) = z at *
    go_enter Tryd.func159, Tryd.ntmps159
    go_wp2
    go_ret
    exact ⟨rfl, rfl⟩
end Go.Proofs.YtpiacnnifdjlkaaDoor

namespace Go.Proofs.YtpiacnnifdjlkaaDoor
open Go.RowKit Go.Sort

theorem RS.drew {w w1 : World} {rb r base : Nat} {T : List UInt8} {at1 : Nat} {a a1 : Option Addr} {c1 : Nat} {o1 : List Nd} (h : RS w w1 rb r base T at1 a a1 c1 o1) : RS w w1.drew rb r base T at1 a a1 c1 o1 :=
  RS.trans h (RS.of_below h.rd (Below.drew (Below.refl _ _)))

set_option maxRecDepth 100000 in
set_option maxHeartbeats 4000000 in
theorem number_ok {w : World} {rb r base : Nat} {T : List UInt8} {at_ : Nat} {a : Option Addr} {c : Nat} {out : List Nd} (h : RD w rb r base T at_ a c out) (d : UInt8) (hd : 48 ≤ d.toNat ∧ d.toNat ≤ 50) (hs : T[at_]? = some d) (hn : ∀ b, T[at_ + 1]? = some b → digB b = false) (hT : T.length ≤ 2000) :
    Calls Tryd.prog 134 #[.pointer (some ⟨rb, 0, none⟩)] w fun e w' => e = .returned (.int .i64 ((d.toNat : Int) - 48)) ∧ RS w w' rb r base T (at_ + 1) a a c out := by
  have H := hide h
  have HN := hide hn
  clear hn
  have k1 := h.c1
  have k2 := h.c2
  have k3 := h.soft 2
  have hal : at_ < T.length := (List.getElem?_eq_some_iff.1 hs).1
  have i1 := fun W => run_byte W T at_ (at_ : Int) d rfl hs
  have hdig : digB d = true := by unfold digB; simp; omega
  have HD := hide (fun W => hdig ▸ isDigit_any d W)
  have hlt : (at_ : Int) < (T.length : Int) := by omega
  have hdd : (48 : Int) ≤ (d.toNat : Int) ∧ (d.toNat : Int) ≤ 50 := by omega
  clear h hs hdig hd
  go_enter Tryd.func134, Tryd.ntmps134
  go_wp2_with (fail)
  refine wp_loop_rounds 2 ?_
  rw [rounds_succ]
  go_wp2_with (fail)
  refine wp_region_quiet_lit (by kernel_rfl) (by kernel_rfl) ?_
  (repeat (go_big_quiet_step ((refine Calls.quiet_of_same (HD.out _)))))
  refine wpQuiet_nil ?_
  intro _ hw'
  obtain ⟨nq, hw''⟩ := hw'
  subst hw''
  have HR := hide ((RS.refl H.out).drewN nq)
  have k1 := HR.out.rd.c1
  have k2 := HR.out.rd.c2
  have k3 := HR.out.rd.soft 2
  generalize w.drewN nq = wq at *
  go_wp2_with (fail)
  go_region
  go_wp2_with (fail)
  rw [rounds_succ]
  go_wp2_with (fail)
  have hmin : min ((d.toNat : Int) - 48) 3 = (d.toNat : Int) - 48 := by omega
  have e1 : (at_ : Int) + 1 = ((at_ + 1 : Nat) : Int) := by omega
  rw [hmin, e1]
  have HR2 := hide ((HR.out.move (at_ + 1)).drew)
  have HP1 := hide (show at_ + 1 ≤ T.length by omega)
  have hne : (((at_ + 1 : Nat) : Int) == (at_ : Int)) = false := by rw [beq_eq_false_iff_ne]; omega
  have k1 := HR2.out.rd.c1
  have k2 := HR2.out.rd.c2
  clear hmin e1 hdd
  generalize hpe : at_ + 1 = p at *
  have HPE := hide hpe
  clear hpe
  generalize (wq.setCell ⟨rb, 2, none⟩ (.int .i64 (p : Int))).drew = w3 at *
  generalize hdz : (d.toNat : Int) - 48 = dz at *
  have HDZ := hide hdz
  clear hdz
  clear HD i1 hal hlt k3 HR
  by_cases hpl : p < T.length
  · obtain ⟨b, hb⟩ : ∃ b, T[p]? = some b := ⟨_, List.getElem?_eq_getElem hpl⟩
    have i1 := fun W => run_byte W T p (p : Int) b rfl hb
    have HD := hide (fun W => HN.out b hb ▸ isDigit_any b W)
    have hlt : (p : Int) < (T.length : Int) := by omega
    clear hb HN
    refine wp_region_quiet_lit (by kernel_rfl) (by kernel_rfl) ?_
    (repeat (go_big_quiet_step ((refine Calls.quiet_of_same (HD.out _)))))
    refine wpQuiet_nil ?_
    intro _ hw'
    obtain ⟨nq2, hw''⟩ := hw'
    subst hw''
    have HR4 := hide (HR2.out.drewN nq2)
    have k1 := HR4.out.rd.c1
    have k2 := HR4.out.rd.c2
    generalize w3.drewN nq2 = w4 at *
    go_wp2_with (fail)
    go_ret
    exact ⟨by rw [HDZ.out]; rfl, by rw [HPE.out]; exact HR4.out⟩
  · have hlt : ((p : Int) < (T.length : Int)) = False := by simp; omega
    have hlt2 : decide ((p : Int) < (T.length : Int)) = false := by simp; omega
    clear HN
    refine wp_region_quiet_lit (by kernel_rfl) (by kernel_rfl) ?_
    (repeat (go_big_quiet_step (fail)))
    refine wpQuiet_nil ?_
    intro _ hw'
    obtain ⟨nq2, hw''⟩ := hw'
    subst hw''
    have HR4 := hide (HR2.out.drewN nq2)
    have k1 := HR4.out.rd.c1
    have k2 := HR4.out.rd.c2
    generalize w3.drewN nq2 = w4 at *
    go_wp2_with (fail)
    go_ret
    exact ⟨by rw [HDZ.out]; rfl, by rw [HPE.out]; exact HR4.out⟩
end Go.Proofs.YtpiacnnifdjlkaaDoor
