/-
  A text that grows: bytes and strings appended to a row of the call's own; what Go's library answers to formula.Print and formula.Parse.
-/
import Derived.Test.YtphoifgcmpjnoaaDoorFm
import Derived.Test.YtphoifgcmpjnoaaDoorAz
import Derived.Lib.AppendStr
import Derived.Lib.OthersKept
import Derived.Shelf.Strconv.AppendIntPublic10
import Derived.Shelf.Strings.Prefix
import Derived.Ground.NamesProg
namespace Go.Proofs
open Go.Shelf

def YtphoifgcmpjnoaaDoor.laysAppendInt_ren : Go.Shelf.Ren := ⟨fun | 176 => 87 | 249 => 115 | 288 => 147 | 283 => 160 | 284 => 161 | 285 => 162 | 286 => 163 | 129 => 173 | 317 => 172 | 318 => 174 | 319 => 175 | 320 => 176 | 337 => 180 | 338 => 171 | n => n, fun | 37 => 106 | 2 => 2 | 3 => 3 | 53 => 141 | 4 => 4 | 9 => 9 | 171 => 195 | 0 => 0 | 173 => 198 | 212 => 205 | 51 => 206 | 5 => 5 | 20 => 20 | 213 => 207 | 46 => 188 | 232 => 217 | 233 => 211 | n => n, fun | 17 => 1 | 18 => 5 | 19 => 2 | n => n⟩
theorem YtphoifgcmpjnoaaDoor.laysAppendInt : Go.Proofs.LaysM.n176 Tryd.prog YtphoifgcmpjnoaaDoor.laysAppendInt_ren := {
  mixed := by kernel_rfl
  f129 := Tryd.func173.trans (congrArg some (by kernel_rfl))
  f176 := Tryd.func87.trans (congrArg some (by kernel_rfl))
  f249 := Tryd.func115.trans (congrArg some (by kernel_rfl))
  f283 := Tryd.func160.trans (congrArg some (by kernel_rfl))
  f284 := Tryd.func161.trans (congrArg some (by kernel_rfl))
  f285 := Tryd.func162.trans (congrArg some (by kernel_rfl))
  f286 := Tryd.func163.trans (congrArg some (by kernel_rfl))
  f288 := Tryd.func147.trans (congrArg some (by kernel_rfl))
  f317 := Tryd.func172.trans (congrArg some (by kernel_rfl))
  f318 := Tryd.func174.trans (congrArg some (by kernel_rfl))
  f319 := Tryd.func175.trans (congrArg some (by kernel_rfl))
  f320 := Tryd.func176.trans (congrArg some (by kernel_rfl))
  f337 := Tryd.func180.trans (congrArg some (by kernel_rfl))
  f338 := Tryd.func171.trans (congrArg some (by kernel_rfl))
  t0 := Tryd.underlying0
  a0 := Tryd.isAgg0
  z0 := Tryd.sizeOf0
  v0 := Tryd.zeroValue0
  t2 := Tryd.underlying2
  a2 := Tryd.isAgg2
  z2 := Tryd.sizeOf2
  v2 := Tryd.zeroValue2
  t3 := Tryd.underlying3
  a3 := Tryd.isAgg3
  z3 := Tryd.sizeOf3
  v3 := Tryd.zeroValue3
  t4 := Tryd.underlying4
  a4 := Tryd.isAgg4
  z4 := Tryd.sizeOf4
  v4 := Tryd.zeroValue4
  t5 := Tryd.underlying5
  a5 := Tryd.isAgg5
  z5 := Tryd.sizeOf5
  v5 := Tryd.zeroValue5
  t9 := Tryd.underlying9
  a9 := Tryd.isAgg9
  z9 := Tryd.sizeOf9
  v9 := Tryd.zeroValue9
  t20 := Tryd.underlying20
  a20 := Tryd.isAgg20
  z20 := Tryd.sizeOf20
  v20 := Tryd.zeroValue20
  t37 := Tryd.underlying106
  a37 := Tryd.isAgg106
  z37 := Tryd.sizeOf106
  v37 := Tryd.zeroValue106
  t46 := Tryd.underlying188
  a46 := Tryd.isAgg188
  z46 := Tryd.sizeOf188
  v46 := Tryd.zeroValue188
  t51 := Tryd.underlying206
  a51 := Tryd.isAgg206
  z51 := Tryd.sizeOf206
  v51 := Tryd.zeroValue206
  t53 := Tryd.underlying141
  a53 := Tryd.isAgg141
  z53 := Tryd.sizeOf141
  v53 := Tryd.zeroValue141
  t171 := Tryd.underlying195
  a171 := Tryd.isAgg195
  z171 := Tryd.sizeOf195
  v171 := Tryd.zeroValue195
  t173 := Tryd.underlying198
  a173 := Tryd.isAgg198
  z173 := Tryd.sizeOf198
  v173 := Tryd.zeroValue198
  t212 := Tryd.underlying205
  a212 := Tryd.isAgg205
  z212 := Tryd.sizeOf205
  v212 := Tryd.zeroValue205
  t213 := Tryd.underlying207
  a213 := Tryd.isAgg207
  z213 := Tryd.sizeOf207
  t232 := Tryd.underlying217
  a232 := Tryd.isAgg217
  z232 := Tryd.sizeOf217
  v232 := Tryd.zeroValue217
  t233 := Tryd.underlying211
  a233 := Tryd.isAgg211
  z233 := Tryd.sizeOf211
  v233 := Tryd.zeroValue211
  g17 := by kernel_rfl
  g18 := by kernel_rfl
  g19 := by kernel_rfl
  i0 := by kernel_rfl
  i2 := by kernel_rfl
  i3 := by kernel_rfl
  i4 := by kernel_rfl
  i5 := by kernel_rfl
  i9 := by kernel_rfl
  i20 := by kernel_rfl
  i37 := by kernel_rfl
  i46 := by kernel_rfl
  i51 := by kernel_rfl
  i53 := by kernel_rfl
  i171 := by kernel_rfl
  i173 := by kernel_rfl
  i212 := by kernel_rfl
  i232 := by kernel_rfl
  i233 := by kernel_rfl
  m17 := by kernel_rfl
  m18 := by kernel_rfl
  m19 := by kernel_rfl }
def YtphoifgcmpjnoaaDoor.laysHasPrefix_ren : Go.Shelf.Ren := ⟨fun | 99 => 130 | 206 => 156 | n => n, fun | 9 => 9 | 4 => 4 | 3 => 3 | n => n, fun | n => n⟩
theorem YtphoifgcmpjnoaaDoor.laysHasPrefix : Go.Proofs.Lays.n99 Tryd.prog YtphoifgcmpjnoaaDoor.laysHasPrefix_ren := {
  mixed := by kernel_rfl
  f99 := Tryd.func130.trans (congrArg some (by kernel_rfl))
  f206 := Tryd.func156.trans (congrArg some (by kernel_rfl))
  t3 := Tryd.underlying3
  a3 := Tryd.isAgg3
  z3 := Tryd.sizeOf3
  v3 := Tryd.zeroValue3
  t4 := Tryd.underlying4
  a4 := Tryd.isAgg4
  z4 := Tryd.sizeOf4
  v4 := Tryd.zeroValue4
  t9 := Tryd.underlying9
  a9 := Tryd.isAgg9
  z9 := Tryd.sizeOf9
  v9 := Tryd.zeroValue9 }
end Go.Proofs
namespace Go.Proofs.YtphoifgcmpjnoaaDoor
open Go.RowKit Go.Sort Go.Shelf

theorem appendInt_any (B n : Nat) (i : Int) (h0 : -9223372036854775808 ≤ i) (h1 : i ≤ 9223372036854775807) (sv : Value) (xs : List Value) (w : World) (hown : w.ownsRow B 5 1 sv n xs) (hB : B ≤ w.heap.size) (hlim : n + 21 ≤ 140737488355328) (htab : Lib.TabBelow Tryd.prog B w "internal/strconv.uint64pow10" .u64 Lib.pow10Tab) :
    Calls Tryd.prog 87 #[sv, .int .i64 i, .int .i64 10] w fun e w' => ∃ v', e = .returned v' ∧ w'.ownsRow B 5 1 v' (n + (Lib.itoa i).length) (xs ++ Lib.byteCells (Lib.itoa i)) ∧ Below B w w' ∧ Lib.OthersKept 5 none w w' :=
  Any.strconv_AppendInt_10 laysAppendInt B n i h0 h1 sv xs w hown hB hlim htab

theorem hasPrefix_any (s p : ByteArray) (w : World) :
    Calls Tryd.prog 130 #[.string s, .string p] w fun e w' => e = .returned (.bool (Lib.hasPrefix s.data.toList p.data.toList)) ∧ w' = w :=
  Any.strings_HasPrefix laysHasPrefix s p w

theorem byteInfo : Tryd.prog.info? 5 = some Tryd.t5 := by kernel_rfl
theorem elkByte : ElK 106 5 1 := ⟨Tryd.underlying106, ⟨_, .int .u8 0, byteInfo, by kernel_rfl, rfl, by kernel_rfl, by kernel_rfl⟩, by decide⟩

theorem owns_cells {w : World} {base : Nat} {e : TypeId} {size : Nat} {v : Value} {n : Nat} {xs : List Value} (h : w.ownsRow base e size v n xs) : ∀ g, v.ownBlock = some g → ∃ c fz, w.heap[g]? = some (.cells c e fz) := by
  intro g hg
  rcases h.2 with ⟨rfl, _⟩ | ⟨g', cap, cur, rfl, _, hc, _⟩
  · cases hg
  · have : g' = g := by simpa [Value.ownBlock] using hg
    subst this
    exact ⟨_, _, hc⟩

/-- A text that grows, since a world w0. -/
structure AP (B : Nat) (w0 w : World) (v : Value) (bs : List UInt8) : Prop where
  own : w.ownsRow B 5 1 v bs.length (Lib.byteCells bs)
  below : Below B w0 w
  kept : Lib.OthersKept 5 none w0 w
  hB : B ≤ w.heap.size

theorem AP.alloc {B : Nat} {w0 w : World} {v : Value} {bs : List UInt8} (h : AP B w0 w v bs) (o : Obj) : AP B w0 (w.alloc o) v bs :=
  ⟨h.own.alloc o, h.below.alloc h.hB o, h.kept.alloc o, by have := h.hB; simp; omega⟩

theorem AP.drew {B : Nat} {w0 w : World} {v : Value} {bs : List UInt8} (h : AP B w0 w v bs) : AP B w0 w.drew v bs := ⟨h.own, Below.drew h.below, h.kept, h.hB⟩

theorem AP.trans {B : Nat} {w0 w w' : World} {v v' : Value} {bs bs' : List UInt8} (h : AP B w0 w v bs) (k : AP B w w' v' bs') : AP B w0 w' v' bs' :=
  ⟨k.own, h.below.trans k.below, h.kept.trans k.kept, k.hB⟩

theorem AP.again {B : Nat} {w0 w : World} {v : Value} {bs : List UInt8} (h : AP B w0 w v bs) : AP B w w v bs := ⟨h.own, Below.refl _ _, Lib.OthersKept.refl _ _ _, h.hB⟩

theorem AP.grown {B : Nat} {w0 w w' : World} {v v' : Value} {bs bs' : List UInt8} (h : AP B w0 w v bs) (ho : w'.ownsRow B 5 1 v' bs'.length (Lib.byteCells bs')) (hg : w.grownBy w' v.ownBlock) : AP B w0 w' v' bs' :=
  ⟨ho, h.below.grown hg h.hB (fun k hk => (h.own.lt k hk).1), h.kept.grown hg (owns_cells h.own), Nat.le_trans h.hB hg.size⟩

/-- A box that is no row of bytes stands. -/
theorem AP.box {B : Nat} {w0 w : World} {v : Value} {bs : List UInt8} (h : AP B w0 w v bs) {k : Nat} {cs : Array Value} {t : TypeId} {fz : Nat × Nat} (hk : w0.heap[k]? = some (.cells cs t fz)) (ht : t ≠ 5) : w.heap[k]? = some (.cells cs t fz) :=
  h.kept k _ hk (by simp) (fun c f e => by cases e; exact ht rfl)

theorem box_cell {w : World} {k i : Nat} {cs : Array Value} {t : TypeId} {fz : Nat × Nat} {v : Value} (hk : w.heap[k]? = some (.cells cs t fz)) (hi : cs[i]? = some v) : w.cell? ⟨k, i, none⟩ = some v := by
  simp only [World.cell?, hk]
  exact hi

theorem byteCells_one (bs : List UInt8) (c : UInt8) : Lib.byteCells (bs ++ [c]) = Lib.byteCells bs ++ [.int .u8 (c.toNat : Int)] := by simp [Lib.byteCells]

theorem wp_app1 {B : Nat} {w0 w : World} {v : Value} {bs : List UInt8} (h : AP B w0 w v bs) {ops : Array Oper} {rest : List Oper} {o : Oper} {a : Act} {Q : Exit → Act → World → Prop} (hgd : o.guard = none) (s x : Operand) (c : UInt8)
    (ho : o.op = .call { callee := .builtin .append, args := #[s, x], argTypes := #[106, 106] }) (hs : a.eval s = v) (Bk cp : Nat) (hx : a.eval x = .slice (some ⟨Bk, 0, none⟩) 1 cp) (hc : w.cell? ⟨Bk, 0, none⟩ = some (.int .u8 (c.toNat : Int))) (hn : bs.length ≤ 900000)
    (hK : ∀ v' w', AP B w0 w' v' (bs ++ [c]) → wpList Tryd.prog ops Q rest (a.put o.dst v') w') : wpList Tryd.prog ops Q (o :: rest) a w := by
  obtain ⟨v', w', hr, h2, h3⟩ := run_app1 w o.type 106 5 B bs.length 1 elkByte v _ h.own Bk cp _ hc rfl hn h.hB
  refine wpList_plain hgd fun K hk => ?_
  unfold Oper.wp execOp
  simp only [ho, resolve, invoke, builtin, Sem.run_bind, Sem.run_pure, Result.andThen_ok, List.map_toArray, List.map_cons, List.map_nil, hs, hx, hr]
  exact hk _ _ (hK v' w' (h.grown (by rw [byteCells_one, List.length_append]; exact h2) h3))

theorem wp_appStr {B : Nat} {w0 w : World} {v : Value} {bs : List UInt8} (h : AP B w0 w v bs) {ops : Array Oper} {rest : List Oper} {o : Oper} {a : Act} {Q : Exit → Act → World → Prop} (hgd : o.guard = none) (s x : Operand) (t : List UInt8)
    (ho : o.op = .call { callee := .builtin .append, args := #[s, x], argTypes := #[106, 9] }) (hs : a.eval s = v) (hx : a.eval x = .string ⟨t.toArray⟩) (hn : bs.length + t.length ≤ 900000)
    (hK : ∀ v' w', AP B w0 w' v' (bs ++ t) → wpList Tryd.prog ops Q rest (a.put o.dst v') w') : wpList Tryd.prog ops Q (o :: rest) a w := by
  have hsz : (⟨t.toArray⟩ : ByteArray).size = t.length := by simp [ByteArray.size]
  refine Lib.wpList_append_own_string (P := Tryd.prog) (w := w) hgd s x 106 9 ho B 5 Tryd.t5 Tryd.underlying106 Tryd.underlying9 byteInfo (by kernel_rfl) (by kernel_rfl) (by kernel_rfl) v bs.length (Lib.byteCells bs) hs h.own ⟨t.toArray⟩ hx (by rw [hsz]; unfold maxLen; omega) (by rw [hsz]; omega) h.hB ?_
  intro v' w' h2 h3 _
  refine hK v' w' (h.grown ?_ h3)
  rw [hsz] at h2
  rw [List.length_append, Lib.byteCells_append]
  simpa [Lib.strCells, Lib.byteCells] using h2

theorem step_callG {ops : Array Oper} {o : Oper} {a : Act} {K : Act → World → Prop} {Q : Exit → Act → World → Prop} {E : Prop} {w : World} (hgd : o.guard = none) (f : Nat) (args : List Operand) (tys : Array TypeId)
    (ho : o.op = .call { callee := .value (.func f), args := args.toArray, argTypes := tys }) (hf : ∀ args w, (callFunc f args).run Tryd.prog w = .ok (.enter f args) w)
    (h : Calls Tryd.prog f (args.map a.eval).toArray w fun e w' => ∃ v, e = .returned v ∧ K (a.put o.dst v) w') :
    if Region.wanted o (yielded ops a.tmps) = true then Oper.wp Tryd.prog o a w K Q else E := by
  have hw : Region.wanted o (yielded ops a.tmps) = true := by simp [Region.wanted, hgd]
  rw [if_pos hw]
  have hrun : (execOp a.eval o).run Tryd.prog w = .ok (.enter f (args.map a.eval).toArray) w := by
    unfold execOp
    simp only [ho, resolve, Deferred.ofValue, invoke, Sem.run_bind, Sem.run_pure, Result.andThen_ok, List.map_toArray, Act.eval, Array.empty_append, Array.append_empty, hf]
  unfold Oper.wp
  rw [hrun, Oper.upon_enter]
  exact h.mono fun e w' ⟨v, he, hk⟩ => by subst he; exact hk

theorem step_app1 {B : Nat} {w0 w : World} {v : Value} {bs : List UInt8} (h : AP B w0 w v bs) {ops : Array Oper} {o : Oper} {a : Act} {K : Act → World → Prop} {Q : Exit → Act → World → Prop} {E : Prop} (hgd : o.guard = none) (s x : Operand) (c : UInt8)
    (ho : o.op = .call { callee := .builtin .append, args := #[s, x], argTypes := #[106, 106] }) (hs : a.eval s = v) (Bk cp : Nat) (hx : a.eval x = .slice (some ⟨Bk, 0, none⟩) 1 cp) (hc : w.cell? ⟨Bk, 0, none⟩ = some (.int .u8 (c.toNat : Int))) (hn : bs.length ≤ 900000)
    (hK : ∀ v' w', AP B w0 w' v' (bs ++ [c]) → K (a.put o.dst v') w') :
    if Region.wanted o (yielded ops a.tmps) = true then Oper.wp Tryd.prog o a w K Q else E := by
  have hw : Region.wanted o (yielded ops a.tmps) = true := by simp [Region.wanted, hgd]
  rw [if_pos hw]
  obtain ⟨v', w', hr, h2, h3⟩ := run_app1 w o.type 106 5 B bs.length 1 elkByte v _ h.own Bk cp _ hc rfl hn h.hB
  unfold Oper.wp execOp
  simp only [ho, resolve, invoke, builtin, Sem.run_bind, Sem.run_pure, Result.andThen_ok, List.map_toArray, List.map_cons, List.map_nil, hs, hx, hr]
  exact hK v' w' (h.grown (by rw [byteCells_one, List.length_append]; exact h2) h3)
end Go.Proofs.YtphoifgcmpjnoaaDoor
