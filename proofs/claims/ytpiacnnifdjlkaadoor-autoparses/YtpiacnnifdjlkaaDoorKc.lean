/- AutoParses holds: whatever text is handed in, Parse answers just what the document says, and the same line; the tables deBruijn32tab and deBruijn64tab of math/bits, uint64pow10 of internal/strconv, acceptRanges and first of unicode/utf8 are as the program's text lays them. -/
import Derived.Test.YtpiacnnifdjlkaaDoorKe
import Derived.Test.YtpiacnnifdjlkaaDoorKf
import Derived.Test.YtpiacnnifdjlkaaDoorKg
import Derived.Test.YtpiacnnifdjlkaaDoorKh
import Derived.Test.YtpiacnnifdjlkaaDoorCt
import Derived.Test.YtpiacnnifdjlkaaDoorCards
import Derived.Test.YtpiacnnifdjlkaaDoorTie
import Derived.LaidLaws
import Derived.Lib.LaidTab
import Derived.Lib.TrailingZeros
import Derived.Shelf.Vars
/-
  What ReadAuto of the reference answers.
-/
namespace Go.Proofs.YtpiacnnifdjlkaaDoor
open Go.RowKit Go.Sort

set_option maxRecDepth 100000 in
set_option maxHeartbeats 20000000 in
theorem readAuto_any {w : World} (S : List UInt8) : Calls Tryd.prog 22 #[.string ⟨S.toArray⟩] w fun e w' => Parsed S w e w' := by
  have hsz : (⟨S.toArray⟩ : ByteArray).size = S.length := by simp [ByteArray.size]
  by_cases hl : 100000 < S.length
  · have hg : decide ((100000 : Int) < (S.length : Int)) = true := decide_eq_true (by omega)
    have HE := hide (show prsE S = 2 by unfold prsE; rw [if_pos hl])
    have HN := hide (show prsN S = 0 by unfold prsN; rw [if_pos hl])
    have HA := hide (show prsA S = zeroA by unfold prsA; rw [HE.out]; rfl)
    clear hl
    go_enter Tryd.func22, Tryd.ntmps22
    go_wp2_with (fail)
    refine bodyPost_ret (v := .tuple #[.agg #[.int .i64 0, .int .i64 0, .slice none 0 0, .slice none 0 0, .slice none 0 0], .int .i64 0, .int .i64 2]) (by simp [results, Tryd.results22, go_sem]) rfl ⟨.agg #[.int .i64 0, .int .i64 0, .slice none 0 0, .slice none 0 0, .slice none 0 0], ?_, ?_, ?_⟩
    · rw [HE.out, HN.out]; rfl
    · rw [HA.out]; exact autO_zero _ _
    · exact (by repeat (first | exact Below.refl _ _ | assumption | refine below_drewN ?_ _ | refine Below.drew ?_ | refine Below.alloc ?_ (by simp <;> omega) _ | refine below_trans ?_ (by assumption)))
  · have hS : S.length ≤ 100000 := by omega
    by_cases h1 : prsN S = 1
    · exact readAuto_0 S hS h1
    by_cases h2 : prsN S = 2
    · exact readAuto_1 S hS h2
    by_cases h3 : prsN S = 3
    · exact readAuto_2 S hS h3
    exact readAuto_3 S hS (by omega)

end Go.Proofs.YtpiacnnifdjlkaaDoor

/-
  AutoParses of the statements: true.
-/
namespace Go.Proofs.YtpiacnnifdjlkaaDoor
open Go.RowKit Go.Sort

set_option maxRecDepth 100000 in
set_option maxHeartbeats 4000000 in
theorem autoParses_any {w : World} {S : List UInt8} {m : Int} (ht : Lib.TabBelow Tryd.prog w.heap.size w "internal/strconv.uint64pow10" .u64 Lib.pow10Tab) (hm : w.cell? maxG = some (.int .i64 m)) :
    Calls Tryd.prog 4 #[.string ⟨S.toArray⟩] w fun e w' => e = .returned (.bool true) ∧ Below w.heap.size w w' := by
  have HT : Hid (∀ W, Below w.heap.size w W → Lib.TabIs Tryd.prog W "internal/strconv.uint64pow10" .u64 Lib.pow10Tab) := hide ht
  have HM := hide hm
  have hml := World.block_lt_of_cell? w _ hm
  clear ht hm
  go_enter Tryd.func4, Tryd.ntmps4
  go_wp2_with (fail)
  go_fit (parse_any S m HM.out)
  rintro e w1 ⟨v1, rfl, hv1, hb1⟩
  have H1 := hide hv1.aut
  obtain ⟨fv, gv, sv, rfl, i1, i2, i3⟩ := hv1.aut
  obtain ⟨a1, c1, rfl, -⟩ := i1
  obtain ⟨a2, c2, rfl, -⟩ := i2
  obtain ⟨a3, c3, rfl, -⟩ := i3
  have hbn := below_new w1 (Obj.cells #[.int .i64 (prsA S).n, .int .i64 (prsA S).m, .slice a1 (prsA S).first.length c1, .slice a2 (prsA S).good.length c2, .slice a3 (prsA S).steps.length c3] 26)
  have hx := one_new w1 (Obj.cells #[.int .i64 (prsA S).n, .int .i64 (prsA S).m, .slice a1 (prsA S).first.length c1, .slice a2 (prsA S).good.length c2, .slice a3 (prsA S).steps.length c3] 26)
  have B2 := below_trans hb1 hbn
  have H2 := hide (H1.out.below hbn)
  clear hv1 hb1 hbn H1
  go_wp2_with (fail)
  generalize w1.alloc (Obj.cells #[.int .i64 (prsA S).n, .int .i64 (prsA S).m, .slice a1 (prsA S).first.length c1, .slice a2 (prsA S).good.length c2, .slice a3 (prsA S).steps.length c3] 26) = w2 at *
  generalize w1.heap.size = xb at *
  go_fit (readAuto_any S)
  rintro e w3 ⟨v3, rfl, hv3, hb3⟩
  have H3 := hide hv3.aut
  obtain ⟨fv, gv, sv, rfl, i1, i2, i3⟩ := hv3.aut
  obtain ⟨b1, e1, rfl, -⟩ := i1
  obtain ⟨b2, e2, rfl, -⟩ := i2
  obtain ⟨b3, e3, rfl, -⟩ := i3
  have hbn := below_new w3 (Obj.cells #[.int .i64 (prsA S).n, .int .i64 (prsA S).m, .slice b1 (prsA S).first.length e1, .slice b2 (prsA S).good.length e2, .slice b3 (prsA S).steps.length e3] 26)
  have hy4 := one_new w3 (Obj.cells #[.int .i64 (prsA S).n, .int .i64 (prsA S).m, .slice b1 (prsA S).first.length e1, .slice b2 (prsA S).good.length e2, .slice b3 (prsA S).steps.length e3] 26)
  have b24 := below_trans hb3 hbn
  have hx4 := belowRow b24 hx
  have B4 := below_trans B2 b24
  have HX4 := hide (H2.out.below b24)
  have HY4 := hide (H3.out.below hbn)
  have HXb := hide hx4
  have HYb := hide hy4
  clear hv3 hb3 hbn b24 B2 H2 H3 hx hx4 hy4
  generalize prsE S = pe at *
  generalize prsN S = pn at *
  have he1 : (pe == pe) = true := by simp
  have he2 : ((pn : Int) == (pn : Int)) = true := by simp
  go_wp2_with (fail)
  generalize w3.alloc (Obj.cells #[.int .i64 (prsA S).n, .int .i64 (prsA S).m, .slice b1 (prsA S).first.length e1, .slice b2 (prsA S).good.length e2, .slice b3 (prsA S).steps.length e3] 26) = w4 at *
  generalize w3.heap.size = yb at *
  go_fit (autoBegun_any (m := m) (fun W hb => HT.out W (below_trans B4 hb)) ((B4.cell hml).trans HM.out))
  rintro e w5 ⟨rfl, hb5⟩
  have B5 := below_trans B4 hb5
  have hx5 := belowRow hb5 HXb.out
  have hy5 := belowRow hb5 HYb.out
  have x0 := cell_of_row _ _ 0 _ _ _ hx5
  have x1 := cell_of_row _ _ 1 _ _ _ hx5
  have x2 := cell_of_row _ _ 2 _ _ _ hx5
  have x3 := cell_of_row _ _ 3 _ _ _ hx5
  have x4 := cell_of_row _ _ 4 _ _ _ hx5
  have y0 := cell_of_row _ _ 0 _ _ _ hy5
  have y1 := cell_of_row _ _ 1 _ _ _ hy5
  have y2 := cell_of_row _ _ 2 _ _ _ hy5
  have y3 := cell_of_row _ _ 3 _ _ _ hy5
  have y4 := cell_of_row _ _ 4 _ _ _ hy5
  have HS := hide (sameAuto_same (HX4.out.below hb5) (HY4.out.below hb5))
  clear hx5 hy5 hb5 B4 HXb HYb HX4 HY4
  go_wp2_with (fail)
  go_fit HS.out
  rintro e w6 ⟨rfl, hb6⟩
  have B6 := below_trans B5 hb6
  clear x0 x1 x2 x3 x4 y0 y1 y2 y3 y4 hb6 B5
  go_wp2_with (fail)
  go_ret
  exact ⟨rfl, B6⟩
end Go.Proofs.YtpiacnnifdjlkaaDoor

namespace Go.Proofs.YtpiacnnifdjlkaaDoor
open Go.ChangeShapes Go.WideShapes Go.ChangeAt Go.RowKit Go.Deep
set_option maxRecDepth 100000

theorem laidOutJ : laidOutB Tryd.prog = true := by kernel_rfl
theorem ownJ : ownKnob Tryd.prog.godebug = none := by kernel_rfl
theorem gPow : Tryd.prog.globalNamed "internal/strconv.uint64pow10" = some 1 := by kernel_rfl
theorem gPowType : (Tryd.prog.globals[1]?).map (·.type) = some 205 := by kernel_rfl
theorem cellsPow : Tryd.prog.cellsOf 205 = 20 := by kernel_rfl
theorem cellsU64 : Tryd.prog.cellsOf 141 = 1 := by kernel_rfl

theorem laid_tail {P : Program} {x : String × DataW Unit} {rest : List (String × DataW Unit)} {W : World} (h : laidMet P (x :: rest) W) : laidMet P rest W := by
  obtain ⟨ps, ⟨g, t, cs, fuel, p, q, h1, h2, h3, h4, h5, rfl⟩, hnd, hall⟩ := h
  exact ⟨q, h5, (List.nodup_append.1 hnd).2.1, fun b off hm => hall b off (List.mem_append_right _ hm)⟩

theorem autoParses_table {W : World} (h : laidMetH Tryd.prog Rows.autoParsesRow.laid W) : Lib.TabIs Tryd.prog W "internal/strconv.uint64pow10" .u64 Lib.pow10Tab :=
  Lib.tabIs_of_head (rest := [_, _]) gPow gPowType Tryd.underlying205 Tryd.underlying141 cellsU64 cellsPow (laid_tail (laid_tail (show laidMet Tryd.prog (_ :: _ :: _ :: _ :: _ :: []) W from h)))

/-- The library's own variable that is not listed holds some number. -/
theorem max_of_shape {W : World} (h : W.ShapedOpen Tryd.prog) : ∃ m, W.cell? maxG = some (.int .i64 m) :=
  cell_of_shapedOpen_int (g := 0) (t := 3) (zero := #[.int .i64 0]) h (of_decide_eq_true (by kernel_rfl)) (by kernel_rfl) rfl (by kernel_rfl) (by kernel_rfl) Tryd.underlying3

theorem autoParses_contract (H : Type) (enc : TypeId × Value → H) (W : World) (base : Nat) (args : Array Value) (ds gs : List (DataW H)) (before : List MemPlace)
    (hval : ∀ (j : Nat) t v, Tryd.f4.params[j]? = some t → args[j]? = some v → Value.okWide Tryd.prog W .any base t v)
    (hW : DataW.Whole enc Tryd.prog Tryd.f4.params.toList Rows.autoParsesSpec.vars false W args.toList ds gs before) (hL : laidMetH Tryd.prog Rows.autoParsesRow.laid W) (hsh : W.ShapedOpen Tryd.prog) :
    Calls Tryd.prog 4 args W fun e W' => ∃ v, e = .returned v ∧ Rows.autoParsesSpec.post enc Tryd.prog Tryd.f4 false true false false W args v W' := by
  obtain ⟨mx, hmx⟩ := max_of_shape hsh
  have hW' := hW
  obtain ⟨p, q, hA0, hV, rfl, hfz, hnd⟩ := hW
  have hA : DataW.TrodAll enc Tryd.prog W 0 (fun _ => true) true Tryd.f4.params.toList args.toList ds p := hA0
  rw [Tryd.params4] at hA hval
  obtain ⟨v0, d0, rfl, rfl, h0⟩ := trodAll_one hA
  obtain ⟨rfl, rfl⟩ := trodVars_none hV
  have h0k := h0
  obtain ⟨B, rfl, -, -, -⟩ := Go.ChangeMaps.open_string Tryd.underlying9 (hval 0 9 _ rfl rfl) h0
  obtain ⟨D⟩ := B
  have eB : (⟨D⟩ : ByteArray) = ⟨D.toList.toArray⟩ := by simp
  clear hA0 hA
  simp only [List.append_nil] at hW' hfz
  have hlt0 : ∀ x ∈ p, x.block < W.heap.size := fun x hx => hW'.lt x (by simpa using hx)
  have hcall := autoParses_any (S := D.toList) (Lib.tabBelow_of_tabIs (autoParses_table hL)) hmx
  rw [← eB] at hcall
  refine hcall.mono fun e W' ⟨he, hb⟩ => ?_
  subst he
  exact ⟨_, rfl, _, _, _, [], _, [], hW', trodAll_mk1 (shut_bool Tryd.underlying4 _), trodAll_mk1 (Below.trod laidOutJ (by kernel_rfl) (of_decide_eq_true (by kernel_rfl)) h0k hb hlt0), rfl, hb.frame _, fun h => by cases h⟩

/-- A block with these integers in its cells. -/
def layCells (k : IntKind) (zs : List Int) : Obj → Obj
  | .cells _ t frozen => .cells (zs.map fun z => Value.int k z).toArray t frozen
  | o => o

/-- A world with the five tables laid as their initialisers lay them. -/
def layTabs (W : World) : World :=
  { W with heap := ((((W.heap.modify 5 (layCells .u8 [0, 1, 28, 2, 29, 14, 24, 3, 30, 22, 20, 15, 25, 17, 4, 8, 31, 27, 13, 23, 21, 19, 16, 7, 26, 12, 18, 6, 11, 5, 10, 9])).modify 2 (layCells .u8 (Lib.deBruijn64tab.map (fun n : Nat => (n : Int))))).modify 1 (layCells .u64 Lib.pow10Tab)).modify 4 (layCells .u8 [128, 191, 160, 191, 128, 159, 144, 191, 128, 143, 0, 0, 0, 0, 0, 0, 0, 0, 0, 0, 0, 0, 0, 0, 0, 0, 0, 0, 0, 0, 0, 0])).modify 3 (layCells .u8 (Go.Pinned.utf8FirstZ.map (fun n : Nat => (n : Int)))) }

def autoParses_args : Array Value := #[.string ⟨#[]⟩]

theorem autoParses_met (os : Os) : laidMet Tryd.prog Rows.autoParsesRow.laid ((layTabs (World.holding Tryd.prog os ⟨#[], #[], []⟩)).forCall (fun _ _ => 0) ⟨#[], autoParses_args, []⟩).memory :=
  laidMet_of_run' 8 (by kernel_rfl) (by kernel_rfl)

theorem autoParses_reads (os : Os) {H : Type} (enc : TypeId × Value → H) : ∃ places, DataW.whole enc Tryd.prog ((layTabs (World.holding Tryd.prog os ⟨#[], #[], []⟩)).forCall (fun _ _ => 0) ⟨#[], autoParses_args, []⟩).memory Tryd.f4.params.toList Rows.autoParsesSpec.vars false autoParses_args.toList 8 = some ([.lit (.string [])], [], places) :=
  ⟨[], by kernel_rfl⟩

theorem autoParses_lifted (os : Os) (started : os.Started) (H : Type) (enc : TypeId × Value → H) (F : Stop.Interp) :
    ReturnsInHanded {} Tryd.checked os 4 .any ((OpenSpec.ofChange Rows.autoParsesSpec).preRow enc Tryd.prog Tryd.f4 Rows.autoParsesRow.domain false Rows.autoParsesRow.laid) (((OpenSpec.ofChange Rows.autoParsesSpec).at F).post enc Tryd.prog Tryd.f4 false true false false) := by
  obtain ⟨places, hx⟩ := autoParses_reads os enc
  refine returnsInHanded_of_row (C := Tryd.checked) (s := OpenSpec.ofChange Rows.autoParsesSpec) ownJ started (by kernel_rfl) Tryd.func4
    (witness_row_at (enc := enc) (C := Tryd.checked) false (layTabs (World.holding Tryd.prog os ⟨#[], #[], []⟩)) autoParses_args rfl (by kernel_rfl) (by kernel_rfl) (by kernel_rfl)
      (OpenSpec.preRow_of_cond 8 hx (by kernel_rfl) (fun k hk => by cases hk) (by kernel_rfl) (autoParses_met os))) ?_
  intro W base args ds gs before hval hW _ _ _ hL hsh _
  exact autoParses_contract H enc W base args ds gs before hval hW hL hsh

theorem autoParses_said : Rows.AutoParsesSaid :=
  OpenClaim.holds_of_cond 4 Tryd.f4 rfl rfl rfl rfl rfl rfl rfl ⟨rfl, rfl, rfl, rfl, rfl⟩ rfl rfl rfl rfl rfl (by kernel_rfl) Tryd.func4 (by kernel_rfl)
    (of_decide_eq_true (by kernel_rfl)) (by unfold Func.isWrapper; first | (rw [if_pos (by decide +kernel)]; kernel_rfl) | (rw [if_neg (by decide +kernel)]; exact ⟨rfl, rfl⟩))
    (fun os started H enc _ F => by rw [OpenClaim.pre_eq_preRow]; exact autoParses_lifted os started H enc F)

theorem autoParses_plain (f : FuncId) (fn : Func) (hf : Tryd.pinned.checked.prog.funcNamed "lassowork/lassoworklaw.AutoParses" = some f) (hfn : Tryd.pinned.checked.prog.funcs[f]? = some fn) :
    true = Tryd.pinned.checked.prog.looks [] ∧ ∀ (j : Nat) t, fn.params[j]? = some t → Tryd.pinned.checked.prog.wantsStandIn t = false := by
  obtain rfl : f = 4 := Option.some.inj ((show Tryd.prog.funcNamed "lassowork/lassoworklaw.AutoParses" = some 4 by kernel_rfl).symm.trans hf) |>.symm
  obtain rfl : fn = Tryd.f4 := (Option.some.inj (Tryd.func4.symm.trans hfn)).symm
  refine ⟨by kernel_rfl, fun j t ht => ?_⟩
  rw [Tryd.params4] at ht
  have hm := Array.mem_of_getElem? ht
  simp only [List.mem_toArray, List.mem_cons, List.not_mem_nil, or_false] at hm
  subst hm
  exact (show Tryd.prog.wantsStandIn 9 = false by kernel_rfl)

theorem autoParses_card : Rows.AutoParsesCardSaid :=
  Claim7.holds_tied_plain_at .later [] _ _ _ _ autoParses_said (fun _ h => by cases h) (by kernel_rfl) (fun _ h => by cases h) autoParses_row_tie rfl ⟨rfl, rfl⟩ (by kernel_rfl) rfl autoParses_plain (by kernel_rfl)
end Go.Proofs.YtpiacnnifdjlkaaDoor
