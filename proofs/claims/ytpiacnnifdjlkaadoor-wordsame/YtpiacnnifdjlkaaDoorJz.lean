/- WordSame holds: whatever automaton, lasso and place are handed in, an automaton takes a lasso just if it takes its least, and just if it does so trimmed; the least of the least is itself, and has its letters; the tables deBruijn32tab and deBruijn64tab of math/bits, uint64pow10 of internal/strconv, acceptRanges and first of unicode/utf8 are as the program's text lays them. -/
import Derived.Test.YtpiacnnifdjlkaaDoorJy
import Derived.Test.YtpiacnnifdjlkaaDoorCt
import Derived.Test.YtpiacnnifdjlkaaDoorCl
import Derived.Test.YtpiacnnifdjlkaaDoorCards
import Derived.Test.YtpiacnnifdjlkaaDoorTie
import Derived.LaidLaws
import Derived.Lib.LaidTab
import Derived.Lib.TrailingZeros
import Derived.Shelf.Vars
namespace Go.Proofs.YtpiacnnifdjlkaaDoor
open Go.ChangeShapes Go.WideShapes Go.ChangeAt Go.RowKit Go.Deep
set_option maxRecDepth 100000

theorem laidOutJ : laidOutB Tryd.prog = true := by kernel_rfl
theorem ownJ : ownKnob Tryd.prog.godebug = none := by kernel_rfl
theorem gPow : Tryd.prog.globalNamed "internal/strconv.uint64pow10" = some 1 := by kernel_rfl
theorem gPowType : (Tryd.prog.globals[1]?).map (·.type) = some 205 := by kernel_rfl
theorem cellsPow : Tryd.prog.cellsOf 205 = 20 := by kernel_rfl
theorem cellsU64 : Tryd.prog.cellsOf 141 = 1 := by kernel_rfl

theorem laid_tail {P : Program} {x : String × DataW Unit} {rest : List (String × DataW Unit)} {W : World} (h : laidMet P (x :: rest) W) : laidMet P rest W := by
  obtain ⟨ps, ⟨g, t, cs, fuel, p, q, h1, h2, h3, h4, h5, rfl⟩, hnd, hall⟩ := h
  exact ⟨q, h5, (List.nodup_append.1 hnd).2.1, fun b off hm => hall b off (List.mem_append_right _ hm)⟩

theorem wordSame_table {W : World} (h : laidMetH Tryd.prog Rows.wordSameRow.laid W) : Lib.TabIs Tryd.prog W "internal/strconv.uint64pow10" .u64 Lib.pow10Tab :=
  Lib.tabIs_of_head (rest := [_, _]) gPow gPowType Tryd.underlying205 Tryd.underlying141 cellsU64 cellsPow (laid_tail (laid_tail (show laidMet Tryd.prog (_ :: _ :: _ :: _ :: _ :: []) W from h)))

theorem gTab64TypeJ : (Tryd.prog.globals[2]?).map (·.type) = some 211 := by kernel_rfl
theorem cellsTab64J : Tryd.prog.cellsOf 211 = 64 := by kernel_rfl
theorem cellsU8J : Tryd.prog.cellsOf 5 = 1 := by kernel_rfl

theorem wordSame_table64 {W : World} (h : laidMetH Tryd.prog Rows.wordSameRow.laid W) : Lib.TabIs Tryd.prog W "math/bits.deBruijn64tab" .u8 tab64 :=
  Lib.tabIs_of_head (rest := [_, _, _]) gTab64 gTab64TypeJ Tryd.underlying211 Tryd.underlying5 cellsU8J cellsTab64J (laid_tail (show laidMet Tryd.prog (_ :: _ :: _ :: _ :: _ :: []) W from h))

/-- The library's own variable that is not listed holds some number. -/
theorem max_of_shape {W : World} (h : W.ShapedOpen Tryd.prog) : ∃ m, W.cell? maxG = some (.int .i64 m) :=
  cell_of_shapedOpen_int (g := 0) (t := 3) (zero := #[.int .i64 0]) h (of_decide_eq_true (by kernel_rfl)) (by kernel_rfl) rfl (by kernel_rfl) (by kernel_rfl) Tryd.underlying3

theorem wordSame_contract (H : Type) (enc : TypeId × Value → H) (W : World) (base : Nat) (args : Array Value) (ds gs : List (DataW H)) (before : List MemPlace)
    (hval : ∀ (j : Nat) t v, Tryd.f8.params[j]? = some t → args[j]? = some v → Value.okWide Tryd.prog W .any base t v)
    (hW : DataW.Whole enc Tryd.prog Tryd.f8.params.toList Rows.wordSameSpec.vars false W args.toList ds gs before) (hL : laidMetH Tryd.prog Rows.wordSameRow.laid W) (hsh : W.ShapedOpen Tryd.prog) :
    Calls Tryd.prog 8 args W fun e W' => ∃ v, e = .returned v ∧ Rows.wordSameSpec.post enc Tryd.prog Tryd.f8 false true false false W args v W' := by
  obtain ⟨mx, hmx⟩ := max_of_shape hsh
  have hW' := hW
  obtain ⟨p, q, hA0, hV, rfl, hfz, hnd⟩ := hW
  have hA : DataW.TrodAll enc Tryd.prog W 0 (fun _ => true) true Tryd.f8.params.toList args.toList ds p := hA0
  rw [Tryd.params8] at hA hval
  obtain ⟨v0, v1, v2, d0, d1, d2, p0, p1, p2, rfl, rfl, rfl, h0, h1, h2⟩ := trodAll_three hA
  obtain ⟨rfl, rfl⟩ := trodVars_none hV
  have h0k := h0
  have h1k := h1
  obtain ⟨A, hAut⟩ := auto_of_trod (hval 0 26 _ rfl rfl) h0
  obtain ⟨hv, lv, hs, ls, rfl, i0, i1⟩ := lasso_of_trod (hval 1 44 _ rfl rfl) h1
  obtain ⟨i, rfl, rfl, rfl, wi⟩ := open_int Tryd.underlying3 (hval 2 3 v2 rfl rfl) h2
  clear hA0 hA
  simp only [List.append_nil] at hW' hfz
  have hlt0 : ∀ x ∈ p0, x.block < W.heap.size := fun x hx => hW'.lt x (by simp [hx])
  have hlt1 : ∀ x ∈ p1, x.block < W.heap.size := fun x hx => hW'.lt x (by simp [hx])
  refine (wordSame_any hAut i0 i1 (bounds_i64 wi).2 (tab_of_is (wordSame_table64 hL)) (Lib.tabBelow_of_tabIs (wordSame_table hL)) hmx).mono fun e W' ⟨he, hb⟩ => ?_
  subst he
  exact ⟨_, rfl, _, _, _, [], _, [], hW', trodAll_mk1 (shut_bool Tryd.underlying4 _), trodAll_mk3 (Below.trod laidOutJ (by kernel_rfl) (of_decide_eq_true (by kernel_rfl)) h0k hb hlt0) (Below.trod laidOutJ (by kernel_rfl) (of_decide_eq_true (by kernel_rfl)) h1k hb hlt1) (shut_int Tryd.underlying3 wi), rfl, hb.frame _, fun h => by cases h⟩

/-- A block with these integers in its cells. -/
def layCells (k : IntKind) (zs : List Int) : Obj → Obj
  | .cells _ t frozen => .cells (zs.map fun z => Value.int k z).toArray t frozen
  | o => o

/-- A world with the five tables laid as their initialisers lay them. -/
def layTabs (W : World) : World :=
  { W with heap := ((((W.heap.modify 5 (layCells .u8 [0, 1, 28, 2, 29, 14, 24, 3, 30, 22, 20, 15, 25, 17, 4, 8, 31, 27, 13, 23, 21, 19, 16, 7, 26, 12, 18, 6, 11, 5, 10, 9])).modify 2 (layCells .u8 (Lib.deBruijn64tab.map (fun n : Nat => (n : Int))))).modify 1 (layCells .u64 Lib.pow10Tab)).modify 4 (layCells .u8 [128, 191, 160, 191, 128, 159, 144, 191, 128, 143, 0, 0, 0, 0, 0, 0, 0, 0, 0, 0, 0, 0, 0, 0, 0, 0, 0, 0, 0, 0, 0, 0])).modify 3 (layCells .u8 (Go.Pinned.utf8FirstZ.map (fun n : Nat => (n : Int)))) }

def wordSame_args : Array Value := #[.agg #[.int .i64 0, .int .i64 0, .slice .none 0 0, .slice .none 0 0, .slice .none 0 0], .agg #[.slice .none 0 0, .slice .none 0 0], .int .i64 0]

theorem wordSame_met (os : Os) : laidMet Tryd.prog Rows.wordSameRow.laid ((layTabs (World.holding Tryd.prog os ⟨#[], #[], []⟩)).forCall (fun _ _ => 0) ⟨#[], wordSame_args, []⟩).memory :=
  laidMet_of_run' 8 (by kernel_rfl) (by kernel_rfl)

theorem wordSame_reads (os : Os) {H : Type} (enc : TypeId × Value → H) : ∃ places, DataW.whole enc Tryd.prog ((layTabs (World.holding Tryd.prog os ⟨#[], #[], []⟩)).forCall (fun _ _ => 0) ⟨#[], wordSame_args, []⟩).memory Tryd.f8.params.toList Rows.wordSameSpec.vars false wordSame_args.toList 8 = some ([.agg [.lit (.int .i64 0), .lit (.int .i64 0), .nil, .nil, .nil], .agg [.nil, .nil], .lit (.int .i64 0)], [], places) :=
  ⟨[], by kernel_rfl⟩

theorem wordSame_lifted (os : Os) (started : os.Started) (H : Type) (enc : TypeId × Value → H) (F : Stop.Interp) :
    ReturnsInHanded {} Tryd.checked os 8 .any ((OpenSpec.ofChange Rows.wordSameSpec).preRow enc Tryd.prog Tryd.f8 Rows.wordSameRow.domain false Rows.wordSameRow.laid) (((OpenSpec.ofChange Rows.wordSameSpec).at F).post enc Tryd.prog Tryd.f8 false true false false) := by
  obtain ⟨places, hx⟩ := wordSame_reads os enc
  refine returnsInHanded_of_row (C := Tryd.checked) (s := OpenSpec.ofChange Rows.wordSameSpec) ownJ started (by kernel_rfl) Tryd.func8
    (witness_row_at (enc := enc) (C := Tryd.checked) false (layTabs (World.holding Tryd.prog os ⟨#[], #[], []⟩)) wordSame_args rfl (by kernel_rfl) (by kernel_rfl) (by kernel_rfl)
      (OpenSpec.preRow_of_cond 8 hx (by kernel_rfl) (fun k hk => by cases hk) (by kernel_rfl) (wordSame_met os))) ?_
  intro W base args ds gs before hval hW _ _ _ hL hsh _
  exact wordSame_contract H enc W base args ds gs before hval hW hL hsh

theorem wordSame_said : Rows.WordSameSaid :=
  OpenClaim.holds_of_cond 8 Tryd.f8 rfl rfl rfl rfl rfl rfl rfl ⟨rfl, rfl, rfl, rfl, rfl⟩ rfl rfl rfl rfl rfl (by kernel_rfl) Tryd.func8 (by kernel_rfl)
    (of_decide_eq_true (by kernel_rfl)) (by unfold Func.isWrapper; first | (rw [if_pos (by decide +kernel)]; kernel_rfl) | (rw [if_neg (by decide +kernel)]; exact ⟨rfl, rfl⟩))
    (fun os started H enc _ F => by rw [OpenClaim.pre_eq_preRow]; exact wordSame_lifted os started H enc F)

theorem wordSame_plain (f : FuncId) (fn : Func) (hf : Tryd.pinned.checked.prog.funcNamed "lassowork/lassoworklaw.WordSame" = some f) (hfn : Tryd.pinned.checked.prog.funcs[f]? = some fn) :
    true = Tryd.pinned.checked.prog.looks [] ∧ ∀ (j : Nat) t, fn.params[j]? = some t → Tryd.pinned.checked.prog.wantsStandIn t = false := by
  obtain rfl : f = 8 := Option.some.inj ((show Tryd.prog.funcNamed "lassowork/lassoworklaw.WordSame" = some 8 by kernel_rfl).symm.trans hf) |>.symm
  obtain rfl : fn = Tryd.f8 := (Option.some.inj (Tryd.func8.symm.trans hfn)).symm
  refine ⟨by kernel_rfl, fun j t ht => ?_⟩
  rw [Tryd.params8] at ht
  have hm := Array.mem_of_getElem? ht
  simp only [List.mem_toArray, List.mem_cons, List.not_mem_nil, or_false] at hm
  rcases hm with rfl | rfl | rfl
  · exact (show Tryd.prog.wantsStandIn 26 = false by kernel_rfl)
  · exact (show Tryd.prog.wantsStandIn 44 = false by kernel_rfl)
  · exact (show Tryd.prog.wantsStandIn 3 = false by kernel_rfl)

theorem wordSame_card : Rows.WordSameCardSaid :=
  Claim7.holds_tied_plain_at .later [] _ _ _ _ wordSame_said (fun _ h => by cases h) (by kernel_rfl) (fun _ h => by cases h) wordSame_row_tie rfl ⟨rfl, rfl⟩ (by kernel_rfl) rfl wordSame_plain (by kernel_rfl)
end Go.Proofs.YtpiacnnifdjlkaaDoor
