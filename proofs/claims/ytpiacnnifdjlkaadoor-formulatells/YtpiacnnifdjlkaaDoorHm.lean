/- FormulaTells holds: whatever formula is handed in, Check, Print and Negate answer just what the document says, errors too; the tables deBruijn32tab and deBruijn64tab of math/bits and uint64pow10 of internal/strconv are as the program's text lays them. -/
import Derived.Test.YtpiacnnifdjlkaaDoorEw
import Derived.Test.YtpiacnnifdjlkaaDoorCards
import Derived.Test.YtpiacnnifdjlkaaDoorTie
import Derived.LaidLaws
import Derived.Lib.LaidTab
import Derived.Lib.TrailingZeros
namespace Go.Proofs.YtpiacnnifdjlkaaDoor
open Go.ChangeShapes Go.WideShapes Go.ChangeAt Go.RowKit Go.Deep
set_option maxRecDepth 100000

theorem laidOutH : laidOutB Tryd.prog = true := by kernel_rfl
theorem ownH : ownKnob Tryd.prog.godebug = none := by kernel_rfl
theorem gPow : Tryd.prog.globalNamed "internal/strconv.uint64pow10" = some 1 := by kernel_rfl
theorem gPowType : (Tryd.prog.globals[1]?).map (·.type) = some 205 := by kernel_rfl
theorem cellsPow : Tryd.prog.cellsOf 205 = 20 := by kernel_rfl
theorem cellsU64 : Tryd.prog.cellsOf 141 = 1 := by kernel_rfl

theorem laid_tail {P : Program} {x : String × DataW Unit} {rest : List (String × DataW Unit)} {W : World} (h : laidMet P (x :: rest) W) : laidMet P rest W := by
  obtain ⟨ps, ⟨g, t, cs, fuel, p, q, h1, h2, h3, h4, h5, rfl⟩, hnd, hall⟩ := h
  exact ⟨q, h5, (List.nodup_append.1 hnd).2.1, fun b off hm => hall b off (List.mem_append_right _ hm)⟩

theorem formulaTells_table {W : World} (h : laidMetH Tryd.prog Rows.formulaTellsRow.laid W) : Lib.TabIs Tryd.prog W "internal/strconv.uint64pow10" .u64 Lib.pow10Tab :=
  Lib.tabIs_of_head (rest := []) gPow gPowType Tryd.underlying205 Tryd.underlying141 cellsU64 cellsPow (laid_tail (laid_tail (show laidMet Tryd.prog (_ :: _ :: _ :: []) W from h)))

theorem formulaTells_contract (H : Type) (enc : TypeId × Value → H) (W : World) (base : Nat) (args : Array Value) (ds gs : List (DataW H)) (before : List MemPlace)
    (hval : ∀ (j : Nat) t v, Tryd.f9.params[j]? = some t → args[j]? = some v → Value.okWide Tryd.prog W .any base t v)
    (hW : DataW.Whole enc Tryd.prog Tryd.f9.params.toList Rows.formulaTellsSpec.vars false W args.toList ds gs before) (hL : laidMetH Tryd.prog Rows.formulaTellsRow.laid W) :
    Calls Tryd.prog 9 args W fun e W' => ∃ v, e = .returned v ∧ Rows.formulaTellsSpec.post enc Tryd.prog Tryd.f9 false true false false W args v W' := by
  have hW' := hW
  obtain ⟨p, q, hA0, hV, rfl, hfz, hnd⟩ := hW
  have hA : DataW.TrodAll enc Tryd.prog W 0 (fun _ => true) true Tryd.f9.params.toList args.toList ds p := hA0
  rw [Tryd.params9] at hA hval
  obtain ⟨v0, d0, rfl, rfl, h0⟩ := trodAll_one hA
  obtain ⟨rfl, rfl⟩ := trodVars_none hV
  have h0k := h0
  obtain ⟨F, i0⟩ := formulaE_of_trod (hval 0 59 _ rfl rfl) h0
  clear hA0 hA
  simp only [List.append_nil] at hW' hfz
  have hlt : ∀ x ∈ p, x.block < W.heap.size := fun x hx => hW'.lt x (by simpa using hx)
  refine (formulaTells_any i0 (Lib.tabBelow_of_tabIs (formulaTells_table hL))).mono fun e W' ⟨he, hb⟩ => ?_
  subst he
  exact ⟨_, rfl, _, _, _, [], _, [], hW', trodAll_mk1 (shut_bool Tryd.underlying4 _), trodAll_mk1 (Below.trod laidOutH (by kernel_rfl) (of_decide_eq_true (by kernel_rfl)) h0k hb (fun x hx => hlt x (by simp [hx]))), rfl, hb.frame _, fun h => by cases h⟩

/-- A block with these integers in its cells. -/
def layCells (k : IntKind) (zs : List Int) : Obj → Obj
  | .cells _ t frozen => .cells (zs.map fun z => Value.int k z).toArray t frozen
  | o => o

/-- A world with the three tables laid as their initialisers lay them. -/
def layTabs (W : World) : World :=
  { W with heap := ((W.heap.modify 5 (layCells .u8 [0, 1, 28, 2, 29, 14, 24, 3, 30, 22, 20, 15, 25, 17, 4, 8, 31, 27, 13, 23, 21, 19, 16, 7, 26, 12, 18, 6, 11, 5, 10, 9])).modify 2 (layCells .u8 (Lib.deBruijn64tab.map (fun n : Nat => (n : Int))))).modify 1 (layCells .u64 Lib.pow10Tab) }

def formulaTells_args : Array Value := #[.slice .none 0 0]

theorem formulaTells_met (os : Os) : laidMet Tryd.prog Rows.formulaTellsRow.laid ((layTabs (World.holding Tryd.prog os ⟨#[], #[], []⟩)).forCall (fun _ _ => 0) ⟨#[], formulaTells_args, []⟩).memory :=
  laidMet_of_run' 8 (by kernel_rfl) (by kernel_rfl)

theorem formulaTells_reads (os : Os) {H : Type} (enc : TypeId × Value → H) : ∃ places, DataW.whole enc Tryd.prog ((layTabs (World.holding Tryd.prog os ⟨#[], #[], []⟩)).forCall (fun _ _ => 0) ⟨#[], formulaTells_args, []⟩).memory Tryd.f9.params.toList Rows.formulaTellsSpec.vars false formulaTells_args.toList 8 = some ([.nil], [], places) :=
  ⟨[], by kernel_rfl⟩

theorem formulaTells_lifted (os : Os) (started : os.Started) (H : Type) (enc : TypeId × Value → H) (F : Stop.Interp) :
    ReturnsInHanded {} Tryd.checked os 9 .any ((OpenSpec.ofChange Rows.formulaTellsSpec).preRow enc Tryd.prog Tryd.f9 Rows.formulaTellsRow.domain false Rows.formulaTellsRow.laid) (((OpenSpec.ofChange Rows.formulaTellsSpec).at F).post enc Tryd.prog Tryd.f9 false true false false) := by
  obtain ⟨places, hx⟩ := formulaTells_reads os enc
  refine returnsInHanded_of_row (C := Tryd.checked) (s := OpenSpec.ofChange Rows.formulaTellsSpec) ownH started (by kernel_rfl) Tryd.func9
    (witness_row_at (enc := enc) (C := Tryd.checked) false (layTabs (World.holding Tryd.prog os ⟨#[], #[], []⟩)) formulaTells_args rfl (by kernel_rfl) (by kernel_rfl) (by kernel_rfl)
      (OpenSpec.preRow_of_cond 8 hx (by kernel_rfl) (fun k hk => by cases hk) (by kernel_rfl) (formulaTells_met os))) ?_
  intro W base args ds gs before hval hW _ _ _ hL _ _
  exact formulaTells_contract H enc W base args ds gs before hval hW hL

theorem formulaTells_said : Rows.FormulaTellsSaid :=
  OpenClaim.holds_of_cond 9 Tryd.f9 rfl rfl rfl rfl rfl rfl rfl ⟨rfl, rfl, rfl, rfl, rfl⟩ rfl rfl rfl rfl rfl (by kernel_rfl) Tryd.func9 (by kernel_rfl)
    (of_decide_eq_true (by kernel_rfl)) (by unfold Func.isWrapper; first | (rw [if_pos (by decide +kernel)]; kernel_rfl) | (rw [if_neg (by decide +kernel)]; exact ⟨rfl, rfl⟩))
    (fun os started H enc _ F => by rw [OpenClaim.pre_eq_preRow]; exact formulaTells_lifted os started H enc F)

theorem formulaTells_plain (f : FuncId) (fn : Func) (hf : Tryd.pinned.checked.prog.funcNamed "lassowork/lassoworklaw.FormulaTells" = some f) (hfn : Tryd.pinned.checked.prog.funcs[f]? = some fn) :
    true = Tryd.pinned.checked.prog.looks [] ∧ ∀ (j : Nat) t, fn.params[j]? = some t → Tryd.pinned.checked.prog.wantsStandIn t = false := by
  obtain rfl : f = 9 := Option.some.inj ((show Tryd.prog.funcNamed "lassowork/lassoworklaw.FormulaTells" = some 9 by kernel_rfl).symm.trans hf) |>.symm
  obtain rfl : fn = Tryd.f9 := (Option.some.inj (Tryd.func9.symm.trans hfn)).symm
  refine ⟨by kernel_rfl, fun j t ht => ?_⟩
  rw [Tryd.params9] at ht
  have hm := Array.mem_of_getElem? ht
  simp only [List.mem_toArray, List.mem_cons, List.not_mem_nil, or_false] at hm
  subst hm
  exact (show Tryd.prog.wantsStandIn 59 = false by kernel_rfl)

theorem formulaTells_card : Rows.FormulaTellsCardSaid :=
  Claim7.holds_tied_plain_at .later [] _ _ _ _ formulaTells_said (fun _ h => by cases h) (by kernel_rfl) (fun _ h => by cases h) formulaTells_row_tie rfl ⟨rfl, rfl⟩ (by kernel_rfl) rfl formulaTells_plain (by kernel_rfl)
end Go.Proofs.YtpiacnnifdjlkaaDoor
