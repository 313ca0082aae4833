/- HoldsHangs holds: whatever formula and lasso are handed in, a formula holds just where its opposite does not, Until holds where B does, or A and it does next, Release where B does, and A or it does next; the tables deBruijn32tab and deBruijn64tab of math/bits and uint64pow10 of internal/strconv are as the program's text lays them. -/
import Derived.Test.YtpiacnnifdjlkaaDoorEw
import Derived.Test.YtpiacnnifdjlkaaDoorCards
import Derived.Test.YtpiacnnifdjlkaaDoorTie
import Derived.LaidLaws
import Derived.Lib.LaidTab
import Derived.Lib.TrailingZeros
namespace Go.Proofs.YtpiacnnifdjlkaaDoor
open Go.ChangeShapes Go.WideShapes Go.ChangeAt Go.RowKit Go.Deep
set_option maxRecDepth 100000

theorem laidOutH : laidOutB Tryd.prog = true := by kernel_rfl
theorem ownH : ownKnob Tryd.prog.godebug = none := by kernel_rfl
theorem gPow : Tryd.prog.globalNamed "internal/strconv.uint64pow10" = some 1 := by kernel_rfl
theorem gPowType : (Tryd.prog.globals[1]?).map (·.type) = some 205 := by kernel_rfl
theorem cellsPow : Tryd.prog.cellsOf 205 = 20 := by kernel_rfl
theorem cellsU64 : Tryd.prog.cellsOf 141 = 1 := by kernel_rfl

theorem laid_tail {P : Program} {x : String × DataW Unit} {rest : List (String × DataW Unit)} {W : World} (h : laidMet P (x :: rest) W) : laidMet P rest W := by
  obtain ⟨ps, ⟨g, t, cs, fuel, p, q, h1, h2, h3, h4, h5, rfl⟩, hnd, hall⟩ := h
  exact ⟨q, h5, (List.nodup_append.1 hnd).2.1, fun b off hm => hall b off (List.mem_append_right _ hm)⟩

theorem holdsHangs_table {W : World} (h : laidMetH Tryd.prog Rows.holdsHangsRow.laid W) : Lib.TabIs Tryd.prog W "internal/strconv.uint64pow10" .u64 Lib.pow10Tab :=
  Lib.tabIs_of_head (rest := []) gPow gPowType Tryd.underlying205 Tryd.underlying141 cellsU64 cellsPow (laid_tail (laid_tail (show laidMet Tryd.prog (_ :: _ :: _ :: []) W from h)))

theorem holdsHangs_contract (H : Type) (enc : TypeId × Value → H) (W : World) (base : Nat) (args : Array Value) (ds gs : List (DataW H)) (before : List MemPlace)
    (hval : ∀ (j : Nat) t v, Tryd.f12.params[j]? = some t → args[j]? = some v → Value.okWide Tryd.prog W .any base t v)
    (hW : DataW.Whole enc Tryd.prog Tryd.f12.params.toList Rows.holdsHangsSpec.vars false W args.toList ds gs before) (hL : laidMetH Tryd.prog Rows.holdsHangsRow.laid W) :
    Calls Tryd.prog 12 args W fun e W' => ∃ v, e = .returned v ∧ Rows.holdsHangsSpec.post enc Tryd.prog Tryd.f12 false true false false W args v W' := by
  have hW' := hW
  obtain ⟨p, q, hA0, hV, rfl, hfz, hnd⟩ := hW
  have hA : DataW.TrodAll enc Tryd.prog W 0 (fun _ => true) true Tryd.f12.params.toList args.toList ds p := hA0
  rw [Tryd.params12] at hA hval
  obtain ⟨v0, v1, d0, d1, p0, p1, rfl, rfl, rfl, h0, h1⟩ := trodAll_two hA
  obtain ⟨rfl, rfl⟩ := trodVars_none hV
  have h0k := h0
  have h1k := h1
  obtain ⟨F, i0⟩ := formulaE_of_trod (hval 0 59 _ rfl rfl) h0
  obtain ⟨hv, lv, hs, ls, rfl, i1, i2⟩ := lassoE_of_trod (hval 1 44 _ rfl rfl) h1
  clear hA0 hA
  simp only [List.append_nil] at hW' hfz
  have hlt : ∀ x ∈ p0 ++ p1, x.block < W.heap.size := fun x hx => hW'.lt x (by simpa using hx)
  refine (holdsHangs_any i0 i1 i2 (Lib.tabBelow_of_tabIs (holdsHangs_table hL))).mono fun e W' ⟨he, hb⟩ => ?_
  subst he
  exact ⟨_, rfl, _, _, _, [], _, [], hW', trodAll_mk1 (shut_bool Tryd.underlying4 _), trodAll_mk2 (Below.trod laidOutH (by kernel_rfl) (of_decide_eq_true (by kernel_rfl)) h0k hb (fun x hx => hlt x (by simp [hx]))) (Below.trod laidOutH (by kernel_rfl) (of_decide_eq_true (by kernel_rfl)) h1k hb (fun x hx => hlt x (by simp [hx]))), rfl, hb.frame _, fun h => by cases h⟩

/-- A block with these integers in its cells. -/
def layCells (k : IntKind) (zs : List Int) : Obj → Obj
  | .cells _ t frozen => .cells (zs.map fun z => Value.int k z).toArray t frozen
  | o => o

/-- A world with the three tables laid as their initialisers lay them. -/
def layTabs (W : World) : World :=
  { W with heap := ((W.heap.modify 5 (layCells .u8 [0, 1, 28, 2, 29, 14, 24, 3, 30, 22, 20, 15, 25, 17, 4, 8, 31, 27, 13, 23, 21, 19, 16, 7, 26, 12, 18, 6, 11, 5, 10, 9])).modify 2 (layCells .u8 (Lib.deBruijn64tab.map (fun n : Nat => (n : Int))))).modify 1 (layCells .u64 Lib.pow10Tab) }

def holdsHangs_args : Array Value := #[.slice .none 0 0, .agg #[.slice .none 0 0, .slice .none 0 0]]

theorem holdsHangs_met (os : Os) : laidMet Tryd.prog Rows.holdsHangsRow.laid ((layTabs (World.holding Tryd.prog os ⟨#[], #[], []⟩)).forCall (fun _ _ => 0) ⟨#[], holdsHangs_args, []⟩).memory :=
  laidMet_of_run' 8 (by kernel_rfl) (by kernel_rfl)

theorem holdsHangs_reads (os : Os) {H : Type} (enc : TypeId × Value → H) : ∃ places, DataW.whole enc Tryd.prog ((layTabs (World.holding Tryd.prog os ⟨#[], #[], []⟩)).forCall (fun _ _ => 0) ⟨#[], holdsHangs_args, []⟩).memory Tryd.f12.params.toList Rows.holdsHangsSpec.vars false holdsHangs_args.toList 8 = some ([.nil, .agg [.nil, .nil]], [], places) :=
  ⟨[], by kernel_rfl⟩

theorem holdsHangs_lifted (os : Os) (started : os.Started) (H : Type) (enc : TypeId × Value → H) (F : Stop.Interp) :
    ReturnsInHanded {} Tryd.checked os 12 .any ((OpenSpec.ofChange Rows.holdsHangsSpec).preRow enc Tryd.prog Tryd.f12 Rows.holdsHangsRow.domain false Rows.holdsHangsRow.laid) (((OpenSpec.ofChange Rows.holdsHangsSpec).at F).post enc Tryd.prog Tryd.f12 false true false false) := by
  obtain ⟨places, hx⟩ := holdsHangs_reads os enc
  refine returnsInHanded_of_row (C := Tryd.checked) (s := OpenSpec.ofChange Rows.holdsHangsSpec) ownH started (by kernel_rfl) Tryd.func12
    (witness_row_at (enc := enc) (C := Tryd.checked) false (layTabs (World.holding Tryd.prog os ⟨#[], #[], []⟩)) holdsHangs_args rfl (by kernel_rfl) (by kernel_rfl) (by kernel_rfl)
      (OpenSpec.preRow_of_cond 8 hx (by kernel_rfl) (fun k hk => by cases hk) (by kernel_rfl) (holdsHangs_met os))) ?_
  intro W base args ds gs before hval hW _ _ _ hL _ _
  exact holdsHangs_contract H enc W base args ds gs before hval hW hL

theorem holdsHangs_said : Rows.HoldsHangsSaid :=
  OpenClaim.holds_of_cond 12 Tryd.f12 rfl rfl rfl rfl rfl rfl rfl ⟨rfl, rfl, rfl, rfl, rfl⟩ rfl rfl rfl rfl rfl (by kernel_rfl) Tryd.func12 (by kernel_rfl)
    (of_decide_eq_true (by kernel_rfl)) (by unfold Func.isWrapper; first | (rw [if_pos (by decide +kernel)]; kernel_rfl) | (rw [if_neg (by decide +kernel)]; exact ⟨rfl, rfl⟩))
    (fun os started H enc _ F => by rw [OpenClaim.pre_eq_preRow]; exact holdsHangs_lifted os started H enc F)

theorem holdsHangs_plain (f : FuncId) (fn : Func) (hf : Tryd.pinned.checked.prog.funcNamed "lassowork/lassoworklaw.HoldsHangs" = some f) (hfn : Tryd.pinned.checked.prog.funcs[f]? = some fn) :
    true = Tryd.pinned.checked.prog.looks [] ∧ ∀ (j : Nat) t, fn.params[j]? = some t → Tryd.pinned.checked.prog.wantsStandIn t = false := by
  obtain rfl : f = 12 := Option.some.inj ((show Tryd.prog.funcNamed "lassowork/lassoworklaw.HoldsHangs" = some 12 by kernel_rfl).symm.trans hf) |>.symm
  obtain rfl : fn = Tryd.f12 := (Option.some.inj (Tryd.func12.symm.trans hfn)).symm
  refine ⟨by kernel_rfl, fun j t ht => ?_⟩
  rw [Tryd.params12] at ht
  have hm := Array.mem_of_getElem? ht
  simp only [List.mem_toArray, List.mem_cons, List.not_mem_nil, or_false] at hm
  rcases hm with rfl | rfl
  · exact (show Tryd.prog.wantsStandIn 59 = false by kernel_rfl)
  · exact (show Tryd.prog.wantsStandIn 44 = false by kernel_rfl)

theorem holdsHangs_card : Rows.HoldsHangsCardSaid :=
  Claim7.holds_tied_plain_at .later [] _ _ _ _ holdsHangs_said (fun _ h => by cases h) (by kernel_rfl) (fun _ h => by cases h) holdsHangs_row_tie rfl ⟨rfl, rfl⟩ (by kernel_rfl) rfl holdsHangs_plain (by kernel_rfl)
end Go.Proofs.YtpiacnnifdjlkaaDoor
