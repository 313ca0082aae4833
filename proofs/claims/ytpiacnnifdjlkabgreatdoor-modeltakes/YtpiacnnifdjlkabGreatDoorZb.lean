/- ModelTakes holds: whatever model and lasso are handed in, Check of package model answers what the document says, and the automaton that Auto makes of the model takes just the words that the model goes by, errors too; the tables deBruijn32tab and deBruijn64tab of math/bits and uint64pow10 of internal/strconv are as the program's text lays them. -/
import Derived.Test.YtpiacnnifdjlkabGreatDoorYt
set_option maxRecDepth 100000
set_option maxHeartbeats 8000000
namespace Go.Proofs.YtpiacnnifdjlkabGreatDoor
open Go.ChangeShapes Go.WideShapes Go.ChangeAt Go.RowKit Go.Deep
theorem modelTakes_table {W:World} (h:laidMetH Tryz.prog Rows.modelTakesRow.laid W):Lib.TabIs Tryz.prog W "math/bits.deBruijn64tab" .u8 tab64:=
 Lib.tabIs_of_head gTab64 gTabMType Tryz.underlying294 Tryz.underlying5 cellsU8M cellsTabM (laid_tailM (show laidMet Tryz.prog (_ :: _ :: _ :: []) W from h))
theorem modelTakes_contract (H:Type) (enc:TypeId × Value→H) (W:World) (base:Nat) (args:Array Value) (ds gs:List (DataW H)) (before:List MemPlace)
  (hval:∀ (j:Nat) t v,Tryz.f4.params[j]?=some t→args[j]?=some v→Value.okWide Tryz.prog W .any base t v)
  (hW:DataW.Whole enc Tryz.prog Tryz.f4.params.toList Rows.modelTakesSpec.vars false W args.toList ds gs before) (hS:(DataW.weightsEach Tryz.prog (Tryz.f4.params.toList ++ (OpenSpec.ofChange Rows.modelTakesSpec).bare.plain.varTypes Tryz.prog) (ds ++ gs)).all (·≤reachBytes)=true) (hL:laidMetH Tryz.prog Rows.modelTakesRow.laid W) :
  Calls Tryz.prog 4 args W fun e W'=>∃ v,e=.returned v∧Rows.modelTakesSpec.post enc Tryz.prog Tryz.f4 false true false false W args v W':=by
 have hW':=hW
 obtain ⟨p,q,hA0,hV,rfl,hfz,hnd⟩:=hW
 have hA:DataW.TrodAll enc Tryz.prog W 0 (fun _=>true) true Tryz.f4.params.toList args.toList ds p:=hA0
 rw [Tryz.params4] at hA hval hS
 obtain ⟨v0,v1,d0,d1,p0,p1,rfl,rfl,rfl,h0,h1⟩:=trodAll_two hA
 obtain ⟨rfl,rfl⟩:=trodVars_none hV
 have h0k:=h0
 have h1k:=h1
 have hSM:(d0.weights Tryz.prog 59).all (·≤reachBytes)=true:=by
  rw [List.all_eq_true]
  intro x hx
  exact List.all_eq_true.1 hS x (DataW.weights_mem_each (j:=0) (t:=59) (d:=d0) rfl rfl x hx)
 obtain ⟨M,hMd,hbf,hbr⟩:=model_of_trod (hval 0 59 _ rfl rfl) h0 hSM
 obtain ⟨hv,lv,hs,ls,rfl,i0,i1⟩:=lasso_of_trod (hval 1 28 _ rfl rfl) h1
 clear hA0 hA
 simp only [List.append_nil] at hW' hfz
 have hlt0:∀ x ∈ p0,x.block < W.heap.size:=fun x hx=>by simpa using hW'.lt x (by simp [hx])
 have hlt1:∀ x ∈ p1,x.block < W.heap.size:=fun x hx=>by simpa using hW'.lt x (by simp [hx])
 refine (modelTakes_any hMd i0 i1 hbf hbr (tab_of_is (modelTakes_table hL))).mono fun e W' ⟨he,hb⟩=>?_
 subst he
 exact ⟨_,rfl,_,_,_,[],_,[],hW',trodAll_mk1 (shut_bool Tryz.underlying4 _),trodAll_mk2 (Below.trod laidOut (by kernel_rfl) (of_decide_eq_true (by kernel_rfl)) h0k hb hlt0) (Below.trod laidOut (by kernel_rfl) (of_decide_eq_true (by kernel_rfl)) h1k hb hlt1),rfl,hb.frame _,fun h=>by cases h⟩
def modelTakes_args:Array Value:=#[.agg #[.int .i64 0,.slice .none 0 0,.slice .none 0 0,.slice .none 0 0],.agg #[.slice .none 0 0,.slice .none 0 0]]
theorem modelTakes_met (os:Os):laidMet Tryz.prog Rows.modelTakesRow.laid ((layTabsM (World.holding Tryz.prog os ⟨#[],#[],[]⟩)).forCall (fun _ _=>0) ⟨#[],modelTakes_args,[]⟩).memory:=
 laidMet_of_run' 8 (by kernel_rfl) (by kernel_rfl)
theorem modelTakes_reads (os:Os) {H:Type} (enc:TypeId × Value→H):∃ places,DataW.whole enc Tryz.prog ((layTabsM (World.holding Tryz.prog os ⟨#[],#[],[]⟩)).forCall (fun _ _=>0) ⟨#[],modelTakes_args,[]⟩).memory Tryz.f4.params.toList Rows.modelTakesSpec.vars false modelTakes_args.toList 8=some ([.agg [.lit (.int .i64 0),.nil,.nil,.nil],.agg [.nil,.nil]],[],places):=
 ⟨[],by kernel_rfl⟩
theorem modelTakes_lifted (os:Os) (started:os.Started) (H:Type) (enc:TypeId × Value→H) (F:Stop.Interp) :
  ReturnsInHanded {} Tryz.checked os 4 .any ((OpenSpec.ofChange Rows.modelTakesSpec).preRow enc Tryz.prog Tryz.f4 Rows.modelTakesRow.domain false Rows.modelTakesRow.laid) (((OpenSpec.ofChange Rows.modelTakesSpec).at F).post enc Tryz.prog Tryz.f4 false true false false):=by
 obtain ⟨places,hx⟩:=modelTakes_reads os enc
 refine returnsInHanded_of_row (C:=Tryz.checked) (s:=OpenSpec.ofChange Rows.modelTakesSpec) own started (by kernel_rfl) Tryz.func4
  (witness_row_at (enc:=enc) (C:=Tryz.checked) false (layTabsM (World.holding Tryz.prog os ⟨#[],#[],[]⟩)) modelTakes_args rfl (by kernel_rfl) (by kernel_rfl) (by kernel_rfl)
   (OpenSpec.preRow_of_cond 8 hx (by kernel_rfl) (fun k hk=>by cases hk) (by kernel_rfl) (modelTakes_met os))) ?_
 intro W base args ds gs before hval hW _ _ hS hL _ _
 exact modelTakes_contract H enc W base args ds gs before hval hW hS hL
theorem modelTakes_said:Rows.ModelTakesSaid:=
 OpenClaim.holds_of_cond 4 Tryz.f4 rfl rfl rfl rfl rfl rfl rfl ⟨rfl,rfl,rfl,rfl,rfl⟩ rfl rfl rfl rfl rfl (by kernel_rfl) Tryz.func4 (by kernel_rfl)
  (of_decide_eq_true (by kernel_rfl)) (by unfold Func.isWrapper;first | (rw [if_pos (by decide +kernel)];kernel_rfl) | (rw [if_neg (by decide +kernel)];exact ⟨rfl,rfl⟩))
  (fun os started H enc _ F=>by rw [OpenClaim.pre_eq_preRow];exact modelTakes_lifted os started H enc F)
theorem modelTakes_plain (f:FuncId) (fn:Func) (hf:Tryz.pinned.checked.prog.funcNamed "lassowork/lassoworklaw.ModelTakes"=some f) (hfn:Tryz.pinned.checked.prog.funcs[f]?=some fn) :
  true=Tryz.pinned.checked.prog.looks []∧∀ (j:Nat) t,fn.params[j]?=some t→Tryz.pinned.checked.prog.wantsStandIn t=false:=by
 obtain rfl:f=4:=Option.some.inj ((show Tryz.prog.funcNamed "lassowork/lassoworklaw.ModelTakes"=some 4 by kernel_rfl).symm.trans hf) |>.symm
 obtain rfl:fn=Tryz.f4:=(Option.some.inj (Tryz.func4.symm.trans hfn)).symm
 refine ⟨by kernel_rfl,fun j t ht=>?_⟩
 rw [Tryz.params4] at ht
 have hm:=Array.mem_of_getElem? ht
 simp only [List.mem_toArray,List.mem_cons,List.not_mem_nil,or_false] at hm
 rcases hm with rfl | rfl
 ·exact (show Tryz.prog.wantsStandIn 59=false by kernel_rfl)
 ·exact (show Tryz.prog.wantsStandIn 28=false by kernel_rfl)
theorem modelTakes_card:Rows.ModelTakesCardSaid:=
 Claim7.holds_tied_plain_at .later [] _ _ _ _ modelTakes_said (fun _ h=>by cases h) (by kernel_rfl) (fun _ h=>by cases h) modelTakes_row_tie rfl ⟨rfl,rfl⟩ (by kernel_rfl) rfl modelTakes_plain (by kernel_rfl)
end Go.Proofs.YtpiacnnifdjlkabGreatDoor
