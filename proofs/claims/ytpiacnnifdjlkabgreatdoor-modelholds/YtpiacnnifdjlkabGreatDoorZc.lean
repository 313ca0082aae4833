/- ModelHolds holds: whatever model, formula and lasso are handed in, if Holds of package model tells that the formula holds of the model, it holds of each word that the model goes by; what is told, if it does not, is a word of the model of which it does not hold; its errors are what the document says; the tables deBruijn32tab and deBruijn64tab of math/bits and uint64pow10 of internal/strconv are as the program's text lays them. -/
import Derived.Test.YtpiacnnifdjlkabGreatDoorYi
import Derived.WalkKit
import Derived.ProofKit
import Derived.OpenShut
import Derived.Carry
import Derived.Deep.DeepHandedRow
import Derived.Lib.SmallJoins
import Derived.Deep.Grids
import Derived.Deep.Strs
import Derived.Test.YtpiacnnifdjlkabGreatDoorYt
set_option maxRecDepth 100000
set_option maxHeartbeats 8000000
namespace Go.Proofs.YtpiacnnifdjlkabGreatDoor
open Go.ChangeShapes Go.WideShapes Go.ChangeAt Go.RowKit Go.Deep
theorem cellsIntE:Tryz.prog.cellsOf 3=1:=by kernel_rfl
theorem cellsNodeE:Tryz.prog.cellsOf 55=4:=by kernel_rfl
theorem plainE {W:World}{a:Addr}{v:Value} (h:W.cell? (a.add 0)=some v):∃ b off,a=⟨b,off,none⟩:=by
 obtain ⟨b,off,spot⟩:=a
 simp only [Addr.add,if_true,World.cell?] at h
 split at h
 ·cases spot with
  | none=>exact ⟨b,off,rfl⟩
  | some s=>simp at h
 ·cases h
theorem intE {H:Type}{enc:TypeId × Value→H}{W:World}{n:Nat}{c:Value}{y:DataW H × List MemPlace} (h:DataW.trod enc Tryz.prog W 0 (fun _=>true) true n 3 [c]=some y):∃ z,c=.int .i64 z:=by
 obtain ⟨z,hc,_,hw⟩:=DataW.trod_int Tryz.underlying3 h
 simp only [List.cons.injEq,and_true] at hc
 exact ⟨z,hc⟩
theorem four_of {cs:List Value} (h:cs.length=4):∃ c0 c1 c2 c3,cs=[c0,c1,c2,c3]:=by
 match cs,h with
 | [c0,c1,c2,c3],_=>exact ⟨c0,c1,c2,c3,rfl⟩
theorem nodeE_of_trod {H:Type}{enc:TypeId × Value→H}{W:World}{n:Nat}{cs:List Value}{y:DataW H × List MemPlace} (h:DataW.trod enc Tryz.prog W 0 (fun _=>true) true n 55 cs=some y) :
  ∃ s:Nd,cs=[.int .i64 s.k,.int .i64 s.a,.int .i64 s.b,.int .i64 s.n]:=by
 obtain ⟨xs,m,_,_,hl,hlen,hfs⟩:=DataW.trod_struct Tryz.underlying55 h
 have hx:xs.length=4:=hlen
 rw [cellsNodeE] at hl
 obtain ⟨c0,c1,c2,c3,rfl⟩:=four_of hl
 have key:∀ i (hi:i < 4),xs[i]?=some (xs[i]'(by omega)):=fun i hi=>List.getElem?_eq_getElem (by omega)
 have t0:DataW.trod enc Tryz.prog W 0 (fun _=>true) true m 3 (List.take (Tryz.prog.cellsOf 3) (List.drop 0 [c0,c1,c2,c3]))=some (xs[0]'(by omega)):=(hfs 0 _ rfl).trans (key 0 (by omega))
 have t1:DataW.trod enc Tryz.prog W 0 (fun _=>true) true m 3 (List.take (Tryz.prog.cellsOf 3) (List.drop 1 [c0,c1,c2,c3]))=some (xs[1]'(by omega)):=(hfs 1 _ rfl).trans (key 1 (by omega))
 have t2:DataW.trod enc Tryz.prog W 0 (fun _=>true) true m 3 (List.take (Tryz.prog.cellsOf 3) (List.drop 2 [c0,c1,c2,c3]))=some (xs[2]'(by omega)):=(hfs 2 _ rfl).trans (key 2 (by omega))
 have t3:DataW.trod enc Tryz.prog W 0 (fun _=>true) true m 3 (List.take (Tryz.prog.cellsOf 3) (List.drop 3 [c0,c1,c2,c3]))=some (xs[3]'(by omega)):=(hfs 3 _ rfl).trans (key 3 (by omega))
 rw [cellsIntE] at t0 t1 t2 t3
 obtain ⟨z0,rfl⟩:=intE t0
 obtain ⟨z1,rfl⟩:=intE t1
 obtain ⟨z2,rfl⟩:=intE t2
 obtain ⟨z3,rfl⟩:=intE t3
 exact ⟨⟨z0,z1,z2,z3⟩,rfl⟩
theorem nodesE_of_trod {H:Type}{enc:TypeId × Value→H}{W:World}{n:Nat}{u:Value}{y:DataW H × List MemPlace} (h:DataW.trod enc Tryz.prog W 0 (fun _=>true) true n 30 [u]=some y) :
  ∃ zs,NodeSl W u zs:=by
 rcases open_slice Tryz.underlying30 h with ⟨hcs,_⟩ | ⟨a,len,cap,m,k,D,Pl,hcs,_,hl,hm,hmm,_,hel⟩
 ·simp only [List.cons.injEq,and_true] at hcs
  subst hcs
  exact ⟨[],.none,0,rfl,by simp [maxLen],Or.inl rfl,fun _=>rfl,by simp⟩
 ·simp only [List.cons.injEq,and_true] at hcs
  subst hcs
  simp only [if_true] at hmm
  subst hmm
  rw [cellsNodeE] at hel
  have each:∀ i,i < m→∃ s:Nd,W.cell? ((a.add (i * 4)).add 0)=some (.int .i64 s.k)∧W.cell? ((a.add (i * 4)).add 1)=some (.int .i64 s.a)∧W.cell? ((a.add (i * 4)).add 2)=some (.int .i64 s.b)∧W.cell? ((a.add (i * 4)).add 3)=some (.int .i64 s.n):=by
   intro i hi
   obtain ⟨cs',hc,ht⟩:=hel i hi
   obtain ⟨s,rfl⟩:=nodeE_of_trod ht
   obtain ⟨_,_,hcell⟩:=World.cells?_some hc
   exact ⟨s,hcell 0 (by omega),hcell 1 (by omega),hcell 2 (by omega),hcell 3 (by omega)⟩
  obtain ⟨S,hS⟩:=@choose_lt Nd ⟨nd0⟩ _ _ each
  have hlen:((List.range len).map S).length=len:=by simp
  refine ⟨(List.range len).map S,some a,m,by rw [hlen],by rw [hlen];omega,?_,fun e=>(by cases e),by rw [hlen];exact hl⟩
  by_cases h0:len=0
  ·left
   rw [h0]
   rfl
  ·right
   have c0:=(hS 0 (by omega)).1
   rw [Nat.zero_mul] at c0
   have c00:W.cell? (a.add 0)=some (.int .i64 (S 0).k):=c0
   obtain ⟨b,off,rfl⟩:=plainE c00
   refine ⟨b,off,rfl,fun i hi=>?_⟩
   rw [hlen] at hi
   obtain ⟨q0,q1,q2,q3⟩:=hS i (by omega)
   rw [add_none,add_none] at q0 q1 q2 q3
   have e:((List.range len).map S).getD i nd0=S i:=by simp [List.getD,hi]
   rw [e]
   exact ⟨q0,q1,q2,q3⟩
theorem formulaE_of_trod {H:Type}{enc:TypeId × Value→H}{W:World}{r:Reach}{b0:Nat}{v:Value}{d:DataW H}{p:List MemPlace} (hv:Value.okWide Tryz.prog W r b0 30 v) (h:DataW.Trod enc Tryz.prog W 0 (fun _=>true) true 30 v d p) :
  ∃ F,NodeSl W v F:=by
 obtain ⟨a,len,cap,rfl⟩:=okWide_slice Tryz.underlying30 hv
 obtain ⟨fuel,hf⟩:=h
 exact nodesE_of_trod hf
theorem modelHolds_contract (H:Type) (enc:TypeId × Value→H) (W:World) (base:Nat) (args:Array Value) (ds gs:List (DataW H)) (before:List MemPlace)
  (hval:∀ (j:Nat) t v,Tryz.f5.params[j]?=some t→args[j]?=some v→Value.okWide Tryz.prog W .any base t v)
  (hW:DataW.Whole enc Tryz.prog Tryz.f5.params.toList Rows.modelHoldsSpec.vars false W args.toList ds gs before) (hS:(DataW.weightsEach Tryz.prog (Tryz.f5.params.toList ++ (OpenSpec.ofChange Rows.modelHoldsSpec).bare.plain.varTypes Tryz.prog) (ds ++ gs)).all (·≤reachBytes)=true) (_hL:laidMetH Tryz.prog Rows.modelHoldsRow.laid W) :
  Calls Tryz.prog 5 args W fun e W'=>∃ v,e=.returned v∧Rows.modelHoldsSpec.post enc Tryz.prog Tryz.f5 false true false false W args v W':=by
 have hW':=hW
 obtain ⟨p,q,hA0,hV,rfl,hfz,hnd⟩:=hW
 have hA:DataW.TrodAll enc Tryz.prog W 0 (fun _=>true) true Tryz.f5.params.toList args.toList ds p:=hA0
 rw [Tryz.params5] at hA hval hS
 obtain ⟨v0,v1,v2,d0,d1,d2,p0,p1,p2,rfl,rfl,rfl,h0,h1,h2⟩:=trodAll_three hA
 obtain ⟨rfl,rfl⟩:=trodVars_none hV
 have h0k:=h0
 have h1k:=h1
 have h2k:=h2
 have hSM:(d0.weights Tryz.prog 59).all (·≤reachBytes)=true:=by
  rw [List.all_eq_true]
  intro x hx
  exact List.all_eq_true.1 hS x (DataW.weights_mem_each (j:=0) (t:=59) (d:=d0) rfl rfl x hx)
 obtain ⟨M,hMd,hbf,hbr⟩:=model_of_trod (hval 0 59 _ rfl rfl) h0 hSM
 obtain ⟨F,hFd⟩:=formulaE_of_trod (hval 1 30 _ rfl rfl) h1
 obtain ⟨hv,lv,hs,ls,rfl,i0,i1⟩:=lasso_of_trod (hval 2 28 _ rfl rfl) h2
 clear hA0 hA
 simp only [List.append_nil,List.append_assoc] at hW' hfz
 have hlt0:∀ x ∈ p0,x.block < W.heap.size:=fun x hx=>by simpa using hW'.lt x (by simp [hx])
 have hlt1:∀ x ∈ p1,x.block < W.heap.size:=fun x hx=>by simpa using hW'.lt x (by simp [hx])
 have hlt2:∀ x ∈ p2,x.block < W.heap.size:=fun x hx=>by simpa using hW'.lt x (by simp [hx])
 refine (modelHolds_any hMd hFd i0 i1 hbf hbr).mono fun e W' ⟨he,hb⟩=>?_
 subst he
 exact ⟨_,rfl,_,_,_,[],_,[],hW',trodAll_mk1 (shut_bool Tryz.underlying4 _),trodAll_mk3 (Below.trod laidOut (by kernel_rfl) (of_decide_eq_true (by kernel_rfl)) h0k hb hlt0) (Below.trod laidOut (by kernel_rfl) (of_decide_eq_true (by kernel_rfl)) h1k hb hlt1) (Below.trod laidOut (by kernel_rfl) (of_decide_eq_true (by kernel_rfl)) h2k hb hlt2),rfl,hb.frame _,fun h=>by cases h⟩
def modelHolds_args:Array Value:=#[.agg #[.int .i64 0,.slice .none 0 0,.slice .none 0 0,.slice .none 0 0],.slice .none 0 0,.agg #[.slice .none 0 0,.slice .none 0 0]]
theorem modelHolds_met (os:Os):laidMet Tryz.prog Rows.modelHoldsRow.laid ((layTabsM (World.holding Tryz.prog os ⟨#[],#[],[]⟩)).forCall (fun _ _=>0) ⟨#[],modelHolds_args,[]⟩).memory:=
 laidMet_of_run' 8 (by kernel_rfl) (by kernel_rfl)
theorem modelHolds_reads (os:Os) {H:Type} (enc:TypeId × Value→H):∃ places,DataW.whole enc Tryz.prog ((layTabsM (World.holding Tryz.prog os ⟨#[],#[],[]⟩)).forCall (fun _ _=>0) ⟨#[],modelHolds_args,[]⟩).memory Tryz.f5.params.toList Rows.modelHoldsSpec.vars false modelHolds_args.toList 8=some ([.agg [.lit (.int .i64 0),.nil,.nil,.nil],.nil,.agg [.nil,.nil]],[],places):=
 ⟨[],by kernel_rfl⟩
theorem modelHolds_lifted (os:Os) (started:os.Started) (H:Type) (enc:TypeId × Value→H) (F:Stop.Interp) :
  ReturnsInHanded {} Tryz.checked os 5 .any ((OpenSpec.ofChange Rows.modelHoldsSpec).preRow enc Tryz.prog Tryz.f5 Rows.modelHoldsRow.domain false Rows.modelHoldsRow.laid) (((OpenSpec.ofChange Rows.modelHoldsSpec).at F).post enc Tryz.prog Tryz.f5 false true false false):=by
 obtain ⟨places,hx⟩:=modelHolds_reads os enc
 refine returnsInHanded_of_row (C:=Tryz.checked) (s:=OpenSpec.ofChange Rows.modelHoldsSpec) own started (by kernel_rfl) Tryz.func5
  (witness_row_at (enc:=enc) (C:=Tryz.checked) false (layTabsM (World.holding Tryz.prog os ⟨#[],#[],[]⟩)) modelHolds_args rfl (by kernel_rfl) (by kernel_rfl) (by kernel_rfl)
   (OpenSpec.preRow_of_cond 8 hx (by kernel_rfl) (fun k hk=>by cases hk) (by kernel_rfl) (modelHolds_met os))) ?_
 intro W base args ds gs before hval hW _ _ hS hL _ _
 exact modelHolds_contract H enc W base args ds gs before hval hW hS hL
theorem modelHolds_said:Rows.ModelHoldsSaid:=
 OpenClaim.holds_of_cond 5 Tryz.f5 rfl rfl rfl rfl rfl rfl rfl ⟨rfl,rfl,rfl,rfl,rfl⟩ rfl rfl rfl rfl rfl (by kernel_rfl) Tryz.func5 (by kernel_rfl)
  (of_decide_eq_true (by kernel_rfl)) (by unfold Func.isWrapper;first | (rw [if_pos (by decide +kernel)];kernel_rfl) | (rw [if_neg (by decide +kernel)];exact ⟨rfl,rfl⟩))
  (fun os started H enc _ F=>by rw [OpenClaim.pre_eq_preRow];exact modelHolds_lifted os started H enc F)
theorem modelHolds_plain (f:FuncId) (fn:Func) (hf:Tryz.pinned.checked.prog.funcNamed "lassowork/lassoworklaw.ModelHolds"=some f) (hfn:Tryz.pinned.checked.prog.funcs[f]?=some fn) :
  true=Tryz.pinned.checked.prog.looks []∧∀ (j:Nat) t,fn.params[j]?=some t→Tryz.pinned.checked.prog.wantsStandIn t=false:=by
 obtain rfl:f=5:=Option.some.inj ((show Tryz.prog.funcNamed "lassowork/lassoworklaw.ModelHolds"=some 5 by kernel_rfl).symm.trans hf) |>.symm
 obtain rfl:fn=Tryz.f5:=(Option.some.inj (Tryz.func5.symm.trans hfn)).symm
 refine ⟨by kernel_rfl,fun j t ht=>?_⟩
 rw [Tryz.params5] at ht
 have hm:=Array.mem_of_getElem? ht
 simp only [List.mem_toArray,List.mem_cons,List.not_mem_nil,or_false] at hm
 rcases hm with rfl | rfl | rfl
 ·exact (show Tryz.prog.wantsStandIn 59=false by kernel_rfl)
 ·exact (show Tryz.prog.wantsStandIn 30=false by kernel_rfl)
 ·exact (show Tryz.prog.wantsStandIn 28=false by kernel_rfl)
theorem modelHolds_card:Rows.ModelHoldsCardSaid:=
 Claim7.holds_tied_plain_at .later [] _ _ _ _ modelHolds_said (fun _ h=>by cases h) (by kernel_rfl) (fun _ h=>by cases h) modelHolds_row_tie rfl ⟨rfl,rfl⟩ (by kernel_rfl) rfl modelHolds_plain (by kernel_rfl)
end Go.Proofs.YtpiacnnifdjlkabGreatDoor
