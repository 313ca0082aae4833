import Derived.Test.YtpiacnnifdjlkabGreatDoorVa
import Derived.Test.YtpiacnnifdjlkabGreatDoorYa
set_option maxRecDepth 100000
set_option maxHeartbeats 8000000
namespace Go.Proofs.YtpiacnnifdjlkabGreatDoor
open Go.RowKit
def Goes (P:Program) (o:Oper) (a:Act) (w:World) (K:Value→World→Prop):Prop:=
 (∃ v w',((execOp a.eval o).run P w=.ok (.value v) w' ∨ ((execOp a.eval o).run P w=.ok .skip w'∧v=undef))∧K v w') ∨
 (∃ f args,(execOp a.eval o).run P w=.ok (.enter f args) w∧Calls P f args w fun e w'=>∃ v,e=.returned v∧K v w') ∨
 (∃ n l f tmps assign body,(execOp a.eval o).run P w=.ok (.round l f tmps assign body) w∧RoundIn Fence.wide n P l f tmps assign body w fun e w'=>∃ v,e=.returned v∧K v w')
def fenceAt:Option Nat→Fence
 | none=>Fence.wide
 | some l=>Fence.wide.inRound l
theorem getD_mem' {xs:List Nat}{i:Nat} (h:i < xs.length):xs.getD i 0 ∈ xs:=by simp [List.getD,h]
theorem round_wide {n n':Nat}{P:Program}{l:Nat}{f:FuncId}{tmps:Array Value}{assign body:Code}{w:World}{R:Ending→World→Prop} (h:RoundIn Fence.wide n P l f tmps assign body w R):RoundIn Fence.wide n' P l f tmps assign body w R:=
 ⟨h.1,fun c cs _=>h.2 c cs (room_wide _)⟩
theorem goes_wpIn {P:Program}{Q:Exit→Act→World→Prop}{lr:Option Nat}{n:Nat}{o:Oper}{a:Act}{w:World}{K:Act→World→Prop} (hnd:∀ c,o.op ≠ .defer c) (h:Goes P o a w fun v w'=>K (a.put o.dst v) w'):o.wpIn (fenceAt lr) n P a w K Q:=by
 unfold Oper.wpIn
 have hsem:Oper.semAt (fenceAt lr).round a.eval o=execOp a.eval o:=Oper.semAt_eq _ _ _ hnd
 refine ⟨fun f _=>by cases lr <;> trivial,?_⟩
 rw [hsem]
 rcases h with ⟨v,w',hr,hk⟩ | ⟨f,args,hr,hc⟩ | ⟨n',l,f,tmps,assign,body,hr,hc⟩
 ·rcases hr with hr | ⟨hr,rfl⟩
  ·rw [hr];exact hk
  ·rw [hr];exact hk
 ·rw [hr]
  simp only [Oper.uponIn]
  have hc':=callsIn_wide (n:=n - 1).2 hc
  cases lr with
  | none=>exact ⟨fun hd=>by simp [fenceAt,Fence.wide] at hd,hc'.mono (fun e w' ⟨v,he,hk⟩=>by subst he;exact hk)⟩
  | some l=>exact ⟨fun hd=>by simp [fenceAt,Fence.wide] at hd,(CallsIn.inRound l hc').mono (fun e w' ⟨v,he,hk⟩=>by subst he;exact hk)⟩
 ·rw [hr]
  simp only [Oper.uponIn]
  have hc':RoundIn Fence.wide (n - 1) P l f tmps assign body w fun e w'=>∃ v,e=.returned v∧K (a.put o.dst v) w':=round_wide hc
  cases lr with
  | none=>exact ⟨fun hd=>by simp [fenceAt,Fence.wide] at hd,hc'.mono (fun e w' ⟨v,he,hk⟩=>by subst he;exact hk)⟩
  | some l0 =>
   have hc2:RoundIn (Fence.wide.inRound l0) (n - 1) P l f tmps assign body w fun e w'=>∃ v,e=.returned v∧K (a.put o.dst v) w':=hc'
   exact ⟨fun hd=>by simp [fenceAt,Fence.wide] at hd,hc2.mono (fun e w' ⟨v,he,hk⟩=>by subst he;exact hk)⟩
def orderlyG (ops:Array Oper) (n:Nat):Bool:=
 (List.range ops.size).all fun i=>match ops[i]? with
  | none=>false
  | some o=>notDefer o.op && (match o.guard with | none=>true | some (j,_)=>dep o j) && o.after.toList.all (fun e=>!Region.binds .any e || decide (e.on < i)) &&
   (match o.dst with
    | none=>true
    | some d=>decide (d < n) && (List.range ops.size).all fun j=>i == j || dstAt ops j != some d)
def needsF (ops:Array Oper) (x:Nat):Nat→Nat→Bool
 | 0,_=>false
 | n+1,y=>match ops[y]? with
  | some o=>o.after.toList.any fun e=>Region.binds .any e && (e.on == x || needsF ops x n e.on)
  | none=>false
def needsB (ops:Array Oper) (y x:Nat):Bool:=needsF ops x ops.size y
theorem needsF_done {ops:Array Oper}{listed:Array Bool} (hcl:∀ (j:Nat) (oj:Oper),ops[j]?=some oj→listed[j]?=some true→∀ k,dep oj k=true→listed[k]?=some true) {x:Nat}:∀ (n y:Nat),needsF ops x n y=true→listed[y]?=some true→listed[x]?=some true
 | 0,_,h,_=>by cases h
 | n+1,y,h,hy=>by
  unfold needsF at h
  cases ho:ops[y]? with
  | none=>rw [ho] at h;cases h
  | some o =>
   rw [ho] at h
   obtain ⟨e,he,hb⟩:=List.any_eq_true.1 h
   rw [Bool.and_eq_true,Bool.or_eq_true] at hb
   have hd:listed[e.on]?=some true:=hcl y o ho hy e.on (List.any_eq_true.2 ⟨e,he,by rw [hb.1];simp⟩)
   rcases hb.2 with h1 | h1
   ·have e1:e.on=x:=by simpa using h1
    rw [← e1];exact hd
   ·exact needsF_done hcl n e.on h1 hd
theorem needsF_ready {ops:Array Oper}{listed:Array Bool} (hcl:∀ (j:Nat) (oj:Oper),ops[j]?=some oj→listed[j]?=some true→∀ k,dep oj k=true→listed[k]?=some true) {x n y:Nat} (h:needsF ops x n y=true) (hr:∀ o,ops[y]?=some o→∀ k,dep o k=true→listed[k]?=some true):listed[x]?=some true:=by
 cases n with
 | zero=>cases h
 | succ n =>
  unfold needsF at h
  cases ho:ops[y]? with
  | none=>rw [ho] at h;cases h
  | some o =>
   rw [ho] at h
   obtain ⟨e,he,hb⟩:=List.any_eq_true.1 h
   rw [Bool.and_eq_true,Bool.or_eq_true] at hb
   have hd:listed[e.on]?=some true:=hr o ho e.on (List.any_eq_true.2 ⟨e,he,by rw [hb.1];simp⟩)
   rcases hb.2 with h1 | h1
   ·have e1:e.on=x:=by simpa using h1
    rw [← e1];exact hd
   ·exact needsF_done hcl n e.on h1 hd
def phasesOk (ops:Array Oper):List Nat→List (List Nat)→Bool
 | x :: y :: l,c :: cs=>chainOk ops y x c && phasesOk ops (y :: l) cs
 | _,_=>true
theorem Goes.value {P:Program}{o:Oper}{a:Act}{w:World}{K:Value→World→Prop}{v:Value}{w':World} (hr:(execOp a.eval o).run P w=.ok (.value v) w') (hk:K v w'):Goes P o a w K:=Or.inl ⟨v,w',Or.inl hr,hk⟩
section
variable {P:Program}{ops:Array Oper}{Q:Exit→Act→World→Prop}{V:Nat→Act→World→Prop}{R:Nat→Value→World→Prop}{a0:Act}
theorem orderlyG_at (h:orderlyG ops a0.tmps.size=true) {i:Nat}{o:Oper} (hi:ops[i]?=some o) :
  (∀ c,o.op ≠ .defer c)∧(∀ j b,o.guard=some (j,b)→dep o j=true)∧(∀ e ∈ o.after.toList,Region.binds .any e=true→e.on < i)∧∀ d,o.dst=some d→d < a0.tmps.size∧∀ j,dstAt ops j=some d→j=i:=by
 unfold orderlyG at h
 have hlt:i < ops.size:=(Array.getElem?_eq_some_iff.1 hi).1
 have:=List.all_eq_true.1 h i (List.mem_range.2 hlt)
 rw [hi] at this
 simp only [Bool.and_eq_true] at this
 obtain ⟨⟨⟨h0,h1⟩,h2⟩,h3⟩:=this
 refine ⟨fun c e=>(by rw [e] at h0;cases h0),fun j b e=>(by rw [e] at h1;exact h1),fun e he hb=>?_,fun d hd=>?_⟩
 ·have:=List.all_eq_true.1 h2 e he
  rw [hb] at this
  simpa using this
 ·rw [hd] at h3
  simp only [Bool.and_eq_true,decide_eq_true_eq] at h3
  refine ⟨h3.1,fun j hj=>?_⟩
  have hjl:j < ops.size:=by
   rcases Nat.lt_or_ge j ops.size with h | h
   ·exact h
   ·unfold dstAt at hj;rw [Array.getElem?_eq_none h] at hj;cases hj
  have:=List.all_eq_true.1 h3.2 j (List.mem_range.2 hjl)
  rw [hj] at this
  have:i=j:=by simpa using this
  exact this.symm
theorem listed_all (h:orderlyG ops a0.tmps.size=true) {listed:Array Bool} (hs:listed.size=ops.size) (hr:Region.ready .any ops listed=[]):∀ i,i < ops.size→listed[i]?=some true:=by
 intro i
 induction i using Nat.strongRecOn with
 | ind i ih =>
  intro hi
  have ho:ops[i]?=some ops[i]:=Array.getElem?_eq_getElem hi
  have hl:listed[i]?=some (listed[i]'(by omega)):=Array.getElem?_eq_getElem (by omega)
  cases hb:listed[i]'(by omega) with
  | true=>rw [hl,hb]
  | false =>
   exfalso
   have hm:i ∈ Region.ready .any ops listed:=by
    unfold Region.ready
    refine List.mem_filter.2 ⟨List.mem_range.2 hi,?_⟩
    rw [hb] at hl
    simp only [Array.getD_eq_getD_getElem?,hl,ho,Option.map_some,Option.getD_some,Bool.not_false,Bool.true_and]
    rw [Array.all_eq_true_iff_forall_mem]
    intro e he
    cases hbi:Region.binds .any e with
    | false=>rfl
    | true =>
     have hlt:=(orderlyG_at h ho).2.2.1 e (by simpa using he) hbi
     rw [ih e.on hlt (by omega)]
     rfl
   rw [hr] at hm
   cases hm
theorem amidG_end (h:orderlyG ops a0.tmps.size=true) {listed:Array Bool}{a:Act}{w:World} (hA:Amid ops (fun _=>True) R a0 listed a w) (hr:Region.ready .any ops listed=[]) :
  ∃ vs:Nat→Value,(∀ i,i < ops.size→R i (vs i) w)∧a={ a0 with tmps:=putAll ops vs (List.range ops.size) a0.tmps }:=by
 have hall:=listed_all h hA.size hr
 have hex:∀ i,∃ v,i < ops.size→R i v w∧∀ d,dstAt ops i=some d→a.tmps[d]?=some v:=fun i=>by
  by_cases hi:i < ops.size
  ·obtain ⟨v,hv⟩:=hA.done i (hall i hi)
   exact ⟨v,fun _=>hv⟩
  ·exact ⟨undef,fun h=>absurd h hi⟩
 obtain ⟨vs,hvs⟩:=Classical.axiomOfChoice hex
 refine ⟨vs,fun i hi=>(hvs i hi).1,?_⟩
 obtain ⟨t,d⟩:=a
 have hd:=hA.defers
 dsimp only at hd
 subst hd
 congr 1
 apply Array.ext_getElem?
 intro k
 by_cases hk:∃ i,i < ops.size∧dstAt ops i=some k
 ·obtain ⟨i,hi,hd⟩:=hk
  have ho:ops[i]?=some ops[i]:=Array.getElem?_eq_getElem hi
  have hd':ops[i].dst=some k:=by
   unfold dstAt at hd
   rw [ho] at hd
   exact hd
  obtain ⟨hlt,hu⟩:=(orderlyG_at h ho).2.2.2 k hd'
  rw [putAll_own ops vs k i hd _ _ hlt (List.mem_range.2 hi) (fun j _ hj=>hu j hj)]
  exact (hvs i hi).2 k hd
 ·rw [putAll_other ops vs k _ _ (fun i hi hd=>hk ⟨i,List.mem_range.1 hi,hd⟩)]
  refine hA.rest k fun i hi hd=>hk ⟨i,?_,hd⟩
  have:=(Array.getElem?_eq_some_iff.1 hi).1
  have:=hA.size
  omega
theorem phases_ahead {listed:Array Bool} (hcl:∀ (j:Nat) (oj:Oper),ops[j]?=some oj→listed[j]?=some true→∀ k,dep oj k=true→listed[k]?=some true):∀ (xs:List Nat) (cs:List (List Nat)),cs.length+1=xs.length→phasesOk ops xs cs=true→∀ j,j < xs.length→(∀ k,(∃ o,ops[xs.getD j 0]?=some o∧dep o k=true)→listed[k]?=some true)→∀ i,i < j→listed[xs.getD i 0]?=some true
 | [],_,_,_,j,hj,_,_,_=>absurd hj (Nat.not_lt_zero _)
 | [x],_,_,_,j,hj,_,i,hi=>by
  have:j < 1:=hj
  omega
 | x :: y :: l,[],hl,_,_,_,_,_,_=>by simp at hl
 | x :: y :: l,c :: cs,hl,hp,j,hj,hr,i,hi=>by
  unfold phasesOk at hp
  rw [Bool.and_eq_true] at hp
  cases j with
  | zero=>omega
  | succ j =>
   have hr':∀ k,(∃ o,ops[(y :: l).getD j 0]?=some o∧dep o k=true)→listed[k]?=some true:=hr
   have ih:=phases_ahead hcl (y :: l) cs (by simpa using hl) hp.2 j (by simpa using hj) hr'
   have hy:j=0 ∨ listed[y]?=some true:=by
    cases j with
    | zero=>exact Or.inl rfl
    | succ j=>exact Or.inr (ih 0 (by omega))
   have hx:listed[x]?=some true:=by
    rcases hy with rfl | hy
    ·exact chain_ready hcl c hp.1 hr'
    ·exact chain_done hcl c hp.1 hy
   cases i with
   | zero=>exact hx
   | succ i=>exact ih i (by omega)
def StepP (P:Program) (ops:Array Oper) (V:Nat→Act→World→Prop) (R:Nat→Value→World→Prop) (a0:Act) (i:Nat) (o:Oper) (k k':Nat):Prop:=
 ∀ (a:Act) (w:World) (vs:Nat→Value),V k a w→(∀ t,free ops i t=true→a.eval (.tmp t)=a0.eval (.tmp t)) →
  (∀ j,dep o j=true→R j (vs j) w∧∀ d,dstAt ops j=some d→a.eval (.tmp d)=vs j) →
  Goes P o a w (fun v w'=>V k' (a.put o.dst v) w'∧R i v w'∧∀ j x,j ≠ i→needsB ops j i=false→R j x w→R j x w')
theorem goes_mono {o:Oper}{a:Act}{w:World}{K K':Value→World→Prop} (h:∀ v w',K v w'→K' v w') (hg:Goes P o a w K):Goes P o a w K':=by
 rcases hg with ⟨v,w',hr,hk⟩ | ⟨f,args,hr,hc⟩ | ⟨n',l,f,tmps,assign,body,hr,hc⟩
 ·exact Or.inl ⟨v,w',hr,h _ _ hk⟩
 ·exact Or.inr (Or.inl ⟨f,args,hr,hc.mono fun e w' ⟨v,he,hk⟩=>⟨v,he,h _ _ hk⟩⟩)
 ·exact Or.inr (Or.inr ⟨n',l,f,tmps,assign,body,hr,hc.mono fun e w' ⟨v,he,hk⟩=>⟨v,he,h _ _ hk⟩⟩)
theorem wpAnyIn_phases {lr:Option Nat}{n:Nat} (h:orderlyG ops a0.tmps.size=true) (gw:Bool) (hgd:∀ (i:Nat) (o:Oper) (j:Nat) (b:Bool),ops[i]?=some o→o.guard=some (j,b)→(∃ d,dstAt ops j=some d)∧∀ v w,R j v w→v=.bool (b == gw)) (hsk:gw=false→∀ (i:Nat) (o:Oper) (g:Nat × Bool),ops[i]?=some o→o.guard=some g→∀ w,R i undef w) (hskV:gw=false→∀ (i:Nat) (o:Oper) (g:Nat × Bool),ops[i]?=some o→o.guard=some g→∀ k a w,V k a w→V k (a.put o.dst undef) w)
  (xs:List Nat) (cs:List (List Nat)) (hcs:cs.length+1=xs.length) (hxo:∀ x ∈ xs,x < ops.size∧(gw=true ∨ ∃ o,ops[x]?=some o∧o.guard=none)) (hnx:xs.Nodup) (hph:phasesOk ops xs cs=true)
  (hpure:∀ (i:Nat) (o:Oper),ops[i]?=some o→i ∉ xs→(gw=true ∨ o.guard=none)→∀ k,k≤xs.length→(∀ j,j < k→needsB ops (xs.getD j 0) i=false)→(∀ j,j < xs.length→needsB ops i (xs.getD j 0)=true→j < k)→StepP P ops V R a0 i o k k) (hspec:∀ k o,k < xs.length→ops[xs.getD k 0]?=some o→StepP P ops V R a0 (xs.getD k 0) o k (k+1))
  (hend:∀ (vs:Nat→Value) (w:World),V xs.length { a0 with tmps:=putAll ops vs (List.range ops.size) a0.tmps } w→(∀ i,i < ops.size→R i (vs i) w)→Q .normal { a0 with tmps:=putAll ops vs (List.range ops.size) a0.tmps } w) :
  ∀ (fuel:Nat) (listed:Array Bool) (a:Act) (w:World),listed.toList.count false≤fuel→Amid ops (fun _=>True) R a0 listed a w→(∃ k,k≤xs.length∧V k a w∧∀ j,j < xs.length→(listed[xs.getD j 0]?=some true ↔ j < k))→wpAnyIn (fenceAt lr) n P .any ops Q fuel listed a w:=by
 have hfin:∀ (listed:Array Bool) (a:Act) (w:World),Amid ops (fun _=>True) R a0 listed a w→(∃ k,k≤xs.length∧V k a w∧∀ j,j < xs.length→(listed[xs.getD j 0]?=some true ↔ j < k))→Region.ready .any ops listed=[]→Q .normal a w:=by
  rintro listed a w hA ⟨k,hk,hV,hkk⟩ hr
  have hall:=listed_all h hA.size hr
  obtain ⟨vs,hv,rfl⟩:=amidG_end h hA hr
  have:k=xs.length:=by
   rcases Nat.lt_or_ge k xs.length with h1 | h1
   ·have h2:=(hkk k h1).1 (hall _ (hxo _ (getD_mem' h1)).1)
    omega
   ·omega
  subst this
  exact hend vs w hV hv
 intro fuel
 induction fuel with
 | zero =>
  intro listed a w hc hA hV
  have hr:Region.ready .any ops listed=[]:=by
   unfold Region.ready
   refine List.filter_eq_nil_iff.2 fun i hi=>?_
   have hl:i < listed.size:=by rw [hA.size];exact List.mem_range.1 hi
   have hn:false ∉ listed.toList:=List.count_eq_zero.1 (by omega)
   cases hb:listed[i] with
   | true=>simp [Array.getD_eq_getD_getElem?,Array.getElem?_eq_getElem hl,hb]
   | false=>exact absurd (by rw [← hb];simp) hn
  exact ⟨hr,hfin listed a w hA hV hr⟩
 | succ fuel ih =>
  intro listed a w hc hA hV
  refine ⟨fun hr=>hfin listed a w hA hV hr,fun i hi=>?_⟩
  unfold Region.ready at hi
  obtain ⟨hi1,hi2⟩:=List.mem_filter.1 hi
  have hio:i < ops.size:=List.mem_range.1 hi1
  have hil:i < listed.size:=by rw [hA.size];exact hio
  have ho:ops[i]?=some ops[i]:=Array.getElem?_eq_getElem hio
  obtain ⟨hnd,hguard,hback,hdst⟩:=orderlyG_at h ho
  simp only [Array.getD_eq_getD_getElem?,Array.getElem?_eq_getElem hil,ho,Option.map_some,Option.getD_some,Bool.and_eq_true,Bool.not_eq_true'] at hi2
  obtain ⟨hf,hdeps⟩:=hi2
  have hfi:listed[i]?=some false:=by rw [Array.getElem?_eq_getElem hil,hf]
  have hdone:∀ j,dep ops[i] j=true→listed[j]?=some true:=fun j hj=>by
   obtain ⟨e,he,hb,rfl⟩:=dep_out hj
   have hlt:=hback e he hb
   have hd:=Array.all_eq_true_iff_forall_mem.1 hdeps e (by simpa using he)
   rw [hb] at hd
   have hee:e.on < listed.size:=by omega
   rw [Array.getElem?_eq_getElem hee] at hd ⊢
   simpa using hd
  have hcl:∀ (j:Nat) (oj:Oper),ops[j]?=some oj→listed[j]?=some true→∀ k,dep oj k=true→listed[k]?=some true:=fun j oj hoj hj k hk=>by
   obtain ⟨e,he,hbe,rfl⟩:=dep_out hk
   exact hA.closed j oj hoj hj e he hbe
  obtain ⟨k,hk,hVk,hkk⟩:=hV
  have hnext:∀ (v:Value) (w':World) (k':Nat),k'≤xs.length→V k' (a.put ops[i].dst v) w'→(∀ j,j < xs.length→((listed.setIfInBounds i true)[xs.getD j 0]?=some true ↔ j < k'))→R i v w'→(∀ j x,j ≠ i→needsB ops j i=false→R j x w→R j x w')→wpAnyIn (fenceAt lr) n P .any ops Q fuel (listed.setIfInBounds i true) (a.put ops[i].dst v) w':=by
   intro v w' k' hk' hV' hkk' hR' hst
   refine ih _ _ _ ?_ ?_ ⟨k',hk',hV',hkk'⟩
   ·rw [Array.toList_setIfInBounds]
    have:=List.count_set (a:=true) (b:=false) (l:=listed.toList) (i:=i) (by simpa using hil)
    rw [this]
    have e:(listed.toList[i]'(by simpa using hil))=false:=by simpa using hf
    rw [e]
    have hp:0 < listed.toList.count false:=List.count_pos_iff.2 (by rw [← e];simp)
    rw [if_pos (by rfl),if_neg (by decide)]
    omega
   ·have hin:∀ j,(listed.setIfInBounds i true)[j]?=some true→j=i ∨ (j ≠ i∧listed[j]?=some true):=fun j hj=>by
     by_cases e:j=i
     ·exact Or.inl e
     ·rw [Array.getElem?_setIfInBounds,if_neg (fun e'=>e e'.symm)] at hj
      exact Or.inr ⟨e,hj⟩
    have hmine:(listed.setIfInBounds i true)[i]?=some true:=by rw [Array.getElem?_setIfInBounds,if_pos rfl,if_pos hil]
    have hdi:dstAt ops i=ops[i].dst:=by unfold dstAt;rw [ho];rfl
    refine ⟨by simpa using hA.size,?_,?_,trivial,fun t ht=>?_,fun j hj=>?_,fun j oj hoj hj e he hbe=>?_⟩
    ·cases hd:ops[i].dst <;> simp [Act.put,hA.tsize]
    ·cases hd:ops[i].dst <;> simp [Act.put,hA.defers]
    ·have h1:=ht i hmine
     have h2:=hA.rest t fun j hj=>ht j (by
      by_cases e:j=i
      ·rw [e];exact hmine
      ·rw [Array.getElem?_setIfInBounds,if_neg (fun e'=>e e'.symm)];exact hj)
     cases hd:ops[i].dst with
     | none=>exact h2
     | some d =>
      have hne:d ≠ t:=fun e=>h1 (by rw [hdi,hd,e])
      simp only [Act.put]
      rw [Array.getElem?_setIfInBounds,if_neg hne]
      exact h2
    ·rcases hin j hj with rfl | ⟨hne,hj'⟩
     ·refine ⟨v,hR',fun d hd=>?_⟩
      rw [hdi] at hd
      have:=(hdst d hd).1
      simp only [Act.put,hd]
      rw [Array.getElem?_setIfInBounds,if_pos rfl,if_pos (by rw [hA.tsize];exact this)]
     ·obtain ⟨u,hu1,hu2⟩:=hA.done j hj'
      have hnn:needsB ops j i=false:=by
       cases hb:needsB ops j i with
       | false=>rfl
       | true =>
        have:=needsF_done hcl _ _ hb hj'
        rw [hfi] at this
        cases this
      refine ⟨u,hst j u hne hnn hu1,fun d hd=>?_⟩
      cases hdd:ops[i].dst with
      | none=>exact hu2 d hd
      | some d' =>
       have hne':d' ≠ d:=fun e=>hne ((hdst d' hdd).2 j (by rw [e];exact hd))
       simp only [Act.put]
       rw [Array.getElem?_setIfInBounds,if_neg hne']
       exact hu2 d hd
    ·have hel:listed[e.on]?=some true:=by
      rcases hin j hj with rfl | ⟨hne,hj'⟩
      ·rw [ho] at hoj
       injection hoj with hoj
       subst hoj
       exact hdone e.on (List.any_eq_true.2 ⟨e,he,by rw [hbe];simp⟩)
      ·exact hA.closed j oj hoj hj' e he hbe
     by_cases hei:e.on=i
     ·rw [hei];exact hmine
     ·rw [Array.getElem?_setIfInBounds,if_neg (fun e'=>hei e'.symm)];exact hel
  have hsame:i ∉ xs→∀ j,j < xs.length→((listed.setIfInBounds i true)[xs.getD j 0]?=some true ↔ j < k):=fun hx j hj=>by
   rw [Array.getElem?_setIfInBounds,if_neg (fun e=>hx (by rw [e];exact getD_mem' hj))]
   exact hkk j hj
  unfold wpOpIn
  rw [ho]
  simp only []
  by_cases hwant:Region.wanted ops[i] (yielded ops a.tmps)=true
  ·rw [if_pos hwant]
   have hgg:gw=true ∨ ops[i].guard=none:=by
    cases hg:ops[i].guard with
    | none=>exact Or.inr rfl
    | some g =>
     obtain ⟨j,b⟩:=g
     left
     obtain ⟨⟨d,hd⟩,hb⟩:=hgd i _ j b ho hg
     obtain ⟨v,hv1,hv2⟩:=hA.done j (hdone j (hguard j b hg))
     have e1:=hb v w hv1
     have e2:=hv2 d hd
     unfold Region.wanted at hwant
     rw [hg] at hwant
     unfold yielded at hwant
     unfold dstAt at hd
     simp only [hd,Option.bind_some,e2,e1] at hwant
     cases gw with
     | true=>rfl
     | false=>cases b <;> simp at hwant
   have hex:∀ j,∃ v,listed[j]?=some true→R j v w∧∀ d,dstAt ops j=some d→a.tmps[d]?=some v:=fun j=>by
    by_cases hj:listed[j]?=some true
    ·obtain ⟨v,hv⟩:=hA.done j hj
     exact ⟨v,fun _=>hv⟩
    ·exact ⟨undef,fun h=>absurd h hj⟩
   obtain ⟨vs,hvs⟩:=Classical.axiomOfChoice hex
   have k1:∀ t,free ops i t=true→a.eval (.tmp t)=a0.eval (.tmp t):=fun t ht=>by
    have:=hA.rest t fun j hj hdj=>by
     unfold dstAt at hdj
     cases hoj:ops[j]? with
     | none=>rw [hoj] at hdj;cases hdj
     | some oj =>
      rw [hoj] at hdj
      have hli:=hcl j oj hoj hj i (free_out ht hoj hdj)
      rw [hfi] at hli
      cases hli
    simp only [Act.eval,Array.getD_eq_getD_getElem?,this]
   have k2:∀ j,dep ops[i] j=true→R j (vs j) w∧∀ d,dstAt ops j=some d→a.eval (.tmp d)=vs j:=fun j hj=>by
    obtain ⟨h1,h2⟩:=hvs j (hdone j hj)
    refine ⟨h1,fun d hd=>?_⟩
    simp only [Act.eval,Array.getD_eq_getD_getElem?,h2 d hd,Option.getD_some]
   by_cases hx:i ∈ xs
   ·obtain ⟨j,hj,hji⟩:=List.mem_iff_getElem.1 hx
    have hjd:xs.getD j 0=i:=by simp [List.getD,hj,hji]
    have hjk:j=k:=by
     have h1:¬ j < k:=fun h2=>by
      have:=(hkk j hj).2 h2
      rw [hjd,hfi] at this
      cases this
     rcases Nat.lt_or_ge k j with h2 | h2
     ·have:=phases_ahead hcl xs cs hcs hph j hj (fun m ⟨o',ho',hm⟩=>by
       rw [hjd,ho] at ho'
       obtain rfl:=Option.some.inj ho'
       exact hdone m hm) k h2
      have:=(hkk k (by omega)).1 this
      omega
     ·omega
    subst hjk
    have hst:=hspec j ops[i] hj (by rw [hjd];exact ho)
    rw [hjd] at hst
    refine goes_wpIn hnd (goes_mono ?_ (hst a w vs hVk k1 k2))
    rintro v w' ⟨hV',hR',hkeep⟩
    refine hnext v w' (j+1) (by omega) hV' (fun m hm=>?_) hR' hkeep
    by_cases em:m=j
    ·rw [em,hjd,Array.getElem?_setIfInBounds,if_pos rfl,if_pos hil];simp
    ·rw [Array.getElem?_setIfInBounds,if_neg (fun e=>em (by
      have h1:xs[m]?=some i:=by rw [e];simp [List.getD,hm]
      have h2:xs[j]?=some i:=by rw [← hjd];simp [List.getD,hj]
      exact (List.getElem?_inj hm hnx).1 (h1.trans h2.symm))),hkk m hm]
     omega
   ·have hnn:∀ j,j < k→needsB ops (xs.getD j 0) i=false:=fun j hj=>by
     cases hb:needsB ops (xs.getD j 0) i with
     | false=>rfl
     | true =>
      have:=needsF_done hcl _ _ hb ((hkk j (by omega)).2 hj)
      rw [hfi] at this
      cases this
    have hnr:∀ j,j < xs.length→needsB ops i (xs.getD j 0)=true→j < k:=fun j hj hb=>(hkk j hj).1 (needsF_ready hcl hb (fun o' ho' m hm=>by rw [ho] at ho';obtain rfl:=Option.some.inj ho';exact hdone m hm))
    refine goes_wpIn hnd (goes_mono ?_ (hpure i _ ho hx hgg k hk hnn hnr a w vs hVk k1 k2))
    rintro v w' ⟨hV',hR',hkeep⟩
    exact hnext v w' k hk hV' (hsame hx) hR' hkeep
  ·rw [if_neg hwant]
   refine ⟨fun f _=>by cases lr <;> trivial,?_⟩
   cases hg:ops[i].guard with
   | none=>exact absurd (by simp [Region.wanted,hg]) hwant
   | some g =>
    obtain ⟨j,b⟩:=g
    have hgw:gw=false:=by
     obtain ⟨⟨d,hd⟩,hb⟩:=hgd i _ j b ho hg
     obtain ⟨v,hv1,hv2⟩:=hA.done j (hdone j (hguard j b hg))
     have e1:=hb v w hv1
     have e2:=hv2 d hd
     unfold Region.wanted at hwant
     rw [hg] at hwant
     unfold yielded at hwant
     unfold dstAt at hd
     simp only [hd,Option.bind_some,e2,e1] at hwant
     cases gw with
     | false=>rfl
     | true=>cases b <;> simp at hwant
    have hx:i ∉ xs:=fun hx=>by
     rcases (hxo i hx).2 with h1 | ⟨o',ho',h1⟩
     ·rw [hgw] at h1;cases h1
     ·rw [ho] at ho'
      obtain rfl:=Option.some.inj ho'
      rw [hg] at h1
      cases h1
    exact hnext undef w k hk (hskV hgw i _ _ ho hg k a w hVk) (hsame hx) (hsk hgw i _ _ ho hg w) (fun _ _ _ _ h=>h)
theorem region_phasesA {lr:Option Nat}{n id:Nat}{w:World} (ds:List (Nat × Tmp)) (V:Nat→Act→World→Prop) (R:Nat→Value→World→Prop) (hds:dstList ops (List.range ops.size)=ds) (hm:P.follows .mixedOrders=true) (h:orderlyG ops a0.tmps.size=true) (hng:(ops.all fun o=>o.guard.isNone)=true)
  (xs:List Nat) (cs:List (List Nat)) (hcs:cs.length+1=xs.length) (hxo:∀ x ∈ xs,x < ops.size) (hnx:xs.Nodup) (hph:phasesOk ops xs cs=true) (h0:V 0 a0 { w with drawn:=w.drawn+1 })
  (hpure:∀ (i:Nat) (o:Oper),ops[i]?=some o→i ∉ xs→∀ k,k≤xs.length→(∀ j,j < k→needsB ops (xs.getD j 0) i=false)→(∀ j,j < xs.length→needsB ops i (xs.getD j 0)=true→j < k)→StepP P ops V R a0 i o k k) (hspec:∀ k o,k < xs.length→ops[xs.getD k 0]?=some o→StepP P ops V R a0 (xs.getD k 0) o k (k+1))
  (hend:∀ (vs:Nat→Value) (w:World),V xs.length { a0 with tmps:=putPairs vs ds a0.tmps } w→(∀ i,i < ops.size→R i (vs i) w)→Q .normal { a0 with tmps:=putPairs vs ds a0.tmps } w):(Code.region id ops true).wpIn (fenceAt lr) n P Q a0 w:=by
 have hg:∀ (i:Nat) (o:Oper),ops[i]?=some o→o.guard=none:=fun i o ho=>by
  rw [Array.all_eq_true'] at hng
  simpa using hng o (Array.mem_of_getElem? ho)
 refine wpIn_region_any hm (wpAnyIn_phases h true (fun i o j b ho e=>by rw [hg i o ho] at e;cases e) (fun e=>by cases e) (fun e=>by cases e) xs cs hcs (fun x hx=>⟨hxo x hx,Or.inl rfl⟩) hnx hph (fun i o ho hx _ k hk hn hr=>hpure i o ho hx k hk hn hr) hspec (fun vs w hV hR=>by rw [putAll_pairs,hds] at hV ⊢;exact hend vs w hV hR) _ _ _ _ ?_ ⟨by simp,rfl,rfl,trivial,fun _ _=>rfl,fun i hi=>?_,fun i o _ hi=>?_⟩ ⟨0,Nat.zero_le _,h0,fun j hj=>?_⟩)
 ·exact Nat.le_trans (List.count_le_length) (by simp)
 ·simp [Array.getElem?_replicate] at hi
 ·simp [Array.getElem?_replicate] at hi
 ·rw [Array.getElem?_replicate]
  split <;> simp
theorem region_phases {lr:Option Nat}{n id:Nat}{w:World} (ds:List (Nat × Tmp)) (V:Nat→World→Prop) (R:Nat→Value→World→Prop) (hds:dstList ops (List.range ops.size)=ds) (hm:P.follows .mixedOrders=true) (h:orderlyG ops a0.tmps.size=true) (gw:Bool) (hgd:∀ (i:Nat) (o:Oper) (j:Nat) (b:Bool),ops[i]?=some o→o.guard=some (j,b)→(∃ d,dstAt ops j=some d)∧∀ v w,R j v w→v=.bool (b == gw)) (hsk:gw=false→∀ (i:Nat) (o:Oper) (g:Nat × Bool),ops[i]?=some o→o.guard=some g→∀ w,R i undef w)
  (xs:List Nat) (cs:List (List Nat)) (hcs:cs.length+1=xs.length) (hxo:∀ x ∈ xs,x < ops.size∧(gw=true ∨ ∃ o,ops[x]?=some o∧o.guard=none)) (hnx:xs.Nodup) (hph:phasesOk ops xs cs=true) (h0:V 0 { w with drawn:=w.drawn+1 })
  (hpure:∀ (i:Nat) (o:Oper),ops[i]?=some o→i ∉ xs→(gw=true ∨ o.guard=none)→∀ k,k≤xs.length→(∀ j,j < k→needsB ops (xs.getD j 0) i=false)→(∀ j,j < xs.length→needsB ops i (xs.getD j 0)=true→j < k)→StepP P ops (fun k _ w=>V k w) R a0 i o k k) (hspec:∀ k o,k < xs.length→ops[xs.getD k 0]?=some o→StepP P ops (fun k _ w=>V k w) R a0 (xs.getD k 0) o k (k+1))
  (hend:∀ (vs:Nat→Value) (w:World),V xs.length w→(∀ i,i < ops.size→R i (vs i) w)→Q .normal { a0 with tmps:=putPairs vs ds a0.tmps } w):(Code.region id ops true).wpIn (fenceAt lr) n P Q a0 w:=by
 refine wpIn_region_any hm (wpAnyIn_phases (V:=fun k _ w=>V k w) h gw hgd hsk (fun _ _ _ _ _ _ _ _ _ h=>h) xs cs hcs hxo hnx hph hpure hspec (fun vs w hV hR=>by rw [putAll_pairs,hds];exact hend vs w hV hR) _ _ _ _ ?_ ⟨by simp,rfl,rfl,trivial,fun _ _=>rfl,fun i hi=>?_,fun i o _ hi=>?_⟩ ⟨0,Nat.zero_le _,h0,fun j hj=>?_⟩)
 ·exact Nat.le_trans (List.count_le_length) (by simp)
 ·simp [Array.getElem?_replicate] at hi
 ·simp [Array.getElem?_replicate] at hi
 ·simp [Array.getElem?_replicate]
theorem region_phases0 {lr:Option Nat}{n id:Nat}{w:World} (ds:List (Nat × Tmp)) (V:Nat→World→Prop) (R:Nat→Value→World→Prop) (hds:dstList ops (List.range ops.size)=ds) (hm:P.follows .mixedOrders=true) (h:orderlyG ops a0.tmps.size=true) (hng:(ops.all fun o=>o.guard.isNone)=true)
  (xs:List Nat) (cs:List (List Nat)) (hcs:cs.length+1=xs.length) (hxo:∀ x ∈ xs,x < ops.size) (hnx:xs.Nodup) (hph:phasesOk ops xs cs=true) (h0:V 0 { w with drawn:=w.drawn+1 })
  (hpure:∀ (i:Nat) (o:Oper),ops[i]?=some o→i ∉ xs→∀ k,k≤xs.length→(∀ j,j < k→needsB ops (xs.getD j 0) i=false)→(∀ j,j < xs.length→needsB ops i (xs.getD j 0)=true→j < k)→StepP P ops (fun k _ w=>V k w) R a0 i o k k) (hspec:∀ k o,k < xs.length→ops[xs.getD k 0]?=some o→StepP P ops (fun k _ w=>V k w) R a0 (xs.getD k 0) o k (k+1))
  (hend:∀ (vs:Nat→Value) (w:World),V xs.length w→(∀ i,i < ops.size→R i (vs i) w)→Q .normal { a0 with tmps:=putPairs vs ds a0.tmps } w):(Code.region id ops true).wpIn (fenceAt lr) n P Q a0 w:=by
 have hg:∀ (i:Nat) (o:Oper),ops[i]?=some o→o.guard=none:=fun i o ho=>by
  rw [Array.all_eq_true'] at hng
  simpa using hng o (Array.mem_of_getElem? ho)
 exact region_phases ds V R hds hm h true (fun i o j b ho e=>by rw [hg i o ho] at e;cases e) (fun e=>by cases e) xs cs hcs (fun x hx=>⟨hxo x hx,Or.inl rfl⟩) hnx hph h0 (fun i o ho hx _ k hk hn hr=>hpure i o ho hx k hk hn hr) hspec hend
end
end Go.Proofs.YtpiacnnifdjlkabGreatDoor
namespace Go.Proofs.YtpiacnnifdjlkabGreatDoor
def TakesG {ν:Type} (first:List ν) (good:ν→Bool) (after:ν→List (Int × ν)) (u:Nat→Int):Prop:=
 ∃ r:Nat→ν,r 0 ∈ first∧(∀ t,(u t,r (t+1)) ∈ after (r t))∧∀ t,∃ k,t≤k∧good (r k)=true
def numOf {ν:Type} [DecidableEq ν]:List ν→ν→Nat
 | [],_=>0
 | y :: r,x=>if x=y then 0 else numOf r x+1
theorem numOf_get {ν:Type} [DecidableEq ν]:∀ {l:List ν}{x:ν},x ∈ l→l[numOf l x]?=some x
 | [],x,h=>absurd h (by simp)
 | y :: r,x,h=>by
  unfold numOf
  by_cases e:x=y
  ·rw [if_pos e,e];rfl
  ·rw [if_neg e,List.getElem?_cons_succ]
   exact numOf_get (by rcases List.mem_cons.1 h with h | h;exact absurd h e;exact h)
theorem numOf_lt {ν:Type} [DecidableEq ν] {l:List ν}{x:ν} (h:x ∈ l):numOf l x < l.length:=(List.getElem?_eq_some_iff.1 (numOf_get h)).1
theorem numOf_inj {ν:Type} [DecidableEq ν] {l:List ν}{x y:ν} (hx:x ∈ l) (hy:y ∈ l) (h:numOf l x=numOf l y):x=y:=by
 have h1:=numOf_get hx
 have h2:=numOf_get hy
 rw [h,h2] at h1
 exact (Option.some.inj h1).symm
theorem numOf_append {ν:Type} [DecidableEq ν]:∀ {l:List ν}{x:ν} (r:List ν),x ∈ l→numOf (l ++ r) x=numOf l x
 | [],x,_,h=>absurd h (by simp)
 | y :: l,x,r,h=>by
  show (if x=y then 0 else numOf (l ++ r) x+1)=if x=y then 0 else numOf l x+1
  by_cases e:x=y
  ·rw [if_pos e,if_pos e]
  ·rw [if_neg e,if_neg e,numOf_append r (by rcases List.mem_cons.1 h with h | h;exact absurd h e;exact h)]
theorem numOf_last {ν:Type} [DecidableEq ν]:∀ {l:List ν}{x:ν},x ∉ l→numOf (l ++ [x]) x=l.length
 | [],x,_=>by simp [numOf]
 | y :: l,x,h=>by
  show (if x=y then 0 else numOf (l ++ [x]) x+1)=l.length+1
  rw [if_neg (fun e=>h (by simp [e])),numOf_last (fun hm=>h (List.mem_cons_of_mem _ hm))]
theorem numOf_of_get {ν:Type} [DecidableEq ν]:∀ {l:List ν}{i:Nat}{x:ν},l.Nodup→l[i]?=some x→numOf l x=i
 | [],i,x,_,h=>by simp at h
 | y :: l,0,x,_,h=>by
  have e:y=x:=by simpa using h
  unfold numOf
  rw [if_pos e.symm]
 | y :: l,i+1,x,hn,h=>by
  rw [List.getElem?_cons_succ] at h
  rw [List.nodup_cons] at hn
  have hm:x ∈ l:=List.mem_of_getElem? h
  unfold numOf
  rw [if_neg (fun e=>hn.1 (by rw [← e];exact hm)),numOf_of_get hn.2 h]
structure OfNodes {ν:Type} [DecidableEq ν] (first:List ν) (good:ν→Bool) (after:ν→List (Int × ν)) (met:List ν) (A:Aut):Prop where
 nodup:met.Nodup
 first_met:∀ x ∈ first,x ∈ met
 least:∀ P:ν→Prop,(∀ x ∈ first,P x)→(∀ x,P x→∀ p ∈ after x,P p.2)→∀ x ∈ met,P x
 closed:∀ x ∈ met,∀ p ∈ after x,p.2 ∈ met
 first:A.first=first.map (fun x=>(numOf met x:Int))
 good:A.good=if met=[] then [false] else met.map good
 n:A.n=(A.good.length:Nat)
 steps:∀ s,s ∈ A.steps ↔ ∃ i x c y,met[i]?=some x∧(c,y) ∈ after x∧s=⟨(i:Nat),c,(numOf met y:Nat)⟩
theorem takesI_nodes {ν:Type} [DecidableEq ν] {first:List ν}{good:ν→Bool}{after:ν→List (Int × ν)}{met:List ν}{A:Aut} (h:OfNodes first good after met A) (u:Nat→Int):TakesI A u ↔ TakesG first good after u:=by
 have hgood:∀ {i:Nat}{x:ν},met[i]?=some x→A.good.getD i false=good x:=fun {i x} hx=>by
  rw [h.good,if_neg (fun e=>by rw [e] at hx;simp at hx)]
  simp [List.getD,hx]
 constructor
 ·rintro ⟨r,⟨i,hi,h0⟩,hr,hg⟩
  have hfirst:∃ x ∈ first,met[r 0]?=some x:=by
   rw [h.first] at hi h0
   rw [List.length_map] at hi
   refine ⟨first[i],List.getElem_mem hi,?_⟩
   have:r 0=numOf met first[i]:=by
    rw [← h0]
    simp [List.getD,hi]
   rw [this]
   exact numOf_get (h.first_met _ (List.getElem_mem hi))
  have hstep:∀ t,∃ x y,met[r t]?=some x∧met[r (t+1)]?=some y∧(u t,y) ∈ after x:=fun t=>by
   obtain ⟨s,hs,e1,e2,e3⟩:=hr t
   obtain ⟨i,x,c,y,hx,hy,rfl⟩:=(h.steps s).1 hs
   have e1':i=r t:=Int.ofNat.inj e1
   have e3':numOf met y=r (t+1):=Int.ofNat.inj e3
   have e2':c=u t:=e2
   have hm:y ∈ met:=h.closed x (List.mem_of_getElem? hx) _ hy
   refine ⟨x,y,by rw [← e1'];exact hx,by rw [← e3'];exact numOf_get hm,by rw [← e2'];exact hy⟩
  obtain ⟨x0,hx0,hm0⟩:=hfirst
  refine ⟨fun t=>(met[r t]?).getD x0,by simp only [hm0,Option.getD_some];exact hx0,fun t=>?_,fun t=>?_⟩
  ·obtain ⟨x,y,hx,hy,hxy⟩:=hstep t
   simp only [hx,hy,Option.getD_some]
   exact hxy
  ·obtain ⟨k,hk,hgk⟩:=hg t
   obtain ⟨x,y,hx,hy,hxy⟩:=hstep k
   refine ⟨k,hk,?_⟩
   simp only [hx,Option.getD_some]
   rw [← hgood hx]
   exact hgk
 ·rintro ⟨r,h0,hr,hg⟩
  have hm:∀ t,r t ∈ met:=fun t=>by
   induction t with
   | zero=>exact h.first_met _ h0
   | succ t ih=>exact h.closed _ ih _ (hr t)
  refine ⟨fun t=>numOf met (r t),?_,fun t=>?_,fun t=>?_⟩
  ·obtain ⟨i,hi,e⟩:=List.mem_iff_getElem.1 h0
   refine ⟨i,by rw [h.first,List.length_map];exact hi,?_⟩
   rw [h.first]
   simp [List.getD,hi,e]
  ·exact ⟨_,(h.steps _).2 ⟨numOf met (r t),r t,u t,r (t+1),numOf_get (hm t),hr t,rfl⟩,rfl,rfl,rfl⟩
  ·obtain ⟨k,hk,hgk⟩:=hg t
   exact ⟨k,hk,by rw [hgood (numOf_get (hm k))];exact hgk⟩
abbrev Pair:=Nat × Nat × Bool
def pGood (A:Aut) (p:Pair):Bool:=!p.2.2 && A.good.getD p.1 false
def pWait (A B:Aut) (p:Pair):Bool:=pGood A p || (p.2.2 && !(B.good.getD p.2.1 false))
def pFirst (A B:Aut):List Pair:=A.first.flatMap fun x=>B.first.map fun y=>⟨x.toNat,y.toNat,false⟩
def pAfter (A B:Aut) (p:Pair):List (Int × Pair):=
 (A.steps.filter fun s=>decide (s.f=(p.1:Int))).flatMap fun s=>((B.steps.filter fun t=>decide (t.f=(p.2.1:Int))).filter fun t=>decide (s.l=t.l)).map fun t=>(s.l,⟨s.t.toNat,t.t.toNat,pWait A B p⟩)
theorem pAfter_mem {A B:Aut}{p q:Pair}{c:Int}:(c,q) ∈ pAfter A B p ↔ ∃ s ∈ A.steps,∃ t ∈ B.steps,s.f=(p.1:Nat)∧t.f=(p.2.1:Nat)∧s.l=c∧t.l=c∧q=⟨s.t.toNat,t.t.toNat,pWait A B p⟩:=by
 unfold pAfter
 constructor
 ·intro h
  obtain ⟨s,hs,h⟩:=List.mem_flatMap.1 h
  obtain ⟨t,ht,h⟩:=List.mem_map.1 h
  obtain ⟨ht,hl⟩:=List.mem_filter.1 ht
  obtain ⟨hs,h1⟩:=List.mem_filter.1 hs
  obtain ⟨ht,h2⟩:=List.mem_filter.1 ht
  have hl:=of_decide_eq_true hl
  injection h with h3 h4
  exact ⟨s,hs,t,ht,of_decide_eq_true h1,of_decide_eq_true h2,h3,by rw [← hl];exact h3,h4.symm⟩
 ·rintro ⟨s,hs,t,ht,h1,h2,h3,h4,rfl⟩
  refine List.mem_flatMap.2 ⟨s,List.mem_filter.2 ⟨hs,decide_eq_true h1⟩,List.mem_map.2 ⟨t,List.mem_filter.2 ⟨List.mem_filter.2 ⟨ht,decide_eq_true h2⟩,decide_eq_true (by rw [h3,h4])⟩,by rw [h3]⟩⟩
theorem pFirst_mem {A B:Aut}{p:Pair}:p ∈ pFirst A B ↔ ∃ x ∈ A.first,∃ y ∈ B.first,p=⟨x.toNat,y.toNat,false⟩:=by
 unfold pFirst
 constructor
 ·intro h
  obtain ⟨x,hx,h⟩:=List.mem_flatMap.1 h
  obtain ⟨y,hy,rfl⟩:=List.mem_map.1 h
  exact ⟨x,hx,y,hy,rfl⟩
 ·rintro ⟨x,hx,y,hy,rfl⟩
  exact List.mem_flatMap.2 ⟨x,hx,List.mem_map.2 ⟨y,hy,rfl⟩⟩
theorem first_iff {A:Aut}{q:Nat}:(∃ i,i < A.first.length∧(A.first.getD i 0).toNat=q) ↔ ∃ x ∈ A.first,x.toNat=q:=by
 constructor
 ·rintro ⟨i,hi,rfl⟩
  exact ⟨_,getD_mem hi,rfl⟩
 ·rintro ⟨x,hx,rfl⟩
  obtain ⟨i,hi,e⟩:=List.mem_iff_getElem.1 hx
  exact ⟨i,hi,by simp [List.getD,hi,e]⟩
theorem takesG_pairs {A B:Aut} (hA:∀ s ∈ A.steps,0≤s.t) (hB:∀ s ∈ B.steps,0≤s.t) (u:Nat→Int):TakesG (pFirst A B) (pGood A) (pAfter A B) u ↔ TakesI A u∧TakesI B u:=by
 constructor
 ·rintro ⟨r,h0,hr,hg⟩
  obtain ⟨x,hx,y,hy,e0⟩:=pFirst_mem.1 h0
  have hst:∀ t,stepU A (r t).1 (u t) (r (t+1)).1∧stepU B (r t).2.1 (u t) (r (t+1)).2.1∧(r (t+1)).2.2=pWait A B (r t):=fun t=>by
   obtain ⟨s,hs,s',hs',h1,h2,h3,h4,e⟩:=pAfter_mem.1 (hr t)
   have k1:=hA s hs
   have k2:=hB s' hs'
   rw [e]
   exact ⟨⟨s,hs,h1,h3,by simp;omega⟩,⟨s',hs',h2,h4,by simp;omega⟩,rfl⟩
  refine ⟨⟨fun t=>(r t).1,first_iff.2 ⟨x,hx,by show x.toNat=(r 0).1;rw [e0]⟩,fun t=>(hst t).1,fun t=>?_⟩,⟨fun t=>(r t).2.1,first_iff.2 ⟨y,hy,by show y.toNat=(r 0).2.1;rw [e0]⟩,fun t=>(hst t).2.1,fun t=>?_⟩⟩
  ·obtain ⟨k,hk,h⟩:=hg t
   unfold pGood at h
   rw [Bool.and_eq_true] at h
   exact ⟨k,hk,h.2⟩
  ·obtain ⟨k,hk,h⟩:=hg t
   obtain ⟨k2,hk2,h2⟩:=hg (k+1)
   refine Classical.byContradiction fun hn=>?_
   have hb:∀ j,t≤j→B.good.getD (r j).2.1 false=false:=fun j hj=>by
    cases hb:B.good.getD (r j).2.1 false with
    | false=>rfl
    | true=>exact absurd ⟨j,hj,hb⟩ hn
   have hw:∀ d,(r (k+1+d)).2.2=true:=by
    intro d
    induction d with
    | zero =>
     rw [Nat.add_zero,(hst k).2.2]
     unfold pWait
     rw [h];rfl
    | succ d ih =>
     rw [← Nat.add_assoc,(hst (k+1+d)).2.2]
     unfold pWait
     rw [ih,hb _ (by omega)]
     simp
   have:=hw (k2 - (k+1))
   rw [show k+1+(k2 - (k+1))=k2 by omega] at this
   unfold pGood at h2
   rw [this] at h2
   simp at h2
 ·rintro ⟨⟨ra,ha0,ha,hga⟩,⟨rb,hb0,hb,hgb⟩⟩
  obtain ⟨x,hx,ex⟩:=first_iff.1 ha0
  obtain ⟨y,hy,ey⟩:=first_iff.1 hb0
  let wt:Nat→Bool:=fun t=>Nat.rec false (fun t w=>pWait A B ⟨ra t,rb t,w⟩) t
  have hws:∀ t,wt (t+1)=pWait A B ⟨ra t,rb t,wt t⟩:=fun t=>rfl
  have hfree:∀ t,wt t=false→∃ k,t≤k∧pGood A ⟨ra k,rb k,wt k⟩=true:=by
   intro t ht
   obtain ⟨k,hk,h⟩:=hga t
   refine Classical.byContradiction fun hn=>?_
   have hno:∀ j,t≤j→pGood A ⟨ra j,rb j,wt j⟩=false:=fun j hj=>by
    cases hb:pGood A ⟨ra j,rb j,wt j⟩ with
    | false=>rfl
    | true=>exact absurd ⟨j,hj,hb⟩ hn
   have hw:∀ d,wt (t+d)=false:=by
    intro d
    induction d with
    | zero=>exact ht
    | succ d ih =>
     rw [← Nat.add_assoc,hws]
     unfold pWait
     rw [hno _ (by omega),ih]
     rfl
   have h1:=hno k hk
   have h2:=hw (k - t)
   rw [show t+(k - t)=k by omega] at h2
   unfold pGood at h1
   rw [h2] at h1
   simp only [Bool.not_false,Bool.true_and] at h1
   rw [h] at h1
   cases h1
  refine ⟨fun t=>⟨ra t,rb t,wt t⟩,pFirst_mem.2 ⟨x,hx,y,hy,by rw [ex,ey];rfl⟩,fun t=>?_,fun t=>?_⟩
  ·obtain ⟨s,hs,h1,h3,h5⟩:=ha t
   obtain ⟨s',hs',h2,h4,h6⟩:=hb t
   refine pAfter_mem.2 ⟨s,hs,s',hs',h1,h2,h3,h4,?_⟩
   rw [h5,h6,Int.toNat_natCast,Int.toNat_natCast,← hws]
  ·cases hw:wt t with
   | false=>exact hfree t hw
   | true =>
    obtain ⟨k,hk,h⟩:=hgb t
    have:∃ j,t≤j∧wt j=false:=by
     refine Classical.byContradiction fun hn=>?_
     have hall:∀ j,t≤j→wt j=true:=fun j hj=>by
      cases hb:wt j with
      | true=>rfl
      | false=>exact absurd ⟨j,hj,hb⟩ hn
     have h1:=hall (k+1) (by omega)
     rw [hws] at h1
     unfold pWait pGood at h1
     rw [hall k hk,h] at h1
     simp at h1
    obtain ⟨j,hj,hwj⟩:=this
    obtain ⟨k,hk,h⟩:=hfree j hwj
    exact ⟨k,by omega,h⟩
end Go.Proofs.YtpiacnnifdjlkabGreatDoor
