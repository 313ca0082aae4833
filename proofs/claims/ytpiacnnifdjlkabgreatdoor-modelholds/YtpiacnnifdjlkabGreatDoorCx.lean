import Derived.Test.YtpiacnnifdjlkabGreatDoorYa
import Derived.Test.YtpiacnnifdjlkabGreatDoorBy
import Derived.Orders
import Derived.Deep.LoopGhost
import Derived.Shelf.Abstract
set_option maxRecDepth 100000
set_option maxHeartbeats 8000000
namespace Go.Proofs.YtpiacnnifdjlkabGreatDoor
open Go.RowKit
def RowsSl (w:World) (v:Value) (rows:List (List Int)):Prop:=
 ∃ a cap,v=.slice a rows.length cap∧rows.length≤maxLen∧(rows=[] ∨ ∃ b off,a=some ⟨b,off,none⟩∧∀ i,i < rows.length→∃ rv,w.cell? ⟨b,off+i,none⟩=some rv∧IntSl w rv (rows.getD i []))
theorem RowsSl.below {w w':World}{v:Value}{rows:List (List Int)} (h:RowsSl w v rows) (hb:Below w.heap.size w w'):RowsSl w' v rows:=by
 obtain ⟨a,cap,rfl,hm,h⟩:=h
 refine ⟨a,cap,rfl,hm,?_⟩
 rcases h with h | ⟨b,off,rfl,hc⟩
 ·exact Or.inl h
 ·refine Or.inr ⟨b,off,rfl,fun i hi=>?_⟩
  obtain ⟨rv,h1,h2⟩:=hc i hi
  exact ⟨rv,by rw [hb.cell (World.block_lt_of_cell? w _ h1)];exact h1,h2.below hb⟩
def MdV (w:World) (v:Value) (M:Mdl):Prop:=∃ lv fv sv,v=.agg #[.int .i64 M.props,lv,fv,sv]∧IntSl w lv M.labels∧IntSl w fv M.first∧RowsSl w sv M.steps
theorem MdV.below {w w':World}{v:Value}{M:Mdl} (h:MdV w v M) (hb:Below w.heap.size w w'):MdV w' v M:=by
 obtain ⟨lv,fv,sv,rfl,h1,h2,h3⟩:=h
 exact ⟨lv,fv,sv,rfl,h1.below hb,h2.below hb,h3.below hb⟩
def notLab (p x:Int):Bool:=decide (x < 0) || decide (2 ^ p.toNat≤x)
def notSt (n:Nat) (x:Int):Bool:=decide (x < 0) || decide ((n:Int)≤x)
def rowsErr (n:Nat):List (List Int)→Int
 | []=>0
 | r :: rs=>if r=[] then 4 else if r.any (notSt n) then 5 else rowsErr n rs
def chkM (M:Mdl):Int:=
 if M.props < 0 ∨ 3 < M.props then 3 else if 12 < M.labels.length then 2 else if M.labels.length=0 ∨ M.steps.length ≠ M.labels.length then 1
 else if M.labels.any (notLab M.props) then 3 else if M.first.any (notSt M.labels.length) then 5 else rowsErr M.labels.length M.steps
theorem rowsErr_ok {n:Nat}:∀ {rs:List (List Int)},rowsErr n rs=0→∀ r ∈ rs,r ≠ []∧∀ x ∈ r,0≤x∧x < n
 | [],_,r,hr=>by cases hr
 | r :: rs,h,r',hr=>by
  unfold rowsErr at h
  by_cases h1:r=[]
  ·rw [if_pos h1] at h;omega
  ·rw [if_neg h1] at h
   by_cases h2:r.any (notSt n)=true
   ·rw [if_pos h2] at h;omega
   ·rw [if_neg h2] at h
    rcases List.mem_cons.1 hr with rfl | hr
    ·refine ⟨h1,fun x hx=>?_⟩
     have:notSt n x=false:=by
      cases hc:notSt n x with
      | false=>rfl
      | true=>exact absurd (List.any_eq_true.2 ⟨x,hx,hc⟩) h2
     simp [notSt] at this
     omega
    ·exact rowsErr_ok h r' hr
theorem chkM_right {M:Mdl} (h:chkM M=0):MRight M:=by
 unfold chkM at h
 split at h
 ·omega
 ·rename_i h1
  split at h
  ·omega
  ·rename_i h2
   split at h
   ·omega
   ·rename_i h3
    split at h
    ·omega
    ·rename_i h4
     split at h
     ·omega
     ·rename_i h5
      have hl:∀ x ∈ M.labels,notLab M.props x=false:=fun x hx=>by
       cases hc:notLab M.props x with
       | false=>rfl
       | true=>exact absurd (List.any_eq_true.2 ⟨x,hx,hc⟩) h4
      have hf:∀ x ∈ M.first,notSt M.labels.length x=false:=fun x hx=>by
       cases hc:notSt M.labels.length x with
       | false=>rfl
       | true=>exact absurd (List.any_eq_true.2 ⟨x,hx,hc⟩) h5
      refine ⟨by omega,by omega,by omega,by omega,by omega,fun x hx=>?_,fun x hx=>?_,fun r hr=>?_⟩
      ·have:=hl x hx
       simp [notLab] at this
       have hp:M.props.toNat=0 ∨ M.props.toNat=1 ∨ M.props.toNat=2 ∨ M.props.toNat=3:=by omega
       rcases hp with hp | hp | hp | hp <;> rw [hp] at this <;> simp at this <;> omega
      ·have:=hf x hx
       simp [notSt] at this
       omega
      ·exact rowsErr_ok h r hr
end Go.Proofs.YtpiacnnifdjlkabGreatDoor
namespace Go.Proofs.YtpiacnnifdjlkabGreatDoor
def dstAt (ops:Array Oper) (i:Nat):Option Tmp:=(ops[i]?).bind (·.dst)
def orderly (ops:Array Oper) (n:Nat):Bool:=
 (List.range ops.size).all fun i=>match ops[i]? with
  | none=>false
  | some o=>o.guard.isNone && o.after.toList.all (fun e=>!Region.binds .any e || decide (e.on < i)) &&
   (match o.dst with
    | none=>true
    | some d=>decide (d < n) && (List.range ops.size).all fun j=>i == j || dstAt ops j != some d)
def putAll (ops:Array Oper) (vs:Nat→Value):List Nat→Array Value→Array Value
 | [],t=>t
 | i :: l,t=>putAll ops vs l (match dstAt ops i with | some d=>t.setIfInBounds d (vs i) | none=>t)
theorem putAll_other (ops:Array Oper) (vs:Nat→Value) (k:Nat):∀ (l:List Nat) (t:Array Value),(∀ i ∈ l,dstAt ops i ≠ some k)→(putAll ops vs l t)[k]?=t[k]?
 | [],_,_=>rfl
 | i :: l,t,h=>by
  rw [putAll,putAll_other ops vs k l _ (fun j hj=>h j (List.mem_cons_of_mem _ hj))]
  have:=h i (List.mem_cons_self ..)
  cases hd:dstAt ops i with
  | none=>rfl
  | some d =>
   have hne:d ≠ k:=fun e=>this (by rw [hd,e])
   simp [hne]
theorem putAll_own (ops:Array Oper) (vs:Nat→Value) (k i:Nat) (hd:dstAt ops i=some k):∀ (l:List Nat) (t:Array Value),k < t.size→i ∈ l→(∀ j ∈ l,dstAt ops j=some k→j=i)→(putAll ops vs l t)[k]?=some (vs i)
 | [],_,_,h,_=>by cases h
 | j :: l,t,hk,h,hu=>by
  rw [putAll]
  by_cases hm:i ∈ l
  ·refine putAll_own ops vs k i hd l _ ?_ hm (fun j hj=>hu j (List.mem_cons_of_mem _ hj))
   cases dstAt ops j <;> simp [hk]
  ·have hij:i=j:=(List.mem_cons.1 h).resolve_right hm
   subst hij
   rw [putAll_other ops vs k l _ (fun j hj e=>hm (by rw [← hu j (List.mem_cons_of_mem _ hj) e];exact hj)),hd]
   simp [hk]
section
variable {P:Program}{ops:Array Oper}{Q:Exit→Act→World→Prop}{W:World→Prop}{R:Nat→Value→World→Prop}{a0:Act}
structure Amid (ops:Array Oper) (W:World→Prop) (R:Nat→Value→World→Prop) (a0:Act) (listed:Array Bool) (a:Act) (w:World):Prop where
 size:listed.size=ops.size
 tsize:a.tmps.size=a0.tmps.size
 defers:a.defers=a0.defers
 wld:W w
 rest:∀ t,(∀ i,listed[i]?=some true→dstAt ops i ≠ some t)→a.tmps[t]?=a0.tmps[t]?
 done:∀ i,listed[i]?=some true→∃ v,R i v w∧∀ d,dstAt ops i=some d→a.tmps[d]?=some v
 closed:∀ (i:Nat) (o:Oper),ops[i]?=some o→listed[i]?=some true→∀ e ∈ o.after.toList,Region.binds .any e=true→listed[e.on]?=some true
def dep (o:Oper) (j:Nat):Bool:=o.after.toList.any fun e=>Region.binds .any e && e.on == j
def free (ops:Array Oper) (i t:Nat):Bool:=(List.range ops.size).all fun j=>match ops[j]? with
 | none=>true
 | some o=>o.dst != some t || dep o i
theorem free_out {i t:Nat} (h:free ops i t=true) {j:Nat}{o:Oper} (hj:ops[j]?=some o) (hd:o.dst=some t):dep o i=true:=by
 have hlt:j < ops.size:=by
  rcases Nat.lt_or_ge j ops.size with h | h
  ·exact h
  ·rw [Array.getElem?_eq_none h] at hj;cases hj
 have:=List.all_eq_true.1 h j (List.mem_range.2 hlt)
 rw [hj] at this
 simpa [hd] using this
def StepOk (P:Program) (ops:Array Oper) (Q:Exit→Act→World→Prop) (W:World→Prop) (R:Nat→Value→World→Prop) (a0:Act) (i:Nat) (o:Oper):Prop:=
 ∀ (a:Act) (w:World) (vs:Nat→Value),W w→(∀ t,free ops i t=true→a.eval (.tmp t)=a0.eval (.tmp t)) →
  (∀ j,dep o j=true→R j (vs j) w∧∀ d,dstAt ops j=some d→a.eval (.tmp d)=vs j) →
  o.wp P a w (fun a' w'=>∃ v,a'=a.put o.dst v∧W w'∧R i v w'∧∀ j x,R j x w→R j x w') Q
theorem orderly_at (h:orderly ops a0.tmps.size=true) {i:Nat}{o:Oper} (hi:ops[i]?=some o) :
  o.guard=none∧(∀ e ∈ o.after.toList,Region.binds .any e=true→e.on < i)∧∀ d,o.dst=some d→d < a0.tmps.size∧∀ j,dstAt ops j=some d→j=i:=by
 unfold orderly at h
 have hlt:i < ops.size:=by
  rcases Nat.lt_or_ge i ops.size with h | h
  ·exact h
  ·rw [Array.getElem?_eq_none h] at hi;cases hi
 have:=List.all_eq_true.1 h i (List.mem_range.2 hlt)
 rw [hi] at this
 simp only [Bool.and_eq_true] at this
 obtain ⟨⟨h1,h2⟩,h3⟩:=this
 refine ⟨by simpa using h1,fun e he hb=>?_,fun d hd=>?_⟩
 ·have:=List.all_eq_true.1 h2 e he
  rw [hb] at this
  simpa using this
 ·rw [hd] at h3
  simp only [Bool.and_eq_true,decide_eq_true_eq] at h3
  refine ⟨h3.1,fun j hj=>?_⟩
  have hjl:j < ops.size:=by
   rcases Nat.lt_or_ge j ops.size with h | h
   ·exact h
   ·unfold dstAt at hj;rw [Array.getElem?_eq_none h] at hj;cases hj
  have:=List.all_eq_true.1 h3.2 j (List.mem_range.2 hjl)
  rw [hj] at this
  have:i=j:=by simpa using this
  exact this.symm
theorem amid_listed (h:orderly ops a0.tmps.size=true) {listed:Array Bool} (hs:listed.size=ops.size) (hr:Region.ready .any ops listed=[]):∀ i,i < ops.size→listed[i]?=some true:=by
 intro i
 induction i using Nat.strongRecOn with
 | ind i ih =>
  intro hi
  have ho:ops[i]?=some ops[i]:=Array.getElem?_eq_getElem hi
  have hl:listed[i]?=some (listed[i]'(by omega)):=Array.getElem?_eq_getElem (by omega)
  cases hb:listed[i]'(by omega) with
  | true=>rw [hl,hb]
  | false =>
   exfalso
   have hm:i ∈ Region.ready .any ops listed:=by
    unfold Region.ready
    refine List.mem_filter.2 ⟨List.mem_range.2 hi,?_⟩
    rw [hb] at hl
    simp only [Array.getD_eq_getD_getElem?,hl,ho,Option.map_some,Option.getD_some,Bool.not_false,Bool.true_and]
    rw [Array.all_eq_true_iff_forall_mem]
    intro e he
    cases hbi:Region.binds .any e with
    | false=>rfl
    | true =>
     have hlt:=(orderly_at h ho).2.1 e (by simpa using he) hbi
     rw [ih e.on hlt (by omega)]
     rfl
   rw [hr] at hm
   cases hm
theorem amid_end (h:orderly ops a0.tmps.size=true) {listed:Array Bool}{a:Act}{w:World} (hA:Amid ops W R a0 listed a w) (hr:Region.ready .any ops listed=[])
  (hend:∀ (vs:Nat→Value) (w:World),W w→(∀ i,i < ops.size→R i (vs i) w)→Q .normal { a0 with tmps:=putAll ops vs (List.range ops.size) a0.tmps } w):Q .normal a w:=by
 have hall:=amid_listed h hA.size hr
 have hex:∀ i,∃ v,i < ops.size→R i v w∧∀ d,dstAt ops i=some d→a.tmps[d]?=some v:=fun i=>by
  by_cases hi:i < ops.size
  ·obtain ⟨v,hv⟩:=hA.done i (hall i hi)
   exact ⟨v,fun _=>hv⟩
  ·exact ⟨undef,fun h=>absurd h hi⟩
 obtain ⟨vs,hvs⟩:=Classical.axiomOfChoice hex
 have ha:a={ a0 with tmps:=putAll ops vs (List.range ops.size) a0.tmps }:=by
  obtain ⟨t,d⟩:=a
  have hd:=hA.defers
  dsimp only at hd
  subst hd
  congr 1
  apply Array.ext_getElem?
  intro k
  by_cases hk:∃ i,i < ops.size∧dstAt ops i=some k
  ·obtain ⟨i,hi,hd⟩:=hk
   have ho:ops[i]?=some ops[i]:=Array.getElem?_eq_getElem hi
   have hd':ops[i].dst=some k:=by
    unfold dstAt at hd
    rw [ho] at hd
    exact hd
   obtain ⟨hlt,hu⟩:=(orderly_at h ho).2.2 k hd'
   rw [putAll_own ops vs k i hd _ _ hlt (List.mem_range.2 hi) (fun j _ hj=>hu j hj)]
   exact (hvs i hi).2 k hd
  ·rw [putAll_other ops vs k _ _ (fun i hi hd=>hk ⟨i,List.mem_range.1 hi,hd⟩)]
   refine hA.rest k fun i hi hd=>hk ⟨i,?_,hd⟩
   have:=(Array.getElem?_eq_some_iff.1 hi).1
   have:=hA.size
   omega
 rw [ha]
 exact hend vs w hA.wld fun i hi=>(hvs i hi).1
theorem wpAny_amid (h:orderly ops a0.tmps.size=true) (hstep:∀ i o,ops[i]?=some o→StepOk P ops Q W R a0 i o)
  (hend:∀ (vs:Nat→Value) (w:World),W w→(∀ i,i < ops.size→R i (vs i) w)→Q .normal { a0 with tmps:=putAll ops vs (List.range ops.size) a0.tmps } w) :
  ∀ (fuel:Nat) (listed:Array Bool) (a:Act) (w:World),listed.toList.count false≤fuel→Amid ops W R a0 listed a w→wpAny P .any ops Q fuel listed a w:=by
 intro fuel
 induction fuel with
 | zero =>
  intro listed a w hc hA
  have hr:Region.ready .any ops listed=[]:=by
   unfold Region.ready
   refine List.filter_eq_nil_iff.2 fun i hi=>?_
   have hl:i < listed.size:=by rw [hA.size];exact List.mem_range.1 hi
   have hn:false ∉ listed.toList:=List.count_eq_zero.1 (by omega)
   cases hb:listed[i] with
   | true=>simp [Array.getD_eq_getD_getElem?,Array.getElem?_eq_getElem hl,hb]
   | false=>exact absurd (by rw [← hb];simp) hn
  exact ⟨hr,amid_end h hA hr hend⟩
 | succ fuel ih =>
  intro listed a w hc hA
  refine ⟨fun hr=>amid_end h hA hr hend,fun i hi=>?_⟩
  unfold Region.ready at hi
  obtain ⟨hi1,hi2⟩:=List.mem_filter.1 hi
  have hio:i < ops.size:=List.mem_range.1 hi1
  have hil:i < listed.size:=by rw [hA.size];exact hio
  have ho:ops[i]?=some ops[i]:=Array.getElem?_eq_getElem hio
  obtain ⟨hg,hback,hdst⟩:=orderly_at h ho
  simp only [Array.getD_eq_getD_getElem?,Array.getElem?_eq_getElem hil,ho,Option.map_some,Option.getD_some,Bool.and_eq_true,Bool.not_eq_true'] at hi2
  obtain ⟨hf,hdeps⟩:=hi2
  have hw:Region.wanted ops[i] (yielded ops a.tmps)=true:=by simp [Region.wanted,hg]
  unfold wpOp
  rw [ho]
  simp only [hw,if_true]
  refine Or.inl ?_
  have hex:∀ j,∃ v,listed[j]?=some true→R j v w∧∀ d,dstAt ops j=some d→a.tmps[d]?=some v:=fun j=>by
   by_cases hj:listed[j]?=some true
   ·obtain ⟨v,hv⟩:=hA.done j hj
    exact ⟨v,fun _=>hv⟩
   ·exact ⟨undef,fun h=>absurd h hj⟩
  obtain ⟨vs,hvs⟩:=Classical.axiomOfChoice hex
  refine Oper.wp_mono ?_ (hstep i _ ho a w vs hA.wld ?_ ?_)
  ·rintro a' w' ⟨v,rfl,hW',hR',hst⟩
   refine ih _ _ _ ?_ ?_
   ·rw [Array.toList_setIfInBounds]
    have:=List.count_set (a:=true) (b:=false) (l:=listed.toList) (i:=i) (by simpa using hil)
    rw [this]
    have e:(listed.toList[i]'(by simpa using hil))=false:=by simpa using hf
    rw [e]
    have hp:0 < listed.toList.count false:=List.count_pos_iff.2 (by rw [← e];simp)
    rw [if_pos (by rfl),if_neg (by decide)]
    omega
   ·have hin:∀ j,(listed.setIfInBounds i true)[j]?=some true→j=i ∨ (j ≠ i∧listed[j]?=some true):=fun j hj=>by
     by_cases e:j=i
     ·exact Or.inl e
     ·rw [Array.getElem?_setIfInBounds,if_neg (fun e'=>e e'.symm)] at hj
      exact Or.inr ⟨e,hj⟩
    have hmine:(listed.setIfInBounds i true)[i]?=some true:=by rw [Array.getElem?_setIfInBounds,if_pos rfl,if_pos hil]
    have hdi:dstAt ops i=ops[i].dst:=by unfold dstAt;rw [ho];rfl
    refine ⟨by simpa using hA.size,?_,?_,hW',fun t ht=>?_,fun j hj=>?_,fun j oj hoj hj e he hbe=>?_⟩
    ·cases hd:ops[i].dst <;> simp [Act.put,hA.tsize]
    ·cases hd:ops[i].dst <;> simp [Act.put,hA.defers]
    ·have h1:=ht i hmine
     have h2:=hA.rest t fun j hj=>ht j (by
      by_cases e:j=i
      ·rw [e];exact hmine
      ·rw [Array.getElem?_setIfInBounds,if_neg (fun e'=>e e'.symm)];exact hj)
     cases hd:ops[i].dst with
     | none=>exact h2
     | some d =>
      have hne:d ≠ t:=fun e=>h1 (by rw [hdi,hd,e])
      simp only [Act.put]
      rw [Array.getElem?_setIfInBounds,if_neg hne]
      exact h2
    ·rcases hin j hj with rfl | ⟨hne,hj'⟩
     ·refine ⟨v,hR',fun d hd=>?_⟩
      rw [hdi] at hd
      have:=(hdst d hd).1
      simp only [Act.put,hd]
      rw [Array.getElem?_setIfInBounds,if_pos rfl,if_pos (by rw [hA.tsize];exact this)]
     ·obtain ⟨u,hu1,hu2⟩:=hA.done j hj'
      refine ⟨u,hst j u hu1,fun d hd=>?_⟩
      cases hdd:ops[i].dst with
      | none=>exact hu2 d hd
      | some d' =>
       have hne':d' ≠ d:=fun e=>hne ((hdst d' hdd).2 j (by rw [e];exact hd))
       simp only [Act.put]
       rw [Array.getElem?_setIfInBounds,if_neg hne']
       exact hu2 d hd
    ·have hel:listed[e.on]?=some true:=by
      rcases hin j hj with rfl | ⟨hne,hj'⟩
      ·rw [ho] at hoj
       injection hoj with hoj
       subst hoj
       have hlt:=hback e he hbe
       have hd:=Array.all_eq_true_iff_forall_mem.1 hdeps e (by simpa using he)
       rw [hbe] at hd
       have hee:e.on < listed.size:=by omega
       rw [Array.getElem?_eq_getElem hee] at hd ⊢
       simpa using hd
      ·exact hA.closed j oj hoj hj' e he hbe
     by_cases hei:e.on=i
     ·rw [hei];exact hmine
     ·rw [Array.getElem?_setIfInBounds,if_neg (fun e'=>hei e'.symm)];exact hel
  ·intro t ht
   have:=hA.rest t fun j hj hdj=>by
    unfold dstAt at hdj
    cases hoj:ops[j]? with
    | none=>rw [hoj] at hdj;cases hdj
    | some oj =>
     rw [hoj] at hdj
     obtain ⟨e,he,hbe⟩:=List.any_eq_true.1 (free_out ht hoj hdj)
     rw [Bool.and_eq_true] at hbe
     have hli:=hA.closed j oj hoj hj e he hbe.1
     rw [show e.on=i by simpa using hbe.2,Array.getElem?_eq_getElem hil,hf] at hli
     cases hli
   simp only [Act.eval,Array.getD_eq_getD_getElem?,this]
  ·intro j hj
   obtain ⟨e,he,hbe⟩:=List.any_eq_true.1 hj
   rw [Bool.and_eq_true] at hbe
   obtain ⟨hb,hej⟩:=hbe
   obtain rfl:e.on=j:=by simpa using hej
   have hlt:=hback e he hb
   have hd:=Array.all_eq_true_iff_forall_mem.1 hdeps e (by simpa using he)
   rw [hb] at hd
   have hel:listed[e.on]?=some true:=by
    have hee:e.on < listed.size:=by omega
    rw [Array.getElem?_eq_getElem hee] at hd ⊢
    simpa using hd
   obtain ⟨h1,h2⟩:=hvs e.on hel
   refine ⟨h1,fun d hd=>?_⟩
   simp only [Act.eval,Array.getD_eq_getD_getElem?,h2 d hd,Option.getD_some]
theorem wp_region_amid {id:Nat}{a0:Act}{w:World} (W:World→Prop) (R:Nat→Value→World→Prop) (hm:P.follows .mixedOrders=true) (h:orderly ops a0.tmps.size=true)
  (h0:W { w with drawn:=w.drawn+1 }) (hstep:∀ i o,ops[i]?=some o→StepOk P ops Q W R a0 i o)
  (hend:∀ (vs:Nat→Value) (w:World),W w→(∀ i,i < ops.size→R i (vs i) w)→Q .normal { a0 with tmps:=putAll ops vs (List.range ops.size) a0.tmps } w):(Code.region id ops true).wp P Q a0 w:=by
 refine wp_region_any hm (wpAny_amid h hstep hend _ _ _ _ ?_ ⟨by simp,rfl,rfl,h0,fun _ _=>rfl,fun i hi=>?_,fun i o _ hi=>?_⟩)
 ·exact Nat.le_trans (List.count_le_length) (by simp)
 ·simp [Array.getElem?_replicate] at hi
 ·simp [Array.getElem?_replicate] at hi
end
section
variable {P:Program}{ops:Array Oper}{Q:Exit→Act→World→Prop}{W:World→Prop}{R:Nat→Value→World→Prop}{a0:Act}{i:Nat}{o:Oper}
theorem eval_tmp (a:Act) (d:Nat):a.eval (.tmp d)=a.tmps[d]?.getD undef:=by simp [Act.eval]
theorem dep_val {a:Act}{w:World}{vs:Nat→Value} (hd:∀ j,dep o j=true→R j (vs j) w∧∀ d,dstAt ops j=some d→a.eval (.tmp d)=vs j) (j d:Nat) (h1:dep o j=true) (h2:dstAt ops j=some d):R j (a.tmps[d]?.getD undef) w:=by
 obtain ⟨h,h'⟩:=hd j h1
 rw [← eval_tmp,h' d h2]
 exact h
theorem free_val {a:Act} (he:∀ t,free ops i t=true→a.eval (.tmp t)=a0.eval (.tmp t)) (t:Nat) (h:free ops i t=true):a.tmps[t]?.getD undef=a0.tmps[t]?.getD undef:=by
 rw [← eval_tmp,← eval_tmp]
 exact he t h
theorem stepOk_val (h:∀ (a:Act) (w:World) (vs:Nat→Value),W w→(∀ t,free ops i t=true→a.eval (.tmp t)=a0.eval (.tmp t)) →
   (∀ j,dep o j=true→R j (vs j) w∧∀ d,dstAt ops j=some d→a.eval (.tmp d)=vs j)→∃ v,(execOp a.eval o).run P w=.ok (.value v) w∧R i v w):StepOk P ops Q W R a0 i o:=by
 intro a w vs hW he hd
 obtain ⟨v,hr,hR⟩:=h a w vs hW he hd
 unfold Oper.wp
 rw [hr]
 exact ⟨v,rfl,hW,hR,fun _ _ h=>h⟩
theorem stepOk_new (h:∀ (a:Act) (w:World) (vs:Nat→Value),W w→(∀ t,free ops i t=true→a.eval (.tmp t)=a0.eval (.tmp t)) →
   (∀ j,dep o j=true→R j (vs j) w∧∀ d,dstAt ops j=some d→a.eval (.tmp d)=vs j)→∃ v w',(execOp a.eval o).run P w=.ok (.value v) w'∧W w'∧R i v w'∧∀ j x,R j x w→R j x w'):StepOk P ops Q W R a0 i o:=by
 intro a w vs hW he hd
 obtain ⟨v,w',hr,hW',hR,hst⟩:=h a w vs hW he hd
 unfold Oper.wp
 rw [hr]
 exact ⟨v,rfl,hW',hR,hst⟩
theorem stepOk_call (h:∀ (a:Act) (w:World) (vs:Nat→Value),W w→(∀ t,free ops i t=true→a.eval (.tmp t)=a0.eval (.tmp t)) →
   (∀ j,dep o j=true→R j (vs j) w∧∀ d,dstAt ops j=some d→a.eval (.tmp d)=vs j) →
   ∃ f args,(execOp a.eval o).run P w=.ok (.enter f args) w∧Calls P f args w fun e w'=>∃ v,e=.returned v∧W w'∧R i v w'∧∀ j x,R j x w→R j x w'):StepOk P ops Q W R a0 i o:=by
 intro a w vs hW he hd
 obtain ⟨f,args,hr,hc⟩:=h a w vs hW he hd
 unfold Oper.wp
 rw [hr,Oper.upon_enter]
 exact hc.mono fun e w' ⟨v,he,h1,h2,h3⟩=>by subst he;exact ⟨v,rfl,h1,h2,h3⟩
end
end Go.Proofs.YtpiacnnifdjlkabGreatDoor
namespace Go.Proofs.YtpiacnnifdjlkabGreatDoor
open Go.RowKit Go.Sort
def dstList (ops:Array Oper):List Nat→List (Nat × Tmp)
 | []=>[]
 | i :: l=>match dstAt ops i with
  | some d=>(i,d) :: dstList ops l
  | none=>dstList ops l
def putPairs (vs:Nat→Value):List (Nat × Tmp)→Array Value→Array Value
 | [],t=>t
 | (i,d) :: l,t=>putPairs vs l (t.setIfInBounds d (vs i))
theorem putAll_pairs (ops:Array Oper) (vs:Nat→Value):∀ (l:List Nat) (t:Array Value),putAll ops vs l t=putPairs vs (dstList ops l) t
 | [],_=>rfl
 | i :: l,t=>by
  rw [putAll,dstList,putAll_pairs ops vs l]
  cases dstAt ops i <;> rfl
theorem wp_region_told {P:Program}{ops:Array Oper}{Q:Exit→Act→World→Prop}{id:Nat}{a0:Act}{w:World} (ds:List (Nat × Tmp)) (W:World→Prop) (R:Nat→Value→World→Prop) (hds:dstList ops (List.range ops.size)=ds) (hm:P.follows .mixedOrders=true) (h:orderly ops a0.tmps.size=true)
  (h0:W { w with drawn:=w.drawn+1 }) (hstep:∀ i o,ops[i]?=some o→StepOk P ops Q W R a0 i o)
  (hend:∀ (vs:Nat→Value) (w:World),W w→(∀ i,i < ops.size→R i (vs i) w)→Q .normal { a0 with tmps:=putPairs vs ds a0.tmps } w):(Code.region id ops true).wp P Q a0 w:=
 wp_region_amid W R hm h h0 hstep (fun vs w hW hR=>by rw [putAll_pairs,hds];exact hend vs w hW hR)
theorem cell_kept {w w':World}{b o:Nat}{v:Value} (h:w.cell? ⟨b,o,none⟩=some v) (hb:Below w.heap.size w w'):w'.cell? ⟨b,o,none⟩=some v:=(hb.cell (p:=⟨b,o,none⟩) (World.block_lt_of_cell? w _ h)).trans h
end Go.Proofs.YtpiacnnifdjlkabGreatDoor
namespace Go.Proofs.YtpiacnnifdjlkabGreatDoor
def hung (ops:Array Oper):Bool:=(List.range (ops.size - 1)).all fun i=>(List.range ops.size).any fun k=>match ops[k]? with
 | some o=>dep o i
 | none=>false
section
variable {P:Program}{ops:Array Oper}{Q:Exit→Act→World→Prop}{W:World→Prop}{V:Bool→World→Prop}{R:Nat→Value→World→Prop}{a0:Act}
theorem dep_out {o:Oper}{i:Nat} (h:dep o i=true):∃ e ∈ o.after.toList,Region.binds .any e=true∧e.on=i:=by
 obtain ⟨e,he,hbe⟩:=List.any_eq_true.1 h
 rw [Bool.and_eq_true] at hbe
 exact ⟨e,he,hbe.1,by simpa using hbe.2⟩
theorem hung_all (h:orderly ops a0.tmps.size=true) (hh:hung ops=true) {L:Nat}{oL:Oper} (hsz:ops.size=L+1) (hoL:ops[L]?=some oL) {listed:Array Bool}{a:Act}{w:World} (hA:Amid ops W R a0 listed a w)
  (hr:∀ e ∈ oL.after.toList,Region.binds .any e=true→listed[e.on]?=some true):∀ d i,L - i≤d→i < L→listed[i]?=some true:=by
 intro d
 induction d with
 | zero=>intro i h1 h2;omega
 | succ d ih =>
  intro i h1 h2
  have:=List.all_eq_true.1 hh i (List.mem_range.2 (by omega))
  obtain ⟨k,hk,hd⟩:=List.any_eq_true.1 this
  have hk:=List.mem_range.1 hk
  have ho:ops[k]?=some ops[k]:=Array.getElem?_eq_getElem hk
  rw [ho] at hd
  obtain ⟨e,he,hb,rfl⟩:=dep_out hd
  have hlt:=(orderly_at h ho).2.1 e he hb
  by_cases hkL:k=L
  ·subst hkL
   rw [ho] at hoL
   obtain rfl:=Option.some.inj hoL
   exact hr e he hb
  ·exact hA.closed k _ ho (ih k (by omega) (by omega)) e he hb
theorem last_end (h:orderly ops a0.tmps.size=true) {L:Nat} (hsz:ops.size=L+1) {listed:Array Bool}{a:Act}{w:World} (hA:Amid ops W R a0 listed a w) (hnL:listed[L]?=some false) (hall:∀ i,i < L→listed[i]?=some true) :
  ∃ vs:Nat→Value,(∀ i,i < L→R i (vs i) w)∧a={ a0 with tmps:=putAll ops vs (List.range L) a0.tmps }:=by
 have hex:∀ i,∃ v,i < L→R i v w∧∀ d,dstAt ops i=some d→a.tmps[d]?=some v:=fun i=>by
  by_cases hi:i < L
  ·obtain ⟨v,hv⟩:=hA.done i (hall i hi)
   exact ⟨v,fun _=>hv⟩
  ·exact ⟨undef,fun h=>absurd h hi⟩
 obtain ⟨vs,hvs⟩:=Classical.axiomOfChoice hex
 refine ⟨vs,fun i hi=>(hvs i hi).1,?_⟩
 obtain ⟨t,d⟩:=a
 have hd:=hA.defers
 dsimp only at hd
 subst hd
 congr 1
 apply Array.ext_getElem?
 intro k
 by_cases hk:∃ i,i < L∧dstAt ops i=some k
 ·obtain ⟨i,hi,hd⟩:=hk
  have ho:ops[i]?=some ops[i]:=Array.getElem?_eq_getElem (by omega)
  have hd':ops[i].dst=some k:=by
   unfold dstAt at hd
   rw [ho] at hd
   exact hd
  obtain ⟨hlt,hu⟩:=(orderly_at h ho).2.2 k hd'
  rw [putAll_own ops vs k i hd _ _ hlt (List.mem_range.2 hi) (fun j _ hj=>hu j hj)]
  exact (hvs i hi).2 k hd
 ·rw [putAll_other ops vs k _ _ (fun i hi hd=>hk ⟨i,List.mem_range.1 hi,hd⟩)]
  refine hA.rest k fun i hi hd=>hk ⟨i,?_,hd⟩
  have h1:=(Array.getElem?_eq_some_iff.1 hi).1
  have h2:=hA.size
  have h3:i ≠ L:=fun e=>by rw [e,hnL] at hi;cases hi
  omega
def StepX (P:Program) (ops:Array Oper) (Q:Exit→Act→World→Prop) (V:Bool→World→Prop) (R:Nat→Value→World→Prop) (a0:Act) (i:Nat) (o:Oper):Prop:=
 ∀ (a:Act) (w:World) (vs:Nat→Value),V false w→(∀ t,free ops i t=true→a.eval (.tmp t)=a0.eval (.tmp t)) →
  (∀ j,dep o j=true→R j (vs j) w∧∀ d,dstAt ops j=some d→a.eval (.tmp d)=vs j) →
  o.wp P a w (fun a' w'=>∃ v,a'=a.put o.dst v∧V true w'∧R i v w'∧∀ j x,j ≠ i→R j x w→R j x w') Q
theorem wpAny_last (h:orderly ops a0.tmps.size=true) (hh:hung ops=true) {L:Nat}{oL:Oper} (hsz:ops.size=L+1) (hoL:ops[L]?=some oL) (X:Nat) (hXL:X < L) (hstep:∀ i o,i < L→i ≠ X→ops[i]?=some o→∀ b,StepOk P ops Q (V b) R a0 i o) (hX:∀ o,ops[X]?=some o→StepX P ops Q V R a0 X o)
  (hend:∀ (vs:Nat→Value) (w:World),V true w→(∀ i,i < L→R i (vs i) w)→oL.wp P { a0 with tmps:=putAll ops vs (List.range L) a0.tmps } w (fun a' w'=>Q .normal a' w') Q) :
  ∀ (fuel:Nat) (listed:Array Bool) (a:Act) (w:World),listed.toList.count false≤fuel→Amid ops (fun _=>True) R a0 listed a w→listed[L]?=some false→(∃ b,listed[X]?=some b∧V b w)→wpAny P .any ops Q fuel listed a w:=by
 intro fuel
 induction fuel with
 | zero =>
  intro listed a w hc hA hnL hV
  exfalso
  have hn:false ∉ listed.toList:=List.count_eq_zero.1 (by omega)
  obtain ⟨hl,he⟩:=Array.getElem?_eq_some_iff.1 hnL
  exact hn (by rw [← he];simp)
 | succ fuel ih =>
  intro listed a w hc hA hnL hV
  refine ⟨fun hr=>(by have:=amid_listed h hA.size hr L (by omega);rw [hnL] at this;cases this),fun i hi=>?_⟩
  unfold Region.ready at hi
  obtain ⟨hi1,hi2⟩:=List.mem_filter.1 hi
  have hio:i < ops.size:=List.mem_range.1 hi1
  have hil:i < listed.size:=by rw [hA.size];exact hio
  have ho:ops[i]?=some ops[i]:=Array.getElem?_eq_getElem hio
  obtain ⟨hg,hback,hdst⟩:=orderly_at h ho
  simp only [Array.getD_eq_getD_getElem?,Array.getElem?_eq_getElem hil,ho,Option.map_some,Option.getD_some,Bool.and_eq_true,Bool.not_eq_true'] at hi2
  obtain ⟨hf,hdeps⟩:=hi2
  have hw:Region.wanted ops[i] (yielded ops a.tmps)=true:=by simp [Region.wanted,hg]
  unfold wpOp
  rw [ho]
  simp only [hw,if_true]
  refine Or.inl ?_
  by_cases hiL:i=L
  ·have e1:ops[i]=oL:=by
    have h1:ops[i]?=some oL:=by rw [hiL];exact hoL
    rw [ho] at h1
    exact Option.some.inj h1
   have hr:∀ e ∈ oL.after.toList,Region.binds .any e=true→listed[e.on]?=some true:=fun e he hb=>by
    rw [← e1] at he
    have hlt:=hback e he hb
    have hd:=Array.all_eq_true_iff_forall_mem.1 hdeps e (by simpa using he)
    rw [hb] at hd
    have hee:e.on < listed.size:=by omega
    rw [Array.getElem?_eq_getElem hee] at hd ⊢
    simpa using hd
   have hall:∀ i,i < L→listed[i]?=some true:=fun i hi=>hung_all h hh hsz hoL hA hr L i (by omega) hi
   obtain ⟨vs,hv,rfl⟩:=last_end h hsz hA hnL hall
   rw [e1]
   refine Oper.wp_mono ?_ (hend vs w (by obtain ⟨b,hb,hV⟩:=hV;rw [hall X hXL] at hb;rw [Option.some.inj hb];exact hV) hv)
   intro a' w' hq
   have hre:Region.ready .any ops (listed.setIfInBounds i true)=[]:=by
    unfold Region.ready
    refine List.filter_eq_nil_iff.2 fun k hk=>?_
    have hk:=List.mem_range.1 hk
    have:(listed.setIfInBounds i true)[k]?=some true:=by
     by_cases e:k=i
     ·rw [e,Array.getElem?_setIfInBounds,if_pos rfl,if_pos hil]
     ·rw [Array.getElem?_setIfInBounds,if_neg (fun e'=>e e'.symm)]
      exact hall k (by omega)
    simp [Array.getD_eq_getD_getElem?,this]
   cases fuel with
   | zero=>exact ⟨hre,hq⟩
   | succ fuel=>exact ⟨fun _=>hq,fun k hk=>by rw [hre] at hk;cases hk⟩
  have hex:∀ j,∃ v,listed[j]?=some true→R j v w∧∀ d,dstAt ops j=some d→a.tmps[d]?=some v:=fun j=>by
   by_cases hj:listed[j]?=some true
   ·obtain ⟨v,hv⟩:=hA.done j hj
    exact ⟨v,fun _=>hv⟩
   ·exact ⟨undef,fun h=>absurd h hj⟩
  obtain ⟨vs,hvs⟩:=Classical.axiomOfChoice hex
  have hmineX:(listed.setIfInBounds i true)[i]?=some true:=by rw [Array.getElem?_setIfInBounds,if_pos rfl,if_pos hil]
  have hgo:(∀ t,free ops i t=true→a.eval (.tmp t)=a0.eval (.tmp t))→(∀ j,dep ops[i] j=true→R j (vs j) w∧∀ d,dstAt ops j=some d→a.eval (.tmp d)=vs j) →
    ops[i].wp P a w (fun a' w'=>∃ v,a'=a.put ops[i].dst v∧(∃ b,(listed.setIfInBounds i true)[X]?=some b∧V b w')∧R i v w'∧∀ j x,j ≠ i→R j x w→R j x w') Q:=by
   obtain ⟨b,hb,hVb⟩:=hV
   intro k1 k2
   by_cases hiX:i=X
   ·have:b=false:=by
     rw [← hiX,Array.getElem?_eq_getElem hil,hf] at hb
     exact (Option.some.inj hb).symm
    rw [this] at hVb
    refine Oper.wp_mono ?_ (hX ops[i] (by rw [← hiX];exact ho) a w vs hVb (by rw [← hiX];exact k1) k2)
    rintro a' w' ⟨v,h1,h2,h3,h4⟩
    exact ⟨v,h1,⟨true,by rw [← hiX];exact hmineX,h2⟩,by rw [hiX];exact h3,by rw [hiX];exact h4⟩
   ·refine Oper.wp_mono ?_ (hstep i _ (by omega) hiX ho b a w vs hVb k1 k2)
    rintro a' w' ⟨v,h1,h2,h3,h4⟩
    exact ⟨v,h1,⟨b,by rw [Array.getElem?_setIfInBounds,if_neg hiX];exact hb,h2⟩,h3,fun j x _ h=>h4 j x h⟩
  refine Oper.wp_mono ?_ (hgo ?_ ?_)
  ·rintro a' w' ⟨v,rfl,hW',hR',hst⟩
   refine ih _ _ _ ?_ ?_ (by rw [Array.getElem?_setIfInBounds,if_neg hiL];exact hnL) hW'
   ·rw [Array.toList_setIfInBounds]
    have:=List.count_set (a:=true) (b:=false) (l:=listed.toList) (i:=i) (by simpa using hil)
    rw [this]
    have e:(listed.toList[i]'(by simpa using hil))=false:=by simpa using hf
    rw [e]
    have hp:0 < listed.toList.count false:=List.count_pos_iff.2 (by rw [← e];simp)
    rw [if_pos (by rfl),if_neg (by decide)]
    omega
   ·have hin:∀ j,(listed.setIfInBounds i true)[j]?=some true→j=i ∨ (j ≠ i∧listed[j]?=some true):=fun j hj=>by
     by_cases e:j=i
     ·exact Or.inl e
     ·rw [Array.getElem?_setIfInBounds,if_neg (fun e'=>e e'.symm)] at hj
      exact Or.inr ⟨e,hj⟩
    have hmine:(listed.setIfInBounds i true)[i]?=some true:=by rw [Array.getElem?_setIfInBounds,if_pos rfl,if_pos hil]
    have hdi:dstAt ops i=ops[i].dst:=by unfold dstAt;rw [ho];rfl
    refine ⟨by simpa using hA.size,?_,?_,trivial,fun t ht=>?_,fun j hj=>?_,fun j oj hoj hj e he hbe=>?_⟩
    ·cases hd:ops[i].dst <;> simp [Act.put,hA.tsize]
    ·cases hd:ops[i].dst <;> simp [Act.put,hA.defers]
    ·have h1:=ht i hmine
     have h2:=hA.rest t fun j hj=>ht j (by
      by_cases e:j=i
      ·rw [e];exact hmine
      ·rw [Array.getElem?_setIfInBounds,if_neg (fun e'=>e e'.symm)];exact hj)
     cases hd:ops[i].dst with
     | none=>exact h2
     | some d =>
      have hne:d ≠ t:=fun e=>h1 (by rw [hdi,hd,e])
      simp only [Act.put]
      rw [Array.getElem?_setIfInBounds,if_neg hne]
      exact h2
    ·rcases hin j hj with rfl | ⟨hne,hj'⟩
     ·refine ⟨v,hR',fun d hd=>?_⟩
      rw [hdi] at hd
      have:=(hdst d hd).1
      simp only [Act.put,hd]
      rw [Array.getElem?_setIfInBounds,if_pos rfl,if_pos (by rw [hA.tsize];exact this)]
     ·obtain ⟨u,hu1,hu2⟩:=hA.done j hj'
      refine ⟨u,hst j u hne hu1,fun d hd=>?_⟩
      cases hdd:ops[i].dst with
      | none=>exact hu2 d hd
      | some d' =>
       have hne':d' ≠ d:=fun e=>hne ((hdst d' hdd).2 j (by rw [e];exact hd))
       simp only [Act.put]
       rw [Array.getElem?_setIfInBounds,if_neg hne']
       exact hu2 d hd
    ·have hel:listed[e.on]?=some true:=by
      rcases hin j hj with rfl | ⟨hne,hj'⟩
      ·rw [ho] at hoj
       injection hoj with hoj
       subst hoj
       have hlt:=hback e he hbe
       have hd:=Array.all_eq_true_iff_forall_mem.1 hdeps e (by simpa using he)
       rw [hbe] at hd
       have hee:e.on < listed.size:=by omega
       rw [Array.getElem?_eq_getElem hee] at hd ⊢
       simpa using hd
      ·exact hA.closed j oj hoj hj' e he hbe
     by_cases hei:e.on=i
     ·rw [hei];exact hmine
     ·rw [Array.getElem?_setIfInBounds,if_neg (fun e'=>hei e'.symm)];exact hel
  ·intro t ht
   have:=hA.rest t fun j hj hdj=>by
    unfold dstAt at hdj
    cases hoj:ops[j]? with
    | none=>rw [hoj] at hdj;cases hdj
    | some oj =>
     rw [hoj] at hdj
     obtain ⟨e,he,hbe⟩:=List.any_eq_true.1 (free_out ht hoj hdj)
     rw [Bool.and_eq_true] at hbe
     have hli:=hA.closed j oj hoj hj e he hbe.1
     rw [show e.on=i by simpa using hbe.2,Array.getElem?_eq_getElem hil,hf] at hli
     cases hli
   simp only [Act.eval,Array.getD_eq_getD_getElem?,this]
  ·intro j hj
   obtain ⟨e,he,hbe⟩:=List.any_eq_true.1 hj
   rw [Bool.and_eq_true] at hbe
   obtain ⟨hb,hej⟩:=hbe
   obtain rfl:e.on=j:=by simpa using hej
   have hlt:=hback e he hb
   have hd:=Array.all_eq_true_iff_forall_mem.1 hdeps e (by simpa using he)
   rw [hb] at hd
   have hel:listed[e.on]?=some true:=by
    have hee:e.on < listed.size:=by omega
    rw [Array.getElem?_eq_getElem hee] at hd ⊢
    simpa using hd
   obtain ⟨h1,h2⟩:=hvs e.on hel
   refine ⟨h1,fun d hd=>?_⟩
   simp only [Act.eval,Array.getD_eq_getD_getElem?,h2 d hd,Option.getD_some]
theorem wp_region_last {id:Nat}{a0:Act}{w:World} (L X:Nat) (oL:Oper) (ds:List (Nat × Tmp)) (V:Bool→World→Prop) (R:Nat→Value→World→Prop) (hds:dstList ops (List.range L)=ds) (hm:P.follows .mixedOrders=true) (h:orderly ops a0.tmps.size=true) (hh:hung ops=true) (hsz:ops.size=L+1) (hoL:ops[L]?=some oL) (hXL:X < L)
  (h0:V false { w with drawn:=w.drawn+1 }) (hstep:∀ i o,i < L→i ≠ X→ops[i]?=some o→∀ b,StepOk P ops Q (V b) R a0 i o) (hX:∀ o,ops[X]?=some o→StepX P ops Q V R a0 X o)
  (hend:∀ (vs:Nat→Value) (w:World),V true w→(∀ i,i < L→R i (vs i) w)→oL.wp P { a0 with tmps:=putPairs vs ds a0.tmps } w (fun a' w'=>Q .normal a' w') Q):(Code.region id ops true).wp P Q a0 w:=by
 refine wp_region_any hm (wpAny_last h hh hsz hoL X hXL hstep hX (fun vs w hW hR=>by rw [putAll_pairs,hds];exact hend vs w hW hR) _ _ _ _ ?_ ⟨by simp,rfl,rfl,trivial,fun _ _=>rfl,fun i hi=>?_,fun i o _ hi=>?_⟩ ?_ ?_)
 ·exact Nat.le_trans (List.count_le_length) (by simp)
 ·simp [Array.getElem?_replicate] at hi
 ·simp [Array.getElem?_replicate] at hi
 ·simp [hsz]
 ·refine ⟨false,?_,h0⟩
  rw [Array.getElem?_replicate,if_pos (by omega)]
end
end Go.Proofs.YtpiacnnifdjlkabGreatDoor
namespace Go.Proofs.YtpiacnnifdjlkabGreatDoor
open Go.RowKit Go.Sort
theorem boolSl_nil (w:World):BoolSl w (.slice none 0 0) []:=⟨none,0,rfl,by simp [maxLen],Or.inl rfl,fun _=>rfl,by simp⟩
theorem stepSl_nil (w:World):StepSl w (.slice none 0 0) []:=⟨none,0,rfl,by simp [maxLen],Or.inl rfl,fun _=>rfl,by simp⟩
structure ElT (t e:TypeId) (sz by_:Nat):Prop where
 under:Tryz.prog.underlying t=some (.slice e)
 info:∃ i z,Tryz.prog.info? e=some i∧i.zero=some z∧z.cells.size=sz∧i.size=sz∧i.bytes=by_
 pos:0 < sz
 few:sz≤by_∧by_≤64
theorem run_append_one (w:World) (ty t e base n sz by_:Nat) (hT:ElT t e sz by_) (v:Value) (xs:List Value) (hown:w.ownsRow base e sz v n xs) (B c:Nat) (news:List Value) (hnl:news.length=sz) (hc:∀ j u,news[j]?=some u→w.cell? ⟨B,j,none⟩=some u) (h1:∀ u ∈ news,u.oneCell'=true) (hn:n≤900000) (hbase:base≤w.heap.size) :
  ∃ g' cap' w',(Builtin.append_ #[t,t] ty #[v,.slice (some ⟨B,0,none⟩) 1 c]).run Tryz.prog w=.ok (.slice (some ⟨g',0,none⟩) (n+1) cap') w'∧w'.ownsRow base e sz (.slice (some ⟨g',0,none⟩) (n+1) cap') (n+1) (xs ++ news)∧w.grownBy w' v.ownBlock∧(v.ownBlock=some g' ∨ g'=w.heap.size)∧base≤g':=by
 obtain ⟨i,z,hi,hz,hzs,his,hib⟩:=hT.info
 have hp:=hT.pos
 have hf:=hT.few
 obtain ⟨v',w',hr,h2,h3,_,h5⟩:=run_append_own_at (P:=Tryz.prog) w base t ty e i z sz by_ hT.under hi hz his hib hzs hp v n xs hown ⟨B,0,none⟩ 1 c news (by omega) (fun j u hu=>by rw [add_none,Nat.zero_add];exact hc j u hu) h1 (by unfold maxLen;omega) (by have:(n+1) * by_≤900001 * 64:=Nat.mul_le_mul (by omega) hf.2;omega) hbase
 obtain ⟨g',cap',rfl,hb⟩:=owns_slice h2
 refine ⟨g',cap',w',hr,h2,h3,?_,hb⟩
 rcases h5 with h5 | h5
 ·left;rw [← h5];rfl
 ·right;simpa [Value.ownBlock] using h5
theorem elInt:ElT 22 3 1 8:=⟨Tryz.underlying22,⟨_,.int .i64 0,intInfo,by kernel_rfl,rfl,by kernel_rfl,by kernel_rfl⟩,by decide,by decide⟩
theorem elBool:ElT 23 4 1 1:=⟨Tryz.underlying23,⟨_,.bool false,boolInfo,by kernel_rfl,rfl,by kernel_rfl,by kernel_rfl⟩,by decide,by decide⟩
theorem stepInfo:Tryz.prog.info? 88=some Tryz.t88:=by kernel_rfl
theorem elStep:ElT 24 88 3 24:=⟨Tryz.underlying24,⟨_,.agg #[.int .i64 0,.int .i64 0,.int .i64 0],stepInfo,by kernel_rfl,rfl,by kernel_rfl,by kernel_rfl⟩,by decide,by decide⟩
theorem rows_apart {w:World}{base base' e e' sz sz' n n':Nat}{v v':Value}{xs xs':List Value} (h:w.ownsRow base e sz v n xs) (h':w.ownsRow base' e' sz' v' n' xs') (hne:e ≠ e') {r:Nat} (hr:v.ownBlock=some r) (hr':v'.ownBlock=some r):False:=by
 rcases h.2 with ⟨rfl,_⟩ | ⟨g,cap,cur,rfl,_,hg,_⟩
 ·cases hr
 ·rcases h'.2 with ⟨rfl,_⟩ | ⟨g',cap',cur',rfl,_,hg',_⟩
  ·cases hr'
  ·have e1:g=r:=by simpa [Value.ownBlock] using hr
   have e2:g'=r:=by simpa [Value.ownBlock] using hr'
   subst e1
   subst e2
   rw [hg] at hg'
   cases hg'
   exact hne rfl
theorem owns_cells {w:World}{base:Nat}{e:TypeId}{size:Nat}{v:Value}{n:Nat}{xs:List Value} (h:w.ownsRow base e size v n xs):∀ g,v.ownBlock=some g→∃ c fz,w.heap[g]?=some (.cells c e fz):=by
 intro g hg
 rcases h.2 with ⟨rfl,_⟩ | ⟨g',cap,cur,rfl,_,hc,_⟩
 ·cases hg
 ·have:g'=g:=by simpa [Value.ownBlock] using hg
  subst this
  exact ⟨_,_,hc⟩
theorem wpList_append_one (w:World) {ops:Array Oper}{rest:List Oper}{o:Oper}{a:Act}{Q:Exit→Act→World→Prop} (hgd:o.guard=none) (s x:Operand) (t e sz by_:Nat)
  (ho:o.op=.call { callee:=.builtin .append,args:=#[s,x],argTypes:=#[t,t] }) (hT:ElT t e sz by_) (base n:Nat) (v:Value) (xs:List Value) (hs:a.eval s=v)
  (hown:w.ownsRow base e sz v n xs) (B c:Nat) (news:List Value) (hx:a.eval x=.slice (some ⟨B,0,none⟩) 1 c) (hnl:news.length=sz) (hc:∀ j u,news[j]?=some u→w.cell? ⟨B,j,none⟩=some u) (h1:∀ u ∈ news,u.oneCell'=true) (hn:n≤900000) (hbase:base≤w.heap.size)
  (h:∀ g' cap' w',w'.ownsRow base e sz (.slice (some ⟨g',0,none⟩) (n+1) cap') (n+1) (xs ++ news)→w.grownBy w' v.ownBlock→(v.ownBlock=some g' ∨ g'=w.heap.size)→base≤g'→wpList Tryz.prog ops Q rest (a.put o.dst (.slice (some ⟨g',0,none⟩) (n+1) cap')) w'):wpList Tryz.prog ops Q (o :: rest) a w:=by
 obtain ⟨g',cap',w',hr,h2,h3,h4,h5⟩:=run_append_one w o.type t e base n sz by_ hT v xs hown B c news hnl hc h1 hn hbase
 refine wpList_plain hgd fun K hK=>?_
 unfold Oper.wp execOp
 simp only [ho,resolve,invoke,builtin,Sem.run_bind,Sem.run_pure,Result.andThen_ok,List.map_toArray,List.map_cons,List.map_nil,hs,hx,hr]
 exact hK _ _ (h g' cap' w' h2 h3 h4 h5)
theorem run_append_big (w:World) (ty t e base n sz by_:Nat) (hT:ElT t e sz by_) (v:Value) (xs:List Value) (hown:w.ownsRow base e sz v n xs) (B c:Nat) (news:List Value) (hnl:news.length=sz) (hc:∀ j u,news[j]?=some u→w.cell? ⟨B,j,none⟩=some u) (h1:∀ u ∈ news,u.oneCell'=true) (hn:n≤1000000000) (hbase:base≤w.heap.size) :
  ∃ g' cap' w',(Builtin.append_ #[t,t] ty #[v,.slice (some ⟨B,0,none⟩) 1 c]).run Tryz.prog w=.ok (.slice (some ⟨g',0,none⟩) (n+1) cap') w'∧w'.ownsRow base e sz (.slice (some ⟨g',0,none⟩) (n+1) cap') (n+1) (xs ++ news)∧w.grownBy w' v.ownBlock∧(v.ownBlock=some g' ∨ g'=w.heap.size)∧base≤g':=by
 obtain ⟨i,z,hi,hz,hzs,his,hib⟩:=hT.info
 have hp:=hT.pos
 have hf:=hT.few
 obtain ⟨v',w',hr,h2,h3,_,h5⟩:=run_append_own_at (P:=Tryz.prog) w base t ty e i z sz by_ hT.under hi hz his hib hzs hp v n xs hown ⟨B,0,none⟩ 1 c news (by omega) (fun j u hu=>by rw [add_none,Nat.zero_add];exact hc j u hu) h1 (by unfold maxLen;omega) (by have:(n+1) * by_≤1000000001 * 64:=Nat.mul_le_mul (by omega) hf.2;omega) hbase
 obtain ⟨g',cap',rfl,hb⟩:=owns_slice h2
 refine ⟨g',cap',w',hr,h2,h3,?_,hb⟩
 rcases h5 with h5 | h5
 ·left;rw [← h5];rfl
 ·right;simpa [Value.ownBlock] using h5
end Go.Proofs.YtpiacnnifdjlkabGreatDoor
