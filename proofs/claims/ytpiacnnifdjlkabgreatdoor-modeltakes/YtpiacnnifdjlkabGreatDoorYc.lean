import Derived.Test.YtpiacnnifdjlkabGreatDoorRa
import Derived.Test.YtpiacnnifdjlkabGreatDoorBe
import Derived.Test.YtpiacnnifdjlkabGreatDoorCt
import Derived.Deep.LoopGhost
import Derived.Shelf.Abstract
import Derived.Deep.DeepFit
set_option maxRecDepth 100000
set_option maxHeartbeats 8000000
namespace Go.Proofs.YtpiacnnifdjlkabGreatDoor
section
variable {P:Program}{ops:Array Oper}{Q:Exit→Act→World→Prop}{W:World→Prop}{R:Nat→Value→World→Prop}{a0:Act}{i:Nat}{o:Oper}
theorem eval_tmp (a:Act) (d:Nat):a.eval (.tmp d)=a.tmps[d]?.getD undef:=by simp [Act.eval]
theorem free_val {a:Act} (he:∀ t,free ops i t=true→a.eval (.tmp t)=a0.eval (.tmp t)) (t:Nat) (h:free ops i t=true):a.tmps[t]?.getD undef=a0.tmps[t]?.getD undef:=by
 rw [← eval_tmp,← eval_tmp]
 exact he t h
theorem stepOk_val (h:∀ (a:Act) (w:World) (vs:Nat→Value),W w→(∀ t,free ops i t=true→a.eval (.tmp t)=a0.eval (.tmp t)) →
   (∀ j,dep o j=true→R j (vs j) w∧∀ d,dstAt ops j=some d→a.eval (.tmp d)=vs j)→∃ v,(execOp a.eval o).run P w=.ok (.value v) w∧R i v w):StepOk P ops Q W R a0 i o:=by
 intro a w vs hW he hd
 obtain ⟨v,hr,hR⟩:=h a w vs hW he hd
 unfold Oper.wp
 rw [hr]
 exact ⟨v,rfl,hW,hR,fun _ _ h=>h⟩
theorem stepOk_call (h:∀ (a:Act) (w:World) (vs:Nat→Value),W w→(∀ t,free ops i t=true→a.eval (.tmp t)=a0.eval (.tmp t)) →
   (∀ j,dep o j=true→R j (vs j) w∧∀ d,dstAt ops j=some d→a.eval (.tmp d)=vs j) →
   ∃ f args,(execOp a.eval o).run P w=.ok (.enter f args) w∧Calls P f args w fun e w'=>∃ v,e=.returned v∧W w'∧R i v w'∧∀ j x,R j x w→R j x w'):StepOk P ops Q W R a0 i o:=by
 intro a w vs hW he hd
 obtain ⟨f,args,hr,hc⟩:=h a w vs hW he hd
 unfold Oper.wp
 rw [hr,Oper.upon_enter]
 exact hc.mono fun e w' ⟨v,he,h1,h2,h3⟩=>by subst he;exact ⟨v,rfl,h1,h2,h3⟩
end
end Go.Proofs.YtpiacnnifdjlkabGreatDoor
namespace Go.Proofs.YtpiacnnifdjlkabGreatDoor
open Go.RowKit Go.Sort
def dstList (ops:Array Oper):List Nat→List (Nat × Tmp)
 | []=>[]
 | i :: l=>match dstAt ops i with
  | some d=>(i,d) :: dstList ops l
  | none=>dstList ops l
def putPairs (vs:Nat→Value):List (Nat × Tmp)→Array Value→Array Value
 | [],t=>t
 | (i,d) :: l,t=>putPairs vs l (t.setIfInBounds d (vs i))
theorem putAll_pairs (ops:Array Oper) (vs:Nat→Value):∀ (l:List Nat) (t:Array Value),putAll ops vs l t=putPairs vs (dstList ops l) t
 | [],_=>rfl
 | i :: l,t=>by
  rw [putAll,dstList,putAll_pairs ops vs l]
  cases dstAt ops i <;> rfl
theorem wp_region_told {P:Program}{ops:Array Oper}{Q:Exit→Act→World→Prop}{id:Nat}{a0:Act}{w:World} (ds:List (Nat × Tmp)) (W:World→Prop) (R:Nat→Value→World→Prop) (hds:dstList ops (List.range ops.size)=ds) (hm:P.follows .mixedOrders=true) (h:orderly ops a0.tmps.size=true)
  (h0:W { w with drawn:=w.drawn+1 }) (hstep:∀ i o,ops[i]?=some o→StepOk P ops Q W R a0 i o)
  (hend:∀ (vs:Nat→Value) (w:World),W w→(∀ i,i < ops.size→R i (vs i) w)→Q .normal { a0 with tmps:=putPairs vs ds a0.tmps } w):(Code.region id ops true).wp P Q a0 w:=
 wp_region_amid W R hm h h0 hstep (fun vs w hW hR=>by rw [putAll_pairs,hds];exact hend vs w hW hR)
theorem cell_kept {w w':World}{b o:Nat}{v:Value} (h:w.cell? ⟨b,o,none⟩=some v) (hb:Below w.heap.size w w'):w'.cell? ⟨b,o,none⟩=some v:=(hb.cell (p:=⟨b,o,none⟩) (World.block_lt_of_cell? w _ h)).trans h
end Go.Proofs.YtpiacnnifdjlkabGreatDoor
namespace Go.Proofs.YtpiacnnifdjlkabGreatDoor
def hung (ops:Array Oper):Bool:=(List.range (ops.size - 1)).all fun i=>(List.range ops.size).any fun k=>match ops[k]? with
 | some o=>dep o i
 | none=>false
section
variable {P:Program}{ops:Array Oper}{Q:Exit→Act→World→Prop}{W:World→Prop}{V:Bool→World→Prop}{R:Nat→Value→World→Prop}{a0:Act}
theorem dep_out {o:Oper}{i:Nat} (h:dep o i=true):∃ e ∈ o.after.toList,Region.binds .any e=true∧e.on=i:=by
 obtain ⟨e,he,hbe⟩:=List.any_eq_true.1 h
 rw [Bool.and_eq_true] at hbe
 exact ⟨e,he,hbe.1,by simpa using hbe.2⟩
theorem hung_all (h:orderly ops a0.tmps.size=true) (hh:hung ops=true) {L:Nat}{oL:Oper} (hsz:ops.size=L+1) (hoL:ops[L]?=some oL) {listed:Array Bool}{a:Act}{w:World} (hA:Amid ops W R a0 listed a w)
  (hr:∀ e ∈ oL.after.toList,Region.binds .any e=true→listed[e.on]?=some true):∀ d i,L - i≤d→i < L→listed[i]?=some true:=by
 intro d
 induction d with
 | zero=>intro i h1 h2;omega
 | succ d ih =>
  intro i h1 h2
  have:=List.all_eq_true.1 hh i (List.mem_range.2 (by omega))
  obtain ⟨k,hk,hd⟩:=List.any_eq_true.1 this
  have hk:=List.mem_range.1 hk
  have ho:ops[k]?=some ops[k]:=Array.getElem?_eq_getElem hk
  rw [ho] at hd
  obtain ⟨e,he,hb,rfl⟩:=dep_out hd
  have hlt:=(orderly_at h ho).2.1 e he hb
  by_cases hkL:k=L
  ·subst hkL
   rw [ho] at hoL
   obtain rfl:=Option.some.inj hoL
   exact hr e he hb
  ·exact hA.closed k _ ho (ih k (by omega) (by omega)) e he hb
theorem last_end (h:orderly ops a0.tmps.size=true) {L:Nat} (hsz:ops.size=L+1) {listed:Array Bool}{a:Act}{w:World} (hA:Amid ops W R a0 listed a w) (hnL:listed[L]?=some false) (hall:∀ i,i < L→listed[i]?=some true) :
  ∃ vs:Nat→Value,(∀ i,i < L→R i (vs i) w)∧a={ a0 with tmps:=putAll ops vs (List.range L) a0.tmps }:=by
 have hex:∀ i,∃ v,i < L→R i v w∧∀ d,dstAt ops i=some d→a.tmps[d]?=some v:=fun i=>by
  by_cases hi:i < L
  ·obtain ⟨v,hv⟩:=hA.done i (hall i hi)
   exact ⟨v,fun _=>hv⟩
  ·exact ⟨undef,fun h=>absurd h hi⟩
 obtain ⟨vs,hvs⟩:=Classical.axiomOfChoice hex
 refine ⟨vs,fun i hi=>(hvs i hi).1,?_⟩
 obtain ⟨t,d⟩:=a
 have hd:=hA.defers
 dsimp only at hd
 subst hd
 congr 1
 apply Array.ext_getElem?
 intro k
 by_cases hk:∃ i,i < L∧dstAt ops i=some k
 ·obtain ⟨i,hi,hd⟩:=hk
  have ho:ops[i]?=some ops[i]:=Array.getElem?_eq_getElem (by omega)
  have hd':ops[i].dst=some k:=by
   unfold dstAt at hd
   rw [ho] at hd
   exact hd
  obtain ⟨hlt,hu⟩:=(orderly_at h ho).2.2 k hd'
  rw [putAll_own ops vs k i hd _ _ hlt (List.mem_range.2 hi) (fun j _ hj=>hu j hj)]
  exact (hvs i hi).2 k hd
 ·rw [putAll_other ops vs k _ _ (fun i hi hd=>hk ⟨i,List.mem_range.1 hi,hd⟩)]
  refine hA.rest k fun i hi hd=>hk ⟨i,?_,hd⟩
  have h1:=(Array.getElem?_eq_some_iff.1 hi).1
  have h2:=hA.size
  have h3:i ≠ L:=fun e=>by rw [e,hnL] at hi;cases hi
  omega
def StepX (P:Program) (ops:Array Oper) (Q:Exit→Act→World→Prop) (V:Bool→World→Prop) (R:Nat→Value→World→Prop) (a0:Act) (i:Nat) (o:Oper):Prop:=
 ∀ (a:Act) (w:World) (vs:Nat→Value),V false w→(∀ t,free ops i t=true→a.eval (.tmp t)=a0.eval (.tmp t)) →
  (∀ j,dep o j=true→R j (vs j) w∧∀ d,dstAt ops j=some d→a.eval (.tmp d)=vs j) →
  o.wp P a w (fun a' w'=>∃ v,a'=a.put o.dst v∧V true w'∧R i v w'∧∀ j x,j ≠ i→R j x w→R j x w') Q
theorem wpAny_last (h:orderly ops a0.tmps.size=true) (hh:hung ops=true) {L:Nat}{oL:Oper} (hsz:ops.size=L+1) (hoL:ops[L]?=some oL) (X:Nat) (hXL:X < L) (hstep:∀ i o,i < L→i ≠ X→ops[i]?=some o→∀ b,StepOk P ops Q (V b) R a0 i o) (hX:∀ o,ops[X]?=some o→StepX P ops Q V R a0 X o)
  (hend:∀ (vs:Nat→Value) (w:World),V true w→(∀ i,i < L→R i (vs i) w)→oL.wp P { a0 with tmps:=putAll ops vs (List.range L) a0.tmps } w (fun a' w'=>Q .normal a' w') Q) :
  ∀ (fuel:Nat) (listed:Array Bool) (a:Act) (w:World),listed.toList.count false≤fuel→Amid ops (fun _=>True) R a0 listed a w→listed[L]?=some false→(∃ b,listed[X]?=some b∧V b w)→wpAny P .any ops Q fuel listed a w:=by
 intro fuel
 induction fuel with
 | zero =>
  intro listed a w hc hA hnL hV
  exfalso
  have hn:false ∉ listed.toList:=List.count_eq_zero.1 (by omega)
  obtain ⟨hl,he⟩:=Array.getElem?_eq_some_iff.1 hnL
  exact hn (by rw [← he];simp)
 | succ fuel ih =>
  intro listed a w hc hA hnL hV
  refine ⟨fun hr=>(by have:=amid_listed h hA.size hr L (by omega);rw [hnL] at this;cases this),fun i hi=>?_⟩
  unfold Region.ready at hi
  obtain ⟨hi1,hi2⟩:=List.mem_filter.1 hi
  have hio:i < ops.size:=List.mem_range.1 hi1
  have hil:i < listed.size:=by rw [hA.size];exact hio
  have ho:ops[i]?=some ops[i]:=Array.getElem?_eq_getElem hio
  obtain ⟨hg,hback,hdst⟩:=orderly_at h ho
  simp only [Array.getD_eq_getD_getElem?,Array.getElem?_eq_getElem hil,ho,Option.map_some,Option.getD_some,Bool.and_eq_true,Bool.not_eq_true'] at hi2
  obtain ⟨hf,hdeps⟩:=hi2
  have hw:Region.wanted ops[i] (yielded ops a.tmps)=true:=by simp [Region.wanted,hg]
  unfold wpOp
  rw [ho]
  simp only [hw,if_true]
  refine Or.inl ?_
  by_cases hiL:i=L
  ·have e1:ops[i]=oL:=by
    have h1:ops[i]?=some oL:=by rw [hiL];exact hoL
    rw [ho] at h1
    exact Option.some.inj h1
   have hr:∀ e ∈ oL.after.toList,Region.binds .any e=true→listed[e.on]?=some true:=fun e he hb=>by
    rw [← e1] at he
    have hlt:=hback e he hb
    have hd:=Array.all_eq_true_iff_forall_mem.1 hdeps e (by simpa using he)
    rw [hb] at hd
    have hee:e.on < listed.size:=by omega
    rw [Array.getElem?_eq_getElem hee] at hd ⊢
    simpa using hd
   have hall:∀ i,i < L→listed[i]?=some true:=fun i hi=>hung_all h hh hsz hoL hA hr L i (by omega) hi
   obtain ⟨vs,hv,rfl⟩:=last_end h hsz hA hnL hall
   rw [e1]
   refine Oper.wp_mono ?_ (hend vs w (by obtain ⟨b,hb,hV⟩:=hV;rw [hall X hXL] at hb;rw [Option.some.inj hb];exact hV) hv)
   intro a' w' hq
   have hre:Region.ready .any ops (listed.setIfInBounds i true)=[]:=by
    unfold Region.ready
    refine List.filter_eq_nil_iff.2 fun k hk=>?_
    have hk:=List.mem_range.1 hk
    have:(listed.setIfInBounds i true)[k]?=some true:=by
     by_cases e:k=i
     ·rw [e,Array.getElem?_setIfInBounds,if_pos rfl,if_pos hil]
     ·rw [Array.getElem?_setIfInBounds,if_neg (fun e'=>e e'.symm)]
      exact hall k (by omega)
    simp [Array.getD_eq_getD_getElem?,this]
   cases fuel with
   | zero=>exact ⟨hre,hq⟩
   | succ fuel=>exact ⟨fun _=>hq,fun k hk=>by rw [hre] at hk;cases hk⟩
  have hex:∀ j,∃ v,listed[j]?=some true→R j v w∧∀ d,dstAt ops j=some d→a.tmps[d]?=some v:=fun j=>by
   by_cases hj:listed[j]?=some true
   ·obtain ⟨v,hv⟩:=hA.done j hj
    exact ⟨v,fun _=>hv⟩
   ·exact ⟨undef,fun h=>absurd h hj⟩
  obtain ⟨vs,hvs⟩:=Classical.axiomOfChoice hex
  have hmineX:(listed.setIfInBounds i true)[i]?=some true:=by rw [Array.getElem?_setIfInBounds,if_pos rfl,if_pos hil]
  have hgo:(∀ t,free ops i t=true→a.eval (.tmp t)=a0.eval (.tmp t))→(∀ j,dep ops[i] j=true→R j (vs j) w∧∀ d,dstAt ops j=some d→a.eval (.tmp d)=vs j) →
    ops[i].wp P a w (fun a' w'=>∃ v,a'=a.put ops[i].dst v∧(∃ b,(listed.setIfInBounds i true)[X]?=some b∧V b w')∧R i v w'∧∀ j x,j ≠ i→R j x w→R j x w') Q:=by
   obtain ⟨b,hb,hVb⟩:=hV
   intro k1 k2
   by_cases hiX:i=X
   ·have:b=false:=by
     rw [← hiX,Array.getElem?_eq_getElem hil,hf] at hb
     exact (Option.some.inj hb).symm
    rw [this] at hVb
    refine Oper.wp_mono ?_ (hX ops[i] (by rw [← hiX];exact ho) a w vs hVb (by rw [← hiX];exact k1) k2)
    rintro a' w' ⟨v,h1,h2,h3,h4⟩
    exact ⟨v,h1,⟨true,by rw [← hiX];exact hmineX,h2⟩,by rw [hiX];exact h3,by rw [hiX];exact h4⟩
   ·refine Oper.wp_mono ?_ (hstep i _ (by omega) hiX ho b a w vs hVb k1 k2)
    rintro a' w' ⟨v,h1,h2,h3,h4⟩
    exact ⟨v,h1,⟨b,by rw [Array.getElem?_setIfInBounds,if_neg hiX];exact hb,h2⟩,h3,fun j x _ h=>h4 j x h⟩
  refine Oper.wp_mono ?_ (hgo ?_ ?_)
  ·rintro a' w' ⟨v,rfl,hW',hR',hst⟩
   refine ih _ _ _ ?_ ?_ (by rw [Array.getElem?_setIfInBounds,if_neg hiL];exact hnL) hW'
   ·rw [Array.toList_setIfInBounds]
    have:=List.count_set (a:=true) (b:=false) (l:=listed.toList) (i:=i) (by simpa using hil)
    rw [this]
    have e:(listed.toList[i]'(by simpa using hil))=false:=by simpa using hf
    rw [e]
    have hp:0 < listed.toList.count false:=List.count_pos_iff.2 (by rw [← e];simp)
    rw [if_pos (by rfl),if_neg (by decide)]
    omega
   ·have hin:∀ j,(listed.setIfInBounds i true)[j]?=some true→j=i ∨ (j ≠ i∧listed[j]?=some true):=fun j hj=>by
     by_cases e:j=i
     ·exact Or.inl e
     ·rw [Array.getElem?_setIfInBounds,if_neg (fun e'=>e e'.symm)] at hj
      exact Or.inr ⟨e,hj⟩
    have hmine:(listed.setIfInBounds i true)[i]?=some true:=by rw [Array.getElem?_setIfInBounds,if_pos rfl,if_pos hil]
    have hdi:dstAt ops i=ops[i].dst:=by unfold dstAt;rw [ho];rfl
    refine ⟨by simpa using hA.size,?_,?_,trivial,fun t ht=>?_,fun j hj=>?_,fun j oj hoj hj e he hbe=>?_⟩
    ·cases hd:ops[i].dst <;> simp [Act.put,hA.tsize]
    ·cases hd:ops[i].dst <;> simp [Act.put,hA.defers]
    ·have h1:=ht i hmine
     have h2:=hA.rest t fun j hj=>ht j (by
      by_cases e:j=i
      ·rw [e];exact hmine
      ·rw [Array.getElem?_setIfInBounds,if_neg (fun e'=>e e'.symm)];exact hj)
     cases hd:ops[i].dst with
     | none=>exact h2
     | some d =>
      have hne:d ≠ t:=fun e=>h1 (by rw [hdi,hd,e])
      simp only [Act.put]
      rw [Array.getElem?_setIfInBounds,if_neg hne]
      exact h2
    ·rcases hin j hj with rfl | ⟨hne,hj'⟩
     ·refine ⟨v,hR',fun d hd=>?_⟩
      rw [hdi] at hd
      have:=(hdst d hd).1
      simp only [Act.put,hd]
      rw [Array.getElem?_setIfInBounds,if_pos rfl,if_pos (by rw [hA.tsize];exact this)]
     ·obtain ⟨u,hu1,hu2⟩:=hA.done j hj'
      refine ⟨u,hst j u hne hu1,fun d hd=>?_⟩
      cases hdd:ops[i].dst with
      | none=>exact hu2 d hd
      | some d' =>
       have hne':d' ≠ d:=fun e=>hne ((hdst d' hdd).2 j (by rw [e];exact hd))
       simp only [Act.put]
       rw [Array.getElem?_setIfInBounds,if_neg hne']
       exact hu2 d hd
    ·have hel:listed[e.on]?=some true:=by
      rcases hin j hj with rfl | ⟨hne,hj'⟩
      ·rw [ho] at hoj
       injection hoj with hoj
       subst hoj
       have hlt:=hback e he hbe
       have hd:=Array.all_eq_true_iff_forall_mem.1 hdeps e (by simpa using he)
       rw [hbe] at hd
       have hee:e.on < listed.size:=by omega
       rw [Array.getElem?_eq_getElem hee] at hd ⊢
       simpa using hd
      ·exact hA.closed j oj hoj hj' e he hbe
     by_cases hei:e.on=i
     ·rw [hei];exact hmine
     ·rw [Array.getElem?_setIfInBounds,if_neg (fun e'=>hei e'.symm)];exact hel
  ·intro t ht
   have:=hA.rest t fun j hj hdj=>by
    unfold dstAt at hdj
    cases hoj:ops[j]? with
    | none=>rw [hoj] at hdj;cases hdj
    | some oj =>
     rw [hoj] at hdj
     obtain ⟨e,he,hbe⟩:=List.any_eq_true.1 (free_out ht hoj hdj)
     rw [Bool.and_eq_true] at hbe
     have hli:=hA.closed j oj hoj hj e he hbe.1
     rw [show e.on=i by simpa using hbe.2,Array.getElem?_eq_getElem hil,hf] at hli
     cases hli
   simp only [Act.eval,Array.getD_eq_getD_getElem?,this]
  ·intro j hj
   obtain ⟨e,he,hbe⟩:=List.any_eq_true.1 hj
   rw [Bool.and_eq_true] at hbe
   obtain ⟨hb,hej⟩:=hbe
   obtain rfl:e.on=j:=by simpa using hej
   have hlt:=hback e he hb
   have hd:=Array.all_eq_true_iff_forall_mem.1 hdeps e (by simpa using he)
   rw [hb] at hd
   have hel:listed[e.on]?=some true:=by
    have hee:e.on < listed.size:=by omega
    rw [Array.getElem?_eq_getElem hee] at hd ⊢
    simpa using hd
   obtain ⟨h1,h2⟩:=hvs e.on hel
   refine ⟨h1,fun d hd=>?_⟩
   simp only [Act.eval,Array.getD_eq_getD_getElem?,h2 d hd,Option.getD_some]
theorem wp_region_last {id:Nat}{a0:Act}{w:World} (L X:Nat) (oL:Oper) (ds:List (Nat × Tmp)) (V:Bool→World→Prop) (R:Nat→Value→World→Prop) (hds:dstList ops (List.range L)=ds) (hm:P.follows .mixedOrders=true) (h:orderly ops a0.tmps.size=true) (hh:hung ops=true) (hsz:ops.size=L+1) (hoL:ops[L]?=some oL) (hXL:X < L)
  (h0:V false { w with drawn:=w.drawn+1 }) (hstep:∀ i o,i < L→i ≠ X→ops[i]?=some o→∀ b,StepOk P ops Q (V b) R a0 i o) (hX:∀ o,ops[X]?=some o→StepX P ops Q V R a0 X o)
  (hend:∀ (vs:Nat→Value) (w:World),V true w→(∀ i,i < L→R i (vs i) w)→oL.wp P { a0 with tmps:=putPairs vs ds a0.tmps } w (fun a' w'=>Q .normal a' w') Q):(Code.region id ops true).wp P Q a0 w:=by
 refine wp_region_any hm (wpAny_last h hh hsz hoL X hXL hstep hX (fun vs w hW hR=>by rw [putAll_pairs,hds];exact hend vs w hW hR) _ _ _ _ ?_ ⟨by simp,rfl,rfl,trivial,fun _ _=>rfl,fun i hi=>?_,fun i o _ hi=>?_⟩ ?_ ?_)
 ·exact Nat.le_trans (List.count_le_length) (by simp)
 ·simp [Array.getElem?_replicate] at hi
 ·simp [Array.getElem?_replicate] at hi
 ·simp [hsz]
 ·refine ⟨false,?_,h0⟩
  rw [Array.getElem?_replicate,if_pos (by omega)]
end
end Go.Proofs.YtpiacnnifdjlkabGreatDoor
namespace Go.Proofs.YtpiacnnifdjlkabGreatDoor
open Go.RowKit Go.Sort
theorem boolSl_nil (w:World):BoolSl w (.slice none 0 0) []:=⟨none,0,rfl,by simp [maxLen],Or.inl rfl,fun _=>rfl,by simp⟩
theorem stepSl_nil (w:World):StepSl w (.slice none 0 0) []:=⟨none,0,rfl,by simp [maxLen],Or.inl rfl,fun _=>rfl,by simp⟩
structure ElT (t e:TypeId) (sz by_:Nat):Prop where
 under:Tryz.prog.underlying t=some (.slice e)
 info:∃ i z,Tryz.prog.info? e=some i∧i.zero=some z∧z.cells.size=sz∧i.size=sz∧i.bytes=by_
 pos:0 < sz
 few:sz≤by_∧by_≤64
theorem run_append_one (w:World) (ty t e base n sz by_:Nat) (hT:ElT t e sz by_) (v:Value) (xs:List Value) (hown:w.ownsRow base e sz v n xs) (B c:Nat) (news:List Value) (hnl:news.length=sz) (hc:∀ j u,news[j]?=some u→w.cell? ⟨B,j,none⟩=some u) (h1:∀ u ∈ news,u.oneCell'=true) (hn:n≤900000) (hbase:base≤w.heap.size) :
  ∃ g' cap' w',(Builtin.append_ #[t,t] ty #[v,.slice (some ⟨B,0,none⟩) 1 c]).run Tryz.prog w=.ok (.slice (some ⟨g',0,none⟩) (n+1) cap') w'∧w'.ownsRow base e sz (.slice (some ⟨g',0,none⟩) (n+1) cap') (n+1) (xs ++ news)∧w.grownBy w' v.ownBlock∧(v.ownBlock=some g' ∨ g'=w.heap.size)∧base≤g':=by
 obtain ⟨i,z,hi,hz,hzs,his,hib⟩:=hT.info
 have hp:=hT.pos
 have hf:=hT.few
 obtain ⟨v',w',hr,h2,h3,_,h5⟩:=run_append_own_at (P:=Tryz.prog) w base t ty e i z sz by_ hT.under hi hz his hib hzs hp v n xs hown ⟨B,0,none⟩ 1 c news (by omega) (fun j u hu=>by rw [add_none,Nat.zero_add];exact hc j u hu) h1 (by unfold maxLen;omega) (by have:(n+1) * by_≤900001 * 64:=Nat.mul_le_mul (by omega) hf.2;omega) hbase
 obtain ⟨g',cap',rfl,hb⟩:=owns_slice h2
 refine ⟨g',cap',w',hr,h2,h3,?_,hb⟩
 rcases h5 with h5 | h5
 ·left;rw [← h5];rfl
 ·right;simpa [Value.ownBlock] using h5
theorem elInt:ElT 22 3 1 8:=⟨Tryz.underlying22,⟨_,.int .i64 0,intInfo,by kernel_rfl,rfl,by kernel_rfl,by kernel_rfl⟩,by decide,by decide⟩
theorem elBool:ElT 23 4 1 1:=⟨Tryz.underlying23,⟨_,.bool false,boolInfo,by kernel_rfl,rfl,by kernel_rfl,by kernel_rfl⟩,by decide,by decide⟩
theorem stepInfo:Tryz.prog.info? 88=some Tryz.t88:=by kernel_rfl
theorem elStep:ElT 24 88 3 24:=⟨Tryz.underlying24,⟨_,.agg #[.int .i64 0,.int .i64 0,.int .i64 0],stepInfo,by kernel_rfl,rfl,by kernel_rfl,by kernel_rfl⟩,by decide,by decide⟩
theorem rows_apart {w:World}{base base' e e' sz sz' n n':Nat}{v v':Value}{xs xs':List Value} (h:w.ownsRow base e sz v n xs) (h':w.ownsRow base' e' sz' v' n' xs') (hne:e ≠ e') {r:Nat} (hr:v.ownBlock=some r) (hr':v'.ownBlock=some r):False:=by
 rcases h.2 with ⟨rfl,_⟩ | ⟨g,cap,cur,rfl,_,hg,_⟩
 ·cases hr
 ·rcases h'.2 with ⟨rfl,_⟩ | ⟨g',cap',cur',rfl,_,hg',_⟩
  ·cases hr'
  ·have e1:g=r:=by simpa [Value.ownBlock] using hr
   have e2:g'=r:=by simpa [Value.ownBlock] using hr'
   subst e1
   subst e2
   rw [hg] at hg'
   cases hg'
   exact hne rfl
theorem owns_cells {w:World}{base:Nat}{e:TypeId}{size:Nat}{v:Value}{n:Nat}{xs:List Value} (h:w.ownsRow base e size v n xs):∀ g,v.ownBlock=some g→∃ c fz,w.heap[g]?=some (.cells c e fz):=by
 intro g hg
 rcases h.2 with ⟨rfl,_⟩ | ⟨g',cap,cur,rfl,_,hc,_⟩
 ·cases hg
 ·have:g'=g:=by simpa [Value.ownBlock] using hg
  subst this
  exact ⟨_,_,hc⟩
theorem wpList_append_one (w:World) {ops:Array Oper}{rest:List Oper}{o:Oper}{a:Act}{Q:Exit→Act→World→Prop} (hgd:o.guard=none) (s x:Operand) (t e sz by_:Nat)
  (ho:o.op=.call { callee:=.builtin .append,args:=#[s,x],argTypes:=#[t,t] }) (hT:ElT t e sz by_) (base n:Nat) (v:Value) (xs:List Value) (hs:a.eval s=v)
  (hown:w.ownsRow base e sz v n xs) (B c:Nat) (news:List Value) (hx:a.eval x=.slice (some ⟨B,0,none⟩) 1 c) (hnl:news.length=sz) (hc:∀ j u,news[j]?=some u→w.cell? ⟨B,j,none⟩=some u) (h1:∀ u ∈ news,u.oneCell'=true) (hn:n≤900000) (hbase:base≤w.heap.size)
  (h:∀ g' cap' w',w'.ownsRow base e sz (.slice (some ⟨g',0,none⟩) (n+1) cap') (n+1) (xs ++ news)→w.grownBy w' v.ownBlock→(v.ownBlock=some g' ∨ g'=w.heap.size)→base≤g'→wpList Tryz.prog ops Q rest (a.put o.dst (.slice (some ⟨g',0,none⟩) (n+1) cap')) w'):wpList Tryz.prog ops Q (o :: rest) a w:=by
 obtain ⟨g',cap',w',hr,h2,h3,h4,h5⟩:=run_append_one w o.type t e base n sz by_ hT v xs hown B c news hnl hc h1 hn hbase
 refine wpList_plain hgd fun K hK=>?_
 unfold Oper.wp execOp
 simp only [ho,resolve,invoke,builtin,Sem.run_bind,Sem.run_pure,Result.andThen_ok,List.map_toArray,List.map_cons,List.map_nil,hs,hx,hr]
 exact hK _ _ (h g' cap' w' h2 h3 h4 h5)
theorem run_append_big (w:World) (ty t e base n sz by_:Nat) (hT:ElT t e sz by_) (v:Value) (xs:List Value) (hown:w.ownsRow base e sz v n xs) (B c:Nat) (news:List Value) (hnl:news.length=sz) (hc:∀ j u,news[j]?=some u→w.cell? ⟨B,j,none⟩=some u) (h1:∀ u ∈ news,u.oneCell'=true) (hn:n≤1000000000) (hbase:base≤w.heap.size) :
  ∃ g' cap' w',(Builtin.append_ #[t,t] ty #[v,.slice (some ⟨B,0,none⟩) 1 c]).run Tryz.prog w=.ok (.slice (some ⟨g',0,none⟩) (n+1) cap') w'∧w'.ownsRow base e sz (.slice (some ⟨g',0,none⟩) (n+1) cap') (n+1) (xs ++ news)∧w.grownBy w' v.ownBlock∧(v.ownBlock=some g' ∨ g'=w.heap.size)∧base≤g':=by
 obtain ⟨i,z,hi,hz,hzs,his,hib⟩:=hT.info
 have hp:=hT.pos
 have hf:=hT.few
 obtain ⟨v',w',hr,h2,h3,_,h5⟩:=run_append_own_at (P:=Tryz.prog) w base t ty e i z sz by_ hT.under hi hz his hib hzs hp v n xs hown ⟨B,0,none⟩ 1 c news (by omega) (fun j u hu=>by rw [add_none,Nat.zero_add];exact hc j u hu) h1 (by unfold maxLen;omega) (by have:(n+1) * by_≤1000000001 * 64:=Nat.mul_le_mul (by omega) hf.2;omega) hbase
 obtain ⟨g',cap',rfl,hb⟩:=owns_slice h2
 refine ⟨g',cap',w',hr,h2,h3,?_,hb⟩
 rcases h5 with h5 | h5
 ·left;rw [← h5];rfl
 ·right;simpa [Value.ownBlock] using h5
structure KR (base:Nat) (r:Option Nat) (w0 w:World):Prop where
 below:Below base w0 w
 size:w0.heap.size≤w.heap.size
 keep:∀ b,b < w0.heap.size→some b ≠ r→w.heap[b]?=w0.heap[b]?
theorem KR.refl (base:Nat) (r:Option Nat) (w:World):KR base r w w:=⟨Below.refl _ _,Nat.le_refl _,fun _ _ _=>rfl⟩
theorem KR.grown {base:Nat}{r:Option Nat}{w0 w w':World} (h:KR base r w0 w) (hg:w.grownBy w' r) (hb:base≤w0.heap.size) (hr:∀ k,r=some k→base≤k):KR base r w0 w':=
 ⟨h.below.grown hg (Nat.le_trans hb h.size) hr,Nat.le_trans h.size hg.size,fun b h1 h2=>(hg.block b (Nat.lt_of_lt_of_le h1 h.size) h2).trans (h.keep b h1 h2)⟩
theorem KR.block {base:Nat}{r:Option Nat}{w0 w:World} (h:KR base r w0 w) {b:Nat}{o:Obj} (hc:w0.heap[b]?=some o) (hne:some b ≠ r):w.heap[b]?=some o:=
 (h.keep b (Array.getElem?_eq_some_iff.1 hc).1 hne).trans hc
theorem el_new (cs:Array Value) (t:TypeId):∀ (w:World) j u,cs.toList[j]?=some u→(w.alloc (.cells cs t)).cell? ⟨w.heap.size,j,none⟩=some u:=fun w j u hu=>by
 rw [cell_of_row _ _ j _ _ _ (one_new w (.cells cs t))]
 simpa using hu
section
variable {ops:Array Oper}{Q:Exit→Act→World→Prop}{R:Nat→Value→World→Prop}{a0:Act}{i:Nat}{o:Oper}
end
section
variable {ops:Array Oper}{Q:Exit→Act→World→Prop}{a0:Act}
theorem sizeInts:∀ w,(sizeOf 22).run Tryz.prog w=.ok 1 w:=by intro w;simp [go_sem]
theorem sizeBools:∀ w,(sizeOf 23).run Tryz.prog w=.ok 1 w:=by intro w;simp [go_sem]
theorem sizeSteps:∀ w,(sizeOf 24).run Tryz.prog w=.ok 1 w:=by intro w;simp [go_sem]
end
def stepCells (ss:List Stp):List Value:=ss.flatMap fun s=>[.int .i64 s.f,.int .i64 s.l,.int .i64 s.t]
theorem stepCells_len (ss:List Stp):(stepCells ss).length=ss.length * 3:=by
 induction ss with
 | nil=>rfl
 | cons s ss ih=>simp [stepCells] at ih ⊢;omega
theorem stepCells_snoc (ss:List Stp) (s:Stp):stepCells (ss ++ [s])=stepCells ss ++ [.int .i64 s.f,.int .i64 s.l,.int .i64 s.t]:=by simp [stepCells]
theorem stepCells_get (ss:List Stp):∀ i,i < ss.length→(stepCells ss)[i * 3]?=some (.int .i64 (ss.getD i stp0).f)∧(stepCells ss)[i * 3+1]?=some (.int .i64 (ss.getD i stp0).l)∧(stepCells ss)[i * 3+2]?=some (.int .i64 (ss.getD i stp0).t):=by
 induction ss with
 | nil=>intro i hi;simp at hi
 | cons s ss ih =>
  intro i hi
  have e:stepCells (s :: ss)=.int .i64 s.f :: .int .i64 s.l :: .int .i64 s.t :: stepCells ss:=by simp [stepCells]
  rw [e]
  cases i with
  | zero=>simp
  | succ i =>
   have:=ih i (by simpa using hi)
   rw [show (i+1) * 3=i * 3+1+1+1 by omega]
   simpa using this
theorem boolSl_of_owns {w:World}{base:Nat}{v:Value}{zs:List Bool}{n:Nat} (h:w.ownsRow base 4 1 v n (zs.map .bool)):BoolSl w v zs:=by
 obtain ⟨hl,h⟩:=h
 have hn:zs.length=n:=by simpa using hl
 rcases h with ⟨rfl,h0⟩ | ⟨g,cap,cur,rfl,hb,hg,h1,h2,hs,ht⟩
 ·obtain rfl:zs=[]:=List.eq_nil_of_length_eq_zero (by omega)
  exact boolSl_nil w
 ·subst hn
  refine ⟨_,cap,rfl,by omega,Or.inr ⟨g,0,rfl,fun i hi=>?_⟩,(fun e=>by cases e),h1⟩
  have hc:=cell_of_row w g (0+i) _ _ _ hg
  rw [hc,Nat.zero_add]
  have:cur.toList[i]?=some (.bool (zs.getD i false)):=by
   have h3:(cur.toList.take (zs.length * 1))[i]?=some (.bool (zs.getD i false)):=by rw [ht];simp [List.getD,hi]
   rw [List.getElem?_take] at h3
   split at h3
   ·exact h3
   ·cases h3
  simpa using this
theorem stepSl_of_owns {w:World}{base:Nat}{v:Value}{zs:List Stp}{n:Nat} (h:w.ownsRow base 88 3 v n (stepCells zs)):StepSl w v zs:=by
 obtain ⟨hl,h⟩:=h
 have hn:zs.length=n:=by rw [stepCells_len] at hl;omega
 rcases h with ⟨rfl,h0⟩ | ⟨g,cap,cur,rfl,hb,hg,h1,h2,hs,ht⟩
 ·obtain rfl:zs=[]:=List.eq_nil_of_length_eq_zero (by omega)
  exact stepSl_nil w
 ·subst hn
  have hc:∀ k u,(stepCells zs)[k]?=some u→w.cell? ⟨g,0+k,none⟩=some u:=fun k u hu=>by
   rw [cell_of_row w g (0+k) _ _ _ hg,Nat.zero_add]
   rw [← ht,List.getElem?_take] at hu
   split at hu
   ·simpa using hu
   ·cases hu
  refine ⟨_,cap,rfl,by omega,Or.inr ⟨g,0,rfl,fun i hi=>?_⟩,(fun e=>by cases e),h1⟩
  obtain ⟨k1,k2,k3⟩:=stepCells_get zs i hi
  exact ⟨hc _ _ k1,hc _ _ k2,hc _ _ k3⟩
structure RA (w:World) (base pb:Nat) (fv gv sv:Value) (A:Aut):Prop where
 box:w.heap[pb]?=some (.cells #[.int .i64 A.n,.int .i64 A.m,fv,gv,sv] 26)
 f:w.ownsRow base 3 1 fv A.first.length (A.first.map (.int .i64))
 g:w.ownsRow base 4 1 gv A.good.length (A.good.map .bool)
 s:w.ownsRow base 88 3 sv A.steps.length (stepCells A.steps)
 hb:base≤pb
theorem row_apart {w:World}{base e sz n pb:Nat}{v:Value}{xs:List Value}{c:Array Value}{t:TypeId} (h:w.ownsRow base e sz v n xs) (hp:w.heap[pb]?=some (.cells c t)) (hne:e ≠ t):∀ r,v.ownBlock=some r→r ≠ pb:=by
 intro r hr e1
 obtain ⟨c',fz,hc⟩:=owns_cells h r hr
 rw [e1,hp] at hc
 injection hc with hc
 injection hc with _ h2
 exact hne h2.symm
theorem box_set {w:World}{pb:Nat}{c:Array Value}{t:TypeId} (h:w.heap[pb]?=some (.cells c t)) (k:Nat) (v:Value):(w.setCell ⟨pb,k,none⟩ v).heap[pb]?=some (.cells (c.setIfInBounds k v) t):=by
 rw [setCell_eq_setRow w pb k c t _ v h]
 exact setRow_heap w pb c _ t _ h
theorem owns_set {w:World}{base e sz n pb:Nat}{v:Value}{xs:List Value}{c:Array Value}{t:TypeId} (h:w.ownsRow base e sz v n xs) (hp:w.heap[pb]?=some (.cells c t)) (hne:e ≠ t) (k:Nat) (u:Value):(w.setCell ⟨pb,k,none⟩ u).ownsRow base e sz v n xs:=
 owns_kept h fun r hr=>heap_setCell_other w _ _ r (row_apart h hp hne r hr)
theorem below_set {base:Nat}{w w':World} (h:Below base w w') {pb:Nat} (hb:base≤pb) (k:Nat) (u:Value):Below base w (w'.setCell ⟨pb,k,none⟩ u):=h.setCell hb u
theorem RA.below {w w':World}{base pb:Nat}{fv gv sv:Value}{A:Aut} (h:RA w base pb fv gv sv A) (hb:Below w.heap.size w w'):RA w' base pb fv gv sv A:=
 ⟨(hb.block pb (Array.getElem?_eq_some_iff.1 h.box).1).trans h.box,owns_below h.f hb,owns_below h.g hb,owns_below h.s hb,h.hb⟩
theorem RA.hb0 {w:World}{base pb:Nat}{fv gv sv:Value}{A:Aut} (h:RA w base pb fv gv sv A):base≤w.heap.size:=Nat.le_trans h.hb (Nat.le_of_lt (Array.getElem?_eq_some_iff.1 h.box).1)
theorem rows_far {w:World}{base base' e e' sz sz' n n':Nat}{v v':Value}{xs xs':List Value} (h:w.ownsRow base e sz v n xs) (h':w.ownsRow base' e' sz' v' n' xs') (hne:e ≠ e'):∀ r,v.ownBlock=some r→some r ≠ v'.ownBlock:=fun _ hr e=>rows_apart h h' hne hr e.symm
theorem KR.owns {base:Nat}{r:Option Nat}{w0 w:World} (h:KR base r w0 w) {base' e sz n:Nat}{v:Value}{xs:List Value} (ho:w0.ownsRow base' e sz v n xs) (hne:∀ k,v.ownBlock=some k→some k ≠ r):w.ownsRow base' e sz v n xs:=
 owns_kept ho fun k hk=>h.keep k (ho.lt k hk).2 (hne k hk)
theorem RA.apart {w:World}{base pb:Nat}{fv gv sv:Value}{A:Aut} (h:RA w base pb fv gv sv A):some pb ≠ fv.ownBlock∧some pb ≠ gv.ownBlock∧some pb ≠ sv.ownBlock:=
 ⟨fun e=>row_apart h.f h.box (by decide) pb e.symm rfl,fun e=>row_apart h.g h.box (by decide) pb e.symm rfl,fun e=>row_apart h.s h.box (by decide) pb e.symm rfl⟩
theorem RA.appFirst {w W:World}{base pb:Nat}{fv gv sv v':Value}{A:Aut}{z:Int} (h:RA w base pb fv gv sv A) (hk:KR base fv.ownBlock w W) (hn:W.ownsRow base 3 1 v' (A.first.length+1) (A.first.map (.int .i64) ++ [.int .i64 z])):RA (W.setCell ⟨pb,2,none⟩ v') base pb v' gv sv { A with first:=A.first ++ [z] }:=by
 have hb:=hk.block h.box h.apart.1
 refine ⟨box_set hb 2 v',?_,owns_set (hk.owns h.g (rows_far h.g h.f (by decide))) hb (by decide) _ _,owns_set (hk.owns h.s (rows_far h.s h.f (by decide))) hb (by decide) _ _,h.hb⟩
 have:=owns_set hn hb (by decide) 2 v'
 simpa using this
theorem RA.appGood {w W:World}{base pb:Nat}{fv gv sv v':Value}{A:Aut}{z:Bool} (h:RA w base pb fv gv sv A) (hk:KR base gv.ownBlock w W) (hn:W.ownsRow base 4 1 v' (A.good.length+1) (A.good.map .bool ++ [.bool z])):RA (W.setCell ⟨pb,3,none⟩ v') base pb fv v' sv { A with good:=A.good ++ [z] }:=by
 have hb:=hk.block h.box h.apart.2.1
 refine ⟨box_set hb 3 v',owns_set (hk.owns h.f (rows_far h.f h.g (by decide))) hb (by decide) _ _,?_,owns_set (hk.owns h.s (rows_far h.s h.g (by decide))) hb (by decide) _ _,h.hb⟩
 have:=owns_set hn hb (by decide) 3 v'
 simpa using this
theorem RA.appStep {w W:World}{base pb:Nat}{fv gv sv v':Value}{A:Aut}{z:Stp} (h:RA w base pb fv gv sv A) (hk:KR base sv.ownBlock w W) (hn:W.ownsRow base 88 3 v' (A.steps.length+1) (stepCells A.steps ++ [.int .i64 z.f,.int .i64 z.l,.int .i64 z.t])):RA (W.setCell ⟨pb,4,none⟩ v') base pb fv gv v' { A with steps:=A.steps ++ [z] }:=by
 have hb:=hk.block h.box h.apart.2.2
 refine ⟨box_set hb 4 v',owns_set (hk.owns h.f (rows_far h.f h.s (by decide))) hb (by decide) _ _,owns_set (hk.owns h.g (rows_far h.g h.s (by decide))) hb (by decide) _ _,?_,h.hb⟩
 have:=owns_set hn hb (by decide) 4 v'
 simpa [stepCells_snoc] using this
end Go.Proofs.YtpiacnnifdjlkabGreatDoor
namespace Go.Proofs.YtpiacnnifdjlkabGreatDoor
open Go.RowKit
theorem retB {a b:Bool} (h:a=b):Ending.returned (.bool a)=.returned (.bool b):=by rw [h]
theorem aLab_any {w:World}{pb:Nat}{p:Int} (x:Int) (h0:0≤p) (h3:p≤3) (hc:w.cell? ⟨pb,0,none⟩=some (.int .i64 p)) :
  Calls Tryz.prog 126 #[.int .i64 x,.pointer (some ⟨pb,0,none⟩)] w fun e w'=>e=.returned (.bool (notLab p x))∧w'=w:=by
 have hp:p=0 ∨ p=1 ∨ p=2 ∨ p=3:=by omega
 by_cases hx:x < 0
 ·have e:notLab p x=true:=by simp [notLab,hx]
  rw [e]
  clear hp e
  go_enter Tryz.func126,Tryz.ntmps126
  go_wp2
  go_ret
  exact ⟨rfl,rfl⟩
 ·have hx0:0≤x:=by omega
  rcases hp with rfl | rfl | rfl | rfl
  all_goals
   go_enter Tryz.func126,Tryz.ntmps126
   go_wp2
   go_ret
   refine ⟨retB ?_,rfl⟩
   rw [Bool.eq_iff_iff]
   simp [notLab]
   omega
theorem aSt_any {w:World}{pb:Nat}{a:Option Addr}{n c:Nat} (x:Int) (hc:w.cell? ⟨pb,1,none⟩=some (.slice a n c)) :
  Calls Tryz.prog 127 #[.int .i64 x,.pointer (some ⟨pb,0,none⟩)] w fun e w'=>e=.returned (.bool (notSt n x))∧w'=w:=by
 by_cases hx:x < 0
 ·have e:notSt n x=true:=by simp [notSt,hx]
  rw [e]
  go_enter Tryz.func127,Tryz.ntmps127
  go_wp2
  go_ret
  exact ⟨rfl,rfl⟩
 ·by_cases hn:(n:Int)≤x
  ·have e:notSt n x=true:=by simp [notSt,hn]
   rw [e]
   go_enter Tryz.func127,Tryz.ntmps127
   go_wp2
   go_ret
   exact ⟨by simp,rfl⟩
  ·have e:notSt n x=false:=by simp [notSt];omega
   have hd:x < (n:Int):=by omega
   rw [e]
   go_enter Tryz.func127,Tryz.ntmps127
   go_wp2
   go_ret
   exact ⟨by simp;try omega,rfl⟩
theorem areLabels_any {w:World}{v:Value}{M:Mdl} (hM:MdV w v M) (h0:0≤M.props) (h3:M.props≤3) :
  Calls Tryz.prog 77 #[v] w fun e w'=>e=.returned (.bool (!(M.labels.any (notLab M.props))))∧Below w.heap.size w w':=by
 obtain ⟨lv,fv,sv,rfl,h1,h2,h4⟩:=hM
 have HL:=hide h1
 obtain ⟨a1,c1,rfl,-⟩:=h1
 obtain ⟨a2,c2,rfl,-⟩:=h2
 obtain ⟨a3,c3,rfl,-⟩:=h4
 have HP:=hide (And.intro h0 h3)
 generalize hp:M.props=p at *
 clear h0 h3 hp
 generalize M.first.length=l2 at *
 generalize M.steps.length=l3 at *
 generalize M.labels.length=l1 at *
 have hN:=one_new w (Obj.cells #[Value.int .i64 p,.slice a1 l1 c1,.slice a2 l2 c2,.slice a3 l3 c3] 59)
 have hb:=below_new w (Obj.cells #[Value.int .i64 p,.slice a1 l1 c1,.slice a2 l2 c2,.slice a3 l3 c3] 59)
 have HC:Hid (Calls Tryz.prog 93 #[.slice a1 l1 c1,.func (.func 126) #[] #[.pointer (some ⟨w.heap.size,0,none⟩)]] (w.alloc (Obj.cells #[Value.int .i64 p,.slice a1 l1 c1,.slice a2 l2 c2,.slice a3 l3 c3] 59)) fun e w'=>e=.returned (.bool (M.labels.any (notLab p)))∧Below (w.alloc (Obj.cells #[Value.int .i64 p,.slice a1 l1 c1,.slice a2 l2 c2,.slice a3 l3 c3] 59)).heap.size (w.alloc (Obj.cells #[Value.int .i64 p,.slice a1 l1 c1,.slice a2 l2 c2,.slice a3 l3 c3] 59)) w'):=hide
  (containsFunc_any 126 _ (notLab p) (HL.out.below hb) Tryz.call126 fun i _ w2 hw2 =>
   (aLab_any _ HP.out.1 HP.out.2 (cell_of_row _ _ 0 _ _ _ (belowRow hw2 hN))).mono fun e w' ⟨he,hw⟩=>⟨he,by rw [hw];exact Below.refl _ _⟩)
 have HB:=hide hb
 have hmf:∀ (fn:Fn) (first cap:Array Value) (w:World),(Instr.makeFunc fn first cap).run Tryz.prog w=.ok (.func fn first cap) w:=fun _ _ _ _=>rfl
 clear hN hb
 generalize M.labels.any (notLab p)=b at *
 go_enter Tryz.func77,Tryz.ntmps77
 go_wp2_with (fail)
 go_fit HC.out
 rintro e w1 ⟨rfl,hb1⟩
 have HB1:=hide (below_trans HB.out hb1)
 clear hb1
 go_wp2_with (fail)
 go_ret
 exact ⟨rfl,HB1.out⟩
theorem areStates_any {w:World}{v xv:Value}{M:Mdl}{xs:List Int} (hM:MdV w v M) (hx:IntSl w xv xs) :
  Calls Tryz.prog 78 #[v,xv] w fun e w'=>e=.returned (.bool (!(xs.any (notSt M.labels.length))))∧Below w.heap.size w w':=by
 obtain ⟨lv,fv,sv,rfl,h1,h2,h4⟩:=hM
 have HL:=hide hx
 obtain ⟨a1,c1,rfl,-⟩:=h1
 obtain ⟨a2,c2,rfl,-⟩:=h2
 obtain ⟨a3,c3,rfl,-⟩:=h4
 obtain ⟨a4,c4,rfl,-⟩:=hx
 generalize M.props=p at *
 generalize M.first.length=l2 at *
 generalize M.steps.length=l3 at *
 generalize M.labels.length=l1 at *
 generalize xs.length=l4 at *
 have hN:=one_new w (Obj.cells #[Value.int .i64 p,.slice a1 l1 c1,.slice a2 l2 c2,.slice a3 l3 c3] 59)
 have hb:=below_new w (Obj.cells #[Value.int .i64 p,.slice a1 l1 c1,.slice a2 l2 c2,.slice a3 l3 c3] 59)
 have HC:Hid (Calls Tryz.prog 93 #[.slice a4 l4 c4,.func (.func 127) #[] #[.pointer (some ⟨w.heap.size,0,none⟩)]] (w.alloc (Obj.cells #[Value.int .i64 p,.slice a1 l1 c1,.slice a2 l2 c2,.slice a3 l3 c3] 59)) fun e w'=>e=.returned (.bool (xs.any (notSt l1)))∧Below (w.alloc (Obj.cells #[Value.int .i64 p,.slice a1 l1 c1,.slice a2 l2 c2,.slice a3 l3 c3] 59)).heap.size (w.alloc (Obj.cells #[Value.int .i64 p,.slice a1 l1 c1,.slice a2 l2 c2,.slice a3 l3 c3] 59)) w'):=hide
  (containsFunc_any 127 _ (notSt l1) (HL.out.below hb) Tryz.call127 fun i _ w2 hw2 =>
   (aSt_any _ (cell_of_row _ _ 1 _ _ _ (belowRow hw2 hN))).mono fun e w' ⟨he,hw⟩=>⟨he,by rw [hw];exact Below.refl _ _⟩)
 have HB:=hide hb
 have hmf:∀ (fn:Fn) (first cap:Array Value) (w:World),(Instr.makeFunc fn first cap).run Tryz.prog w=.ok (.func fn first cap) w:=fun _ _ _ _=>rfl
 clear hN hb
 generalize xs.any (notSt l1)=b at *
 go_enter Tryz.func78,Tryz.ntmps78
 go_wp2_with (fail)
 go_fit HC.out
 rintro e w1 ⟨rfl,hb1⟩
 have HB1:=hide (below_trans HB.out hb1)
 clear hb1
 go_wp2_with (fail)
 go_ret
 exact ⟨rfl,HB1.out⟩
end Go.Proofs.YtpiacnnifdjlkabGreatDoor
