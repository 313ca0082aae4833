import Derived.Test.YtpiacnnifdjlkabGreatDoorEc
set_option maxRecDepth 100000
set_option maxHeartbeats 8000000
namespace Go.Proofs.YtpiacnnifdjlkabGreatDoor
theorem advL_le {ok:Nat→Bool}{j:Nat} (h:ok j=false):∀ (d t:Nat),t≤j→advL ok d t≤j
 | 0,t,ht=>ht
 | d+1,t,ht=>by
  unfold advL
  by_cases e:t=j
  ·rw [e,if_neg (by rw [h];simp)];exact Nat.le_refl _
  ·split
   ·exact advL_le h d (t+1) (by omega)
   ·exact ht
theorem advL_ge (ok:Nat→Bool):∀ (d t:Nat),t≤advL ok d t∧advL ok d t≤t+d
 | 0,t=>⟨Nat.le_refl _,Nat.le_refl _⟩
 | d+1,t=>by
  unfold advL
  split
  ·have:=advL_ge ok d (t+1);omega
  ·omega
theorem advL_gt {ok:Nat→Bool}{t d:Nat} (h:ok t=true) (hd:0 < d):t < advL ok d t:=by
 cases d with
 | zero=>omega
 | succ d =>
  unfold advL
  rw [if_pos h]
  have:=(advL_ge ok d (t+1)).1
  omega
theorem turnL_le (F:List Nd) {turn:Nat} (now:Nat) (h:turn≤(lastL F).length):turnL F turn now≤(lastL F).length:=by
 unfold turnL
 have:=(advL_ge (okAt F now) ((lastL F).length - (if turn=(lastL F).length then 0 else turn)) (if turn=(lastL F).length then 0 else turn)).2
 split at this <;> split <;> omega
def bitsOf (f:Nat→Bool):Nat→Nat
 | 0=>0
 | m+1=>if f m=true then addBit (bitsOf f m) m else bitsOf f m
theorem bitsOf_test (f:Nat→Bool) (i:Nat):∀ m,(bitsOf f m).testBit i=(decide (i < m) && f i)
 | 0=>by simp [bitsOf]
 | m+1=>by
  unfold bitsOf
  by_cases e:m=i
  ·subst e
   cases h:f m with
   | true=>rw [if_pos rfl,addBit_test];simp
   | false=>rw [if_neg (by simp),bitsOf_test f m m];simp [h]
  ·have:(i < m+1)=(i < m):=by simp;omega
   split
   ·rw [addBit_test,bitsOf_test f i m];simp [e,this]
   ·rw [bitsOf_test f i m];simp [this]
theorem nodeV_next {x:Nd}{c:Int}{va vb n1 n2:Bool} (h:6≤x.k∧x.k≤8→n1=n2):nodeV x c va vb n1=nodeV x c va vb n2:=by
 by_cases hk:6≤x.k∧x.k≤8
 ·rw [h hk]
 ·unfold nodeV
  simp only [show x.k ≠ 6 by omega,show x.k ≠ 7 by omega,show x.k ≠ 8 by omega,if_false]
theorem partN_lt {F:List Nd} (hF:Ahead_ F) {i:Nat} (hi:i < F.length):partN F i < F.length:=by
 unfold partN
 split
 ·rename_i h
  have:=(hF i hi).2.2.1 (by unfold kN at h;omega) (by unfold kN at h;omega)
  have:=(hF i hi).1
  unfold aN
  omega
 ·exact hi
theorem fits_on {F:List Nd}{s:Spo}{now:Nat} (hs:s.1=false) (h:fitsL F s now=true) {i:Nat} (hi:i < F.length) (hk:6≤kN F i∧kN F i≤8):s.2.1.testBit i=now.testBit (partN F i):=by
 unfold fitsL at h
 rw [if_neg (by rw [hs];simp),List.all_eq_true] at h
 have:=h i (List.mem_range.2 hi)
 unfold foreL at this
 rw [foreN_test,decide_eq_true hi,decide_eq_true hk] at this
 simpa using this
theorem takesG_tab {F:List Nd} (hF:Ahead_ F) (hn:0 < F.length) {u:Nat→Int} (hu:∀ t,0≤u t∧u t < 8) {v:Nat→Nat→Bool} (hl:Loc F u v) (hk:Kept7 F v) :
  TakesG [(true,0,0)] (goodT F) (afterT F) u ↔ v 0 (F.length - 1)=true:=by
 constructor
 ·rintro ⟨r,h0,hr,hg⟩
  have e0:r 0=(true,0,0):=by simpa using h0
  have hr':=fun t=>afterT_mem.1 (hr t)
  have hl':Loc F u (fun t i=>(nowL F (u t) (r (t+1)).2.1).testBit i):=by
   intro t i hi
   dsimp only
   rw [nowL_test hF (u t) _ hi]
   refine nodeV_next (fun hk6=>?_)
   have hf:=fits_on (hr' t).2.2.1 (hr' (t+1)).2.2.2.2.1 hi hk6
   rw [hf]
   unfold partN
   split <;> rfl
  have hk':Kept7 F (fun t i=>(nowL F (u t) (r (t+1)).2.1).testBit i):=by
   intro i hi h78 t
   dsimp only
   have hm:i ∈ lastL F:=(lastN_mem F i F.length).2 ⟨hi,h78⟩
   obtain ⟨j,hj,hji⟩:=List.mem_iff_getElem.1 hm
   have hjd:(lastL F).getD j 0=i:=by simp [List.getD,hj,hji]
   refine Classical.byContradiction fun hno=>?_
   have hbad:∀ s,t≤s→okAt F (nowL F (u s) (r (s+1)).2.1) j=false:=fun s hs=>by
    cases hb:okAt F (nowL F (u s) (r (s+1)).2.1) j with
    | false=>rfl
    | true =>
     refine absurd ⟨s,hs,?_⟩ hno
     unfold okAt at hb
     rw [hjd] at hb
     simpa using hb
   obtain ⟨k1,hk1,hg1⟩:=hg t
   have hg1:(r k1).2.2=(lastL F).length:=of_decide_eq_true hg1
   have hle:∀ d,(r (k1+1+d)).2.2≤j:=by
    intro d
    induction d with
    | zero =>
     rw [Nat.add_zero,(hr' k1).2.2.2.2.2]
     unfold turnL
     rw [if_pos hg1]
     exact advL_le (hbad k1 hk1) _ _ (Nat.zero_le _)
    | succ d ih =>
     rw [← Nat.add_assoc,(hr' (k1+1+d)).2.2.2.2.2]
     unfold turnL
     rw [if_neg (by omega)]
     exact advL_le (hbad _ (by omega)) _ _ ih
   obtain ⟨k2,hk2,hg2⟩:=hg (k1+1)
   have hg2:(r k2).2.2=(lastL F).length:=of_decide_eq_true hg2
   have:=hle (k2 - (k1+1))
   rw [show k1+1+(k2 - (k1+1))=k2 by omega] at this
   omega
  rw [loc_one hF hl hl' hk hk' (F.length - 1) (by omega) 0]
  have hf:=(hr' 0).2.2.2.2.1
  unfold fitsL at hf
  rw [e0,if_pos rfl] at hf
  exact hf
 ·intro hv
  let told:Nat→Nat:=fun t=>bitsOf (fun i=>(foreL F).testBit i && v t (partN F i)) F.length
  have htold:∀ t i,i < F.length→6≤kN F i∧kN F i≤8→(told t).testBit i=v t (partN F i):=fun t i hi hk6=>by
   show (bitsOf _ F.length).testBit i=_
   rw [bitsOf_test]
   unfold foreL
   rw [foreN_test,decide_eq_true hi,decide_eq_true hk6]
   rfl
  have hsub:∀ t,told t &&& foreL F=told t:=fun t=>by
   refine Nat.eq_of_testBit_eq fun i=>?_
   rw [Nat.testBit_and]
   show ((bitsOf _ F.length).testBit i && _)=(bitsOf _ F.length).testBit i
   rw [bitsOf_test]
   cases (foreL F).testBit i <;> simp
  have hnow:∀ t i,i < F.length→(nowL F (u t) (told (t+1))).testBit i=v t i:=by
   intro t i
   induction i using Nat.strongRecOn with
   | ind i ih =>
    intro hi
    rw [nowL_test hF (u t) _ hi,hl t i hi]
    obtain ⟨ha0,hb0,ha,hb⟩:=hF i hi
    have hkd:(F.getD i nd0).k=kN F i:=rfl
    have ia:3≤kN F i→kN F i≤8→(nowL F (u t) (told (t+1))).testBit (aN F i)=v t (aN F i):=fun h1 h2=>ih _ (by have:=ha h1 h2;unfold aN;omega) (by have:=ha h1 h2;unfold aN;omega)
    have ib:kN F i=4 ∨ kN F i=5 ∨ kN F i=7 ∨ kN F i=8→(nowL F (u t) (told (t+1))).testBit (bN F i)=v t (bN F i):=fun h1=>ih _ (by have:=hb h1;unfold bN;omega) (by have:=hb h1;unfold bN;omega)
    have hx:nodeV (F.getD i nd0) (u t) ((nowL F (u t) (told (t+1))).testBit (aN F i)) ((nowL F (u t) (told (t+1))).testBit (bN F i)) ((told (t+1)).testBit i)=nodeV (F.getD i nd0) (u t) ((nowL F (u t) (told (t+1))).testBit (aN F i)) ((nowL F (u t) (told (t+1))).testBit (bN F i)) (if kN F i=6 then v (t+1) (aN F i) else v (t+1) i):=by
     refine nodeV_next (fun hk6=>?_)
     rw [htold _ _ hi hk6]
     unfold partN
     split <;> rfl
    rw [hx]
    generalize (if kN F i=6 then v (t+1) (aN F i) else v (t+1) i)=nx
    unfold nodeV
    rw [hkd]
    by_cases h2:kN F i=2
    ·simp [h2]
    by_cases h3:kN F i=3
    ·simp [h3,ia (by omega) (by omega)]
    by_cases h4:kN F i=4
    ·simp [h4,ia (by omega) (by omega),ib (by omega)]
    by_cases h5:kN F i=5
    ·simp [h5,ia (by omega) (by omega),ib (by omega)]
    by_cases h6:kN F i=6
    ·simp [h6]
    by_cases h7:kN F i=7
    ·simp [h7,ia (by omega) (by omega),ib (by omega)]
    by_cases h8:kN F i=8
    ·simp [h8,ia (by omega) (by omega),ib (by omega)]
    simp [h2,h3,h4,h5,h6,h7,h8]
  obtain ⟨tn,htn0,htn⟩:∃ tn:Nat→Nat,tn 0=0∧∀ t,tn (t+1)=turnL F (tn t) (nowL F (u t) (told (t+1))):=⟨fun t=>@Nat.rec (fun _=>Nat) 0 (fun t k=>turnL F k (nowL F (u t) (told (t+1)))) t,rfl,fun _=>rfl⟩
  have htl:∀ t,tn t≤(lastL F).length:=fun t=>by
   induction t with
   | zero=>rw [htn0];exact Nat.zero_le _
   | succ t ih=>rw [htn];exact turnL_le F _ ih
  refine ⟨fun t=>if t=0 then (true,0,0) else (false,told t,tn t),by simp,fun t=>?_,fun t=>?_⟩
  ·refine afterT_mem.2 ⟨(hu t).1,(hu t).2,by simp,?_,?_,?_⟩
   ·simp [hsub]
   ·simp only [Nat.add_one_ne_zero,if_false]
    by_cases e:t=0
    ·subst e
     unfold fitsL
     simp only [if_true]
     rw [hnow 0 _ (by omega)]
     exact hv
    ·unfold fitsL
     simp only [e,if_false,Bool.false_eq_true]
     rw [List.all_eq_true]
     intro i hi
     have hi:=List.mem_range.1 hi
     unfold foreL
     rw [foreN_test,decide_eq_true hi]
     by_cases hk6:6≤kN F i∧kN F i≤8
     ·rw [htold t i hi hk6,hnow t _ (partN_lt hF hi)]
      simp
     ·rw [decide_eq_false hk6];simp
   ·simp only [Nat.add_one_ne_zero,if_false,htn]
    by_cases e:t=0
    ·subst e;simp [htn0]
    ·simp [e]
  ·have hok:∀ k,∃ j,k≤j∧tn j=(lastL F).length:=by
    have key:∀ d k,(lastL F).length - tn k≤d→∃ j,k≤j∧tn j=(lastL F).length:=by
     intro d
     induction d with
     | zero=>intro k hk0;exact ⟨k,Nat.le_refl _,by have:=htl k;omega⟩
     | succ d ih =>
      intro k hkd
      refine Classical.byContradiction fun hno=>?_
      have hne:∀ j,k≤j→tn j ≠ (lastL F).length:=fun j hj e=>hno ⟨j,hj,e⟩
      have hlt:tn k < (lastL F).length:=by have:=htl k;have:=hne k (Nat.le_refl _);omega
      have hmono:∀ e,tn k≤tn (k+e):=by
       intro e
       induction e with
       | zero=>exact Nat.le_refl _
       | succ e ihe =>
        rw [← Nat.add_assoc,htn]
        unfold turnL
        rw [if_neg (hne _ (by omega))]
        have:=(advL_ge (okAt F (nowL F (u (k+e)) (told (k+e+1)))) ((lastL F).length - tn (k+e)) (tn (k+e))).1
        omega
      have him:(lastL F).getD (tn k) 0 ∈ lastL F:=getD_mem hlt
      have hin:=(lastN_mem F _ F.length).1 him
      obtain ⟨s,hs,hse⟩:=hk _ hin.1 hin.2 k
      have hb:bN F ((lastL F).getD (tn k) 0) < F.length:=by
       have h1:=(hF _ hin.1).2.2.2 (by have:=hin.2;unfold kN at this;omega)
       have h2:=(hF _ hin.1).2.1
       unfold bN
       omega
      have hm:=hmono (s - k)
      rw [show k+(s - k)=s by omega] at hm
      rcases Nat.eq_or_lt_of_le hm with he | he
      ·have he:=he.symm
       have hgt:tn s < tn (s+1):=by
        rw [htn]
        unfold turnL
        rw [if_neg (hne s hs)]
        refine advL_gt ?_ (by omega)
        unfold okAt
        rw [he,hnow s _ hin.1,hnow s _ hb,hse]
        simp
       obtain ⟨j,hj,e⟩:=ih (s+1) (by omega)
       exact hno ⟨j,by omega,e⟩
      ·obtain ⟨j,hj,e⟩:=ih s (by omega)
       exact hno ⟨j,by omega,e⟩
    exact fun k=>key _ k (Nat.le_refl _)
   obtain ⟨j,hj,e⟩:=hok (t+1)
   refine ⟨j,by omega,?_⟩
   have hj0:j ≠ 0:=by omega
   show goodT F (if j=0 then (true,0,0) else (false,told j,tn j))=true
   rw [if_neg hj0]
   unfold goodT
   rw [decide_eq_true_iff]
   exact e
theorem nodup_rel {α:Type}{M:Nat}{R:α→Nat→Prop}{l:List α} (hn:l.Nodup) (h:∀ a ∈ l,∃ n,n < M∧R a n) (hi:∀ a ∈ l,∀ b ∈ l,∀ n,R a n→R b n→a=b):l.length≤M:=by
 have hex:∃ f:α→Nat,∀ a ∈ l,f a < M∧R a (f a):=by
  refine ⟨fun a=>@dite _ (∃ n,n < M∧R a n) (Classical.propDecidable _) (fun h=>Classical.choose h) (fun _=>0),fun a ha=>?_⟩
  have h1:=h a ha
  simp only [h1,dite_true]
  exact Classical.choose_spec h1
 obtain ⟨f,hf⟩:=hex
 have h1:=nodup_le M (l.map f) (by
  rw [List.Nodup,List.pairwise_map]
  refine List.Pairwise.imp_of_mem (fun {a b} ha hb hne e=>hne ?_) hn
  refine hi a ha b hb (f a) (hf a ha).2 ?_
  rw [e];exact (hf b hb).2) (fun q hq=>by
  obtain ⟨a,ha,rfl⟩:=List.mem_map.1 hq
  exact (hf a ha).1)
 rwa [List.length_map] at h1
def cntM (F:List Nd):Nat→Nat
 | 0=>0
 | m+1=>cntM F m+if 6≤kN F m∧kN F m≤8 then 1 else 0
theorem filter_two {α:Type} (p:α→Bool):∀ l:List α,l.length=(l.filter p).length+(l.filter fun x=>!p x).length
 | []=>rfl
 | x :: l=>by
  rw [List.filter_cons,List.filter_cons,List.length_cons,filter_two p l]
  cases p x <;> simp <;> omega
theorem sub_count (F:List Nd):∀ (m:Nat) (l:List Nat),l.Nodup→(∀ t ∈ l,t &&& foreN F m=t)→l.length≤2 ^ cntM F m
 | 0,l,hn,h=>by
  refine nodup_le _ l hn (fun t ht=>?_)
  have:=h t ht
  unfold foreN at this
  rw [Nat.and_zero] at this
  rw [← this]
  exact Nat.two_pow_pos _
 | m+1,l,hn,h=>by
  by_cases hk:6≤kN F m∧kN F m≤8
  ·have hf:foreN F (m+1)=addBit (foreN F m) m:=by show (if _ then _ else _)=_;rw [if_pos hk]
   have hbit:∀ t ∈ l,∀ i,t.testBit i=true→(foreN F m).testBit i=true ∨ m=i:=fun t ht i hi=>by
    have h1:=congrArg (·.testBit i) (h t ht)
    simp only [Nat.testBit_and] at h1
    rw [hf,addBit_test,hi] at h1
    simpa using h1
   have hm:(foreN F m).testBit m=false:=by rw [foreN_test];simp
   have e1:=sub_count F m (l.filter fun t=>!t.testBit m) (hn.filter _) (fun t ht=>by
    obtain ⟨ht,hb⟩:=List.mem_filter.1 ht
    have hb:t.testBit m=false:=by simpa using hb
    refine Nat.eq_of_testBit_eq fun i=>?_
    rw [Nat.testBit_and]
    cases hi:t.testBit i with
    | false=>rfl
    | true =>
     rcases hbit t ht i hi with h1 | h1
     ·rw [h1];rfl
     ·subst h1;rw [hb] at hi;cases hi)
   have e2:=sub_count F m ((l.filter fun t=>t.testBit m).map fun t=>t &&& foreN F m) (by
    rw [List.Nodup,List.pairwise_map]
    refine List.Pairwise.imp_of_mem (fun {a b} ha hb hne e=>hne ?_) (hn.filter _)
    obtain ⟨ha,ham⟩:=List.mem_filter.1 ha
    obtain ⟨hb,hbm⟩:=List.mem_filter.1 hb
    refine Nat.eq_of_testBit_eq fun i=>?_
    have h1:=congrArg (·.testBit i) e
    simp only [Nat.testBit_and] at h1
    by_cases em:m=i
    ·subst em;rw [ham,hbm]
    ·cases hi:a.testBit i with
     | true =>
      rcases hbit a ha i hi with h2 | h2
      ·rw [hi,h2] at h1;simpa using h1
      ·exact absurd h2 em
     | false =>
      cases hj:b.testBit i with
      | false=>rfl
      | true =>
       rcases hbit b hb i hj with h2 | h2
       ·rw [hi,hj,h2] at h1;simp at h1
       ·exact absurd h2 em) (fun t ht=>by
    obtain ⟨x,_,rfl⟩:=List.mem_map.1 ht
    rw [Nat.and_assoc,Nat.and_self])
   rw [List.length_map] at e2
   have e3:=filter_two (fun t:Nat=>t.testBit m) l
   have e4:cntM F (m+1)=cntM F m+1:=by show _+(if _ then _ else _)=_;rw [if_pos hk]
   rw [e4,Nat.pow_succ]
   omega
  ·have hf:foreN F (m+1)=foreN F m:=by show (if _ then _ else _)=_;rw [if_neg hk]
   have e4:cntM F (m+1)=cntM F m:=by show _+(if _ then _ else _)=_;rw [if_neg hk];rfl
   rw [e4]
   refine sub_count F m l hn (fun t ht=>?_)
   rw [← hf]
   exact h t ht
theorem last_count (F:List Nd):∀ m,(lastN F m).length≤cntM F m
 | 0=>Nat.le_refl _
 | m+1=>by
  have ih:=last_count F m
  show (if _ then _ else _:List Nat).length≤_+(if _ then _ else _)
  by_cases h:kN F m=7 ∨ kN F m=8
  ·rw [if_pos h,if_pos (by omega)];simp;exact ih
  ·rw [if_neg h];split <;> omega
def SpoOk (F:List Nd) (q:Spo):Prop:=q=(true,0,0) ∨ (q.1=false∧q.2.1 &&& foreL F=q.2.1∧q.2.2≤(lastL F).length)
theorem spoOk_after {F:List Nd}{s:Spo} (hs:SpoOk F s) {p:Int × Spo} (hp:p ∈ afterT F s):SpoOk F p.2:=by
 obtain ⟨c,q⟩:=p
 obtain ⟨_,_,h3,h4,_,h6⟩:=afterT_mem.1 hp
 refine Or.inr ⟨h3,h4,?_⟩
 show q.2.2≤_
 rw [h6]
 refine turnL_le F _ ?_
 rcases hs with rfl | h
 ·exact Nat.zero_le _
 ·exact h.2.2
theorem parts_few {F:List Nd} (hc:cntM F F.length≤4):(partsL (foreL F)).length≤16:=by
 have h1:=sub_count F F.length (partsL (foreL F)) (partsL_nodup _) (fun t ht=>partsL_mem.1 ht)
 have h2:2 ^ cntM F F.length≤2 ^ 4:=Nat.pow_le_pow_right (by omega) hc
 omega
theorem last_few {F:List Nd} (hc:cntM F F.length≤4):(lastL F).length≤4:=Nat.le_trans (last_count F F.length) hc
theorem told_pos {F:List Nd} (hc:cntM F F.length≤4) {t:Nat} (h:t &&& foreL F=t):numOf (partsL (foreL F)) t < 16:=Nat.lt_of_lt_of_le (numOf_lt (partsL_mem.2 h)) (parts_few hc)
theorem spots_few {F:List Nd} (hc:cntM F F.length≤4) {met:List Spo} (hn:met.Nodup) (h:∀ q ∈ met,SpoOk F q):met.length≤81:=by
 refine nodup_rel (R:=fun q n=>(q=(true,0,0)∧n=80) ∨ (q.1=false∧q.2.1 &&& foreL F=q.2.1∧q.2.2≤4∧n=numOf (partsL (foreL F)) q.2.1 * 5+q.2.2)) hn (fun q hq=>?_) (fun a _ b _ n h1 h2=>?_)
 ·rcases h q hq with e | ⟨h1,h2,h3⟩
  ·exact ⟨80,by omega,Or.inl ⟨e,rfl⟩⟩
  ·have:=last_few hc
   have:=told_pos hc h2
   exact ⟨_,by omega,Or.inr ⟨h1,h2,by omega,rfl⟩⟩
 ·rcases h1 with ⟨e1,n1⟩ | ⟨a1,a2,a3,a4⟩ <;> rcases h2 with ⟨e2,n2⟩ | ⟨b1,b2,b3,b4⟩
  ·rw [e1,e2]
  ·have:=told_pos hc b2;omega
  ·have:=told_pos hc a2;omega
  ·have h5:numOf (partsL (foreL F)) a.2.1=numOf (partsL (foreL F)) b.2.1:=by omega
   have h6:=numOf_inj (partsL_mem.2 a2) (partsL_mem.2 b2) h5
   have h7:a.2.2=b.2.2:=by omega
   obtain ⟨x,y,z⟩:=a
   obtain ⟨x',y',z'⟩:=b
   simp only at h6 h7 a1 b1
   rw [h6,h7,a1,b1]
theorem told_one {F:List Nd}{s s':Spo} (hs:SpoOk F s) (hs':SpoOk F s') (hb:s.1=false) (hb':s'.1=false) {now:Nat} (h:fitsL F s now=true) (h':fitsL F s' now=true):s.2.1=s'.2.1:=by
 have sub:∀ {s:Spo},SpoOk F s→s.1=false→s.2.1 &&& foreL F=s.2.1:=fun {s} hs hb=>by
  rcases hs with rfl | h
  ·cases hb
  ·exact h.2.1
 refine Nat.eq_of_testBit_eq fun i=>?_
 rw [← sub hs hb,← sub hs' hb',Nat.testBit_and,Nat.testBit_and]
 cases hf:(foreL F).testBit i with
 | false=>simp
 | true =>
  unfold foreL at hf
  rw [foreN_test] at hf
  simp only [Bool.and_eq_true,decide_eq_true_eq] at hf
  rw [fits_on hb h hf.1 hf.2,fits_on hb' h' hf.1 hf.2]
theorem steps_few {F:List Nd} (hc:cntM F F.length≤4) {met:List Spo}{A:Aut} (h:OfNodes [(true,0,0)] (goodT F) (afterT F) met A) (hn:A.steps.Nodup):A.steps.length≤768:=by
 have hok:∀ q ∈ met,SpoOk F q:=h.least (SpoOk F) (fun x hx=>Or.inl (by simpa using hx)) (fun x hx p hp=>spoOk_after hx hp)
 refine nodup_rel (R:=fun s n=>∃ i x c y,met[i]?=some x∧(c,y) ∈ afterT F x∧s=⟨(i:Nat),c,(numOf met y:Nat)⟩∧n=(c.toNat * 16+numOf (partsL (foreL F)) y.2.1) * 6+(if x.1=true then 5 else x.2.2)) hn (fun s hs=>?_) (fun a _ b _ n h1 h2=>?_)
 ·obtain ⟨i,x,c,y,hx,hy,e⟩:=(h.steps s).1 hs
  obtain ⟨q1,q2,q3,q4,q5,q6⟩:=afterT_mem.1 hy
  refine ⟨_,?_,i,x,c,y,hx,hy,e,rfl⟩
  have h1:=told_pos hc q4
  have h2:(if x.1=true then 5 else x.2.2)≤5:=by
   rcases hok x (List.mem_of_getElem? hx) with rfl | ⟨h3,_,h4⟩
   ·simp
   ·have:=last_few hc
    rw [h3];simp;omega
  omega
 ·obtain ⟨i,x,c,y,hx,hy,rfl,e1⟩:=h1
  obtain ⟨i',x',c',y',hx',hy',rfl,e2⟩:=h2
  obtain ⟨q1,q2,q3,q4,q5,q6⟩:=afterT_mem.1 hy
  obtain ⟨r1,r2,r3,r4,r5,r6⟩:=afterT_mem.1 hy'
  have k1:=told_pos hc q4
  have k2:=told_pos hc r4
  have hxo:=hok x (List.mem_of_getElem? hx)
  have hxo':=hok x' (List.mem_of_getElem? hx')
  have b1:(x.1=true∧x=(true,0,0)) ∨ (x.1=false∧x.2.2≤4):=by
   rcases hxo with h3 | ⟨h3,_,h4⟩
   ·exact Or.inl ⟨by rw [h3],h3⟩
   ·have:=last_few hc;exact Or.inr ⟨h3,by omega⟩
  have b2:(x'.1=true∧x'=(true,0,0)) ∨ (x'.1=false∧x'.2.2≤4):=by
   rcases hxo' with h3 | ⟨h3,_,h4⟩
   ·exact Or.inl ⟨by rw [h3],h3⟩
   ·have:=last_few hc;exact Or.inr ⟨h3,by omega⟩
  have main:(c.toNat * 16+numOf (partsL (foreL F)) y.2.1=c'.toNat * 16+numOf (partsL (foreL F)) y'.2.1)∧x.1=x'.1∧(x.1=false→x.2.2=x'.2.2):=by
   rcases b1 with ⟨f1,_⟩ | ⟨f1,g1⟩ <;> rcases b2 with ⟨f2,_⟩ | ⟨f2,g2⟩ <;> rw [f1] at e1 <;> rw [f2] at e2 <;> simp at e1 e2 <;> rw [f1,f2]
   ·exact ⟨by omega,rfl,fun h=>(by cases h)⟩
   ·omega
   ·omega
   ·exact ⟨by omega,rfl,fun _=>by omega⟩
  obtain ⟨m1,m2,m3⟩:=main
  have hcc:c=c':=by omega
  have htt:y.2.1=y'.2.1:=numOf_inj (partsL_mem.2 q4) (partsL_mem.2 r4) (by omega)
  subst hcc
  rw [← htt] at r5 r6
  have hxx:x=x':=by
   rcases b1 with ⟨f1,g1⟩ | ⟨f1,g1⟩
   ·rcases b2 with ⟨f2,g2⟩ | ⟨f2,g2⟩
    ·rw [g1,g2]
    ·rw [f1,f2] at m2;cases m2
   ·rcases b2 with ⟨f2,g2⟩ | ⟨f2,g2⟩
    ·rw [f1,f2] at m2;cases m2
    ·have h5:=told_one hxo hxo' f1 f2 q5 r5
     have h6:=m3 f1
     obtain ⟨a1,a2,a3⟩:=x
     obtain ⟨a1',a2',a3'⟩:=x'
     simp only at h5 h6 f1 f2
     rw [h5,h6,f1,f2]
  subst hxx
  have hyy:y=y':=by
   have h7:y.2.2=y'.2.2:=by rw [q6,r6]
   obtain ⟨a1,a2,a3⟩:=y
   obtain ⟨a1',a2',a3'⟩:=y'
   simp only at h7 htt q3 r3
   rw [h7,htt,q3,r3]
  subst hyy
  have hii:i=i':=by
   have h8:=numOf_of_get h.nodup hx
   have h9:=numOf_of_get h.nodup hx'
   omega
  rw [hii]
end Go.Proofs.YtpiacnnifdjlkabGreatDoor
