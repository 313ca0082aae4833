import Derived.Test.YtpiacnnifdjlkabGreatDoorCt
import Derived.Deep.LoopGhost
import Derived.Shelf.Abstract
import Derived.Test.YtpiacnnifdjlkabGreatDoorBe
import Derived.Orders
set_option maxRecDepth 100000
set_option maxHeartbeats 8000000
namespace Go.Proofs.YtpiacnnifdjlkabGreatDoor
def wayL (A:Aut):List Int→Nat→Nat→Prop
 | [],q,q'=>q=q'
 | c :: cs,q,q'=>∃ z:Nat,(∃ s ∈ A.steps,s.f=q∧s.l=c∧s.t=z)∧wayL A cs z q'
theorem wayL_append {A:Aut}:∀ {us vs:List Int}{x y z:Nat},wayL A us x y→wayL A vs y z→wayL A (us ++ vs) x z
 | [],vs,x,y,z,h,k=>by have e:x=y:=h;subst e;exact k
 | c :: us,vs,x,y,z,h,k=>by
  obtain ⟨u,h1,h2⟩:=h
  exact ⟨u,h1,wayL_append h2 k⟩
theorem wayL_one {A:Aut}{s:Stp} (hs:s ∈ A.steps) {x y:Nat} (hx:s.f=x) (hy:s.t=y):wayL A [s.l] x y:=⟨y,⟨s,hs,hx,rfl,hy⟩,rfl⟩
theorem pathU_of_way {A:Aut}{u:Nat→Int}:∀ {us:List Int}{t x y:Nat},wayL A us x y→(∀ j,j < us.length→u (t+j)=us.getD j 0)→pathU A u us.length t x y
 | [],t,x,y,h,_=>h
 | c :: us,t,x,y,h,k=>by
  obtain ⟨z,⟨s,hs,e1,e2,e3⟩,h2⟩:=h
  refine ⟨z,⟨s,hs,e1,?_,e3⟩,pathU_of_way h2 (fun j hj=>?_)⟩
  ·have:=k 0 (by simp)
   simp at this
   rw [this];exact e2
  ·have:=k (j+1) (by simp;omega)
   simp only [List.getD_cons_succ] at this
   rw [← this]
   congr 1
   omega
theorem way_of_pathU {A:Aut}{u:Nat→Int}:∀ {n t x y:Nat},pathU A u n t x y→∃ us:List Int,us.length=n∧wayL A us x y
 | 0,_,_,_,h=>⟨[],rfl,h⟩
 | n+1,t,x,y,h=>by
  obtain ⟨z,⟨s,hs,e1,e2,e3⟩,h2⟩:=h
  obtain ⟨us,hl,hw⟩:=way_of_pathU h2
  exact ⟨s.l :: us,by simp [hl],z,⟨s,hs,e1,rfl,e3⟩,hw⟩
theorem lat_front {hs ls:List Int}{j:Nat} (h:j < hs.length):lat hs ls j=hs.getD j 0:=by unfold lat;rw [if_pos h]
theorem lat_round {hs ls:List Int}{i j:Nat} (h:j < ls.length):lat hs ls (hs.length+i * ls.length+j)=ls.getD j 0:=by
 unfold lat
 rw [if_neg (by omega),show hs.length+i * ls.length+j - hs.length=j+i * ls.length by omega,Nat.add_mul_mod_self_right,Nat.mod_eq_of_lt h]
theorem takes_of_way {A:Aut}{hs ls:List Int}{i g:Nat} (hi:i < A.first.length) (h1:wayL A hs (A.first.getD i 0).toNat g) (hg:A.good.getD g false=true) (h2:wayL A ls g g) (hL:0 < ls.length):TakesU A (lat hs ls):=
 ⟨i,hi,hs.length,g,ls.length,pathU_of_way h1 (fun j hj=>by rw [Nat.zero_add];exact lat_front hj),hg,hL,fun k=>pathU_of_way h2 (fun j hj=>lat_round hj)⟩
theorem way_of_takes {A:Aut}{u:Nat→Int} (h:TakesU A u):∃ i,i < A.first.length∧∃ us vs g,wayL A us (A.first.getD i 0).toNat g∧A.good.getD g false=true∧0 < vs.length∧wayL A vs g g:=by
 obtain ⟨i,hi,n,q,m,h1,hg,hm,hc⟩:=h
 obtain ⟨us,_,hu⟩:=way_of_pathU h1
 obtain ⟨vs,hl,hv⟩:=way_of_pathU (hc 0)
 exact ⟨i,hi,us,vs,q,hu,hg,by omega,hv⟩
theorem way_closed {A:Aut}{P:Nat→Prop}{Q:Nat→Prop} (hP:∀ x,P x→∀ s ∈ A.steps,s.f=(x:Nat)→∃ y:Nat,s.t=y∧Q y) (hQ:∀ x,Q x→P x):∀ {us:List Int}{x y:Nat},P x→wayL A us x y→us ≠ []→Q y
 | [],_,_,_,_,h=>absurd rfl h
 | [c],x,y,hx,h,_=>by
  obtain ⟨z,⟨s,hs,e1,_,e3⟩,h2⟩:=h
  have e:z=y:=h2
  subst e
  obtain ⟨y',e,hq⟩:=hP x hx s hs e1
  have:z=y':=by omega
  rw [this];exact hq
 | c :: d :: us,x,y,hx,h,_=>by
  obtain ⟨z,⟨s,hs,e1,_,e3⟩,h2⟩:=h
  obtain ⟨y',e,hq⟩:=hP x hx s hs e1
  have:z=y':=by omega
  rw [← this] at hq
  exact way_closed hP hQ (hQ _ hq) h2 (by simp)
structure ByOk (A:Aut) (from_:List Int) (ord:List Nat) (by_:Nat→Stp):Prop where
 nodup:ord.Nodup
 step:∀ i,i < ord.length→by_ (ord.getD i 0) ∈ A.steps∧(by_ (ord.getD i 0)).t=(ord.getD i 0:Nat)
 ahead:∀ i,i < ord.length→(by_ (ord.getD i 0)).f ∈ from_ ∨ ∃ j,j < i∧(by_ (ord.getD i 0)).f=(ord.getD j 0:Nat)
theorem getD_append_left {α:Type}{xs ys:List α}{d:α}{i:Nat} (h:i < xs.length):(xs ++ ys).getD i d=xs.getD i d:=by simp [List.getD,List.getElem?_append_left h]
theorem getD_append_last {α:Type}{xs:List α}{y d:α}:(xs ++ [y]).getD xs.length d=y:=by simp [List.getD]
theorem getD_mem {α:Type}{xs:List α}{d:α}{i:Nat} (h:i < xs.length):xs.getD i d ∈ xs:=by simp [List.getD,h]
def setBy (by_:Nat→Stp) (s:Stp):Nat→Stp:=fun i=>if (i:Int)=s.t then s else by_ i
theorem ByOk.meet {A:Aut}{from_:List Int}{ord:List Nat}{by_:Nat→Stp} (h:ByOk A from_ ord by_) {s:Stp}{t:Nat} (hs:s ∈ A.steps) (ht:s.t=t) (hn:t ∉ ord) (hf:s.f ∈ from_ ∨ ∃ q ∈ ord,s.f=(q:Nat)):ByOk A from_ (ord ++ [t]) (setBy by_ s):=by
 have hold:∀ i,i < ord.length→setBy by_ s ((ord ++ [t]).getD i 0)=by_ (ord.getD i 0):=fun i hi=>by
  rw [getD_append_left hi]
  unfold setBy
  rw [if_neg]
  intro e
  have:ord.getD i 0=t:=by omega
  exact hn (by rw [← this];exact getD_mem hi)
 have hnew:setBy by_ s ((ord ++ [t]).getD ord.length 0)=s:=by
  rw [getD_append_last]
  unfold setBy
  rw [if_pos ht.symm]
 refine ⟨?_,fun i hi=>?_,fun i hi=>?_⟩
 ·rw [List.nodup_append]
  refine ⟨h.nodup,by simp,fun a ha b hb=>?_⟩
  rw [List.mem_singleton] at hb
  subst hb
  exact fun e=>hn (by rw [← e];exact ha)
 ·rw [List.length_append,List.length_singleton] at hi
  by_cases e:i=ord.length
  ·subst e
   rw [hnew,getD_append_last]
   exact ⟨hs,ht⟩
  ·rw [hold i (by omega),getD_append_left (by omega)]
   exact h.step i (by omega)
 ·rw [List.length_append,List.length_singleton] at hi
  by_cases e:i=ord.length
  ·subst e
   rw [hnew]
   rcases hf with hf | ⟨q,hq,hf⟩
   ·exact Or.inl hf
   ·obtain ⟨j,hj,rfl⟩:=List.mem_iff_getElem.1 hq
    refine Or.inr ⟨j,hj,?_⟩
    rw [getD_append_left hj,hf]
    simp [List.getD,hj]
  ·rw [hold i (by omega)]
   rcases h.ahead i (by omega) with h1 | ⟨j,hj,h1⟩
   ·exact Or.inl h1
   ·exact Or.inr ⟨j,hj,by rw [getD_append_left (by omega)];exact h1⟩
theorem ByOk.nil (A:Aut) (from_:List Int) (by_:Nat→Stp):ByOk A from_ [] by_:=⟨List.nodup_nil,fun _ h=>absurd h (Nat.not_lt_zero _),fun _ h=>absurd h (Nat.not_lt_zero _)⟩
def BackAt (A:Aut) (from_:List Int) (ord:List Nat) (end_:Nat) (us:List Int) (q:Int):Prop:=
 us ≠ []∧us.length≤ord.length∧0≤q∧wayL A us.reverse q.toNat end_∧(q ∈ from_ ∨ ∃ i,i < ord.length∧q=(ord.getD i 0:Nat)∧us.length+i < ord.length)
theorem back_begin {A:Aut}{from_:List Int}{ord:List Nat}{by_:Nat→Stp} (hA:∀ s ∈ A.steps,0≤s.f) (h:ByOk A from_ ord by_) {e:Nat} (he:e ∈ ord):BackAt A from_ ord e [(by_ e).l] (by_ e).f:=by
 obtain ⟨i,hi,rfl⟩:=List.mem_iff_getElem.1 he
 have hg:ord.getD i 0=ord[i]:=by simp [List.getD,hi]
 obtain ⟨h1,h2⟩:=h.step i hi
 have h3:=h.ahead i hi
 rw [hg] at h1 h2 h3
 have h0:=hA _ h1
 refine ⟨by simp,by simp;omega,h0,wayL_one h1 (by omega) h2,?_⟩
 rcases h3 with h3 | ⟨j,hj,h3⟩
 ·exact Or.inl h3
 ·exact Or.inr ⟨j,by omega,h3,by simp;omega⟩
theorem back_on {A:Aut}{from_:List Int}{ord:List Nat}{by_:Nat→Stp} (hA:∀ s ∈ A.steps,0≤s.f) (h:ByOk A from_ ord by_) {e:Nat}{us:List Int}{q:Int} (hb:BackAt A from_ ord e us q) (hq:q ∉ from_):q.toNat ∈ ord∧us.length < ord.length∧BackAt A from_ ord e (us ++ [(by_ q.toNat).l]) (by_ q.toNat).f:=by
 obtain ⟨_,hl,h0,hw,hor⟩:=hb
 rcases hor with hor | ⟨i,hi,rfl,hlt⟩
 ·exact absurd hor hq
 rw [Int.toNat_natCast] at hw ⊢
 obtain ⟨h1,h2⟩:=h.step i hi
 have h3:=h.ahead i hi
 have h4:=hA _ h1
 refine ⟨getD_mem hi,by omega,by simp,by simp;omega,h4,?_,?_⟩
 ·rw [List.reverse_append]
  exact wayL_append (wayL_one h1 (by omega) h2) hw
 ·rcases h3 with h3 | ⟨j,hj,h3⟩
  ·exact Or.inl h3
  ·exact Or.inr ⟨j,by omega,h3,by simp;omega⟩
theorem back_done {A:Aut}{from_:List Int}{ord:List Nat}{e:Nat}{us:List Int}{q:Int} (hb:BackAt A from_ ord e us q) (hq:q ∈ from_):us.reverse ≠ []∧us.reverse.length≤ord.length∧∃ x ∈ from_,wayL A us.reverse x.toNat e:=
 ⟨by simpa using hb.1,by rw [List.length_reverse];exact hb.2.1,q,hq,hb.2.2.2.1⟩
structure Look (A:Aut) (N:Nat) (F:Nat→Bool) (from_:List Int) (ord:List Nat) (by_:Nat→Stp) (k:Nat):Prop where
 ok:ByOk A from_ ord by_
 range:∀ q ∈ ord,q < N
 not:∀ q ∈ ord,F q=false
 closed:∀ j,j < k→∀ s ∈ A.steps,s.f=(from_ ++ ord.map (fun q:Nat=>(q:Int))).getD j 0→∃ y ∈ ord,s.t=(y:Nat)
theorem nodup_le:∀ (N:Nat) (l:List Nat),l.Nodup→(∀ q ∈ l,q < N)→l.length≤N
 | 0,l,_,h=>by
  cases l with
  | nil=>exact Nat.le_refl _
  | cons a l=>exact absurd (h a (by simp)) (Nat.not_lt_zero _)
 | N+1,l,hn,h=>by
  have h1:=nodup_le N (l.erase N) (hn.erase N) (fun q hq=>by
   have hm:=(List.Nodup.mem_erase_iff hn).1 hq
   have:=h q hm.2
   omega)
  have:=List.length_erase (a:=N) (l:=l)
  split at this <;> omega
theorem Look.few {A:Aut}{N:Nat}{F:Nat→Bool}{from_:List Int}{ord:List Nat}{by_:Nat→Stp}{k:Nat} (h:Look A N F from_ ord by_ k):ord.length≤N:=by
 exact nodup_le N ord h.ok.nodup h.range
theorem Look.done {A:Aut}{N:Nat}{F:Nat→Bool}{from_:List Int}{ord:List Nat}{by_:Nat→Stp}{k:Nat} (h:Look A N F from_ ord by_ k) (hk:from_.length+ord.length≤k) (h0:∀ x ∈ from_,0≤x) {x:Int} (hx:x ∈ from_) {us:List Int}{y:Nat} (hw:wayL A us x.toNat y) (hne:us ≠ []):F y=false:=by
 refine h.not y (way_closed (P:=fun z:Nat=>(z:Int) ∈ from_ ++ ord.map (fun q:Nat=>(q:Int))) (Q:=fun z=>z ∈ ord) ?_ ?_ ?_ hw hne)
 ·intro z hz s hs e
  obtain ⟨j,hj,hjz⟩:=List.mem_iff_getElem.1 hz
  obtain ⟨y,hy,e2⟩:=h.closed j (by simp at hj;omega) s hs (by rw [e,← hjz];simp only [List.getD,List.getElem?_eq_getElem hj,Option.getD_some])
  exact ⟨y,e2,hy⟩
 ·intro z hz
  exact List.mem_append_right _ (List.mem_map.2 ⟨z,hz,rfl⟩)
 ·refine List.mem_append_left _ ?_
  have:=h0 x hx
  rw [show ((x.toNat:Nat):Int)=x by omega]
  exact hx
def stepU (A:Aut) (x:Nat) (c:Int) (y:Nat):Prop:=∃ s ∈ A.steps,s.f=x∧s.l=c∧s.t=y
def TakesI (A:Aut) (u:Nat→Int):Prop:=
 ∃ r:Nat→Nat,(∃ i,i < A.first.length∧(A.first.getD i 0).toNat=r 0)∧(∀ t,stepU A (r t) (u t) (r (t+1)))∧∀ t,∃ k,t≤k∧A.good.getD (r k) false=true
theorem pathU_fun {A:Aut}{u:Nat→Int}:∀ {n t x y:Nat},pathU A u n t x y→∃ f:Nat→Nat,f 0=x∧f n=y∧∀ j,j < n→stepU A (f j) (u (t+j)) (f (j+1))
 | 0,t,x,y,h=>⟨fun _=>x,rfl,h,fun j hj=>absurd hj (Nat.not_lt_zero _)⟩
 | n+1,t,x,y,h=>by
  obtain ⟨z,hz,h2⟩:=h
  obtain ⟨f,f0,fn,hf⟩:=pathU_fun h2
  refine ⟨fun j=>if j=0 then x else f (j - 1),rfl,by simpa using fn,fun j hj=>?_⟩
  dsimp only
  by_cases e:j=0
  ·subst e
   simp only [if_true,Nat.add_zero,Nat.zero_add,Nat.add_one_ne_zero,if_false,Nat.sub_self,f0]
   exact hz
  ·have:=hf (j - 1) (by omega)
   rw [if_neg e,if_neg (by omega),show j+1 - 1=j - 1+1 by omega,show t+j=t+1+(j - 1) by omega]
   exact this
theorem pathU_of_fun {A:Aut}{u:Nat→Int}{f:Nat→Nat}:∀ {n t:Nat},(∀ j,j < n→stepU A (f (t+j)) (u (t+j)) (f (t+j+1)))→pathU A u n t (f t) (f (t+n))
 | 0,t,_=>rfl
 | n+1,t,h=>by
  refine ⟨f (t+1),h 0 (by omega),?_⟩
  have:=pathU_of_fun (f:=f) (u:=u) (A:=A) (n:=n) (t:=t+1) (fun j hj=>by have:=h (j+1) (by omega);rwa [show t+(j+1)=t+1+j by omega] at this)
  rwa [show t+1+n=t+(n+1) by omega] at this
theorem takesI_of {A:Aut}{u:Nat→Int} (h:TakesU A u):TakesI A u:=by
 obtain ⟨i,hi,n,q,m,h1,hg,hm,hc⟩:=h
 obtain ⟨f,f0,fn,hf⟩:=pathU_fun h1
 have hex:=fun j=>pathU_fun (hc j)
 obtain ⟨g,hgg⟩:∃ g:Nat→Nat→Nat,∀ j,g j 0=q∧g j m=q∧∀ i,i < m→stepU A (g j i) (u (n+j * m+i)) (g j (i+1)):=⟨fun j=>Classical.choose (hex j),fun j=>Classical.choose_spec (hex j)⟩
 have hg0':∀ j,g j 0=q:=fun j=>(hgg j).1
 have hgm':∀ j,g j m=q:=fun j=>(hgg j).2.1
 have hgs':∀ j i,i < m→stepU A (g j i) (u (n+j * m+i)) (g j (i+1)):=fun j=>(hgg j).2.2
 refine ⟨fun t=>if t < n then f t else g ((t - n) / m) ((t - n) % m),⟨i,hi,?_⟩,fun t=>?_,fun t=>?_⟩
 ·by_cases h0:0 < n
  ·simp only [h0,if_true,f0]
  ·have:n=0:=by omega
   subst this
   simp only [Nat.lt_irrefl,if_false,Nat.sub_self,Nat.zero_div,Nat.zero_mod,hg0']
   rw [← fn,f0]
 ·dsimp only
  by_cases ht:t < n
  ·rw [if_pos ht]
   have h2:=hf t ht
   rw [Nat.zero_add] at h2
   by_cases ht1:t+1 < n
   ·rw [if_pos ht1];exact h2
   ·rw [if_neg ht1,show t+1 - n=0 by omega,Nat.zero_div,Nat.zero_mod,hg0']
    rw [show t+1=n by omega,fn] at h2
    exact h2
  ·rw [if_neg ht,if_neg (by omega),show t+1 - n=t - n+1 by omega]
   have hd:=Nat.div_add_mod (t - n) m
   have hl:=Nat.mod_lt (t - n) hm
   have h2:=hgs' ((t - n) / m) ((t - n) % m) hl
   rw [show n+(t - n) / m * m+(t - n) % m=t by rw [Nat.mul_comm];omega] at h2
   by_cases e:(t - n) % m+1=m
   ·have e1:(t - n+1) % m=0:=by
     rw [Nat.add_mod]
     by_cases h1:m=1
     ·subst h1;exact Nat.mod_one _
     ·rw [Nat.mod_eq_of_lt (show 1 < m by omega),e,Nat.mod_self]
    rw [e,hgm'] at h2
    rw [e1,hg0']
    exact h2
   ·have e1:(t - n+1) % m=(t - n) % m+1:=by
     rw [Nat.add_mod,Nat.mod_eq_of_lt (show 1 < m by omega),Nat.mod_eq_of_lt (by omega)]
    have e2:(t - n+1) / m=(t - n) / m:=by
     have h3:=Nat.div_add_mod (t - n+1) m
     rw [e1] at h3
     have h4:m * ((t - n+1) / m)=m * ((t - n) / m):=by omega
     exact Nat.eq_of_mul_eq_mul_left hm h4
    rw [e1,e2]
    exact h2
 ·refine ⟨n+t * m,Nat.le_trans (Nat.le_mul_of_pos_right t hm) (Nat.le_add_left _ _),?_⟩
  dsimp only
  rw [if_neg (by omega),Nat.add_sub_cancel_left,Nat.mul_mod_left,hg0']
  exact hg
theorem two_alike {M:Nat} (c:Nat→Nat) (h:∀ i,c i < M):∃ i j,i < j∧c i=c j:=by
 refine Classical.byContradiction fun hn=>?_
 have hinj:∀ i j,c i=c j→i=j:=fun i j e=>by
  rcases Nat.lt_trichotomy i j with h1 | h1 | h1
  ·exact absurd ⟨i,j,h1,e⟩ hn
  ·exact h1
  ·exact absurd ⟨j,i,h1,e.symm⟩ hn
 have h1:=nodup_le M ((List.range (M+1)).map c) (by
  rw [List.Nodup,List.pairwise_map]
  exact List.Pairwise.imp (fun hne e=>hne (hinj _ _ e)) (List.nodup_range (n:=M+1))) (fun q hq=>by
  obtain ⟨i,_,rfl⟩:=List.mem_map.1 hq
  exact h i)
 simp at h1
 omega
theorem lat_period {hs ls:List Int}{t:Nat} (ht:hs.length≤t) (k:Nat):lat hs ls (t+k * ls.length)=lat hs ls t:=by
 unfold lat
 rw [if_neg (by omega),if_neg (by omega),show t+k * ls.length - hs.length=t - hs.length+k * ls.length by omega,Nat.add_mul_mod_self_right]
theorem takesU_of {A:Aut}{hs ls:List Int}{N:Nat} (hL:0 < ls.length) (hN:∀ s ∈ A.steps,s.t < N) (h:TakesI A (lat hs ls)):TakesU A (lat hs ls):=by
 obtain ⟨r,⟨i,hi,h0⟩,hr,hg⟩:=h
 have hnext:=fun t=>hg t
 let nx:Nat→Nat:=fun t=>Classical.choose (hnext t)
 have hnx:∀ t,t≤nx t∧A.good.getD (r (nx t)) false=true:=fun t=>Classical.choose_spec (hnext t)
 let T:Nat→Nat:=fun k=>Nat.rec (nx (hs.length+1)) (fun _ t=>nx (t+1)) k
 have hT1:∀ k,T k < T (k+1):=fun k=>(hnx (T k+1)).1
 have hTm:∀ i j,i < j→T i < T j:=by
  intro i j hij
  induction j with
  | zero=>omega
  | succ j ih =>
   have:=hT1 j
   by_cases e:i=j
   ·subst e;exact this
   ·have:=ih (by omega);omega
 have hTg:∀ k,A.good.getD (r (T k)) false=true:=fun k=>by
  cases k with
  | zero=>exact (hnx (hs.length+1)).2
  | succ k=>exact (hnx (T k+1)).2
 have hT0:∀ k,hs.length+1≤T k:=fun k=>by
  have h1:hs.length+1≤T 0:=(hnx (hs.length+1)).1
  by_cases e:k=0
  ·subst e;exact h1
  ·have:=hTm 0 k (by omega);omega
 have hrN:∀ t,0 < t→r t < N:=fun t ht=>by
  obtain ⟨s,hs',_,_,e⟩:=hr (t - 1)
  have:=hN s hs'
  rw [show t - 1+1=t by omega] at e
  omega
 obtain ⟨a,b,hab,e⟩:=two_alike (M:=N * ls.length) (fun k=>r (T k) * ls.length+T k % ls.length) (fun k=>by
  have h1:=hrN (T k) (by have:=hT0 k;omega)
  have h2:=Nat.mod_lt (T k) hL
  have h3:(r (T k)+1) * ls.length≤N * ls.length:=Nat.mul_le_mul_right _ h1
  rw [Nat.succ_mul] at h3
  show r (T k) * ls.length+T k % ls.length < N * ls.length
  omega)
 have e1:r (T a)=r (T b):=by
  have h1:(r (T a) * ls.length+T a % ls.length) / ls.length=(r (T b) * ls.length+T b % ls.length) / ls.length:=congrArg (· / ls.length) e
  rw [Nat.mul_comm,Nat.mul_add_div hL,Nat.mul_comm,Nat.mul_add_div hL,Nat.div_eq_of_lt (Nat.mod_lt _ hL),Nat.div_eq_of_lt (Nat.mod_lt _ hL)] at h1
  omega
 have e2:T a % ls.length=T b % ls.length:=by
  have h1:r (T a) * ls.length+T a % ls.length=r (T b) * ls.length+T b % ls.length:=e
  rw [e1] at h1
  omega
 have hlt:=hTm a b hab
 have hTa:=hT0 a
 obtain ⟨p,hp⟩:∃ p,T b - T a=p * ls.length:=by
  refine ⟨(T b - T a) / ls.length,?_⟩
  have h1:(T b - T a) % ls.length=0:=by
   have h2:=Nat.div_add_mod (T a) ls.length
   have h3:=Nat.div_add_mod (T b) ls.length
   have h4:T b - T a=ls.length * (T b / ls.length) - ls.length * (T a / ls.length):=by omega
   rw [h4,← Nat.mul_sub,Nat.mul_mod_right]
  have:=Nat.div_add_mod (T b - T a) ls.length
  rw [h1,Nat.add_zero,Nat.mul_comm] at this
  exact this.symm
 refine ⟨i,hi,T a,r (T a),T b - T a,?_,hTg a,by omega,fun j=>?_⟩
 ·have:=pathU_of_fun (f:=r) (u:=lat hs ls) (A:=A) (n:=T a) (t:=0) (fun j _=>by rw [Nat.zero_add];exact hr j)
  rw [Nat.zero_add] at this
  rw [h0]
  exact this
 ·have hsh:∀ j,j < T b - T a→stepU A (r (T a+j)) (lat hs ls (T a+j)) (r (T a+j+1)):=fun j _=>hr (T a+j)
  have h1:=pathU_of_fun (f:=fun x=>r (x - (T a+j * (T b - T a))+T a)) (u:=lat hs ls) (A:=A) (n:=T b - T a) (t:=T a+j * (T b - T a)) (fun k hk=>by
   have h2:=hr (T a+k)
   rw [show T a+j * (T b - T a)+k - (T a+j * (T b - T a))+T a=T a+k by omega,show T a+j * (T b - T a)+k+1 - (T a+j * (T b - T a))+T a=T a+k+1 by omega]
   have h3:=lat_period (hs:=hs) (ls:=ls) (t:=T a+k) (by omega) (j * p)
   rw [show T a+j * (T b - T a)+k=T a+k+j * p * ls.length by rw [hp,Nat.mul_assoc];omega,h3]
   exact h2)
  simp only [Nat.sub_self,Nat.zero_add] at h1
  rw [show T a+j * (T b - T a)+(T b - T a) - (T a+j * (T b - T a))+T a=T b by omega,← e1] at h1
  exact h1
theorem takes_inf {A:Aut}{hs ls:List Int}{N:Nat} (hL:0 < ls.length) (hN:∀ s ∈ A.steps,s.t < N):TakesU A (lat hs ls) ↔ TakesI A (lat hs ls):=⟨takesI_of,takesU_of hL hN⟩
structure Mdl where
 props:Int
 labels:List Int
 first:List Int
 steps:List (List Int)
def mLab (m:Mdl) (q:Nat):Int:=m.labels.getD q 0
def mRow (m:Mdl) (q:Nat):List Int:=m.steps.getD q []
structure MRight (m:Mdl):Prop where
 p0:0≤m.props
 p3:m.props≤3
 n1:1≤m.labels.length
 n12:m.labels.length≤12
 rows:m.steps.length=m.labels.length
 lab:∀ x ∈ m.labels,0≤x∧x < 8
 first:∀ x ∈ m.first,0≤x∧x < m.labels.length
 step:∀ r ∈ m.steps,r ≠ []∧∀ x ∈ r,0≤x∧x < m.labels.length
structure WordsOf (m:Mdl) (A:Aut):Prop where
 n:A.n=m.labels.length
 m_:A.m=8
 good:A.good=List.replicate m.labels.length true
 first:∀ x,x ∈ A.first ↔ x ∈ m.first
 steps:∀ s,s ∈ A.steps ↔ ∃ q:Nat,q < m.labels.length∧s.f=q∧s.l=mLab m q∧s.t ∈ mRow m q
def reachM (m:Mdl) (u:Nat→Int):Nat→Nat→Prop
 | 0,q=>(q:Int) ∈ m.first
 | t+1,q=>∃ p,p < m.labels.length∧reachM m u t p∧mLab m p=u t∧(q:Int) ∈ mRow m p
def goesM (m:Mdl) (u:Nat→Int) (N:Nat):Prop:=∀ t,t < N→∃ p,p < m.labels.length∧reachM m u t p∧mLab m p=u t
theorem MRight.row {m:Mdl} (h:MRight m) {q:Nat} (hq:q < m.labels.length):mRow m q ≠ []∧∀ x ∈ mRow m q,0≤x∧x < m.labels.length:=by
 have:mRow m q ∈ m.steps:=getD_mem (by rw [h.rows];exact hq)
 exact h.step _ this
theorem reach_fun {m:Mdl}{u:Nat→Int}:∀ {t p:Nat},reachM m u t p→∃ f:Nat→Nat,(f 0:Int) ∈ m.first∧f t=p∧∀ j,j < t→f j < m.labels.length∧mLab m (f j)=u j∧(f (j+1):Int) ∈ mRow m (f j)
 | 0,p,h=>⟨fun _=>p,h,rfl,fun j hj=>absurd hj (Nat.not_lt_zero _)⟩
 | t+1,p,⟨p',hp',h,hl,hr⟩=>by
  obtain ⟨f,f0,ft,hf⟩:=reach_fun h
  refine ⟨fun j=>if j≤t then f j else p,by simpa using f0,by simp;omega,fun j hj=>?_⟩
  dsimp only
  rw [if_pos (by omega:j≤t)]
  by_cases e:j=t
  ·subst e
   rw [if_neg (by omega),ft]
   exact ⟨hp',hl,hr⟩
  ·rw [if_pos (by omega)]
   exact hf j (by omega)
theorem pigeonM {N n:Nat}{c:Nat→Nat} (h:∀ k,k≤n→c k < N) (hn:N≤n):∃ a b,a < b∧b≤n∧c a=c b:=by
 refine Classical.byContradiction fun hno=>?_
 have hnd:((List.range (n+1)).map c).Nodup:=by
  rw [List.Nodup,List.pairwise_map]
  refine List.Pairwise.imp_of_mem (R:=fun a b=>a < b) ?_ List.pairwise_lt_range
  intro a b ha hb hab e
  exact hno ⟨a,b,hab,by have:=List.mem_range.1 hb;omega,e⟩
 have:=nodup_le N _ hnd (fun q hq=>by
  obtain ⟨k,hk,rfl⟩:=List.mem_map.1 hq
  exact h k (by have:=List.mem_range.1 hk;omega))
 simp at this
 omega
theorem WordsOf.step {m:Mdl}{A:Aut} (hA:WordsOf m A) {x y:Nat}{c:Int}:stepU A x c y ↔ x < m.labels.length∧mLab m x=c∧(y:Int) ∈ mRow m x:=by
 constructor
 ·rintro ⟨s,hs,e1,e2,e3⟩
  obtain ⟨q,hq,k1,k2,k3⟩:=(hA.steps s).1 hs
  have:q=x:=by omega
  subst this
  exact ⟨hq,by rw [← e2,k2],by rw [← e3];exact k3⟩
 ·rintro ⟨h1,h2,h3⟩
  exact ⟨⟨x,c,y⟩,(hA.steps _).2 ⟨x,h1,rfl,h2.symm,h3⟩,rfl,rfl,rfl⟩
theorem takes_goes {m:Mdl}{A:Aut}{u:Nat→Int} (hm:MRight m) (hA:WordsOf m A) (h:TakesI A u) (N:Nat):goesM m u N:=by
 obtain ⟨r,⟨i,hi,e⟩,hr,_⟩:=h
 have hre:∀ t,reachM m u t (r t):=by
  intro t
  induction t with
  | zero =>
   show (r 0:Int) ∈ m.first
   have h1:A.first.getD i 0 ∈ m.first:=(hA.first _).1 (getD_mem hi)
   have:=hm.first _ h1
   rw [← e,Int.toNat_of_nonneg this.1]
   exact h1
  | succ t ih =>
   obtain ⟨h1,h2,h3⟩:=hA.step.1 (hr t)
   exact ⟨r t,h1,ih,h2,h3⟩
 intro t _
 obtain ⟨h1,h2,_⟩:=hA.step.1 (hr t)
 exact ⟨r t,h1,hre t,h2⟩
theorem goes_takes {m:Mdl}{A:Aut}{hs ls:List Int} (hA:WordsOf m A) (hL:0 < ls.length) (h:goesM m (lat hs ls) (hs.length+(m.labels.length+1) * ls.length)):TakesU A (lat hs ls):=by
 have hN:hs.length+m.labels.length * ls.length < hs.length+(m.labels.length+1) * ls.length:=by rw [Nat.add_mul];omega
 obtain ⟨p,hp,hr,hl⟩:=h _ hN
 obtain ⟨f,f0,ft,hf⟩:=reach_fun hr
 have hlt:∀ j,j≤hs.length+m.labels.length * ls.length→f j < m.labels.length:=fun j hj=>by
  by_cases e:j=hs.length+m.labels.length * ls.length
  ·rw [e,ft];exact hp
  ·exact (hf j (by omega)).1
 have hk:∀ k,k≤m.labels.length→hs.length+k * ls.length≤hs.length+m.labels.length * ls.length:=fun k hk=>Nat.add_le_add_left (Nat.mul_le_mul_right _ hk) _
 obtain ⟨a,b,hab,hb,e⟩:=pigeonM (N:=m.labels.length) (n:=m.labels.length) (c:=fun k=>f (hs.length+k * ls.length)) (fun k h=>hlt _ (hk k h)) (Nat.le_refl _)
 have hs':∀ j,j < hs.length+m.labels.length * ls.length→stepU A (f j) (lat hs ls j) (f (j+1)):=fun j hj=>hA.step.2 (hf j hj)
 have hfst:∃ i,i < A.first.length∧A.first.getD i 0=(f 0:Int):=by
  obtain ⟨i,hi,e⟩:=List.getElem_of_mem ((hA.first _).2 f0)
  exact ⟨i,hi,by simp [List.getD,hi,e]⟩
 obtain ⟨i,hi,ei⟩:=hfst
 have hmul:(b - a) * ls.length+a * ls.length=b * ls.length:=by rw [← Nat.add_mul];congr 1;omega
 have hpos:0 < (b - a) * ls.length:=Nat.mul_pos (by omega) hL
 have hbl:=hk b hb
 refine ⟨i,hi,hs.length+a * ls.length,f (hs.length+a * ls.length),(b - a) * ls.length,?_,?_,hpos,fun j=>?_⟩
 ·have:=pathU_of_fun (f:=f) (u:=lat hs ls) (A:=A) (n:=hs.length+a * ls.length) (t:=0) (fun j hj=>by rw [Nat.zero_add];exact hs' j (by omega))
  rw [Nat.zero_add] at this
  rw [ei]
  exact this
 ·rw [hA.good]
  have:=hlt (hs.length+a * ls.length) (by omega)
  simp [List.getD,this]
 ·have:=pathU_of_fun (f:=fun t=>f (t - j * ((b - a) * ls.length))) (u:=lat hs ls) (A:=A) (n:=(b - a) * ls.length) (t:=hs.length+a * ls.length+j * ((b - a) * ls.length)) (fun i hi=>by
   rw [show hs.length+a * ls.length+j * ((b - a) * ls.length)+i - j * ((b - a) * ls.length)=hs.length+a * ls.length+i by omega,
    show hs.length+a * ls.length+j * ((b - a) * ls.length)+i+1 - j * ((b - a) * ls.length)=hs.length+a * ls.length+i+1 by omega,
    show hs.length+a * ls.length+j * ((b - a) * ls.length)+i=(hs.length+a * ls.length+i)+(j * (b - a)) * ls.length by rw [Nat.mul_assoc];omega,
    lat_period (by omega)]
   exact hs' _ (by omega))
  rw [show hs.length+a * ls.length+j * ((b - a) * ls.length) - j * ((b - a) * ls.length)=hs.length+a * ls.length by omega,
   show hs.length+a * ls.length+j * ((b - a) * ls.length)+(b - a) * ls.length - j * ((b - a) * ls.length)=hs.length+b * ls.length by omega] at this
  have e':f (hs.length+a * ls.length)=f (hs.length+b * ls.length):=e
  rw [← e'] at this
  exact this
theorem goes_iff {m:Mdl}{A:Aut}{hs ls:List Int} (hm:MRight m) (hA:WordsOf m A) (hL:0 < ls.length):goesM m (lat hs ls) (hs.length+(m.labels.length+1) * ls.length) ↔ TakesU A (lat hs ls):=
 ⟨goes_takes hA hL,fun h=>takes_goes hm hA (takesI_of h) _⟩
end Go.Proofs.YtpiacnnifdjlkabGreatDoor
namespace Go.Proofs.YtpiacnnifdjlkabGreatDoor
open Go.RowKit
def RowsSl (w:World) (v:Value) (rows:List (List Int)):Prop:=
 ∃ a cap,v=.slice a rows.length cap∧rows.length≤maxLen∧(rows=[] ∨ ∃ b off,a=some ⟨b,off,none⟩∧∀ i,i < rows.length→∃ rv,w.cell? ⟨b,off+i,none⟩=some rv∧IntSl w rv (rows.getD i []))
theorem RowsSl.below {w w':World}{v:Value}{rows:List (List Int)} (h:RowsSl w v rows) (hb:Below w.heap.size w w'):RowsSl w' v rows:=by
 obtain ⟨a,cap,rfl,hm,h⟩:=h
 refine ⟨a,cap,rfl,hm,?_⟩
 rcases h with h | ⟨b,off,rfl,hc⟩
 ·exact Or.inl h
 ·refine Or.inr ⟨b,off,rfl,fun i hi=>?_⟩
  obtain ⟨rv,h1,h2⟩:=hc i hi
  exact ⟨rv,by rw [hb.cell (World.block_lt_of_cell? w _ h1)];exact h1,h2.below hb⟩
def MdV (w:World) (v:Value) (M:Mdl):Prop:=∃ lv fv sv,v=.agg #[.int .i64 M.props,lv,fv,sv]∧IntSl w lv M.labels∧IntSl w fv M.first∧RowsSl w sv M.steps
theorem MdV.below {w w':World}{v:Value}{M:Mdl} (h:MdV w v M) (hb:Below w.heap.size w w'):MdV w' v M:=by
 obtain ⟨lv,fv,sv,rfl,h1,h2,h3⟩:=h
 exact ⟨lv,fv,sv,rfl,h1.below hb,h2.below hb,h3.below hb⟩
def notLab (p x:Int):Bool:=decide (x < 0) || decide (2 ^ p.toNat≤x)
def notSt (n:Nat) (x:Int):Bool:=decide (x < 0) || decide ((n:Int)≤x)
def rowsErr (n:Nat):List (List Int)→Int
 | []=>0
 | r :: rs=>if r=[] then 4 else if r.any (notSt n) then 5 else rowsErr n rs
def chkM (M:Mdl):Int:=
 if M.props < 0 ∨ 3 < M.props then 3 else if 12 < M.labels.length then 2 else if M.labels.length=0 ∨ M.steps.length ≠ M.labels.length then 1
 else if M.labels.any (notLab M.props) then 3 else if M.first.any (notSt M.labels.length) then 5 else rowsErr M.labels.length M.steps
theorem rowsErr_ok {n:Nat}:∀ {rs:List (List Int)},rowsErr n rs=0→∀ r ∈ rs,r ≠ []∧∀ x ∈ r,0≤x∧x < n
 | [],_,r,hr=>by cases hr
 | r :: rs,h,r',hr=>by
  unfold rowsErr at h
  by_cases h1:r=[]
  ·rw [if_pos h1] at h;omega
  ·rw [if_neg h1] at h
   by_cases h2:r.any (notSt n)=true
   ·rw [if_pos h2] at h;omega
   ·rw [if_neg h2] at h
    rcases List.mem_cons.1 hr with rfl | hr
    ·refine ⟨h1,fun x hx=>?_⟩
     have:notSt n x=false:=by
      cases hc:notSt n x with
      | false=>rfl
      | true=>exact absurd (List.any_eq_true.2 ⟨x,hx,hc⟩) h2
     simp [notSt] at this
     omega
    ·exact rowsErr_ok h r' hr
theorem chkM_right {M:Mdl} (h:chkM M=0):MRight M:=by
 unfold chkM at h
 split at h
 ·omega
 ·rename_i h1
  split at h
  ·omega
  ·rename_i h2
   split at h
   ·omega
   ·rename_i h3
    split at h
    ·omega
    ·rename_i h4
     split at h
     ·omega
     ·rename_i h5
      have hl:∀ x ∈ M.labels,notLab M.props x=false:=fun x hx=>by
       cases hc:notLab M.props x with
       | false=>rfl
       | true=>exact absurd (List.any_eq_true.2 ⟨x,hx,hc⟩) h4
      have hf:∀ x ∈ M.first,notSt M.labels.length x=false:=fun x hx=>by
       cases hc:notSt M.labels.length x with
       | false=>rfl
       | true=>exact absurd (List.any_eq_true.2 ⟨x,hx,hc⟩) h5
      refine ⟨by omega,by omega,by omega,by omega,by omega,fun x hx=>?_,fun x hx=>?_,fun r hr=>?_⟩
      ·have:=hl x hx
       simp [notLab] at this
       have hp:M.props.toNat=0 ∨ M.props.toNat=1 ∨ M.props.toNat=2 ∨ M.props.toNat=3:=by omega
       rcases hp with hp | hp | hp | hp <;> rw [hp] at this <;> simp at this <;> omega
      ·have:=hf x hx
       simp [notSt] at this
       omega
      ·exact rowsErr_ok h r hr
end Go.Proofs.YtpiacnnifdjlkabGreatDoor
namespace Go.Proofs.YtpiacnnifdjlkabGreatDoor
def dstAt (ops:Array Oper) (i:Nat):Option Tmp:=(ops[i]?).bind (·.dst)
def orderly (ops:Array Oper) (n:Nat):Bool:=
 (List.range ops.size).all fun i=>match ops[i]? with
  | none=>false
  | some o=>o.guard.isNone && o.after.toList.all (fun e=>!Region.binds .any e || decide (e.on < i)) &&
   (match o.dst with
    | none=>true
    | some d=>decide (d < n) && (List.range ops.size).all fun j=>i == j || dstAt ops j != some d)
def putAll (ops:Array Oper) (vs:Nat→Value):List Nat→Array Value→Array Value
 | [],t=>t
 | i :: l,t=>putAll ops vs l (match dstAt ops i with | some d=>t.setIfInBounds d (vs i) | none=>t)
theorem putAll_other (ops:Array Oper) (vs:Nat→Value) (k:Nat):∀ (l:List Nat) (t:Array Value),(∀ i ∈ l,dstAt ops i ≠ some k)→(putAll ops vs l t)[k]?=t[k]?
 | [],_,_=>rfl
 | i :: l,t,h=>by
  rw [putAll,putAll_other ops vs k l _ (fun j hj=>h j (List.mem_cons_of_mem _ hj))]
  have:=h i (List.mem_cons_self ..)
  cases hd:dstAt ops i with
  | none=>rfl
  | some d =>
   have hne:d ≠ k:=fun e=>this (by rw [hd,e])
   simp [hne]
theorem putAll_own (ops:Array Oper) (vs:Nat→Value) (k i:Nat) (hd:dstAt ops i=some k):∀ (l:List Nat) (t:Array Value),k < t.size→i ∈ l→(∀ j ∈ l,dstAt ops j=some k→j=i)→(putAll ops vs l t)[k]?=some (vs i)
 | [],_,_,h,_=>by cases h
 | j :: l,t,hk,h,hu=>by
  rw [putAll]
  by_cases hm:i ∈ l
  ·refine putAll_own ops vs k i hd l _ ?_ hm (fun j hj=>hu j (List.mem_cons_of_mem _ hj))
   cases dstAt ops j <;> simp [hk]
  ·have hij:i=j:=(List.mem_cons.1 h).resolve_right hm
   subst hij
   rw [putAll_other ops vs k l _ (fun j hj e=>hm (by rw [← hu j (List.mem_cons_of_mem _ hj) e];exact hj)),hd]
   simp [hk]
section
variable {P:Program}{ops:Array Oper}{Q:Exit→Act→World→Prop}{W:World→Prop}{R:Nat→Value→World→Prop}{a0:Act}
structure Amid (ops:Array Oper) (W:World→Prop) (R:Nat→Value→World→Prop) (a0:Act) (listed:Array Bool) (a:Act) (w:World):Prop where
 size:listed.size=ops.size
 tsize:a.tmps.size=a0.tmps.size
 defers:a.defers=a0.defers
 wld:W w
 rest:∀ t,(∀ i,listed[i]?=some true→dstAt ops i ≠ some t)→a.tmps[t]?=a0.tmps[t]?
 done:∀ i,listed[i]?=some true→∃ v,R i v w∧∀ d,dstAt ops i=some d→a.tmps[d]?=some v
 closed:∀ (i:Nat) (o:Oper),ops[i]?=some o→listed[i]?=some true→∀ e ∈ o.after.toList,Region.binds .any e=true→listed[e.on]?=some true
def dep (o:Oper) (j:Nat):Bool:=o.after.toList.any fun e=>Region.binds .any e && e.on == j
def free (ops:Array Oper) (i t:Nat):Bool:=(List.range ops.size).all fun j=>match ops[j]? with
 | none=>true
 | some o=>o.dst != some t || dep o i
theorem free_out {i t:Nat} (h:free ops i t=true) {j:Nat}{o:Oper} (hj:ops[j]?=some o) (hd:o.dst=some t):dep o i=true:=by
 have hlt:j < ops.size:=by
  rcases Nat.lt_or_ge j ops.size with h | h
  ·exact h
  ·rw [Array.getElem?_eq_none h] at hj;cases hj
 have:=List.all_eq_true.1 h j (List.mem_range.2 hlt)
 rw [hj] at this
 simpa [hd] using this
def StepOk (P:Program) (ops:Array Oper) (Q:Exit→Act→World→Prop) (W:World→Prop) (R:Nat→Value→World→Prop) (a0:Act) (i:Nat) (o:Oper):Prop:=
 ∀ (a:Act) (w:World) (vs:Nat→Value),W w→(∀ t,free ops i t=true→a.eval (.tmp t)=a0.eval (.tmp t)) →
  (∀ j,dep o j=true→R j (vs j) w∧∀ d,dstAt ops j=some d→a.eval (.tmp d)=vs j) →
  o.wp P a w (fun a' w'=>∃ v,a'=a.put o.dst v∧W w'∧R i v w'∧∀ j x,R j x w→R j x w') Q
theorem orderly_at (h:orderly ops a0.tmps.size=true) {i:Nat}{o:Oper} (hi:ops[i]?=some o) :
  o.guard=none∧(∀ e ∈ o.after.toList,Region.binds .any e=true→e.on < i)∧∀ d,o.dst=some d→d < a0.tmps.size∧∀ j,dstAt ops j=some d→j=i:=by
 unfold orderly at h
 have hlt:i < ops.size:=by
  rcases Nat.lt_or_ge i ops.size with h | h
  ·exact h
  ·rw [Array.getElem?_eq_none h] at hi;cases hi
 have:=List.all_eq_true.1 h i (List.mem_range.2 hlt)
 rw [hi] at this
 simp only [Bool.and_eq_true] at this
 obtain ⟨⟨h1,h2⟩,h3⟩:=this
 refine ⟨by simpa using h1,fun e he hb=>?_,fun d hd=>?_⟩
 ·have:=List.all_eq_true.1 h2 e he
  rw [hb] at this
  simpa using this
 ·rw [hd] at h3
  simp only [Bool.and_eq_true,decide_eq_true_eq] at h3
  refine ⟨h3.1,fun j hj=>?_⟩
  have hjl:j < ops.size:=by
   rcases Nat.lt_or_ge j ops.size with h | h
   ·exact h
   ·unfold dstAt at hj;rw [Array.getElem?_eq_none h] at hj;cases hj
  have:=List.all_eq_true.1 h3.2 j (List.mem_range.2 hjl)
  rw [hj] at this
  have:i=j:=by simpa using this
  exact this.symm
theorem amid_listed (h:orderly ops a0.tmps.size=true) {listed:Array Bool} (hs:listed.size=ops.size) (hr:Region.ready .any ops listed=[]):∀ i,i < ops.size→listed[i]?=some true:=by
 intro i
 induction i using Nat.strongRecOn with
 | ind i ih =>
  intro hi
  have ho:ops[i]?=some ops[i]:=Array.getElem?_eq_getElem hi
  have hl:listed[i]?=some (listed[i]'(by omega)):=Array.getElem?_eq_getElem (by omega)
  cases hb:listed[i]'(by omega) with
  | true=>rw [hl,hb]
  | false =>
   exfalso
   have hm:i ∈ Region.ready .any ops listed:=by
    unfold Region.ready
    refine List.mem_filter.2 ⟨List.mem_range.2 hi,?_⟩
    rw [hb] at hl
    simp only [Array.getD_eq_getD_getElem?,hl,ho,Option.map_some,Option.getD_some,Bool.not_false,Bool.true_and]
    rw [Array.all_eq_true_iff_forall_mem]
    intro e he
    cases hbi:Region.binds .any e with
    | false=>rfl
    | true =>
     have hlt:=(orderly_at h ho).2.1 e (by simpa using he) hbi
     rw [ih e.on hlt (by omega)]
     rfl
   rw [hr] at hm
   cases hm
theorem amid_end (h:orderly ops a0.tmps.size=true) {listed:Array Bool}{a:Act}{w:World} (hA:Amid ops W R a0 listed a w) (hr:Region.ready .any ops listed=[])
  (hend:∀ (vs:Nat→Value) (w:World),W w→(∀ i,i < ops.size→R i (vs i) w)→Q .normal { a0 with tmps:=putAll ops vs (List.range ops.size) a0.tmps } w):Q .normal a w:=by
 have hall:=amid_listed h hA.size hr
 have hex:∀ i,∃ v,i < ops.size→R i v w∧∀ d,dstAt ops i=some d→a.tmps[d]?=some v:=fun i=>by
  by_cases hi:i < ops.size
  ·obtain ⟨v,hv⟩:=hA.done i (hall i hi)
   exact ⟨v,fun _=>hv⟩
  ·exact ⟨undef,fun h=>absurd h hi⟩
 obtain ⟨vs,hvs⟩:=Classical.axiomOfChoice hex
 have ha:a={ a0 with tmps:=putAll ops vs (List.range ops.size) a0.tmps }:=by
  obtain ⟨t,d⟩:=a
  have hd:=hA.defers
  dsimp only at hd
  subst hd
  congr 1
  apply Array.ext_getElem?
  intro k
  by_cases hk:∃ i,i < ops.size∧dstAt ops i=some k
  ·obtain ⟨i,hi,hd⟩:=hk
   have ho:ops[i]?=some ops[i]:=Array.getElem?_eq_getElem hi
   have hd':ops[i].dst=some k:=by
    unfold dstAt at hd
    rw [ho] at hd
    exact hd
   obtain ⟨hlt,hu⟩:=(orderly_at h ho).2.2 k hd'
   rw [putAll_own ops vs k i hd _ _ hlt (List.mem_range.2 hi) (fun j _ hj=>hu j hj)]
   exact (hvs i hi).2 k hd
  ·rw [putAll_other ops vs k _ _ (fun i hi hd=>hk ⟨i,List.mem_range.1 hi,hd⟩)]
   refine hA.rest k fun i hi hd=>hk ⟨i,?_,hd⟩
   have:=(Array.getElem?_eq_some_iff.1 hi).1
   have:=hA.size
   omega
 rw [ha]
 exact hend vs w hA.wld fun i hi=>(hvs i hi).1
theorem wpAny_amid (h:orderly ops a0.tmps.size=true) (hstep:∀ i o,ops[i]?=some o→StepOk P ops Q W R a0 i o)
  (hend:∀ (vs:Nat→Value) (w:World),W w→(∀ i,i < ops.size→R i (vs i) w)→Q .normal { a0 with tmps:=putAll ops vs (List.range ops.size) a0.tmps } w) :
  ∀ (fuel:Nat) (listed:Array Bool) (a:Act) (w:World),listed.toList.count false≤fuel→Amid ops W R a0 listed a w→wpAny P .any ops Q fuel listed a w:=by
 intro fuel
 induction fuel with
 | zero =>
  intro listed a w hc hA
  have hr:Region.ready .any ops listed=[]:=by
   unfold Region.ready
   refine List.filter_eq_nil_iff.2 fun i hi=>?_
   have hl:i < listed.size:=by rw [hA.size];exact List.mem_range.1 hi
   have hn:false ∉ listed.toList:=List.count_eq_zero.1 (by omega)
   cases hb:listed[i] with
   | true=>simp [Array.getD_eq_getD_getElem?,Array.getElem?_eq_getElem hl,hb]
   | false=>exact absurd (by rw [← hb];simp) hn
  exact ⟨hr,amid_end h hA hr hend⟩
 | succ fuel ih =>
  intro listed a w hc hA
  refine ⟨fun hr=>amid_end h hA hr hend,fun i hi=>?_⟩
  unfold Region.ready at hi
  obtain ⟨hi1,hi2⟩:=List.mem_filter.1 hi
  have hio:i < ops.size:=List.mem_range.1 hi1
  have hil:i < listed.size:=by rw [hA.size];exact hio
  have ho:ops[i]?=some ops[i]:=Array.getElem?_eq_getElem hio
  obtain ⟨hg,hback,hdst⟩:=orderly_at h ho
  simp only [Array.getD_eq_getD_getElem?,Array.getElem?_eq_getElem hil,ho,Option.map_some,Option.getD_some,Bool.and_eq_true,Bool.not_eq_true'] at hi2
  obtain ⟨hf,hdeps⟩:=hi2
  have hw:Region.wanted ops[i] (yielded ops a.tmps)=true:=by simp [Region.wanted,hg]
  unfold wpOp
  rw [ho]
  simp only [hw,if_true]
  refine Or.inl ?_
  have hex:∀ j,∃ v,listed[j]?=some true→R j v w∧∀ d,dstAt ops j=some d→a.tmps[d]?=some v:=fun j=>by
   by_cases hj:listed[j]?=some true
   ·obtain ⟨v,hv⟩:=hA.done j hj
    exact ⟨v,fun _=>hv⟩
   ·exact ⟨undef,fun h=>absurd h hj⟩
  obtain ⟨vs,hvs⟩:=Classical.axiomOfChoice hex
  refine Oper.wp_mono ?_ (hstep i _ ho a w vs hA.wld ?_ ?_)
  ·rintro a' w' ⟨v,rfl,hW',hR',hst⟩
   refine ih _ _ _ ?_ ?_
   ·rw [Array.toList_setIfInBounds]
    have:=List.count_set (a:=true) (b:=false) (l:=listed.toList) (i:=i) (by simpa using hil)
    rw [this]
    have e:(listed.toList[i]'(by simpa using hil))=false:=by simpa using hf
    rw [e]
    have hp:0 < listed.toList.count false:=List.count_pos_iff.2 (by rw [← e];simp)
    rw [if_pos (by rfl),if_neg (by decide)]
    omega
   ·have hin:∀ j,(listed.setIfInBounds i true)[j]?=some true→j=i ∨ (j ≠ i∧listed[j]?=some true):=fun j hj=>by
     by_cases e:j=i
     ·exact Or.inl e
     ·rw [Array.getElem?_setIfInBounds,if_neg (fun e'=>e e'.symm)] at hj
      exact Or.inr ⟨e,hj⟩
    have hmine:(listed.setIfInBounds i true)[i]?=some true:=by rw [Array.getElem?_setIfInBounds,if_pos rfl,if_pos hil]
    have hdi:dstAt ops i=ops[i].dst:=by unfold dstAt;rw [ho];rfl
    refine ⟨by simpa using hA.size,?_,?_,hW',fun t ht=>?_,fun j hj=>?_,fun j oj hoj hj e he hbe=>?_⟩
    ·cases hd:ops[i].dst <;> simp [Act.put,hA.tsize]
    ·cases hd:ops[i].dst <;> simp [Act.put,hA.defers]
    ·have h1:=ht i hmine
     have h2:=hA.rest t fun j hj=>ht j (by
      by_cases e:j=i
      ·rw [e];exact hmine
      ·rw [Array.getElem?_setIfInBounds,if_neg (fun e'=>e e'.symm)];exact hj)
     cases hd:ops[i].dst with
     | none=>exact h2
     | some d =>
      have hne:d ≠ t:=fun e=>h1 (by rw [hdi,hd,e])
      simp only [Act.put]
      rw [Array.getElem?_setIfInBounds,if_neg hne]
      exact h2
    ·rcases hin j hj with rfl | ⟨hne,hj'⟩
     ·refine ⟨v,hR',fun d hd=>?_⟩
      rw [hdi] at hd
      have:=(hdst d hd).1
      simp only [Act.put,hd]
      rw [Array.getElem?_setIfInBounds,if_pos rfl,if_pos (by rw [hA.tsize];exact this)]
     ·obtain ⟨u,hu1,hu2⟩:=hA.done j hj'
      refine ⟨u,hst j u hu1,fun d hd=>?_⟩
      cases hdd:ops[i].dst with
      | none=>exact hu2 d hd
      | some d' =>
       have hne':d' ≠ d:=fun e=>hne ((hdst d' hdd).2 j (by rw [e];exact hd))
       simp only [Act.put]
       rw [Array.getElem?_setIfInBounds,if_neg hne']
       exact hu2 d hd
    ·have hel:listed[e.on]?=some true:=by
      rcases hin j hj with rfl | ⟨hne,hj'⟩
      ·rw [ho] at hoj
       injection hoj with hoj
       subst hoj
       have hlt:=hback e he hbe
       have hd:=Array.all_eq_true_iff_forall_mem.1 hdeps e (by simpa using he)
       rw [hbe] at hd
       have hee:e.on < listed.size:=by omega
       rw [Array.getElem?_eq_getElem hee] at hd ⊢
       simpa using hd
      ·exact hA.closed j oj hoj hj' e he hbe
     by_cases hei:e.on=i
     ·rw [hei];exact hmine
     ·rw [Array.getElem?_setIfInBounds,if_neg (fun e'=>hei e'.symm)];exact hel
  ·intro t ht
   have:=hA.rest t fun j hj hdj=>by
    unfold dstAt at hdj
    cases hoj:ops[j]? with
    | none=>rw [hoj] at hdj;cases hdj
    | some oj =>
     rw [hoj] at hdj
     obtain ⟨e,he,hbe⟩:=List.any_eq_true.1 (free_out ht hoj hdj)
     rw [Bool.and_eq_true] at hbe
     have hli:=hA.closed j oj hoj hj e he hbe.1
     rw [show e.on=i by simpa using hbe.2,Array.getElem?_eq_getElem hil,hf] at hli
     cases hli
   simp only [Act.eval,Array.getD_eq_getD_getElem?,this]
  ·intro j hj
   obtain ⟨e,he,hbe⟩:=List.any_eq_true.1 hj
   rw [Bool.and_eq_true] at hbe
   obtain ⟨hb,hej⟩:=hbe
   obtain rfl:e.on=j:=by simpa using hej
   have hlt:=hback e he hb
   have hd:=Array.all_eq_true_iff_forall_mem.1 hdeps e (by simpa using he)
   rw [hb] at hd
   have hel:listed[e.on]?=some true:=by
    have hee:e.on < listed.size:=by omega
    rw [Array.getElem?_eq_getElem hee] at hd ⊢
    simpa using hd
   obtain ⟨h1,h2⟩:=hvs e.on hel
   refine ⟨h1,fun d hd=>?_⟩
   simp only [Act.eval,Array.getD_eq_getD_getElem?,h2 d hd,Option.getD_some]
theorem wp_region_amid {id:Nat}{a0:Act}{w:World} (W:World→Prop) (R:Nat→Value→World→Prop) (hm:P.follows .mixedOrders=true) (h:orderly ops a0.tmps.size=true)
  (h0:W { w with drawn:=w.drawn+1 }) (hstep:∀ i o,ops[i]?=some o→StepOk P ops Q W R a0 i o)
  (hend:∀ (vs:Nat→Value) (w:World),W w→(∀ i,i < ops.size→R i (vs i) w)→Q .normal { a0 with tmps:=putAll ops vs (List.range ops.size) a0.tmps } w):(Code.region id ops true).wp P Q a0 w:=by
 refine wp_region_any hm (wpAny_amid h hstep hend _ _ _ _ ?_ ⟨by simp,rfl,rfl,h0,fun _ _=>rfl,fun i hi=>?_,fun i o _ hi=>?_⟩)
 ·exact Nat.le_trans (List.count_le_length) (by simp)
 ·simp [Array.getElem?_replicate] at hi
 ·simp [Array.getElem?_replicate] at hi
end
end Go.Proofs.YtpiacnnifdjlkabGreatDoor
