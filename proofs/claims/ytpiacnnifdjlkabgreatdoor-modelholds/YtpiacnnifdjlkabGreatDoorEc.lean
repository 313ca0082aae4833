import Derived.Test.YtpiacnnifdjlkabGreatDoorRu
import Derived.Test.YtpiacnnifdjlkabGreatDoorEa
import Derived.Test.YtpiacnnifdjlkabGreatDoorBy
import Derived.MapKept
set_option maxRecDepth 100000
set_option maxHeartbeats 8000000
namespace Go.Proofs.YtpiacnnifdjlkabGreatDoor
def nodeV (x:Nd) (c:Int) (va vb nx:Bool):Bool:=
 if x.k=2 then c.toNat.testBit x.n.toNat else if x.k=3 then !va else if x.k=4 then va && vb else if x.k=5 then va || vb else if x.k=6 then nx else if x.k=7 then vb || (va && nx) else if x.k=8 then vb && (va || nx) else true
def Ahead_ (F:List Nd):Prop:=∀ i,i < F.length→0≤(F.getD i nd0).a∧0≤(F.getD i nd0).b∧(3≤(F.getD i nd0).k→(F.getD i nd0).k≤8→(F.getD i nd0).a < i)∧((F.getD i nd0).k=4 ∨ (F.getD i nd0).k=5 ∨ (F.getD i nd0).k=7 ∨ (F.getD i nd0).k=8→(F.getD i nd0).b < i)
def kN (F:List Nd) (i:Nat):Int:=(F.getD i nd0).k
def aN (F:List Nd) (i:Nat):Nat:=(F.getD i nd0).a.toNat
def bN (F:List Nd) (i:Nat):Nat:=(F.getD i nd0).b.toNat
def Loc (F:List Nd) (u:Nat→Int) (v:Nat→Nat→Bool):Prop:=
 ∀ t i,i < F.length→v t i=nodeV (F.getD i nd0) (u t) (v t (aN F i)) (v t (bN F i)) (if kN F i=6 then v (t+1) (aN F i) else v (t+1) i)
def Kept7 (F:List Nd) (v:Nat→Nat→Bool):Prop:=
 ∀ i,i < F.length→kN F i=7 ∨ kN F i=8→∀ t,∃ s,t≤s∧v s i=v s (bN F i)
theorem loc_one {F:List Nd} (hF:Ahead_ F) {u:Nat→Int}{v v':Nat→Nat→Bool} (h:Loc F u v) (h':Loc F u v') (hk:Kept7 F v) (hk':Kept7 F v'):∀ i,i < F.length→∀ t,v t i=v' t i:=by
 intro i
 induction i using Nat.strongRecOn with
 | ind i ih =>
  intro hi
  obtain ⟨ha0,hb0,ha,hb⟩:=hF i hi
  have hva:3≤kN F i→kN F i≤8→∀ t,v t (aN F i)=v' t (aN F i):=fun h1 h2 t=>by
   have:=ha h1 h2
   exact ih (aN F i) (by unfold aN;omega) (by unfold aN;omega) t
  have hvb:kN F i=4 ∨ kN F i=5 ∨ kN F i=7 ∨ kN F i=8→∀ t,v t (bN F i)=v' t (bN F i):=fun h1 t=>by
   have:=hb h1
   exact ih (bN F i) (by unfold bN;omega) (by unfold bN;omega) t
  by_cases h78:kN F i=7 ∨ kN F i=8
  ·
   intro t
   refine Classical.byContradiction fun hne=>?_
   have hkk:3≤kN F i∧kN F i≤8:=by omega
   have key:∀ t,v t i ≠ v' t i→v (t+1) i=v t i∧v' (t+1) i=v' t i∧v t (bN F i)=decide (kN F i=8):=by
    intro t hne
    have e1:=h t i hi
    have e2:=h' t i hi
    rw [if_neg (by omega)] at e1 e2
    rw [← hva hkk.1 hkk.2 t,← hvb (by omega) t] at e2
    have hk78:=h78
    unfold nodeV at e1 e2
    have hkd:(F.getD i nd0).k=kN F i:=rfl
    rw [hkd] at e1 e2
    generalize v t (aN F i)=A at *
    generalize v t (bN F i)=B at *
    generalize v (t+1) i=X at *
    generalize v' (t+1) i=Y at *
    generalize v t i=P at *
    generalize v' t i=Q at *
    rcases hk78 with h7 | h8
    ·rw [h7] at e1 e2 ⊢
     simp at e1 e2 ⊢
     subst e1 e2
     cases A <;> cases B <;> cases X <;> cases Y <;> simp_all
    ·rw [h8] at e1 e2 ⊢
     simp at e1 e2 ⊢
     subst e1 e2
     cases A <;> cases B <;> cases X <;> cases Y <;> simp_all
   have all:∀ d,v (t+d) i=v t i∧v' (t+d) i=v' t i:=by
    intro d
    induction d with
    | zero=>exact ⟨rfl,rfl⟩
    | succ d ihd =>
     obtain ⟨k1,k2,_⟩:=key (t+d) (by rw [ihd.1,ihd.2];exact hne)
     exact ⟨by rw [← Nat.add_assoc,k1,ihd.1],by rw [← Nat.add_assoc,k2,ihd.2]⟩
   have hbc:∀ d,v (t+d) (bN F i)=decide (kN F i=8):=fun d=>(key (t+d) (by rw [(all d).1,(all d).2];exact hne)).2.2
   obtain ⟨s,hs,e⟩:=hk i hi h78 t
   obtain ⟨s',hs',e'⟩:=hk' i hi h78 t
   have a1:=(all (s - t)).1
   have a2:=hbc (s - t)
   have a3:=(all (s' - t)).2
   have a4:=hbc (s' - t)
   rw [show t+(s - t)=s by omega] at a1 a2
   rw [show t+(s' - t)=s' by omega] at a3 a4
   rw [hvb (by omega) s'] at a4
   rw [a1,a2] at e
   rw [a3,a4] at e'
   rw [e,e'] at hne
   exact hne rfl
  ·intro t
   rw [h t i hi,h' t i hi]
   have hkd:(F.getD i nd0).k=kN F i:=rfl
   by_cases h6:kN F i=6
   ·unfold nodeV
    rw [hkd,h6]
    simp only [if_true]
    have:=hva (by omega) (by omega) (t+1)
    simpa using this
   ·unfold nodeV
    rw [hkd]
    by_cases h3:kN F i=3
    ·rw [h3];simp [hva (by omega) (by omega) t]
    ·by_cases h4:kN F i=4
     ·rw [h4];simp [hva (by omega) (by omega) t,hvb (by omega) t]
     ·by_cases h5:kN F i=5
      ·rw [h5];simp [hva (by omega) (by omega) t,hvb (by omega) t]
      ·have h7:kN F i ≠ 7:=by omega
       have h8:kN F i ≠ 8:=by omega
       simp only [h3,h4,h5,h6,h7,h8,if_false]
def partsF (s:Nat):Nat→Nat→List Nat
 | 0,p=>[p]
 | d+1,p=>if p=0 then [0] else p :: partsF s d ((p - 1) &&& s)
def partsL (s:Nat):List Nat:=partsF s s s
theorem and_two (a b:Nat):(a &&& b) % 2=(a % 2) * (b % 2):=by
 have h:=Nat.and_mod_two_pow (a:=a) (b:=b) (n:=1)
 rw [show (2:Nat) ^ 1=2 from rfl] at h
 rw [h]
 rcases Nat.mod_two_eq_zero_or_one a with h1 | h1 <;> rcases Nat.mod_two_eq_zero_or_one b with h2 | h2 <;> rw [h1,h2] <;> rfl
theorem sub_two {t s:Nat} (h:t &&& s=t):t / 2 &&& s / 2=t / 2∧(t % 2=1→s % 2=1):=by
 have h1:=congrArg (· / 2) h
 have h2:=congrArg (· % 2) h
 simp only [Nat.and_div_two] at h1
 simp only [and_two] at h2
 refine ⟨h1,fun h3=>?_⟩
 rw [h3] at h2
 omega
theorem next_part:∀ (n s p t:Nat),s < n→p &&& s=p→t &&& s=t→t < p→t≤(p - 1) &&& s
 | 0,s,p,t,h,_,_,_=>absurd h (Nat.not_lt_zero _)
 | n+1,s,p,t,hs,hp,ht,hlt=>by
  obtain ⟨hp1,hp2⟩:=sub_two hp
  obtain ⟨ht1,ht2⟩:=sub_two ht
  have hs0:0 < s:=by
   refine Nat.pos_of_ne_zero fun e=>?_
   subst e
   rw [Nat.and_zero] at hp
   omega
  have e1:=Nat.div_add_mod ((p - 1) &&& s) 2
  rw [Nat.and_div_two,and_two] at e1
  rcases Nat.mod_two_eq_zero_or_one p with h0 | h0
  ·have e2:(p - 1) / 2=p / 2 - 1:=by omega
   have e3:(p - 1) % 2=1:=by omega
   rw [e2,e3,Nat.one_mul] at e1
   have ih:=next_part n (s / 2) (p / 2) (t / 2) (by omega) hp1 ht1 (by omega)
   rcases Nat.mod_two_eq_zero_or_one t with h1 | h1
   ·omega
   ·have:=ht2 h1
    omega
  ·have e2:(p - 1) / 2=p / 2:=by omega
   have e3:(p - 1) % 2=0:=by omega
   rw [e2,e3,hp1,Nat.zero_mul] at e1
   omega
theorem and_idem_right (a s:Nat):a &&& s &&& s=a &&& s:=by rw [Nat.and_assoc,Nat.and_self]
theorem partsF_mem {s:Nat}:∀ {d p t:Nat},p≤d→p &&& s=p→(t ∈ partsF s d p ↔ t &&& s=t∧t≤p)
 | 0,p,t,hd,hp=>by
  have e:p=0:=by omega
  subst e
  simp only [partsF,List.mem_singleton]
  constructor
  ·rintro rfl;exact ⟨Nat.zero_and _,Nat.le_refl _⟩
  ·rintro ⟨_,h⟩;omega
 | d+1,p,t,hd,hp=>by
  unfold partsF
  by_cases h0:p=0
  ·subst h0
   rw [if_pos rfl,List.mem_singleton]
   constructor
   ·rintro rfl;exact ⟨Nat.zero_and _,Nat.le_refl _⟩
   ·rintro ⟨_,h⟩;omega
  ·rw [if_neg h0,List.mem_cons]
   have hle:(p - 1) &&& s≤p - 1:=Nat.and_le_left
   rw [partsF_mem (d:=d) (p:=(p - 1) &&& s) (by omega) (and_idem_right _ _)]
   constructor
   ·rintro (rfl | ⟨h1,h2⟩)
    ·exact ⟨hp,Nat.le_refl _⟩
    ·exact ⟨h1,by omega⟩
   ·rintro ⟨h1,h2⟩
    by_cases e:t=p
    ·exact Or.inl e
    ·exact Or.inr ⟨h1,next_part (s+1) s p t (by omega) hp h1 (by omega)⟩
theorem partsL_mem {s t:Nat}:t ∈ partsL s ↔ t &&& s=t:=by
 unfold partsL
 rw [partsF_mem (Nat.le_refl _) (Nat.and_self s)]
 constructor
 ·exact fun h=>h.1
 ·exact fun h=>⟨h,by rw [← h];exact Nat.and_le_right⟩
theorem partsF_nodup {s:Nat}:∀ {d p:Nat},p≤d→p &&& s=p→(partsF s d p).Nodup
 | 0,p,hd,hp=>by simp [partsF]
 | d+1,p,hd,hp=>by
  unfold partsF
  by_cases h0:p=0
  ·rw [if_pos h0];simp
  ·rw [if_neg h0,List.nodup_cons]
   have hle:(p - 1) &&& s≤p - 1:=Nat.and_le_left
   refine ⟨fun h=>?_,partsF_nodup (by omega) (and_idem_right _ _)⟩
   have:=((partsF_mem (by omega) (and_idem_right _ _)).1 h).2
   omega
theorem partsL_nodup (s:Nat):(partsL s).Nodup:=partsF_nodup (Nat.le_refl _) (Nat.and_self s)
abbrev Spo:=Bool × Nat × Nat
def addBit (s i:Nat):Nat:=s ||| 2 ^ i
theorem addBit_test (s i j:Nat):(addBit s i).testBit j=(s.testBit j || decide (i=j)):=by
 unfold addBit
 rw [Nat.testBit_or,Nat.testBit_two_pow]
def foreN (F:List Nd):Nat→Nat
 | 0=>0
 | m+1=>if 6≤kN F m∧kN F m≤8 then addBit (foreN F m) m else foreN F m
def lastN (F:List Nd):Nat→List Nat
 | 0=>[]
 | m+1=>if kN F m=7 ∨ kN F m=8 then lastN F m ++ [m] else lastN F m
def foreL (F:List Nd):Nat:=foreN F F.length
def lastL (F:List Nd):List Nat:=lastN F F.length
theorem foreN_test (F:List Nd) (i:Nat):∀ m,(foreN F m).testBit i=(decide (i < m) && decide (6≤kN F i∧kN F i≤8))
 | 0=>by simp [foreN]
 | m+1=>by
  unfold foreN
  by_cases h:6≤kN F m∧kN F m≤8
  ·rw [if_pos h,addBit_test,foreN_test F i m]
   by_cases e:m=i
   ·subst e;simp [h]
   ·have:(i < m+1)=(i < m):=by simp;omega
    simp [e,this]
  ·rw [if_neg h,foreN_test F i m]
   by_cases e:m=i
   ·subst e;simp [h]
   ·have:(i < m+1)=(i < m):=by simp;omega
    simp [this]
theorem lastN_mem (F:List Nd) (i:Nat):∀ m,i ∈ lastN F m ↔ i < m∧(kN F i=7 ∨ kN F i=8)
 | 0=>by simp [lastN]
 | m+1=>by
  unfold lastN
  by_cases h:kN F m=7 ∨ kN F m=8
  ·rw [if_pos h,List.mem_append,lastN_mem F i m,List.mem_singleton]
   constructor
   ·rintro (⟨h1,h2⟩ | rfl)
    ·exact ⟨by omega,h2⟩
    ·exact ⟨by omega,h⟩
   ·rintro ⟨h1,h2⟩
    by_cases e:i=m
    ·exact Or.inr e
    ·exact Or.inl ⟨by omega,h2⟩
  ·rw [if_neg h,lastN_mem F i m]
   constructor
   ·rintro ⟨h1,h2⟩;exact ⟨by omega,h2⟩
   ·rintro ⟨h1,h2⟩
    refine ⟨?_,h2⟩
    by_cases e:i=m
    ·subst e;exact absurd h2 h
    ·omega
def nowN (F:List Nd) (c:Int) (next:Nat):Nat→Nat
 | 0=>0
 | m+1=>if nodeV (F.getD m nd0) c ((nowN F c next m).testBit (aN F m)) ((nowN F c next m).testBit (bN F m)) (next.testBit m)=true then addBit (nowN F c next m) m else nowN F c next m
def nowL (F:List Nd) (c:Int) (next:Nat):Nat:=nowN F c next F.length
theorem nowN_high (F:List Nd) (c:Int) (next:Nat) (i:Nat):∀ m,m≤i→(nowN F c next m).testBit i=false
 | 0,_=>by simp [nowN]
 | m+1,h=>by
  unfold nowN
  have:=nowN_high F c next i m (by omega)
  split
  ·rw [addBit_test,this,decide_eq_false (by omega)];rfl
  ·exact this
theorem nowN_keep (F:List Nd) (c:Int) (next:Nat) (i:Nat):∀ d m,i < m→(nowN F c next (m+d)).testBit i=(nowN F c next m).testBit i
 | 0,_,_=>rfl
 | d+1,m,h=>by
  rw [← Nat.add_assoc]
  conv=>lhs;unfold nowN
  have:=nowN_keep F c next i d m h
  split
  ·rw [addBit_test,this,decide_eq_false (by omega),Bool.or_false]
  ·exact this
theorem nowL_test {F:List Nd} (hF:Ahead_ F) (c:Int) (next:Nat) {i:Nat} (hi:i < F.length):(nowL F c next).testBit i=nodeV (F.getD i nd0) c ((nowL F c next).testBit (aN F i)) ((nowL F c next).testBit (bN F i)) (next.testBit i):=by
 have e:nowL F c next=nowN F c next (i+1+(F.length - (i+1))):=by unfold nowL;congr 1;omega
 have low:∀ j,j < i→(nowL F c next).testBit j=(nowN F c next i).testBit j:=fun j hj=>by
  have:=nowN_keep F c next j (F.length - i) i hj
  rw [show i+(F.length - i)=F.length by omega] at this
  exact this
 have h1:(nowL F c next).testBit i=(nowN F c next (i+1)).testBit i:=by rw [e];exact nowN_keep F c next i _ (i+1) (by omega)
 rw [h1]
 conv=>lhs;unfold nowN
 have hh:=nowN_high F c next i i (Nat.le_refl _)
 obtain ⟨ha0,hb0,ha,hb⟩:=hF i hi
 have hn:nodeV (F.getD i nd0) c ((nowN F c next i).testBit (aN F i)) ((nowN F c next i).testBit (bN F i)) (next.testBit i)=nodeV (F.getD i nd0) c ((nowL F c next).testBit (aN F i)) ((nowL F c next).testBit (bN F i)) (next.testBit i):=by
  have hkd:(F.getD i nd0).k=kN F i:=rfl
  have la:3≤kN F i→kN F i≤8→(nowL F c next).testBit (aN F i)=(nowN F c next i).testBit (aN F i):=fun h1 h2=>low _ (by have:=ha h1 h2;unfold aN;omega)
  have lb:kN F i=4 ∨ kN F i=5 ∨ kN F i=7 ∨ kN F i=8→(nowL F c next).testBit (bN F i)=(nowN F c next i).testBit (bN F i):=fun h1=>low _ (by have:=hb h1;unfold bN;omega)
  unfold nodeV
  rw [hkd]
  by_cases h2:kN F i=2
  ·simp [h2]
  by_cases h3:kN F i=3
  ·simp [h3,la (by omega) (by omega)]
  by_cases h4:kN F i=4
  ·simp [h4,la (by omega) (by omega),lb (by omega)]
  by_cases h5:kN F i=5
  ·simp [h5,la (by omega) (by omega),lb (by omega)]
  by_cases h6:kN F i=6
  ·simp [h6]
  by_cases h7:kN F i=7
  ·simp [h7,la (by omega) (by omega),lb (by omega)]
  by_cases h8:kN F i=8
  ·simp [h8,la (by omega) (by omega),lb (by omega)]
  simp [h2,h3,h4,h5,h6,h7,h8]
 rw [hn]
 generalize nodeV (F.getD i nd0) c ((nowL F c next).testBit (aN F i)) ((nowL F c next).testBit (bN F i)) (next.testBit i)=b
 cases b with
 | true=>rw [if_pos rfl,addBit_test];simp
 | false=>rw [if_neg (by simp)];exact hh
def partN (F:List Nd) (i:Nat):Nat:=if kN F i=6 then aN F i else i
def fitsL (F:List Nd) (s:Spo) (now:Nat):Bool:=
 if s.1=true then now.testBit (F.length - 1) else (List.range F.length).all fun i=>!(foreL F).testBit i || (s.2.1.testBit i == now.testBit (partN F i))
def advL (ok:Nat→Bool):Nat→Nat→Nat
 | 0,t=>t
 | d+1,t=>if ok t=true then advL ok d (t+1) else t
def okAt (F:List Nd) (now t:Nat):Bool:=now.testBit ((lastL F).getD t 0) == now.testBit (bN F ((lastL F).getD t 0))
def turnL (F:List Nd) (turn now:Nat):Nat:=
 advL (okAt F now) ((lastL F).length - (if turn=(lastL F).length then 0 else turn)) (if turn=(lastL F).length then 0 else turn)
def goodT (F:List Nd) (s:Spo):Bool:=decide (s.2.2=(lastL F).length)
def afterT (F:List Nd) (s:Spo):List (Int × Spo):=
 (List.range 8).flatMap fun c=>((partsL (foreL F)).filter fun told=>fitsL F s (nowL F (c:Nat) told)).map fun told=>((c:Int),(false,told,turnL F s.2.2 (nowL F (c:Nat) told)))
theorem afterT_mem {F:List Nd}{s q:Spo}{c:Int}:(c,q) ∈ afterT F s ↔ 0≤c∧c < 8∧q.1=false∧q.2.1 &&& foreL F=q.2.1∧fitsL F s (nowL F c q.2.1)=true∧q.2.2=turnL F s.2.2 (nowL F c q.2.1):=by
 unfold afterT
 constructor
 ·intro h
  obtain ⟨d,hd,h⟩:=List.mem_flatMap.1 h
  obtain ⟨told,ht,h⟩:=List.mem_map.1 h
  obtain ⟨ht,hf⟩:=List.mem_filter.1 ht
  have hd:=List.mem_range.1 hd
  injection h with h1 h2
  subst h1 h2
  exact ⟨by omega,by omega,rfl,partsL_mem.1 ht,hf,rfl⟩
 ·rintro ⟨h1,h2,h3,h4,h5,h6⟩
  refine List.mem_flatMap.2 ⟨c.toNat,List.mem_range.2 (by omega),List.mem_map.2 ⟨q.2.1,List.mem_filter.2 ⟨partsL_mem.2 h4,?_⟩,?_⟩⟩
  ·rw [show ((c.toNat:Nat):Int)=c by omega];exact h5
  ·rw [show ((c.toNat:Nat):Int)=c by omega,← h6,← h3]
end Go.Proofs.YtpiacnnifdjlkabGreatDoor
namespace Go.Proofs.YtpiacnnifdjlkabGreatDoor
open Go.RowKit Go.Sort
structure Sg where
 text:List UInt8
 parts:Int
 num:Bool
 temp:Bool
 opp:Int
def sgV (s:Sg):Value:=.agg #[.string ⟨s.text.toArray⟩,.int .i64 s.parts,.bool s.num,.bool s.temp,.int .i64 s.opp]
def sgOf (k:Int):Option Sg:=
 if k=1 then some ⟨[116,114,117,101],0,false,false,0⟩ else if k=2 then some ⟨[112],0,true,false,0⟩ else if k=3 then some ⟨[33],1,false,false,0⟩
 else if k=4 then some ⟨[38],2,false,false,5⟩ else if k=5 then some ⟨[124],2,false,false,4⟩ else if k=6 then some ⟨[88],1,false,true,6⟩
 else if k=7 then some ⟨[85],2,false,true,8⟩ else if k=8 then some ⟨[82],2,false,true,7⟩ else none
def sg0:Sg:=⟨[],0,false,false,0⟩
def sgAt (k:Int) (b:Nat):MapEntry:={ key:=.int .i64 k,val:=sgV ((sgOf k).getD sg0),born:=b }
theorem set_last {α:Type} (xs:Array α) (a b:α):(xs.push a).setIfInBounds xs.size b=xs.push b:=by
 apply Array.ext
 ·simp
 ·intro i h1 h2
  simp only [Array.size_setIfInBounds,Array.size_push] at h1
  rw [Array.getElem_setIfInBounds (by simpa using h1),Array.getElem_push,Array.getElem_push]
  by_cases e:xs.size=i
  ·subst e;simp
  ·have:i < xs.size:=by omega
   simp [e,this]
theorem ins_sign (w:World) (es:Array MapEntry) (c:Nat) (p:Int) (v:Value) (h:Instr.findNow (.int .i64) (.int .i64 p) es.toList 0=some none) :
  (Instr.mapUpdate 99 (.map (some w.heap.size)) (.int .i64 p) v).run Tryz.prog (w.alloc (.map es c))=.ok () (w.alloc (.map (es.push { key:=.int .i64 p,val:=v,born:=c }) (c+1))):=by
 have hr:(w.alloc (.map es c)).heap[w.heap.size]?=some (.map es c):=heap_alloc_new w _
 have hk:MapKept.IsKey (.int .i64) (.int .i64 p):=by simp [MapKept.IsKey]
 have hd:=Tryz.underlying3
 simp [Instr.mapUpdate,run_underlying Tryz.underlying99,Go.MapKept.run_getObj_map hr,Go.MapKept.run_checkKey hd hk,Go.MapKept.run_findKey hd h,Go.MapKept.run_setObj_map _ hr,Result.andThen]
 exact congrArg (fun h=>({ w with heap:=h }:World)) (set_last w.heap _ _)
theorem signs_any (w:World) :
  Calls Tryz.prog 67 #[] w fun e w'=>∃ r,e=.returned (.map (some r))∧w'.heap[r]?=some (.map #[sgAt 1 0,sgAt 2 1,sgAt 3 2,sgAt 4 3,sgAt 5 4,sgAt 6 5,sgAt 7 6,sgAt 8 7] 8)∧w.heap.size≤r∧Below w.heap.size w w':=by
 have h1:=ins_sign w #[] 0 1 (sgV ((sgOf 1).getD sg0)) rfl
 have h2:=ins_sign w #[sgAt 1 0] 1 2 (sgV ((sgOf 2).getD sg0)) rfl
 have h3:=ins_sign w #[sgAt 1 0,sgAt 2 1] 2 3 (sgV ((sgOf 3).getD sg0)) rfl
 have h4:=ins_sign w #[sgAt 1 0,sgAt 2 1,sgAt 3 2] 3 4 (sgV ((sgOf 4).getD sg0)) rfl
 have h5:=ins_sign w #[sgAt 1 0,sgAt 2 1,sgAt 3 2,sgAt 4 3] 4 5 (sgV ((sgOf 5).getD sg0)) rfl
 have h6:=ins_sign w #[sgAt 1 0,sgAt 2 1,sgAt 3 2,sgAt 4 3,sgAt 5 4] 5 6 (sgV ((sgOf 6).getD sg0)) rfl
 have h7:=ins_sign w #[sgAt 1 0,sgAt 2 1,sgAt 3 2,sgAt 4 3,sgAt 5 4,sgAt 6 5] 6 7 (sgV ((sgOf 7).getD sg0)) rfl
 have h8:=ins_sign w #[sgAt 1 0,sgAt 2 1,sgAt 3 2,sgAt 4 3,sgAt 5 4,sgAt 6 5,sgAt 7 6] 7 8 (sgV ((sgOf 8).getD sg0)) rfl
 have hE:∀ (k:Int) (b:Nat),({ key:=.int .i64 k,val:=sgV ((sgOf k).getD sg0),born:=b }:MapEntry)=sgAt k b:=fun _ _=>rfl
 simp only [List.push_toArray,List.cons_append,List.nil_append,hE,Nat.reduceAdd] at h1 h2 h3 h4 h5 h6 h7 h8
 have e1:sgV ((sgOf 1).getD sg0)=.agg #[.string ⟨#[116,114,117,101]⟩,.int .i64 0,.bool false,.bool false,.int .i64 0]:=rfl
 have e2:sgV ((sgOf 2).getD sg0)=.agg #[.string ⟨#[112]⟩,.int .i64 0,.bool true,.bool false,.int .i64 0]:=rfl
 have e3:sgV ((sgOf 3).getD sg0)=.agg #[.string ⟨#[33]⟩,.int .i64 1,.bool false,.bool false,.int .i64 0]:=rfl
 have e4:sgV ((sgOf 4).getD sg0)=.agg #[.string ⟨#[38]⟩,.int .i64 2,.bool false,.bool false,.int .i64 5]:=rfl
 have e5:sgV ((sgOf 5).getD sg0)=.agg #[.string ⟨#[124]⟩,.int .i64 2,.bool false,.bool false,.int .i64 4]:=rfl
 have e6:sgV ((sgOf 6).getD sg0)=.agg #[.string ⟨#[88]⟩,.int .i64 1,.bool false,.bool true,.int .i64 6]:=rfl
 have e7:sgV ((sgOf 7).getD sg0)=.agg #[.string ⟨#[85]⟩,.int .i64 2,.bool false,.bool true,.int .i64 8]:=rfl
 have e8:sgV ((sgOf 8).getD sg0)=.agg #[.string ⟨#[82]⟩,.int .i64 2,.bool false,.bool true,.int .i64 7]:=rfl
 rw [e1] at h1;rw [e2] at h2;rw [e3] at h3;rw [e4] at h4;rw [e5] at h5;rw [e6] at h6;rw [e7] at h7;rw [e8] at h8
 clear e1 e2 e3 e4 e5 e6 e7 e8 hE
 have hmk:∀ w:World,(Instr.makeMap 99 none).run Tryz.prog w=.ok (.map (some w.heap.size)) (w.alloc (.map #[] 0)):=fun _=>rfl
 go_enter Tryz.func67,Tryz.ntmps67
 go_wp2_with (fail)
 go_ret
 exact ⟨w.heap.size,rfl,heap_alloc_new w _,Nat.le_refl _,below_new w _⟩
def SgMap (w:World) (r:Nat):Prop:=w.heap[r]?=some (.map #[sgAt 1 0,sgAt 2 1,sgAt 3 2,sgAt 4 3,sgAt 5 4,sgAt 6 5,sgAt 7 6,sgAt 8 7] 8)
theorem SgMap.lt {w:World}{r:Nat} (h:SgMap w r):r < w.heap.size:=(Array.getElem?_eq_some_iff.1 h).1
theorem SgMap.below {w w':World}{r:Nat} (h:SgMap w r) (hb:Below w.heap.size w w'):SgMap w' r:=(hb.block r h.lt).trans h
theorem find_sign (k:Int):(sgOf k=none∧Instr.findNow (.int .i64) (.int .i64 k) [sgAt 1 0,sgAt 2 1,sgAt 3 2,sgAt 4 3,sgAt 5 4,sgAt 6 5,sgAt 7 6,sgAt 8 7] 0=some none) ∨
  ∃ s i,sgOf k=some s∧Instr.findNow (.int .i64) (.int .i64 k) [sgAt 1 0,sgAt 2 1,sgAt 3 2,sgAt 4 3,sgAt 5 4,sgAt 6 5,sgAt 7 6,sgAt 8 7] 0=some (some (i,sgV s)):=by
 by_cases h1:k=1
 ·subst h1;exact .inr ⟨_,0,rfl,rfl⟩
 by_cases h2:k=2
 ·subst h2;exact .inr ⟨_,1,rfl,rfl⟩
 by_cases h3:k=3
 ·subst h3;exact .inr ⟨_,2,rfl,rfl⟩
 by_cases h4:k=4
 ·subst h4;exact .inr ⟨_,3,rfl,rfl⟩
 by_cases h5:k=5
 ·subst h5;exact .inr ⟨_,4,rfl,rfl⟩
 by_cases h6:k=6
 ·subst h6;exact .inr ⟨_,5,rfl,rfl⟩
 by_cases h7:k=7
 ·subst h7;exact .inr ⟨_,6,rfl,rfl⟩
 by_cases h8:k=8
 ·subst h8;exact .inr ⟨_,7,rfl,rfl⟩
 left
 refine ⟨by simp [sgOf,h1,h2,h3,h4,h5,h6,h7,h8],?_⟩
 have b1:(k == 1)=false:=by simpa using h1
 have b2:(k == 2)=false:=by simpa using h2
 have b3:(k == 3)=false:=by simpa using h3
 have b4:(k == 4)=false:=by simpa using h4
 have b5:(k == 5)=false:=by simpa using h5
 have b6:(k == 6)=false:=by simpa using h6
 have b7:(k == 7)=false:=by simpa using h7
 have b8:(k == 8)=false:=by simpa using h8
 simp [Instr.findNow,Instr.sameNow,sgAt,b1,b2,b3,b4,b5,b6,b7,b8]
theorem lookup_none {w:World}{r c:Nat}{es:Array MapEntry}{k:Int} (hr:w.heap[r]?=some (.map es c)) (h:Instr.findNow (.int .i64) (.int .i64 k) es.toList 0=some none) :
  (Instr.lookup 99 (.map (some r)) (.int .i64 k) false).run Tryz.prog w=.ok (sgV sg0) w∧(Instr.lookup 99 (.map (some r)) (.int .i64 k) true).run Tryz.prog w=.ok (.tuple #[sgV sg0,.bool false]) w:=by
 have hkey:MapKept.IsKey (.int .i64) (.int .i64 k):=by simp [MapKept.IsKey]
 have hk:=MapKept.run_checkKey (P:=Tryz.prog) (w:=w) Tryz.underlying3 hkey es.isEmpty 9999
 have hf:=MapKept.run_findKey (P:=Tryz.prog) (w:=w) Tryz.underlying3 h
 have hz:sgV sg0=.agg #[.string ⟨#[]⟩,.int .i64 0,.bool false,.bool false,.int .i64 0]:=rfl
 have hzz:(zeroValue 141:Sem Value).run Tryz.prog w=.ok (.agg #[.string ⟨#[]⟩,.int .i64 0,.bool false,.bool false,.int .i64 0]) w:=rfl
 rw [hz]
 constructor
 ·simp [Instr.lookup,run_underlying Tryz.underlying99,Go.MapKept.run_getObj_map hr,hk,hf,hzz]
 ·simp [Instr.lookup,run_underlying Tryz.underlying99,Go.MapKept.run_getObj_map hr,hk,hf,hzz]
theorem lookup_some {w:World}{r c i:Nat}{es:Array MapEntry}{k:Int}{v:Value} (hr:w.heap[r]?=some (.map es c)) (h:Instr.findNow (.int .i64) (.int .i64 k) es.toList 0=some (some (i,v))) :
  (Instr.lookup 99 (.map (some r)) (.int .i64 k) false).run Tryz.prog w=.ok v w∧(Instr.lookup 99 (.map (some r)) (.int .i64 k) true).run Tryz.prog w=.ok (.tuple #[v,.bool true]) w:=by
 have hkey:MapKept.IsKey (.int .i64) (.int .i64 k):=by simp [MapKept.IsKey]
 have hk:=MapKept.run_checkKey (P:=Tryz.prog) (w:=w) Tryz.underlying3 hkey es.isEmpty 9999
 have hf:=MapKept.run_findKey (P:=Tryz.prog) (w:=w) Tryz.underlying3 h
 constructor
 ·simp [Instr.lookup,run_underlying Tryz.underlying99,Go.MapKept.run_getObj_map hr,hk,hf]
 ·simp [Instr.lookup,run_underlying Tryz.underlying99,Go.MapKept.run_getObj_map hr,hk,hf]
theorem run_lookup_sign {w:World}{r:Nat} (h:SgMap w r) (k:Int) :
  (Instr.lookup 99 (.map (some r)) (.int .i64 k) false).run Tryz.prog w=.ok (sgV ((sgOf k).getD sg0)) w∧(Instr.lookup 99 (.map (some r)) (.int .i64 k) true).run Tryz.prog w=.ok (.tuple #[sgV ((sgOf k).getD sg0),.bool (sgOf k).isSome]) w:=by
 rcases find_sign k with ⟨h1,h2⟩ | ⟨s,i,h1,h2⟩
 ·rw [h1];exact lookup_none h h2
 ·rw [h1];exact lookup_some h h2
theorem ahead_any (x n:Int) (a:Addr) (w:World) (ha:w.cell? a=some (.int .i64 n)) :
  Calls Tryz.prog 149 #[.int .i64 x,.pointer (some a)] w fun e w'=>e=.returned (.bool (decide (0≤x∧x < n)))∧w'=w:=by
 by_cases h1:0≤x
 ·go_enter Tryz.func149,Tryz.ntmps149
  go_wp2
  go_ret
  exact ⟨by simp [h1],rfl⟩
 ·have h2:x < 0:=by omega
  have e:decide (0≤x∧x < n)=false:=by simp;omega
  rw [e]
  clear h1 e
  go_enter Tryz.func149,Tryz.ntmps149
  go_wp2
  go_ret
  exact ⟨rfl,rfl⟩
theorem cell_under (w:World) (o:Obj) {a:Addr}{v:Value} (h:w.cell? a=some v):(w.alloc o).cell? a=some v:=by
 rw [(below_new w o).cell (World.block_lt_of_cell? w _ h)];exact h
def chkN (x:Nd) (i:Int):Int:=
 if (3≤x.k∧x.k≤8)∧¬ (0≤x.a∧x.a < i) ∨ (x.k=4 ∨ x.k=5 ∨ x.k=7 ∨ x.k=8)∧¬ (0≤x.b∧x.b < i) then 5
 else if x.k=2∧¬ (0≤x.n∧x.n≤2) then 3
 else if ¬ (3≤x.k∧x.k≤8)∧x.a ≠ 0 ∨ ¬ (x.k=4 ∨ x.k=5 ∨ x.k=7 ∨ x.k=8)∧x.b ≠ 0 ∨ x.k ≠ 2∧x.n ≠ 0 then 1 else 0
theorem checkNode_two (k a b n i:Int) (t:List UInt8) (tp:Bool) (o:Int) (w:World) :
  Calls Tryz.prog 97 #[.agg #[.int .i64 k,.int .i64 a,.int .i64 b,.int .i64 n],.int .i64 i,.agg #[.string ⟨t.toArray⟩,.int .i64 2,.bool false,.bool tp,.int .i64 o]] w fun e w'=>e=.returned (.int .i64 (if (0≤a∧a < i)∧0≤b∧b < i then if n=0 then 0 else 1 else 5))∧Below w.heap.size w w':=by
 have hmf:∀ (fn:Fn) (first cap:Array Value) (w:World),(Instr.makeFunc fn first cap).run Tryz.prog w=.ok (.func fn first cap) w:=fun _ _ _ _=>rfl
 by_cases ha:0≤a∧a < i
 ·have da:decide (0≤a∧a < i)=true:=by simp [ha]
  by_cases hb:0≤b∧b < i
  ·have db:decide (0≤b∧b < i)=true:=by simp [hb]
   rw [if_pos ⟨ha,hb⟩]
   clear ha hb
   by_cases hn:n=0
   ·have bn:(n != 0)=false:=by simpa using hn
    rw [if_pos hn]
    clear hn
    go_enter Tryz.func97,Tryz.ntmps97
    go_wp2_with (fail)
    refine (ahead_any a i _ _ ?_).mono ?_;exact cell_under _ _ (by simp)
    rintro e w' ⟨rfl,rfl⟩
    rw [da]
    go_wp2_with (fail)
    refine (ahead_any b i _ _ ?_).mono ?_;exact cell_under _ _ (by simp)
    rintro e w' ⟨rfl,rfl⟩
    rw [db]
    go_wp2_with (fail)
    go_ret
    exact ⟨rfl,(by repeat (first | exact Below.refl _ _ | assumption | refine below_drewN ?_ _ | refine Below.drew ?_ | refine Below.alloc ?_ (by simp <;> omega) _ | refine below_trans ?_ (by assumption)))⟩
   ·have bn:(n != 0)=true:=by simpa using hn
    rw [if_neg hn]
    clear hn
    go_enter Tryz.func97,Tryz.ntmps97
    go_wp2_with (fail)
    refine (ahead_any a i _ _ ?_).mono ?_;exact cell_under _ _ (by simp)
    rintro e w' ⟨rfl,rfl⟩
    rw [da]
    go_wp2_with (fail)
    refine (ahead_any b i _ _ ?_).mono ?_;exact cell_under _ _ (by simp)
    rintro e w' ⟨rfl,rfl⟩
    rw [db]
    go_wp2_with (fail)
    go_ret
    exact ⟨rfl,(by repeat (first | exact Below.refl _ _ | assumption | refine below_drewN ?_ _ | refine Below.drew ?_ | refine Below.alloc ?_ (by simp <;> omega) _ | refine below_trans ?_ (by assumption)))⟩
  ·have db:decide (0≤b∧b < i)=false:=by simpa using hb
   rw [if_neg (fun h=>hb h.2)]
   clear ha hb
   go_enter Tryz.func97,Tryz.ntmps97
   go_wp2_with (fail)
   refine (ahead_any a i _ _ ?_).mono ?_;exact cell_under _ _ (by simp)
   rintro e w' ⟨rfl,rfl⟩
   rw [da]
   go_wp2_with (fail)
   refine (ahead_any b i _ _ ?_).mono ?_;exact cell_under _ _ (by simp)
   rintro e w' ⟨rfl,rfl⟩
   rw [db]
   go_wp2_with (fail)
   go_ret
   exact ⟨rfl,(by repeat (first | exact Below.refl _ _ | assumption | refine below_drewN ?_ _ | refine Below.drew ?_ | refine Below.alloc ?_ (by simp <;> omega) _ | refine below_trans ?_ (by assumption)))⟩
 ·have da:decide (0≤a∧a < i)=false:=by simpa using ha
  rw [if_neg (fun h=>ha h.1)]
  clear ha
  go_enter Tryz.func97,Tryz.ntmps97
  go_wp2_with (fail)
  refine (ahead_any a i _ _ ?_).mono ?_;exact cell_under _ _ (by simp)
  rintro e w' ⟨rfl,rfl⟩
  rw [da]
  go_wp2_with (fail)
  go_ret
  exact ⟨rfl,(by repeat (first | exact Below.refl _ _ | assumption | refine below_drewN ?_ _ | refine Below.drew ?_ | refine Below.alloc ?_ (by simp <;> omega) _ | refine below_trans ?_ (by assumption)))⟩
theorem checkNode_one (k a b n i:Int) (t:List UInt8) (tp:Bool) (o:Int) (w:World) :
  Calls Tryz.prog 97 #[.agg #[.int .i64 k,.int .i64 a,.int .i64 b,.int .i64 n],.int .i64 i,.agg #[.string ⟨t.toArray⟩,.int .i64 1,.bool false,.bool tp,.int .i64 o]] w fun e w'=>e=.returned (.int .i64 (if 0≤a∧a < i then if b=0 then if n=0 then 0 else 1 else 1 else 5))∧Below w.heap.size w w':=by
 have hmf:∀ (fn:Fn) (first cap:Array Value) (w:World),(Instr.makeFunc fn first cap).run Tryz.prog w=.ok (.func fn first cap) w:=fun _ _ _ _=>rfl
 by_cases ha:0≤a∧a < i
 ·have da:decide (0≤a∧a < i)=true:=by simp [ha]
  rw [if_pos ha]
  clear ha
  by_cases hb:b=0
  ·have bb:(b != 0)=false:=by simpa using hb
   rw [if_pos hb]
   clear hb
   by_cases hn:n=0
   ·have bn:(n != 0)=false:=by simpa using hn
    rw [if_pos hn]
    clear hn
    go_enter Tryz.func97,Tryz.ntmps97
    go_wp2_with (fail)
    refine (ahead_any a i _ _ ?_).mono ?_;exact cell_under _ _ (by simp)
    rintro e w' ⟨rfl,rfl⟩
    rw [da]
    go_wp2_with (fail)
    go_ret
    exact ⟨rfl,(by repeat (first | exact Below.refl _ _ | assumption | refine below_drewN ?_ _ | refine Below.drew ?_ | refine Below.alloc ?_ (by simp <;> omega) _ | refine below_trans ?_ (by assumption)))⟩
   ·have bn:(n != 0)=true:=by simpa using hn
    rw [if_neg hn]
    clear hn
    go_enter Tryz.func97,Tryz.ntmps97
    go_wp2_with (fail)
    refine (ahead_any a i _ _ ?_).mono ?_;exact cell_under _ _ (by simp)
    rintro e w' ⟨rfl,rfl⟩
    rw [da]
    go_wp2_with (fail)
    go_ret
    exact ⟨rfl,(by repeat (first | exact Below.refl _ _ | assumption | refine below_drewN ?_ _ | refine Below.drew ?_ | refine Below.alloc ?_ (by simp <;> omega) _ | refine below_trans ?_ (by assumption)))⟩
  ·have bb:(b != 0)=true:=by simpa using hb
   rw [if_neg hb]
   clear hb
   go_enter Tryz.func97,Tryz.ntmps97
   go_wp2_with (fail)
   refine (ahead_any a i _ _ ?_).mono ?_;exact cell_under _ _ (by simp)
   rintro e w' ⟨rfl,rfl⟩
   rw [da]
   go_wp2_with (fail)
   go_ret
   exact ⟨rfl,(by repeat (first | exact Below.refl _ _ | assumption | refine below_drewN ?_ _ | refine Below.drew ?_ | refine Below.alloc ?_ (by simp <;> omega) _ | refine below_trans ?_ (by assumption)))⟩
 ·have da:decide (0≤a∧a < i)=false:=by simpa using ha
  rw [if_neg ha]
  clear ha
  go_enter Tryz.func97,Tryz.ntmps97
  go_wp2_with (fail)
  refine (ahead_any a i _ _ ?_).mono ?_;exact cell_under _ _ (by simp)
  rintro e w' ⟨rfl,rfl⟩
  rw [da]
  go_wp2_with (fail)
  go_ret
  exact ⟨rfl,(by repeat (first | exact Below.refl _ _ | assumption | refine below_drewN ?_ _ | refine Below.drew ?_ | refine Below.alloc ?_ (by simp <;> omega) _ | refine below_trans ?_ (by assumption)))⟩
theorem checkNode_leaf (k a b n i:Int) (t:List UInt8) (nm tp:Bool) (o:Int) (w:World) :
  Calls Tryz.prog 97 #[.agg #[.int .i64 k,.int .i64 a,.int .i64 b,.int .i64 n],.int .i64 i,.agg #[.string ⟨t.toArray⟩,.int .i64 0,.bool nm,.bool tp,.int .i64 o]] w fun e w'=>e=.returned (.int .i64 (if nm=true∧¬ (0≤n∧n≤2) then 3 else if a=0∧b=0∧(nm=true ∨ n=0) then 0 else 1))∧Below w.heap.size w w':=by
 have hmf:∀ (fn:Fn) (first cap:Array Value) (w:World),(Instr.makeFunc fn first cap).run Tryz.prog w=.ok (.func fn first cap) w:=fun _ _ _ _=>rfl
 by_cases hn:nm=true∧¬ (0≤n∧n≤2)
 ·rw [if_pos hn]
  obtain ⟨rfl,hn⟩:=hn
  by_cases h0:n < 0
  ·clear hn
   go_enter Tryz.func97,Tryz.ntmps97
   go_wp2_with (fail)
   go_ret
   exact ⟨rfl,(by repeat (first | exact Below.refl _ _ | assumption | refine below_drewN ?_ _ | refine Below.drew ?_ | refine Below.alloc ?_ (by simp <;> omega) _ | refine below_trans ?_ (by assumption)))⟩
  ·have h1:0≤n:=by omega
   have h2:3≤n:=by omega
   clear hn h0
   go_enter Tryz.func97,Tryz.ntmps97
   go_wp2_with (fail)
   go_ret
   exact ⟨rfl,(by repeat (first | exact Below.refl _ _ | assumption | refine below_drewN ?_ _ | refine Below.drew ?_ | refine Below.alloc ?_ (by simp <;> omega) _ | refine below_trans ?_ (by assumption)))⟩
 rw [if_neg hn]
 have hnn:nm=false ∨ (0≤n∧n < 3):=by
  cases nm
  ·exact Or.inl rfl
  ·right;simp at hn;omega
 clear hn
 by_cases h:a=0∧b=0∧(nm=true ∨ n=0)
 ·rw [if_pos h]
  obtain ⟨ha,hb,hn⟩:=h
  have ba:(a != 0)=false:=by simpa using ha
  have bb:(b != 0)=false:=by simpa using hb
  clear ha hb
  rcases hnn with rfl | ⟨h1,h2⟩
  ·have bn:(n != 0)=false:=by simpa using hn
   clear hn
   go_enter Tryz.func97,Tryz.ntmps97
   go_wp2_with (fail)
   go_ret
   exact ⟨rfl,(by repeat (first | exact Below.refl _ _ | assumption | refine below_drewN ?_ _ | refine Below.drew ?_ | refine Below.alloc ?_ (by simp <;> omega) _ | refine below_trans ?_ (by assumption)))⟩
  ·cases nm with
   | true =>
    clear hn
    go_enter Tryz.func97,Tryz.ntmps97
    go_wp2_with (fail)
    go_ret
    exact ⟨rfl,(by repeat (first | exact Below.refl _ _ | assumption | refine below_drewN ?_ _ | refine Below.drew ?_ | refine Below.alloc ?_ (by simp <;> omega) _ | refine below_trans ?_ (by assumption)))⟩
   | false =>
    have bn:(n != 0)=false:=by simpa using hn
    clear hn
    go_enter Tryz.func97,Tryz.ntmps97
    go_wp2_with (fail)
    go_ret
    exact ⟨rfl,(by repeat (first | exact Below.refl _ _ | assumption | refine below_drewN ?_ _ | refine Below.drew ?_ | refine Below.alloc ?_ (by simp <;> omega) _ | refine below_trans ?_ (by assumption)))⟩
 ·rw [if_neg h]
  by_cases ha:a=0
  ·have ba:(a != 0)=false:=by simpa using ha
   by_cases hb:b=0
   ·have bb:(b != 0)=false:=by simpa using hb
    have hf:nm=false:=by
     cases nm
     ·rfl
     ·exact absurd ⟨ha,hb,Or.inl rfl⟩ h
    subst hf
    have bn:(n != 0)=true:=by
     rw [bne_iff_ne];intro e;exact h ⟨ha,hb,Or.inr e⟩
    clear h ha hb hnn
    go_enter Tryz.func97,Tryz.ntmps97
    go_wp2_with (fail)
    go_ret
    exact ⟨rfl,(by repeat (first | exact Below.refl _ _ | assumption | refine below_drewN ?_ _ | refine Below.drew ?_ | refine Below.alloc ?_ (by simp <;> omega) _ | refine below_trans ?_ (by assumption)))⟩
   ·have bb:(b != 0)=true:=by simpa using hb
    clear h ha hb
    rcases hnn with rfl | ⟨h1,h2⟩
    ·go_enter Tryz.func97,Tryz.ntmps97
     go_wp2_with (fail)
     go_ret
     exact ⟨rfl,(by repeat (first | exact Below.refl _ _ | assumption | refine below_drewN ?_ _ | refine Below.drew ?_ | refine Below.alloc ?_ (by simp <;> omega) _ | refine below_trans ?_ (by assumption)))⟩
    ·cases nm with
     | true =>
      go_enter Tryz.func97,Tryz.ntmps97
      go_wp2_with (fail)
      go_ret
      exact ⟨rfl,(by repeat (first | exact Below.refl _ _ | assumption | refine below_drewN ?_ _ | refine Below.drew ?_ | refine Below.alloc ?_ (by simp <;> omega) _ | refine below_trans ?_ (by assumption)))⟩
     | false =>
      go_enter Tryz.func97,Tryz.ntmps97
      go_wp2_with (fail)
      go_ret
      exact ⟨rfl,(by repeat (first | exact Below.refl _ _ | assumption | refine below_drewN ?_ _ | refine Below.drew ?_ | refine Below.alloc ?_ (by simp <;> omega) _ | refine below_trans ?_ (by assumption)))⟩
  ·have ba:(a != 0)=true:=by simpa using ha
   clear h ha
   rcases hnn with rfl | ⟨h1,h2⟩
   ·go_enter Tryz.func97,Tryz.ntmps97
    go_wp2_with (fail)
    go_ret
    exact ⟨rfl,(by repeat (first | exact Below.refl _ _ | assumption | refine below_drewN ?_ _ | refine Below.drew ?_ | refine Below.alloc ?_ (by simp <;> omega) _ | refine below_trans ?_ (by assumption)))⟩
   ·cases nm with
    | true =>
     go_enter Tryz.func97,Tryz.ntmps97
     go_wp2_with (fail)
     go_ret
     exact ⟨rfl,(by repeat (first | exact Below.refl _ _ | assumption | refine below_drewN ?_ _ | refine Below.drew ?_ | refine Below.alloc ?_ (by simp <;> omega) _ | refine below_trans ?_ (by assumption)))⟩
    | false =>
     go_enter Tryz.func97,Tryz.ntmps97
     go_wp2_with (fail)
     go_ret
     exact ⟨rfl,(by repeat (first | exact Below.refl _ _ | assumption | refine below_drewN ?_ _ | refine Below.drew ?_ | refine Below.alloc ?_ (by simp <;> omega) _ | refine below_trans ?_ (by assumption)))⟩
theorem ret_same {a b:Int}{e:Ending} (h:e=.returned (.int .i64 a)) (hab:a=b):e=.returned (.int .i64 b):=by rw [h,hab]
theorem checkNode_any (x:Nd) (i:Int) (s:Sg) (hs:sgOf x.k=some s) (w:World) :
  Calls Tryz.prog 97 #[.agg #[.int .i64 x.k,.int .i64 x.a,.int .i64 x.b,.int .i64 x.n],.int .i64 i,sgV s] w fun e w'=>e=.returned (.int .i64 (chkN x i))∧Below w.heap.size w w':=by
 obtain ⟨k,a,b,n⟩:=x
 dsimp only at hs ⊢
 unfold sgOf at hs
 by_cases h1:k=1
 ·subst h1;cases hs
  refine (checkNode_leaf 1 a b n i _ false false 0 w).mono fun e w' h=>⟨ret_same h.1 ?_,h.2⟩
  simp [chkN];repeat' split
  all_goals first | rfl | (exfalso;omega)
 by_cases h2:k=2
 ·subst h2;cases hs
  refine (checkNode_leaf 2 a b n i _ true false 0 w).mono fun e w' h=>⟨ret_same h.1 ?_,h.2⟩
  simp [chkN];repeat' split
  all_goals first | rfl | (exfalso;omega)
 by_cases h3:k=3
 ·subst h3;cases hs
  refine (checkNode_one 3 a b n i _ false 0 w).mono fun e w' h=>⟨ret_same h.1 ?_,h.2⟩
  simp [chkN];repeat' split
  all_goals first | rfl | (exfalso;omega)
 by_cases h4:k=4
 ·subst h4;cases hs
  refine (checkNode_two 4 a b n i _ false 5 w).mono fun e w' h=>⟨ret_same h.1 ?_,h.2⟩
  simp [chkN];repeat' split
  all_goals first | rfl | (exfalso;omega)
 by_cases h5:k=5
 ·subst h5;cases hs
  refine (checkNode_two 5 a b n i _ false 4 w).mono fun e w' h=>⟨ret_same h.1 ?_,h.2⟩
  simp [chkN];repeat' split
  all_goals first | rfl | (exfalso;omega)
 by_cases h6:k=6
 ·subst h6;cases hs
  refine (checkNode_one 6 a b n i _ true 6 w).mono fun e w' h=>⟨ret_same h.1 ?_,h.2⟩
  simp [chkN];repeat' split
  all_goals first | rfl | (exfalso;omega)
 by_cases h7:k=7
 ·subst h7;cases hs
  refine (checkNode_two 7 a b n i _ true 8 w).mono fun e w' h=>⟨ret_same h.1 ?_,h.2⟩
  simp [chkN];repeat' split
  all_goals first | rfl | (exfalso;omega)
 by_cases h8:k=8
 ·subst h8;cases hs
  refine (checkNode_two 8 a b n i _ true 7 w).mono fun e w' h=>⟨ret_same h.1 ?_,h.2⟩
  simp [chkN];repeat' split
  all_goals first | rfl | (exfalso;omega)
 simp [h1,h2,h3,h4,h5,h6,h7,h8] at hs
end Go.Proofs.YtpiacnnifdjlkabGreatDoor
