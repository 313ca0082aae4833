import Derived.Test.YtpiacnnifdjlkabGreatDoorNa
import Derived.Test.YtpiacnnifdjlkabGreatDoorFc
import Derived.Test.YtpiacnnifdjlkabGreatDoorTd
import Derived.Test.YtpiacnnifdjlkabGreatDoorEa
import Derived.Test.YtpiacnnifdjlkabGreatDoorVo
set_option maxRecDepth 100000
set_option maxHeartbeats 8000000
namespace Go.Proofs.YtpiacnnifdjlkabGreatDoor
open Go.RowKit Go.Sort
def tabF (F:List Nd) (hs ls:List Int):List (List Bool):=tabN F hs.length ls.length (fun i=>(hs ++ ls).getD i 0) F.length
theorem chk_ok {hs ls:List Int} (h:chk hs ls 8=0):hs.length≤4000∧ls.length≤4000∧0 < ls.length∧∀ i,i < hs.length+ls.length→0≤(hs ++ ls).getD i 0∧(hs ++ ls).getD i 0≤7:=by
 unfold chk at h
 split at h
 ·omega
 ·split at h
  ·omega
  ·split at h
   ·omega
   ·rename_i h1 h2 h3
    refine ⟨by omega,by omega,by omega,fun i hi=>?_⟩
    by_cases ha:(hs ++ ls).any (fun x=>decide (x < 0) || decide (8≤x))=true
    ·rw [if_pos ha] at h;omega
    ·rw [Bool.not_eq_true,List.any_eq_false] at ha
     have hl:i < (hs ++ ls).length:=by rw [List.length_append];exact hi
     have:=ha ((hs ++ ls)[i]) (List.getElem_mem _)
     have e:(hs ++ ls).getD i 0=(hs ++ ls)[i]:=by rw [List.getD,List.getElem?_eq_getElem hl];rfl
     rw [e]
     simp at this
     omega
end Go.Proofs.YtpiacnnifdjlkabGreatDoor
namespace Go.Proofs.YtpiacnnifdjlkabGreatDoor
theorem takesA_holds {F:List Nd} (hF:AllOk F) (hn:0 < F.length) {met:List Spo}{A:Aut} (h:OfNodes [(true,0,0)] (goodT F) (afterT F) met A) {hs ls:List Int} (hp:0 < ls.length) (hu:∀ t,0≤lat hs ls t∧lat hs ls t < 8) :
  TakesA A hs ls ↔ vF F hs.length ls.length (wordL hs ls) (F.length - 1) 0=true:=by
 rw [takes_word hp,takes_inf (N:=met.length) hp (fun s hs'=>?_),takesI_nodes h,takesG_holds hF hn hp hu]
 obtain ⟨i,x,c,y,h1,h2,rfl⟩:=(h.steps s).1 hs'
 have hy:=numOf_lt (h.closed x (List.mem_of_getElem? h1) _ h2)
 dsimp only at hy ⊢
 omega
theorem lat_few {hs ls:List Int} (h:chk hs ls 8=0) (t:Nat):0≤lat hs ls t∧lat hs ls t < 8:=by
 obtain ⟨_,_,hp,hl⟩:=chk_ok h
 unfold lat
 by_cases ht:t < hs.length
 ·rw [if_pos ht]
  have:=hl t (by omega)
  rw [List.getD,List.getElem?_append_left ht] at this
  rw [List.getD]
  omega
 ·rw [if_neg ht]
  have hq:=Nat.mod_lt (t - hs.length) hp
  have:=hl (hs.length+(t - hs.length) % ls.length) (by omega)
  rw [List.getD,List.getElem?_append_right (by omega),Nat.add_sub_cancel_left] at this
  rw [List.getD]
  omega
theorem table_takes {F:List Nd} (hc:chkF F=0) {hs ls:List Int} (hk:chk hs ls 8=0) {met:List Spo}{A:Aut} (h:OfNodes [(true,0,0)] (goodT F) (afterT F) met A):TakesA A hs ls ↔ ((tabF F hs ls).getD (F.length - 1) []).getD 0 false=true:=by
 obtain ⟨h1,_,h3⟩:=chkF_ok hc
 obtain ⟨_,_,hp,_⟩:=chk_ok hk
 rw [takesA_holds h3 h1 h hp (lat_few hk)]
 unfold tabF
 rw [tab_vF _ _ _ _ _ _ _ (by omega) (by omega)]
 rfl
end Go.Proofs.YtpiacnnifdjlkabGreatDoor
namespace Go.Proofs.YtpiacnnifdjlkabGreatDoor
open Go.RowKit
theorem rowS_mem {M:Mdl}{q:Nat}{s:Stp} (h:s ∈ rowS M q):s.f=(q:Nat)∧s.l=mLab M q∧s.t ∈ mRow M q:=by
 unfold rowS at h
 obtain ⟨t,ht,rfl⟩:=List.mem_map.1 h
 exact ⟨rfl,rfl,((onceL_right _).1 t).1 ht⟩
theorem rowsS_mem {M:Mdl}{k:Nat}{s:Stp} (h:s ∈ rowsS M k):∃ q:Nat,q < k∧s ∈ rowS M q:=by
 unfold rowsS at h
 obtain ⟨q,hq,hs⟩:=List.mem_flatMap.1 h
 exact ⟨q,List.mem_range.1 hq,hs⟩
theorem rowS_sorted (M:Mdl) (q:Nat):(rowS M q).Pairwise (fun a b=>ordS a b < 0):=by
 unfold rowS
 rw [List.pairwise_map]
 exact List.Pairwise.imp (S:=fun a b:Int=>ordS ⟨(q:Int),mLab M q,a⟩ ⟨(q:Int),mLab M q,b⟩ < 0) (fun {a b} h=>(ordS_lt _ _).2 (Or.inr ⟨rfl,Or.inr ⟨rfl,h⟩⟩)) (onceL_right (mRow M q)).2
theorem rowsS_sorted (M:Mdl):∀ k,(rowsS M k).Pairwise (fun a b=>ordS a b < 0)
 | 0=>by simp [rowsS]
 | k+1=>by
  rw [rowsS_next,List.pairwise_append]
  refine ⟨rowsS_sorted M k,rowS_sorted M k,fun a ha b hb=>?_⟩
  obtain ⟨q,hq,h1⟩:=rowsS_mem ha
  have h2:=(rowS_mem h1).1
  have h3:=(rowS_mem hb).1
  exact (ordS_lt _ _).2 (Or.inl (by omega))
theorem falls_rising {xs:List Int} (h:xs.Pairwise (· < ·)):fallsB xs=false:=by
 unfold fallsB
 rw [List.any_eq_false]
 intro i hi
 rw [List.mem_range] at hi
 have:=List.pairwise_iff_getElem.1 h i (i+1) (by omega) (by omega) (by omega)
 simp [List.getD,show i < xs.length by omega,show i+1 < xs.length by omega]
 omega
theorem words_chk {M:Mdl} (hM:MRight M):chkA (wordsA M M.labels.length (rowsS M M.labels.length))=0:=by
 have hn1:=hM.n1
 have hn12:=hM.n12
 have hf:=rowsS_few hM _ (Nat.le_refl _)
 unfold chkA
 rw [if_neg (by simp only [wordsA];omega),if_neg (by simp [wordsA]),if_neg (by simp only [wordsA];omega)]
 have hfirst:chkFirst (wordsA M M.labels.length (rowsS M M.labels.length)).n (wordsA M M.labels.length (rowsS M M.labels.length)).first=0:=by
  simp only [wordsA]
  unfold chkFirst
  rw [if_neg,if_neg]
  ·rw [falls_rising (onceL_right _).2];simp
  ·rw [Bool.not_eq_true,List.any_eq_false]
   intro x hx
   have:=hM.first x (((onceL_right _).1 x).1 hx)
   simp [outB]
   omega
 rw [if_neg (by rw [hfirst];simp)]
 refine steps_chk _ _ _ none (fun s hs=>?_) (fun q e=>by cases e) (rowsS_sorted M _)
 obtain ⟨q,hq,h1⟩:=rowsS_mem hs
 obtain ⟨h2,h3,h4⟩:=rowS_mem h1
 have h5:=(hM.row hq).2 _ h4
 have h6:=hM.lab (mLab M q) (getD_mem hq)
 simp only [wordsA]
 unfold badS outB
 rw [decide_eq_true (by omega),decide_eq_true (by omega),decide_eq_true (by omega)]
 rfl
def farM (M:Mdl) (hs ls:List Int):Nat:=hs.length+(M.labels.length+1) * ls.length
def valM (F:List Nd) (hs ls:List Int):Bool:=((tabF F hs ls).getD (F.length - 1) []).getD 0 false
theorem neg_val {F:List Nd} (hc:chkF F=0) {hs ls:List Int} (hk:chk hs ls 8=0):valM (negF F) hs ls=!(valM F hs ls):=by
 obtain ⟨h1,_,h3⟩:=chkF_ok hc
 obtain ⟨_,_,hp,_⟩:=chk_ok hk
 have h2:0 < (negF F).length:=(fl_len h3 (F.length - 1) (by omega) true 0).2.1
 unfold valM tabF
 rw [tab_vF _ _ _ _ _ _ _ (by omega) (by omega),tab_vF _ _ _ _ _ _ _ (by omega) (by omega)]
 exact neg_holds h3 h1 hp 0 (by omega)
theorem nodes_rightW {A B O:Aut}{NA NB:Nat}{met:List Pair} (h:PairOk A B NA NB) (hO:OfNodes (pFirst A B) (pGood A) (pAfter A B) met O) (hm:O.m=A.m) (hl:met.length≤2 * (NA * NB)) (hs:O.steps.length≤2 * (NA * NB) * (A.steps.length * B.steps.length)) (hso:O.steps.Pairwise (fun a b=>0≤ordS b a)) (hsm:2 * (NA * NB)≤2000) (hf:A.first.length * B.first.length≤2000):RightW O∧1≤O.n∧O.n≤2001:=by
 have hm8:=h.rA.m8
 have hs8:=h.s
 have hg:O.good.length=if met=[] then 1 else met.length:=by
  rw [hO.good]
  split
  ·rfl
  ·rw [List.length_map]
 have hlen:met ≠ []→0 < met.length:=fun e=>List.length_pos_iff.2 e
 have hn:=hO.n
 have hge:met.length≤O.good.length∧1≤O.good.length∧O.good.length≤2001:=by
  rw [hg]
  split
  ·rename_i e;rw [e];simp
  ·rename_i e;have:=hlen e;omega
 refine ⟨⟨by omega,by omega,by omega,by omega,?_,by omega,fun x hx=>?_,fun s hs'=>?_,?_⟩,by omega,by omega⟩
 ·rw [hO.first,List.length_map,pFirst_len];omega
 ·rw [hO.first] at hx
  obtain ⟨p,hp,rfl⟩:=List.mem_map.1 hx
  have:=numOf_lt (hO.first_met p hp)
  omega
 ·obtain ⟨i,x,c,y,h1,h2,rfl⟩:=(hO.steps s).1 hs'
  have hi:=(List.getElem?_eq_some_iff.1 h1).1
  have hy:=numOf_lt (hO.closed x (List.mem_of_getElem? h1) _ h2)
  obtain ⟨s,hsA,t,htB,_,_,e3,_,_⟩:=pAfter_mem.1 h2
  have h3:=h.rA.steps s hsA
  dsimp only at hy ⊢
  omega
 ·refine hso.imp fun {a b} h5=>?_
  have h6:¬ (ordS b a < 0):=by omega
  rw [ordS_lt] at h6
  omega
theorem pairs_tell {M:Mdl}{F:List Nd}{A B O:Aut}{met:List Spo}{met2:List Pair} (hM:MRight M) (hA:WordsOf M A) (rA:RightW A) (rB:RightW B) (rO:RightW O) (hc:chkF F=0) (hn:chkF (negF F)=0) (hB:OfNodes [(true,0,0)] (goodT (negF F)) (afterT (negF F)) met B) (hO:OfNodes (pFirst A B) (pGood A) (pAfter A B) met2 O) {hs ls:List Int} (hk:chk hs ls 8=0) :
  TakesU O (lat hs ls) ↔ goesM M (lat hs ls) (farM M hs ls)∧valM F hs ls=false:=by
 obtain ⟨_,_,hp,_⟩:=chk_ok hk
 have nA:=rA.n0
 have nB:=rB.n0
 have nO:=rO.n0
 rw [takes_inf (N:=O.n.toNat) hp (fun s hs=>by have:=rO.steps s hs;omega),takesI_nodes hO,takesG_pairs (fun s hs=>by have:=rA.steps s hs;omega) (fun s hs=>by have:=rB.steps s hs;omega),← takes_inf (N:=A.n.toNat) hp (fun s hs=>by have:=rA.steps s hs;omega),← takes_inf (N:=B.n.toNat) hp (fun s hs=>by have:=rB.steps s hs;omega),← goes_iff hM hA hp,← takes_word hp,table_takes hn hk hB]
 show goesM M (lat hs ls) (farM M hs ls)∧valM (negF F) hs ls=true ↔ _
 rw [neg_val hc hk,Bool.not_eq_true']
theorem tellable {O:Aut}{us vs:List Int} (hm:O.m=8) (hn:O.n≤2001) (h1:(us.length:Int)≤O.n) (h2:vs ≠ []) (h3:(vs.length:Int)≤O.n) (h4:∀ c ∈ us ++ vs,0≤c∧c < O.m):chk us vs 8=0:=by
 have:=List.length_pos_iff.2 h2
 unfold chk
 rw [if_neg (by omega),if_neg (by omega),if_neg (by omega),if_neg]
 rw [Bool.not_eq_true,List.any_eq_false]
 intro x hx
 have:=h4 x hx
 simp
 omega
structure HoldsMade (M:Mdl) (F:List Nd) (w w':World) (hv lv:Value) (ok:Bool):Prop where
 bl:Below w.heap.size w w'
 no:ok=false→∃ us vs,IntSl w' hv us∧IntSl w' lv vs∧chk us vs 8=0∧goesM M (lat us vs) (farM M us vs)∧valM F us vs=false
 yes:ok=true→hv=.slice none 0 0∧lv=.slice none 0 0∧∀ hs ls,chk hs ls 8=0→goesM M (lat hs ls) (farM M hs ls)→valM F hs ls=true
end Go.Proofs.YtpiacnnifdjlkabGreatDoor
