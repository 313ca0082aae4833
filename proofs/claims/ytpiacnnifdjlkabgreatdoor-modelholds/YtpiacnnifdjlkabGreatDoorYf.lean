import Derived.Test.YtpiacnnifdjlkabGreatDoorYm
import Derived.Test.YtpiacnnifdjlkabGreatDoorVd
import Derived.Test.YtpiacnnifdjlkabGreatDoorVa
import Derived.Maps.OwnIn
import Derived.Shelf.Sort.Plain
import Derived.Shelf.Slices.CompactI
import Derived.Lib.SlKeysI
import Derived.Ground.NamesProg
import Derived.Ground.Names2Prog
set_option maxRecDepth 100000
set_option maxHeartbeats 8000000
namespace Go.Proofs.YtpiacnnifdjlkabGreatDoor
open Go.RowKit Go.Sort
attribute [local go_sem] Oper.semAt_some
theorem valsO_in {xs:List Int}{a:Option Addr}{cap:Nat} (n l B1:Nat) (S:World→Nat→Prop) (J Jx:List Int→World→Prop) (W:World)
  (hY:∀ (pre:List Int) (x:Int) (W1:World),J pre W1→pre.length < xs.length→W.heap.size≤W1.heap.size→YieldAt Fence.wide (n - 1) Tryz.prog l #[.int .i64 x] W1 fun e W' =>
   (e=.returned (.bool true)∧J (pre ++ [x]) W'∧KO l S W1 W') ∨ (e=.returned (.bool false)∧Jx (pre ++ [x]) W'∧KO l S W1 W'))
  (hB1:W.cell? ⟨B1,0,none⟩=some (.slice a xs.length cap)) (hlen:xs.length≤maxLen)
  (hz:xs=[] ∨ ∃ b off,a=some ⟨b,off,none⟩∧(b ≠ l∧¬ S W b)∧∀ i,i < xs.length→W.cell? ⟨b,off+i,none⟩=some (.int .i64 (xs.getD i 0))) (h0:J [] W) :
  CallsIn Fence.wide n Tryz.prog 208 #[.func (.yield l) #[] #[],.pointer (some ⟨B1,0,none⟩)] W fun e W'=>(∃ v,e=.returned v) ∧
   ((∃ ys,ys=xs∧J ys W') ∨ (∃ pre,Jx pre W')):=by
 refine callsIn_of_wp Tryz.func208 rfl trivial ?_ rfl
 simp only [Tryz.ntmps208,List.size_toArray,List.length_cons,List.length_nil,Nat.reduceAdd,Nat.reduceSub,Array.replicate_succ,Array.replicate_zero,List.push_toArray,List.append_toArray,List.nil_append,List.cons_append]
 have hlen':xs.length≤9223372036854775807:=hlen
 clear hlen
 have HY:=hide hY
 have Hz:=hide hz
 clear hY hz
 gi_wp2_with (fail)
 gi_loopw [7] (fun iv wr=>∃ i:Nat,iv=.int .i64 i∧i≤xs.length∧J (xs.take i) wr∧KO l S W wr) (fun iv _=>xs.length - (intOf iv).toNat)
 case atStart=>exact ⟨0,rfl,by omega,by simpa using h0,KO.refl _ _ _⟩
 case round =>
  obtain ⟨i,rfl,hi,hJp,hK⟩:=hrel
  have HJp:=hide hJp
  clear hJp
  by_cases hil:i < xs.length
  ·obtain ⟨b,off,rfl,hbs,hc⟩:∃ b off,a=some ⟨b,off,none⟩∧(b ≠ l∧¬ S W b)∧∀ i,i < xs.length→W.cell? ⟨b,off+i,none⟩=some (.int .i64 (xs.getD i 0)):=by
    rcases Hz.out with h | h
    ·rw [h] at hil;simp at hil
    ·exact h
   have d0:=hK.cell (hc i hil) hbs.1 hbs.2
   clear hc hbs
   have hx:xs.take (i+1)=xs.take i ++ [xs.getD i 0]:=by
    rw [List.take_add_one,List.getD_eq_getElem?_getD,List.getElem?_eq_getElem hil]
    rfl
   have hpl:(xs.take i).length < xs.length:=by simp;omega
   generalize hx0:xs.getD i 0=x at *
   have Hx:=hide hx
   clear hx hx0
   obtain ⟨fn,tmps,assign,body,hy,hR⟩:=HY.out _ x _ HJp.out hpl hK.size
   have HR:=hide hR
   clear hR
   gi_wp2_with (fail)
   refine ⟨fun h=>by simp [Fence.wide] at h,HR.out.mono ?_⟩
   rintro e W3 (⟨rfl,hJ3,hk3⟩ | ⟨rfl,hJx3,-⟩)
   ·have HJ3:=hide hJ3
    clear hJ3
    have hk4:KO l S W W3:=hK.trans hk3
    gi_wp2
    go_roundw
    case rel=>exact ⟨i+1,by go_num,by omega,by rw [Hx.out];exact HJ3.out,hk4⟩
    case measure=>simp [intOf];omega
   ·have HJx3:=hide hJx3
    clear hJx3
    gi_wp2
    refine bodyPost_ret (results_none rfl _ _ _) rfl ?_
    exact ⟨⟨_,rfl⟩,.inr ⟨_,HJx3.out⟩⟩
  ·gi_wp2
   go_end0
   refine ⟨⟨_,rfl⟩,.inl ⟨xs,rfl,?_⟩⟩
   have h:=HJp.out
   rwa [List.take_of_length_le (by omega)] at h
def ValC (B1:Nat) (v:Value) (xs:List Int) (k:Nat):Prop:=k=B1 ∨ (xs ≠ []∧∃ b off n c,v=.slice (some ⟨b,off,none⟩) n c∧k=b)
theorem valsSeqO {xs:List Int}{v:Value} (n B1:Nat) (w0:World) (hB1:w0.cell? ⟨B1,0,none⟩=some v) (hS:IntSl w0 v xs) :
  SeqO n Tryz.prog 208 #[.pointer (some ⟨B1,0,none⟩)] (fun x:Int=>#[.int .i64 x]) (ValC B1 v xs) (fun ys=>ys=xs) xs.length w0:=by
 intro l S m J Jx W hb hD hm hC hl0 hlW hSl hSW hJ hJx hY h0
 have hx1:=(hb.cell (World.block_lt_of_cell? w0 _ hB1)).trans hB1
 have hSw:=hS
 have hS':=hS.below hb
 obtain ⟨a,cap,rfl,hlen,hz,_⟩:=hS'
 refine valsO_in n l B1 S J Jx W hY hx1 hlen ?_ h0
 rcases hz with h | ⟨b,off,rfl,hc⟩
 ·exact Or.inl h
 ·by_cases hnil:xs=[]
  ·exact Or.inl hnil
  ·refine Or.inr ⟨b,off,rfl,⟨?_,hC b (Or.inr ⟨hnil,b,off,_,_,rfl,rfl⟩)⟩,hc⟩
   obtain ⟨a',cap',e,_,hz,_⟩:=hSw
   rcases hz with h | ⟨b',off',e',hc'⟩
   ·exact absurd h hnil
   ·subst e'
    cases e
    have:=World.block_lt_of_cell? w0 _ (hc' 0 (List.length_pos_iff.2 hnil))
    dsimp only at this
    omega
structure ApI (w:World) (pre:List Int) (W:World):Prop where
 box:∃ v,W.heap[w.heap.size]?=some (.cells #[v] 22)∧W.ownsRow w.heap.size 3 1 v pre.length (pre.map (Value.int .i64))
 below:Below w.heap.size w W
theorem sy_box {W:World}{B r:Nat}{v:Value}{t:TypeId} (hb:W.heap[B]?=some (.cells #[v] t)) (hr:v.ownBlock=some r):SY [B] W r:=
 Or.inr ⟨(B,0),by simp,v,cell_of_row W B 0 _ _ _ hb,hr⟩
theorem row_soft {W:World}{B:Nat}{cs:Array Value}{t:TypeId} (hb:W.heap[B]?=some (.cells cs t)) (o:Nat):W.frozen? ⟨B,o,none⟩=false:=by
 simp [World.frozen?,hb]
theorem sy_self (W:World) (B:Nat):SY [B] W B:=Or.inl (by simp)
theorem sy_cases {W:World}{B k:Nat}{v:Value}{t:TypeId} (hb:W.heap[B]?=some (.cells #[v] t)) (h:SY [B] W k):k=B ∨ v.ownBlock=some k:=by
 rcases h with h | ⟨p,hp,v',hc,ho⟩
 ·exact Or.inl (by simpa using h)
 ·have e:p=(B,0):=by simpa using hp
  subst e
  have:=cell_of_row W B 0 _ _ _ hb
  dsimp only at hc
  rw [this] at hc
  cases hc
  exact Or.inr ho
theorem ApI.ki {w A B:World}{s:Nat}{pre:List Int} (h:ApI w pre A) (hs:w.heap.size≤s) (hk:KI s (SY [w.heap.size]) A B):ApI w pre B:=by
 obtain ⟨v,hb,hown⟩:=h.box
 refine ⟨⟨v,hk.keep _ _ hb (Or.inr (sy_self _ _)),owns_kept hown (fun r hr=>?_)⟩,⟨hk.os.trans h.below.os,hk.tape.trans h.below.tape,hk.output.trans h.below.output,Nat.le_trans h.below.size hk.size,fun k hkw=>?_⟩⟩
 ·have hlt:=(hown.lt r hr).2
  rw [Array.getElem?_eq_getElem hlt]
  exact hk.keep _ _ (Array.getElem?_eq_getElem hlt) (Or.inr (sy_box hb hr))
 ·have hlt:k < A.heap.size:=Nat.lt_of_lt_of_le hkw h.below.size
  rw [← h.below.block k hkw,Array.getElem?_eq_getElem hlt]
  exact hk.keep _ _ (Array.getElem?_eq_getElem hlt) (Or.inl (by omega))
theorem push_int {F:Fence}{nF:Nat}{A:World}{ops:Array Oper}{rest:List Oper}{o:Oper}{a:Act}{Q:Exit→Act→World→Prop} (hgd:o.guard=none) (s t:Nat)
  (ho:o.op=.call { callee:=.builtin .append,args:=#[.tmp s,.tmp t],argTypes:=#[22,22] }) (base:Nat) (v:Value) (n:Nat) (ys:List Value) (hs:a.eval (.tmp s)=v) (hown:A.ownsRow base 3 1 v n ys) (x:Int)
  (hx:a.eval (.tmp t)=.slice (some ⟨A.heap.size,0,none⟩) 1 1) (h63:n+1≤maxLen) (hbytes:(n+1) * 8≤140737488355328) (hbase:base≤A.heap.size)
  (h:∀ ad' cp' w',w'.ownsRow base 3 1 (.slice ad' (n+1) cp') (n+1) (ys ++ [.int .i64 x])→(A.alloc (Obj.cells #[.int .i64 x] 3)).grownBy w' v.ownBlock→((Value.slice ad' (n+1) cp').ownBlock=v.ownBlock ∨ (Value.slice ad' (n+1) cp').ownBlock=some (A.heap.size+1))→wpListIn F nF Tryz.prog ops Q rest (a.put o.dst (.slice ad' (n+1) cp')) w') :
  wpListIn F nF Tryz.prog ops Q (o :: rest) a (A.alloc (Obj.cells #[.int .i64 x] 3)):=by
 refine wpListIn_append_own_at (P:=Tryz.prog) _ hgd (.tmp s) (.tmp t) 22 ho base 3 Tryz.t3 (.int .i64 0) 1 8 Tryz.underlying22 intInfo (by kernel_rfl) (by kernel_rfl) (by kernel_rfl) (by kernel_rfl) (by decide) v n ys hs (hown.alloc _) ⟨A.heap.size,0,none⟩ 1 1 [.int .i64 x] hx rfl (fun j u hu=>?_) (fun u hu=>by simp at hu;subst hu;rfl) h63 hbytes (by simp;omega) ?_
 ·rw [add_none,Nat.zero_add]
  match j,hu with
  | 0,hu =>
   simp at hu
   subst hu
   exact cell_of_row _ _ 0 _ _ _ (one_new A _)
 ·intro v' w3 hown' hg3 _ hob3
  obtain ⟨ad',cp',rfl⟩:=owns_form hown'
  exact h ad' cp' w3 hown' hg3 (by simpa using hob3)
theorem appendSeq_any {w:World}{xs:List Int} (g:Nat) (lb:Array Value) (eg:∀ args w,(callFunc g args).run Tryz.prog w=.ok (.enter g args) w) (C:Nat→Prop) (hC:∀ k,C k→k < w.heap.size)
  (hseq:SeqO 19 Tryz.prog g lb (fun x:Int=>#[.int .i64 x]) C (fun ys=>ys=xs) xs.length w) (hlen:xs.length≤maxLen) (hby:xs.length * 8≤140737488355328) :
  Calls Tryz.prog 231 #[.slice none 0 0,.func (.func g) #[] lb] w fun e w'=>∃ v,e=.returned v∧w'.ownsRow w.heap.size 3 1 v xs.length (xs.map (Value.int .i64))∧Below w.heap.size w w':=by
 refine (callsIn_wide (n:=20)).1 ?_
 refine callsIn_of_wp_marks Tryz.func231 rfl trivial ?_ rfl
 simp only [Tryz.ntmps231,List.size_toArray,List.length_cons,List.length_nil,Nat.reduceAdd,Nat.reduceSub,Array.replicate_succ,Array.replicate_zero,List.push_toArray,List.append_toArray,List.nil_append,List.cons_append]
 refine wpIn_wide.2 ?_
 have hb0:=below_new w (Obj.cells #[Value.slice none 0 0] 22)
 have hn0:=one_new w (Obj.cells #[Value.slice none 0 0] 22)
 have hs0:(w.alloc (Obj.cells #[Value.slice none 0 0] 22)).heap.size=w.heap.size+1:=by simp
 have HS:=hide hseq
 have HB0:=hide hb0
 have HN0:=hide hn0
 clear hseq hb0 hn0
 go_wp2_with (fail)
 generalize w.alloc (Obj.cells #[Value.slice none 0 0] 22)=W0 at *
 have hS0:∀ k,SY [w.heap.size] W0 k→k=w.heap.size:=fun k hk=>by
  rcases sy_cases HN0.out hk with h | h
  ·exact h
  ·cases h
 refine wpIn_wide.1 (range_own (n:=20) (w0:=w) (gf:=g) (lb:=lb) rfl eg HS.out (SY [w.heap.size]) (w.heap.size+1) (det_SY (by simp)) (by omega)
  (fun k hk h=>by have:=hC k hk;have:=hS0 k h;omega) (fun k h=>by have:=hS0 k h;omega) HB0.out (fun _=>rfl)
  (fun pre W=>ApI w pre W) (fun _ _ _=>False) (fun pre A B h hs hk=>h.ki (by omega) hk) (fun _ _ _ _ h _ _=>h) ⟨⟨_,HN0.out,⟨rfl,.inl ⟨rfl,rfl⟩⟩⟩,HB0.out⟩
  (fun x a' A=>a'={ tmps:=#[.slice none 0 0,.func (.func g) #[] lb,.pointer (some ⟨w.heap.size,0,none⟩),undef,.slice none 0 0,.int .i64 x,.func (.func g) #[] lb,.int .i64 x,undef,undef,undef,undef,undef],defers:=[] }) (fun _ _ _ _ _ _ _ _ h=>h) ?assign ?body ?done ?stop)
 case assign =>
  rintro q pre x A K' hi hsz hK'
  have HK':=hide hK'
  clear hK' hi
  gi_wp2
  exact HK'.out _ _ (Below.refl _ _) rfl
 case body =>
  rintro l pre x a' A hl hlr hSl hsz hI rfl hlt
  obtain ⟨v,hb,hown⟩:=hI.box
  have hbs:=hI.below.size
  have Hb:=hide hb
  have Hown:=hide hown
  have HI:=hide hI
  have c0:=cell_of_row _ _ 0 _ _ _ hb
  have hne:∀ r,v.ownBlock=some r→r ≠ w.heap.size:=fun r hr e=>by
   rcases hown.2 with ⟨e2,_⟩ | ⟨g',cap',cur,e2,_,hgb,_⟩
   ·rw [e2] at hr;cases hr
   ·rw [e2] at hr
    have e3:g'=r:=Option.some.inj hr
    rw [e3,e,hb] at hgb
    have:=(Obj.cells.inj (Option.some.inj hgb)).2.1
    exact absurd this (by decide)
  have Hne:=hide hne
  generalize hQ2:postE (SY [w.heap.size]) _ _ (pre ++ [x]) A=Q2
  have HQn:=hide (show ∀ (a:Act) (W':World),KE (SY [w.heap.size]) A W'→ApI w (pre ++ [x]) W'→Q2 .normal a W' by
   intro a W' k1 k2
   rw [← hQ2]
   exact ⟨k1,k2⟩)
  obtain ⟨ad,cp,rfl⟩:=owns_form hown
  clear hQ2 hb hown hI hne hlr hSl hS0
  have HF3:=hide (show ∀ w3:World,(A.alloc (Obj.cells #[.int .i64 x] 3)).grownBy w3 (Value.slice ad pre.length cp).ownBlock→w3.heap[w.heap.size]?=some (.cells #[.slice ad pre.length cp] 22) from fun w3 hg3=>by
   have hl:=(Array.getElem?_eq_some_iff.1 Hb.out).1
   exact (hg3.block w.heap.size (by simp;omega) (fun e=>Hne.out _ e.symm rfl)).trans ((Below.heap_alloc _ _ _ hl).trans Hb.out))
  gi_wp2_with (gi_at_builtin;refine push_int rfl 8 10 rfl w.heap.size _ _ _ rfl Hown.out x rfl (by omega) (by omega) (by omega) ?_;intro ad' cp' w3 hown' hg3 hob3;have HV3:=hide (HF3.out w3 hg3);have c3:=cell_of_row _ _ 0 _ _ _ HV3.out;have f3:w3.frozen? ⟨w.heap.size,0,none⟩=false:=row_soft HV3.out 0;have HO3:=hide hown';have HG3:=hide hg3;have HOb:=hide hob3;clear hown' hg3 hob3)
  have hA3:A.heap.size+1≤w3.heap.size:=by have:=HG3.out.size;simpa using this
  have hv5:=heap_setCell_row 0 (.slice ad' (pre.length+1) cp') HV3.out
  have hoth:∀ k,k < A.heap.size→k ≠ w.heap.size→(Value.slice ad pre.length cp).ownBlock ≠ some k→(w3.setCell ⟨w.heap.size,0,none⟩ (.slice ad' (pre.length+1) cp')).heap[k]?=A.heap[k]?:=fun k hk h1 h2 =>
   (heap_setCell_other _ _ _ _ h1).trans ((HG3.out.block k (by simp;omega) (fun e=>h2 e.symm)).trans (Below.heap_alloc _ _ _ hk))
  have hne5:∀ r,(Value.slice ad' (pre.length+1) cp').ownBlock=some r→r ≠ w.heap.size:=fun r hr e=>by
   rcases HOb.out with h | h
   ·exact Hne.out r (h.symm.trans hr) e
   ·rw [hr] at h
    have:=Option.some.inj h
    omega
  refine HQn.out _ _ ⟨HG3.out.os,HG3.out.tape,HG3.out.output,by simp [World.setCell];omega,fun k o ho hn=>?_,fun k hk=>?_⟩ ⟨⟨_,hv5,?_⟩,?_⟩
  ·exact (hoth k (Array.getElem?_eq_some_iff.1 ho).1 (fun e=>hn (by rw [e];exact sy_self _ _)) (fun e=>hn (sy_box Hb.out e))).trans ho
  ·rcases sy_cases hv5 hk with h | h
   ·exact Or.inl (by rw [h];exact sy_self _ _)
   ·rcases HOb.out with h2 | h2
    ·exact Or.inl (sy_box Hb.out (h2.symm.trans h))
    ·have hl:=(HO3.out.lt k h).2
     rw [h] at h2
     have:=Option.some.inj h2
     exact Or.inr ⟨by omega,by simpa [World.setCell] using hl⟩
  ·have:=owns_kept HO3.out (w':=w3.setCell ⟨w.heap.size,0,none⟩ (.slice ad' (pre.length+1) cp')) (fun r hr=>heap_setCell_other _ _ _ _ (hne5 r hr))
   simpa using this
  ·have hI:=HI.out.below
   refine ⟨HG3.out.os.trans hI.os,HG3.out.tape.trans hI.tape,HG3.out.output.trans hI.output,by simp [World.setCell];omega,fun k hk=>?_⟩
   refine (hoth k (by omega) (by omega) (fun e=>?_)).trans (hI.block k hk)
   have:=(Hown.out.lt k e).1
   omega
 case done =>
  rintro D ys A hDw rfl hI hdef hnS
  obtain ⟨v,hb,hown⟩:=hI.box
  have c0:=cell_of_row _ _ 0 _ _ _ hb
  have Hb:=hide hb
  have Hown:=hide hown
  have HI:=hide hI
  have hdl:w.heap.size+1≤D:=by omega
  have Hdef:=hide hdef
  clear hb hown hI hnS hDw hdef
  go_wp2
  refine leaves_marks (w.heap.size+1) [D] _ ⟨by simp,fun E hE=>by simp at hE;subst hE;exact ⟨hdl,Hdef.out⟩⟩ ?_
  intro W' hSh
  refine ⟨_,results_tmp rfl _ _ _,v,rfl,owns_kept Hown.out (fun r hr=>?_),⟨hSh.os.trans HI.out.below.os,hSh.tape.trans HI.out.below.tape,hSh.output.trans HI.out.below.output,Nat.le_trans HI.out.below.size hSh.size,fun k hk=>(hSh.low k (by omega)).trans (HI.out.below.block k hk)⟩⟩
  rcases Hown.out.2 with ⟨e2,_⟩ | ⟨g',cap',cur,e2,_,hgb,_⟩
  ·rw [e2] at hr;cases hr
  ·rw [e2] at hr
   cases hr
   rw [hgb]
   exact hSh.cells _ _ hgb rfl
 case stop =>
  rintro D c pre A hDw h
  exact h.elim
end Go.Proofs.YtpiacnnifdjlkabGreatDoor
namespace Go.Proofs
open Go.Shelf
def YtpiacnnifdjlkabGreatDoor.laysSortInt_ren:Go.Shelf.Ren:=⟨fun | 189=>207 | 125=>158 | 257=>232 | 128=>204 | 129=>205 | 294=>246 | 295=>247 | 296=>248 | 297=>249 | 298=>250 | 299=>251 | 216=>252 | 300=>253 | 301=>254 | 328=>259 | 329=>227 | 330=>228 | 331=>260 | 332=>261 | 215=>193 | 343=>262 | n=>n,fun | 28=>22 | 3=>3 | 46=>226 | 0=>0 | 51=>256 | 53=>185 | 4=>4 | 183=>250 | 182=>249 | 131=>168 | 5=>5 | 9=>9 | 218=>271 | 222=>275 | 228=>286 | 229=>287 | n=>n,fun | n=>n⟩
theorem YtpiacnnifdjlkabGreatDoor.laysSortInt:Go.Proofs.Lays.n189 Tryz.prog YtpiacnnifdjlkabGreatDoor.laysSortInt_ren:={
 mixed:=by kernel_rfl
 f125:=Tryz.func158.trans (congrArg some (by kernel_rfl))
 f128:=Tryz.func204.trans (congrArg some (by kernel_rfl))
 f129:=Tryz.func205.trans (congrArg some (by kernel_rfl))
 f189:=Tryz.func207.trans (congrArg some (by kernel_rfl))
 f215:=Tryz.func193.trans (congrArg some (by kernel_rfl))
 f216:=Tryz.func252.trans (congrArg some (by kernel_rfl))
 f257:=Tryz.func232.trans (congrArg some (by kernel_rfl))
 f294:=Tryz.func246.trans (congrArg some (by kernel_rfl))
 f295:=Tryz.func247.trans (congrArg some (by kernel_rfl))
 f296:=Tryz.func248.trans (congrArg some (by kernel_rfl))
 f297:=Tryz.func249.trans (congrArg some (by kernel_rfl))
 f298:=Tryz.func250.trans (congrArg some (by kernel_rfl))
 f299:=Tryz.func251.trans (congrArg some (by kernel_rfl))
 f300:=Tryz.func253.trans (congrArg some (by kernel_rfl))
 f301:=Tryz.func254.trans (congrArg some (by kernel_rfl))
 f328:=Tryz.func259.trans (congrArg some (by kernel_rfl))
 f329:=Tryz.func227.trans (congrArg some (by kernel_rfl))
 f330:=Tryz.func228.trans (congrArg some (by kernel_rfl))
 f331:=Tryz.func260.trans (congrArg some (by kernel_rfl))
 f332:=Tryz.func261.trans (congrArg some (by kernel_rfl))
 f343:=Tryz.func262.trans (congrArg some (by kernel_rfl))
 t0:=Tryz.underlying0
 a0:=Tryz.isAgg0
 z0:=Tryz.sizeOf0
 v0:=Tryz.zeroValue0
 t3:=Tryz.underlying3
 a3:=Tryz.isAgg3
 z3:=Tryz.sizeOf3
 v3:=Tryz.zeroValue3
 t4:=Tryz.underlying4
 a4:=Tryz.isAgg4
 z4:=Tryz.sizeOf4
 v4:=Tryz.zeroValue4
 t5:=Tryz.underlying5
 a5:=Tryz.isAgg5
 z5:=Tryz.sizeOf5
 v5:=Tryz.zeroValue5
 t9:=Tryz.underlying9
 a9:=Tryz.isAgg9
 z9:=Tryz.sizeOf9
 v9:=Tryz.zeroValue9
 t28:=Tryz.underlying22
 a28:=Tryz.isAgg22
 z28:=Tryz.sizeOf22
 v28:=Tryz.zeroValue22
 t46:=Tryz.underlying226
 a46:=Tryz.isAgg226
 z46:=Tryz.sizeOf226
 v46:=Tryz.zeroValue226
 t51:=Tryz.underlying256
 a51:=Tryz.isAgg256
 z51:=Tryz.sizeOf256
 v51:=Tryz.zeroValue256
 t53:=Tryz.underlying185
 a53:=Tryz.isAgg185
 z53:=Tryz.sizeOf185
 v53:=Tryz.zeroValue185
 t131:=Tryz.underlying168
 a131:=Tryz.isAgg168
 z131:=Tryz.sizeOf168
 v131:=Tryz.zeroValue168
 t182:=Tryz.underlying249
 a182:=Tryz.isAgg249
 z182:=Tryz.sizeOf249
 v182:=Tryz.zeroValue249
 t183:=Tryz.underlying250
 a183:=Tryz.isAgg250
 z183:=Tryz.sizeOf250
 v183:=Tryz.zeroValue250
 t218:=Tryz.underlying271
 a218:=Tryz.isAgg271
 z218:=Tryz.sizeOf271
 v218:=Tryz.zeroValue271
 t222:=Tryz.underlying275
 a222:=Tryz.isAgg275
 z222:=Tryz.sizeOf275
 v222:=Tryz.zeroValue275
 t228:=Tryz.underlying286
 a228:=Tryz.isAgg286
 z228:=Tryz.sizeOf286
 v228:=Tryz.zeroValue286
 t229:=Tryz.underlying287
 a229:=Tryz.isAgg287
 z229:=Tryz.sizeOf287
 v229:=Tryz.zeroValue287 }
def YtpiacnnifdjlkabGreatDoor.laysCompact_ren:Go.Shelf.Ren:=⟨fun | 20=>174 | n=>n,fun | 22=>22 | 3=>3 | 4=>4 | 0=>0 | n=>n,fun | n=>n⟩
theorem YtpiacnnifdjlkabGreatDoor.laysCompact:Go.Proofs.Lays2.n20 Tryz.prog YtpiacnnifdjlkabGreatDoor.laysCompact_ren:={
 mixed:=by kernel_rfl
 f20:=Tryz.func174.trans (congrArg some (by kernel_rfl))
 t0:=Tryz.underlying0
 a0:=Tryz.isAgg0
 z0:=Tryz.sizeOf0
 v0:=Tryz.zeroValue0
 t3:=Tryz.underlying3
 a3:=Tryz.isAgg3
 z3:=Tryz.sizeOf3
 v3:=Tryz.zeroValue3
 t4:=Tryz.underlying4
 a4:=Tryz.isAgg4
 z4:=Tryz.sizeOf4
 v4:=Tryz.zeroValue4
 t22:=Tryz.underlying22
 a22:=Tryz.isAgg22
 z22:=Tryz.sizeOf22
 v22:=Tryz.zeroValue22
 i3:=by kernel_rfl }
end Go.Proofs
namespace Go.Proofs.YtpiacnnifdjlkabGreatDoor
open Go.RowKit Go.Sort Go.Shelf
theorem insNone (n:Nat) (p:Option Addr) (cap:Nat) (w:World):CallsIn Fence.wide n Tryz.prog 246 #[.slice p 0 cap,.int .i64 0,.int .i64 0] w fun e w'=>e=.returned (.tuple #[])∧w'=w:=by
 refine callsIn_of_wp Tryz.func246 rfl trivial ?_ rfl
 simp only [Tryz.ntmps246,List.size_toArray,List.length_cons,List.length_nil,Nat.reduceAdd,Nat.reduceSub,Array.replicate_succ,Array.replicate_zero,List.push_toArray,List.append_toArray,List.nil_append,List.cons_append]
 gi_wp2
 refine wpIn_loop_rounds 1 ?_
 rw [roundsIn_succ]
 gi_wp2
 go_end0
 exact ⟨rfl,rfl⟩
theorem pdqNone (n:Nat) (p:Option Addr) (cap:Nat) (w:World):CallsIn Fence.wide n Tryz.prog 232 #[.slice p 0 cap,.int .i64 0,.int .i64 0,.int .i64 0] w fun e w'=>e=.returned (.tuple #[])∧w'=w:=by
 refine callsIn_of_wp Tryz.func232 rfl trivial ?_ rfl
 simp only [Tryz.ntmps232,List.size_toArray,List.length_cons,List.length_nil,Nat.reduceAdd,Nat.reduceSub,Array.replicate_succ,Array.replicate_zero,List.push_toArray,List.append_toArray,List.nil_append,List.cons_append]
 gi_wp2
 refine wpIn_loop_rounds 1 ?_
 rw [roundsIn_succ]
 gi_wp2_with (fail)
 refine ⟨trivial,fun h=>by simp [Fence.wide] at h,(insNone _ p cap _).mono ?_⟩
 rintro e w1 ⟨rfl,rfl⟩
 gi_wp2
 (try simp only [Exit.inBlock,Exit.then])
 refine bodyPost_ret (results_none rfl _ _ _) rfl ?_
 exact ⟨rfl,rfl⟩
theorem lenNone (w:World):Calls Tryz.prog 158 #[.int .u64 0] w fun e w'=>e=.returned (.int .i64 0)∧w'=w:=
 calls_of_every_depth fun D=>AnyS.bits_LenIn { laysSortInt with } D 0 w (by omega) (by omega)
theorem sortNone (p:Option Addr) (cap:Nat) (w:World):Calls Tryz.prog 207 #[.slice p 0 cap] w fun e w'=>e=.returned (.tuple #[])∧w'=w:=by
 go_enter Tryz.func207,Tryz.ntmps207
 go_wp2_with (fail)
 go_fit (lenNone w)
 rintro e w1 ⟨rfl,rfl⟩
 go_wp2_with (fail)
 go_fit (callsIn_wide.1 (pdqNone 1 p cap w1))
 rintro e w2 ⟨rfl,rfl⟩
 go_wp2
 go_end0
 exact ⟨rfl,rfl⟩
theorem upTo_right (d:Array Int):∀ m,(∀ j,j+1 < m→d[j]!≤d[j+1]!)→(∀ x ∈ Lib.compactUpTo d m,(∃ j,j < m∧x=d[j]!)∧x≤d[m - 1]!)∧(∀ j,j < m→d[j]! ∈ Lib.compactUpTo d m)∧(Lib.compactUpTo d m).Pairwise (· < ·)
 | 0,_=>⟨fun x hx=>by simp [Lib.compactUpTo] at hx,fun j hj=>by omega,by simp [Lib.compactUpTo]⟩
 | m+1,hs=>by
  obtain ⟨h1,h2,h3⟩:=upTo_right d m (fun j hj=>hs j (by omega))
  rw [Lib.compactUpTo_succ]
  by_cases hk:Lib.keeps d m=true
  ·rw [if_pos hk]
   have hlt:∀ x ∈ Lib.compactUpTo d m,x < d[m]!:=fun x hx=>by
    obtain ⟨⟨j,hj,_⟩,h5⟩:=h1 x hx
    simp [Lib.keeps] at hk
    rcases hk with hk | hk
    ·omega
    ·have:=hs (m - 1) (by omega)
     rw [show m - 1+1=m by omega] at this
     omega
   refine ⟨fun x hx=>?_,fun j hj=>?_,?_⟩
   ·rcases List.mem_append.1 hx with hx | hx
    ·obtain ⟨⟨j,hj,e⟩,_⟩:=h1 x hx
     exact ⟨⟨j,by omega,e⟩,Int.le_of_lt (hlt x hx)⟩
    ·simp at hx
     exact ⟨⟨m,by omega,hx⟩,by rw [hx];exact Int.le_refl _⟩
   ·by_cases e:j=m
    ·subst e;simp
    ·exact List.mem_append_left _ (h2 j (by omega))
   ·rw [List.pairwise_append]
    exact ⟨h3,by simp,fun x hx y hy=>by simp at hy;rw [hy];exact hlt x hx⟩
  ·rw [if_neg hk,List.append_nil]
   simp [Lib.keeps] at hk
   have hle:=hs (m - 1) (by omega)
   rw [show m - 1+1=m by omega] at hle
   refine ⟨fun x hx=>?_,fun j hj=>?_,h3⟩
   ·obtain ⟨⟨j,hj,e⟩,h5⟩:=h1 x hx
    refine ⟨⟨j,by omega,e⟩,?_⟩
    show x≤d[m]!
    omega
   ·by_cases e:j=m
    ·subst e
     rw [hk.2]
     exact h2 (j - 1) (by omega)
    ·exact h2 j (by omega)
def onceL (xs:List Int):List Int:=Lib.compact (xs.mergeSort fun x y=>decide (x≤y))
theorem onceL_right (xs:List Int):(∀ x,x ∈ onceL xs ↔ x ∈ xs)∧(onceL xs).Pairwise (· < ·):=by
 have hp:(xs.mergeSort fun x y=>decide (x≤y)).Pairwise fun x y=>decide (x≤y)=true:=List.pairwise_mergeSort (fun a b c h1 h2=>by simp at h1 h2 ⊢;omega) (fun a b=>by simp;omega) xs
 have hm:∀ x,x ∈ (xs.mergeSort fun x y=>decide (x≤y)) ↔ x ∈ xs:=fun x=>(List.mergeSort_perm xs _).mem_iff
 unfold onceL Lib.compact
 generalize (xs.mergeSort fun x y=>decide (x≤y))=zs at hp hm
 have hget:∀ j (hj:j < zs.length),zs.toArray[j]! = zs[j]:=fun j hj=>by rw [getElem!_pos zs.toArray j (by simpa using hj)];simp
 obtain ⟨h1,h2,h3⟩:=upTo_right zs.toArray zs.length (fun j hj=>by
  rw [hget j (by omega),hget (j+1) hj]
  have:=List.pairwise_iff_getElem.1 hp j (j+1) (by omega) hj (by omega)
  simpa using this)
 refine ⟨fun x=>?_,h3⟩
 rw [← hm x]
 constructor
 ·intro hx
  obtain ⟨⟨j,hj,e⟩,_⟩:=h1 x hx
  rw [e,hget j hj]
  exact List.getElem_mem _
 ·intro hx
  obtain ⟨j,hj,e⟩:=List.mem_iff_getElem.1 hx
  rw [← e,← hget j hj]
  exact h2 j hj
theorem values_any (a:Option Addr) (n c:Nat) (w:World):Calls Tryz.prog 176 #[.slice a n c] w fun e w'=>e=.returned (.func (.func 208) #[] #[.pointer (some ⟨w.heap.size,0,none⟩)])∧w'=w.alloc (.cells #[.slice a n c] 22):=by
 go_enter Tryz.func176,Tryz.ntmps176
 go_wp2
 go_ret
 exact ⟨rfl,rfl⟩
theorem collect_any {w:World}{xs:List Int} (g:Nat) (lb:Array Value) (eg:∀ args w,(callFunc g args).run Tryz.prog w=.ok (.enter g args) w) (C:Nat→Prop) (hC:∀ k,C k→k < w.heap.size)
  (hseq:SeqO 19 Tryz.prog g lb (fun x:Int=>#[.int .i64 x]) C (fun ys=>ys=xs) xs.length w) (hlen:xs.length≤maxLen) (hby:xs.length * 8≤140737488355328) :
  Calls Tryz.prog 206 #[.func (.func g) #[] lb] w fun e w'=>∃ v,e=.returned v∧w'.ownsRow w.heap.size 3 1 v xs.length (xs.map (Value.int .i64))∧Below w.heap.size w w':=by
 have HA:=hide (appendSeq_any g lb eg C hC hseq hlen hby)
 clear hseq
 go_enter Tryz.func206,Tryz.ntmps206
 go_wp2_with (fail)
 go_fit HA.out
 rintro e w1 ⟨v,rfl,hown,hb⟩
 have HO:=hide hown
 have HB:=hide hb
 clear hown hb
 go_wp2
 go_ret
 exact ⟨v,rfl,HO.out,HB.out⟩
theorem sorted_any {w:World}{xs:List Int} (g:Nat) (lb:Array Value) (eg:∀ args w,(callFunc g args).run Tryz.prog w=.ok (.enter g args) w) (C:Nat→Prop) (hC:∀ k,C k→k < w.heap.size)
  (hseq:SeqO 19 Tryz.prog g lb (fun x:Int=>#[.int .i64 x]) C (fun ys=>ys=xs) xs.length w) (hlen:xs.length≤maxLen) (hby:xs.length * 8≤140737488355328) :
  Calls Tryz.prog 175 #[.func (.func g) #[] lb] w fun e w'=>∃ v,e=.returned v∧w'.ownsRow w.heap.size 3 1 v xs.length ((xs.mergeSort fun x y=>decide (x≤y)).map (Value.int .i64))∧Below w.heap.size w w':=by
 have HA:=hide (collect_any g lb eg C hC hseq hlen hby)
 clear hseq
 go_enter Tryz.func175,Tryz.ntmps175
 go_wp2_with (fail)
 go_fit HA.out
 rintro e w1 ⟨v,rfl,hown,hb⟩
 have HB:=hide hb
 clear hb HA
 rcases hown.2 with ⟨rfl,hz⟩ | ⟨gb,cap,cur,rfl,hbase,hgb,r1,r2,r3,r4⟩
 ·have hss:xs=[]:=List.eq_nil_of_length_eq_zero hz
  subst hss
  have HO:=hide hown
  clear hown
  go_wp2_with (fail)
  go_fit (sortNone none 0 w1)
  rintro e w2 ⟨rfl,rfl⟩
  go_wp2
  go_ret
  exact ⟨_,rfl,by simpa using HO.out,HB.out⟩
 ·have hH:Holds (Value.int .i64) w1 gb 0 xs.toArray:=holds_of_block_i hgb (by simpa using r4)
  have hgl:gb < w1.heap.size:=(Array.getElem?_eq_some_iff.1 hgb).1
  have HO:=hide (And.intro hown (And.intro hbase (And.intro hgb (And.intro r1 (And.intro r2 r3)))))
  have HS:=hide (Any.slices_Sort_int laysSortInt gb 0 cap xs w1 hH hgl (by omega))
  clear hown hbase hgb r1 r2 r3 r4 hH
  go_wp2_with (fail)
  go_fit HS.out
  rintro e w2 ⟨rfl,nn,os,rfl⟩
  obtain ⟨hown,hbase,hgb,r1,r2,r3⟩:=HO.out
  have HO2:=hide (ownsRow_sorted_i (w:=w1) (n:=nn) (os:=os) (ss:=xs) (ts:=xs.mergeSort fun x y=>decide (x≤y)) (by simp) hbase hgb r1 r2 r3)
  have HB2:=hide (HB.out.grown (grownBy_sorted_i (w:=w1) (g:=gb) (n:=nn) (os:=os) (xs.mergeSort fun x y=>decide (x≤y)).toArray) HB.out.size (fun j hj=>by cases hj;exact hbase))
  clear HO hown hbase hgb r1 r2 r3 HS
  go_wp2
  go_ret
  exact ⟨_,rfl,HO2.out,HB2.out⟩
theorem compacted {w:World}{g cap q:Nat}{zs ys:List Int} (hl:ys.length≤zs.length) (r1:zs.length≤cap) (r2:cap≤maxLen) (hH:Holds (Value.int .i64) w g 0 zs.toArray) :
  IntSl (Go.Sort.putRow (Value.int .i64) (Sort.ahead w q) g 0 (ys ++ List.replicate (zs.length - ys.length) 0).toArray) (.slice (some ⟨g,0,none⟩) ys.length cap) ys:=by
 have hH2:Holds (Value.int .i64) (Go.Sort.putRow (Value.int .i64) (Sort.ahead w q) g 0 (ys ++ List.replicate (zs.length - ys.length) 0).toArray) g 0 (ys ++ List.replicate (zs.length - ys.length) 0).toArray:=
  holds_putRow _ _ g 0 zs.toArray _ (holds_ahead _ w q g 0 _ hH) (by simp;omega)
 refine ⟨some ⟨g,0,none⟩,cap,rfl,by omega,Or.inr ⟨g,0,rfl,fun i hi=>?_⟩,fun e=>by (cases e),by omega⟩
 have:=(hH2 i (by simp;omega)).1
 rw [this,getElem!_pos _ i (by simp;omega)]
 simp [List.getD,List.getElem?_eq_getElem hi,List.getElem_append_left hi]
theorem compact_len (zs:List Int):(Lib.compact zs).length≤zs.length:=by
 unfold Lib.compact Lib.compactUpTo
 rw [List.length_map]
 refine Nat.le_trans (List.length_filter_le _ _) ?_
 simp
theorem owns_less {w:World}{base e g n cap k:Nat}{ys:List Value} (h:w.ownsRow base e 1 (.slice (some ⟨g,0,none⟩) n cap) n ys) (hk:k≤n):w.ownsRow base e 1 (.slice (some ⟨g,0,none⟩) k cap) k (ys.take k):=by
 obtain ⟨h1,h2⟩:=h
 rcases h2 with ⟨h2,_⟩ | ⟨g',cap',cur,h2,h3,h4,h5,h6,h7,h8⟩
 ·cases h2
 ·cases h2
  refine ⟨by simp;omega,.inr ⟨_,_,cur,rfl,h3,h4,by omega,h6,h7,?_⟩⟩
  rw [← h8,List.take_take]
  congr 1
  omega
theorem rising_any {w:World}{v:Value}{xs:List Int} (hI:IntSl w v xs) (hby:xs.length * 8≤140737488355328) :
  Calls Tryz.prog 125 #[v] w fun e w'=>∃ v',e=.returned v'∧IntSl w' v' (onceL xs)∧w'.ownsRow w.heap.size 3 1 v' (onceL xs).length ((onceL xs).map (Value.int .i64))∧Below w.heap.size w w':=by
 have HI:=hide hI
 obtain ⟨a,cap,rfl,hlen,hz,-⟩:=hI
 clear hz
 go_enter Tryz.func125,Tryz.ntmps125
 go_wp2_with (fail)
 go_fit (values_any a xs.length cap w)
 rintro e w1 ⟨rfl,hw1⟩
 have hb1:=below_new w (Obj.cells #[.slice a xs.length cap] 22)
 have hn1:=one_new w (Obj.cells #[.slice a xs.length cap] 22)
 rw [← hw1] at hb1 hn1
 have hI1:=HI.out.below hb1
 have hwl:w.heap.size < w1.heap.size:=(Array.getElem?_eq_some_iff.1 hn1).1
 have HS:=hide (sorted_any (w:=w1) (xs:=xs) 208 #[.pointer (some ⟨w.heap.size,0,none⟩)] (enters_of Tryz.func208 (by kernel_rfl) rfl) (ValC w.heap.size (.slice a xs.length cap) xs) (fun k hk=>by
  rcases hk with rfl | ⟨hne,b,off,n,c,e,rfl⟩
  ·exact hwl
  ·obtain ⟨a',cap',e2,_,hz,_⟩:=hI1
   rcases hz with h | ⟨b',off',e3,hc⟩
   ·exact absurd h hne
   ·subst e3
    rw [e] at e2
    cases e2
    exact World.block_lt_of_cell? w1 _ (hc 0 (List.length_pos_iff.2 hne))) (valsSeqO 19 w.heap.size w1 (cell_of_row _ _ 0 _ _ _ hn1) hI1) hlen hby)
 have HB1:=hide hb1
 clear hw1 hb1 hn1 hI1 HI
 go_wp2_with (fail)
 go_fit HS.out
 rintro e w2 ⟨v2,rfl,hown,hb2⟩
 have HB2:=hide (below_trans HB1.out hb2)
 clear hb2 HS
 rcases hown.2 with ⟨rfl,hz⟩ | ⟨gb,cap2,cur,rfl,hbase,hgb,r1,r2,r3,r4⟩
 ·have hss:xs=[]:=List.eq_nil_of_length_eq_zero hz
  subst hss
  clear hown
  go_wp2_with (fail)
  go_fit (Any.slices_Compact_int_empty laysCompact none 0 w2)
  rintro e w3 ⟨rfl,rfl⟩
  go_wp2
  go_ret
  refine ⟨_,rfl,?_,⟨by simp [onceL,Lib.compact,Lib.compactUpTo],Or.inl ⟨rfl,by simp [onceL,Lib.compact,Lib.compactUpTo]⟩⟩,HB2.out⟩
  exact ⟨none,0,by simp [onceL,Lib.compact,Lib.compactUpTo],by simp [onceL,Lib.compact,Lib.compactUpTo],Or.inl (by simp [onceL,Lib.compact,Lib.compactUpTo]),fun _=>rfl,by simp [onceL,Lib.compact,Lib.compactUpTo]⟩
 ·have hls:(xs.mergeSort fun x y=>decide (x≤y)).length=xs.length:=by simp
  have hH:Holds (Value.int .i64) w2 gb 0 (xs.mergeSort fun x y=>decide (x≤y)).toArray:=holds_of_block_i hgb (by rw [hls];simpa using r4)
  have HC:=hide (Any.slices_Compact_int laysCompact gb 0 cap2 (xs.mergeSort fun x y=>decide (x≤y)) w2 hH (by rw [hls];exact hlen) (by rw [hls];exact r1))
  have HO:=hide (show (∀ q,IntSl (Go.Sort.putRow (Value.int .i64) (Sort.ahead w2 q) gb 0 (onceL xs ++ List.replicate (xs.length - (onceL xs).length) 0).toArray) (.slice (some ⟨gb,0,none⟩) (onceL xs).length cap2) (onceL xs))∧(∀ q,(Go.Sort.putRow (Value.int .i64) (Sort.ahead w2 q) gb 0 (onceL xs ++ List.replicate (xs.length - (onceL xs).length) 0).toArray).ownsRow w.heap.size 3 1 (.slice (some ⟨gb,0,none⟩) (onceL xs).length cap2) (onceL xs).length ((onceL xs).map (Value.int .i64)))∧w.heap.size≤gb from ⟨fun q=>by
   have:=compacted (w:=w2) (g:=gb) (cap:=cap2) (q:=q) (zs:=xs.mergeSort fun x y=>decide (x≤y)) (ys:=onceL xs) (compact_len _) (by rw [hls];exact r1) r2 hH
   rw [hls] at this
   exact this,fun q=>by
   have hol:(onceL xs).length≤xs.length:=by have:=compact_len (xs.mergeSort fun x y=>decide (x≤y));rw [hls] at this;exact this
   have h8:=ownsRow_sorted_i (w:=w2) (base:=w.heap.size) (n:=q) (os:=#[]) (ss:=xs) (ts:=onceL xs ++ List.replicate (xs.length - (onceL xs).length) 0) (by simp;omega) (by omega) hgb r1 r2 r3
   rw [grow_empty] at h8
   have h9:=owns_less h8 hol
   rw [List.map_append,List.take_append_of_le_length (by simp),List.take_of_length_le (by simp)] at h9
   exact h9,by omega⟩)
  rw [hls] at HC
  change Hid (Calls _ _ _ _ fun e w'=>e=.returned (.slice (some ⟨gb,0,none⟩) (onceL xs).length cap2)∧∃ q,w'=Go.Sort.putRow (Value.int .i64) (Sort.ahead w2 q) gb 0 (onceL xs ++ List.replicate (xs.length - (onceL xs).length) 0).toArray) at HC
  clear hown hgb r1 r2 r3 r4 hH hls hbase
  go_wp2_with (fail)
  go_fit HC.out
  rintro e w3 ⟨rfl,q,rfl⟩
  clear HC
  have HB3:=hide (HB2.out.grown (by have:=grownBy_sorted_i (w:=w2) (g:=gb) (n:=q) (os:=#[]) (onceL xs ++ List.replicate (xs.length - (onceL xs).length) 0).toArray;rw [grow_empty] at this;exact this) HB2.out.size (fun j hj=>by cases hj;exact HO.out.2.2))
  go_wp2
  go_ret
  exact ⟨_,rfl,HO.out.1 q,HO.out.2.1 q,HB3.out⟩
end Go.Proofs.YtpiacnnifdjlkabGreatDoor
