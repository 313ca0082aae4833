import Derived.Test.YtpiacnnifdjlkabGreatDoorVj
import Derived.Test.YtpiacnnifdjlkabGreatDoorVi
import Derived.Deep.DeepFit
import Derived.Test.YtpiacnnifdjlkabGreatDoorRx
import Derived.Test.YtpiacnnifdjlkabGreatDoorCh
import Derived.Lib.AppendZerosOnto
import Derived.Test.YtpiacnnifdjlkabGreatDoorCx
set_option maxRecDepth 100000
set_option maxHeartbeats 8000000
namespace Go.Proofs.YtpiacnnifdjlkabGreatDoor
open Go.RowKit Go.Sort
theorem prSl_of_owns {w:World}{base:Nat}{v:Value}{zs:List Pair}{n:Nat} (h:w.ownsRow base 153 3 v n (zs.flatMap prEnc)) (hn:zs.length=n):prSl w v zs:=by
 obtain ⟨hl,h⟩:=h
 rcases h with ⟨rfl,h0⟩ | ⟨g,cap,cur,rfl,hb,hg,h1,h2,hs,ht⟩
 ·obtain rfl:zs=[]:=List.eq_nil_of_length_eq_zero (by omega)
  exact ⟨none,0,rfl,by simp [maxLen],Or.inl rfl,fun _=>rfl,Nat.le_refl _⟩
 ·subst hn
  have hc:∀ k u,(zs.flatMap prEnc)[k]?=some u→w.cell? ⟨g,k,none⟩=some u:=fun k u hu=>by
   rw [cell_of_row w g k _ _ _ hg]
   rw [← ht,List.getElem?_take] at hu
   split at hu
   ·simpa using hu
   ·cases hu
  refine ⟨_,cap,rfl,by omega,Or.inr ⟨g,0,rfl,fun i x hx q u hu=>?_⟩,(fun e=>by cases e),h1⟩
  rw [Nat.zero_add]
  exact hc _ _ (prFlat zs i x hx q u hu)
structure PairOk (A B:Aut) (NA NB:Nat):Prop where
 nA:A.n=(NA:Nat)
 nB:B.n=(NB:Nat)
 rA:RightW A
 rB:RightW B
 fA:A.first.length≤900
 fB:B.first.length≤900
 m:2 * (NA * NB)≤800000
 s:2 * (NA * NB) * (A.steps.length * B.steps.length)≤300000000
 lA:A.steps.length≤1000000
 lB:B.steps.length≤1000000
def PairDom (NA NB:Nat) (x:Pair):Prop:=x.1 < NA∧x.2.1 < NB
theorem nodup_map {α:Type}{l:List α}{f:α→Nat} (h:l.Nodup) (hf:∀ x ∈ l,∀ y ∈ l,f x=f y→x=y):(l.map f).Nodup:=by
 rw [List.Nodup,List.pairwise_map]
 exact h.imp_of_mem fun {a b} ha hb hab e=>hab (hf a ha b hb e)
theorem pairs_few {NA NB:Nat} (l:List Pair) (hn:l.Nodup) (h:∀ x ∈ l,PairDom NA NB x):l.length≤2 * (NA * NB):=by
 have h1:=nodup_le (2 * (NA * NB)) (l.map fun x=>(x.1 * NB+x.2.1) * 2+(if x.2.2 then 1 else 0)) (nodup_map hn fun x hx y hy e=>?_) (fun q hq=>?_)
 ·rwa [List.length_map] at h1
 ·obtain ⟨x1,x2,x3⟩:=x
  obtain ⟨y1,y2,y3⟩:=y
  have hx':=h _ hx
  have hy':=h _ hy
  unfold PairDom at hx' hy'
  dsimp only at e hx' hy'
  have hb:∀ b:Bool,(if b=true then 1 else 0) < 2:=fun b=>by cases b <;> decide
  have e2:x1 * NB+x2=y1 * NB+y2∧x3=y3:=by
   have h3:=hb x3
   have h4:=hb y3
   refine ⟨by omega,?_⟩
   cases x3 <;> cases y3 <;> first | rfl | (simp at e;omega)
  have e3:x1=y1∧x2=y2:=by
   have h5:(x1 * NB+x2) / NB=x1:=by rw [Nat.mul_comm,Nat.mul_add_div (by omega),Nat.div_eq_of_lt hx'.2,Nat.add_zero]
   have h6:(y1 * NB+y2) / NB=y1:=by rw [Nat.mul_comm,Nat.mul_add_div (by omega),Nat.div_eq_of_lt hy'.2,Nat.add_zero]
   have:x1=y1:=by rw [← h5,e2.1,h6]
   subst this
   exact ⟨rfl,by omega⟩
  rw [e3.1,e3.2,e2.2]
 ·obtain ⟨x,hx,rfl⟩:=List.mem_map.1 hq
  have hx':=h x hx
  have h2:x.1 * NB+x.2.1 < NA * NB:=by
   have:(x.1+1) * NB≤NA * NB:=Nat.mul_le_mul_right _ hx'.1
   rw [Nat.add_mul,Nat.one_mul] at this
   have:=hx'.2
   omega
  split <;> omega
theorem rowsQ_len (A B:Aut) (x:Pair):∀ ss:List Stp,(rowsQ A B x ss).length≤ss.length * B.steps.length
 | []=>Nat.zero_le _
 | s :: ss=>by
  have h1:=rowsQ_len A B x ss
  have h2:(rowQ A B x s (B.steps.filter fun t=>decide (t.f=(x.2.1:Int)))).length≤B.steps.length:=by
   unfold rowQ
   rw [List.length_map]
   exact Nat.le_trans (List.length_filter_le _ _) (List.length_filter_le _ _)
  unfold rowsQ at h1 ⊢
  rw [List.flatMap_cons,List.length_append,List.length_cons,Nat.add_mul,Nat.one_mul]
  omega
theorem pAfter_len (A B:Aut) (x:Pair):(pAfter A B x).length≤A.steps.length * B.steps.length:=by
 rw [← rowsQ_all]
 exact Nat.le_trans (rowsQ_len A B x _) (Nat.mul_le_mul_right _ (List.length_filter_le _ _))
theorem dom_after {A B:Aut}{NA NB:Nat} (h:PairOk A B NA NB) {x:Pair}{p:Int × Pair} (hp:p ∈ pAfter A B x):PairDom NA NB p.2:=by
 obtain ⟨c,q⟩:=p
 obtain ⟨s,hs,t,ht,_,_,_,_,rfl⟩:=pAfter_mem.1 hp
 have h1:=h.rA.steps s hs
 have h2:=h.rB.steps t ht
 have:=h.nA
 have:=h.nB
 exact ⟨by show s.t.toNat < NA;omega,by show t.t.toNat < NB;omega⟩
theorem dom_first {A B:Aut}{NA NB:Nat} (h:PairOk A B NA NB) {x:Pair} (hx:x ∈ pFirst A B):PairDom NA NB x:=by
 obtain ⟨a,ha,b,hb,rfl⟩:=pFirst_mem.1 hx
 have h1:=h.rA.first a ha
 have h2:=h.rB.first b hb
 have:=h.nA
 have:=h.nB
 exact ⟨by show a.toNat < NA;omega,by show b.toNat < NB;omega⟩
theorem pFirst_len (A B:Aut):(pFirst A B).length=A.first.length * B.first.length:=by
 unfold pFirst
 induction A.first with
 | nil=>simp
 | cons a l ih =>
  rw [List.flatMap_cons,List.length_append,ih,List.length_map,List.length_cons,Nat.add_mul,Nat.one_mul]
  omega
theorem pairNodes {A B:Aut}{NA NB:Nat} (h:PairOk A B NA NB) {w:World}{bA bB bGd:Nat}{fA gA fB gB fsv:Value}{aA aB:Option Addr}{cA cB:Nat} (hbA:w.heap[bA]?=some (.cells #[.int .i64 A.n,.int .i64 A.m,fA,gA,.slice aA A.steps.length cA] 26)) (hbB:w.heap[bB]?=some (.cells #[.int .i64 B.n,.int .i64 B.m,fB,gB,.slice aB B.steps.length cB] 26))
  (hbG:w.heap[bGd]?=some (.cells #[.func (.func 103) #[] #[.pointer (some ⟨bA,0,none⟩)]] 154)) (hgA:BoolSl w gA A.good) (hgB:BoolSl w gB B.good) (hsA:StepSl w (.slice aA A.steps.length cA) A.steps) (hsB:StepSl w (.slice aB B.steps.length cB) B.steps) (hfs:prSl w fsv (pFirst A B)) :
  Calls Tryz.prog 104 #[.int .i64 A.m,fsv,.func (.func 103) #[] #[.pointer (some ⟨bA,0,none⟩)],.func (.func 105) #[] #[.pointer (some ⟨bGd,0,none⟩),.pointer (some ⟨bB,0,none⟩),.pointer (some ⟨bA,0,none⟩)]] w fun e w'=>∃ v,e=.returned v∧prMade (pFirst A B) (pGood A) (pAfter A B) A.m (PairDom NA NB) (2 * (NA * NB)) (A.steps.length * B.steps.length) w w' v:=by
 have hgl:A.good.length=NA:=by have:=h.rA.good;have:=h.nA;omega
 have hgl':B.good.length=NB:=by have:=h.rB.good;have:=h.nB;omega
 have hltA:=(Array.getElem?_eq_some_iff.1 hbA).1
 have hltB:=(Array.getElem?_eq_some_iff.1 hbB).1
 refine prAuto A.m fsv _ hfs (by
  rw [pFirst_len]
  have hp:=Nat.mul_le_mul h.fA h.fB
  generalize A.first.length * B.first.length=z at hp ⊢
  omega) _ _ _ _ _ _ (fun _ _=>rfl) (fun _ _=>rfl) (PairDom NA NB) (fun x hx=>dom_first h hx) (pGood A) (pAfter A B) (fun x _ p hp=>dom_after h hp) _ _ (fun l hn hd=>pairs_few l hn hd) (fun x _=>pAfter_len A B x) h.m h.s ?_ ?_
 ·intro x hx W hb
  exact pairGood x (belowRow hb hbA) (hgA.below hb) (by rw [hgl];exact hx.1)
 ·intro x hx W hb
  refine (pairAfter x (belowRow hb hbA) (belowRow hb hbB) (belowRow hb hbG) (hgA.below hb) (hgB.below hb) (by rw [hgl];exact hx.1) (by rw [hgl'];exact hx.2)).mono ?_
  rintro e W' ⟨wb,rfl,hb',hp,hw,hlt⟩
  have hwb:wb < W'.heap.size:=(Array.getElem?_eq_some_iff.1 hw).1
  have hsz:=hb.size
  have hbb:=below_trans hb hb'
  have hWl:W.heap.size < W'.heap.size:=(Array.getElem?_eq_some_iff.1 hp).1
  refine ⟨_,_,PairC bA W.heap.size bB wb aA aB A.steps B.steps,rfl,hb',fun _ _=>rfl,fun k hk=>?_,?_⟩
  ·rcases hk with h1 | h1 | h1 | h1 | ⟨hne,b,off,e,rfl⟩ | ⟨hne,b,off,e,rfl⟩
   ·exact Or.inl (by omega)
   ·exact Or.inr (by omega)
   ·exact Or.inl (by omega)
   ·exact Or.inr (by omega)
   ·exact Or.inl (stepSl_lt hsA (by rw [e]) hne)
   ·exact Or.inl (stepSl_lt hsB (by rw [e]) hne)
  ·exact pairSeq x NA NB W' (belowRow hbb hbA) (belowRow hbb hbB) hp hw (hsA.below hbb) (hsB.below hbb) h.lA h.lB (mono_getD h.rA.sorted) (mono_getD h.rB.sorted) (fun s hs=>by have h1:=h.rA.steps s hs;have h2:=h.rA.m8;have h3:=h.nA;exact ⟨h1.2.2.1,by omega,h1.2.2.2.2.1,by omega⟩) (fun s hs=>by have h1:=h.rB.steps s hs;have h2:=h.rB.m8;have h3:=h.nB;exact ⟨h1.2.2.1,by omega,h1.2.2.2.2.1,by omega⟩) _ (Nat.le_refl _)
def pFirstN (A B:Aut) (i:Nat):List Pair:=(A.first.take i).flatMap fun x=>B.first.map fun y=>⟨x.toNat,y.toNat,false⟩
theorem pFirstN_all (A B:Aut):pFirstN A B A.first.length=pFirst A B:=by unfold pFirstN pFirst;rw [List.take_length]
theorem pFirstN_next {A B:Aut}{i:Nat} (h:i < A.first.length):pFirstN A B (i+1)=pFirstN A B i ++ (B.first.take B.first.length).map fun y=>((A.first.getD i 0).toNat,y.toNat,false):=by
 unfold pFirstN
 rw [List.take_add_one,List.getElem?_eq_getElem h,List.flatMap_append,List.take_length]
 simp [List.getD,h]
theorem pFirstN_len (A B:Aut) (i:Nat):(pFirstN A B i).length≤A.first.length * B.first.length:=by
 unfold pFirstN
 have:∀ l:List Int,(l.flatMap fun x=>B.first.map fun y=>((x.toNat,y.toNat,false):Pair)).length=l.length * B.first.length:=fun l=>by
  induction l with
  | nil=>simp
  | cons a l ih=>rw [List.flatMap_cons,List.length_append,ih,List.length_map,List.length_cons,Nat.add_mul,Nat.one_mul];omega
 rw [this]
 exact Nat.mul_le_mul_right _ (by rw [List.length_take];omega)
theorem pairAuto_any {A B:Aut}{NA NB:Nat} (h:PairOk A B NA NB) {w:World}{av bv:Value} (hA:AutV w av A) (hB:AutV w bv B) :
  Calls Tryz.prog 62 #[av,bv] w fun e w'=>∃ v,e=.returned v∧∃ met O,OfNodes (pFirst A B) (pGood A) (pAfter A B) met O∧O.m=A.m∧(∀ x ∈ met,PairDom NA NB x)∧met.length≤2 * (NA * NB)∧O.steps.length≤2 * (NA * NB) * (A.steps.length * B.steps.length)∧O.steps.Pairwise (fun a b=>0≤ordS b a)∧((∀ x,(pAfter A B x).Nodup)→O.steps.Nodup)∧AutO w' w.heap.size v O∧Below w.heap.size w w':=by
 have hmf:∀ (fn:Fn) (first cap:Array Value) (w:World),(Instr.makeFunc fn first cap).run Tryz.prog w=.ok (.func fn first cap) w:=fun _ _ _ _=>rfl
 have hsf:∀ (a:Addr) (fn:Fn) (x y:Array Value) (md:Mode) (w:World),(store a (.func fn x y) md).run Tryz.prog w=stored Tryz.prog w a (.func fn x y) md:=fun a fn x y md w=>run_store Tryz.prog w a _ md rfl
 obtain ⟨fv,gv,sv,rfl,hf,hg,hs⟩:=hA
 obtain ⟨fv',gv',sv',rfl,hf',hg',hs'⟩:=hB
 have HF:=hide (And.intro hf hf')
 have HG:=hide (And.intro hg hg')
 have HS:=hide (And.intro hs hs')
 have HH:=hide h
 obtain ⟨fa,fc,rfl,hmf1,hz,hfn,hfc⟩:=hf
 obtain ⟨fb,fd,rfl,hmf2,hz',hfn',hfc'⟩:=hf'
 obtain ⟨ga,gc,rfl,-⟩:=hg
 obtain ⟨gb,gd,rfl,-⟩:=hg'
 obtain ⟨sa,sc,rfl,-⟩:=hs
 obtain ⟨sb,sd,rfl,-⟩:=hs'
 have hfl:=h.fA
 have hfl':=h.fB
 obtain ⟨r0,r1,r2⟩:=three_alloc w (Obj.cells #[Value.int .i64 A.n,.int .i64 A.m,.slice fa A.first.length fc,.slice ga A.good.length gc,.slice sa A.steps.length sc] 26) (Obj.cells #[Value.int .i64 B.n,.int .i64 B.m,.slice fb B.first.length fd,.slice gb B.good.length gd,.slice sb B.steps.length sd] 26) (Obj.cells #[Value.int .i64 0,.int .i64 0,.slice none 0 0,.slice none 0 0,.slice none 0 0] 26)
 have hb3:Below w.heap.size w (((w.alloc (Obj.cells #[Value.int .i64 A.n,.int .i64 A.m,.slice fa A.first.length fc,.slice ga A.good.length gc,.slice sa A.steps.length sc] 26)).alloc (Obj.cells #[Value.int .i64 B.n,.int .i64 B.m,.slice fb B.first.length fd,.slice gb B.good.length gd,.slice sb B.steps.length sd] 26)).alloc (Obj.cells #[Value.int .i64 0,.int .i64 0,.slice none 0 0,.slice none 0 0,.slice none 0 0] 26)):=(by repeat (first | exact Below.refl _ _ | assumption | refine below_drewN ?_ _ | refine Below.drew ?_ | refine Below.alloc ?_ (by simp <;> omega) _ | refine below_trans ?_ (by assumption)))
 have hsz3:(((w.alloc (Obj.cells #[Value.int .i64 A.n,.int .i64 A.m,.slice fa A.first.length fc,.slice ga A.good.length gc,.slice sa A.steps.length sc] 26)).alloc (Obj.cells #[Value.int .i64 B.n,.int .i64 B.m,.slice fb B.first.length fd,.slice gb B.good.length gd,.slice sb B.steps.length sd] 26)).alloc (Obj.cells #[Value.int .i64 0,.int .i64 0,.slice none 0 0,.slice none 0 0,.slice none 0 0] 26)).heap.size=w.heap.size+1+1+1:=by simp
 have Hz:=hide (And.intro hz hz')
 clear hz hz' h
 go_enter Tryz.func62,Tryz.ntmps62
 go_wp2_with (fail)
 generalize ((w.alloc (Obj.cells #[Value.int .i64 A.n,.int .i64 A.m,.slice fa A.first.length fc,.slice ga A.good.length gc,.slice sa A.steps.length sc] 26)).alloc (Obj.cells #[Value.int .i64 B.n,.int .i64 B.m,.slice fb B.first.length fd,.slice gb B.good.length gd,.slice sb B.steps.length sd] 26)).alloc (Obj.cells #[Value.int .i64 0,.int .i64 0,.slice none 0 0,.slice none 0 0,.slice none 0 0] 26)=W3 at *
 have HR:=hide (And.intro r0 (And.intro r1 r2))
 have HB3:=hide hb3
 clear r0 r1 r2 hb3
 have hfew:∀ i,(pFirstN A B i).length≤810000:=fun i=>by
  have h1:=pFirstN_len A B i
  have h2:=Nat.mul_le_mul hfl hfl'
  generalize A.first.length * B.first.length=z at h1 h2
  omega
 have HFew:=hide hfew
 clear hfew
 go_loopw [5,14] (fun s5 s14 wr=>∃ i:Nat,s14=.int .i64 i∧i≤A.first.length∧Hid (wr.ownsRow W3.heap.size 153 3 s5 (pFirstN A B i).length ((pFirstN A B i).flatMap prEnc))∧Hid (Below W3.heap.size W3 wr)) (fun _ s14 _=>A.first.length - (intOf s14).toNat)
 case atStart=>exact ⟨0,rfl,Nat.zero_le _,hide (by simp [pFirstN];exact World.ownsRow_nil _ _ _ _),hide (Below.refl _ _)⟩
 case round =>
  obtain ⟨i,rfl,hi,HO,HB⟩:=hrel
  obtain ⟨ad,cp,rfl⟩:=owns_form HO.out
  have hr0:=belowRow HB.out HR.out.1
  have hr1:=belowRow HB.out HR.out.2.1
  by_cases hil:i < A.first.length
  ·rcases Hz.out.1 with h0 | ⟨b5,o5,e5,hc⟩
   ·rw [h0] at hil;simp at hil
   subst e5
   have hx0:=HH.out.rA.first _ (getD_mem (d:=0) hil)
   obtain ⟨xn,hxn⟩:=Int.eq_ofNat_of_zero_le hx0.1
   have d0:wr.cell? ⟨b5,o5+i,none⟩=some (.int .i64 (xn:Nat)):=by
    have h1:=hc i hil
    rw [hxn] at h1
    have hb5:=World.block_lt_of_cell? w _ h1
    exact ((HB.out.cell (p:=⟨b5,_,none⟩) (by have:=HB3.out.size;dsimp only at hb5 ⊢;omega)).trans (HB3.out.cell (p:=⟨b5,_,none⟩) hb5)).trans h1
   have HXn:=hide hxn
   have q2:=cell_of_row _ _ 2 _ _ _ hr1
   clear hc hx0 hxn hr0
   go_wp2_with (fail)
   go_loopw [5,21] (fun s5 s21 wr2=>∃ j:Nat,s21=.int .i64 j∧j≤B.first.length∧Hid (wr2.ownsRow W3.heap.size 153 3 s5 (pFirstN A B i ++ (B.first.take j).map fun y=>((xn,y.toNat,false):Pair)).length ((pFirstN A B i ++ (B.first.take j).map fun y=>((xn,y.toNat,false):Pair)).flatMap prEnc))∧Hid (Below W3.heap.size W3 wr2)) (fun _ s21 _=>B.first.length - (intOf s21).toNat)
   case atStart=>exact ⟨0,rfl,Nat.zero_le _,hide (by have:=HO.out;simpa using this),HB⟩
   case round =>
    obtain ⟨j,rfl,hj,HO2,HB2⟩:=hrel
    obtain ⟨ad2,cp2,rfl⟩:=owns_form HO2.out
    by_cases hjl:j < B.first.length
    ·rcases Hz.out.2 with h0 | ⟨b6,o6,e6,hc⟩
     ·rw [h0] at hjl;simp at hjl
     subst e6
     have hy0:=HH.out.rB.first _ (getD_mem (d:=0) hjl)
     obtain ⟨yn,hyn⟩:=Int.eq_ofNat_of_zero_le hy0.1
     have d1:wr.cell? ⟨b6,o6+j,none⟩=some (.int .i64 (yn:Nat)):=by
      have h1:=hc j hjl
      rw [hyn] at h1
      have hb6:=World.block_lt_of_cell? w _ h1
      exact ((HB2.out.cell (p:=⟨b6,_,none⟩) (by have:=HB3.out.size;dsimp only at hb6 ⊢;omega)).trans (HB3.out.cell (p:=⟨b6,_,none⟩) hb6)).trans h1
     have HYn:=hide hyn
     have hb8:=below_new wr (Obj.cells #[Value.int .i64 (xn:Nat),.int .i64 (yn:Nat),.bool false] 153 (0,0))
     have hn8:=one_new wr (Obj.cells #[Value.int .i64 (xn:Nat),.int .i64 (yn:Nat),.bool false] 153 (0,0))
     have HownW:=hide (owns_kept HO2.out (fun r hr=>hb8.block r (HO2.out.lt r hr).2))
     have Hc0:=hide (show ∀ k u,(prEnc (xn,yn,false))[k]?=some u→(wr.alloc (Obj.cells #[Value.int .i64 (xn:Nat),.int .i64 (yn:Nat),.bool false] 153 (0,0))).cell? ⟨wr.heap.size,k,none⟩=some u from fun k u hu=>by
      rw [cell_of_row _ _ k _ _ _ hn8]
      simpa [prEnc] using hu)
     have hlen:(pFirstN A B i ++ (B.first.take j).map fun y=>((xn,y.toNat,false):Pair)).length≤900000:=by
      rw [List.length_append,List.length_map,List.length_take]
      have:=HFew.out i
      omega
     have HszW:=hide (show W3.heap.size≤(wr.alloc (Obj.cells #[Value.int .i64 (xn:Nat),.int .i64 (yn:Nat),.bool false] 153 (0,0))).heap.size by have:=HB2.out.size;simp;omega)
     have Hb8:=hide (HB2.out.trans (hb8.mono HB2.out.size))
     clear hc hy0 hyn hb8 hn8 d0
     go_wp2_with (at_builtin;refine wpList_append_one _ rfl (.tmp 25) (.tmp 29) 151 153 3 24 rfl prEl W3.heap.size _ _ _ rfl HownW.out wr.heap.size 1 (prEnc (xn,yn,false)) rfl rfl Hc0.out (prEnc_one _) hlen HszW.out ?_;intro g8 cap8 w8 hown8 hgrow8 hor8 hbase8;have Hown8:=hide hown8;have Hbl8:=hide (Hb8.out.trans ((Below.refl W3.heap.size _).grown hgrow8 HszW.out (fun k hk=>(HownW.out.lt k hk).1)));clear hown8 hgrow8 hor8 hbase8)
     go_roundw
     case rel =>
      refine ⟨j+1,by go_num,by omega,hide ?_,Hbl8⟩
      have e1:(B.first.take (j+1)).map (fun y=>((xn,y.toNat,false):Pair))=(B.first.take j).map (fun y=>((xn,y.toNat,false):Pair)) ++ [(xn,yn,false)]:=by
       rw [List.take_add_one,List.getElem?_eq_getElem hjl,List.map_append]
       have e2:B.first[j]=(yn:Nat):=by have:=HYn.out;simpa [List.getD,hjl] using this
       simp [e2]
      have e3:[((xn,yn,false):Pair)].flatMap prEnc=prEnc (xn,yn,false):=rfl
      rw [e1,← List.append_assoc,List.length_append,List.flatMap_append,e3]
      have el:(pFirstN A B i ++ (B.first.take j).map fun y=>((xn,y.toNat,false):Pair)).length=(pFirstN A B i).length+j:=by
       rw [List.length_append,List.length_map,List.length_take]
       omega
      have h9:=Hown8.out
      rw [el] at h9 ⊢
      exact h9
     case measure=>simp [intOf];omega
    ·have ej:j=B.first.length:=by omega
     subst ej
     clear d0
     go_wp2
     go_roundw
     case rel =>
      refine ⟨i+1,by go_num,by omega,hide ?_,HB2⟩
      rw [pFirstN_next hil,HXn.out,Int.toNat_natCast]
      exact HO2.out
     case measure=>simp [intOf];omega
  ·have ei:i=A.first.length:=by omega
   subst ei
   rw [pFirstN_all] at HO ⊢
   have hr2:=belowRow HB.out HR.out.2.2
   have hbn:=below_new wr (Obj.cells #[Value.func (.func 103) #[] #[.pointer (some ⟨w.heap.size,0,none⟩)]] 154)
   have hgn:=one_new wr (Obj.cells #[Value.func (.func 103) #[] #[.pointer (some ⟨w.heap.size,0,none⟩)]] 154)
   have hbw:Below w.heap.size w (wr.alloc (Obj.cells #[Value.func (.func 103) #[] #[.pointer (some ⟨w.heap.size,0,none⟩)]] 154)):=(HB3.out.trans (HB.out.mono HB3.out.size)).trans (hbn.mono (by have:=HB.out.size;have:=HB3.out.size;omega))
   have hfs:=prSl_of_owns (owns_kept HO.out (fun r hr=>hbn.block r (HO.out.lt r hr).2)) rfl
   have HN:=hide (pairNodes HH.out (belowRow hbn hr0) (belowRow hbn hr1) hgn (HG.out.1.below hbw) (HG.out.2.below hbw) (HS.out.1.below hbw) (HS.out.2.below hbw) hfs)
   have m1:=cell_of_row _ _ 1 _ _ _ (belowRow hbn hr0)
   have g0:=cell_of_row _ _ 0 _ _ _ hgn
   have HR2:=hide (belowRow hbn hr2)
   have HBW:=hide hbw
   have hwz:w.heap.size+1+1 < wr.heap.size:=(Array.getElem?_eq_some_iff.1 hr2).1
   clear hr0 hr1 hr2 hbn hgn hbw hfs
   go_wp2_with (fail)
   go_fit HN.out
   rintro e w9 ⟨v9,rfl,hm9⟩
   obtain ⟨met,O,k1,k2,k3,k4,k5,k6,k7,k8⟩:=hm9.out
   have hbl:=hm9.bl
   obtain ⟨o1,o2,o3,rfl,w1,w2,w3⟩:=id k8
   obtain ⟨b1,e1,rfl⟩:=owns_form w1
   obtain ⟨b2,e2,rfl⟩:=owns_form w2
   obtain ⟨b3,e3,rfl⟩:=owns_form w3
   have h09:=belowRow hbl HR2.out
   have hF:=fivePut_box h09 (.int .i64 O.n) (.int .i64 O.m) (.slice b1 O.first.length e1) (.slice b2 O.good.length e2) (.slice b3 O.steps.length e3)
   have y0:=cell_of_row _ _ 0 _ _ _ h09
   have y1:=cell_of_row _ _ 1 _ _ _ h09
   have y2:=cell_of_row _ _ 2 _ _ _ h09
   have y3:=cell_of_row _ _ 3 _ _ _ h09
   have y4:=cell_of_row _ _ 4 _ _ _ h09
   have z0:=frozen_of_row _ _ 0 _ _ h09
   have z1:=frozen_of_row _ _ 1 _ _ h09
   have z2:=frozen_of_row _ _ 2 _ _ h09
   have z3:=frozen_of_row _ _ 3 _ _ h09
   have z4:=frozen_of_row _ _ 4 _ _ h09
   have f0:=cell_of_row _ _ 0 _ _ _ hF
   have f1:=cell_of_row _ _ 1 _ _ _ hF
   have f2:=cell_of_row _ _ 2 _ _ _ hF
   have f3:=cell_of_row _ _ 3 _ _ _ hF
   have f4:=cell_of_row _ _ 4 _ _ _ hF
   have HBF:=hide (fivePut_below (HBW.out.trans (hbl.mono HBW.out.size)) (show w.heap.size≤w.heap.size+1+1 by omega) (.int .i64 O.n) (.int .i64 O.m) (.slice b1 O.first.length e1) (.slice b2 O.good.length e2) (.slice b3 O.steps.length e3))
   have HAF:=hide ((k8.lower (show w.heap.size≤_ from HBW.out.size)).five h09 (.int .i64 O.n) (.int .i64 O.m) (.slice b1 O.first.length e1) (.slice b2 O.good.length e2) (.slice b3 O.steps.length e3))
   have HK:=hide (And.intro k1 (And.intro k2 (And.intro k3 (And.intro k4 (And.intro k5 (And.intro k6 k7))))))
   unfold fivePut at f0 f1 f2 f3 f4 HBF HAF
   clear hF h09 hbl hm9 k1 k2 k3 k4 k5 k6 k7 k8 w1 w2 w3 m1 g0 HN
   go_wp2
   exact bodyPost_ret (v:=.agg #[.int .i64 O.n,.int .i64 O.m,.slice b1 O.first.length e1,.slice b2 O.good.length e2,.slice b3 O.steps.length e3]) (by simp [results,Tryz.results62,go_sem,f0,f1,f2,f3,f4]) rfl ⟨_,rfl,met,O,HK.out.1,HK.out.2.1,HK.out.2.2.1,HK.out.2.2.2.1,HK.out.2.2.2.2.1,HK.out.2.2.2.2.2.1,HK.out.2.2.2.2.2.2,HAF.out,HBF.out⟩
end Go.Proofs.YtpiacnnifdjlkabGreatDoor
namespace Go.Proofs.YtpiacnnifdjlkabGreatDoor
theorem ordS_strict {a b:Stp} (h:0≤ordS b a) (hne:a ≠ b):ordS a b < 0:=by
 have h1:¬ ordS b a < 0:=by omega
 rw [ordS_lt] at h1 ⊢
 obtain ⟨af,al,at_⟩:=a
 obtain ⟨bf,bl,bt⟩:=b
 dsimp only at *
 by_cases e1:af=bf
 ·by_cases e2:al=bl
  ·by_cases e3:at_=bt
   ·subst e1 e2 e3;exact absurd rfl hne
   ·omega
  ·omega
 ·omega
theorem steps_chk (n m:Int):∀ (ss:List Stp) (p:Option Stp),(∀ s ∈ ss,badS n m s=false)→(∀ q,p=some q→∀ s ∈ ss,ordS q s < 0)→ss.Pairwise (fun a b=>ordS a b < 0)→chkStepsFrom n m p ss=0
 | [],_,_,_,_=>rfl
 | s :: ss,p,hb,hq,hp=>by
  rw [List.pairwise_cons] at hp
  have h1:=steps_chk n m ss (some s) (fun x hx=>hb x (List.mem_cons_of_mem _ hx)) (fun q e x hx=>by obtain rfl:=Option.some.inj e;exact hp.1 x hx) hp.2
  unfold chkStepsFrom
  rw [if_neg (by rw [hb s (by simp)];simp)]
  cases p with
  | none=>exact h1
  | some q =>
   have:=hq q rfl s (by simp)
   dsimp only
   rw [if_neg (by simp;omega)]
   exact h1
end Go.Proofs.YtpiacnnifdjlkabGreatDoor
namespace Go.Proofs.YtpiacnnifdjlkabGreatDoor
open Go.RowKit Go.Sort
theorem wp_store5 {o:Oper}{ka kv:Nat}{a:Act}{w:World}{K:Act→World→Prop}{Q:Exit→Act→World→Prop} (ho:o.op=.store 26 (.tmp ka) (.tmp kv)) (hd:o.dst=none) {y:Nat}{n0 n1:Int}{p2 p3 p4:Option Addr}{l2 l3 l4 k2 k3 k4:Nat}{u0 u1 u2 u3 u4:Value} (ha:a.tmps[ka]?.getD undef=.pointer (some ⟨y,0,none⟩)) (hv:a.tmps[kv]?.getD undef=.agg #[.int .i64 n0,.int .i64 n1,.slice p2 l2 k2,.slice p3 l3 k3,.slice p4 l4 k4]) (y0:w.cell? ⟨y,0,none⟩=some u0) (y1:w.cell? ⟨y,1,none⟩=some u1) (y2:w.cell? ⟨y,2,none⟩=some u2) (y3:w.cell? ⟨y,3,none⟩=some u3) (y4:w.cell? ⟨y,4,none⟩=some u4) (z:∀ k,w.frozen? ⟨y,k,none⟩=false) (h:K a (fivePut w y (.int .i64 n0) (.int .i64 n1) (.slice p2 l2 k2) (.slice p3 l3 k3) (.slice p4 l4 k4))):o.wp Tryz.prog a w K Q:=by
 unfold Oper.wp execOp
 simp [ho,go_sem,ha,hv,y0,y1,y2,y3,y4,z]
 rw [hd]
 exact h
theorem wp_region_store5 {ops:Array Oper}{Q:Exit→Act→World→Prop}{a0:Act}{id:Nat}{w:World} (L X:Nat) (ds:List (Nat × Tmp)) (V:Bool→World→Prop) (R:Nat→Value→World→Prop) (ka kv:Nat) (hds:dstList ops (List.range L)=ds) (hm:Tryz.prog.follows .mixedOrders=true) (h:orderly ops a0.tmps.size=true) (hh:hung ops=true) (hsz:ops.size=L+1) (hop:ops[L]?.map (fun o=>(o.op,o.dst))=some (.store 26 (.tmp ka) (.tmp kv),none)) (hXL:X < L)
  (h0:V false { w with drawn:=w.drawn+1 }) (hstep:∀ i o,i < L→i ≠ X→ops[i]?=some o→∀ b,StepOk Tryz.prog ops Q (V b) R a0 i o) (hX:∀ o,ops[X]?=some o→StepX Tryz.prog ops Q V R a0 X o)
  (hend:∀ (vs:Nat→Value) (w:World),V true w→(∀ i,i < L→R i (vs i) w)→∃ (y:Nat) (n0 n1:Int) (p2 p3 p4:Option Addr) (l2 l3 l4 k2 k3 k4:Nat) (u0 u1 u2 u3 u4:Value),(putPairs vs ds a0.tmps)[ka]?.getD undef=.pointer (some ⟨y,0,none⟩)∧(putPairs vs ds a0.tmps)[kv]?.getD undef=.agg #[.int .i64 n0,.int .i64 n1,.slice p2 l2 k2,.slice p3 l3 k3,.slice p4 l4 k4]∧w.heap[y]?=some (.cells #[u0,u1,u2,u3,u4] 26)∧Q .normal { a0 with tmps:=putPairs vs ds a0.tmps } (fivePut w y (.int .i64 n0) (.int .i64 n1) (.slice p2 l2 k2) (.slice p3 l3 k3) (.slice p4 l4 k4))):(Code.region id ops true).wp Tryz.prog Q a0 w:=by
 cases ho:ops[L]? with
 | none=>rw [ho] at hop;cases hop
 | some oL =>
  rw [ho] at hop
  injection hop with hop
  injection hop with hop1 hop2
  refine wp_region_last L X oL ds V R hds hm h hh hsz ho hXL h0 hstep hX fun vs W hW hR=>?_
  obtain ⟨y,n0,n1,p2,p3,p4,l2,l3,l4,k2,k3,k4,u0,u1,u2,u3,u4,e1,e2,hy,hq⟩:=hend vs W hW hR
  exact wp_store5 hop1 hop2 e1 e2 (cell_of_row _ _ 0 _ _ _ hy) (cell_of_row _ _ 1 _ _ _ hy) (cell_of_row _ _ 2 _ _ _ hy) (cell_of_row _ _ 3 _ _ _ hy) (cell_of_row _ _ 4 _ _ _ hy) (fun k=>frozen_of_row W y k _ _ hy) hq
end Go.Proofs.YtpiacnnifdjlkabGreatDoor
