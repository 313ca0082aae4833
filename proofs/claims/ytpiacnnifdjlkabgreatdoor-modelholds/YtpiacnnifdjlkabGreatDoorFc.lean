import Derived.Test.YtpiacnnifdjlkabGreatDoorTl
import Derived.Test.YtpiacnnifdjlkabGreatDoorEg
import Derived.Test.YtpiacnnifdjlkabGreatDoorVo
import Derived.Test.YtpiacnnifdjlkabGreatDoorNb
import Derived.Deep.RegionLaw
set_option maxRecDepth 100000
set_option maxHeartbeats 8000000
namespace Go.Proofs.YtpiacnnifdjlkabGreatDoor
open Go.RowKit Go.Sort
theorem cntM_take (F:List Nd):∀ m,m≤F.length→cntT (F.take m)=cntM F m
 | 0,_=>rfl
 | m+1,h=>by
  rw [cntT_snoc F m (by omega),cntM_take F m (by omega)]
  show _=cntM F m+if 6≤kN F m∧kN F m≤8 then 1 else 0
  unfold tmpB kN
  simp only [decide_eq_true_eq]
theorem cnt_of {F:List Nd} (h:chkF F=0):cntM F F.length≤4:=by
 rw [← cntM_take F F.length (Nat.le_refl _),List.take_length]
 unfold chkF at h
 split at h
 ·omega
 ·split at h
  ·omega
  ·omega
theorem afterC_len {F:List Nd} (h16:(partsL (foreL F)).length≤16) (s:Spo):∀ c,(afterC F s c).length≤16 * c
 | 0=>Nat.zero_le _
 | c+1=>by
  have h1:=afterC_len h16 s c
  have h2:(rowP F s c (partsL (foreL F))).length≤(partsL (foreL F)).length:=by
   unfold rowP
   rw [List.length_map]
   exact List.length_filter_le _ _
  rw [afterC_next,List.length_append]
  omega
theorem spo_small {F:List Nd} (hF:RdOk F) {x:Spo} (hx:SpoOk F x):x.2.1 < 65536∧x.2.2≤(lastL F).length:=by
 rcases hx with rfl | ⟨_,h1,h2⟩
 ·exact ⟨by decide,Nat.zero_le _⟩
 ·exact ⟨Nat.lt_of_le_of_lt (by rw [← h1];exact Nat.and_le_right) (foreL_lt hF),h2⟩
theorem readerAuto {F:List Nd} (hF:RdOk F) (hc:cntM F F.length≤4) (fv lv fsv:Value) (w:World) (hv:NodeSl w fv F) (hl:IntSl w lv ((lastL F).map fun (i:Nat)=>(i:Int))) (hlb:∀ a n c,lv=.slice (some a) n c→a.block < w.heap.size) (hfs:spSl w fsv [(true,0,0)]) :
  Calls Tryz.prog 70 #[.int .i64 8,fsv,.func (.func 71) #[.agg #[fv,.int .u16 (foreL F:Nat),lv]] #[],.func (.func 72) #[.agg #[fv,.int .u16 (foreL F:Nat),lv]] #[]] w fun e w'=>∃ v,e=.returned v∧spMade [(true,0,0)] (goodT F) (afterT F) 8 (SpoOk F) 81 128 w w' v:=by
 have h16:=parts_few hc
 refine spAuto 8 fsv _ hfs (by simp) _ _ _ _ _ _ (fun _ _=>rfl) (fun _ _=>rfl) (SpoOk F) (fun x hx=>by simp at hx;exact Or.inl hx) (goodT F) (afterT F) (fun x hx p hp=>spoOk_after hx hp) 81 128 (fun l hn h=>spots_few hc hn h) (fun x _=>by rw [← afterC_all];exact afterC_len h16 x 8) (by omega) (by omega) ?_ ?_
 ·intro x hx W hb
  obtain ⟨la,lc,e,_⟩:=hl
  rw [List.length_map] at e
  subst e
  exact tGood fv (foreL F) la _ lc x.1 x.2.1 x.2.2 W
 ·intro x hx W hb
  obtain ⟨fa,fc,rfl,_,hcell,_⟩:=id hv
  obtain ⟨la,lc,rfl,_⟩:=id hl
  obtain ⟨x1,x2⟩:=spo_small hF hx
  refine (tAfter fa F.length fc (foreL F) la _ lc x.1 x.2.1 x.2.2 W).mono ?_
  rintro e W' ⟨rfl,hW'⟩
  have hb1:=below_new W (Obj.cells #[.slice fa F.length fc,.int .u16 (foreL F:Nat),.slice la ((lastL F).map fun (i:Nat)=>(i:Int)).length lc] 107)
  have hb2:=below_new (W.alloc (Obj.cells #[.slice fa F.length fc,.int .u16 (foreL F:Nat),.slice la ((lastL F).map fun (i:Nat)=>(i:Int)).length lc] 107)) (Obj.cells #[.bool x.1,.int .u16 x.2.1,.int .i64 x.2.2] 111)
  have ho1:=belowRow hb2 (one_new W (Obj.cells #[.slice fa F.length fc,.int .u16 (foreL F:Nat),.slice la ((lastL F).map fun (i:Nat)=>(i:Int)).length lc] 107))
  have ho2:=one_new (W.alloc (Obj.cells #[.slice fa F.length fc,.int .u16 (foreL F:Nat),.slice la ((lastL F).map fun (i:Nat)=>(i:Int)).length lc] 107)) (Obj.cells #[.bool x.1,.int .u16 x.2.1,.int .i64 x.2.2] 111)
  have hbb:=below_trans hb1 hb2
  rw [show (W.alloc (Obj.cells #[.slice fa F.length fc,.int .u16 (foreL F:Nat),.slice la ((lastL F).map fun (i:Nat)=>(i:Int)).length lc] 107)).heap.size=W.heap.size+1 by simp] at ho2
  rw [← hW'] at ho1 ho2 hbb
  have hwW:=hb.size
  have hlt:W.heap.size+1 < W'.heap.size:=(Array.getElem?_eq_some_iff.1 ho2).1
  have hfb:∀ a n c,(Value.slice fa F.length fc)=.slice (some a) n c→a.block < w.heap.size:=fun a n c e=>by
   rcases hcell with h | ⟨b,off,e2,hcc⟩
   ·have:=hF.ne;rw [h] at this;simp at this
   ·injection e with e3 _ _
    rw [e2] at e3
    injection e3 with e4
    rw [← e4]
    exact World.block_lt_of_cell? w _ (hcc 0 hF.ne).1
  refine ⟨_,_,fun k=>k=W.heap.size ∨ k=W.heap.size+1 ∨ k < w.heap.size,rfl,hbb,fun _ _=>rfl,fun k hk=>by rcases hk with h | h | h;exact Or.inr ⟨by omega,by omega⟩;exact Or.inr ⟨by omega,by omega⟩;exact Or.inl h,?_⟩
  exact afterSeq hF x x1 x2 h16 W.heap.size (W.heap.size+1) _ _ W' ho1 ho2 ((hv.below hb).below hbb) ((hl.below hb).below hbb) _ (Or.inl rfl) (Or.inr (Or.inl rfl)) (fun a n c e=>⟨Or.inr (Or.inr (hfb a n c e)),by have:=hfb a n c e;omega⟩) (fun a n c e=>⟨Or.inr (Or.inr (hlb a n c e)),by have:=hlb a n c e;omega⟩) 128 (Nat.le_refl _)
structure Translated (F:List Nd) (w w':World) (v:Value):Prop where
 bad:chkF F ≠ 0→v=.agg #[.int .i64 0,.int .i64 0,.slice none 0 0,.slice none 0 0,.slice none 0 0]
 good:chkF F=0→∃ met A,OfNodes [(true,0,0)] (goodT F) (afterT F) met A∧A.m=8∧met.length≤81∧A.steps.Pairwise (fun a b=>0≤ordS b a)∧((∀ x,(afterT F x).Nodup)→A.steps.Nodup)∧AutO w' w.heap.size v A
 bl:Below w.heap.size w w'
theorem intSl_num {w:World}{base:Nat}{v:Value}{zs:List Nat} (h:w.ownsRow base 3 1 v zs.length (numV zs)):IntSl w v (zs.map fun (i:Nat)=>(i:Int)):=
 intSl_of_owns (n:=zs.length) (by simpa [numV,List.map_map,Function.comp_def] using h)
theorem translate_any {w:World}{F:List Nd}{fv:Value} (hv:NodeSl w fv F) :
  Calls Tryz.prog 22 #[fv] w fun e w'=>∃ v,e=.returned (.tuple #[v,.int .i64 (chkF F)])∧Translated F w w' v:=by
 have hmf:∀ (fn:Fn) (first cap:Array Value) (w:World),(Instr.makeFunc fn first cap).run Tryz.prog w=.ok (.func fn first cap) w:=fun _ _ _ _=>rfl
 have HV:=hide hv
 have hb0:=below_new w (Obj.cells #[.int .i64 0,.int .i64 0,.slice none 0 0,.slice none 0 0,.slice none 0 0] 26)
 have ho0:=one_new w (Obj.cells #[.int .i64 0,.int .i64 0,.slice none 0 0,.slice none 0 0,.slice none 0 0] 26)
 have HB0:=hide hb0
 have HO0:=hide ho0
 obtain ⟨fa,fc,rfl,-⟩:=hv
 clear hb0 ho0
 go_enter Tryz.func22,Tryz.ntmps22
 go_wp2_with (fail)
 go_fit (formulaCheck_any (HV.out.below HB0.out))
 rintro e w1 ⟨rfl,hb1⟩
 have hb01:=below_trans HB0.out hb1
 have hr1:=belowRow hb1 HO0.out
 have HV1:=hide (HV.out.below hb01)
 by_cases hc:chkF F=0
 ·have hc0:(chkF F != 0)=false:=by simpa using hc
  have hR:=rdOk_of (chkF_ok hc)
  have hcn:=cnt_of hc
  have HC:=hide hc
  have HR1:=hide hr1
  have HB1:=hide hb01
  clear hr1 hb01 hb1 hc
  go_wp2_with (fail)
  go_fit (tNewReader hR _ _ HV1.out)
  rintro e w2 ⟨lv,rfl,hown,hb2⟩
  obtain ⟨la,lc,rfl⟩:=owns_form hown
  have HB2:=hide (below_trans HB1.out hb2)
  have HR2:=hide (belowRow hb2 HR1.out)
  have HV2:=hide (HV1.out.below hb2)
  have HL2:=hide (intSl_num hown)
  have HLb:=hide (show ∀ a n c,(Value.slice la (lastL F).length lc)=.slice (some a) n c→a.block < w2.heap.size from fun a n c e=>by
   refine (hown.lt a.block ?_).2
   rw [e]
   rcases hown.2 with ⟨h,_⟩ | ⟨g,cp,cur,h,_⟩
   ·rw [h] at e;cases e
   ·rw [h] at e;injection e with e1 _ _;injection e1 with e1;subst e1;rfl)
  clear hown hb2
  have hbx:=below_new w2 (Obj.cells #[.slice fa F.length fc,.int .u16 (foreL F:Nat),.slice la (lastL F).length lc] 107)
  have hox:=one_new w2 (Obj.cells #[.slice fa F.length fc,.int .u16 (foreL F:Nat),.slice la (lastL F).length lc] 107)
  go_wp2_with (fail)
  have hos:=one_new (w2.alloc (Obj.cells #[.slice fa F.length fc,.int .u16 (foreL F:Nat),.slice la (lastL F).length lc] 107)) (Obj.cells #[.bool true,.int .u16 0,.int .i64 0] 111)
  rw [show (w2.alloc (Obj.cells #[.slice fa F.length fc,.int .u16 (foreL F:Nat),.slice la (lastL F).length lc] 107)).heap.size=w2.heap.size+1 by simp] at hos
  have hb3:=below_trans hbx (below_new (w2.alloc (Obj.cells #[.slice fa F.length fc,.int .u16 (foreL F:Nat),.slice la (lastL F).length lc] 107)) (Obj.cells #[.bool true,.int .u16 0,.int .i64 0] 111))
  have hw3:∃ w3,w3=(w2.alloc (Obj.cells #[.slice fa F.length fc,.int .u16 (foreL F:Nat),.slice la (lastL F).length lc] 107)).alloc (Obj.cells #[.bool true,.int .u16 0,.int .i64 0] 111):=⟨_,rfl⟩
  obtain ⟨w3,hw3⟩:=hw3
  rw [← hw3] at hos hb3 ⊢
  clear hw3 hbx hox
  have HS3:=hide (show spSl w3 (.slice (some ⟨w2.heap.size+1,0,none⟩) 1 1) [(true,0,0)] from ⟨_,1,rfl,by unfold maxLen;simp,Or.inr ⟨w2.heap.size+1,0,rfl,fun i x hx q u hu=>by
   match i,hx with
   | 0,hx =>
    obtain rfl:=Option.some.inj hx
    rw [show 0+0 * 3+q=q by omega,cell_of_row _ _ q _ _ _ hos]
    simpa [spEnc] using hu
   | i+1,hx=>simp at hx⟩,(fun e=>by cases e),Nat.le_refl _⟩)
  have HB3:=hide (below_trans HB2.out hb3)
  have HR3:=hide (belowRow hb3 HR2.out)
  have HV3:=hide (HV2.out.below hb3)
  have HL3:=hide (HL2.out.below hb3)
  have HLb3:=hide (show ∀ a n c,(Value.slice la (lastL F).length lc)=.slice (some a) n c→a.block < w3.heap.size from fun a n c e=>Nat.lt_of_lt_of_le (HLb.out a n c e) hb3.size)
  clear hos hb3
  go_fit (readerAuto hR hcn _ _ _ w3 HV3.out HL3.out HLb3.out HS3.out)
  rintro e w4 ⟨v,rfl,hmade⟩
  obtain ⟨met,A,hof,hAm,_,hlen,_,hsrt,hnd,hAO⟩:=hmade.out
  obtain ⟨fv',gv',sv',rfl,o1,o2,o3⟩:=id hAO
  obtain ⟨a1,c1,rfl⟩:=owns_form o1
  obtain ⟨a2,c2,rfl⟩:=owns_form o2
  obtain ⟨a3,c3,rfl⟩:=owns_form o3
  have hr4:=belowRow hmade.bl HR3.out
  have hF:=fivePut_box hr4 (.int .i64 A.n) (.int .i64 A.m) (.slice a1 A.first.length c1) (.slice a2 A.good.length c2) (.slice a3 A.steps.length c3)
  have HBF:=hide (fivePut_below (below_trans HB3.out hmade.bl) (Nat.le_refl _) (.int .i64 A.n) (.int .i64 A.m) (.slice a1 A.first.length c1) (.slice a2 A.good.length c2) (.slice a3 A.steps.length c3))
  have HAF:=hide ((hAO.five hr4 (.int .i64 A.n) (.int .i64 A.m) (.slice a1 A.first.length c1) (.slice a2 A.good.length c2) (.slice a3 A.steps.length c3)).lower HB3.out.size)
  have HM:=hide (And.intro hof (And.intro hAm (And.intro hlen (And.intro hsrt hnd))))
  have y0:=cell_of_row _ _ 0 _ _ _ hr4
  have y1:=cell_of_row _ _ 1 _ _ _ hr4
  have y2:=cell_of_row _ _ 2 _ _ _ hr4
  have y3:=cell_of_row _ _ 3 _ _ _ hr4
  have y4:=cell_of_row _ _ 4 _ _ _ hr4
  have z0:=frozen_of_row _ _ 0 _ _ hr4
  have z1:=frozen_of_row _ _ 1 _ _ hr4
  have z2:=frozen_of_row _ _ 2 _ _ hr4
  have z3:=frozen_of_row _ _ 3 _ _ hr4
  have z4:=frozen_of_row _ _ 4 _ _ hr4
  have f0:=cell_of_row _ _ 0 _ _ _ hF
  have f1:=cell_of_row _ _ 1 _ _ _ hF
  have f2:=cell_of_row _ _ 2 _ _ _ hF
  have f3:=cell_of_row _ _ 3 _ _ _ hF
  have f4:=cell_of_row _ _ 4 _ _ _ hF
  unfold fivePut at f0 f1 f2 f3 f4 HBF HAF
  clear hF hr4 hmade hof hAm hlen hsrt hnd hAO o1 o2 o3
  go_wp2_with (fail)
  refine bodyPost_ret (v:=.tuple #[.agg #[.int .i64 A.n,.int .i64 A.m,.slice a1 A.first.length c1,.slice a2 A.good.length c2,.slice a3 A.steps.length c3],.int .i64 0]) (by simp [results,Tryz.results22,go_sem,f0,f1,f2,f3,f4]) rfl ⟨.agg #[.int .i64 A.n,.int .i64 A.m,.slice a1 A.first.length c1,.slice a2 A.good.length c2,.slice a3 A.steps.length c3],by rw [HC.out],fun h=>absurd HC.out h,fun _=>⟨met,A,HM.out.1,HM.out.2.1,HM.out.2.2.1,HM.out.2.2.2.1,HM.out.2.2.2.2,HAF.out⟩,HBF.out⟩
 ·have hc0:(chkF F != 0)=true:=by simpa using hc
  have HC:=hide hc
  clear hc
  have hF:=fivePut_box hr1 (.int .i64 0) (.int .i64 0) (.slice none 0 0) (.slice none 0 0) (.slice none 0 0)
  have HBF:=hide (fivePut_below hb01 (Nat.le_refl _) (.int .i64 0) (.int .i64 0) (.slice none 0 0) (.slice none 0 0) (.slice none 0 0))
  have y0:=cell_of_row _ _ 0 _ _ _ hr1
  have y1:=cell_of_row _ _ 1 _ _ _ hr1
  have y2:=cell_of_row _ _ 2 _ _ _ hr1
  have y3:=cell_of_row _ _ 3 _ _ _ hr1
  have y4:=cell_of_row _ _ 4 _ _ _ hr1
  have z0:=frozen_of_row _ _ 0 _ _ hr1
  have z1:=frozen_of_row _ _ 1 _ _ hr1
  have z2:=frozen_of_row _ _ 2 _ _ hr1
  have z3:=frozen_of_row _ _ 3 _ _ hr1
  have z4:=frozen_of_row _ _ 4 _ _ hr1
  have f0:=cell_of_row _ _ 0 _ _ _ hF
  have f1:=cell_of_row _ _ 1 _ _ _ hF
  have f2:=cell_of_row _ _ 2 _ _ _ hF
  have f3:=cell_of_row _ _ 3 _ _ _ hF
  have f4:=cell_of_row _ _ 4 _ _ _ hF
  unfold fivePut at f0 f1 f2 f3 f4 HBF
  clear hF hr1
  go_wp2_with (fail)
  refine bodyPost_ret (v:=.tuple #[.agg #[.int .i64 0,.int .i64 0,.slice none 0 0,.slice none 0 0,.slice none 0 0],.int .i64 (chkF F)]) (by simp [results,Tryz.results22,go_sem,f0,f1,f2,f3,f4]) rfl ⟨.agg #[.int .i64 0,.int .i64 0,.slice none 0 0,.slice none 0 0,.slice none 0 0],rfl,fun _=>rfl,fun h=>absurd h HC.out,HBF.out⟩
end Go.Proofs.YtpiacnnifdjlkabGreatDoor
namespace Go.Proofs.YtpiacnnifdjlkabGreatDoor
theorem rowP_nodup (F:List Nd) (s:Spo) (c:Nat):(rowP F s c (partsL (foreL F))).Nodup:=by
 unfold rowP
 rw [List.Nodup,List.pairwise_map]
 refine List.Pairwise.imp (fun {a b} hne e=>hne ?_) ((partsL_nodup (foreL F)).filter _)
 injection e with _ e
 injection e with _ e
 injection e
theorem afterC_nodup (F:List Nd) (s:Spo):∀ c,(afterC F s c).Nodup∧∀ p ∈ afterC F s c,p.1 < (c:Int)
 | 0=>⟨List.nodup_nil,fun p hp=>by cases hp⟩
 | c+1=>by
  obtain ⟨h1,h2⟩:=afterC_nodup F s c
  have h3:∀ p ∈ rowP F s c (partsL (foreL F)),p.1=(c:Int):=fun p hp=>by
   unfold rowP at hp
   obtain ⟨t,_,rfl⟩:=List.mem_map.1 hp
   rfl
  rw [afterC_next]
  refine ⟨List.nodup_append.2 ⟨h1,rowP_nodup F s c,fun a ha b hb e=>?_⟩,fun p hp=>?_⟩
  ·have:=h2 a ha;have:=h3 b hb;rw [e] at *;omega
  ·rcases List.mem_append.1 hp with h | h
   ·have:=h2 p h;omega
   ·have:=h3 p h;omega
theorem afterT_nodup (F:List Nd) (s:Spo):(afterT F s).Nodup:=(afterC_nodup F s 8).1
theorem chkA_nodes {F:List Nd} (hc:cntM F F.length≤4) {met:List Spo}{A:Aut} (h:OfNodes [(true,0,0)] (goodT F) (afterT F) met A) (hm:A.m=8) (hl:met.length≤81) (hs:A.steps.Pairwise (fun a b=>0≤ordS b a)) (hn:A.steps.Nodup):chkA A=0:=by
 have h0:((true,0,0):Spo) ∈ met:=h.first_met _ (by simp)
 have hpos:=List.length_pos_of_mem h0
 have hne:met ≠ []:=List.ne_nil_of_mem h0
 have hg:A.good.length=met.length:=by rw [h.good,if_neg hne,List.length_map]
 have hAn:A.n=(met.length:Nat):=by rw [h.n,hg]
 have hf:=steps_few hc h hn
 have hbad:∀ s ∈ A.steps,badS A.n A.m s=false:=fun s hs'=>by
  obtain ⟨i,x,c,y,h1,h2,rfl⟩:=(h.steps s).1 hs'
  have hi:=(List.getElem?_eq_some_iff.1 h1).1
  obtain ⟨c1,c2,_⟩:=afterT_mem.1 h2
  have hy:=numOf_lt (h.closed x (List.mem_of_getElem? h1) _ h2)
  dsimp only at hy
  unfold badS outB
  rw [decide_eq_true (by dsimp only;omega),decide_eq_true (by dsimp only;omega),decide_eq_true (by dsimp only;omega)]
  rfl
 unfold chkA
 rw [if_neg (by omega),if_neg (by omega),if_neg (by omega)]
 have hfirst:chkFirst A.n A.first=0:=by
  rw [h.first]
  have:=numOf_lt h0
  unfold chkFirst
  rw [if_neg,if_neg]
  ·simp [fallsB]
  ·simp [outB];omega
 rw [if_neg (by omega)]
 refine steps_chk _ _ _ none hbad (fun q e=>by cases e) ?_
 exact List.Pairwise.imp₂ (fun a b h1 h2=>ordS_strict h1 h2) hs hn
def oppK (k:Int):Int:=if k=4 then 5 else if k=5 then 4 else if k=7 then 8 else if k=8 then 7 else k
def flS (x:Nd) (g:Nat→Bool→Nat→List Nd) (o:Bool) (m:Nat):List Nd:=
 if x.k=1 ∨ x.k=2 then (if o=true then [⟨x.k,0,0,x.n⟩,⟨3,(m:Nat),0,0⟩] else [⟨x.k,0,0,x.n⟩])
 else if x.k=3 then g x.a.toNat (!o) m
 else if x.k=6 then g x.a.toNat o m ++ [⟨6,(m+(g x.a.toNat o m).length - 1:Nat),0,0⟩]
 else g x.a.toNat o m ++ (g x.b.toNat o (m+(g x.a.toNat o m).length) ++ [⟨if o=true then oppK x.k else x.k,(m+(g x.a.toNat o m).length - 1:Nat),(m+(g x.a.toNat o m).length+(g x.b.toNat o (m+(g x.a.toNat o m).length)).length - 1:Nat),0⟩])
def flN (F:List Nd):Nat→Nat→Bool→Nat→List Nd
 | 0,_,_,_=>[]
 | f+1,i,o,m=>flS (F.getD i nd0) (flN F f) o m
theorem flS_congr {x:Nd}{g g':Nat→Bool→Nat→List Nd} (ha:3≤x.k→g x.a.toNat=g' x.a.toNat) (hb:x.k=4 ∨ x.k=5 ∨ x.k=7 ∨ x.k=8→g x.b.toNat=g' x.b.toNat) (hk:1≤x.k∧x.k≤8) (o:Bool) (m:Nat):flS x g o m=flS x g' o m:=by
 unfold flS
 by_cases h1:x.k=1 ∨ x.k=2
 ·rw [if_pos h1,if_pos h1]
 rw [if_neg h1,if_neg h1,ha (by omega)]
 by_cases h3:x.k=3
 ·rw [if_pos h3,if_pos h3]
 rw [if_neg h3,if_neg h3]
 by_cases h6:x.k=6
 ·rw [if_pos h6,if_pos h6]
 rw [if_neg h6,if_neg h6,hb (by omega)]
theorem flN_fuel {F:List Nd} (hF:AllOk F):∀ i f,i < F.length→i < f→flN F f i=flN F (i+1) i:=by
 intro i
 induction i using Nat.strongRecOn with
 | ind i ih =>
  intro f hi hf
  obtain ⟨g,rfl⟩:∃ g,f=g+1:=⟨f - 1,by omega⟩
  obtain ⟨hk,⟨a0,a1,_⟩,⟨b0,b1,_⟩,_⟩:=node_ok (hF i hi)
  funext o m
  show flS (F.getD i nd0) (flN F g) o m=flS (F.getD i nd0) (flN F i) o m
  refine flS_congr (fun h3=>?_) (fun h3=>?_) hk o m
  ·have:=a1 h3
   rw [ih _ (by omega) g (by omega) (by omega),ih _ (by omega) i (by omega) (by omega)]
  ·have:=b1 h3
   rw [ih _ (by omega) g (by omega) (by omega),ih _ (by omega) i (by omega) (by omega)]
def fl (F:List Nd) (i:Nat) (o:Bool) (m:Nat):List Nd:=flN F (i+1) i o m
theorem fl_eq {F:List Nd} (hF:AllOk F) (i:Nat) (hi:i < F.length) (o:Bool) (m:Nat):fl F i o m=flS (F.getD i nd0) (fl F) o m:=by
 obtain ⟨hk,⟨a0,a1,_⟩,⟨b0,b1,_⟩,_⟩:=node_ok (hF i hi)
 show flS (F.getD i nd0) (flN F i) o m=_
 refine flS_congr (fun h3=>?_) (fun h3=>?_) hk o m
 ·have:=a1 h3
  rw [flN_fuel hF _ i (by omega) (by omega)]
  rfl
 ·have:=b1 h3
  rw [flN_fuel hF _ i (by omega) (by omega)]
  rfl
theorem fl_len {F:List Nd} (hF:AllOk F):∀ i,i < F.length→∀ o m,(fl F i o m).length=(fl F i o 0).length∧0 < (fl F i o m).length∧(fl F i o m).length+2≤2 ^ (i+2):=by
 intro i
 induction i using Nat.strongRecOn with
 | ind i ih =>
  intro hi o m
  obtain ⟨hk,⟨a0,a1,_⟩,⟨b0,b1,_⟩,_⟩:=node_ok (hF i hi)
  rw [fl_eq hF i hi o m,fl_eq hF i hi o 0]
  have h2i:∀ j,j < i→2 ^ (j+2)≤2 ^ (i+1):=fun j hj=>Nat.pow_le_pow_right (by decide) (by omega)
  have h2:2 ^ (i+2)=2 * 2 ^ (i+1):=by rw [Nat.pow_succ];omega
  have hp:2≤2 ^ (i+1):=by rw [Nat.pow_succ];have:=Nat.one_le_two_pow (n:=i);omega
  generalize F.getD i nd0=x at *
  unfold flS
  by_cases h1:x.k=1 ∨ x.k=2
  ·rw [if_pos h1,if_pos h1]
   cases o <;> simp <;> omega
  rw [if_neg h1,if_neg h1]
  have ha:=a1 (by omega)
  have ja:=h2i x.a.toNat (by omega)
  by_cases h3:x.k=3
  ·rw [if_pos h3,if_pos h3]
   have ia:=ih x.a.toNat (by omega) (by omega) (!o) m
   exact ⟨ia.1,ia.2.1,by omega⟩
  rw [if_neg h3,if_neg h3]
  have ia:=ih x.a.toNat (by omega) (by omega) o m
  have ia0:=ih x.a.toNat (by omega) (by omega) o 0
  by_cases h6:x.k=6
  ·rw [if_pos h6,if_pos h6]
   simp only [List.length_append,List.length_cons,List.length_nil]
   omega
  rw [if_neg h6,if_neg h6]
  have hb:=b1 (by omega)
  have jb:=h2i x.b.toNat (by omega)
  have ib:=ih x.b.toNat (by omega) (by omega) o (m+(fl F x.a.toNat o m).length)
  have ib0:=ih x.b.toNat (by omega) (by omega) o (0+(fl F x.a.toNat o 0).length)
  simp only [List.length_append,List.length_cons,List.length_nil]
  omega
end Go.Proofs.YtpiacnnifdjlkabGreatDoor
namespace Go.Proofs.YtpiacnnifdjlkabGreatDoor
open Go.RowKit Go.Sort
def ndCells (F:List Nd):List Value:=F.flatMap fun x=>[.int .i64 x.k,.int .i64 x.a,.int .i64 x.b,.int .i64 x.n]
theorem ndCells_snoc (F:List Nd) (x:Nd):ndCells (F ++ [x])=ndCells F ++ [.int .i64 x.k,.int .i64 x.a,.int .i64 x.b,.int .i64 x.n]:=by
 simp [ndCells,List.flatMap_append]
theorem nodeInfo:Tryz.prog.info? 55=some Tryz.t55:=by kernel_rfl
theorem run_app_node (w:World) (ty base n:Nat) (v:Value) (xs:List Value) (hown:w.ownsRow base 55 4 v n xs) (B c:Nat) (x:Nd) (h0:w.cell? ⟨B,0,none⟩=some (.int .i64 x.k)) (h1:w.cell? ⟨B,1,none⟩=some (.int .i64 x.a)) (h2:w.cell? ⟨B,2,none⟩=some (.int .i64 x.b)) (h3:w.cell? ⟨B,3,none⟩=some (.int .i64 x.n)) (hn:n≤900000) (hbase:base≤w.heap.size) :
  ∃ g cap w',(Builtin.append_ #[30,30] ty #[v,.slice (some ⟨B,0,none⟩) 1 c]).run Tryz.prog w=.ok (.slice (some ⟨g,0,none⟩) (n+1) cap) w'∧w'.ownsRow base 55 4 (.slice (some ⟨g,0,none⟩) (n+1) cap) (n+1) (xs ++ [.int .i64 x.k,.int .i64 x.a,.int .i64 x.b,.int .i64 x.n])∧w.grownBy w' v.ownBlock∧(v.ownBlock=some g ∨ g=w.heap.size):=by
 obtain ⟨v',w',hr,h2',h3',_,h5⟩:=run_append_own_at (P:=Tryz.prog) w base 30 ty 55 Tryz.t55 (.agg #[.int .i64 0,.int .i64 0,.int .i64 0,.int .i64 0]) 4 32 Tryz.underlying30 nodeInfo (by kernel_rfl) (by kernel_rfl) (by kernel_rfl) rfl (by decide) v n xs hown ⟨B,0,none⟩ 1 c [.int .i64 x.k,.int .i64 x.a,.int .i64 x.b,.int .i64 x.n] rfl (fun j u hu=>by
  rw [add_none,Nat.zero_add]
  match j,hu with
  | 0,hu=>simp at hu;rw [← hu];exact h0
  | 1,hu=>simp at hu;rw [← hu];exact h1
  | 2,hu=>simp at hu;rw [← hu];exact h2
  | 3,hu=>simp at hu;rw [← hu];exact h3
  | j+4,hu=>simp at hu) (fun u hu=>by simp at hu;rcases hu with rfl | rfl | rfl | rfl <;> rfl) (by unfold maxLen;omega) (by omega) hbase
 rcases h2'.2 with ⟨rfl,h0'⟩ | ⟨g,cap,cur,rfl,_⟩
 ·omega
 ·refine ⟨g,cap,w',hr,h2',h3',?_⟩
  rcases h5 with h5 | h5
  ·left;rw [← h5];rfl
  ·right;simpa [Value.ownBlock] using h5
theorem step_app_node {ops:Array Oper}{o:Oper}{a:Act}{K:Act→World→Prop}{Q:Exit→Act→World→Prop}{E:Prop}{w:World} (hgd:o.guard=none) (s x:Operand)
  (ho:o.op=.call { callee:=.builtin .append,args:=#[s,x],argTypes:=#[30,30] }) (base n:Nat) (v:Value) (xs:List Value) (hs:a.eval s=v)
  (hown:w.ownsRow base 55 4 v n xs) (B c:Nat) (nd:Nd) (hx:a.eval x=.slice (some ⟨B,0,none⟩) 1 c) (h0:w.cell? ⟨B,0,none⟩=some (.int .i64 nd.k)) (h1:w.cell? ⟨B,1,none⟩=some (.int .i64 nd.a)) (h2:w.cell? ⟨B,2,none⟩=some (.int .i64 nd.b)) (h3:w.cell? ⟨B,3,none⟩=some (.int .i64 nd.n)) (hn:n≤900000) (hbase:base≤w.heap.size)
  (h:∀ g cap w',w'.ownsRow base 55 4 (.slice (some ⟨g,0,none⟩) (n+1) cap) (n+1) (xs ++ [.int .i64 nd.k,.int .i64 nd.a,.int .i64 nd.b,.int .i64 nd.n])→w.grownBy w' v.ownBlock→(v.ownBlock=some g ∨ g=w.heap.size)→K (a.put o.dst (.slice (some ⟨g,0,none⟩) (n+1) cap)) w') :
  if Region.wanted o (yielded ops a.tmps)=true then Oper.wp Tryz.prog o a w K Q else E:=by
 have hw:Region.wanted o (yielded ops a.tmps)=true:=by simp [Region.wanted,hgd]
 rw [if_pos hw]
 obtain ⟨g,cap,w',hr,h4,h5,h6⟩:=run_app_node w o.type base n v xs hown B c nd h0 h1 h2 h3 hn hbase
 unfold Oper.wp execOp
 simp only [ho,resolve,invoke,builtin,Sem.run_bind,Sem.run_pure,Result.andThen_ok,List.map_toArray,List.map_cons,List.map_nil,hs,hx,hr]
 exact h g cap w' h4 h5 h6
theorem grown_cell {w w':World}{row:Option Nat}{b o:Nat}{v:Value} (hg:w.grownBy w' row) (hc:w.cell? ⟨b,o,none⟩=some v) (hne:some b ≠ row):w'.cell? ⟨b,o,none⟩=some v:=by
 rw [World.cell?_of_block (a:=⟨b,o,none⟩) (hg.block b (World.block_lt_of_cell? w _ hc) hne)];exact hc
theorem grown_frozen {w w':World}{row:Option Nat}{b o:Nat} (hg:w.grownBy w' row) (hb:b < w.heap.size) (hne:some b ≠ row) (hf:w.frozen? ⟨b,o,none⟩=false):w'.frozen? ⟨b,o,none⟩=false:=by
 rw [World.frozen?_of_block (a:=⟨b,o,none⟩) (hg.block b hb hne)];exact hf
theorem grown_from {w w0 w':World}{row:Option Nat} (hb:Below w.heap.size w w0) (hg:w0.grownBy w' row):w.grownBy w' row:=
 ⟨hg.os.trans hb.os,hg.tape.trans hb.tape,hg.output.trans hb.output,Nat.le_trans hb.size hg.size,fun k hk hne=>(hg.block k (Nat.lt_of_lt_of_le hk hb.size) hne).trans (hb.block k hk)⟩
theorem grow_any {w:World}{base pb po n:Nat}{a:Option Addr}{c:Nat}{xs:List Value} (x:Nd) (hc:w.cell? ⟨pb,po,none⟩=some (.slice a n c)) (hf:w.frozen? ⟨pb,po,none⟩=false) (hown:w.ownsRow base 55 4 (.slice a n c) n xs) (hne:∀ g,(Value.slice a n c).ownBlock=some g→g ≠ pb) (hn:n≤900000) (hbase:base≤w.heap.size) :
  Calls Tryz.prog 112 #[.pointer (some ⟨pb,po,none⟩),.agg #[.int .i64 x.k,.int .i64 x.a,.int .i64 x.b,.int .i64 x.n]] w fun e w'=>e=.returned (.int .i64 n)∧∃ g cap w1,w'=w1.setCell ⟨pb,po,none⟩ (.slice (some ⟨g,0,none⟩) (n+1) cap)∧w1.ownsRow base 55 4 (.slice (some ⟨g,0,none⟩) (n+1) cap) (n+1) (xs ++ [.int .i64 x.k,.int .i64 x.a,.int .i64 x.b,.int .i64 x.n])∧w.grownBy w1 (Value.slice a n c).ownBlock∧((Value.slice a n c).ownBlock=some g ∨ w.heap.size≤g):=by
 obtain ⟨k,xa,xb,xn⟩:=x
 dsimp only
 have hpl:=World.block_lt_of_cell? w _ hc
 dsimp only at hpl
 have HOk:Hid (∀ W,Below w.heap.size w W→W.ownsRow base 55 4 (.slice a n c) n xs):=hide fun W hb=>hown.kept (row:=none) ⟨hb.os,hb.tape,hb.output,hb.size,fun k hk _=>hb.block k hk⟩ (by cases hv:(Value.slice a n c).ownBlock <;> simp)
 have HNp:Hid (some pb ≠ (Value.slice a n c).ownBlock):=hide fun e=>hne pb e.symm rfl
 have HNw:Hid (some w.heap.size ≠ (Value.slice a n c).ownBlock):=hide fun e=>by have:=(hown.lt _ e.symm).2;omega
 clear hown hne
 have z1:pb < w.heap.size+1:=by omega
 have z2:pb < w.heap.size+1+1:=by omega
 go_enter Tryz.func112,Tryz.ntmps112
 go_wp2_with (fail)
 go_region_law (first | (refine step_app_node rfl (.tmp 8) (.tmp 10) rfl base n _ xs rfl ?_ _ _ ⟨k,xa,xb,xn⟩ rfl ?_ ?_ ?_ ?_ hn ?_ ?_;(focus (exact HOk.out _ (by repeat (first | exact Below.refl _ _ | assumption | refine below_drewN ?_ _ | refine Below.drew ?_ | refine Below.alloc ?_ (by simp <;> omega) _ | refine below_trans ?_ (by assumption)))));(focus ((repeat (first | (with_reducible exact hc) | ((with_reducible refine cell_top _ _ _ _ _ _ ?_ ?_);(focus (first | rfl | (simp;done)));exact rfl) | (with_reducible refine cell_drew ?_) | (with_reducible refine cell_under _ _ ?_)))));(focus ((repeat (first | (with_reducible exact hc) | ((with_reducible refine cell_top _ _ _ _ _ _ ?_ ?_);(focus (first | rfl | (simp;done)));exact rfl) | (with_reducible refine cell_drew ?_) | (with_reducible refine cell_under _ _ ?_)))));(focus ((repeat (first | (with_reducible exact hc) | ((with_reducible refine cell_top _ _ _ _ _ _ ?_ ?_);(focus (first | rfl | (simp;done)));exact rfl) | (with_reducible refine cell_drew ?_) | (with_reducible refine cell_under _ _ ?_)))));(focus ((repeat (first | (with_reducible exact hc) | ((with_reducible refine cell_top _ _ _ _ _ _ ?_ ?_);(focus (first | rfl | (simp;done)));exact rfl) | (with_reducible refine cell_drew ?_) | (with_reducible refine cell_under _ _ ?_)))));(focus (simp <;> omega));intro g cap w5 ho5 hg5 hd5;have c5:w5.cell? ⟨pb,po,none⟩=some (.slice a n c):=grown_cell hg5 (by (repeat (first | (with_reducible exact hc) | ((with_reducible refine cell_top _ _ _ _ _ _ ?_ ?_);(focus (first | rfl | (simp;done)));exact rfl) | (with_reducible refine cell_drew ?_) | (with_reducible refine cell_under _ _ ?_)))) HNp.out;have f5:w5.frozen? ⟨pb,po,none⟩=false:=grown_frozen hg5 (by simp;omega) HNp.out ((Below.frozen (B:=w.heap.size) (w:=w) (p:=⟨pb,po,none⟩) (by repeat (first | exact Below.refl _ _ | assumption | refine below_drewN ?_ _ | refine Below.drew ?_ | refine Below.alloc ?_ (by simp <;> omega) _ | refine below_trans ?_ (by assumption))) hpl).trans hf);have hgw:=grown_from (w:=w) (by repeat (first | exact Below.refl _ _ | assumption | refine below_drewN ?_ _ | refine Below.drew ?_ | refine Below.alloc ?_ (by simp <;> omega) _ | refine below_trans ?_ (by assumption))) hg5;have hdw:(Value.slice a n c).ownBlock=some g ∨ w.heap.size≤g:=(by rcases hd5 with h | h;exact Or.inl h;exact Or.inr (by rw [h];simp <;> omega))))
 all_goals
  have HF:=hide (And.intro ho5 (And.intro hgw hdw))
  clear ho5 hgw hdw hg5 hd5
  go_wp2_with (fail)
  go_ret
  exact ⟨ret_eq (by omega),g,cap,w5,rfl,HF.out⟩
structure GTf (tb:Nat) (row:Option Nat) (w w':World):Prop where
 os:w'.os=w.os
 tape:w'.tape=w.tape
 output:w'.output=w.output
 size:w.heap.size≤w'.heap.size
 block:∀ k,k < w.heap.size→k ≠ tb→some k ≠ row→w'.heap[k]?=w.heap[k]?
structure TN (w:World) (tb r base:Nat) (fv:Value) (F:List Nd) (a:Option Addr) (c:Nat) (out:List Nd):Prop where
 c0:w.cell? ⟨tb,0,none⟩=some (.map (some r))
 c1:w.cell? ⟨tb,1,none⟩=some fv
 c2:w.cell? ⟨tb,2,none⟩=some (.slice a out.length c)
 soft:w.frozen? ⟨tb,2,none⟩=false
 sg:SgMap w r
 nodes:NodeSl w fv F
 own:w.ownsRow base 55 4 (.slice a out.length c) out.length (ndCells out)
 hb:base≤w.heap.size
 lt1:tb < base
 lt2:r < base
 ne2:r ≠ tb
 lt3:∀ b,fv.ownBlock=some b→b < base∧b ≠ tb
theorem NodeSl.of_block {w w':World}{v:Value}{zs:List Nd} (h:NodeSl w v zs) (hb:∀ b,v.ownBlock=some b→w'.heap[b]?=w.heap[b]?):NodeSl w' v zs:=by
 obtain ⟨a,cap,rfl,hm,h,hn⟩:=h
 refine ⟨a,cap,rfl,hm,?_,hn⟩
 rcases h with h | ⟨b,off,rfl,hc⟩
 ·exact Or.inl h
 ·have e:=hb b rfl
  refine Or.inr ⟨b,off,rfl,fun i hi=>?_⟩
  obtain ⟨h1,h2,h3,h4⟩:=hc i hi
  exact ⟨(World.cell?_of_block (a:=⟨b,_,none⟩) e).trans h1,(World.cell?_of_block (a:=⟨b,_,none⟩) e).trans h2,(World.cell?_of_block (a:=⟨b,_,none⟩) e).trans h3,(World.cell?_of_block (a:=⟨b,_,none⟩) e).trans h4⟩
theorem TN.below {w w':World}{tb r base:Nat}{fv:Value}{F:List Nd}{a:Option Addr}{c:Nat}{out:List Nd} (h:TN w tb r base fv F a c out) (hb:Below w.heap.size w w'):TN w' tb r base fv F a c out:=
 ⟨cell_keep h.c0 hb,cell_keep h.c1 hb,cell_keep h.c2 hb,(hb.frozen (p:=⟨tb,2,none⟩) (World.block_lt_of_cell? w _ h.c2)).trans h.soft,h.sg.below hb,h.nodes.below hb,
  h.own.kept (row:=none) ⟨hb.os,hb.tape,hb.output,hb.size,fun k hk _=>hb.block k hk⟩ (by cases hv:(Value.slice a out.length c).ownBlock <;> simp),Nat.le_trans h.hb hb.size,h.lt1,h.lt2,h.ne2,h.lt3⟩
theorem TN.row_ne {w:World}{tb r base:Nat}{fv:Value}{F:List Nd}{a:Option Addr}{c:Nat}{out:List Nd} (h:TN w tb r base fv F a c out) (k:Nat) (hk:k < base):some k ≠ (Value.slice a out.length c).ownBlock:=fun e=>by
 have:=(h.own.lt k e.symm).1
 omega
theorem TN.grown {w w1:World}{tb r base:Nat}{fv:Value}{F:List Nd}{a:Option Addr}{c:Nat}{out:List Nd} (h:TN w tb r base fv F a c out) (x:Nd) {g cap:Nat} (ho:w1.ownsRow base 55 4 (.slice (some ⟨g,0,none⟩) (out.length+1) cap) (out.length+1) (ndCells out ++ [.int .i64 x.k,.int .i64 x.a,.int .i64 x.b,.int .i64 x.n])) (hg:w.grownBy w1 (Value.slice a out.length c).ownBlock) :
  TN (w1.setCell ⟨tb,2,none⟩ (.slice (some ⟨g,0,none⟩) (out.length+1) cap)) tb r base fv F (some ⟨g,0,none⟩) cap (out ++ [x])∧GTf tb (Value.slice a out.length c).ownBlock w (w1.setCell ⟨tb,2,none⟩ (.slice (some ⟨g,0,none⟩) (out.length+1) cap)):=by
 have hlen:(out ++ [x]).length=out.length+1:=by simp
 have htb:=World.block_lt_of_cell? w _ h.c2
 dsimp only at htb
 have hrl:=h.sg.lt
 have n1:=h.row_ne tb h.lt1
 have n2:=h.row_ne r h.lt2
 have hgb:=(ho.lt g rfl).1
 have hl1:=h.lt1
 have hblk:∀ k,k < w.heap.size→k ≠ tb→some k ≠ (Value.slice a out.length c).ownBlock→(w1.setCell ⟨tb,2,none⟩ (.slice (some ⟨g,0,none⟩) (out.length+1) cap)).heap[k]?=w.heap[k]?:=fun k hk h1 h2=>(set_far w1 _ _ k h1).trans (hg.block k hk h2)
 refine ⟨⟨cell_set_off (by decide) (grown_cell hg h.c0 n1),cell_set_off (by decide) (grown_cell hg h.c1 n1),by rw [hlen];exact cell_set_eq (grown_cell hg h.c2 n1),by rw [World.frozen?_setCell];exact grown_frozen hg htb n1 h.soft,(hblk r hrl h.ne2 n2).trans h.sg,?_,?_,?_,h.lt1,h.lt2,h.ne2,h.lt3⟩,⟨hg.os,hg.tape,hg.output,by simpa [World.setCell] using hg.size,hblk⟩⟩
 ·refine h.nodes.of_block fun b hb=>?_
  obtain ⟨q1,q2⟩:=h.lt3 b hb
  exact hblk b (Nat.lt_of_lt_of_le q1 h.hb) q2 (h.row_ne b q1)
 ·rw [hlen,ndCells_snoc]
  refine ho.kept (row:=some tb) ⟨rfl,rfl,rfl,by simp [World.setCell],fun k hk hne=>set_far w1 _ _ k (fun e=>hne (by rw [e]))⟩ (Or.inr ?_)
  intro e
  have:g=tb:=by simpa [Value.ownBlock] using e
  omega
 ·have:=hg.size
  have:=h.hb
  simp only [World.setCell,Array.size_modify]
  omega
end Go.Proofs.YtpiacnnifdjlkabGreatDoor
