import Derived.Test.YtpiacnnifdjlkabGreatDoorEa
import Derived.Test.YtpiacnnifdjlkabGreatDoorYm
import Derived.Test.YtpiacnnifdjlkabGreatDoorTd
import Derived.Test.YtpiacnnifdjlkabGreatDoorEk
import Derived.Test.YtpiacnnifdjlkabGreatDoorYi
import Derived.Test.YtpiacnnifdjlkabGreatDoorFc
set_option maxRecDepth 100000
set_option maxHeartbeats 8000000
namespace Go.Proofs.YtpiacnnifdjlkabGreatDoor
open Go.RowKit Go.Sort
theorem wpl_store5 {ops:Array Oper}{rest:List Oper}{o:Oper}{a:Act}{w:World}{Q:Exit→Act→World→Prop}{ka kv:Nat}{y:Nat}{n0 n1:Int}{p2 p3 p4:Option Addr}{l2 l3 l4 k2 k3 k4:Nat}{u0 u1 u2 u3 u4:Value} (hy:w.heap[y]?=some (.cells #[u0,u1,u2,u3,u4] 26)) (hgd:o.guard=none) (ho:o.op=.store 26 (.tmp ka) (.tmp kv)) (hd:o.dst=none) (hx:a.tmps[ka]?.getD undef=.pointer (some ⟨y,0,none⟩)) (hv:a.tmps[kv]?.getD undef=.agg #[.int .i64 n0,.int .i64 n1,.slice p2 l2 k2,.slice p3 l3 k3,.slice p4 l4 k4])
  (h:wpList Tryz.prog ops Q rest a (fivePut w y (.int .i64 n0) (.int .i64 n1) (.slice p2 l2 k2) (.slice p3 l3 k3) (.slice p4 l4 k4))):wpList Tryz.prog ops Q (o :: rest) a w:=
 wpList_plain hgd fun _ hK=>wp_store5 ho hd hx hv (cell_of_row _ _ 0 _ _ _ hy) (cell_of_row _ _ 1 _ _ _ hy) (cell_of_row _ _ 2 _ _ _ hy) (cell_of_row _ _ 3 _ _ _ hy) (cell_of_row _ _ 4 _ _ _ hy) (fun k=>frozen_of_row w y k _ _ hy) (hK _ _ h)
theorem wpl_store2 {ops:Array Oper}{rest:List Oper}{o:Oper}{a:Act}{w:World}{Q:Exit→Act→World→Prop}{ka kv:Nat}{y:Nat}{p2 p3:Option Addr}{l2 l3 k2 k3:Nat}{u0 u1:Value} (hy:w.heap[y]?=some (.cells #[u0,u1] 28)) (hgd:o.guard=none) (ho:o.op=.store 28 (.tmp ka) (.tmp kv)) (hd:o.dst=none) (hx:a.tmps[ka]?.getD undef=.pointer (some ⟨y,0,none⟩)) (hv:a.tmps[kv]?.getD undef=.agg #[.slice p2 l2 k2,.slice p3 l3 k3])
  (h:wpList Tryz.prog ops Q rest a ((w.setCell ⟨y,0,none⟩ (.slice p2 l2 k2)).setCell ⟨y,1,none⟩ (.slice p3 l3 k3))):wpList Tryz.prog ops Q (o :: rest) a w:=
 wpList_plain hgd fun _ hK=>by
  have y0:=cell_of_row _ _ 0 _ _ _ hy
  have y1:=cell_of_row _ _ 1 _ _ _ hy
  have z:=fun k=>frozen_of_row w y k _ _ hy
  have hr:=hK _ _ h
  unfold Oper.wp execOp
  simp [ho,hx,hv,go_sem,y0,y1,z]
  rw [hd]
  exact hr
structure MAutoMade (c:Int) (O:Aut) (w w':World) (v:Value):Prop where
 bl:Below w.heap.size w w'
 good:c=0→AutO w' w.heap.size v O
 bad:c ≠ 0→v=.agg #[.int .i64 0,.int .i64 0,.slice none 0 0,.slice none 0 0,.slice none 0 0]
theorem mAuto_any {w:World}{v:Value}{M:Mdl} (hV:MdV w v M) (hbf:M.first.length * 8≤140737488355328) (hbr:∀ r ∈ M.steps,r.length * 8≤140737488355328) :
  Calls Tryz.prog 30 #[v] w fun e w'=>∃ v',e=.returned (.tuple #[v',.int .i64 (chkM M)])∧MAutoMade (chkM M) (wordsA M M.labels.length (rowsS M M.labels.length)) w w' v':=by
 have HV:=hide hV
 obtain ⟨lv,fv,sv,rfl,hL,hF,hS⟩:=hV
 obtain ⟨la,lc,rfl,-⟩:=hL
 obtain ⟨fa,fc,rfl,-⟩:=hF
 obtain ⟨sa,sc,rfl,-⟩:=hS
 have HR:=hide hbr
 have HF:=hide hbf
 clear hbr hbf
 have HCR:=hide (chkM_right (M:=M))
 have HCH:=hide (fun (W:World) (hb:Below w.heap.size w W)=>mCheck_any (HV.out.below hb))
 have HWD:=hide (fun (W:World) (hb:Below w.heap.size w W) (hc:chkM M=0)=>words_any (HCR.out hc) (HV.out.below hb) HF.out HR.out)
 generalize chkM M=c at *
 generalize wordsA M M.labels.length (rowsS M M.labels.length)=O at *
 generalize M.props=p0 at *
 generalize M.labels.length=l1 at *
 generalize M.first.length=l2 at *
 generalize M.steps.length=l3 at *
 have hb0:=below_trans (below_new w (Obj.cells #[.int .i64 p0,.slice la l1 lc,.slice fa l2 fc,.slice sa l3 sc] 59)) (below_new _ (Obj.cells #[.int .i64 0,.int .i64 0,.slice none 0 0,.slice none 0 0,.slice none 0 0] 26))
 have hn1:=belowRow (below_new _ (Obj.cells #[.int .i64 0,.int .i64 0,.slice none 0 0,.slice none 0 0,.slice none 0 0] 26)) (one_new w (Obj.cells #[.int .i64 p0,.slice la l1 lc,.slice fa l2 fc,.slice sa l3 sc] 59))
 have hn2:=one_new (w.alloc (Obj.cells #[.int .i64 p0,.slice la l1 lc,.slice fa l2 fc,.slice sa l3 sc] 59)) (Obj.cells #[.int .i64 0,.int .i64 0,.slice none 0 0,.slice none 0 0,.slice none 0 0] 26)
 rw [show (w.alloc (Obj.cells #[.int .i64 p0,.slice la l1 lc,.slice fa l2 fc,.slice sa l3 sc] 59)).heap.size=w.heap.size+1 by simp] at hn2
 have HB0:=hide hb0
 have H1:=hide hn1
 have H2:=hide hn2
 have HL1:=hide (model_load hn1)
 clear hb0 hn1 hn2
 go_enter Tryz.func30,Tryz.ntmps30
 go_wp2_with (first | (show wpList _ _ _ (⟨some 5,_,_,_,_,_⟩ :: _) _ _;refine wpl_loadM HL1.out rfl rfl rfl ?_))
 generalize ((w.alloc (Obj.cells #[.int .i64 p0,.slice la l1 lc,.slice fa l2 fc,.slice sa l3 sc] 59)).alloc (Obj.cells #[.int .i64 0,.int .i64 0,.slice none 0 0,.slice none 0 0,.slice none 0 0] 26))=W0 at *
 go_fit (HCH.out W0 HB0.out)
 rintro e w1 ⟨rfl,hb1⟩
 have HB1:=hide (below_trans HB0.out hb1)
 have H1':=hide (belowRow hb1 H1.out)
 have H2':=hide (belowRow hb1 H2.out)
 have HL2:=hide (model_load H1'.out)
 clear hb1 H1 H2 HL1 HCH
 by_cases hc:c=0
 ·subst hc
  have HN:=hide (HWD.out w1 HB1.out rfl)
  clear HWD HCR HF HR HB0
  go_wp2_with (first | (show wpList _ _ _ (⟨some 11,_,_,_,_,_⟩ :: _) _ _;refine wpl_loadM HL2.out rfl rfl rfl ?_))
  go_fit HN.out
  rintro e w2 ⟨v',rfl,hA,hb2⟩
  have h09:=belowRow hb2 H2'.out
  have hl:=hA.lower (show w.heap.size≤w1.heap.size from HB1.out.size)
  obtain ⟨o1,o2,o3,rfl,k1,k2,k3⟩:=id hA
  obtain ⟨a1,e1,rfl⟩:=owns_form k1
  obtain ⟨a2,e2,rfl⟩:=owns_form k2
  obtain ⟨a3,e3,rfl⟩:=owns_form k3
  have HBF:=hide (fivePut_below (below_trans HB1.out hb2) (show w.heap.size≤w.heap.size+1 by omega) (.int .i64 O.n) (.int .i64 O.m) (.slice a1 O.first.length e1) (.slice a2 O.good.length e2) (.slice a3 O.steps.length e3))
  have HAF:=hide (hl.five h09 (.int .i64 O.n) (.int .i64 O.m) (.slice a1 O.first.length e1) (.slice a2 O.good.length e2) (.slice a3 O.steps.length e3))
  have HFB:=hide (fivePut_box h09 (.int .i64 O.n) (.int .i64 O.m) (.slice a1 O.first.length e1) (.slice a2 O.good.length e2) (.slice a3 O.steps.length e3))
  have H09:=hide h09
  clear h09 hb2 hA hl k1 k2 k3 H1' H2' HN HL2 HB1 HV
  go_wp2_with (first | (show wpList _ _ _ (⟨none,_,_,_,_,_⟩ :: _) _ _;refine wpl_store5 H09.out rfl rfl rfl rfl rfl ?_))
  have f0:=cell_of_row _ _ 0 _ _ _ HFB.out
  have f1:=cell_of_row _ _ 1 _ _ _ HFB.out
  have f2:=cell_of_row _ _ 2 _ _ _ HFB.out
  have f3:=cell_of_row _ _ 3 _ _ _ HFB.out
  have f4:=cell_of_row _ _ 4 _ _ _ HFB.out
  exact bodyPost_ret (v:=.tuple #[.agg #[.int .i64 O.n,.int .i64 O.m,.slice a1 O.first.length e1,.slice a2 O.good.length e2,.slice a3 O.steps.length e3],.int .i64 0]) (by simp [results,Tryz.results30,go_sem,f0,f1,f2,f3,f4]) rfl ⟨_,rfl,⟨HBF.out,fun _=>HAF.out,fun h=>absurd rfl h⟩⟩
 ·have HC:=hide hc
  have hd:(c != 0)=true:=by simpa using hc
  have h09:=H2'.out
  have HBF:=hide (fivePut_below HB1.out (show w.heap.size≤w.heap.size+1 by omega) (.int .i64 0) (.int .i64 0) (.slice none 0 0) (.slice none 0 0) (.slice none 0 0))
  have HFB:=hide (fivePut_box h09 (.int .i64 0) (.int .i64 0) (.slice none 0 0) (.slice none 0 0) (.slice none 0 0))
  have H09:=hide h09
  clear h09 H1' H2' HWD HCR HF HR HB0 HB1 HV HL2 hc
  go_wp2_with (first | (show wpList _ _ _ (⟨none,_,_,_,_,_⟩ :: _) _ _;refine wpl_store5 H09.out rfl rfl rfl rfl rfl ?_))
  have f0:=cell_of_row _ _ 0 _ _ _ HFB.out
  have f1:=cell_of_row _ _ 1 _ _ _ HFB.out
  have f2:=cell_of_row _ _ 2 _ _ _ HFB.out
  have f3:=cell_of_row _ _ 3 _ _ _ HFB.out
  have f4:=cell_of_row _ _ 4 _ _ _ HFB.out
  exact bodyPost_ret (v:=.tuple #[.agg #[.int .i64 0,.int .i64 0,.slice none 0 0,.slice none 0 0,.slice none 0 0],.int .i64 c]) (by simp [results,Tryz.results30,go_sem,f0,f1,f2,f3,f4]) rfl ⟨_,rfl,⟨HBF.out,fun e=>absurd e HC.out,fun _=>rfl⟩⟩
theorem NodeSl.block_lt {w:World}{v:Value}{F:List Nd} (h:NodeSl w v F) (hne:F ≠ []):∀ b,v.ownBlock=some b→b < w.heap.size:=by
 obtain ⟨a,cap,rfl,hm,h,hn⟩:=h
 rcases h with h | ⟨b,off,rfl,hc⟩
 ·exact absurd h hne
 ·intro k hk
  have e:b=k:=by simpa [Value.ownBlock] using hk
  subst e
  exact World.block_lt_of_cell? w _ (hc 0 (List.length_pos_iff.2 hne)).1
theorem tn_begin {w:World}{r:Nat}{fv:Value}{F:List Nd} (hs:SgMap w r) (hn:NodeSl w fv F) (hne:F ≠ []) (ty:Nat):TN (w.alloc (.cells #[.map (some r),fv,.slice none 0 0] ty)) w.heap.size r (w.heap.size+1) fv F none 0 []:=by
 have hb:Below w.heap.size w (w.alloc (.cells #[.map (some r),fv,.slice none 0 0] ty)):=below_new _ _
 have hrl:=hs.lt
 refine ⟨?_,?_,?_,?_,hs.below hb,hn.below hb,⟨rfl,Or.inl ⟨rfl,rfl⟩⟩,?_,by omega,by omega,by omega,fun b h=>?_⟩
 ·exact cell_top _ _ _ _ _ _ rfl rfl
 ·exact cell_top _ _ _ _ _ _ rfl rfl
 ·exact cell_top _ _ _ _ _ _ rfl rfl
 ·exact World.frozen?_alloc_new _ _ _ _
 ·simp
 ·have:=hn.block_lt hne b h
  omega
theorem neg_below {w w1 w2 w3:World}{o:Obj} (hb1:Below w.heap.size w w1) (hb2:Below w1.heap.size w1 w2) (h:GTf w2.heap.size none (w2.alloc o) w3):Below w.heap.size w w3:=by
 have hb:=below_trans (below_trans hb1 hb2) (below_new w2 o)
 have h1:=hb1.size
 have h2:=hb2.size
 refine ⟨h.os.trans hb.os,h.tape.trans hb.tape,h.output.trans hb.output,Nat.le_trans hb.size h.size,fun k hk=>?_⟩
 exact (h.block k (Nat.lt_of_lt_of_le hk hb.size) (by omega) (fun e=>by cases e)).trans (hb.block k hk)
theorem negate_any {w:World}{fv:Value}{F:List Nd} (hF:NodeSl w fv F) :
  Calls Tryz.prog 21 #[fv] w fun e w'=>∃ v,e=.returned (.tuple #[v,.int .i64 (chkNeg F)])∧(chkNeg F=0→NodeSl w' v (negF F))∧(chkNeg F ≠ 0→v=.slice none 0 0)∧Below w.heap.size w w':=by
 have HC:Hid (∀ W v G,NodeSl W v G→Calls Tryz.prog 54 #[v] W fun e w'=>e=.returned (.int .i64 (chkF G))∧Below W.heap.size W w'):=hide fun W v G h=>formulaCheck_any h
 have HV:=hide hF
 obtain ⟨fa,fc,rfl,hm,-⟩:=hF
 by_cases hq:chkF F=0
 ·have bq:(chkF F != 0)=false:=by simpa using hq
  obtain ⟨hM0,h12,hall⟩:=chkF_ok hq
  have hcn:chkNeg F=chkF (negF F):=by unfold chkNeg;rw [if_pos hq]
  rw [hcn]
  have hpw:2 ^ (F.length - 1+2)≤2 ^ 13:=Nat.pow_le_pow_right (by decide) (by omega)
  have hi0:(F.length:Int) - 1=(F.length - 1:Nat):=by omega
  have HTurn:=hide (turn_any hall (F.length - 1) (by omega))
  clear hcn
  generalize hcq:chkF (negF F)=s at *
  have HS:=hide hcq
  clear hcq
  go_enter Tryz.func21,Tryz.ntmps21
  go_wp2_with (fail)
  refine (HC.out _ _ F HV.out).mono ?_
  rintro e w1 ⟨rfl,hb1⟩
  go_wp2_with (fail)
  refine (signs_any _).mono ?_
  rintro e w2 ⟨r,rfl,hr,hr0,hb2⟩
  have hrl:=(Array.getElem?_eq_some_iff.1 hr).1
  go_wp2_with (fail)
  have hne:F ≠ []:=fun h=>by rw [h] at hM0;simp at hM0
  have hT0:=tn_begin (w:=w2) (r:=r) (F:=F) hr ((HV.out.below hb1).below hb2) hne 102
  refine (HTurn.out _ _ _ _ _ _ _ _ true hT0 (by simp;omega)).mono ?_
  rintro e w3 ⟨rfl,a3,c3,ht3,hg3,hn3⟩
  have ht3':TN w3 w2.heap.size r (w2.heap.size+1) (.slice fa F.length fc) F a3 c3 (negF F):=ht3
  have htc:w3.cell? ⟨w2.heap.size,2,none⟩=some (.slice a3 (negF F).length c3):=ht3'.c2
  have HT3:=hide ht3'
  have HB3:Hid (Below w.heap.size w w3):=hide (neg_below hb1 hb2 hg3)
  clear ht3 ht3' hT0 hn3 hg3 hi0 hpw
  by_cases hs0:s=0
  ·subst hs0
   go_wp2_with (fail)
   refine (HC.out _ _ (negF F) (nodeSl_of_owns HT3.out.own)).mono ?_
   rintro e w4 ⟨rfl,hb4⟩
   rw [HS.out]
   have htc4:=cell_keep htc hb4
   go_wp2_with (fail)
   go_ret2
   exact ⟨.slice a3 (negF F).length c3,rfl,(nodeSl_of_owns HT3.out.own).below hb4,below_trans HB3.out hb4⟩
  ·have bs:(s != 0)=true:=by simpa using hs0
   go_wp2_with (fail)
   refine (HC.out _ _ (negF F) (nodeSl_of_owns HT3.out.own)).mono ?_
   rintro e w4 ⟨rfl,hb4⟩
   rw [HS.out]
   go_wp2_with (fail)
   go_ret2
   exact ⟨.slice none 0 0,rfl,fun h=>absurd h hs0,fun _=>rfl,below_trans HB3.out hb4⟩
 ·have bq:(chkF F != 0)=true:=by simpa using hq
  have hcn:chkNeg F=chkF F:=by unfold chkNeg;rw [if_neg hq]
  rw [hcn]
  have HQ:=hide hq
  clear hcn hq
  generalize hcq:chkF F=s at *
  have HS:=hide hcq
  clear hcq
  go_enter Tryz.func21,Tryz.ntmps21
  go_wp2_with (fail)
  refine (HC.out _ _ F HV.out).mono ?_
  rintro e w1 ⟨rfl,hb1⟩
  rw [HS.out]
  go_wp2_with (fail)
  go_ret2
  exact ⟨_,rfl,fun h=>absurd h HQ.out,fun _=>rfl,hb1⟩
def twoPut (w:World) (b:Nat) (v0 v1:Value):World:=(w.setCell ⟨b,0,none⟩ v0).setCell ⟨b,1,none⟩ v1
theorem twoPut_box {w:World}{b:Nat}{z0 z1:Value}{t:TypeId} (h:w.heap[b]?=some (.cells #[z0,z1] t)) (v0 v1:Value):(twoPut w b v0 v1).heap[b]?=some (.cells #[v0,v1] t):=box_set (box_set h 0 v0) 1 v1
theorem twoPut_below {base:Nat}{w w':World} (h:Below base w w') {b:Nat} (hb:base≤b) (v0 v1:Value):Below base w (twoPut w' b v0 v1):=below_set (below_set h hb 0 v0) hb 1 v1
theorem twoPut_other (w:World) (b rb:Nat) (h:b ≠ rb) (v0 v1:Value):(twoPut w rb v0 v1).heap[b]?=w.heap[b]?:=by
 unfold twoPut
 rw [heap_setCell_other _ _ _ b h,heap_setCell_other _ _ _ b h]
theorem AutO.two {w:World}{base rb:Nat}{v:Value}{A:Aut}{z0 z1:Value} (h:AutO w base v A) (hr:w.heap[rb]?=some (.cells #[z0,z1] 28)) (v0 v1:Value):AutO (twoPut w rb v0 v1) base v A:=by
 have r1:=box_set hr 0 v0
 obtain ⟨fv,gv,sv,rfl,h1,h2,h3⟩:=h
 exact ⟨fv,gv,sv,rfl,owns_set (owns_set h1 hr (by decide) _ _) r1 (by decide) _ _,owns_set (owns_set h2 hr (by decide) _ _) r1 (by decide) _ _,owns_set (owns_set h3 hr (by decide) _ _) r1 (by decide) _ _⟩
theorem IntSl.two {w:World}{rb:Nat}{v:Value}{zs:List Int}{p q:Option Addr}{l k l' k':Nat}{t:TypeId} (h:IntSl w v zs) (hr:w.heap[rb]?=some (.cells #[.slice p l k,.slice q l' k'] t)) (v0 v1:Value):IntSl (twoPut w rb v0 v1) v zs:=
 h.of_block fun b off k c e hne=>twoPut_other _ _ _ (fun eb=>by
  obtain ⟨a',cap',e2,_,hz,_⟩:=h
  rcases hz with h8 | ⟨b',off',e3,hc⟩
  ·exact absurd h8 hne
  ·rw [e2,e3] at e
   cases e
   have h7:=hc 0 (List.length_pos_iff.2 hne)
   rw [eb] at h7
   obtain ⟨c',t',fr,hb',hcc⟩:=cells_of_cell? h7
   rw [hr] at hb'
   cases hb'
   match off,hcc with
   | 0,hcc=>simp at hcc
   | 1,hcc=>simp at hcc
   | n+2,hcc=>simp at hcc) _ _
structure ToldW (M:Mdl) (F:List Nd) (b0:Bool) (W:World) (hv lv:Value):Prop where
 sl:∃ p l k q l' k',hv=.slice p l k∧lv=.slice q l' k'
 no:b0=true→∃ us vs,IntSl W hv us∧IntSl W lv vs∧chk us vs 8=0∧goesM M (lat us vs) (farM M us vs)∧valM F us vs=false
 yes:b0=false→hv=.slice none 0 0∧lv=.slice none 0 0
theorem ToldW.below {M:Mdl}{F:List Nd}{b0:Bool}{W W':World}{hv lv:Value} (h:ToldW M F b0 W hv lv) (hb:Below W.heap.size W W'):ToldW M F b0 W' hv lv:=
 ⟨h.sl,fun e=>by
  obtain ⟨us,vs,h1,h2,h3⟩:=h.no e
  exact ⟨us,vs,h1.below hb,h2.below hb,h3⟩,h.yes⟩
theorem ToldW.two {M:Mdl}{F:List Nd}{b0:Bool}{W:World}{hv lv:Value}{rb:Nat}{p q:Option Addr}{l k l' k':Nat}{t:TypeId} (h:ToldW M F b0 W hv lv) (hr:W.heap[rb]?=some (.cells #[.slice p l k,.slice q l' k'] t)) (v0 v1:Value):ToldW M F b0 (twoPut W rb v0 v1) hv lv:=
 ⟨h.sl,fun e=>by
  obtain ⟨us,vs,h1,h2,h3⟩:=h.no e
  exact ⟨us,vs,h1.two hr _ _,h2.two hr _ _,h3⟩,h.yes⟩
structure PairsO (M:Mdl) (F:List Nd) (O:Aut):Prop where
 right:RightW O
 n1:1≤O.n
 n2:O.n≤2001
 f:O.first.length≤2000
 m:O.m=8
 tell:∀ hs ls,chk hs ls 8=0→(TakesU O (lat hs ls) ↔ goesM M (lat hs ls) (farM M hs ls)∧valM F hs ls=false)
def FailsM (M:Mdl) (F:List Nd):Prop:=∃ hs ls,chk hs ls 8=0∧goesM M (lat hs ls) (farM M hs ls)∧valM F hs ls=false
theorem told_of {M:Mdl}{F:List Nd}{O:Aut}{b b0:Bool}{w w':World}{hv lv:Value} (hO:PairsO M F O) (hb:b0=true ↔ FailsM M F) (h:WordMade O w w' hv lv b):b=b0∧ToldW M F b0 w' hv lv:=by
 cases b with
 | true =>
  obtain ⟨us,vs,h1,h2,_,_,h5,h6,h7,h8,h9⟩:=h.yes rfl
  have hk:=tellable hO.m hO.n2 h5 h6 h7 h8
  have ht:=(hO.tell us vs hk).1 h9
  have e0:b0=true:=hb.2 ⟨us,vs,hk,ht⟩
  refine ⟨e0.symm,?_,fun _=>⟨us,vs,h1,h2,hk,ht⟩,fun e=>by rw [e0] at e;cases e⟩
  obtain ⟨p,c,e1,-⟩:=h1
  obtain ⟨q,c',e2,-⟩:=h2
  exact ⟨p,_,c,q,_,c',e1,e2⟩
 | false =>
  obtain ⟨h1,h2,h3⟩:=h.no rfl
  have e0:b0=false:=by
   cases hq:b0 with
   | false=>rfl
   | true =>
    obtain ⟨us,vs,hk,ht⟩:=hb.1 hq
    exact absurd ((hO.tell us vs hk).2 ht) (h3 _)
  exact ⟨e0.symm,⟨none,0,0,none,0,0,h1,h2⟩,fun e=>(by rw [e0] at e;cases e),fun _=>⟨h1,h2⟩⟩
def VH (M:Mdl) (F:List Nd) (b0:Bool) (Wr:World):Nat→Act→World→Prop
 | 0,_,W=>Below Wr.heap.size Wr W
 | _+1,a,W=>Below Wr.heap.size Wr W∧∃ y hv lv,Wr.heap.size≤y∧a.tmps[11]?.getD undef=.pointer (some ⟨y,0,none⟩)∧W.heap[y]?=some (.cells #[hv,lv] 28)∧ToldW M F b0 W hv lv
def RH (M:Mdl) (F:List Nd) (A:Aut) (b0:Bool) (Wr:World) (mv bv:Value):Nat→Value→World→Prop
 | 0,v,_=>v=mv
 | 1,v,W=>AutO W Wr.heap.size v A
 | 2,v,_=>v=bv
 | 3,v,W=>∃ O,PairsO M F O∧AutO W Wr.heap.size v O
 | 4,v,W=>∃ hv lv,v=.tuple #[.agg #[hv,lv],.bool b0]∧ToldW M F b0 W hv lv
 | 5,v,W=>∃ hv lv,v=.tuple #[.agg #[hv,lv],.bool b0]∧ToldW M F b0 W hv lv
 | 6,v,W=>∃ hv lv,v=.agg #[hv,lv]∧ToldW M F b0 W hv lv
 | 7,v,_=>v=.bool b0
 | 8,v,W=>∃ y p l k q l' k',v=.pointer (some ⟨y,0,none⟩)∧Wr.heap.size≤y∧W.heap[y]?=some (.cells #[.slice p l k,.slice q l' k'] 28)
 | 9,_,_=>True
 | _+10,v,_=>v=.bool b0
theorem VH.keep {M:Mdl}{F:List Nd}{b0:Bool}{Wr:World}{k:Nat}{a:Act}{W W':World} (h:VH M F b0 Wr k a W) (hb:Below W.heap.size W W') (d:Tmp) (hd:d ≠ 11) (v:Value):VH M F b0 Wr k (a.put (some d) v) W':=by
 match k,h with
 | 0,h=>exact Below.trans h (hb.mono h.size)
 | k+1,⟨h1,y,hv,lv,h0,h2,h3,h4⟩ =>
  refine ⟨Below.trans h1 (hb.mono h1.size),y,hv,lv,h0,?_,belowRow hb h3,h4.below hb⟩
  rw [← h2]
  simp only [Act.put]
  rw [Array.getElem?_setIfInBounds,if_neg hd]
theorem RH.keep {M:Mdl}{F:List Nd}{A:Aut}{b0:Bool}{Wr:World}{mv bv:Value}{W W':World} (hb:Below W.heap.size W W'):∀ j x,RH M F A b0 Wr mv bv j x W→RH M F A b0 Wr mv bv j x W'
 | 0,_,h=>h
 | 1,_,h=>AutO.below h hb
 | 2,_,h=>h
 | 3,_,⟨O,h1,h2⟩=>⟨O,h1,h2.below hb⟩
 | 4,_,⟨hv,lv,h1,h2⟩=>⟨hv,lv,h1,h2.below hb⟩
 | 5,_,⟨hv,lv,h1,h2⟩=>⟨hv,lv,h1,h2.below hb⟩
 | 6,_,⟨hv,lv,h1,h2⟩=>⟨hv,lv,h1,h2.below hb⟩
 | 7,_,h=>h
 | 8,_,⟨y,p,l,k,q,l',k',h1,h2,h3⟩=>⟨y,p,l,k,q,l',k',h1,h2,belowRow hb h3⟩
 | 9,_,_=>trivial
 | _+10,_,h=>h
theorem RH.two {M:Mdl}{F:List Nd}{A:Aut}{b0:Bool}{Wr:World}{mv bv:Value}{W:World}{rb:Nat}{p0 q0:Option Addr}{l0 k0 l0' k0':Nat} (hr:W.heap[rb]?=some (.cells #[.slice p0 l0 k0,.slice q0 l0' k0'] 28)) (p1 q1:Option Addr) (l1 k1 l1' k1':Nat):∀ j x,RH M F A b0 Wr mv bv j x W→RH M F A b0 Wr mv bv j x (twoPut W rb (.slice p1 l1 k1) (.slice q1 l1' k1'))
 | 0,_,h=>h
 | 1,_,h=>AutO.two h hr _ _
 | 2,_,h=>h
 | 3,_,⟨O,h1,h2⟩=>⟨O,h1,h2.two hr _ _⟩
 | 4,_,⟨hv,lv,h1,h2⟩=>⟨hv,lv,h1,h2.two hr _ _⟩
 | 5,_,⟨hv,lv,h1,h2⟩=>⟨hv,lv,h1,h2.two hr _ _⟩
 | 6,_,⟨hv,lv,h1,h2⟩=>⟨hv,lv,h1,h2.two hr _ _⟩
 | 7,_,h=>h
 | 8,_,⟨y,p,l,k,q,l',k',h1,h2,h3⟩=>by
  by_cases e:y=rb
  ·subst e
   exact ⟨y,p1,l1,k1,q1,l1',k1',h1,h2,twoPut_box hr _ _⟩
  ·exact ⟨y,p,l,k,q,l',k',h1,h2,(twoPut_other _ _ _ e _ _).trans h3⟩
 | 9,_,_=>trivial
 | _+10,_,h=>h
end Go.Proofs.YtpiacnnifdjlkabGreatDoor
