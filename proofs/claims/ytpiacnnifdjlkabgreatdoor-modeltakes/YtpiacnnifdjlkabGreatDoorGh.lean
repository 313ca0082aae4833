import Derived.Test.YtpiacnnifdjlkabGreatDoorYj
import Derived.Test.YtpiacnnifdjlkabGreatDoorBe
import Derived.Lib.AppendStr
import Derived.Lib.OthersKept
import Derived.Shelf.Strconv.AppendIntPublic10
import Derived.Shelf.Strings.Prefix
import Derived.Ground.NamesProg
import Derived.BigQuiet
import Derived.Lib.QuietBelow
set_option maxRecDepth 100000
set_option maxHeartbeats 8000000
namespace Go.Proofs.YtpiacnnifdjlkabGreatDoor
open Go.RowKit Go.Sort
theorem holds_pairOk {M:Mdl}{G:List Nd}{B:Aut}{met:List Spo} (hM:MRight M) (hc:chkF G=0) (hB:OfNodes [(true,0,0)] (goodT G) (afterT G) met B) (hm:B.m=8) (hl:met.length≤81) (hso:B.steps.Pairwise (fun a b=>0≤ordS b a)) (hnd:B.steps.Nodup):PairOk (wordsA M M.labels.length (rowsS M M.labels.length)) B M.labels.length met.length∧2 * (M.labels.length * met.length)≤2000∧(wordsA M M.labels.length (rowsS M M.labels.length)).first.length * B.first.length≤2000:=by
 obtain ⟨rA,_⟩:=rightW_of (words_chk hM)
 obtain ⟨rB,_⟩:=rightW_of (chkA_nodes (cnt_of hc) hB hm hl hso hnd)
 have hs:=steps_few (cnt_of hc) hB hnd
 have hsA:=rowsS_few hM _ (Nat.le_refl _)
 have hn12:=hM.n12
 have h0:((true,0,0):Spo) ∈ met:=hB.first_met _ (by simp)
 have hne:met ≠ []:=List.ne_nil_of_mem h0
 have hg:B.good.length=met.length:=by rw [hB.good,if_neg hne,List.length_map]
 have hf:(onceL M.first).length≤M.labels.length:=once_few (fun x hx=>hM.first x hx)
 have hfB:B.first.length=1:=by rw [hB.first];rfl
 have h1:M.labels.length * met.length≤12 * 81:=Nat.mul_le_mul hn12 hl
 have h2:(rowsS M M.labels.length).length * B.steps.length≤144 * 768:=Nat.mul_le_mul (by omega) hs
 have h3:2 * (M.labels.length * met.length) * ((rowsS M M.labels.length).length * B.steps.length)≤(2 * (12 * 81)) * (144 * 768):=Nat.mul_le_mul (Nat.mul_le_mul_left 2 h1) h2
 refine ⟨⟨rfl,?_,rA,rB,?_,by omega,by omega,?_,?_,by omega⟩,by omega,?_⟩
 ·rw [hB.n,hg]
 ·show (onceL M.first).length≤900
  omega
 ·show 2 * (M.labels.length * met.length) * ((rowsS M M.labels.length).length * B.steps.length)≤300000000
  omega
 ·show (rowsS M M.labels.length).length≤1000000
  omega
 ·show (onceL M.first).length * B.first.length≤2000
  rw [hfB]
  omega
theorem pairsO_of {M:Mdl}{F:List Nd}{B O:Aut}{met:List Spo}{met2:List Pair} (hM:MRight M) (hc:chkF F=0) (hn:chkF (negF F)=0) (hB:OfNodes [(true,0,0)] (goodT (negF F)) (afterT (negF F)) met B) (hm:B.m=8) (hl:met.length≤81) (hso:B.steps.Pairwise (fun a b=>0≤ordS b a)) (hnd:B.steps.Nodup)
  (k1:OfNodes (pFirst (wordsA M M.labels.length (rowsS M M.labels.length)) B) (pGood (wordsA M M.labels.length (rowsS M M.labels.length))) (pAfter (wordsA M M.labels.length (rowsS M M.labels.length)) B) met2 O) (k2:O.m=(wordsA M M.labels.length (rowsS M M.labels.length)).m) (k4:met2.length≤2 * (M.labels.length * met.length)) (k5:O.steps.length≤2 * (M.labels.length * met.length) * ((wordsA M M.labels.length (rowsS M M.labels.length)).steps.length * B.steps.length)) (k6:O.steps.Pairwise (fun a b=>0≤ordS b a)):PairsO M F O:=by
 obtain ⟨hP,h1,h2⟩:=holds_pairOk hM hn hB hm hl hso hnd
 obtain ⟨rO,n1,n2⟩:=nodes_rightW hP k1 k2 k4 k5 k6 h1 h2
 refine ⟨rO,n1,n2,?_,k2,fun hs ls hk=>pairs_tell hM (words_right M) hP.rA hP.rB rO hc hn hB k1 hk⟩
 rw [k1.first,List.length_map,pFirst_len]
 exact h2
def chkH (M:Mdl) (F:List Nd):Int:=if chkM M=0 then chkNeg F else chkM M
structure HoldsOut (c:Int) (M:Mdl) (F:List Nd) (w w':World) (hv lv:Value) (ok:Bool):Prop where
 bl:Below w.heap.size w w'
 bad:c ≠ 0→ok=false∧hv=.slice none 0 0∧lv=.slice none 0 0
 good:c=0→HoldsMade M F w w' hv lv ok
theorem mHolds_any {w:World}{v gv:Value}{M:Mdl}{F:List Nd} (hV:MdV w v M) (hF:NodeSl w gv F) (hbf:M.first.length * 8≤140737488355328) (hbr:∀ r ∈ M.steps,r.length * 8≤140737488355328) :
  Calls Tryz.prog 36 #[v,gv] w fun e w'=>∃ hv lv ok,e=.returned (.tuple #[.bool ok,.agg #[hv,lv],.int .i64 (chkH M F)])∧HoldsOut (chkH M F) M F w w' hv lv ok:=by
 have HV:=hide hV
 have HG:=hide hF
 obtain ⟨lv,fv,sv,rfl,hL,hF',hS⟩:=hV
 obtain ⟨la,lc,rfl,-⟩:=hL
 obtain ⟨fa,fc,rfl,-⟩:=hF'
 obtain ⟨sa,sc,rfl,-⟩:=hS
 obtain ⟨ga,gc,rfl,-⟩:=hF
 have HR:=hide hbr
 have HF:=hide hbf
 clear hbr hbf
 have HCR:=hide (chkM_right (M:=M))
 have HCH:=hide (fun (W:World) (hb:Below w.heap.size w W)=>mCheck_any (HV.out.below hb))
 have HWD:=hide (fun (W:World) (hb:Below w.heap.size w W) (hc:chkM M=0)=>words_any (HCR.out hc) (HV.out.below hb) HF.out HR.out)
 have HNG:=hide (fun (W:World) (hb:Below w.heap.size w W)=>negate_any (HG.out.below hb))
 have HE:Hid (chkH M F=if chkM M=0 then chkNeg F else chkM M):=hide rfl
 generalize chkH M F=ch at *
 generalize hcm:chkM M=c at *
 generalize hcn:chkNeg F=cn at *
 have HCN:=hide hcn
 clear hcm hcn
 generalize hA:wordsA M M.labels.length (rowsS M M.labels.length)=A at *
 have HA:=hide hA
 clear hA
 generalize M.props=p0 at *
 generalize hl1:M.labels.length=l1 at *
 have HL1:=hide hl1
 clear hl1
 generalize M.first.length=l2 at *
 generalize M.steps.length=l3 at *
 generalize F.length=lf at *
 have hb0:=below_trans (below_new w (Obj.cells #[.int .i64 p0,.slice la l1 lc,.slice fa l2 fc,.slice sa l3 sc] 59)) (below_new _ (Obj.cells #[.slice none 0 0,.slice none 0 0] 28))
 have hn1:=belowRow (below_new _ (Obj.cells #[.slice none 0 0,.slice none 0 0] 28)) (one_new w (Obj.cells #[.int .i64 p0,.slice la l1 lc,.slice fa l2 fc,.slice sa l3 sc] 59))
 have hn2:=one_new (w.alloc (Obj.cells #[.int .i64 p0,.slice la l1 lc,.slice fa l2 fc,.slice sa l3 sc] 59)) (Obj.cells #[.slice none 0 0,.slice none 0 0] 28)
 rw [show (w.alloc (Obj.cells #[.int .i64 p0,.slice la l1 lc,.slice fa l2 fc,.slice sa l3 sc] 59)).heap.size=w.heap.size+1 by simp] at hn2
 have HB0:=hide hb0
 have H1:=hide hn1
 have H2:=hide hn2
 have HLd:=hide (model_load hn1)
 clear hb0 hn1 hn2
 go_enter Tryz.func36,Tryz.ntmps36
 go_wp2_with (first | (show wpList _ _ _ (⟨some 13,_,_,_,_,_⟩ :: _) _ _;refine wpl_loadM HLd.out rfl rfl rfl ?_))
 generalize ((w.alloc (Obj.cells #[.int .i64 p0,.slice la l1 lc,.slice fa l2 fc,.slice sa l3 sc] 59)).alloc (Obj.cells #[.slice none 0 0,.slice none 0 0] 28))=W0 at *
 go_fit (HCH.out W0 HB0.out)
 rintro e w1 ⟨rfl,hb1⟩
 have HB1:=hide (below_trans HB0.out hb1)
 have H1':=hide (belowRow hb1 H1.out)
 have H2':=hide (belowRow hb1 H2.out)
 clear hb1 H1 H2 HLd HCH HB0
 by_cases hc:c=0
 case neg =>
  have HX:Hid (ch=c∧c ≠ 0):=hide ⟨by rw [HE.out,if_neg hc],hc⟩
  have hd:(c != 0)=true:=by simpa using hc
  have HBF:=hide (twoPut_below HB1.out (show w.heap.size≤w.heap.size+1 by omega) (.slice none 0 0) (.slice none 0 0))
  have HFB:=hide (twoPut_box H2'.out (.slice none 0 0) (.slice none 0 0))
  unfold twoPut at HBF HFB
  clear H1' HWD HCR HF HR HB1 HV hc HNG HE
  go_wp2_with (first | (show wpList _ _ _ (⟨none,_,_,_,_,_⟩ :: _) _ _;refine wpl_store2 H2'.out rfl rfl rfl rfl rfl ?_))
  have f0:=cell_of_row _ _ 0 _ _ _ HFB.out
  have f1:=cell_of_row _ _ 1 _ _ _ HFB.out
  exact bodyPost_ret (v:=.tuple #[.bool false,.agg #[.slice none 0 0,.slice none 0 0],.int .i64 c]) (by simp [results,Tryz.results36,go_sem,f0,f1]) rfl ⟨_,_,false,by rw [HX.out.1],⟨HBF.out,fun _=>⟨rfl,rfl,rfl⟩,fun e=>absurd (HX.out.1.symm.trans e) HX.out.2⟩⟩
 subst hc
 have HX:Hid (ch=cn):=hide (by rw [HE.out,if_pos rfl])
 clear HE
 go_wp2_with (fail)
 go_fit (HNG.out w1 HB1.out)
 rintro e w2 ⟨nv,rfl,hn1,hn2,hb2⟩
 have HN:=hide (And.intro hn1 hn2)
 have HB2:=hide (below_trans HB1.out hb2)
 have H1:=hide (belowRow hb2 H1'.out)
 have H2:=hide (belowRow hb2 H2'.out)
 clear hb2 H1' H2' HB1 hn1 hn2 HNG
 by_cases hc:cn=0
 case neg =>
  have hd:(cn != 0)=true:=by simpa using hc
  have HX2:=hide hc
  obtain rfl:nv=.slice none 0 0:=HN.out.2 hc
  have HBF:=hide (twoPut_below HB2.out (show w.heap.size≤w.heap.size+1 by omega) (.slice none 0 0) (.slice none 0 0))
  have HFB:=hide (twoPut_box H2.out (.slice none 0 0) (.slice none 0 0))
  unfold twoPut at HBF HFB
  clear H1 HWD HCR HF HR HB2 HV hc HN
  go_wp2_with (first | (show wpList _ _ _ (⟨none,_,_,_,_,_⟩ :: _) _ _;refine wpl_store2 H2.out rfl rfl rfl rfl rfl ?_))
  have f0:=cell_of_row _ _ 0 _ _ _ HFB.out
  have f1:=cell_of_row _ _ 1 _ _ _ HFB.out
  exact bodyPost_ret (v:=.tuple #[.bool false,.agg #[.slice none 0 0,.slice none 0 0],.int .i64 cn]) (by simp [results,Tryz.results36,go_sem,f0,f1]) rfl ⟨_,_,false,by rw [HX.out],⟨HBF.out,fun _=>⟨rfl,rfl,rfl⟩,fun e=>absurd (HX.out.symm.trans e) HX2.out⟩⟩
 subst hc
 have hG:=HN.out.1 rfl
 have HG2:=hide hG
 obtain ⟨na,nc,rfl,-⟩:=hG
 generalize (negF F).length=ln at *
 clear HN
 have hq:chkF F=0∧chkF (negF F)=0:=by
  have:=HCN.out
  unfold chkNeg at this
  by_cases hh:chkF F=0
  ·rw [if_pos hh] at this;exact ⟨hh,this⟩
  ·rw [if_neg hh] at this;exact absurd this hh
 have HQ:=hide hq
 have HT:=hide (translate_any HG2.out)
 rw [hq.2] at HT
 clear hq
 go_wp2_with (fail)
 go_fit HT.out
 rintro e w3 ⟨tv,rfl,ht⟩
 obtain ⟨met,B,t1,t2,t3,t4,t5,t6⟩:=ht.good HQ.out.2
 have hb3:=ht.bl
 have HTB:=hide (And.intro t1 (And.intro t2 (And.intro t3 (And.intro t4 (t5 (fun x=>afterT_nodup _ x))))))
 have HTO:=hide t6
 have HB3:=hide (below_trans HB2.out hb3)
 have H1':=hide (belowRow hb3 H1.out)
 have H2':=hide (belowRow hb3 H2.out)
 obtain ⟨o1,o2,o3,rfl,k1,k2,k3⟩:=t6
 obtain ⟨b1,x1,rfl⟩:=owns_form k1
 obtain ⟨b2,x2,rfl⟩:=owns_form k2
 obtain ⟨b3,x3,rfl⟩:=owns_form k3
 clear t1 t2 t3 t4 t5 k1 k2 k3 ht hb3 HT HG2 HCN
 have hbn:=below_new w3 (Obj.cells #[.int .i64 0,.int .i64 0,.slice none 0 0,.slice none 0 0,.slice none 0 0] 26)
 have hon:=one_new w3 (Obj.cells #[.int .i64 0,.int .i64 0,.slice none 0 0,.slice none 0 0,.slice none 0 0] 26)
 have HON:=hide hon
 have HFB:=hide (fivePut_box hon (.int .i64 B.n) (.int .i64 B.m) (.slice b1 B.first.length x1) (.slice b2 B.good.length x2) (.slice b3 B.steps.length x3))
 have HB4:=hide (fivePut_below (below_trans HB3.out hbn) (show w.heap.size≤w3.heap.size from HB3.out.size) (.int .i64 B.n) (.int .i64 B.m) (.slice b1 B.first.length x1) (.slice b2 B.good.length x2) (.slice b3 B.steps.length x3))
 have HTO4:=hide ((HTO.out.below hbn).five hon (.int .i64 B.n) (.int .i64 B.m) (.slice b1 B.first.length x1) (.slice b2 B.good.length x2) (.slice b3 B.steps.length x3))
 have hw3:w.heap.size+1 < w3.heap.size:=(Array.getElem?_eq_some_iff.1 H2'.out).1
 have H14:=hide ((fivePut_other _ _ _ (show w.heap.size ≠ w3.heap.size by omega) (.int .i64 B.n) (.int .i64 B.m) (.slice b1 B.first.length x1) (.slice b2 B.good.length x2) (.slice b3 B.steps.length x3)).trans (belowRow hbn H1'.out))
 have H24:=hide ((fivePut_other _ _ _ (show w.heap.size+1 ≠ w3.heap.size by omega) (.int .i64 B.n) (.int .i64 B.m) (.slice b1 B.first.length x1) (.slice b2 B.good.length x2) (.slice b3 B.steps.length x3)).trans (belowRow hbn H2'.out))
 have HLt:=hide hw3
 clear hbn hon H1 H2 H1' H2' HB2 HB3 HTO hw3
 go_wp2_with (first | (show wpList _ _ _ (⟨none,_,_,_,_,_⟩ :: _) _ _;refine wpl_store5 HON.out rfl rfl rfl rfl rfl ?_))
 generalize fivePut (w3.alloc (Obj.cells #[.int .i64 0,.int .i64 0,.slice none 0 0,.slice none 0 0,.slice none 0 0] 26)) w3.heap.size (.int .i64 B.n) (.int .i64 B.m) (.slice b1 B.first.length x1) (.slice b2 B.good.length x2) (.slice b3 B.steps.length x3)=W4 at *
 obtain ⟨hP,hPS⟩:PairOk A B l1 met.length∧∀ met2 O,OfNodes (pFirst A B) (pGood A) (pAfter A B) met2 O→O.m=A.m→met2.length≤2 * (l1 * met.length)→O.steps.length≤2 * (l1 * met.length) * (A.steps.length * B.steps.length)→O.steps.Pairwise (fun a b=>0≤ordS b a)→PairsO M F O:=by
  have hM:=HCR.out trivial
  obtain ⟨t1,t2,t3,t4,t5⟩:=HTB.out
  rw [← HA.out,← HL1.out]
  exact ⟨(holds_pairOk hM HQ.out.2 t1 t2 t3 t4 t5).1,fun met2 O k1 k2 k4 k5 k6=>pairsO_of hM HQ.out.1 HQ.out.2 t1 t2 t3 t4 t5 k1 k2 k4 k5 k6⟩
 have HP:=hide (And.intro hP hPS)
 obtain ⟨b0,hbb⟩:∃ b0:Bool,(b0=true ↔ FailsM M F):=by
  by_cases h:FailsM M F
  ·exact ⟨true,by simp [h]⟩
  ·exact ⟨false,by simp [h]⟩
 have HBB:=hide hbb
 clear hP hPS hbb
 rename_i Q' K hK
 refine wpIn_wide.1 (region_phasesA (lr:=none) (n:=0) [(0,38),(1,39),(2,40),(3,41),(4,42),(5,37),(6,43),(7,44),(8,11),(10,12)] (VH M F b0 W4) (RH M F A b0 W4 (.agg #[.int .i64 p0,.slice la l1 lc,.slice fa l2 fc,.slice sa l3 sc]) (.agg #[.int .i64 B.n,.int .i64 B.m,.slice b1 B.first.length x1,.slice b2 B.good.length x2,.slice b3 B.steps.length x3])) (by kernel_rfl) (by kernel_rfl) (by kernel_rfl) (by kernel_rfl) [9] [] rfl (by simp) (by simp) (by kernel_rfl) ?h0 ?hpure ?hspec ?hend)
 case h0=>exact ⟨rfl,rfl,rfl,Nat.le_refl _,fun _ _=>rfl⟩
 case hpure =>
  intro i o ho hni kk hkk hn hr a W vs hV he hd
  have hBW:Below W4.heap.size W4 W:=by
   match kk,hV with
   | 0,hV=>exact hV
   | k+1,hV=>exact hV.1
  have hwW:=below_trans HB4.out hBW
  match i,ho,hni with
  | 0,ho,_ =>
   obtain rfl:=Option.some.inj ho
   have f2:a.tmps[2]?.getD undef=.pointer (some ⟨w.heap.size,0,none⟩):=free_val he 2 (by kernel_rfl)
   have hm:=belowRow hBW H14.out
   have q0:=cell_of_row _ _ 0 _ _ _ hm
   have q1:=cell_of_row _ _ 1 _ _ _ hm
   have q2:=cell_of_row _ _ 2 _ _ _ hm
   have q3:=cell_of_row _ _ 3 _ _ _ hm
   exact Goes.value (v:=.agg #[.int .i64 p0,.slice la l1 lc,.slice fa l2 fc,.slice sa l3 sc]) (w':=W) (by simp [execOp,go_sem,f2,q0,q1,q2,q3]) ⟨VH.keep hV (Below.refl _ _) 38 (by decide) _,rfl,fun _ _ _ _ h=>h⟩
  | 1,ho,_ =>
   obtain rfl:=Option.some.inj ho
   have e0:a.tmps[38]?.getD undef=.agg #[.int .i64 p0,.slice la l1 lc,.slice fa l2 fc,.slice sa l3 sc]:=(eval_tmp a 38).symm.trans (((hd 0 (by kernel_rfl)).2 38 (by kernel_rfl)).trans (hd 0 (by kernel_rfl)).1)
   refine Or.inr (Or.inl ⟨75,#[.agg #[.int .i64 p0,.slice la l1 lc,.slice fa l2 fc,.slice sa l3 sc]],by simp [execOp,go_sem,e0],(HWD.out W hwW trivial).mono ?_⟩)
   rintro e W' ⟨v',rfl,hA,hb⟩
   exact ⟨_,rfl,VH.keep hV hb 39 (by decide) _,hA.lower hBW.size,fun j x _ _ h=>RH.keep hb j x h⟩
  | 2,ho,_ =>
   obtain rfl:=Option.some.inj ho
   have f10:a.tmps[10]?.getD undef=.pointer (some ⟨w3.heap.size,0,none⟩):=free_val he 10 (by kernel_rfl)
   have hm:=belowRow hBW HFB.out
   have q0:=cell_of_row _ _ 0 _ _ _ hm
   have q1:=cell_of_row _ _ 1 _ _ _ hm
   have q2:=cell_of_row _ _ 2 _ _ _ hm
   have q3:=cell_of_row _ _ 3 _ _ _ hm
   have q4:=cell_of_row _ _ 4 _ _ _ hm
   exact Goes.value (v:=.agg #[.int .i64 B.n,.int .i64 B.m,.slice b1 B.first.length x1,.slice b2 B.good.length x2,.slice b3 B.steps.length x3]) (w':=W) (by simp [execOp,go_sem,f10,q0,q1,q2,q3,q4]) ⟨VH.keep hV (Below.refl _ _) 40 (by decide) _,rfl,fun _ _ _ _ h=>h⟩
  | 3,ho,_ =>
   obtain rfl:=Option.some.inj ho
   have e1:a.tmps[39]?.getD undef=vs 1:=(eval_tmp a 39).symm.trans ((hd 1 (by kernel_rfl)).2 39 (by kernel_rfl))
   have hA1:AutO W W4.heap.size (vs 1) A:=(hd 1 (by kernel_rfl)).1
   have e2:a.tmps[40]?.getD undef=.agg #[.int .i64 B.n,.int .i64 B.m,.slice b1 B.first.length x1,.slice b2 B.good.length x2,.slice b3 B.steps.length x3]:=(eval_tmp a 40).symm.trans (((hd 2 (by kernel_rfl)).2 40 (by kernel_rfl)).trans (hd 2 (by kernel_rfl)).1)
   refine Or.inr (Or.inl ⟨62,#[vs 1,.agg #[.int .i64 B.n,.int .i64 B.m,.slice b1 B.first.length x1,.slice b2 B.good.length x2,.slice b3 B.steps.length x3]],by simp [execOp,go_sem,e1,e2],(pairAuto_any HP.out.1 hA1.aut (HTO4.out.aut.below hBW)).mono ?_⟩)
   rintro e W' ⟨v',rfl,met2,O,k1,k2,k3,k4,k5,k6,k7,k8,hb⟩
   exact ⟨_,rfl,VH.keep hV hb 41 (by decide) _,⟨O,HP.out.2 met2 O k1 k2 k4 k5 k6,k8.lower hBW.size⟩,fun j x _ _ h=>RH.keep hb j x h⟩
  | 4,ho,_ =>
   obtain rfl:=Option.some.inj ho
   have e3:a.tmps[41]?.getD undef=vs 3:=(eval_tmp a 41).symm.trans ((hd 3 (by kernel_rfl)).2 41 (by kernel_rfl))
   obtain ⟨O,hO,hAO⟩:∃ O,PairsO M F O∧AutO W W4.heap.size (vs 3) O:=(hd 3 (by kernel_rfl)).1
   refine Or.inr (Or.inl ⟨63,#[vs 3],by simp [execOp,go_sem,e3],(word_any hO.right hO.n1 (by have:=hO.n2;omega) (by have:=hO.f;omega) hAO.aut).mono ?_⟩)
   rintro e W' ⟨hv,lv,b,rfl,hm⟩
   obtain ⟨rfl,ht⟩:=told_of hO HBB.out hm
   exact ⟨_,rfl,VH.keep hV hm.bl 42 (by decide) _,⟨hv,lv,rfl,ht⟩,fun j x _ _ h=>RH.keep hm.bl j x h⟩
  | 5,ho,_ =>
   obtain rfl:=Option.some.inj ho
   have e4:a.tmps[42]?.getD undef=vs 4:=(eval_tmp a 42).symm.trans ((hd 4 (by kernel_rfl)).2 42 (by kernel_rfl))
   have h4:RH M F A b0 W4 (.agg #[.int .i64 p0,.slice la l1 lc,.slice fa l2 fc,.slice sa l3 sc]) (.agg #[.int .i64 B.n,.int .i64 B.m,.slice b1 B.first.length x1,.slice b2 B.good.length x2,.slice b3 B.steps.length x3]) 4 (vs 4) W:=(hd 4 (by kernel_rfl)).1
   exact Goes.value (v:=vs 4) (w':=W) (by simp [execOp,go_sem,e4]) ⟨VH.keep hV (Below.refl _ _) 37 (by decide) _,h4,fun _ _ _ _ h=>h⟩
  | 6,ho,_ =>
   obtain rfl:=Option.some.inj ho
   obtain ⟨hv,lv,h5,ht⟩:∃ hv lv,vs 5=.tuple #[.agg #[hv,lv],.bool b0]∧ToldW M F b0 W hv lv:=(hd 5 (by kernel_rfl)).1
   have e5:a.tmps[37]?.getD undef=.tuple #[.agg #[hv,lv],.bool b0]:=(eval_tmp a 37).symm.trans (((hd 5 (by kernel_rfl)).2 37 (by kernel_rfl)).trans h5)
   exact Goes.value (v:=.agg #[hv,lv]) (w':=W) (by simp [execOp,go_sem,e5]) ⟨VH.keep hV (Below.refl _ _) 43 (by decide) _,⟨hv,lv,rfl,ht⟩,fun _ _ _ _ h=>h⟩
  | 7,ho,_ =>
   obtain rfl:=Option.some.inj ho
   obtain ⟨hv,lv,h5,ht⟩:∃ hv lv,vs 5=.tuple #[.agg #[hv,lv],.bool b0]∧ToldW M F b0 W hv lv:=(hd 5 (by kernel_rfl)).1
   have e5:a.tmps[37]?.getD undef=.tuple #[.agg #[hv,lv],.bool b0]:=(eval_tmp a 37).symm.trans (((hd 5 (by kernel_rfl)).2 37 (by kernel_rfl)).trans h5)
   exact Goes.value (v:=.bool b0) (w':=W) (by simp [execOp,go_sem,e5]) ⟨VH.keep hV (Below.refl _ _) 44 (by decide) _,rfl,fun _ _ _ _ h=>h⟩
  | 8,ho,_ =>
   obtain rfl:=Option.some.inj ho
   match kk,hV,hn with
   | 0,hV,_ =>
    refine Goes.value (v:=.pointer (some ⟨W.heap.size,0,none⟩)) (w':=W.alloc (Obj.cells #[.slice none 0 0,.slice none 0 0] 28)) (by simp [execOp,go_sem]) ⟨below_trans hBW (below_new _ _),⟨_,_,_,_,_,_,_,rfl,hBW.size,one_new _ _⟩,fun j x _ _ h=>RH.keep (below_new _ _) j x h⟩
   | k+1,_,hn =>
    have h9:=hn 0 (by omega)
    exact absurd h9 (by rw [show needsB _ ([9].getD 0 0) 8=true from by kernel_rfl];simp)
  | 9,_,h=>exact absurd (by simp) h
  | 10,ho,_ =>
   obtain rfl:=Option.some.inj ho
   have e7:a.tmps[44]?.getD undef=.bool b0:=(eval_tmp a 44).symm.trans (((hd 7 (by kernel_rfl)).2 44 (by kernel_rfl)).trans (hd 7 (by kernel_rfl)).1)
   exact Goes.value (v:=.bool b0) (w':=W) (by simp [execOp,go_sem,e7]) ⟨VH.keep hV (Below.refl _ _) 12 (by decide) _,rfl,fun _ _ _ _ h=>h⟩
  | i+11,ho,_=>exact absurd ho (by simp)
 case hspec =>
  intro kk o hkk ho a W vs hV he hd
  obtain rfl:kk=0:=by simp at hkk;omega
  obtain rfl:=Option.some.inj ho
  have hBW:Below W4.heap.size W4 W:=hV
  obtain ⟨y,p,l,k,q,l',k',h8,hy1,hy⟩:∃ y p l k q l' k',vs 8=.pointer (some ⟨y,0,none⟩)∧W4.heap.size≤y∧W.heap[y]?=some (.cells #[.slice p l k,.slice q l' k'] 28):=(hd 8 (by kernel_rfl)).1
  obtain ⟨hv,lv,h6,ht⟩:∃ hv lv,vs 6=.agg #[hv,lv]∧ToldW M F b0 W hv lv:=(hd 6 (by kernel_rfl)).1
  obtain ⟨p1,m1,n1,q1,m1',n1',rfl,rfl⟩:=ht.sl
  have e8:a.tmps[11]?.getD undef=.pointer (some ⟨y,0,none⟩):=(eval_tmp a 11).symm.trans (((hd 8 (by kernel_rfl)).2 11 (by kernel_rfl)).trans h8)
  have e6:a.tmps[43]?.getD undef=.agg #[.slice p1 m1 n1,.slice q1 m1' n1']:=(eval_tmp a 43).symm.trans (((hd 6 (by kernel_rfl)).2 43 (by kernel_rfl)).trans h6)
  have y0:=cell_of_row _ _ 0 _ _ _ hy
  have y1:=cell_of_row _ _ 1 _ _ _ hy
  have z:=fun k=>frozen_of_row W y k _ _ hy
  refine Or.inl ⟨undef,twoPut W y (.slice p1 m1 n1) (.slice q1 m1' n1'),Or.inr ⟨by simp [execOp,go_sem,e8,e6,y0,y1,z,twoPut],rfl⟩,⟨twoPut_below hBW hy1 _ _,y,_,_,hy1,e8,twoPut_box hy _ _,ht.two hy _ _⟩,trivial,fun j x _ _ h=>RH.two hy _ _ _ _ _ _ j x h⟩
 case hend =>
  intro vs W5 hV hRR
  obtain ⟨hB5,y,hv,lv,hyW,e11,hy,hT⟩:=hV
  have e8:vs 8=.pointer (some ⟨y,0,none⟩):=by simpa [putPairs] using e11
  have g10:vs 10=.bool b0:=hRR 10 (by decide)
  obtain ⟨p1,m1,n1,q1,m1',n1',rfl,rfl⟩:=hT.sl
  have hyl:y < W5.heap.size:=(Array.getElem?_eq_some_iff.1 hy).1
  have hlt4:w.heap.size+1 < W4.heap.size:=(Array.getElem?_eq_some_iff.1 H24.out).1
  have hne:w.heap.size+1 ≠ y:=by omega
  have hne2:y ≠ w.heap.size+1:=by omega
  refine hK _ _ ?_
  simp only [putPairs,List.setIfInBounds_toArray,List.set_cons_succ,List.set_cons_zero]
  rw [e8,g10]
  have H25:=hide (belowRow hB5 H24.out)
  have HT5:=hide hT
  have HB5:=hide (below_trans HB4.out hB5)
  have HY:=hide hy
  clear hRR e11 e8 g10 hT hB5 hy HR HV HWD HCR HTB HP HTO4 HFB H14 H24 HB4 HON HG
  have l0:=cell_of_row _ _ 0 _ _ _ HY.out
  have l1':=cell_of_row _ _ 1 _ _ _ HY.out
  have hbd:Below (twoPut W5 (w.heap.size+1) (.slice p1 m1 n1) (.slice q1 m1' n1')).heap.size (twoPut W5 (w.heap.size+1) (.slice p1 m1 n1) (.slice q1 m1' n1')) (twoPut W5 (w.heap.size+1) (.slice p1 m1 n1) (.slice q1 m1' n1')).drew:=Below.drew (Below.refl _ _)
  have HF5:=hide (belowRow hbd (twoPut_box H25.out (.slice p1 m1 n1) (.slice q1 m1' n1')))
  have HE5:=hide (below_trans (twoPut_below HB5.out (show w.heap.size≤w.heap.size+1 by omega) (.slice p1 m1 n1) (.slice q1 m1' n1')) hbd)
  have HU5:=hide ((HT5.out.two H25.out (.slice p1 m1 n1) (.slice q1 m1' n1')).below hbd)
  unfold twoPut at HF5 HE5 HU5
  have HFin:Hid (∀ w',Below w.heap.size w w'→ToldW M F b0 w' (.slice p1 m1 n1) (.slice q1 m1' n1')→HoldsOut 0 M F w w' (.slice p1 m1 n1) (.slice q1 m1' n1') (!b0)):=hide fun w' hb ht=>⟨hb,fun e=>absurd rfl e,fun _=>⟨hb,fun e=>ht.no (by cases b0 <;> simp_all),fun e=>by
   have hb0:b0=false:=by cases b0 <;> simp_all
   obtain ⟨h1,h2⟩:=ht.yes hb0
   refine ⟨h1,h2,fun hs ls hk hg=>?_⟩
   cases hq:valM F hs ls with
   | true=>rfl
   | false =>
    have:=HBB.out.2 ⟨hs,ls,hk,hg,hq⟩
    rw [hb0] at this
    cases this⟩⟩
  clear hbd HB5 HT5 HBB HQ hyW hlt4 HLt
  go_wp2_with (fail)
  refine wp_region_orders [[0,1,2,3,4,5],[0,1,3,2,4,5],[0,2,1,3,4,5],[2,0,1,3,4,5]] (by kernel_rfl) (by kernel_rfl) ?_
  simp only [List.forall_mem_cons,List.filterMap_cons,List.filterMap_nil,List.getElem?_cons_succ,List.getElem?_cons_zero,List.not_mem_nil,false_implies,implies_true,and_true]
  refine ⟨?_,?_,?_,?_⟩
  all_goals
   have s0:=cell_of_row _ _ 0 _ _ _ H25.out
   have s1:=cell_of_row _ _ 1 _ _ _ H25.out
   have z0:=frozen_of_row _ _ 0 _ _ H25.out
   have z1:=frozen_of_row _ _ 1 _ _ H25.out
   go_wp2
   generalize ((W5.setCell ⟨w.heap.size+1,0,none⟩ (.slice p1 m1 n1)).setCell ⟨w.heap.size+1,1,none⟩ (.slice q1 m1' n1')).drew=W6 at *
   have f0:=cell_of_row _ _ 0 _ _ _ HF5.out
   have f1:=cell_of_row _ _ 1 _ _ _ HF5.out
   exact bodyPost_ret (v:=.tuple #[.bool (!b0),.agg #[.slice p1 m1 n1,.slice q1 m1' n1'],.int .i64 0]) (by simp [results,Tryz.results36,go_sem,f0,f1]) rfl ⟨_,_,!b0,by rw [HX.out],by rw [HX.out];exact HFin.out _ HE5.out HU5.out⟩
end Go.Proofs.YtpiacnnifdjlkabGreatDoor
namespace Go.Proofs
open Go.Shelf
def YtpiacnnifdjlkabGreatDoor.laysHasPrefix_ren:Go.Shelf.Ren:=⟨fun | 99=>188 | 206=>221 | n=>n,fun | 9=>9 | 4=>4 | 3=>3 | n=>n,fun | n=>n⟩
theorem YtpiacnnifdjlkabGreatDoor.laysHasPrefix:Go.Proofs.Lays.n99 Tryz.prog YtpiacnnifdjlkabGreatDoor.laysHasPrefix_ren:={
 mixed:=by kernel_rfl
 f99:=Tryz.func188.trans (congrArg some (by kernel_rfl))
 f206:=Tryz.func221.trans (congrArg some (by kernel_rfl))
 t3:=Tryz.underlying3
 a3:=Tryz.isAgg3
 z3:=Tryz.sizeOf3
 v3:=Tryz.zeroValue3
 t4:=Tryz.underlying4
 a4:=Tryz.isAgg4
 z4:=Tryz.sizeOf4
 v4:=Tryz.zeroValue4
 t9:=Tryz.underlying9
 a9:=Tryz.isAgg9
 z9:=Tryz.sizeOf9
 v9:=Tryz.zeroValue9 }
end Go.Proofs
namespace Go.Proofs.YtpiacnnifdjlkabGreatDoor
open Go.RowKit Go.Sort Go.Shelf
theorem hasPrefix_any (s p:ByteArray) (w:World) :
  Calls Tryz.prog 188 #[.string s,.string p] w fun e w'=>e=.returned (.bool (Lib.hasPrefix s.data.toList p.data.toList))∧w'=w:=
 Any.strings_HasPrefix laysHasPrefix s p w
theorem box_cell {w:World}{k i:Nat}{cs:Array Value}{t:TypeId}{fz:Nat × Nat}{v:Value} (hk:w.heap[k]?=some (.cells cs t fz)) (hi:cs[i]?=some v):w.cell? ⟨k,i,none⟩=some v:=by
 simp only [World.cell?,hk]
 exact hi
theorem step_callG {ops:Array Oper}{o:Oper}{a:Act}{K:Act→World→Prop}{Q:Exit→Act→World→Prop}{E:Prop}{w:World} (hgd:o.guard=none) (f:Nat) (args:List Operand) (tys:Array TypeId)
  (ho:o.op=.call { callee:=.value (.func f),args:=args.toArray,argTypes:=tys }) (hf:∀ args w,(callFunc f args).run Tryz.prog w=.ok (.enter f args) w)
  (h:Calls Tryz.prog f (args.map a.eval).toArray w fun e w'=>∃ v,e=.returned v∧K (a.put o.dst v) w') :
  if Region.wanted o (yielded ops a.tmps)=true then Oper.wp Tryz.prog o a w K Q else E:=by
 have hw:Region.wanted o (yielded ops a.tmps)=true:=by simp [Region.wanted,hgd]
 rw [if_pos hw]
 have hrun:(execOp a.eval o).run Tryz.prog w=.ok (.enter f (args.map a.eval).toArray) w:=by
  unfold execOp
  simp only [ho,resolve,Deferred.ofValue,invoke,Sem.run_bind,Sem.run_pure,Result.andThen_ok,List.map_toArray,Act.eval,Array.empty_append,Array.append_empty,hf]
 unfold Oper.wp
 rw [hrun,Oper.upon_enter]
 exact h.mono fun e w' ⟨v,he,hk⟩=>by subst he;exact hk
end Go.Proofs.YtpiacnnifdjlkabGreatDoor
namespace Go.Proofs.YtpiacnnifdjlkabGreatDoor
open Go.RowKit Go.Sort
structure RD (w:World) (rb r base:Nat) (T:List UInt8) (at_:Nat) (a:Option Addr) (c:Nat) (out:List Nd):Prop where
 c0:w.cell? ⟨rb,0,none⟩=some (.map (some r))
 c1:w.cell? ⟨rb,1,none⟩=some (.string ⟨T.toArray⟩)
 c2:w.cell? ⟨rb,2,none⟩=some (.int .i64 at_)
 c3:w.cell? ⟨rb,3,none⟩=some (.slice a out.length c)
 soft:∀ o,w.frozen? ⟨rb,o,none⟩=false
 sg:SgMap w r
 own:w.ownsRow base 55 4 (.slice a out.length c) out.length (ndCells out)
 hb:base≤w.heap.size
 lt1:rb < base
 lt2:r < base
 ne2:r ≠ rb
theorem RD.below {w w':World}{rb r base:Nat}{T:List UInt8}{at_:Nat}{a:Option Addr}{c:Nat}{out:List Nd} (h:RD w rb r base T at_ a c out) (hb:Below w.heap.size w w'):RD w' rb r base T at_ a c out:=
 ⟨cell_keep h.c0 hb,cell_keep h.c1 hb,cell_keep h.c2 hb,cell_keep h.c3 hb,fun o=>(hb.frozen (p:=⟨rb,o,none⟩) (Nat.lt_of_lt_of_le h.lt1 h.hb)).trans (h.soft o),h.sg.below hb,
  h.own.kept (row:=none) ⟨hb.os,hb.tape,hb.output,hb.size,fun k hk _=>hb.block k hk⟩ (by cases hv:(Value.slice a out.length c).ownBlock <;> simp),Nat.le_trans h.hb hb.size,h.lt1,h.lt2,h.ne2⟩
theorem RD.row_ne {w:World}{rb r base:Nat}{T:List UInt8}{at_:Nat}{a:Option Addr}{c:Nat}{out:List Nd} (h:RD w rb r base T at_ a c out) (k:Nat) (hk:k < base):some k ≠ (Value.slice a out.length c).ownBlock:=fun e=>by
 have:=(h.own.lt k e.symm).1
 omega
theorem RD.fresh {w:World}{rb r base:Nat}{T:List UInt8}{at_:Nat}{a:Option Addr}{c:Nat}{out:List Nd} (h:RD w rb r base T at_ a c out) (j:Nat) (hj:w.heap.size≤j):some j ≠ rowOf a∧j ≠ rb:=by
 refine ⟨fun e=>?_,?_⟩
 ·rw [← row_eq a out.length c] at e
  have:=(h.own.lt _ e.symm).2
  omega
 ·have:=h.lt1
  have:=h.hb
  omega
theorem RD.lt {w:World}{rb r base:Nat}{T:List UInt8}{at_:Nat}{a:Option Addr}{c:Nat}{out:List Nd} (h:RD w rb r base T at_ a c out):rb < w.heap.size:=Nat.lt_of_lt_of_le h.lt1 h.hb
theorem RD.move {w:World}{rb r base:Nat}{T:List UInt8}{at_:Nat}{a:Option Addr}{c:Nat}{out:List Nd} (h:RD w rb r base T at_ a c out) (at':Nat):RD (w.setCell ⟨rb,2,none⟩ (.int .i64 at')) rb r base T at' a c out:=by
 refine ⟨cell_set_off (by decide) h.c0,cell_set_off (by decide) h.c1,cell_set_eq h.c2,cell_set_off (by decide) h.c3,fun o=>by rw [World.frozen?_setCell];exact h.soft o,(set_far w _ _ r h.ne2).trans h.sg,?_,by simp only [World.setCell,Array.size_modify];exact h.hb,h.lt1,h.lt2,h.ne2⟩
 refine h.own.kept (row:=some rb) ⟨rfl,rfl,rfl,by simp [World.setCell],fun k hk hne=>set_far w _ _ k (fun e=>hne (by rw [e]))⟩ ?_
 cases hv:(Value.slice a out.length c).ownBlock with
 | none=>simp
 | some g =>
  right
  intro e
  have:=(h.own.lt g hv).1
  have:=h.lt1
  injection e with e
  omega
theorem GTf.own {rb:Nat}{row:Option Nat}{w w':World} (h:GTf rb row w w') (o:Nat) (v:Value):GTf rb row w (w'.setCell ⟨rb,o,none⟩ v):=
 ⟨h.os,h.tape,h.output,by simp only [World.setCell,Array.size_modify];exact h.size,fun k hk h1 h2=>(set_far w' _ _ k h1).trans (h.block k hk h1 h2)⟩
theorem RD.grown {w w1:World}{rb r base:Nat}{T:List UInt8}{at_:Nat}{a:Option Addr}{c:Nat}{out:List Nd} (h:RD w rb r base T at_ a c out) (x:Nd) {g cap:Nat} (ho:w1.ownsRow base 55 4 (.slice (some ⟨g,0,none⟩) (out.length+1) cap) (out.length+1) (ndCells out ++ [.int .i64 x.k,.int .i64 x.a,.int .i64 x.b,.int .i64 x.n])) (hg:w.grownBy w1 (Value.slice a out.length c).ownBlock) :
  RD (w1.setCell ⟨rb,3,none⟩ (.slice (some ⟨g,0,none⟩) (out.length+1) cap)) rb r base T at_ (some ⟨g,0,none⟩) cap (out ++ [x])∧GTf rb (Value.slice a out.length c).ownBlock w (w1.setCell ⟨rb,3,none⟩ (.slice (some ⟨g,0,none⟩) (out.length+1) cap)):=by
 have hlen:(out ++ [x]).length=out.length+1:=by simp
 have htb:=h.lt
 have hrl:=h.sg.lt
 have n1:=h.row_ne rb h.lt1
 have n2:=h.row_ne r h.lt2
 have hgb:=(ho.lt g rfl).1
 have hl1:=h.lt1
 have hblk:∀ k,k < w.heap.size→k ≠ rb→some k ≠ (Value.slice a out.length c).ownBlock→(w1.setCell ⟨rb,3,none⟩ (.slice (some ⟨g,0,none⟩) (out.length+1) cap)).heap[k]?=w.heap[k]?:=fun k hk h1 h2=>(set_far w1 _ _ k h1).trans (hg.block k hk h2)
 refine ⟨⟨cell_set_off (by decide) (grown_cell hg h.c0 n1),cell_set_off (by decide) (grown_cell hg h.c1 n1),cell_set_off (by decide) (grown_cell hg h.c2 n1),by rw [hlen];exact cell_set_eq (grown_cell hg h.c3 n1),fun o=>by rw [World.frozen?_setCell];exact grown_frozen hg htb n1 (h.soft o),(hblk r hrl h.ne2 n2).trans h.sg,?_,?_,h.lt1,h.lt2,h.ne2⟩,⟨hg.os,hg.tape,hg.output,by simpa [World.setCell] using hg.size,hblk⟩⟩
 ·rw [hlen,ndCells_snoc]
  refine ho.kept (row:=some rb) ⟨rfl,rfl,rfl,by simp [World.setCell],fun k hk hne=>set_far w1 _ _ k (fun e=>hne (by rw [e]))⟩ (Or.inr ?_)
  intro e
  have:g=rb:=by simpa [Value.ownBlock] using e
  omega
 ·have:=hg.size
  have:=h.hb
  simp only [World.setCell,Array.size_modify]
  omega
structure RS (w w':World) (rb r base:Nat) (T:List UInt8) (at':Nat) (a a':Option Addr) (c':Nat) (out':List Nd):Prop where
 rd:RD w' rb r base T at' a' c' out'
 gt:GTf rb (rowOf a) w w'
 new:RowNew w (rowOf a) (rowOf a')
theorem RS.refl {w:World}{rb r base:Nat}{T:List UInt8}{at_:Nat}{a:Option Addr}{c:Nat}{out:List Nd} (h:RD w rb r base T at_ a c out):RS w w rb r base T at_ a a c out:=⟨h,GTf.refl _ _ _,Or.inl rfl⟩
theorem RS.of_below {w w':World}{rb r base:Nat}{T:List UInt8}{at_:Nat}{a:Option Addr}{c:Nat}{out:List Nd} (h:RD w rb r base T at_ a c out) (hb:Below w.heap.size w w'):RS w w' rb r base T at_ a a c out:=⟨h.below hb,GTf.of_below hb,Or.inl rfl⟩
theorem RS.trans {w w1 w2:World}{rb r base:Nat}{T:List UInt8}{at1 at2:Nat}{a a1 a2:Option Addr}{c1 c2:Nat}{o1 o2:List Nd} (h:RS w w1 rb r base T at1 a a1 c1 o1) (k:RS w1 w2 rb r base T at2 a1 a2 c2 o2):RS w w2 rb r base T at2 a a2 c2 o2:=
 ⟨k.rd,GTf.trans h.gt k.gt h.new,RowNew.trans h.new h.gt.size k.new⟩
theorem RS.move {w w1:World}{rb r base:Nat}{T:List UInt8}{at1:Nat}{a a1:Option Addr}{c1:Nat}{o1:List Nd} (h:RS w w1 rb r base T at1 a a1 c1 o1) (at':Nat):RS w (w1.setCell ⟨rb,2,none⟩ (.int .i64 at')) rb r base T at' a a1 c1 o1:=
 ⟨h.rd.move at',h.gt.own 2 _,h.new⟩
theorem growR {w:World}{rb r base:Nat}{T:List UInt8}{at_:Nat}{a:Option Addr}{c:Nat}{out:List Nd} (h:RD w rb r base T at_ a c out) (x:Nd) (hn:out.length≤900000) :
  Calls Tryz.prog 112 #[.pointer (some ⟨rb,3,none⟩),.agg #[.int .i64 x.k,.int .i64 x.a,.int .i64 x.b,.int .i64 x.n]] w fun e w'=>e=.returned (.int .i64 out.length)∧∃ a' c',RS w w' rb r base T at_ a a' c' (out ++ [x]):=by
 refine (grow_any x h.c3 (h.soft 3) h.own (fun g hg e=>by have:=(h.own.lt g hg).1;have:=h.lt1;omega) hn h.hb).mono ?_
 rintro e w' ⟨rfl,g,cap,w1,rfl,ho,hg,hd⟩
 obtain ⟨h1,h2⟩:=h.grown x ho hg
 rw [row_eq] at h2 hd
 refine ⟨rfl,some ⟨g,0,none⟩,cap,h1,h2,?_⟩
 rcases hd with hd | hd
 ·left;rw [hd];rfl
 ·right
  intro k hk
  have:g=k:=by simpa [rowOf,Value.ownBlock] using hk
  omega
theorem run_byte (w:World) (l:List UInt8) (i:Nat) (z:Int) (b:UInt8) (hz:z=i) (h:l[i]?=some b):(Instr.index 9 (.string ⟨l.toArray⟩) (.int .i64 z)).run Tryz.prog w=.ok (.int .u8 (b.toNat:Int)) w:=by
 subst hz
 obtain ⟨hl,he⟩:=List.getElem?_eq_some_iff.1 h
 have hsz:(⟨l.toArray⟩:ByteArray).size=l.length:=by simp [ByteArray.size]
 rw [run_index_string (P:=Tryz.prog) w 9 ⟨l.toArray⟩ .i64 i Tryz.underlying9,dif_pos ⟨by omega,by rw [hsz];omega⟩]
 have:(⟨l.toArray⟩:ByteArray)[((i:Nat):Int).toNat]'(by rw [hsz];simpa using hl)=b:=by
  rw [← he]
  rfl
 rw [this]
theorem RS.drewN {w w1:World}{rb r base:Nat}{T:List UInt8}{at1:Nat}{a a1:Option Addr}{c1:Nat}{o1:List Nd} (h:RS w w1 rb r base T at1 a a1 c1 o1) (n:Nat):RS w (w1.drewN n) rb r base T at1 a a1 c1 o1:=
 RS.trans h (RS.of_below h.rd (below_drewN (Below.refl _ _) n))
theorem expect_ok {w:World}{rb r base:Nat}{T:List UInt8}{at_:Nat}{a:Option Addr}{c:Nat}{out:List Nd} (h:RD w rb r base T at_ a c out) (t:List UInt8) (hs:∀ j,j < t.length→∃ b,T[at_+j]?=some b∧t[j]?=some b) (hT:T.length≤2000) (ht:t.length≤2000) :
  Calls Tryz.prog 222 #[.pointer (some ⟨rb,0,none⟩),.string ⟨t.toArray⟩] w fun e w'=>e=.returned (.tuple #[])∧RS w w' rb r base T (at_+t.length) a a c out:=by
 have H:=hide h
 have HS:=hide hs
 clear h hs
 have hsz:(⟨t.toArray⟩:ByteArray).size=t.length:=by simp [ByteArray.size]
 have hsT:(⟨T.toArray⟩:ByteArray).size=T.length:=by simp [ByteArray.size]
 go_enter Tryz.func222,Tryz.ntmps222
 go_wp2_with (fail)
 go_loopw [7] (fun iv wr=>∃ j:Nat,j≤t.length∧iv=.int .i64 j∧Hid (RS w wr rb r base T (at_+j) a a c out)) (fun iv _=>t.length - (intOf iv).toNat)
 case atStart=>exact ⟨0,Nat.zero_le _,rfl,hide (RS.refl H.out)⟩
 case round =>
  obtain ⟨j,hj,rfl,hrs⟩:=hrel
  by_cases hlt:j < t.length
  ·obtain ⟨b,hb1,hb2⟩:=HS.out j hlt
   have hal:at_+j < T.length:=(List.getElem?_eq_some_iff.1 hb1).1
   have k1:=hrs.out.rd.c1
   have k2:=hrs.out.rd.c2
   have k3:=hrs.out.rd.soft 2
   have HRS:=hide hrs.out
   have HE:=hide (show at_+j+1=at_+(j+1) by omega)
   generalize at_+j=p at *
   have hd:((p:Int) == (T.length:Int))=false:=by rw [beq_eq_false_iff_ne];omega
   have i1:=fun W=>run_byte W T p (p:Int) b rfl hb1
   have i2:=fun W=>run_byte W t j (j:Int) b rfl hb2
   have bb:((b.toNat:Int) != (b.toNat:Int))=false:=by simp
   clear hb1 hb2 hrs
   go_wp2_with (fail)
   (refine wp_region_quiet_lit (by kernel_rfl) (by kernel_rfl) ?_;(repeat (go_big_quiet_step (fail)));refine wpQuiet_nil ?_;intro _ hw';obtain ⟨nq,hw''⟩:=hw';subst hw'')
   go_wp2_with (fail)
   refine ⟨⟨j+1,by omega,by go_num,hide ?_⟩,by simp [intOf];omega⟩
   have:=(HRS.out.drewN nq).move (p+1)
   have e:((p+1:Nat):Int)=(p:Int)+1:=by omega
   rw [e] at this
   rw [← HE.out]
   exact this
  ·have hjt:t.length=j:=by omega
   have HR:=hide hrs.out
   clear hrs
   go_wp2_with (fail)
   go_end0
   exact ⟨rfl,by rw [hjt];exact HR.out⟩
def digB (b:UInt8):Bool:=decide (48≤b.toNat) && decide (b.toNat≤57)
theorem isDigit_any (b:UInt8) (w:World) :
  Calls Tryz.prog 224 #[.int .u8 (b.toNat:Int)] w fun e w'=>e=.returned (.bool (digB b))∧w'=w:=by
 unfold digB
 by_cases h1:48≤b.toNat
 ·have h1':(48:Int)≤(b.toNat:Int):=by omega
  by_cases h2:b.toNat≤57
  ·have h2':(b.toNat:Int)≤57:=by omega
   rw [decide_eq_true h1,decide_eq_true h2]
   clear h1 h2
   generalize (b.toNat:Int)=z at *
   go_enter Tryz.func224,Tryz.ntmps224
   go_wp2
   go_ret
   exact ⟨rfl,rfl⟩
  ·have h2':(57:Int) < (b.toNat:Int):=by omega
   rw [decide_eq_true h1,decide_eq_false h2]
   clear h1 h2
   generalize (b.toNat:Int)=z at *
   go_enter Tryz.func224,Tryz.ntmps224
   go_wp2
   go_ret
   have e57:decide (z≤57)=false:=decide_eq_false (by omega)
   exact ⟨by simp [e57],rfl⟩
 ·have h1':(b.toNat:Int) < 48:=by omega
  rw [decide_eq_false h1,Bool.false_and]
  clear h1
  generalize (b.toNat:Int)=z at *
  go_enter Tryz.func224,Tryz.ntmps224
  go_wp2
  go_ret
  exact ⟨rfl,rfl⟩
theorem RS.drew {w w1:World}{rb r base:Nat}{T:List UInt8}{at1:Nat}{a a1:Option Addr}{c1:Nat}{o1:List Nd} (h:RS w w1 rb r base T at1 a a1 c1 o1):RS w w1.drew rb r base T at1 a a1 c1 o1:=
 RS.trans h (RS.of_below h.rd (Below.drew (Below.refl _ _)))
theorem number_ok {w:World}{rb r base:Nat}{T:List UInt8}{at_:Nat}{a:Option Addr}{c:Nat}{out:List Nd} (h:RD w rb r base T at_ a c out) (d:UInt8) (hd:48≤d.toNat∧d.toNat≤50) (hs:T[at_]?=some d) (hn:∀ b,T[at_+1]?=some b→digB b=false) (hT:T.length≤2000) :
  Calls Tryz.prog 192 #[.pointer (some ⟨rb,0,none⟩)] w fun e w'=>e=.returned (.int .i64 ((d.toNat:Int) - 48))∧RS w w' rb r base T (at_+1) a a c out:=by
 have H:=hide h
 have HN:=hide hn
 clear hn
 have k1:=h.c1
 have k2:=h.c2
 have k3:=h.soft 2
 have hal:at_ < T.length:=(List.getElem?_eq_some_iff.1 hs).1
 have i1:=fun W=>run_byte W T at_ (at_:Int) d rfl hs
 have hdig:digB d=true:=by unfold digB;simp;omega
 have HD:=hide (fun W=>hdig ▸ isDigit_any d W)
 have hlt:(at_:Int) < (T.length:Int):=by omega
 have hdd:(48:Int)≤(d.toNat:Int)∧(d.toNat:Int)≤50:=by omega
 clear h hs hdig hd
 go_enter Tryz.func192,Tryz.ntmps192
 go_wp2_with (fail)
 refine wp_loop_rounds 2 ?_
 rw [rounds_succ]
 go_wp2_with (fail)
 refine wp_region_quiet_lit (by kernel_rfl) (by kernel_rfl) ?_
 (repeat (go_big_quiet_step ((refine Calls.quiet_of_same (HD.out _)))))
 refine wpQuiet_nil ?_
 intro _ hw'
 obtain ⟨nq,hw''⟩:=hw'
 subst hw''
 have HR:=hide ((RS.refl H.out).drewN nq)
 have k1:=HR.out.rd.c1
 have k2:=HR.out.rd.c2
 have k3:=HR.out.rd.soft 2
 generalize w.drewN nq=wq at *
 go_wp2_with (fail)
 go_region
 go_wp2_with (fail)
 rw [rounds_succ]
 go_wp2_with (fail)
 have hmin:min ((d.toNat:Int) - 48) 3=(d.toNat:Int) - 48:=by omega
 have e1:(at_:Int)+1=((at_+1:Nat):Int):=by omega
 rw [hmin,e1]
 have HR2:=hide ((HR.out.move (at_+1)).drew)
 have HP1:=hide (show at_+1≤T.length by omega)
 have hne:(((at_+1:Nat):Int) == (at_:Int))=false:=by rw [beq_eq_false_iff_ne];omega
 have k1:=HR2.out.rd.c1
 have k2:=HR2.out.rd.c2
 clear hmin e1 hdd
 generalize hpe:at_+1=p at *
 have HPE:=hide hpe
 clear hpe
 generalize (wq.setCell ⟨rb,2,none⟩ (.int .i64 (p:Int))).drew=w3 at *
 generalize hdz:(d.toNat:Int) - 48=dz at *
 have HDZ:=hide hdz
 clear hdz
 clear HD i1 hal hlt k3 HR
 by_cases hpl:p < T.length
 ·obtain ⟨b,hb⟩:∃ b,T[p]?=some b:=⟨_,List.getElem?_eq_getElem hpl⟩
  have i1:=fun W=>run_byte W T p (p:Int) b rfl hb
  have HD:=hide (fun W=>HN.out b hb ▸ isDigit_any b W)
  have hlt:(p:Int) < (T.length:Int):=by omega
  clear hb HN
  refine wp_region_quiet_lit (by kernel_rfl) (by kernel_rfl) ?_
  (repeat (go_big_quiet_step ((refine Calls.quiet_of_same (HD.out _)))))
  refine wpQuiet_nil ?_
  intro _ hw'
  obtain ⟨nq2,hw''⟩:=hw'
  subst hw''
  have HR4:=hide (HR2.out.drewN nq2)
  have k1:=HR4.out.rd.c1
  have k2:=HR4.out.rd.c2
  generalize w3.drewN nq2=w4 at *
  go_wp2_with (fail)
  go_ret
  exact ⟨by rw [HDZ.out];rfl,by rw [HPE.out];exact HR4.out⟩
 ·have hlt:((p:Int) < (T.length:Int))=False:=by simp;omega
  have hlt2:decide ((p:Int) < (T.length:Int))=false:=by simp;omega
  clear HN
  refine wp_region_quiet_lit (by kernel_rfl) (by kernel_rfl) ?_
  (repeat (go_big_quiet_step (fail)))
  refine wpQuiet_nil ?_
  intro _ hw'
  obtain ⟨nq2,hw''⟩:=hw'
  subst hw''
  have HR4:=hide (HR2.out.drewN nq2)
  have k1:=HR4.out.rd.c1
  have k2:=HR4.out.rd.c2
  generalize w3.drewN nq2=w4 at *
  go_wp2_with (fail)
  go_ret
  exact ⟨by rw [HDZ.out];rfl,by rw [HPE.out];exact HR4.out⟩
end Go.Proofs.YtpiacnnifdjlkabGreatDoor
