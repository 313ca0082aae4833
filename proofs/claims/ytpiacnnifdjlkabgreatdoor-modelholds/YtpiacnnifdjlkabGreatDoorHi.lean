import Derived.Test.YtpiacnnifdjlkabGreatDoorYl
import Derived.Test.YtpiacnnifdjlkabGreatDoorCx
import Derived.Test.YtpiacnnifdjlkabGreatDoorYa
import Derived.SizedLaws
import Derived.Deep.Slices
import Derived.Test.YtpiacnnifdjlkabGreatDoorGg
import Derived.Test.YtpiacnnifdjlkabGreatDoorEg
set_option maxRecDepth 100000
set_option maxHeartbeats 8000000
namespace Go.Proofs.YtpiacnnifdjlkabGreatDoor
open Go.RowKit Go.Sort
theorem valM_valU {F:List Nd} (hc:chkF F=0) {hs ls:List Int} (hk:chk hs ls 8=0):valM F hs ls=valU F hs ls 0 (F.length - 1):=by
 obtain ⟨h1,_,h3⟩:=chkF_ok hc
 obtain ⟨_,_,hp,_⟩:=chk_ok hk
 unfold valM tabF valU
 rw [tab_vF _ _ _ _ _ _ _ (by omega) (by omega),plc_small (by omega)]
 rfl
theorem prop_val {F:List Nd} (hc:chkF F=0) (h0:F.getD 0 nd0=⟨2,0,0,0⟩) {hs ls:List Int} (hk:chk hs ls 8=0) {t:Nat} (hu:lat hs ls t=1):valU F hs ls t 0=true:=by
 obtain ⟨h1,_,h3⟩:=chkF_ok hc
 obtain ⟨_,_,hp,_⟩:=chk_ok hk
 have hl:=valU_loc h3 hp (fun t=>(lat_few hk t).1) t 0 h1
 rw [hl,h0,hu]
 rfl
theorem small_prop {hs ls:List Int} (hk:chk hs ls 8=0) (hg:goesM smallM (lat hs ls) (farM smallM hs ls)):valM propF hs ls=true:=by
 obtain ⟨_,_,hp,_⟩:=chk_ok hk
 have hc:chkF propF=0:=by decide +kernel
 rw [valM_valU hc hk]
 exact prop_val hc rfl hk (small_goes hg (by show 0 < hs.length+(1+1) * ls.length;omega))
theorem small_next {hs ls:List Int} (hk:chk hs ls 8=0) (hg:goesM smallM (lat hs ls) (farM smallM hs ls)):valM nextP hs ls=true:=by
 obtain ⟨_,_,hp,_⟩:=chk_ok hk
 have hc:chkF nextP=0:=by decide +kernel
 obtain ⟨h1,_,h3⟩:=chkF_ok hc
 rw [valM_valU hc hk,valU_loc h3 hp (fun t=>(lat_few hk t).1) 0 _ (by decide)]
 show valU nextP hs ls 1 0=true
 exact prop_val hc rfl hk (small_goes hg (by show 1 < hs.length+(1+1) * ls.length;omega))
theorem chkH_small {F:List Nd} (h:chkNeg F=0):chkH smallM F=0:=by unfold chkH;rw [small_chk,if_pos rfl,h]
theorem ok_prop {w w':World}{hv lv:Value}{ok:Bool} (h:HoldsMade smallM propF w w' hv lv ok):ok=true:=by
 cases ok with
 | true=>rfl
 | false =>
  obtain ⟨us,vs,_,_,hk,hg,hv⟩:=h.no rfl
  rw [small_prop hk hg] at hv
  cases hv
theorem ok_next {w w':World}{hv lv:Value}{ok:Bool} (h:HoldsMade smallM nextP w w' hv lv ok):ok=true:=by
 cases ok with
 | true=>rfl
 | false =>
  obtain ⟨us,vs,_,_,hk,hg,hv⟩:=h.no rfl
  rw [small_next hk hg] at hv
  cases hv
theorem not_ones:valM notF [] [1]=false:=by decide +kernel
theorem ok_not {w w':World}{hv lv:Value}{ok:Bool} (h:HoldsMade smallM notF w w' hv lv ok):ok=false∧(∃ p l k,hv=.slice p l k)∧∃ p l k,lv=.slice p l k∧0 < l:=by
 cases ok with
 | true =>
  have:=(h.yes rfl).2.2 [] [1] (by decide) small_ones
  rw [not_ones] at this
  cases this
 | false =>
  obtain ⟨us,vs,h1,h2,hk,_,_⟩:=h.no rfl
  obtain ⟨_,_,hp,_⟩:=chk_ok hk
  obtain ⟨p,c,e1,-⟩:=h1
  obtain ⟨q,c',e2,-⟩:=h2
  exact ⟨rfl,⟨p,_,c,e1⟩,q,_,c',e2,hp⟩
theorem node_next:NodeAt [88,112,48] 0 [88,112,48].length (gOne 6 (fun _=>[⟨2,0,0,0⟩])):=
 node_one 6 (Or.inr rfl) rfl (node_prop 48 (by decide) rfl rfl (fun b hb=>by simp at hb) (by decide)) (by decide)
theorem askSmall_any {w:World}{v:Value} (hV:MdV w v smallM) :
  Calls Tryz.prog 41 #[v,.string ⟨#[88,112,48]⟩] w fun e w'=>e=.returned (.tuple #[.string ⟨#[104,111,108,100,115,10]⟩,.int .i64 0])∧Below w.heap.size w w':=by
 have HV:=hide hV
 have HCH:=hide (fun (W:World) (hb:Below w.heap.size w W)=>mCheck_any (HV.out.below hb))
 rw [small_chk] at HCH
 have HP:Hid (∀ W,Calls Tryz.prog 53 #[.string ⟨#[88,112,48]⟩] W fun e w'=>∃ v,e=.returned (.tuple #[v,.int .i64 0,.int .i64 0])∧NodeSl w' v nextP∧Below W.heap.size W w'):=hide fun W=>parse_ok (T:=[88,112,48]) node_next (by decide) (by decide) (by decide +kernel) W
 have HH:Hid (∀ W gv,Below w.heap.size w W→NodeSl W gv nextP→Calls Tryz.prog 36 #[v,gv] W fun e w'=>∃ p l k q l' k',e=.returned (.tuple #[.bool true,.agg #[.slice p l k,.slice q l' k'],.int .i64 0])∧Below W.heap.size W w'):=hide fun W gv hb hg=>by
  refine (mHolds_any (HV.out.below hb) hg (by decide) (fun r hr=>by simp [smallM] at hr;rw [hr];decide)).mono ?_
  rintro e w' ⟨hv,lv,ok,rfl,ho⟩
  rw [chkH_small next_chk] at ho ⊢
  have hm:=ho.good rfl
  obtain rfl:=ok_next hm
  obtain ⟨rfl,rfl,_⟩:=hm.yes rfl
  exact ⟨none,0,0,none,0,0,rfl,ho.bl⟩
 obtain ⟨lv,fv,sv,rfl,hL,hF',hS⟩:=hV
 obtain ⟨la,lc,rfl,-⟩:=hL
 obtain ⟨fa,fc,rfl,-⟩:=hF'
 obtain ⟨sa,sc,rfl,-⟩:=hS
 have e1:smallM.props=1:=rfl
 have e2:smallM.labels.length=1:=rfl
 have e3:smallM.first.length=1:=rfl
 have e4:smallM.steps.length=1:=rfl
 rw [e1,e2,e3,e4] at *
 clear e1 e2 e3 e4
 have hb0:=below_new w (Obj.cells #[.int .i64 1,.slice la 1 lc,.slice fa 1 fc,.slice sa 1 sc] 59)
 have hn1:=one_new w (Obj.cells #[.int .i64 1,.slice la 1 lc,.slice fa 1 fc,.slice sa 1 sc] 59)
 have HB0:=hide hb0
 have H1:=hide hn1
 have HLd:=hide (model_load hn1)
 clear hb0 hn1
 go_enter Tryz.func41,Tryz.ntmps41
 go_wp2_with (first | (show wpList _ _ _ (⟨some 12,_,_,_,_,_⟩ :: _) _ _;refine wpl_loadM HLd.out rfl rfl rfl ?_))
 generalize w.alloc (Obj.cells #[.int .i64 1,.slice la 1 lc,.slice fa 1 fc,.slice sa 1 sc] 59)=W0 at *
 go_fit (HCH.out W0 HB0.out)
 rintro e w1 ⟨rfl,hb1⟩
 have HB1:=hide (below_trans HB0.out hb1)
 have H1':=hide (belowRow hb1 H1.out)
 clear hb1 H1 HLd HCH HB0
 go_wp2_with (fail)
 go_fit (HP.out w1)
 rintro e w2 ⟨gv,rfl,hg,hb2⟩
 have HB2:=hide (below_trans HB1.out hb2)
 have H12:=hide (belowRow hb2 H1'.out)
 have HN:=hide (HH.out w2 gv HB2.out hg)
 have HLd:=hide (model_load H12.out)
 obtain ⟨ga,gc,rfl,-⟩:=hg
 have e5:nextP.length=2:=rfl
 rw [e5] at *
 clear hb2 H1' HB1 HP HH e5
 go_wp2_with (first | (show wpList _ _ _ (⟨some 30,_,_,_,_,_⟩ :: _) _ _;refine wpl_loadM HLd.out rfl rfl rfl ?_))
 go_fit HN.out
 rintro e w3 ⟨p,l,k,q,l',k',rfl,hb3⟩
 have HB3:=hide (below_trans HB2.out hb3)
 clear hb3 HN HLd H12 HB2
 go_wp2
 exact bodyPost_ret (v:=.tuple #[.string ⟨#[104,111,108,100,115,10]⟩,.int .i64 0]) (by simp [results,Tryz.results41,go_sem]) rfl ⟨rfl,below_trans HB3.out (below_new _ _)⟩
theorem nodeSl_prop {w:World}{g:Nat} (h:w.heap[g]?=some (.cells #[.int .i64 2,.int .i64 0,.int .i64 0,.int .i64 0] 55)):NodeSl w (.slice (some ⟨g,0,none⟩) 1 1) propF:=by
 refine ⟨_,_,rfl,by decide,Or.inr ⟨g,0,rfl,fun i hi=>?_⟩,(fun h=>by cases h),by decide⟩
 obtain rfl:i=0:=by simp [propF] at hi;omega
 exact ⟨cell_of_row _ _ 0 _ _ _ h,cell_of_row _ _ 1 _ _ _ h,cell_of_row _ _ 2 _ _ _ h,cell_of_row _ _ 3 _ _ _ h⟩
theorem nodeSl_not {w:World}{g:Nat} (h:w.heap[g]?=some (.cells #[.int .i64 2,.int .i64 0,.int .i64 0,.int .i64 0,.int .i64 3,.int .i64 0,.int .i64 0,.int .i64 0] 55)):NodeSl w (.slice (some ⟨g,0,none⟩) 2 2) notF:=by
 refine ⟨_,_,rfl,by decide,Or.inr ⟨g,0,rfl,fun i hi=>?_⟩,(fun h=>by cases h),by decide⟩
 have h2:i=0 ∨ i=1:=by simp [notF] at hi;omega
 rcases h2 with rfl | rfl
 ·exact ⟨cell_of_row _ _ 0 _ _ _ h,cell_of_row _ _ 1 _ _ _ h,cell_of_row _ _ 2 _ _ _ h,cell_of_row _ _ 3 _ _ _ h⟩
 ·exact ⟨cell_of_row _ _ 4 _ _ _ h,cell_of_row _ _ 5 _ _ _ h,cell_of_row _ _ 6 _ _ _ h,cell_of_row _ _ 7 _ _ _ h⟩
theorem modelBegun_any (w:World) :
  Calls Tryz.prog 32 #[] w fun e w'=>e=.returned (.bool true)∧Below w.heap.size w w':=by
 have HAu:Hid (∀ W v,MdV W v smallM→Calls Tryz.prog 30 #[v] W fun e w'=>∃ p l k q l' k' r l'' k'',e=.returned (.tuple #[.agg #[.int .i64 1,.int .i64 8,.slice p l k,.slice q l' k',.slice r l'' k''],.int .i64 0])∧Below W.heap.size W w'):=hide fun W v hv=>by
  refine (mAuto_any hv (by decide) (fun r hr=>by simp [smallM] at hr;rw [hr];decide)).mono ?_
  rintro e w' ⟨v',rfl,hm⟩
  rw [small_chk] at hm ⊢
  obtain ⟨o1,o2,o3,rfl,k1,k2,k3⟩:=hm.good rfl
  obtain ⟨b1,x1,rfl⟩:=owns_form k1
  obtain ⟨b2,x2,rfl⟩:=owns_form k2
  obtain ⟨b3,x3,rfl⟩:=owns_form k3
  exact ⟨_,_,_,_,_,_,_,_,_,rfl,hm.bl⟩
 have HP:Hid (∀ W v gv,MdV W v smallM→NodeSl W gv propF→Calls Tryz.prog 36 #[v,gv] W fun e w'=>e=.returned (.tuple #[.bool true,.agg #[.slice none 0 0,.slice none 0 0],.int .i64 0])∧Below W.heap.size W w'):=hide fun W v gv hv hg=>by
  refine (mHolds_any hv hg (by decide) (fun r hr=>by simp [smallM] at hr;rw [hr];decide)).mono ?_
  rintro e w' ⟨hv,lv,ok,rfl,ho⟩
  rw [chkH_small prop_chk] at ho ⊢
  have hm:=ho.good rfl
  obtain rfl:=ok_prop hm
  obtain ⟨rfl,rfl,_⟩:=hm.yes rfl
  exact ⟨rfl,ho.bl⟩
 have HN:Hid (∀ W v gv,MdV W v smallM→NodeSl W gv notF→Calls Tryz.prog 36 #[v,gv] W fun e w'=>∃ p l k q l' k',e=.returned (.tuple #[.bool false,.agg #[.slice p l k,.slice q l' k'],.int .i64 0])∧0 < l'∧Below W.heap.size W w'):=hide fun W v gv hv hg=>by
  refine (mHolds_any hv hg (by decide) (fun r hr=>by simp [smallM] at hr;rw [hr];decide)).mono ?_
  rintro e w' ⟨hv,lv,ok,rfl,ho⟩
  rw [chkH_small not_chk] at ho ⊢
  have hm:=ho.good rfl
  obtain ⟨rfl,⟨p,l,k,rfl⟩,q,l',k',rfl,hp⟩:=ok_not hm
  exact ⟨_,_,_,_,_,_,rfl,hp,ho.bl⟩
 have HC:Hid (∀ W v,MdV W v smallM→Calls Tryz.prog 33 #[v] W fun e w'=>e=.returned (.int .i64 0)∧Below W.heap.size W w'):=hide fun W v hv=>by
  have:=mCheck_any hv
  rw [small_chk] at this
  exact this
 go_enter Tryz.func32,Tryz.ntmps32
 go_wp2_with (fail)
 go_fit (small_any w)
 rintro e w1 ⟨v1,rfl,hv1,hb1⟩
 have HA1:=hide (HAu.out w1 v1 hv1)
 have HB1:=hide hb1
 clear hv1 hb1 HAu
 go_wp2_with (fail)
 go_fit HA1.out
 rintro e w2 ⟨p,l,k,q,l',k',r,l'',k'',rfl,hb2⟩
 have HB2:=hide (below_trans HB1.out hb2)
 clear hb2 HB1 HA1
 go_wp2_with (fail)
 have hb3:=below_new w2 (Obj.cells #[.int .i64 1,.int .i64 8,.slice p l k,.slice q l' k',.slice r l'' k''] 26)
 have hn3:=one_new w2 (Obj.cells #[.int .i64 1,.int .i64 8,.slice p l k,.slice q l' k',.slice r l'' k''] 26)
 have HB3:=hide (below_trans HB2.out hb3)
 have HN3:=hide hn3
 generalize w2.alloc (Obj.cells #[.int .i64 1,.int .i64 8,.slice p l k,.slice q l' k',.slice r l'' k''] 26)=W3 at *
 generalize w2.heap.size=g3 at *
 clear hb3 hn3 HB2
 go_fit (small_any W3)
 rintro e w4 ⟨v4,rfl,hv4,hb4⟩
 have hbn:=below_new w4 (Obj.cells #[.int .i64 2,.int .i64 0,.int .i64 0,.int .i64 0] 55)
 have HH:=hide (HP.out _ v4 _ (hv4.below hbn) (nodeSl_prop (one_new w4 (Obj.cells #[.int .i64 2,.int .i64 0,.int .i64 0,.int .i64 0] 55))))
 have HB5:=hide (below_trans (below_trans HB3.out hb4) hbn)
 have HN5:=hide (belowRow hbn (belowRow hb4 HN3.out))
 clear hb4 hbn HB3 HN3 hv4 HP
 go_wp2_with (fail)
 generalize w4.alloc (Obj.cells #[.int .i64 2,.int .i64 0,.int .i64 0,.int .i64 0] 55)=W5 at *
 go_fit HH.out
 rintro e w6 ⟨rfl,hb6⟩
 have HB6:=hide (below_trans HB5.out hb6)
 have HN6:=hide (belowRow hb6 HN5.out)
 clear hb6 HB5 HN5 HH
 go_wp2_with (fail)
 have hb7:=below_new w6 (Obj.cells #[.slice none 0 0,.slice none 0 0] 28)
 have HB7:=hide (below_trans HB6.out hb7)
 have HN7:=hide (belowRow hb7 HN6.out)
 generalize w6.alloc (Obj.cells #[.slice none 0 0,.slice none 0 0] 28)=W7 at *
 clear hb7 HB6 HN6
 go_fit (small_any W7)
 rintro e w8 ⟨v8,rfl,hv8,hb8⟩
 have hbn:=below_new w8 (Obj.cells #[.int .i64 2,.int .i64 0,.int .i64 0,.int .i64 0,.int .i64 3,.int .i64 0,.int .i64 0,.int .i64 0] 55)
 have HH:=hide (HN.out _ v8 _ (hv8.below hbn) (nodeSl_not (one_new w8 (Obj.cells #[.int .i64 2,.int .i64 0,.int .i64 0,.int .i64 0,.int .i64 3,.int .i64 0,.int .i64 0,.int .i64 0] 55))))
 have HB9:=hide (below_trans (below_trans HB7.out hb8) hbn)
 have HN9:=hide (belowRow hbn (belowRow hb8 HN7.out))
 clear hb8 hbn HB7 HN7 hv8 HN
 go_wp2_with (fail)
 generalize w8.alloc (Obj.cells #[.int .i64 2,.int .i64 0,.int .i64 0,.int .i64 0,.int .i64 3,.int .i64 0,.int .i64 0,.int .i64 0] 55)=W9 at *
 go_fit HH.out
 rintro e w10 ⟨p2,l2,k2,q2,l2',k2',rfl,hpos,hb10⟩
 have HB10:=hide (below_trans HB9.out hb10)
 have HN10:=hide (belowRow hb10 HN9.out)
 clear hb10 HB9 HN9 HH
 go_wp2_with (fail)
 have hb11:=below_new w10 (Obj.cells #[.slice p2 l2 k2,.slice q2 l2' k2'] 28)
 have hn11:=one_new w10 (Obj.cells #[.slice p2 l2 k2,.slice q2 l2' k2'] 28)
 have HB11:=hide (below_trans HB10.out hb11)
 have HN11:=hide (belowRow hb11 HN10.out)
 have HL11:=hide hn11
 generalize w10.alloc (Obj.cells #[.slice p2 l2 k2,.slice q2 l2' k2'] 28)=W11 at *
 generalize w10.heap.size=g11 at *
 clear hb11 hn11 HB10 HN10
 go_fit (small_any W11)
 rintro e w12 ⟨v12,rfl,hv12,hb12⟩
 have HH:=hide (askSmall_any hv12)
 have HB12:=hide (below_trans HB11.out hb12)
 have HN12:=hide (belowRow hb12 HN11.out)
 have HL12:=hide (belowRow hb12 HL11.out)
 clear hb12 HB11 HN11 HL11 hv12
 go_wp2_with (fail)
 go_fit HH.out
 rintro e w13 ⟨rfl,hb13⟩
 have HB13:=hide (below_trans HB12.out hb13)
 have HN13:=hide (belowRow hb13 HN12.out)
 have HL13:=hide (belowRow hb13 HL12.out)
 clear hb13 HB12 HN12 HL12 HH
 go_wp2_with (fail)
 go_fit (small_any w13)
 rintro e w14 ⟨v14,rfl,hv14,hb14⟩
 have HH:=hide (HC.out w14 v14 hv14)
 have HB14:=hide (below_trans HB13.out hb14)
 have HN14:=hide (belowRow hb14 HN13.out)
 have HL14:=hide (belowRow hb14 HL13.out)
 clear hb14 HB13 HN13 HL13 hv14 HC
 go_wp2_with (fail)
 go_fit HH.out
 rintro e w15 ⟨rfl,hb15⟩
 have HB15:=hide (below_trans HB14.out hb15)
 have y1:=cell_of_row _ _ 1 _ _ _ (belowRow hb15 HN14.out)
 have z1:=cell_of_row _ _ 1 _ _ _ (belowRow hb15 HL14.out)
 clear hb15 HB14 HN14 HL14 HH
 go_wp2
 go_ret
 exact ⟨rfl,HB15.out⟩
end Go.Proofs.YtpiacnnifdjlkabGreatDoor
namespace Go.Proofs.YtpiacnnifdjlkabGreatDoor
open Go.ChangeShapes Go.WideShapes Go.ChangeAt Go.RowKit Go.Deep
theorem bytesInt:Tryz.prog.bytesOf 3=8:=by kernel_rfl
theorem intSl_of_trodW {H:Type}{enc:TypeId × Value→H}{W:World}{n:Nat}{u:Value}{y:DataW H × List MemPlace} (h:DataW.trod enc Tryz.prog W 0 (fun _=>true) true n 22 [u]=some y) (hw:(y.1.weights Tryz.prog 22).all (·≤reachBytes)=true) :
  ∃ zs,IntSl W u zs∧zs.length * 8≤140737488355328:=by
 rcases open_ints Tryz.underlying22 Tryz.underlying3 cellsInt h with ⟨hcs,_⟩ | ⟨a,len,cap,zs,hcs,_,hl,hm,hz,rfl,hcell,hwz⟩
 ·simp only [List.cons.injEq,and_true] at hcs
  subst hcs
  exact ⟨[],intSl_nil W,by simp⟩
 ·simp only [List.cons.injEq,and_true] at hcs
  subst hcs
  have hz':zs.length=cap:=hz
  have hlen:(zs.take len).length=len:=by rw [List.length_take];omega
  have hb:((zs.take len).length+(zs.drop len).length) * 8≤reachBytes:=by
   have h1:=List.all_eq_true.1 hw (((lits (H:=H) .i64 (zs.take len)).length+(lits (H:=H) .i64 (zs.drop len)).length) * Tryz.prog.bytesOf 3) (by
    simp only [DataW.weights,Tryz.underlying22]
    exact List.mem_cons_self)
   rw [bytesInt] at h1
   simpa [lits] using h1
  refine ⟨zs.take len,⟨some a,cap,by rw [hlen],by rw [hlen];omega,?_,fun e=>(by cases e),by rw [hlen];exact hl⟩,?_⟩
  ·by_cases h0:len=0
   ·left
    rw [h0]
    rfl
   ·right
    obtain ⟨b,off,rfl⟩:=plain_addr (hcell 0 (by omega))
    refine ⟨b,off,rfl,fun i hi=>?_⟩
    rw [hlen] at hi
    have ci:=hcell i (by omega)
    rw [add_none] at ci
    rw [ci]
    congr 2
    simp [List.getD,hi]
  ·have:=reachBytes_lt
   omega
theorem weightsAll_mem {H:Type}{P:Program}{e:TypeId}:∀ {ds:List (DataW H)}{d:DataW H},d ∈ ds→∀ n ∈ d.weights P e,n ∈ DataW.weightsAll P e ds
 | d0 :: ds,d,hd,n,hn=>by
  simp only [DataW.weightsAll,List.mem_append]
  rcases List.mem_cons.1 hd with rfl | hd
  ·exact Or.inl hn
  ·exact Or.inr (weightsAll_mem hd n hn)
theorem rowsSl_of_trod {H:Type}{enc:TypeId × Value→H}{W:World}{n:Nat}{u:Value}{y:DataW H × List MemPlace} (h:DataW.trod enc Tryz.prog W 0 (fun _=>true) true n 57 [u]=some y) (hw:(y.1.weights Tryz.prog 57).all (·≤reachBytes)=true) :
  ∃ rows,RowsSl W u rows∧∀ r ∈ rows,r.length * 8≤140737488355328:=by
 have hc1:Tryz.prog.cellsOf 22=1:=by kernel_rfl
 rcases open_slice1 Tryz.underlying57 hc1 h with ⟨hcs,_⟩ | ⟨a,len,cap,m,k,V,D,Pl,hcs,_,hl,hm,hmm,rfl,hel⟩
 ·simp only [List.cons.injEq,and_true] at hcs
  subst hcs
  exact ⟨[],⟨.none,0,rfl,by simp [maxLen],Or.inl rfl⟩,fun r hr=>by cases hr⟩
 ·simp only [List.cons.injEq,and_true] at hcs
  subst hcs
  simp only [if_true] at hmm
  subst hmm
  have each:∀ i,i < len→∃ r:List Int,W.cell? (a.add i)=some (V i)∧IntSl W (V i) r∧r.length * 8≤140737488355328:=fun i hi=>by
   obtain ⟨h1,h2⟩:=hel i (by omega)
   obtain ⟨r,h3,h4⟩:=intSl_of_trodW h2 (by
    rw [List.all_eq_true]
    intro x hx
    refine List.all_eq_true.1 hw x ?_
    simp only [DataW.weights,Tryz.underlying57]
    refine List.mem_cons_of_mem _ (List.mem_append_left _ (weightsAll_mem (d:=D i) ?_ x hx))
    exact List.mem_map.2 ⟨i,List.mem_range.2 hi,rfl⟩)
   exact ⟨r,h1,h3,h4⟩
  obtain ⟨S,hS⟩:=@choose_lt (List Int) ⟨[]⟩ _ _ each
  have hlen:((List.range len).map S).length=len:=by simp
  refine ⟨(List.range len).map S,⟨some a,m,by rw [hlen],by rw [hlen];omega,?_⟩,fun r hr=>?_⟩
  ·by_cases h0:len=0
   ·left
    rw [h0]
    rfl
   ·right
    obtain ⟨b,off,rfl⟩:=plain_addr (hS 0 (by omega)).1
    refine ⟨b,off,rfl,fun i hi=>?_⟩
    rw [hlen] at hi
    obtain ⟨q0,q1,_⟩:=hS i hi
    rw [add_none] at q0
    have e:((List.range len).map S).getD i []=S i:=by simp [List.getD,hi]
    rw [e]
    exact ⟨_,q0,q1⟩
  ·obtain ⟨i,hi,rfl⟩:=List.mem_map.1 hr
   exact (hS i (List.mem_range.1 hi)).2.2
theorem model_of_trod {H:Type}{enc:TypeId × Value→H}{W:World}{r:Reach}{b0:Nat}{v:Value}{d:DataW H}{p:List MemPlace} (hv:Value.okWide Tryz.prog W r b0 59 v) (h:DataW.Trod enc Tryz.prog W 0 (fun _=>true) true 59 v d p) (hw:(d.weights Tryz.prog 59).all (·≤reachBytes)=true) :
  ∃ M,MdV W v M∧M.first.length * 8≤140737488355328∧∀ r ∈ M.steps,r.length * 8≤140737488355328:=by
 obtain ⟨v0,v1,v2,v3,y0,y1,y2,y3,n,rfl,rfl,_,t0,t1,t2,t3⟩:=Go.Joins.open_agg4 Tryz.underlying59 (by kernel_rfl) (by kernel_rfl) hv h
 have hwe:∀ x,x ∈ DataW.weightsEach Tryz.prog [3,22,22,57] [y0.1,y1.1,y2.1,y3.1]→(x≤reachBytes):=fun x hx=>by
  have:=List.all_eq_true.1 hw x (by simp only [DataW.weights,Tryz.underlying59];exact hx)
  simpa using this
 have part:∀ {j:Nat}{t:TypeId}{y:DataW H},[3,22,22,57][j]?=some t→[y0.1,y1.1,y2.1,y3.1][j]?=some y→(y.weights Tryz.prog t).all (·≤reachBytes)=true:=fun {j t y} ht hy=>by
  rw [List.all_eq_true]
  intro x hx
  simpa using hwe x (DataW.weights_mem_each ht hy x hx)
 obtain ⟨z0,rfl,_⟩:=one_int t0
 obtain ⟨ls,i1,_⟩:=intSl_of_trod t1
 obtain ⟨fs,i2,b2⟩:=intSl_of_trodW t2 (part (j:=2) rfl rfl)
 obtain ⟨rows,i3,b3⟩:=rowsSl_of_trod t3 (part (j:=3) rfl rfl)
 exact ⟨⟨z0,ls,fs,rows⟩,⟨_,_,_,rfl,i1,i2,i3⟩,b2,b3⟩
end Go.Proofs.YtpiacnnifdjlkabGreatDoor
namespace Go.Proofs.YtpiacnnifdjlkabGreatDoor
open Go.RowKit Go.Sort
def Sub (T:List UInt8) (p:Nat) (s:List UInt8):Prop:=∀ j,j < s.length→T[p+j]?=s[j]?
theorem Sub.head {T:List UInt8}{p:Nat}{b:UInt8}{s:List UInt8} (h:Sub T p (b :: s)):T[p]?=some b∧Sub T (p+1) s:=by
 refine ⟨by simpa using h 0 (by simp),fun j hj=>?_⟩
 have:=h (j+1) (by simpa using hj)
 rw [List.getElem?_cons_succ] at this
 rw [← this,show p+1+j=p+(j+1) by omega]
theorem Sub.app {T:List UInt8}{p:Nat}{s t:List UInt8} (h:Sub T p (s ++ t)):Sub T p s∧Sub T (p+s.length) t:=by
 refine ⟨fun j hj=>?_,fun j hj=>?_⟩
 ·rw [h j (by simp;omega),List.getElem?_append_left hj]
 ·have:=h (s.length+j) (by simp;omega)
  rw [show p+s.length+j=p+(s.length+j) by omega,this,List.getElem?_append_right (by omega),Nat.add_sub_cancel_left]
def RefAt (T:List UInt8) (p q:Nat) (g:Nat→List Nd):Prop:=∀ (w:World) (base:Nat) (a:Option Addr) (c:Nat) (out:List Nd),w.ownsRow base 55 4 (.slice a out.length c) out.length (ndCells out)→base≤w.heap.size→out.length+(g out.length).length≤100000 →
 Calls Tryz.prog 85 #[.slice a out.length c,.string ⟨T.toArray⟩,.int .i64 p] w fun e w'=>∃ a' c',e=.returned (.tuple #[.slice a' (out ++ g out.length).length c',.int .i64 q,.bool true])∧w'.ownsRow base 55 4 (.slice a' (out ++ g out.length).length c') (out ++ g out.length).length (ndCells (out ++ g out.length))∧Below base w w'
theorem wp_app_node {w:World}{ops:Array Oper}{rest:List Oper}{o:Oper}{a:Act}{Q:Exit→Act→World→Prop} (hgd:o.guard=none) (s x:Operand)
  (ho:o.op=.call { callee:=.builtin .append,args:=#[s,x],argTypes:=#[30,30] }) (base n:Nat) (v:Value) (xs:List Value) (hs:a.eval s=v)
  (hown:w.ownsRow base 55 4 v n xs) (B c:Nat) (nd:Nd) (hx:a.eval x=.slice (some ⟨B,0,none⟩) 1 c) (h0:w.cell? ⟨B,0,none⟩=some (.int .i64 nd.k)) (h1:w.cell? ⟨B,1,none⟩=some (.int .i64 nd.a)) (h2:w.cell? ⟨B,2,none⟩=some (.int .i64 nd.b)) (h3:w.cell? ⟨B,3,none⟩=some (.int .i64 nd.n)) (hn:n≤900000) (hbase:base≤w.heap.size)
  (h:∀ g cap w',w'.ownsRow base 55 4 (.slice (some ⟨g,0,none⟩) (n+1) cap) (n+1) (xs ++ [.int .i64 nd.k,.int .i64 nd.a,.int .i64 nd.b,.int .i64 nd.n])→w.grownBy w' v.ownBlock→wpList Tryz.prog ops Q rest (a.put o.dst (.slice (some ⟨g,0,none⟩) (n+1) cap)) w'):wpList Tryz.prog ops Q (o :: rest) a w:=by
 obtain ⟨g,cap,w',hr,h4,h5,-⟩:=run_app_node w o.type base n v xs hown B c nd h0 h1 h2 h3 hn hbase
 refine wpList_plain hgd fun K hk=>?_
 unfold Oper.wp execOp
 simp only [ho,resolve,invoke,builtin,Sem.run_bind,Sem.run_pure,Result.andThen_ok,List.map_toArray,List.map_cons,List.map_nil,hs,hx,hr]
 exact hk _ _ (h g cap w' h4 h5)
theorem own_below {w w':World}{base e sz n:Nat}{v:Value}{xs:List Value} (h:w.ownsRow base e sz v n xs) (hb:Below w.heap.size w w'):w'.ownsRow base e sz v n xs:=
 h.kept (row:=none) ⟨hb.os,hb.tape,hb.output,hb.size,fun k hk _=>hb.block k hk⟩ (by cases hv:v.ownBlock <;> simp)
theorem own_snoc {w w1 w':World}{base:Nat}{a:Option Addr}{c:Nat}{out:List Nd}{g cap:Nat} (nd:Nd) (hb:Below w.heap.size w w1) (hB:base≤w.heap.size) (ho:w1.ownsRow base 55 4 (.slice a out.length c) out.length (ndCells out))
  (h1:w'.ownsRow base 55 4 (.slice (some ⟨g,0,none⟩) (out.length+1) cap) (out.length+1) (ndCells out ++ [.int .i64 nd.k,.int .i64 nd.a,.int .i64 nd.b,.int .i64 nd.n])) (h2:w1.grownBy w' (Value.slice a out.length c).ownBlock) :
  w'.ownsRow base 55 4 (.slice (some ⟨g,0,none⟩) (out ++ [nd]).length cap) (out ++ [nd]).length (ndCells (out ++ [nd]))∧Below base w w':=by
 refine ⟨?_,(hb.mono hB).grown h2 (Nat.le_trans hB hb.size) (fun k hk=>(ho.lt k hk).1)⟩
 rw [ndCells_snoc,List.length_append]
 exact h1
theorem true_byte (j:Nat) (b:UInt8) (h:[(116:UInt8),114,117,101][j]?=some b) (W:World):(Instr.index 9 (.string ⟨#[116,114,117,101]⟩) (.int .i64 (j:Int))).run Tryz.prog W=.ok (.int .u8 (b.toNat:Int)) W:=run_byte W [116,114,117,101] j (j:Int) b rfl h
theorem ref_true {T:List UInt8}{p:Nat} (h:Sub T p [116,114,117,101]) (hl:p+4≤T.length) (hT:T.length≤30000):RefAt T p (p+4) (fun _=>[⟨1,0,0,0⟩]):=by
 intro w base a c out hown hB hn
 have hn:out.length+1≤100000:=hn
 show Calls _ _ _ _ fun e w'=>∃ a' c',e=.returned (.tuple #[.slice a' (out ++ [(⟨1,0,0,0⟩:Nd)]).length c',.int .i64 (p+4:Nat),.bool true])∧w'.ownsRow base 55 4 (.slice a' (out ++ [(⟨1,0,0,0⟩:Nd)]).length c') (out ++ [(⟨1,0,0,0⟩:Nd)]).length (ndCells (out ++ [(⟨1,0,0,0⟩:Nd)]))∧Below base w w'
 have HO:=hide hown
 have HB:=hide hB
 have HS:=hide h
 have hsT:(⟨T.toArray⟩:ByteArray).size=T.length:=by simp [ByteArray.size]
 have i0:∀ W,(Instr.index 9 (.string ⟨T.toArray⟩) (.int .i64 (p:Int))).run Tryz.prog W=.ok (.int .u8 116) W:=fun W=>run_byte W T p (p:Int) 116 rfl (h 0 (by simp))
 have hg0:¬ ((T.length:Int)≤(p:Int)):=by omega
 clear h hown hB
 go_enter Tryz.func85,Tryz.ntmps85
 go_wp2_with (fail)
 go_loopw [9] (fun iv wr=>∃ j:Nat,j≤4∧iv=.int .i64 j∧Hid (Below w.heap.size w wr)) (fun iv _=>4 - (intOf iv).toNat)
 case atStart=>exact ⟨0,by omega,rfl,hide (Below.refl _ _)⟩
 case round =>
  obtain ⟨j,hj,rfl,hb⟩:=hrel
  clear i0
  by_cases hlt:j < 4
  ·obtain ⟨b,hb1⟩:∃ b,[(116:UInt8),114,117,101][j]?=some b:=⟨_,List.getElem?_eq_getElem (by simpa using hlt)⟩
   have hb2:T[p+j]?=some b:=(HS.out j (by simpa using hlt)).trans hb1
   have i1:=fun W=>run_byte W T (p+j) ((p:Int)+(j:Int)) b (by omega) hb2
   have i2:=true_byte j b hb1
   have hd:decide ((T.length:Int)≤(p:Int)+(j:Int))=false:=decide_eq_false (by omega)
   have bb:((b.toNat:Int) != (b.toNat:Int))=false:=by simp
   clear hb1 hb2
   go_wp2_with (fail)
   (refine wp_region_quiet_lit (by kernel_rfl) (by kernel_rfl) ?_;(repeat (go_big_quiet_step (fail)));refine wpQuiet_nil ?_;intro _ hw';obtain ⟨nq,hw''⟩:=hw';subst hw'')
   have HB2:=hide (below_drewN hb.out nq)
   go_wp2_with (fail)
   exact ⟨⟨j+1,by omega,by go_num,HB2⟩,by simp [intOf];omega⟩
  ·obtain rfl:j=4:=by omega
   have HBr:=hide hb.out
   have HOr:=hide (own_below HO.out hb.out)
   have hsz:=hb.out.size
   clear hb
   have hBr:base≤wr.heap.size:=Nat.le_trans HB.out hsz
   go_wp2_with (at_builtin;refine wp_app_node rfl (.tmp 55) (.tmp 57) rfl base out.length _ (ndCells out) rfl (HOr.out.alloc _) wr.heap.size 1 ⟨1,0,0,0⟩ rfl (cell_top _ _ _ _ _ _ rfl rfl) (cell_top _ _ _ _ _ _ rfl rfl) (cell_top _ _ _ _ _ _ rfl rfl) (cell_top _ _ _ _ _ _ rfl rfl) (by omega) (by simp;omega) ?_;intro g8 cap8 w8 hown8 hgrow8;have HR8:=hide (own_snoc ⟨1,0,0,0⟩ (HBr.out.alloc hsz _) HB.out (HOr.out.alloc _) hown8 hgrow8);clear hown8 hgrow8)
   go_ret3
   exact ⟨_,_,by simp,HR8.out.1,HR8.out.2⟩
theorem ref_prop {T:List UInt8}{p:Nat} (d:UInt8) (hd:48≤d.toNat∧d.toNat≤57) (h0:T[p]?=some 112) (h1:T[p+1]?=some d) (hT:T.length≤30000):RefAt T p (p+2) (fun _=>[⟨2,0,0,(d.toNat:Int) - 48⟩]):=by
 intro w base a c out hown hB hn
 have hn:out.length+1≤100000:=hn
 show Calls _ _ _ _ fun e w'=>∃ a' c',e=.returned (.tuple #[.slice a' (out ++ [(⟨2,0,0,(d.toNat:Int) - 48⟩:Nd)]).length c',.int .i64 (p+2:Nat),.bool true])∧w'.ownsRow base 55 4 (.slice a' (out ++ [(⟨2,0,0,(d.toNat:Int) - 48⟩:Nd)]).length c') (out ++ [(⟨2,0,0,(d.toNat:Int) - 48⟩:Nd)]).length (ndCells (out ++ [(⟨2,0,0,(d.toNat:Int) - 48⟩:Nd)]))∧Below base w w'
 have HO:=hide hown
 have hsT:(⟨T.toArray⟩:ByteArray).size=T.length:=by simp [ByteArray.size]
 have hlt:p+1 < T.length:=(List.getElem?_eq_some_iff.1 h1).1
 have i0:∀ W,(Instr.index 9 (.string ⟨T.toArray⟩) (.int .i64 (p:Int))).run Tryz.prog W=.ok (.int .u8 112) W:=fun W=>run_byte W T p (p:Int) 112 rfl h0
 have i1:∀ W,(Instr.index 9 (.string ⟨T.toArray⟩) (.int .i64 ((p:Int)+1))).run Tryz.prog W=.ok (.int .u8 (d.toNat:Int)) W:=fun W=>run_byte W T (p+1) ((p:Int)+1) d (by omega) h1
 have hg0:¬ ((T.length:Int)≤(p:Int)):=by omega
 have hg1:¬ ((T.length:Int)≤(p:Int)+1):=by omega
 have hbt:btw (d.toNat:Int) 48 57=true:=by unfold btw;exact decide_eq_true (by omega)
 clear hown h0 h1
 go_enter Tryz.func85,Tryz.ntmps85
 go_wp2_with (fail)
 refine (between_b _ _ _ _).mono ?_
 rintro e w1 ⟨rfl,rfl⟩
 rw [hbt]
 go_wp2_with (at_builtin;refine wp_app_node rfl (.tmp 79) (.tmp 87) rfl base out.length _ (ndCells out) rfl (HO.out.alloc _) w1.heap.size 1 ⟨2,0,0,(d.toNat:Int) - 48⟩ rfl (cell_top _ _ _ _ _ _ rfl rfl) (cell_top _ _ _ _ _ _ rfl rfl) (cell_top _ _ _ _ _ _ rfl rfl) (cell_top _ _ _ _ _ _ rfl rfl) (by omega) (by simp;omega) ?_;intro g8 cap8 w8 hown8 hgrow8;have HR8:=hide (own_snoc ⟨2,0,0,(d.toNat:Int) - 48⟩ (below_new _ _) hB (HO.out.alloc _) hown8 hgrow8);clear hown8 hgrow8)
 go_ret3
 exact ⟨_,_,by simp,HR8.out.1,HR8.out.2⟩
theorem ref_one {T:List UInt8}{p q:Nat}{g:Nat→List Nd} (K:Nat) (hK:K=3 ∨ K=6) (h0:T[p]?=some (oneB K)) (hN:RefAt T (p+1) q g) (hg:∀ m,0 < (g m).length) (hT:T.length≤30000):RefAt T p q (fun m=>g m ++ [⟨K,(m+(g m).length - 1:Nat),0,0⟩]):=by
 intro w base a c out hown hB hn
 have hn:out.length+(g out.length ++ [(⟨K,(out.length+(g out.length).length - 1:Nat),0,0⟩:Nd)]).length≤100000:=hn
 rw [List.length_append,List.length_cons,List.length_nil] at hn
 have hp:=hg out.length
 have HN:=hide (hN w base a c out hown hB (by omega))
 have hc:((p+1:Nat):Int)=(p:Int)+1:=by omega
 rw [hc] at HN
 show Calls _ _ _ _ fun e w'=>∃ a' c',e=.returned (.tuple #[.slice a' (out ++ (g out.length ++ [(⟨K,(out.length+(g out.length).length - 1:Nat),0,0⟩:Nd)])).length c',.int .i64 q,.bool true])∧w'.ownsRow base 55 4 (.slice a' (out ++ (g out.length ++ [(⟨K,(out.length+(g out.length).length - 1:Nat),0,0⟩:Nd)])).length c') (out ++ (g out.length ++ [(⟨K,(out.length+(g out.length).length - 1:Nat),0,0⟩:Nd)])).length (ndCells (out ++ (g out.length ++ [(⟨K,(out.length+(g out.length).length - 1:Nat),0,0⟩:Nd)])))∧Below base w w'
 rw [← List.append_assoc]
 have hLl:(out ++ g out.length).length=out.length+(g out.length).length:=List.length_append
 rw [show ((out.length+(g out.length).length - 1:Nat):Int)=((out ++ g out.length).length:Int) - 1 by rw [hLl];omega]
 have hL1:1≤(out ++ g out.length).length:=by omega
 have hL2:(out ++ g out.length).length≤100000:=by omega
 generalize out ++ g out.length=L at *
 have hsT:(⟨T.toArray⟩:ByteArray).size=T.length:=by simp [ByteArray.size]
 have hlt:p < T.length:=(List.getElem?_eq_some_iff.1 h0).1
 have hg0:¬ ((T.length:Int)≤(p:Int)):=by omega
 have HB:=hide hB
 clear hN hown hg hLl hp hn hc
 rcases hK with rfl | rfl
 ·have i0:∀ W,(Instr.index 9 (.string ⟨T.toArray⟩) (.int .i64 (p:Int))).run Tryz.prog W=.ok (.int .u8 33) W:=fun W=>run_byte W T p (p:Int) 33 rfl h0
  clear h0
  go_enter Tryz.func85,Tryz.ntmps85
  go_wp2_with (fail)
  refine HN.out.mono ?_
  rintro e w1 ⟨a1,c1,rfl,ho1,hb1⟩
  have HO1:=hide ho1
  have HB1:=hide hb1
  have hs1:=hb1.size
  have hB1:base≤w1.heap.size:=Nat.le_trans HB.out hs1
  clear ho1 hb1 HN
  go_wp2_with (at_builtin;refine wp_app_node rfl (.tmp 110) (.tmp 116) rfl base L.length _ (ndCells L) rfl (HO1.out.alloc _) w1.heap.size 1 ⟨3,(L.length:Int) - 1,0,0⟩ rfl (cell_top _ _ _ _ _ _ rfl rfl) (cell_top _ _ _ _ _ _ rfl rfl) (cell_top _ _ _ _ _ _ rfl rfl) (cell_top _ _ _ _ _ _ rfl rfl) (by omega) (by simp;omega) ?_;intro g8 cap8 w8 hown8 hgrow8;have HR8:=hide (own_snoc ⟨3,(L.length:Int) - 1,0,0⟩ (below_new _ _) hB1 (HO1.out.alloc _) hown8 hgrow8);clear hown8 hgrow8)
  go_ret3
  exact ⟨_,_,by simp,HR8.out.1,HB1.out.trans HR8.out.2⟩
 ·have i0:∀ W,(Instr.index 9 (.string ⟨T.toArray⟩) (.int .i64 (p:Int))).run Tryz.prog W=.ok (.int .u8 88) W:=fun W=>run_byte W T p (p:Int) 88 rfl h0
  clear h0
  go_enter Tryz.func85,Tryz.ntmps85
  go_wp2_with (fail)
  refine HN.out.mono ?_
  rintro e w1 ⟨a1,c1,rfl,ho1,hb1⟩
  have HO1:=hide ho1
  have HB1:=hide hb1
  have hs1:=hb1.size
  have hB1:base≤w1.heap.size:=Nat.le_trans HB.out hs1
  clear ho1 hb1 HN
  go_wp2_with (at_builtin;refine wp_app_node rfl (.tmp 110) (.tmp 116) rfl base L.length _ (ndCells L) rfl (HO1.out.alloc _) w1.heap.size 1 ⟨6,(L.length:Int) - 1,0,0⟩ rfl (cell_top _ _ _ _ _ _ rfl rfl) (cell_top _ _ _ _ _ _ rfl rfl) (cell_top _ _ _ _ _ _ rfl rfl) (cell_top _ _ _ _ _ _ rfl rfl) (by omega) (by simp;omega) ?_;intro g8 cap8 w8 hown8 hgrow8;have HR8:=hide (own_snoc ⟨6,(L.length:Int) - 1,0,0⟩ (below_new _ _) hB1 (HO1.out.alloc _) hown8 hgrow8);clear hown8 hgrow8)
  go_ret3
  exact ⟨_,_,by simp,HR8.out.1,HB1.out.trans HR8.out.2⟩
end Go.Proofs.YtpiacnnifdjlkabGreatDoor
