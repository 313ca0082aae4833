/- ModelTakes holds: whatever model and lasso are handed in, Check of package model answers what the document says, and the automaton that Auto makes of the model takes just the words that the model goes by, errors too; the tables deBruijn32tab and deBruijn64tab of math/bits and uint64pow10 of internal/strconv are as the program's text lays them. -/
import Derived.Test.YtpiacnnifdjlkabGreatDoorYl
import Derived.Test.YtpiacnnifdjlkabGreatDoorRa
import Derived.Test.YtpiacnnifdjlkabGreatDoorCt
import Derived.SizedLaws
import Derived.Deep.Slices
import Derived.Test.YtpiacnnifdjlkabGreatDoorYn
import Derived.Test.YtpiacnnifdjlkabGreatDoorCh
import Derived.LaidLaws
import Derived.Lib.TrailingZeros
import Derived.Lib.ItoaNum
set_option maxRecDepth 100000
set_option maxHeartbeats 8000000
namespace Go.Proofs.YtpiacnnifdjlkabGreatDoor
open Go.RowKit Go.Sort
theorem valM_valU {F:List Nd} (hc:chkF F=0) {hs ls:List Int} (hk:chk hs ls 8=0):valM F hs ls=valU F hs ls 0 (F.length - 1):=by
 obtain ⟨h1,_,h3⟩:=chkF_ok hc
 obtain ⟨_,_,hp,_⟩:=chk_ok hk
 unfold valM tabF valU
 rw [tab_vF _ _ _ _ _ _ _ (by omega) (by omega),plc_small (by omega)]
 rfl
theorem prop_val {F:List Nd} (hc:chkF F=0) (h0:F.getD 0 nd0=⟨2,0,0,0⟩) {hs ls:List Int} (hk:chk hs ls 8=0) {t:Nat} (hu:lat hs ls t=1):valU F hs ls t 0=true:=by
 obtain ⟨h1,_,h3⟩:=chkF_ok hc
 obtain ⟨_,_,hp,_⟩:=chk_ok hk
 have hl:=valU_loc h3 hp (fun t=>(lat_few hk t).1) t 0 h1
 rw [hl,h0,hu]
 rfl
theorem small_prop {hs ls:List Int} (hk:chk hs ls 8=0) (hg:goesM smallM (lat hs ls) (farM smallM hs ls)):valM propF hs ls=true:=by
 obtain ⟨_,_,hp,_⟩:=chk_ok hk
 have hc:chkF propF=0:=by decide +kernel
 rw [valM_valU hc hk]
 exact prop_val hc rfl hk (small_goes hg (by show 0 < hs.length+(1+1) * ls.length;omega))
theorem small_next {hs ls:List Int} (hk:chk hs ls 8=0) (hg:goesM smallM (lat hs ls) (farM smallM hs ls)):valM nextP hs ls=true:=by
 obtain ⟨_,_,hp,_⟩:=chk_ok hk
 have hc:chkF nextP=0:=by decide +kernel
 obtain ⟨h1,_,h3⟩:=chkF_ok hc
 rw [valM_valU hc hk,valU_loc h3 hp (fun t=>(lat_few hk t).1) 0 _ (by decide)]
 show valU nextP hs ls 1 0=true
 exact prop_val hc rfl hk (small_goes hg (by show 1 < hs.length+(1+1) * ls.length;omega))
theorem chkH_small {F:List Nd} (h:chkNeg F=0):chkH smallM F=0:=by unfold chkH;rw [small_chk,if_pos rfl,h]
theorem ok_prop {w w':World}{hv lv:Value}{ok:Bool} (h:HoldsMade smallM propF w w' hv lv ok):ok=true:=by
 cases ok with
 | true=>rfl
 | false =>
  obtain ⟨us,vs,_,_,hk,hg,hv⟩:=h.no rfl
  rw [small_prop hk hg] at hv
  cases hv
theorem ok_next {w w':World}{hv lv:Value}{ok:Bool} (h:HoldsMade smallM nextP w w' hv lv ok):ok=true:=by
 cases ok with
 | true=>rfl
 | false =>
  obtain ⟨us,vs,_,_,hk,hg,hv⟩:=h.no rfl
  rw [small_next hk hg] at hv
  cases hv
theorem not_ones:valM notF [] [1]=false:=by decide +kernel
theorem ok_not {w w':World}{hv lv:Value}{ok:Bool} (h:HoldsMade smallM notF w w' hv lv ok):ok=false∧(∃ p l k,hv=.slice p l k)∧∃ p l k,lv=.slice p l k∧0 < l:=by
 cases ok with
 | true =>
  have:=(h.yes rfl).2.2 [] [1] (by decide) small_ones
  rw [not_ones] at this
  cases this
 | false =>
  obtain ⟨us,vs,h1,h2,hk,_,_⟩:=h.no rfl
  obtain ⟨_,_,hp,_⟩:=chk_ok hk
  obtain ⟨p,c,e1,-⟩:=h1
  obtain ⟨q,c',e2,-⟩:=h2
  exact ⟨rfl,⟨p,_,c,e1⟩,q,_,c',e2,hp⟩
theorem node_next:NodeAt [88,112,48] 0 [88,112,48].length (gOne 6 (fun _=>[⟨2,0,0,0⟩])):=
 node_one 6 (Or.inr rfl) rfl (node_prop 48 (by decide) rfl rfl (fun b hb=>by simp at hb) (by decide)) (by decide)
theorem askSmall_any {w:World}{v:Value} (hV:MdV w v smallM) :
  Calls Tryz.prog 41 #[v,.string ⟨#[88,112,48]⟩] w fun e w'=>e=.returned (.tuple #[.string ⟨#[104,111,108,100,115,10]⟩,.int .i64 0])∧Below w.heap.size w w':=by
 have HV:=hide hV
 have HCH:=hide (fun (W:World) (hb:Below w.heap.size w W)=>mCheck_any (HV.out.below hb))
 rw [small_chk] at HCH
 have HP:Hid (∀ W,Calls Tryz.prog 53 #[.string ⟨#[88,112,48]⟩] W fun e w'=>∃ v,e=.returned (.tuple #[v,.int .i64 0,.int .i64 0])∧NodeSl w' v nextP∧Below W.heap.size W w'):=hide fun W=>parse_ok (T:=[88,112,48]) node_next (by decide) (by decide) (by decide +kernel) W
 have HH:Hid (∀ W gv,Below w.heap.size w W→NodeSl W gv nextP→Calls Tryz.prog 36 #[v,gv] W fun e w'=>∃ p l k q l' k',e=.returned (.tuple #[.bool true,.agg #[.slice p l k,.slice q l' k'],.int .i64 0])∧Below W.heap.size W w'):=hide fun W gv hb hg=>by
  refine (mHolds_any (HV.out.below hb) hg (by decide) (fun r hr=>by simp [smallM] at hr;rw [hr];decide)).mono ?_
  rintro e w' ⟨hv,lv,ok,rfl,ho⟩
  rw [chkH_small next_chk] at ho ⊢
  have hm:=ho.good rfl
  obtain rfl:=ok_next hm
  obtain ⟨rfl,rfl,_⟩:=hm.yes rfl
  exact ⟨none,0,0,none,0,0,rfl,ho.bl⟩
 obtain ⟨lv,fv,sv,rfl,hL,hF',hS⟩:=hV
 obtain ⟨la,lc,rfl,-⟩:=hL
 obtain ⟨fa,fc,rfl,-⟩:=hF'
 obtain ⟨sa,sc,rfl,-⟩:=hS
 have e1:smallM.props=1:=rfl
 have e2:smallM.labels.length=1:=rfl
 have e3:smallM.first.length=1:=rfl
 have e4:smallM.steps.length=1:=rfl
 rw [e1,e2,e3,e4] at *
 clear e1 e2 e3 e4
 have hb0:=below_new w (Obj.cells #[.int .i64 1,.slice la 1 lc,.slice fa 1 fc,.slice sa 1 sc] 59)
 have hn1:=one_new w (Obj.cells #[.int .i64 1,.slice la 1 lc,.slice fa 1 fc,.slice sa 1 sc] 59)
 have HB0:=hide hb0
 have H1:=hide hn1
 have HLd:=hide (model_load hn1)
 clear hb0 hn1
 go_enter Tryz.func41,Tryz.ntmps41
 go_wp2_with (first | (show wpList _ _ _ (⟨some 12,_,_,_,_,_⟩ :: _) _ _;refine wpl_loadM HLd.out rfl rfl rfl ?_))
 generalize w.alloc (Obj.cells #[.int .i64 1,.slice la 1 lc,.slice fa 1 fc,.slice sa 1 sc] 59)=W0 at *
 go_fit (HCH.out W0 HB0.out)
 rintro e w1 ⟨rfl,hb1⟩
 have HB1:=hide (below_trans HB0.out hb1)
 have H1':=hide (belowRow hb1 H1.out)
 clear hb1 H1 HLd HCH HB0
 go_wp2_with (fail)
 go_fit (HP.out w1)
 rintro e w2 ⟨gv,rfl,hg,hb2⟩
 have HB2:=hide (below_trans HB1.out hb2)
 have H12:=hide (belowRow hb2 H1'.out)
 have HN:=hide (HH.out w2 gv HB2.out hg)
 have HLd:=hide (model_load H12.out)
 obtain ⟨ga,gc,rfl,-⟩:=hg
 have e5:nextP.length=2:=rfl
 rw [e5] at *
 clear hb2 H1' HB1 HP HH e5
 go_wp2_with (first | (show wpList _ _ _ (⟨some 30,_,_,_,_,_⟩ :: _) _ _;refine wpl_loadM HLd.out rfl rfl rfl ?_))
 go_fit HN.out
 rintro e w3 ⟨p,l,k,q,l',k',rfl,hb3⟩
 have HB3:=hide (below_trans HB2.out hb3)
 clear hb3 HN HLd H12 HB2
 go_wp2
 exact bodyPost_ret (v:=.tuple #[.string ⟨#[104,111,108,100,115,10]⟩,.int .i64 0]) (by simp [results,Tryz.results41,go_sem]) rfl ⟨rfl,below_trans HB3.out (below_new _ _)⟩
theorem nodeSl_prop {w:World}{g:Nat} (h:w.heap[g]?=some (.cells #[.int .i64 2,.int .i64 0,.int .i64 0,.int .i64 0] 55)):NodeSl w (.slice (some ⟨g,0,none⟩) 1 1) propF:=by
 refine ⟨_,_,rfl,by decide,Or.inr ⟨g,0,rfl,fun i hi=>?_⟩,(fun h=>by cases h),by decide⟩
 obtain rfl:i=0:=by simp [propF] at hi;omega
 exact ⟨cell_of_row _ _ 0 _ _ _ h,cell_of_row _ _ 1 _ _ _ h,cell_of_row _ _ 2 _ _ _ h,cell_of_row _ _ 3 _ _ _ h⟩
theorem nodeSl_not {w:World}{g:Nat} (h:w.heap[g]?=some (.cells #[.int .i64 2,.int .i64 0,.int .i64 0,.int .i64 0,.int .i64 3,.int .i64 0,.int .i64 0,.int .i64 0] 55)):NodeSl w (.slice (some ⟨g,0,none⟩) 2 2) notF:=by
 refine ⟨_,_,rfl,by decide,Or.inr ⟨g,0,rfl,fun i hi=>?_⟩,(fun h=>by cases h),by decide⟩
 have h2:i=0 ∨ i=1:=by simp [notF] at hi;omega
 rcases h2 with rfl | rfl
 ·exact ⟨cell_of_row _ _ 0 _ _ _ h,cell_of_row _ _ 1 _ _ _ h,cell_of_row _ _ 2 _ _ _ h,cell_of_row _ _ 3 _ _ _ h⟩
 ·exact ⟨cell_of_row _ _ 4 _ _ _ h,cell_of_row _ _ 5 _ _ _ h,cell_of_row _ _ 6 _ _ _ h,cell_of_row _ _ 7 _ _ _ h⟩
theorem modelBegun_any (w:World) :
  Calls Tryz.prog 32 #[] w fun e w'=>e=.returned (.bool true)∧Below w.heap.size w w':=by
 have HAu:Hid (∀ W v,MdV W v smallM→Calls Tryz.prog 30 #[v] W fun e w'=>∃ p l k q l' k' r l'' k'',e=.returned (.tuple #[.agg #[.int .i64 1,.int .i64 8,.slice p l k,.slice q l' k',.slice r l'' k''],.int .i64 0])∧Below W.heap.size W w'):=hide fun W v hv=>by
  refine (mAuto_any hv (by decide) (fun r hr=>by simp [smallM] at hr;rw [hr];decide)).mono ?_
  rintro e w' ⟨v',rfl,hm⟩
  rw [small_chk] at hm ⊢
  obtain ⟨o1,o2,o3,rfl,k1,k2,k3⟩:=hm.good rfl
  obtain ⟨b1,x1,rfl⟩:=owns_form k1
  obtain ⟨b2,x2,rfl⟩:=owns_form k2
  obtain ⟨b3,x3,rfl⟩:=owns_form k3
  exact ⟨_,_,_,_,_,_,_,_,_,rfl,hm.bl⟩
 have HP:Hid (∀ W v gv,MdV W v smallM→NodeSl W gv propF→Calls Tryz.prog 36 #[v,gv] W fun e w'=>e=.returned (.tuple #[.bool true,.agg #[.slice none 0 0,.slice none 0 0],.int .i64 0])∧Below W.heap.size W w'):=hide fun W v gv hv hg=>by
  refine (mHolds_any hv hg (by decide) (fun r hr=>by simp [smallM] at hr;rw [hr];decide)).mono ?_
  rintro e w' ⟨hv,lv,ok,rfl,ho⟩
  rw [chkH_small prop_chk] at ho ⊢
  have hm:=ho.good rfl
  obtain rfl:=ok_prop hm
  obtain ⟨rfl,rfl,_⟩:=hm.yes rfl
  exact ⟨rfl,ho.bl⟩
 have HN:Hid (∀ W v gv,MdV W v smallM→NodeSl W gv notF→Calls Tryz.prog 36 #[v,gv] W fun e w'=>∃ p l k q l' k',e=.returned (.tuple #[.bool false,.agg #[.slice p l k,.slice q l' k'],.int .i64 0])∧0 < l'∧Below W.heap.size W w'):=hide fun W v gv hv hg=>by
  refine (mHolds_any hv hg (by decide) (fun r hr=>by simp [smallM] at hr;rw [hr];decide)).mono ?_
  rintro e w' ⟨hv,lv,ok,rfl,ho⟩
  rw [chkH_small not_chk] at ho ⊢
  have hm:=ho.good rfl
  obtain ⟨rfl,⟨p,l,k,rfl⟩,q,l',k',rfl,hp⟩:=ok_not hm
  exact ⟨_,_,_,_,_,_,rfl,hp,ho.bl⟩
 have HC:Hid (∀ W v,MdV W v smallM→Calls Tryz.prog 33 #[v] W fun e w'=>e=.returned (.int .i64 0)∧Below W.heap.size W w'):=hide fun W v hv=>by
  have:=mCheck_any hv
  rw [small_chk] at this
  exact this
 go_enter Tryz.func32,Tryz.ntmps32
 go_wp2_with (fail)
 go_fit (small_any w)
 rintro e w1 ⟨v1,rfl,hv1,hb1⟩
 have HA1:=hide (HAu.out w1 v1 hv1)
 have HB1:=hide hb1
 clear hv1 hb1 HAu
 go_wp2_with (fail)
 go_fit HA1.out
 rintro e w2 ⟨p,l,k,q,l',k',r,l'',k'',rfl,hb2⟩
 have HB2:=hide (below_trans HB1.out hb2)
 clear hb2 HB1 HA1
 go_wp2_with (fail)
 have hb3:=below_new w2 (Obj.cells #[.int .i64 1,.int .i64 8,.slice p l k,.slice q l' k',.slice r l'' k''] 26)
 have hn3:=one_new w2 (Obj.cells #[.int .i64 1,.int .i64 8,.slice p l k,.slice q l' k',.slice r l'' k''] 26)
 have HB3:=hide (below_trans HB2.out hb3)
 have HN3:=hide hn3
 generalize w2.alloc (Obj.cells #[.int .i64 1,.int .i64 8,.slice p l k,.slice q l' k',.slice r l'' k''] 26)=W3 at *
 generalize w2.heap.size=g3 at *
 clear hb3 hn3 HB2
 go_fit (small_any W3)
 rintro e w4 ⟨v4,rfl,hv4,hb4⟩
 have hbn:=below_new w4 (Obj.cells #[.int .i64 2,.int .i64 0,.int .i64 0,.int .i64 0] 55)
 have HH:=hide (HP.out _ v4 _ (hv4.below hbn) (nodeSl_prop (one_new w4 (Obj.cells #[.int .i64 2,.int .i64 0,.int .i64 0,.int .i64 0] 55))))
 have HB5:=hide (below_trans (below_trans HB3.out hb4) hbn)
 have HN5:=hide (belowRow hbn (belowRow hb4 HN3.out))
 clear hb4 hbn HB3 HN3 hv4 HP
 go_wp2_with (fail)
 generalize w4.alloc (Obj.cells #[.int .i64 2,.int .i64 0,.int .i64 0,.int .i64 0] 55)=W5 at *
 go_fit HH.out
 rintro e w6 ⟨rfl,hb6⟩
 have HB6:=hide (below_trans HB5.out hb6)
 have HN6:=hide (belowRow hb6 HN5.out)
 clear hb6 HB5 HN5 HH
 go_wp2_with (fail)
 have hb7:=below_new w6 (Obj.cells #[.slice none 0 0,.slice none 0 0] 28)
 have HB7:=hide (below_trans HB6.out hb7)
 have HN7:=hide (belowRow hb7 HN6.out)
 generalize w6.alloc (Obj.cells #[.slice none 0 0,.slice none 0 0] 28)=W7 at *
 clear hb7 HB6 HN6
 go_fit (small_any W7)
 rintro e w8 ⟨v8,rfl,hv8,hb8⟩
 have hbn:=below_new w8 (Obj.cells #[.int .i64 2,.int .i64 0,.int .i64 0,.int .i64 0,.int .i64 3,.int .i64 0,.int .i64 0,.int .i64 0] 55)
 have HH:=hide (HN.out _ v8 _ (hv8.below hbn) (nodeSl_not (one_new w8 (Obj.cells #[.int .i64 2,.int .i64 0,.int .i64 0,.int .i64 0,.int .i64 3,.int .i64 0,.int .i64 0,.int .i64 0] 55))))
 have HB9:=hide (below_trans (below_trans HB7.out hb8) hbn)
 have HN9:=hide (belowRow hbn (belowRow hb8 HN7.out))
 clear hb8 hbn HB7 HN7 hv8 HN
 go_wp2_with (fail)
 generalize w8.alloc (Obj.cells #[.int .i64 2,.int .i64 0,.int .i64 0,.int .i64 0,.int .i64 3,.int .i64 0,.int .i64 0,.int .i64 0] 55)=W9 at *
 go_fit HH.out
 rintro e w10 ⟨p2,l2,k2,q2,l2',k2',rfl,hpos,hb10⟩
 have HB10:=hide (below_trans HB9.out hb10)
 have HN10:=hide (belowRow hb10 HN9.out)
 clear hb10 HB9 HN9 HH
 go_wp2_with (fail)
 have hb11:=below_new w10 (Obj.cells #[.slice p2 l2 k2,.slice q2 l2' k2'] 28)
 have hn11:=one_new w10 (Obj.cells #[.slice p2 l2 k2,.slice q2 l2' k2'] 28)
 have HB11:=hide (below_trans HB10.out hb11)
 have HN11:=hide (belowRow hb11 HN10.out)
 have HL11:=hide hn11
 generalize w10.alloc (Obj.cells #[.slice p2 l2 k2,.slice q2 l2' k2'] 28)=W11 at *
 generalize w10.heap.size=g11 at *
 clear hb11 hn11 HB10 HN10
 go_fit (small_any W11)
 rintro e w12 ⟨v12,rfl,hv12,hb12⟩
 have HH:=hide (askSmall_any hv12)
 have HB12:=hide (below_trans HB11.out hb12)
 have HN12:=hide (belowRow hb12 HN11.out)
 have HL12:=hide (belowRow hb12 HL11.out)
 clear hb12 HB11 HN11 HL11 hv12
 go_wp2_with (fail)
 go_fit HH.out
 rintro e w13 ⟨rfl,hb13⟩
 have HB13:=hide (below_trans HB12.out hb13)
 have HN13:=hide (belowRow hb13 HN12.out)
 have HL13:=hide (belowRow hb13 HL12.out)
 clear hb13 HB12 HN12 HL12 HH
 go_wp2_with (fail)
 go_fit (small_any w13)
 rintro e w14 ⟨v14,rfl,hv14,hb14⟩
 have HH:=hide (HC.out w14 v14 hv14)
 have HB14:=hide (below_trans HB13.out hb14)
 have HN14:=hide (belowRow hb14 HN13.out)
 have HL14:=hide (belowRow hb14 HL13.out)
 clear hb14 HB13 HN13 HL13 hv14 HC
 go_wp2_with (fail)
 go_fit HH.out
 rintro e w15 ⟨rfl,hb15⟩
 have HB15:=hide (below_trans HB14.out hb15)
 have y1:=cell_of_row _ _ 1 _ _ _ (belowRow hb15 HN14.out)
 have z1:=cell_of_row _ _ 1 _ _ _ (belowRow hb15 HL14.out)
 clear hb15 HB14 HN14 HL14 HH
 go_wp2
 go_ret
 exact ⟨rfl,HB15.out⟩
end Go.Proofs.YtpiacnnifdjlkabGreatDoor
namespace Go.Proofs.YtpiacnnifdjlkabGreatDoor
open Go.ChangeShapes Go.WideShapes Go.ChangeAt Go.RowKit Go.Deep
theorem bytesInt:Tryz.prog.bytesOf 3=8:=by kernel_rfl
theorem intSl_of_trodW {H:Type}{enc:TypeId × Value→H}{W:World}{n:Nat}{u:Value}{y:DataW H × List MemPlace} (h:DataW.trod enc Tryz.prog W 0 (fun _=>true) true n 22 [u]=some y) (hw:(y.1.weights Tryz.prog 22).all (·≤reachBytes)=true) :
  ∃ zs,IntSl W u zs∧zs.length * 8≤140737488355328:=by
 rcases open_ints Tryz.underlying22 Tryz.underlying3 cellsInt h with ⟨hcs,_⟩ | ⟨a,len,cap,zs,hcs,_,hl,hm,hz,rfl,hcell,hwz⟩
 ·simp only [List.cons.injEq,and_true] at hcs
  subst hcs
  exact ⟨[],intSl_nil W,by simp⟩
 ·simp only [List.cons.injEq,and_true] at hcs
  subst hcs
  have hz':zs.length=cap:=hz
  have hlen:(zs.take len).length=len:=by rw [List.length_take];omega
  have hb:((zs.take len).length+(zs.drop len).length) * 8≤reachBytes:=by
   have h1:=List.all_eq_true.1 hw (((lits (H:=H) .i64 (zs.take len)).length+(lits (H:=H) .i64 (zs.drop len)).length) * Tryz.prog.bytesOf 3) (by
    simp only [DataW.weights,Tryz.underlying22]
    exact List.mem_cons_self)
   rw [bytesInt] at h1
   simpa [lits] using h1
  refine ⟨zs.take len,⟨some a,cap,by rw [hlen],by rw [hlen];omega,?_,fun e=>(by cases e),by rw [hlen];exact hl⟩,?_⟩
  ·by_cases h0:len=0
   ·left
    rw [h0]
    rfl
   ·right
    obtain ⟨b,off,rfl⟩:=plain_addr (hcell 0 (by omega))
    refine ⟨b,off,rfl,fun i hi=>?_⟩
    rw [hlen] at hi
    have ci:=hcell i (by omega)
    rw [add_none] at ci
    rw [ci]
    congr 2
    simp [List.getD,hi]
  ·have:=reachBytes_lt
   omega
theorem weightsAll_mem {H:Type}{P:Program}{e:TypeId}:∀ {ds:List (DataW H)}{d:DataW H},d ∈ ds→∀ n ∈ d.weights P e,n ∈ DataW.weightsAll P e ds
 | d0 :: ds,d,hd,n,hn=>by
  simp only [DataW.weightsAll,List.mem_append]
  rcases List.mem_cons.1 hd with rfl | hd
  ·exact Or.inl hn
  ·exact Or.inr (weightsAll_mem hd n hn)
theorem rowsSl_of_trod {H:Type}{enc:TypeId × Value→H}{W:World}{n:Nat}{u:Value}{y:DataW H × List MemPlace} (h:DataW.trod enc Tryz.prog W 0 (fun _=>true) true n 57 [u]=some y) (hw:(y.1.weights Tryz.prog 57).all (·≤reachBytes)=true) :
  ∃ rows,RowsSl W u rows∧∀ r ∈ rows,r.length * 8≤140737488355328:=by
 have hc1:Tryz.prog.cellsOf 22=1:=by kernel_rfl
 rcases open_slice1 Tryz.underlying57 hc1 h with ⟨hcs,_⟩ | ⟨a,len,cap,m,k,V,D,Pl,hcs,_,hl,hm,hmm,rfl,hel⟩
 ·simp only [List.cons.injEq,and_true] at hcs
  subst hcs
  exact ⟨[],⟨.none,0,rfl,by simp [maxLen],Or.inl rfl⟩,fun r hr=>by cases hr⟩
 ·simp only [List.cons.injEq,and_true] at hcs
  subst hcs
  simp only [if_true] at hmm
  subst hmm
  have each:∀ i,i < len→∃ r:List Int,W.cell? (a.add i)=some (V i)∧IntSl W (V i) r∧r.length * 8≤140737488355328:=fun i hi=>by
   obtain ⟨h1,h2⟩:=hel i (by omega)
   obtain ⟨r,h3,h4⟩:=intSl_of_trodW h2 (by
    rw [List.all_eq_true]
    intro x hx
    refine List.all_eq_true.1 hw x ?_
    simp only [DataW.weights,Tryz.underlying57]
    refine List.mem_cons_of_mem _ (List.mem_append_left _ (weightsAll_mem (d:=D i) ?_ x hx))
    exact List.mem_map.2 ⟨i,List.mem_range.2 hi,rfl⟩)
   exact ⟨r,h1,h3,h4⟩
  obtain ⟨S,hS⟩:=@choose_lt (List Int) ⟨[]⟩ _ _ each
  have hlen:((List.range len).map S).length=len:=by simp
  refine ⟨(List.range len).map S,⟨some a,m,by rw [hlen],by rw [hlen];omega,?_⟩,fun r hr=>?_⟩
  ·by_cases h0:len=0
   ·left
    rw [h0]
    rfl
   ·right
    obtain ⟨b,off,rfl⟩:=plain_addr (hS 0 (by omega)).1
    refine ⟨b,off,rfl,fun i hi=>?_⟩
    rw [hlen] at hi
    obtain ⟨q0,q1,_⟩:=hS i hi
    rw [add_none] at q0
    have e:((List.range len).map S).getD i []=S i:=by simp [List.getD,hi]
    rw [e]
    exact ⟨_,q0,q1⟩
  ·obtain ⟨i,hi,rfl⟩:=List.mem_map.1 hr
   exact (hS i (List.mem_range.1 hi)).2.2
theorem model_of_trod {H:Type}{enc:TypeId × Value→H}{W:World}{r:Reach}{b0:Nat}{v:Value}{d:DataW H}{p:List MemPlace} (hv:Value.okWide Tryz.prog W r b0 59 v) (h:DataW.Trod enc Tryz.prog W 0 (fun _=>true) true 59 v d p) (hw:(d.weights Tryz.prog 59).all (·≤reachBytes)=true) :
  ∃ M,MdV W v M∧M.first.length * 8≤140737488355328∧∀ r ∈ M.steps,r.length * 8≤140737488355328:=by
 obtain ⟨v0,v1,v2,v3,y0,y1,y2,y3,n,rfl,rfl,_,t0,t1,t2,t3⟩:=Go.Joins.open_agg4 Tryz.underlying59 (by kernel_rfl) (by kernel_rfl) hv h
 have hwe:∀ x,x ∈ DataW.weightsEach Tryz.prog [3,22,22,57] [y0.1,y1.1,y2.1,y3.1]→(x≤reachBytes):=fun x hx=>by
  have:=List.all_eq_true.1 hw x (by simp only [DataW.weights,Tryz.underlying59];exact hx)
  simpa using this
 have part:∀ {j:Nat}{t:TypeId}{y:DataW H},[3,22,22,57][j]?=some t→[y0.1,y1.1,y2.1,y3.1][j]?=some y→(y.weights Tryz.prog t).all (·≤reachBytes)=true:=fun {j t y} ht hy=>by
  rw [List.all_eq_true]
  intro x hx
  simpa using hwe x (DataW.weights_mem_each ht hy x hx)
 obtain ⟨z0,rfl,_⟩:=one_int t0
 obtain ⟨ls,i1,_⟩:=intSl_of_trod t1
 obtain ⟨fs,i2,b2⟩:=intSl_of_trodW t2 (part (j:=2) rfl rfl)
 obtain ⟨rows,i3,b3⟩:=rowsSl_of_trod t3 (part (j:=3) rfl rfl)
 exact ⟨⟨z0,ls,fs,rows⟩,⟨_,_,_,rfl,i1,i2,i3⟩,b2,b3⟩
end Go.Proofs.YtpiacnnifdjlkabGreatDoor
namespace Go.Proofs.YtpiacnnifdjlkabGreatDoor
open Go.RowKit Go.Sort
theorem modelTakes_any {w:World}{v hv lv:Value}{M:Mdl}{hs ls:List Int} (hV:MdV w v M) (hh:IntSl w hv hs) (hl:IntSl w lv ls) (hbf:M.first.length * 8≤140737488355328) (hbr:∀ r ∈ M.steps,r.length * 8≤140737488355328) (ht:Tab w) :
  Calls Tryz.prog 4 #[v,.agg #[hv,lv]] w fun e w'=>e=.returned (.bool true)∧Below w.heap.size w w':=by
 have HAu:=hide (fun (W:World) (hb:Below w.heap.size w W)=>mAuto_any (hV.below hb) hbf hbr)
 have HCM:=hide (fun (W:World) (hb:Below w.heap.size w W)=>checkModelR_any (hV.below hb))
 have HCh:=hide (fun (W:World) (hb:Below w.heap.size w W)=>mCheck_any (hV.below hb))
 have HWB:=hide (fun (W:World) (hb:Below w.heap.size w W)=>wordBegun_any (ht.below hb))
 have HTk:Hid (∀ W av O,Below w.heap.size w W→AutV W av O→chkA O=0→O.m=8→Calls Tryz.prog 34 #[av,.agg #[hv,lv]] W fun e w'=>∃ b:Bool,e=.returned (.tuple #[.bool b,.int .i64 (chk hs ls 8)])∧(chk hs ls 8=0→(b=true ↔ TakesA O hs ls))∧Below W.heap.size W w'):=hide fun W av O hb hA hc hm=>by
  refine (takes_any hA (hh.below hb) (hl.below hb) (ht.below hb)).mono ?_
  rintro e w' ⟨b,rfl,h1,h2⟩
  have e1:tkE O hs ls=chk hs ls 8:=by unfold tkE;rw [if_neg (by rw [hc];simp),hm]
  rw [e1] at h1 ⊢
  exact ⟨b,rfl,fun h0=>h1.trans ⟨fun h=>h.2,fun h=>⟨h0,h⟩⟩,h2⟩
 have HGo:Hid (chkM M=0→chk hs ls 8=0→∀ W (b:Bool),Below w.heap.size w W→(b=true ↔ TakesA (wordsA M M.labels.length (rowsS M M.labels.length)) hs ls)→Calls Tryz.prog 35 #[v,.agg #[hv,lv]] W fun e w'=>e=.returned (.bool b)∧Below W.heap.size W w'):=hide fun hc hk W b hb hiff=>by
  obtain ⟨q1,q2,q3,_⟩:=chk_ok hk
  have hM:=chkM_right hc
  refine goesBy_any hM (hV.below hb) (hh.below hb) (hl.below hb) q1 q2 q3 b (hiff.trans ?_)
  rw [takes_word q3,← goes_iff hM (words_right M) q3]
  rfl
 have HWc:Hid (chkM M=0→chkA (wordsA M M.labels.length (rowsS M M.labels.length))=0∧(wordsA M M.labels.length (rowsS M M.labels.length)).m=8∧(wordsA M M.labels.length (rowsS M M.labels.length)).n=(M.labels.length:Nat)∧M.labels.length≤12):=hide fun hc=>⟨words_chk (chkM_right hc),rfl,rfl,(chkM_right hc).n12⟩
 obtain ⟨lbv,fv,sv,rfl,m1,m2,m4⟩:=hV
 obtain ⟨a1,c1,rfl,hm1,-⟩:=m1
 obtain ⟨a2,c2,rfl,-⟩:=m2
 obtain ⟨a3,c3,rfl,-⟩:=m4
 obtain ⟨h1,k1,rfl,-⟩:=hh
 obtain ⟨h2,k2,rfl,-⟩:=hl
 unfold maxLen at hm1
 generalize chkM M=c at *
 generalize chk hs ls 8=ck at *
 generalize wordsA M M.labels.length (rowsS M M.labels.length)=O at *
 generalize M.props=p at *
 generalize M.labels.length=l1 at *
 generalize M.first.length=l2 at *
 generalize M.steps.length=l3 at *
 generalize hs.length=lh at *
 generalize ls.length=ll at *
 clear hbr ht hbf
 have hbm:=below_trans (below_new w (Obj.cells #[.int .i64 p,.slice a1 l1 c1,.slice a2 l2 c2,.slice a3 l3 c3] 59)) (below_new _ (Obj.cells #[.slice h1 lh k1,.slice h2 ll k2] 28))
 have hr1:=belowRow (below_new _ (Obj.cells #[.slice h1 lh k1,.slice h2 ll k2] 28)) (one_new w (Obj.cells #[.int .i64 p,.slice a1 l1 c1,.slice a2 l2 c2,.slice a3 l3 c3] 59))
 have hr2:=one_new (w.alloc (Obj.cells #[.int .i64 p,.slice a1 l1 c1,.slice a2 l2 c2,.slice a3 l3 c3] 59)) (Obj.cells #[.slice h1 lh k1,.slice h2 ll k2] 28)
 rw [show (w.alloc (Obj.cells #[.int .i64 p,.slice a1 l1 c1,.slice a2 l2 c2,.slice a3 l3 c3] 59)).heap.size=w.heap.size+1 by simp] at hr2
 have HW0:=hide (show GoW w (Obj.cells #[.int .i64 p,.slice a1 l1 c1,.slice a2 l2 c2,.slice a3 l3 c3] 59) (Obj.cells #[.slice h1 lh k1,.slice h2 ll k2] 28) ((w.alloc (Obj.cells #[.int .i64 p,.slice a1 l1 c1,.slice a2 l2 c2,.slice a3 l3 c3] 59)).alloc (Obj.cells #[.slice h1 lh k1,.slice h2 ll k2] 28)) from ⟨hbm,hr1,hr2⟩)
 have HLd:=hide (model_load hr1)
 clear hbm hr1 hr2
 go_enter Tryz.func4,Tryz.ntmps4
 go_wp2_with (first | (show wpList _ _ _ (⟨some 10,_,_,_,_,_⟩ :: _) _ _;refine wpl_loadM HLd.out rfl rfl rfl ?_))
 generalize (w.alloc (Obj.cells #[.int .i64 p,.slice a1 l1 c1,.slice a2 l2 c2,.slice a3 l3 c3] 59)).alloc (Obj.cells #[.slice h1 lh k1,.slice h2 ll k2] 28)=W0 at *
 go_fit (HAu.out W0 HW0.out.bl)
 rintro e w1 ⟨v',rfl,hm⟩
 have HW1:=hide (HW0.out.below hm.bl)
 have HM:=hide hm
 clear hm HLd HAu
 by_cases hc:c=0
 ·subst hc
  have hA:=HM.out.good rfl
  have HA:=hide hA
  obtain ⟨o1,o2,o3,rfl,j1,j2,j3⟩:=hA
  obtain ⟨b1,x1,rfl⟩:=owns_form j1
  obtain ⟨b2,x2,rfl⟩:=owns_form j2
  obtain ⟨b3,x3,rfl⟩:=owns_form j3
  obtain ⟨wc1,wc2,wc3,hl12⟩:=HWc.out rfl
  have HWc1:=hide wc1
  have HTK:=hide (fun (W:World) (av:Value) (hb:Below w.heap.size w W) (hA:AutV W av O)=>HTk.out W av O hb hA wc1 wc2)
  have HGO:=hide (fun (hk:ck=0)=>HGo.out rfl hk)
  clear HTk HGo
  have hbn:=below_new w1 (Obj.cells #[.int .i64 O.n,.int .i64 O.m,.slice b1 O.first.length x1,.slice b2 O.good.length x2,.slice b3 O.steps.length x3] 26)
  have HON:=hide (one_new w1 (Obj.cells #[.int .i64 O.n,.int .i64 O.m,.slice b1 O.first.length x1,.slice b2 O.good.length x2,.slice b3 O.steps.length x3] 26))
  have HA2:=hide (HA.out.aut.below hbn)
  have HW2:=hide (HW1.out.below hbn)
  have HLd:=hide (model_load HW2.out.m)
  rw [wc3,wc2] at *
  clear hbn j1 j2 j3 HM HA HW1 HW0 wc1 wc2 wc3 HWc
  go_wp2_with (first | (show wpList _ _ _ (⟨some 14,_,_,_,_,_⟩ :: _) _ _;refine wpl_loadM HLd.out rfl rfl rfl ?_))
  generalize w1.alloc (Obj.cells #[.int .i64 (l1:Nat),.int .i64 8,.slice b1 O.first.length x1,.slice b2 O.good.length x2,.slice b3 O.steps.length x3] 26)=W2 at *
  generalize w1.heap.size=g at *
  go_fit (HCM.out W2 HW2.out.bl)
  rintro e w3 ⟨rfl,hb3⟩
  have HW3:=hide (HW2.out.below hb3)
  have HO3:=hide (belowRow hb3 HON.out)
  have HA3:=hide (HA2.out.below hb3)
  clear hb3 HW2 HON HA2 HLd HCM
  go_wp2_with (fail)
  go_fit (modelBegun_any w3)
  rintro e w4 ⟨rfl,hb4⟩
  have HW4:=hide (HW3.out.below hb4)
  have HO4:=hide (belowRow hb4 HO3.out)
  have HA4:=hide (HA3.out.below hb4)
  clear hb4 HW3 HO3 HA3
  go_wp2_with (fail)
  go_fit (HWB.out w4 HW4.out.bl)
  rintro e w5 ⟨rfl,hb5⟩
  have HW5:=hide (HW4.out.below hb5)
  have HO5:=hide (belowRow hb5 HO4.out)
  have HA5:=hide (HA4.out.below hb5)
  have m0:=cell_of_row _ _ 0 _ _ _ HW5.out.m
  have m1:=cell_of_row _ _ 1 _ _ _ HW5.out.m
  have m2:=cell_of_row _ _ 2 _ _ _ HW5.out.m
  have m3:=cell_of_row _ _ 3 _ _ _ HW5.out.m
  clear hb5 HW4 HO4 HA4 HWB
  go_wp2_with (fail)
  clear m0 m1 m2 m3
  go_fit (HCh.out w5 HW5.out.bl)
  rintro e w6 ⟨rfl,hb6⟩
  have HW6:=hide (HW5.out.below hb6)
  have HO6:=hide (belowRow hb6 HO5.out)
  have HA6:=hide (HA5.out.below hb6)
  have o0:=cell_of_row _ _ 0 _ _ _ HO6.out
  have o1:=cell_of_row _ _ 1 _ _ _ HO6.out
  have o2:=cell_of_row _ _ 2 _ _ _ HO6.out
  have o3:=cell_of_row _ _ 3 _ _ _ HO6.out
  have o4:=cell_of_row _ _ 4 _ _ _ HO6.out
  clear hb6 HW5 HO5 HA5 HCh
  go_wp2_with (fail)
  have HK:=hide (checkAutoR_any HA6.out)
  rw [HWc1.out] at HK
  go_fit HK.out
  rintro e w7 ⟨rfl,hb7⟩
  have HW7:=hide (HW6.out.below hb7)
  have HO7:=hide (belowRow hb7 HO6.out)
  have HA7:=hide (HA6.out.below hb7)
  have HLd:=hide (model_load HW7.out.m)
  clear o0 o1 o2 o3 o4 hb7 HK HW6 HA6 HO6
  have o0:=cell_of_row _ _ 0 _ _ _ HO7.out
  have o1:=cell_of_row _ _ 1 _ _ _ HO7.out
  have o2:=cell_of_row _ _ 2 _ _ _ HO7.out
  have o3:=cell_of_row _ _ 3 _ _ _ HO7.out
  have o4:=cell_of_row _ _ 4 _ _ _ HO7.out
  have mm1:=cell_of_row _ _ 1 _ _ _ HW7.out.m
  have r0:=cell_of_row _ _ 0 _ _ _ HW7.out.l
  have r1:=cell_of_row _ _ 1 _ _ _ HW7.out.l
  go_wp2_with (fail)
  go_fit (HTK.out w7 _ HW7.out.bl HA7.out)
  rintro e w8 ⟨b,rfl,hiff,hb8⟩
  have HI:=hide hiff
  have HW8:=hide (HW7.out.below hb8)
  have m0:=cell_of_row _ _ 0 _ _ _ HW8.out.m
  have m1:=cell_of_row _ _ 1 _ _ _ HW8.out.m
  have m2:=cell_of_row _ _ 2 _ _ _ HW8.out.m
  have m3:=cell_of_row _ _ 3 _ _ _ HW8.out.m
  have s0:=cell_of_row _ _ 0 _ _ _ HW8.out.l
  have s1:=cell_of_row _ _ 1 _ _ _ HW8.out.l
  clear hb8 hiff o0 o1 o2 o3 o4 mm1 r0 r1 HO7 HA7 HLd HTK HWc1
  by_cases hk:ck=0
  ·subst hk
   have HG:=hide (HGO.out (by first | rfl | trivial) w8 b HW8.out.bl (HI.out (by first | rfl | trivial)))
   clear HGO HI
   go_wp2_with (fail)
   go_fit HG.out
   rintro e w9 ⟨rfl,hb9⟩
   have HB9:=hide (below_trans HW8.out.bl hb9)
   clear hb9 s0 s1 m0 m1 m2 m3
   go_wp2
   go_ret
   exact ⟨by simp,HB9.out⟩
  ·have hd:(ck != 0)=true:=by simpa using hk
   have HB8:=hide HW8.out.bl
   clear hk HGO HI
   go_wp2
   go_ret
   exact ⟨rfl,HB8.out⟩
 ·obtain rfl:=HM.out.bad hc
  have hd:(c != 0)=true:=by simpa using hc
  have hbn:=below_new w1 (Obj.cells #[.int .i64 0,.int .i64 0,.slice none 0 0,.slice none 0 0,.slice none 0 0] 26)
  have HON:=hide (one_new w1 (Obj.cells #[.int .i64 0,.int .i64 0,.slice none 0 0,.slice none 0 0,.slice none 0 0] 26))
  have HW2:=hide (HW1.out.below hbn)
  have HLd:=hide (model_load HW2.out.m)
  clear hbn HM HW1 HW0 HWc hc HTk HGo
  go_wp2_with (first | (show wpList _ _ _ (⟨some 14,_,_,_,_,_⟩ :: _) _ _;refine wpl_loadM HLd.out rfl rfl rfl ?_))
  generalize w1.alloc (Obj.cells #[.int .i64 0,.int .i64 0,.slice none 0 0,.slice none 0 0,.slice none 0 0] 26)=W2 at *
  generalize w1.heap.size=g at *
  go_fit (HCM.out W2 HW2.out.bl)
  rintro e w3 ⟨rfl,hb3⟩
  have HW3:=hide (HW2.out.below hb3)
  have HO3:=hide (belowRow hb3 HON.out)
  clear hb3 HW2 HON HLd HCM
  go_wp2_with (fail)
  go_fit (modelBegun_any w3)
  rintro e w4 ⟨rfl,hb4⟩
  have HW4:=hide (HW3.out.below hb4)
  have HO4:=hide (belowRow hb4 HO3.out)
  clear hb4 HW3 HO3
  go_wp2_with (fail)
  go_fit (HWB.out w4 HW4.out.bl)
  rintro e w5 ⟨rfl,hb5⟩
  have HW5:=hide (HW4.out.below hb5)
  have HO5:=hide (belowRow hb5 HO4.out)
  have m0:=cell_of_row _ _ 0 _ _ _ HW5.out.m
  have m1:=cell_of_row _ _ 1 _ _ _ HW5.out.m
  have m2:=cell_of_row _ _ 2 _ _ _ HW5.out.m
  have m3:=cell_of_row _ _ 3 _ _ _ HW5.out.m
  clear hb5 HW4 HO4 HWB
  go_wp2_with (fail)
  clear m0 m1 m2 m3
  go_fit (HCh.out w5 HW5.out.bl)
  rintro e w6 ⟨rfl,hb6⟩
  have HW6:=hide (HW5.out.below hb6)
  have o0:=cell_of_row _ _ 0 _ _ _ (belowRow hb6 HO5.out)
  clear hb6 HW5 HO5 HCh
  go_wp2
  go_ret
  exact ⟨rfl,HW6.out.bl⟩
end Go.Proofs.YtpiacnnifdjlkabGreatDoor
namespace Go.Proofs.YtpiacnnifdjlkabGreatDoor
open Go.ChangeShapes Go.WideShapes Go.ChangeAt Go.RowKit Go.Deep
theorem gTabMType:(Tryz.prog.globals[2]?).map (·.type)=some 294:=by kernel_rfl
theorem cellsTabM:Tryz.prog.cellsOf 294=64:=by kernel_rfl
theorem cellsU8M:Tryz.prog.cellsOf 5=1:=by kernel_rfl
theorem laid_tailM {P:Program}{x:String × DataW Unit}{rest:List (String × DataW Unit)}{W:World} (h:laidMet P (x :: rest) W):laidMet P rest W:=by
 obtain ⟨ps,⟨g,t,cs,fuel,p,q,h1,h2,h3,h4,h5,rfl⟩,hnd,hall⟩:=h
 exact ⟨q,h5,(List.nodup_append.1 hnd).2.1,fun b off hm=>hall b off (List.mem_append_right _ hm)⟩
def layCellsM (k:IntKind) (zs:List Int):Obj→Obj
 | .cells _ t frozen=>.cells (zs.map fun z=>Value.int k z).toArray t frozen
 | o=>o
def layTabsM (W:World):World:=
 { W with heap:=((W.heap.modify 3 (layCellsM .u8 [0,1,28,2,29,14,24,3,30,22,20,15,25,17,4,8,31,27,13,23,21,19,16,7,26,12,18,6,11,5,10,9])).modify 2 (layCellsM .u8 (Lib.deBruijn64tab.map (fun n:Nat=>(n:Int))))).modify 0 (layCellsM .u64 Lib.pow10Tab) }
theorem modelTakes_table {W:World} (h:laidMetH Tryz.prog Rows.modelTakesRow.laid W):Lib.TabIs Tryz.prog W "math/bits.deBruijn64tab" .u8 tab64:=
 Lib.tabIs_of_head gTab64 gTabMType Tryz.underlying294 Tryz.underlying5 cellsU8M cellsTabM (laid_tailM (show laidMet Tryz.prog (_ :: _ :: _ :: []) W from h))
theorem modelTakes_contract (H:Type) (enc:TypeId × Value→H) (W:World) (base:Nat) (args:Array Value) (ds gs:List (DataW H)) (before:List MemPlace)
  (hval:∀ (j:Nat) t v,Tryz.f4.params[j]?=some t→args[j]?=some v→Value.okWide Tryz.prog W .any base t v)
  (hW:DataW.Whole enc Tryz.prog Tryz.f4.params.toList Rows.modelTakesSpec.vars false W args.toList ds gs before) (hS:(DataW.weightsEach Tryz.prog (Tryz.f4.params.toList ++ (OpenSpec.ofChange Rows.modelTakesSpec).bare.plain.varTypes Tryz.prog) (ds ++ gs)).all (·≤reachBytes)=true) (hL:laidMetH Tryz.prog Rows.modelTakesRow.laid W) :
  Calls Tryz.prog 4 args W fun e W'=>∃ v,e=.returned v∧Rows.modelTakesSpec.post enc Tryz.prog Tryz.f4 false true false false W args v W':=by
 have hW':=hW
 obtain ⟨p,q,hA0,hV,rfl,hfz,hnd⟩:=hW
 have hA:DataW.TrodAll enc Tryz.prog W 0 (fun _=>true) true Tryz.f4.params.toList args.toList ds p:=hA0
 rw [Tryz.params4] at hA hval hS
 obtain ⟨v0,v1,d0,d1,p0,p1,rfl,rfl,rfl,h0,h1⟩:=trodAll_two hA
 obtain ⟨rfl,rfl⟩:=trodVars_none hV
 have h0k:=h0
 have h1k:=h1
 have hSM:(d0.weights Tryz.prog 59).all (·≤reachBytes)=true:=by
  rw [List.all_eq_true]
  intro x hx
  exact List.all_eq_true.1 hS x (DataW.weights_mem_each (j:=0) (t:=59) (d:=d0) rfl rfl x hx)
 obtain ⟨M,hMd,hbf,hbr⟩:=model_of_trod (hval 0 59 _ rfl rfl) h0 hSM
 obtain ⟨hv,lv,hs,ls,rfl,i0,i1⟩:=lasso_of_trod (hval 1 28 _ rfl rfl) h1
 clear hA0 hA
 simp only [List.append_nil] at hW' hfz
 have hlt0:∀ x ∈ p0,x.block < W.heap.size:=fun x hx=>by simpa using hW'.lt x (by simp [hx])
 have hlt1:∀ x ∈ p1,x.block < W.heap.size:=fun x hx=>by simpa using hW'.lt x (by simp [hx])
 refine (modelTakes_any hMd i0 i1 hbf hbr (tab_of_is (modelTakes_table hL))).mono fun e W' ⟨he,hb⟩=>?_
 subst he
 exact ⟨_,rfl,_,_,_,[],_,[],hW',trodAll_mk1 (shut_bool Tryz.underlying4 _),trodAll_mk2 (Below.trod laidOut (by kernel_rfl) (of_decide_eq_true (by kernel_rfl)) h0k hb hlt0) (Below.trod laidOut (by kernel_rfl) (of_decide_eq_true (by kernel_rfl)) h1k hb hlt1),rfl,hb.frame _,fun h=>by cases h⟩
def modelTakes_args:Array Value:=#[.agg #[.int .i64 0,.slice .none 0 0,.slice .none 0 0,.slice .none 0 0],.agg #[.slice .none 0 0,.slice .none 0 0]]
theorem modelTakes_met (os:Os):laidMet Tryz.prog Rows.modelTakesRow.laid ((layTabsM (World.holding Tryz.prog os ⟨#[],#[],[]⟩)).forCall (fun _ _=>0) ⟨#[],modelTakes_args,[]⟩).memory:=
 laidMet_of_run' 8 (by kernel_rfl) (by kernel_rfl)
theorem modelTakes_reads (os:Os) {H:Type} (enc:TypeId × Value→H):∃ places,DataW.whole enc Tryz.prog ((layTabsM (World.holding Tryz.prog os ⟨#[],#[],[]⟩)).forCall (fun _ _=>0) ⟨#[],modelTakes_args,[]⟩).memory Tryz.f4.params.toList Rows.modelTakesSpec.vars false modelTakes_args.toList 8=some ([.agg [.lit (.int .i64 0),.nil,.nil,.nil],.agg [.nil,.nil]],[],places):=
 ⟨[],by kernel_rfl⟩
theorem modelTakes_lifted (os:Os) (started:os.Started) (H:Type) (enc:TypeId × Value→H) (F:Stop.Interp) :
  ReturnsInHanded {} Tryz.checked os 4 .any ((OpenSpec.ofChange Rows.modelTakesSpec).preRow enc Tryz.prog Tryz.f4 Rows.modelTakesRow.domain false Rows.modelTakesRow.laid) (((OpenSpec.ofChange Rows.modelTakesSpec).at F).post enc Tryz.prog Tryz.f4 false true false false):=by
 obtain ⟨places,hx⟩:=modelTakes_reads os enc
 refine returnsInHanded_of_row (C:=Tryz.checked) (s:=OpenSpec.ofChange Rows.modelTakesSpec) own started (by kernel_rfl) Tryz.func4
  (witness_row_at (enc:=enc) (C:=Tryz.checked) false (layTabsM (World.holding Tryz.prog os ⟨#[],#[],[]⟩)) modelTakes_args rfl (by kernel_rfl) (by kernel_rfl) (by kernel_rfl)
   (OpenSpec.preRow_of_cond 8 hx (by kernel_rfl) (fun k hk=>by cases hk) (by kernel_rfl) (modelTakes_met os))) ?_
 intro W base args ds gs before hval hW _ _ hS hL _ _
 exact modelTakes_contract H enc W base args ds gs before hval hW hS hL
theorem modelTakes_said:Rows.ModelTakesSaid:=
 OpenClaim.holds_of_cond 4 Tryz.f4 rfl rfl rfl rfl rfl rfl rfl ⟨rfl,rfl,rfl,rfl,rfl⟩ rfl rfl rfl rfl rfl (by kernel_rfl) Tryz.func4 (by kernel_rfl)
  (of_decide_eq_true (by kernel_rfl)) (by unfold Func.isWrapper;first | (rw [if_pos (by decide +kernel)];kernel_rfl) | (rw [if_neg (by decide +kernel)];exact ⟨rfl,rfl⟩))
  (fun os started H enc _ F=>by rw [OpenClaim.pre_eq_preRow];exact modelTakes_lifted os started H enc F)
theorem modelTakes_plain (f:FuncId) (fn:Func) (hf:Tryz.pinned.checked.prog.funcNamed "lassowork/lassoworklaw.ModelTakes"=some f) (hfn:Tryz.pinned.checked.prog.funcs[f]?=some fn) :
  true=Tryz.pinned.checked.prog.looks []∧∀ (j:Nat) t,fn.params[j]?=some t→Tryz.pinned.checked.prog.wantsStandIn t=false:=by
 obtain rfl:f=4:=Option.some.inj ((show Tryz.prog.funcNamed "lassowork/lassoworklaw.ModelTakes"=some 4 by kernel_rfl).symm.trans hf) |>.symm
 obtain rfl:fn=Tryz.f4:=(Option.some.inj (Tryz.func4.symm.trans hfn)).symm
 refine ⟨by kernel_rfl,fun j t ht=>?_⟩
 rw [Tryz.params4] at ht
 have hm:=Array.mem_of_getElem? ht
 simp only [List.mem_toArray,List.mem_cons,List.not_mem_nil,or_false] at hm
 rcases hm with rfl | rfl
 ·exact (show Tryz.prog.wantsStandIn 59=false by kernel_rfl)
 ·exact (show Tryz.prog.wantsStandIn 28=false by kernel_rfl)
theorem modelTakes_card:Rows.ModelTakesCardSaid:=
 Claim7.holds_tied_plain_at .later [] _ _ _ _ modelTakes_said (fun _ h=>by cases h) (by kernel_rfl) (fun _ h=>by cases h) modelTakes_row_tie rfl ⟨rfl,rfl⟩ (by kernel_rfl) rfl modelTakes_plain (by kernel_rfl)
end Go.Proofs.YtpiacnnifdjlkabGreatDoor
