import Derived.Test.YtpiacnnifdjlkabGreatDoorNb
import Derived.Test.YtpiacnnifdjlkabGreatDoorFc
import Derived.Test.YtpiacnnifdjlkabGreatDoorTd
import Derived.Test.YtpiacnnifdjlkabGreatDoorEa
import Derived.Test.YtpiacnnifdjlkabGreatDoorVo
set_option maxRecDepth 100000
set_option maxHeartbeats 8000000
namespace Go.Proofs.YtpiacnnifdjlkabGreatDoor
open Go.RowKit Go.Sort
theorem newTable_any {w:World}{a a0 a1:Option Addr}{c c0 c1:Nat}{F:List Nd}{hs ls:List Int} (hF:NodeSl w (.slice a F.length c) F) (hh:IntSl w (.slice a0 hs.length c0) hs) (hl:IntSl w (.slice a1 ls.length c1) ls) (h5:hs.length≤4000) (h6:ls.length≤4000) (h7:0 < ls.length) (hok:chkF F=0) (hlet:∀ i,i < hs.length+ls.length→0≤(hs ++ ls).getD i 0∧(hs ++ ls).getD i 0≤7) :
  Calls Tryz.prog 73 #[.slice a F.length c,.agg #[.slice a0 hs.length c0,.slice a1 ls.length c1]] w fun e w'=>∃ R v1 v2,e=.returned (.agg #[v1,v2,.slice (some ⟨R,0,none⟩) F.length F.length])∧(∀ j,j < F.length→∃ a n c,w'.cell? ⟨R,j,none⟩=some (.slice a n c)∧RowSl w' (.slice a n c) ((tabN F hs.length ls.length (fun i=>(hs ++ ls).getD i 0) F.length).getD j []))∧Below w.heap.size w w':=by
 have h12:=(chkF_ok hok).2.1
 have hM0:=(chkF_ok hok).1
 have HOK:=hide (And.intro (chkF_ok hok).2.2 hlet)
 clear hok hlet
 generalize hT:tabN F hs.length ls.length (fun i=>(hs ++ ls).getD i 0) F.length=T at *
 have HT:=hide hT
 clear hT
 have hmk:=make_rows F.length (by omega)
 have HF:=hide hF
 have Hh:=hide hh
 have Hl:=hide hl
 have HC:Hid (∀ W,Below w.heap.size w W→∀ vb,W.cell? ⟨vb,0,none⟩=some (.slice a0 hs.length c0)→W.cell? ⟨vb,1,none⟩=some (.slice a1 ls.length c1)→Calls Tryz.prog 122 #[.slice (some ⟨vb,0,none⟩) 2 2] W fun e w'=>∃ g lc,e=.returned (.slice (some ⟨g,0,none⟩) (hs.length+ls.length) lc)∧IntSl w' (.slice (some ⟨g,0,none⟩) (hs.length+ls.length) lc) (hs ++ ls)∧W.heap.size≤g∧Below W.heap.size W w'):=fun W hb vb v0 v1=>concat_any (hh.below hb) (hl.below hb) v0 v1 h5 h6 h7
 clear hF hh hl
 generalize hN:hs.length=n0 at *
 generalize hM:ls.length=n1 at *
 generalize hK:F.length=M at *
 have HL:=hide (And.intro hN (And.intro hM hK))
 clear hN hM hK
 have z02:w.heap.size < w.heap.size+1+1:=by omega
 have z03:w.heap.size < w.heap.size+1+1+1:=by omega
 have z04:w.heap.size < w.heap.size+1+1+1+1:=by omega
 have z05:w.heap.size < w.heap.size+1+1+1+1+1:=by omega
 have z06:w.heap.size < w.heap.size+1+1+1+1+1+1:=by omega
 have z13:w.heap.size+1 < w.heap.size+1+1+1:=by omega
 have z14:w.heap.size+1 < w.heap.size+1+1+1+1:=by omega
 have z15:w.heap.size+1 < w.heap.size+1+1+1+1+1:=by omega
 have z16:w.heap.size+1 < w.heap.size+1+1+1+1+1+1:=by omega
 have z24:w.heap.size+1+1 < w.heap.size+1+1+1+1:=by omega
 have z25:w.heap.size+1+1 < w.heap.size+1+1+1+1+1:=by omega
 have z26:w.heap.size+1+1 < w.heap.size+1+1+1+1+1+1:=by omega
 have z35:w.heap.size+1+1+1 < w.heap.size+1+1+1+1+1:=by omega
 have z36:w.heap.size+1+1+1 < w.heap.size+1+1+1+1+1+1:=by omega
 have z46:w.heap.size+1+1+1+1 < w.heap.size+1+1+1+1+1+1:=by omega
 go_enter Tryz.func73,Tryz.ntmps73
 go_wp2_with (fail)
 rename_i K hK
 have key:∀ (gT gv R g lc:Nat) (W:World),Below w.heap.size w W→W.cell? ⟨gT,0,none⟩=some (.slice (some ⟨g,0,none⟩) (n0+n1) lc)→W.cell? ⟨gT,1,none⟩=some (.int .i64 n0)→W.cell? ⟨gT,2,none⟩=some (.slice (some ⟨R,0,none⟩) M M)→W.heap[R]?=some (Obj.cells (nilRows M) 23)→W.heap[w.heap.size+1]?=some (Obj.cells #[.slice none 0 0,.int .i64 0,.slice none 0 0] 116)→IntSl W (.slice (some ⟨g,0,none⟩) (n0+n1) lc) (hs ++ ls) →
   (gT ≠ R∧w.heap.size+1 < gT∧w.heap.size+1 < R∧w.heap.size+1 < g∧g ≠ R)→K { tmps:=#[.slice a M c,.agg #[.slice a0 n0 c0,.slice a1 n1 c1],undef,.pointer (some ⟨w.heap.size,0,none⟩),.pointer (some ⟨w.heap.size+1,0,none⟩),.pointer (some ⟨gT,0,none⟩),undef,undef,.pointer (some ⟨w.heap.size,0,none⟩),.slice a0 n0 c0,.pointer (some ⟨w.heap.size,1,none⟩),.slice a1 n1 c1,.slice (some ⟨gv,0,none⟩) 2 2,.slice (some ⟨g,0,none⟩) (n0+n1) lc,.pointer (some ⟨w.heap.size,0,none⟩),.slice a0 n0 c0,.int .i64 n0,.slice a M c,.int .i64 M,.slice (some ⟨R,0,none⟩) M M,.agg #[.slice (some ⟨g,0,none⟩) (n0+n1) lc,.int .i64 n0,.slice (some ⟨R,0,none⟩) M M],undef,undef,undef,undef,undef,undef,undef,undef,undef,undef,undef,undef,undef,undef,undef,undef,undef,undef,undef,undef,undef],defers:=[] } W:=by
  intro gT gv R g lc W hbW c0 c1 c2 hR hq hz hne
  refine hK _ _ ?_
  clear hK
  have HTR:=hide (TR.start T hbW c0 c1 c2 hR hq hz)
  have HNE:=hide hne
  clear hbW c0 c1 c2 hR hq hz hne hmk HC
  go_wp2_with (fail)
  go_loopw [23] (fun iv wr=>∃ m:Nat,m≤M∧iv=.int .i64 m∧TR w wr gT R g lc n0 (n0+n1) M m (hs ++ ls) T) (fun iv _=>M - (intOf iv).toNat)
  case atStart=>exact ⟨0,Nat.zero_le _,rfl,HTR.out⟩
  case round =>
   obtain ⟨m,hm,rfl,htr⟩:=hrel
   have HTRm:=hide htr
   by_cases hlt:m < M
   ·have hmF:m < F.length:=by rw [HL.out.2.2];exact hlt
    obtain ⟨xk,⟨xa0,xa1,xa2⟩,⟨xb0,xb1,xb2⟩,xn⟩:=node_ok (HOK.out.1 m hmF)
    have hrow:=tab_row HOK.out.1 n0 n1 (fun i=>(hs ++ ls).getD i 0) m hmF
    rw [HL.out.2.2,HT.out] at hrow
    obtain ⟨a',cap',he,hmx,hc,-⟩:=HF.out
    injection he with e1 e2 e3
    rcases hc with hc | ⟨b,off,e4,hc⟩
    ·rw [hc] at hmF;simp at hmF
    rw [e4] at e1
    subst e1
    obtain ⟨d0,d1,d2,d3⟩:=hc m hmF
    have d0:=cell_keep d0 htr.below
    have d1:=cell_keep d1 htr.below
    have d2:=cell_keep d2 htr.below
    have d3:=cell_keep d3 htr.below
    generalize hx:F.getD m nd0=x at *
    clear hc e2 e3 e4 hmx hx
    have HX:=hide (And.intro hrow (And.intro xk (And.intro xa0 (And.intro xa1 (And.intro xa2 (And.intro xb0 (And.intro xb1 (And.intro xb2 xn))))))))
    clear hrow xk xa0 xa1 xa2 xb0 xb1 xb2 xn htr
    have q0:=HTRm.out.t0
    have q1:=HTRm.out.t1
    have q2:=HTRm.out.t2
    obtain ⟨k,xa,xb,n⟩:=x
    dsimp only at d0 d1 d2 d3
    have hnd:wr.alloc (Obj.cells #[.int .i64 k,.int .i64 xa,.int .i64 xb,.int .i64 n] 55)=wr.alloc (Obj.cells #[.int .i64 k,.int .i64 xa,.int .i64 xb,.int .i64 n] 55):=rfl
    have HRule:Hid (∀ W1,Below (wr.alloc (Obj.cells #[.int .i64 k,.int .i64 xa,.int .i64 xb,.int .i64 n] 55)).heap.size (wr.alloc (Obj.cells #[.int .i64 k,.int .i64 xa,.int .i64 xb,.int .i64 n] 55)) W1→Calls Tryz.prog 124 #[.agg #[.slice (some ⟨g,0,none⟩) (n0+n1) lc,.int .i64 n0,.slice (some ⟨R,0,none⟩) M M],.agg #[.int .i64 k,.int .i64 xa,.int .i64 xb,.int .i64 n]] W1 fun e w'=>∃ Fn caps,e=.returned (.func (.func Fn) #[] caps)∧RuleOk w' Fn caps (ruleB T n0 n1 (fun i=>(hs ++ ls).getD i 0) ⟨k,xa,xb,n⟩) (n0+n1)∧Below W1.heap.size W1 w'):=by
     refine hide fun W1 hb=>?_
     obtain ⟨hrow,xk,xa0,xa1,xa2,xb0,xb1,xb2,xn⟩:=HX.out
     dsimp only at xk xa0 xa1 xa2 xb0 xb1 xb2 xn
     have tr:=(HTRm.out.grown hM0 (below_new wr _)).grown hM0 hb
     obtain ⟨aa,an,ac,ha,ha'⟩:=tr.rows xa.toNat (by omega)
     obtain ⟨ba,bn,bc,hb',hb''⟩:=tr.rows xb.toNat (by omega)
     have hlen:∀ j,j < M→(T.getD j []).length=n0+n1:=fun j hj=>by
      have:=tab_len F n0 n1 (fun i=>(hs ++ ls).getD i 0) j (by rw [HL.out.2.2];exact hj)
      rwa [HL.out.2.2,HT.out] at this
     have hlet:=HOK.out.2
     exact rule_any (some ⟨g,0,none⟩) (n0+n1) lc n0 n1 R M ⟨k,xa,xb,n⟩ xa.toNat xb.toNat aa ba an ac bn bc h12 (by omega) (by omega) xk (by dsimp only;omega) (by dsimp only;omega) xn ha hb' (by omega) rfl h7 tr.ints (by rw [List.length_append,HL.out.1,HL.out.2.1]) hlet (fun i _=>rfl) (fun h3=>⟨(ha' (by dsimp only at h3;have:=xa1 h3;omega)).1,hlen _ (by omega)⟩) (fun h3=>⟨(hb'' (by dsimp only at h3;have:=xb1 h3;omega)).1,hlen _ (by omega)⟩)
    generalize hb8:(k == 8)=b8
    have HFill:Hid (∀ Fn caps W1,RuleOk W1 Fn caps (ruleB T n0 n1 (fun i=>(hs ++ ls).getD i 0) ⟨k,xa,xb,n⟩) (n0+n1)→Calls Tryz.prog 123 #[.agg #[.slice (some ⟨g,0,none⟩) (n0+n1) lc,.int .i64 n0,.slice (some ⟨R,0,none⟩) M M],.bool b8,.func (.func Fn) #[] caps] W1 fun e w'=>∃ gr,e=.returned (.slice (some ⟨gr,0,none⟩) (n0+n1) (n0+n1))∧RowSl w' (.slice (some ⟨gr,0,none⟩) (n0+n1) (n0+n1)) (T.getD m [])∧W1.heap.size≤gr∧Below W1.heap.size W1 w'):=by
     refine hide fun Fn caps W1 hr=>?_
     refine (fill_any (some ⟨g,0,none⟩) (n0+n1) lc n0 n1 (.slice (some ⟨R,0,none⟩) M M) b8 hr rfl h7 (by omega) (rule_mono _ _ _ _ _)).mono ?_
     rintro e w' ⟨v,rfl,hrw,⟨gr,rfl,hgr⟩,hb⟩
     refine ⟨gr,rfl,?_,hgr,hb⟩
     have h1:=HX.out.1
     dsimp only at h1
     have h2:decide (k=8)=b8:=hb8
     rw [h1,h2]
     exact hrw
    clear hnd
    have hgR:Hid (gT ≠ R):=hide HNE.out.1
    have hwR:Hid (wr.heap.size ≠ R):=by
     obtain ⟨_,_,_,hc,_⟩:=HTRm.out.rows m hlt
     have h1:=World.block_lt_of_cell? wr _ hc
     dsimp only at h1
     exact hide (by omega)
    go_wp2_with (fail)
    go_region_held3 (fun w'=>w'.cell? ⟨gT,0,none⟩=some (.slice (some ⟨g,0,none⟩) (n0+n1) lc)∧w'.cell? ⟨gT,1,none⟩=some (.int .i64 n0)∧w'.cell? ⟨gT,2,none⟩=some (.slice (some ⟨R,0,none⟩) M M)∧w'.cell? ⟨wr.heap.size,0,none⟩=some (.int .i64 k)∧w'.cell? ⟨wr.heap.size,1,none⟩=some (.int .i64 xa)∧w'.cell? ⟨wr.heap.size,2,none⟩=some (.int .i64 xb)∧w'.cell? ⟨wr.heap.size,3,none⟩=some (.int .i64 n)) ((first | (with_reducible exact s2) | (with_reducible exact s3) | (exact s4 _) | (refine ⟨?_,?_,?_,?_,?_,?_,?_⟩ <;> (repeat (first | (with_reducible exact q0) | (with_reducible exact q1) | (with_reducible exact q2) | ((with_reducible refine cell_top _ _ _ _ _ _ ?_ ?_);(focus (first | rfl | (simp;done)));exact rfl) | (with_reducible refine cell_drew ?_) | (with_reducible refine cell_under _ _ ?_)))))) (first | (go_at_call 124;refine (HRule.out _ ?_).mono ?_;(focus (exact (by repeat (first | exact Below.refl _ _ | assumption | refine below_drewN ?_ _ | refine Below.drew ?_ | refine Below.alloc ?_ (by simp <;> omega) _ | refine below_trans ?_ (by assumption)))));rintro e w2 ⟨Fn,caps,rfl,hok2,hb2⟩;have s2:w2.cell? ⟨gT,0,none⟩=some (.slice (some ⟨g,0,none⟩) (n0+n1) lc)∧w2.cell? ⟨gT,1,none⟩=some (.int .i64 n0)∧w2.cell? ⟨gT,2,none⟩=some (.slice (some ⟨R,0,none⟩) M M)∧w2.cell? ⟨wr.heap.size,0,none⟩=some (.int .i64 k)∧w2.cell? ⟨wr.heap.size,1,none⟩=some (.int .i64 xa)∧w2.cell? ⟨wr.heap.size,2,none⟩=some (.int .i64 xb)∧w2.cell? ⟨wr.heap.size,3,none⟩=some (.int .i64 n):=⟨cell_keep (by (repeat (first | (with_reducible exact q0) | (with_reducible exact q1) | (with_reducible exact q2) | ((with_reducible refine cell_top _ _ _ _ _ _ ?_ ?_);(focus (first | rfl | (simp;done)));exact rfl) | (with_reducible refine cell_drew ?_) | (with_reducible refine cell_under _ _ ?_)))) hb2,cell_keep (by (repeat (first | (with_reducible exact q0) | (with_reducible exact q1) | (with_reducible exact q2) | ((with_reducible refine cell_top _ _ _ _ _ _ ?_ ?_);(focus (first | rfl | (simp;done)));exact rfl) | (with_reducible refine cell_drew ?_) | (with_reducible refine cell_under _ _ ?_)))) hb2,cell_keep (by (repeat (first | (with_reducible exact q0) | (with_reducible exact q1) | (with_reducible exact q2) | ((with_reducible refine cell_top _ _ _ _ _ _ ?_ ?_);(focus (first | rfl | (simp;done)));exact rfl) | (with_reducible refine cell_drew ?_) | (with_reducible refine cell_under _ _ ?_)))) hb2,cell_keep (by (repeat (first | (with_reducible exact q0) | (with_reducible exact q1) | (with_reducible exact q2) | ((with_reducible refine cell_top _ _ _ _ _ _ ?_ ?_);(focus (first | rfl | (simp;done)));exact rfl) | (with_reducible refine cell_drew ?_) | (with_reducible refine cell_under _ _ ?_)))) hb2,cell_keep (by (repeat (first | (with_reducible exact q0) | (with_reducible exact q1) | (with_reducible exact q2) | ((with_reducible refine cell_top _ _ _ _ _ _ ?_ ?_);(focus (first | rfl | (simp;done)));exact rfl) | (with_reducible refine cell_drew ?_) | (with_reducible refine cell_under _ _ ?_)))) hb2,cell_keep (by (repeat (first | (with_reducible exact q0) | (with_reducible exact q1) | (with_reducible exact q2) | ((with_reducible refine cell_top _ _ _ _ _ _ ?_ ?_);(focus (first | rfl | (simp;done)));exact rfl) | (with_reducible refine cell_drew ?_) | (with_reducible refine cell_under _ _ ?_)))) hb2,cell_keep (by (repeat (first | (with_reducible exact q0) | (with_reducible exact q1) | (with_reducible exact q2) | ((with_reducible refine cell_top _ _ _ _ _ _ ?_ ?_);(focus (first | rfl | (simp;done)));exact rfl) | (with_reducible refine cell_drew ?_) | (with_reducible refine cell_under _ _ ?_)))) hb2⟩) | (go_at_call 123;refine (HFill.out _ _ _ hok2).mono ?_;rintro e w3 ⟨gr,rfl,hrw3,hgr3,hb3⟩;have s3:w3.cell? ⟨gT,0,none⟩=some (.slice (some ⟨g,0,none⟩) (n0+n1) lc)∧w3.cell? ⟨gT,1,none⟩=some (.int .i64 n0)∧w3.cell? ⟨gT,2,none⟩=some (.slice (some ⟨R,0,none⟩) M M)∧w3.cell? ⟨wr.heap.size,0,none⟩=some (.int .i64 k)∧w3.cell? ⟨wr.heap.size,1,none⟩=some (.int .i64 xa)∧w3.cell? ⟨wr.heap.size,2,none⟩=some (.int .i64 xb)∧w3.cell? ⟨wr.heap.size,3,none⟩=some (.int .i64 n):=⟨cell_keep s2.1 hb3,cell_keep s2.2.1 hb3,cell_keep s2.2.2.1 hb3,cell_keep s2.2.2.2.1 hb3,cell_keep s2.2.2.2.2.1 hb3,cell_keep s2.2.2.2.2.2.1 hb3,cell_keep s2.2.2.2.2.2.2 hb3⟩;obtain ⟨⟨oa,on,oc,p1⟩,p2,p3,p4⟩:=in_w3 HTRm.out hM0 hlt hb2 hb3;have s4:∀ u,(w3.setCell ⟨R,m,none⟩ u).cell? ⟨gT,0,none⟩=some (.slice (some ⟨g,0,none⟩) (n0+n1) lc)∧(w3.setCell ⟨R,m,none⟩ u).cell? ⟨gT,1,none⟩=some (.int .i64 n0)∧(w3.setCell ⟨R,m,none⟩ u).cell? ⟨gT,2,none⟩=some (.slice (some ⟨R,0,none⟩) M M)∧(w3.setCell ⟨R,m,none⟩ u).cell? ⟨wr.heap.size,0,none⟩=some (.int .i64 k)∧(w3.setCell ⟨R,m,none⟩ u).cell? ⟨wr.heap.size,1,none⟩=some (.int .i64 xa)∧(w3.setCell ⟨R,m,none⟩ u).cell? ⟨wr.heap.size,2,none⟩=some (.int .i64 xb)∧(w3.setCell ⟨R,m,none⟩ u).cell? ⟨wr.heap.size,3,none⟩=some (.int .i64 n):=fun u=>⟨cell_set_ne hgR.out s3.1,cell_set_ne hgR.out s3.2.1,cell_set_ne hgR.out s3.2.2.1,cell_set_ne hwR.out s3.2.2.2.1,cell_set_ne hwR.out s3.2.2.2.2.1,cell_set_ne hwR.out s3.2.2.2.2.2.1,cell_set_ne hwR.out s3.2.2.2.2.2.2⟩))
    have HT3:=hide (p3.set ⟨HNE.out.1,HNE.out.2.2.1,HNE.out.2.2.2.2⟩ hlt hrw3 (own_new p4 HNE.out.2.2.1 hgr3))
    clear s2 s3 s4 p1 p2 p3 p4 hrw3 hgr3 hb3 hb2 hok2
    go_wp2_with (fail)
    go_roundw
    case rel=>exact ⟨m+1,by omega,by go_num,HT3.out⟩
    case measure=>simp [intOf];omega
   ·have hmM:m=M:=by omega
    subst hmM
    have q0:=HTRm.out.t0
    have q1:=HTRm.out.t1
    have q2:=HTRm.out.t2
    obtain ⟨r0,r1,r2,rf,-⟩:=zero_tab HTRm.out.res
    have HD:=hide (HTRm.out.done HNE.out.2.2.1 (.slice (some ⟨g,0,none⟩) (n0+n1) lc) (.int .i64 n0) (.slice (some ⟨R,0,none⟩) m m))
    obtain ⟨z0,z1,z2⟩:=tab_set (a:=.slice (some ⟨g,0,none⟩) (n0+n1) lc) (b:=.int .i64 n0) (c:=.slice (some ⟨R,0,none⟩) m m) r0 r1 r2
    have HZ:=hide (And.intro z0 (And.intro z1 z2))
    clear htr z0 z1 z2
    go_wp2_with (fail)
    obtain ⟨z0,z1,z2⟩:=HZ.out
    refine bodyPost_ret (v:=.agg #[.slice (some ⟨g,0,none⟩) (n0+n1) lc,.int .i64 n0,.slice (some ⟨R,0,none⟩) m m]) (by simp [results,Tryz.results73,go_sem,z0,z1,z2]) rfl ⟨R,_,_,rfl,HD.out⟩
 clear hK
 go_region_held3 (fun w'=>w'.cell? ⟨w.heap.size,0,none⟩=some (.slice a0 n0 c0)∧w'.cell? ⟨w.heap.size,1,none⟩=some (.slice a1 n1 c1)) (((refine And.intro ?_ ?_) <;> (repeat (first | (with_reducible exact k0) | (with_reducible exact k1) | ((with_reducible refine cell_top _ _ _ _ _ _ ?_ ?_);(focus (first | rfl | (simp;done)));exact rfl) | (with_reducible refine cell_drew ?_) | (with_reducible refine cell_under _ _ ?_) | ((with_reducible refine cell_set_ne ?_ ?_);(focus (omega))))))) (first | (go_at_call 122;refine (HC.out _ ?_ _ ?_ ?_).mono ?_;(focus (exact (by repeat (first | exact Below.refl _ _ | assumption | refine below_drewN ?_ _ | refine Below.drew ?_ | refine Below.alloc ?_ (by simp <;> omega) _ | refine below_trans ?_ (by assumption)))));(focus ((repeat (first | ((with_reducible refine cell_top _ _ _ _ _ _ ?_ ?_);(focus (first | rfl | (simp;done)));exact rfl) | (with_reducible refine cell_drew ?_) | (with_reducible refine cell_under _ _ ?_)))));(focus ((repeat (first | ((with_reducible refine cell_top _ _ _ _ _ _ ?_ ?_);(focus (first | rfl | (simp;done)));exact rfl) | (with_reducible refine cell_drew ?_) | (with_reducible refine cell_under _ _ ?_)))));rintro e w1 ⟨g,lc,rfl,hz,hg,hb1⟩;have k0:w1.cell? ⟨w.heap.size,0,none⟩=some (.slice a0 n0 c0):=cell_keep (by (repeat (first | ((with_reducible refine cell_top _ _ _ _ _ _ ?_ ?_);(focus (first | rfl | (simp;done)));exact rfl) | (with_reducible refine cell_drew ?_) | (with_reducible refine cell_under _ _ ?_)))) hb1;have k1:w1.cell? ⟨w.heap.size,1,none⟩=some (.slice a1 n1 c1):=cell_keep (by (repeat (first | ((with_reducible refine cell_top _ _ _ _ _ _ ?_ ?_);(focus (first | rfl | (simp;done)));exact rfl) | (with_reducible refine cell_drew ?_) | (with_reducible refine cell_under _ _ ?_)))) hb1;(try ((refine with_tab (w:=w1) (w.heap.size+1+1) ?_ ?_);(focus ((refine block_keep ?_ hb1);(repeat (first | ((with_reducible refine heap_top _ _ _ ?_);(focus (first | rfl | (simp;done)))) | (with_reducible refine heap_drew ?_) | (with_reducible refine heap_under _ ?_)));done));rintro ⟨t20,t21,t22,t23,t24⟩));(try ((refine with_tab (w:=w1) (w.heap.size+1+1+1) ?_ ?_);(focus ((refine block_keep ?_ hb1);(repeat (first | ((with_reducible refine heap_top _ _ _ ?_);(focus (first | rfl | (simp;done)))) | (with_reducible refine heap_drew ?_) | (with_reducible refine heap_under _ ?_)));done));rintro ⟨t30,t31,t32,t33,t34⟩));(try ((refine with_tab (w:=w1) (w.heap.size+1+1+1+1) ?_ ?_);(focus ((refine block_keep ?_ hb1);(repeat (first | ((with_reducible refine heap_top _ _ _ ?_);(focus (first | rfl | (simp;done)))) | (with_reducible refine heap_drew ?_) | (with_reducible refine heap_under _ ?_)));done));rintro ⟨t40,t41,t42,t43,t44⟩));(try ((refine with_nil (w:=w1) (w.heap.size+1+1) M ?_ ?_);(focus ((refine block_keep ?_ hb1);(repeat (first | ((with_reducible refine heap_top _ _ _ ?_);(focus (first | rfl | (simp;done)))) | (with_reducible refine heap_drew ?_) | (with_reducible refine heap_under _ ?_)));done));rintro ⟨r20,r21⟩));(try ((refine with_nil (w:=w1) (w.heap.size+1+1+1) M ?_ ?_);(focus ((refine block_keep ?_ hb1);(repeat (first | ((with_reducible refine heap_top _ _ _ ?_);(focus (first | rfl | (simp;done)))) | (with_reducible refine heap_drew ?_) | (with_reducible refine heap_under _ ?_)));done));rintro ⟨r30,r31⟩));(try ((refine with_nil (w:=w1) (w.heap.size+1+1+1+1) M ?_ ?_);(focus ((refine block_keep ?_ hb1);(repeat (first | ((with_reducible refine heap_top _ _ _ ?_);(focus (first | rfl | (simp;done)))) | (with_reducible refine heap_drew ?_) | (with_reducible refine heap_under _ ?_)));done));rintro ⟨r40,r41⟩));have q4:w1.heap[w.heap.size+1]?=some (Obj.cells #[.slice none 0 0,.int .i64 0,.slice none 0 0] 116):=block_keep (by (repeat (first | ((with_reducible refine heap_top _ _ _ ?_);(focus (first | rfl | (simp;done)))) | (with_reducible refine heap_drew ?_) | (with_reducible refine heap_under _ ?_)))) hb1;have hg2:g < w1.heap.size:=intsl_lt hz (by omega);simp at hg;have hsz:=hb1.size;simp at hsz;have hB1:Below w.heap.size w w1:=below_trans ((by repeat (first | exact Below.refl _ _ | assumption | refine below_drewN ?_ _ | refine Below.drew ?_ | refine Below.alloc ?_ (by simp <;> omega) _ | refine below_trans ?_ (by assumption)))) hb1))
 all_goals
  refine key _ _ _ _ _ _ ?_ ?_ ?_ ?_ ?_ ?_ ?_ ?_
  ·repeat (first | (with_reducible exact hB1) | (with_reducible refine Below.drew ?_) | ((with_reducible refine Below.setCell ?_ ?_ _);rotate_left;(focus (first | omega | (simp <;> omega)))) | ((with_reducible refine Below.alloc ?_ ?_ _);rotate_left;(focus (first | omega | (simp <;> omega)))))
  ·repeat (first | ((with_reducible refine (tab_set ?_ ?_ ?_).1) <;> (repeat (first | (with_reducible assumption) | (with_reducible refine cell_drew ?_) | (with_reducible refine cell_under _ _ ?_)))) | ((with_reducible refine cell_top _ _ _ _ _ _ ?_ ?_);(focus (first | rfl | (simp;done)));exact rfl) | (with_reducible refine cell_drew ?_) | (with_reducible refine cell_under _ _ ?_))
  ·repeat (first | ((with_reducible refine (tab_set ?_ ?_ ?_).2.1) <;> (repeat (first | (with_reducible assumption) | (with_reducible refine cell_drew ?_) | (with_reducible refine cell_under _ _ ?_)))) | ((with_reducible refine cell_top _ _ _ _ _ _ ?_ ?_);(focus (first | rfl | (simp;done)));exact rfl) | (with_reducible refine cell_drew ?_) | (with_reducible refine cell_under _ _ ?_))
  ·repeat (first | ((with_reducible refine (tab_set ?_ ?_ ?_).2.2) <;> (repeat (first | (with_reducible assumption) | (with_reducible refine cell_drew ?_) | (with_reducible refine cell_under _ _ ?_)))) | ((with_reducible refine cell_top _ _ _ _ _ _ ?_ ?_);(focus (first | rfl | (simp;done)));exact rfl) | (with_reducible refine cell_drew ?_) | (with_reducible refine cell_under _ _ ?_))
  ·repeat (first | (with_reducible assumption) | ((with_reducible refine heap_top _ _ _ ?_);(focus (first | rfl | (simp;done)))) | (with_reducible refine heap_drew ?_) | (with_reducible refine heap_under _ ?_) | ((with_reducible refine heap_set_ne ?_ ?_);(focus (omega))))
  ·repeat (first | (with_reducible assumption) | ((with_reducible refine heap_top _ _ _ ?_);(focus (first | rfl | (simp;done)))) | (with_reducible refine heap_drew ?_) | (with_reducible refine heap_under _ ?_) | ((with_reducible refine heap_set_ne ?_ ?_);(focus (omega))))
  ·repeat (first | (with_reducible assumption) | (with_reducible refine ints_under _ ?_) | (with_reducible refine ints_drew ?_) | ((with_reducible refine ints_set ?_ ?_);(focus (omega))))
  ·refine ⟨?_,?_,?_,?_,?_⟩ <;> omega
def GridSl (w:World) (v:Value) (T:List (List Bool)):Prop:=
 ∃ ad c,v=.slice ad T.length c∧T.length≤1000∧(T=[] ∨ ∃ R,ad=some ⟨R,0,none⟩∧∀ j,j < T.length→∃ a n c,w.cell? ⟨R,j,none⟩=some (.slice a n c)∧RowSl w (.slice a n c) (T.getD j []))
theorem GridSl.at {w:World}{v:Value}{T:List (List Bool)} (h:GridSl w v T) (j:Nat) (hj:j < T.length):∃ R c a n c',v=.slice (some ⟨R,0,none⟩) T.length c∧w.cell? ⟨R,j,none⟩=some (.slice a n c')∧RowSl w (.slice a n c') (T.getD j []):=by
 obtain ⟨ad,c,rfl,hm,h⟩:=h
 rcases h with h | ⟨R,rfl,hc⟩
 ·subst h;simp at hj
 ·obtain ⟨a,n,c',h1,h2⟩:=hc j hj
  exact ⟨R,c,a,n,c',rfl,h1,h2⟩
def chkT (F:List Nd) (hs ls:List Int):Int:=if chkF F=0 then chk hs ls 8 else chkF F
def tabF (F:List Nd) (hs ls:List Int):List (List Bool):=tabN F hs.length ls.length (fun i=>(hs ++ ls).getD i 0) F.length
theorem tabF_len (F:List Nd) (hs ls:List Int):(tabF F hs ls).length=F.length:=tabN_len _ _ _ _ _
theorem chk_ok {hs ls:List Int} (h:chk hs ls 8=0):hs.length≤4000∧ls.length≤4000∧0 < ls.length∧∀ i,i < hs.length+ls.length→0≤(hs ++ ls).getD i 0∧(hs ++ ls).getD i 0≤7:=by
 unfold chk at h
 split at h
 ·omega
 ·split at h
  ·omega
  ·split at h
   ·omega
   ·rename_i h1 h2 h3
    refine ⟨by omega,by omega,by omega,fun i hi=>?_⟩
    by_cases ha:(hs ++ ls).any (fun x=>decide (x < 0) || decide (8≤x))=true
    ·rw [if_pos ha] at h;omega
    ·rw [Bool.not_eq_true,List.any_eq_false] at ha
     have hl:i < (hs ++ ls).length:=by rw [List.length_append];exact hi
     have:=ha ((hs ++ ls)[i]) (List.getElem_mem _)
     have e:(hs ++ ls).getD i 0=(hs ++ ls)[i]:=by rw [List.getD,List.getElem?_eq_getElem hl];rfl
     rw [e]
     simp at this
     omega
theorem table_any {w:World}{fv hv lv:Value}{F:List Nd}{hs ls:List Int} (hF:NodeSl w fv F) (hh:IntSl w hv hs) (hl:IntSl w lv ls) :
  Calls Tryz.prog 23 #[fv,.agg #[hv,lv]] w fun e w'=>∃ v,e=.returned (.tuple #[v,.int .i64 (chkT F hs ls)])∧(chkT F hs ls=0→GridSl w' v (tabF F hs ls))∧(chkT F hs ls ≠ 0→v=.slice none 0 0)∧Below w.heap.size w w':=by
 have hfd:∀ (a b c:Value) (w:World),(Instr.field 116 (.agg #[a,b,c]) 2).run Tryz.prog w=.ok c w:=fun _ _ _ _=>rfl
 have HC:Hid (∀ W,Below w.heap.size w W→Calls Tryz.prog 54 #[fv] W fun e w'=>e=.returned (.int .i64 (chkF F))∧Below W.heap.size W w'):=fun W hb=>formulaCheck_any (hF.below hb)
 have HW:Hid (∀ W,Below w.heap.size w W→Calls Tryz.prog 50 #[.agg #[hv,lv],.int .i64 8] W fun e w'=>e=.returned (.int .i64 (chk hs ls 8))∧Below W.heap.size W w'):=fun W hb=>check_any 8 (hh.below hb) (hl.below hb)
 have HN:Hid (chkF F=0→chk hs ls 8=0→∀ W,Below w.heap.size w W→Calls Tryz.prog 73 #[fv,.agg #[hv,lv]] W fun e w'=>∃ R v1 v2,e=.returned (.agg #[v1,v2,.slice (some ⟨R,0,none⟩) F.length F.length])∧GridSl w' (.slice (some ⟨R,0,none⟩) F.length F.length) (tabF F hs ls)∧Below W.heap.size W w'):=by
  refine hide fun h1 h2 W hb=>?_
  have hF':=hF.below hb
  have hh':=hh.below hb
  have hl':=hl.below hb
  obtain ⟨a,c,rfl,-⟩:=id hF
  obtain ⟨a0,c0,rfl,-⟩:=id hh
  obtain ⟨a1,c1,rfl,-⟩:=id hl
  obtain ⟨k1,k2,k3,k4⟩:=chk_ok h2
  refine (newTable_any hF' hh' hl' k1 k2 k3 h1 k4).mono ?_
  rintro e w' ⟨R,v1,v2,rfl,hg,hb'⟩
  have h12:=(chkF_ok h1).2.1
  refine ⟨R,v1,v2,rfl,⟨_,_,by rw [tabF_len],by rw [tabF_len];omega,Or.inr ⟨R,rfl,fun j hj=>hg j (by rw [tabF_len] at hj;exact hj)⟩⟩,hb'⟩
 obtain ⟨a0,c0,rfl,-⟩:=hh
 obtain ⟨a1,c1,rfl,-⟩:=hl
 clear hF
 generalize hcf:chkF F=q at *
 have HQ:=hide hcf
 clear hcf
 by_cases hq:q=0
 ·have bq:(q != 0)=false:=by simpa using hq
  have eT:chkT F hs ls=chk hs ls 8:=by unfold chkT;rw [HQ.out,if_pos hq]
  rw [eT]
  generalize hcw:chk hs ls 8=r at *
  by_cases hr:r=0
  ·have br:(r != 0)=false:=by simpa using hr
   have HN':=hide (HN.out hq hr)
   have HR:=hide hr
   clear HN hq hr eT hcw HQ
   go_enter Tryz.func23,Tryz.ntmps23
   go_wp2_with (fail)
   refine (HC.out _ (below_new w _)).mono ?_
   rintro e w1 ⟨rfl,hb1⟩
   have k0:w1.cell? ⟨w.heap.size,0,none⟩=some (.slice a0 hs.length c0):=cell_keep (by simp) hb1
   have k1:w1.cell? ⟨w.heap.size,1,none⟩=some (.slice a1 ls.length c1):=cell_keep (by simp) hb1
   have hb1':=below_trans (below_new w _) hb1
   clear hb1 HC
   go_wp2_with (fail)
   refine (HW.out _ hb1').mono ?_
   rintro e w2 ⟨rfl,hb2⟩
   have k0:=cell_keep k0 hb2
   have k1:=cell_keep k1 hb2
   have hb2':=below_trans hb1' hb2
   clear hb1' hb2 HW
   go_wp2_with (fail)
   refine (HN'.out _ hb2').mono ?_
   rintro e w3 ⟨R,v1,v2,rfl,hg,hb3⟩
   have HG:=hide (And.intro hg (below_trans hb2' hb3))
   clear hg hb3 hb2' HN'
   go_wp2_with (fail)
   go_ret2
   have hr0:=HR.out
   subst hr0
   exact ⟨_,rfl,fun _=>HG.out.1,fun h=>absurd rfl h,HG.out.2⟩
  ·have br:(r != 0)=true:=by simpa using hr
   have HR:=hide hr
   clear HN hq hr eT hcw HQ
   go_enter Tryz.func23,Tryz.ntmps23
   go_wp2_with (fail)
   refine (HC.out _ (below_new w _)).mono ?_
   rintro e w1 ⟨rfl,hb1⟩
   have k0:w1.cell? ⟨w.heap.size,0,none⟩=some (.slice a0 hs.length c0):=cell_keep (by simp) hb1
   have k1:w1.cell? ⟨w.heap.size,1,none⟩=some (.slice a1 ls.length c1):=cell_keep (by simp) hb1
   have hb1':=below_trans (below_new w _) hb1
   clear hb1 HC
   go_wp2_with (fail)
   refine (HW.out _ hb1').mono ?_
   rintro e w2 ⟨rfl,hb2⟩
   have hb2':=below_trans hb1' hb2
   clear hb1' hb2 HW
   go_wp2_with (fail)
   go_ret2
   exact ⟨_,rfl,fun h=>absurd h HR.out,fun _=>rfl,hb2'⟩
 ·have bq:(q != 0)=true:=by simpa using hq
  have eT:chkT F hs ls=q:=by unfold chkT;rw [HQ.out,if_neg hq]
  rw [eT]
  have HR:=hide hq
  clear HN hq eT HQ HW
  go_enter Tryz.func23,Tryz.ntmps23
  go_wp2_with (fail)
  refine (HC.out _ (below_new w _)).mono ?_
  rintro e w1 ⟨rfl,hb1⟩
  have hb1':=below_trans (below_new w _) hb1
  clear hb1 HC
  go_wp2_with (fail)
  go_ret2
  exact ⟨_,rfl,fun h=>absurd h HR.out,fun _=>rfl,hb1'⟩
theorem holds_any {w:World}{fv hv lv:Value}{F:List Nd}{hs ls:List Int} (hF:NodeSl w fv F) (hh:IntSl w hv hs) (hl:IntSl w lv ls) :
  Calls Tryz.prog 40 #[fv,.agg #[hv,lv]] w fun e w'=>e=.returned (.tuple #[.bool (if chkT F hs ls=0 then ((tabF F hs ls).getD (F.length - 1) []).getD 0 false else false),.int .i64 (chkT F hs ls)])∧Below w.heap.size w w':=by
 have HT:Hid (∀ W,Below w.heap.size w W→Calls Tryz.prog 23 #[fv,.agg #[hv,lv]] W fun e w'=>∃ v,e=.returned (.tuple #[v,.int .i64 (chkT F hs ls)])∧(chkT F hs ls=0→GridSl w' v (tabF F hs ls))∧(chkT F hs ls ≠ 0→v=.slice none 0 0)∧Below W.heap.size W w'):=fun W hb=>table_any (hF.below hb) (hh.below hb) (hl.below hb)
 have HF:Hid (chkT F hs ls=0→0 < F.length∧F.length≤12∧0 < hs.length+ls.length):=by
  refine hide fun h=>?_
  unfold chkT at h
  by_cases h0:chkF F=0
  ·rw [if_pos h0] at h
   exact ⟨(chkF_ok h0).1,(chkF_ok h0).2.1,by have:=(chk_ok h).2.2.1;omega⟩
  ·rw [if_neg h0] at h;exact absurd h h0
 obtain ⟨a,c,rfl,hm,-⟩:=hF
 obtain ⟨a0,c0,rfl,-⟩:=hh
 obtain ⟨a1,c1,rfl,-⟩:=hl
 generalize hq:chkT F hs ls=q at *
 clear hq hm
 by_cases h0:q=0
 ·have bq:(q != 0)=false:=by simpa using h0
  obtain ⟨hF0,hF12,hlen⟩:=HF.out h0
  rw [if_pos h0]
  have H0:=hide h0
  have hrl:0 < ((tabF F hs ls).getD (F.length - 1) []).length:=by
   rw [tabF,tab_len F _ _ _ _ (by omega)];exact hlen
  have HRL:=hide hrl
  have hi0:(0:Int)≤(F.length:Int) - 1:=by omega
  have hi1:(F.length:Int) - 1 < F.length:=by omega
  have hi2:((F.length:Int) - 1).toNat=F.length - 1:=by omega
  clear h0 hrl hlen
  go_enter Tryz.func40,Tryz.ntmps40
  go_wp2_with (fail)
  refine (HT.out _ (below_new w _)).mono ?_
  rintro e w1 ⟨v,rfl,hg,-,hb1⟩
  have hb1':=below_trans (below_new w _) hb1
  obtain ⟨R,gc,ga,gn,gc',rfl,hc,hrow⟩:=(hg H0.out).at (F.length - 1) (by rw [tabF_len];omega)
  obtain ⟨rb,ro,rc,hrv,hcell,hrm⟩:=hrow.at 0 HRL.out
  rw [Nat.add_zero] at hcell
  injection hrv with e1 e2 e3
  subst e1 e2 e3
  have hrl:=HRL.out
  rw [tabF_len]
  generalize hrw:(tabF F hs ls).getD (F.length - 1) []=row at *
  generalize hx:row.getD 0 false=x at *
  have HRW:=hide hrw
  have HX:=hide hx
  clear hg hrow hb1 HT HF hrw hx
  go_wp2_with (fail)
  go_ret2
  have hq0:=H0.out
  subst hq0
  exact ⟨by rw [HRW.out,HX.out];rfl,hb1'⟩
 ·have bq:(q != 0)=true:=by simpa using h0
  rw [if_neg h0]
  have H0:=hide h0
  clear h0 HF
  go_enter Tryz.func40,Tryz.ntmps40
  go_wp2_with (fail)
  refine (HT.out _ (below_new w _)).mono ?_
  rintro e w1 ⟨v,rfl,-,hv,hb1⟩
  have hb1':=below_trans (below_new w _) hb1
  have hv':=hv H0.out
  subst hv'
  clear hv hb1
  go_wp2_with (fail)
  go_ret2
  exact ⟨rfl,hb1'⟩
end Go.Proofs.YtpiacnnifdjlkabGreatDoor
namespace Go.Proofs.YtpiacnnifdjlkabGreatDoor
theorem takesA_holds {F:List Nd} (hF:AllOk F) (hn:0 < F.length) {met:List Spo}{A:Aut} (h:OfNodes [(true,0,0)] (goodT F) (afterT F) met A) {hs ls:List Int} (hp:0 < ls.length) (hu:∀ t,0≤lat hs ls t∧lat hs ls t < 8) :
  TakesA A hs ls ↔ vF F hs.length ls.length (wordL hs ls) (F.length - 1) 0=true:=by
 rw [takes_word hp,takes_inf (N:=met.length) hp (fun s hs'=>?_),takesI_nodes h,takesG_holds hF hn hp hu]
 obtain ⟨i,x,c,y,h1,h2,rfl⟩:=(h.steps s).1 hs'
 have hy:=numOf_lt (h.closed x (List.mem_of_getElem? h1) _ h2)
 dsimp only at hy ⊢
 omega
theorem lat_few {hs ls:List Int} (h:chk hs ls 8=0) (t:Nat):0≤lat hs ls t∧lat hs ls t < 8:=by
 obtain ⟨_,_,hp,hl⟩:=chk_ok h
 unfold lat
 by_cases ht:t < hs.length
 ·rw [if_pos ht]
  have:=hl t (by omega)
  rw [List.getD,List.getElem?_append_left ht] at this
  rw [List.getD]
  omega
 ·rw [if_neg ht]
  have hq:=Nat.mod_lt (t - hs.length) hp
  have:=hl (hs.length+(t - hs.length) % ls.length) (by omega)
  rw [List.getD,List.getElem?_append_right (by omega),Nat.add_sub_cancel_left] at this
  rw [List.getD]
  omega
theorem table_takes {F:List Nd} (hc:chkF F=0) {hs ls:List Int} (hk:chk hs ls 8=0) {met:List Spo}{A:Aut} (h:OfNodes [(true,0,0)] (goodT F) (afterT F) met A):TakesA A hs ls ↔ ((tabF F hs ls).getD (F.length - 1) []).getD 0 false=true:=by
 obtain ⟨h1,_,h3⟩:=chkF_ok hc
 obtain ⟨_,_,hp,_⟩:=chk_ok hk
 rw [takesA_holds h3 h1 h hp (lat_few hk)]
 unfold tabF
 rw [tab_vF _ _ _ _ _ _ _ (by omega) (by omega)]
 rfl
end Go.Proofs.YtpiacnnifdjlkabGreatDoor
namespace Go.Proofs.YtpiacnnifdjlkabGreatDoor
open Go.RowKit
theorem rowS_mem {M:Mdl}{q:Nat}{s:Stp} (h:s ∈ rowS M q):s.f=(q:Nat)∧s.l=mLab M q∧s.t ∈ mRow M q:=by
 unfold rowS at h
 obtain ⟨t,ht,rfl⟩:=List.mem_map.1 h
 exact ⟨rfl,rfl,((onceL_right _).1 t).1 ht⟩
theorem rowsS_mem {M:Mdl}{k:Nat}{s:Stp} (h:s ∈ rowsS M k):∃ q:Nat,q < k∧s ∈ rowS M q:=by
 unfold rowsS at h
 obtain ⟨q,hq,hs⟩:=List.mem_flatMap.1 h
 exact ⟨q,List.mem_range.1 hq,hs⟩
theorem rowS_sorted (M:Mdl) (q:Nat):(rowS M q).Pairwise (fun a b=>ordS a b < 0):=by
 unfold rowS
 rw [List.pairwise_map]
 exact List.Pairwise.imp (S:=fun a b:Int=>ordS ⟨(q:Int),mLab M q,a⟩ ⟨(q:Int),mLab M q,b⟩ < 0) (fun {a b} h=>(ordS_lt _ _).2 (Or.inr ⟨rfl,Or.inr ⟨rfl,h⟩⟩)) (onceL_right (mRow M q)).2
theorem rowsS_sorted (M:Mdl):∀ k,(rowsS M k).Pairwise (fun a b=>ordS a b < 0)
 | 0=>by simp [rowsS]
 | k+1=>by
  rw [rowsS_next,List.pairwise_append]
  refine ⟨rowsS_sorted M k,rowS_sorted M k,fun a ha b hb=>?_⟩
  obtain ⟨q,hq,h1⟩:=rowsS_mem ha
  have h2:=(rowS_mem h1).1
  have h3:=(rowS_mem hb).1
  exact (ordS_lt _ _).2 (Or.inl (by omega))
theorem falls_rising {xs:List Int} (h:xs.Pairwise (· < ·)):fallsB xs=false:=by
 unfold fallsB
 rw [List.any_eq_false]
 intro i hi
 rw [List.mem_range] at hi
 have:=List.pairwise_iff_getElem.1 h i (i+1) (by omega) (by omega) (by omega)
 simp [List.getD,show i < xs.length by omega,show i+1 < xs.length by omega]
 omega
theorem words_chk {M:Mdl} (hM:MRight M):chkA (wordsA M M.labels.length (rowsS M M.labels.length))=0:=by
 have hn1:=hM.n1
 have hn12:=hM.n12
 have hf:=rowsS_few hM _ (Nat.le_refl _)
 unfold chkA
 rw [if_neg (by simp only [wordsA];omega),if_neg (by simp [wordsA]),if_neg (by simp only [wordsA];omega)]
 have hfirst:chkFirst (wordsA M M.labels.length (rowsS M M.labels.length)).n (wordsA M M.labels.length (rowsS M M.labels.length)).first=0:=by
  simp only [wordsA]
  unfold chkFirst
  rw [if_neg,if_neg]
  ·rw [falls_rising (onceL_right _).2];simp
  ·rw [Bool.not_eq_true,List.any_eq_false]
   intro x hx
   have:=hM.first x (((onceL_right _).1 x).1 hx)
   simp [outB]
   omega
 rw [if_neg (by rw [hfirst];simp)]
 refine steps_chk _ _ _ none (fun s hs=>?_) (fun q e=>by cases e) (rowsS_sorted M _)
 obtain ⟨q,hq,h1⟩:=rowsS_mem hs
 obtain ⟨h2,h3,h4⟩:=rowS_mem h1
 have h5:=(hM.row hq).2 _ h4
 have h6:=hM.lab (mLab M q) (getD_mem hq)
 simp only [wordsA]
 unfold badS outB
 rw [decide_eq_true (by omega),decide_eq_true (by omega),decide_eq_true (by omega)]
 rfl
def farM (M:Mdl) (hs ls:List Int):Nat:=hs.length+(M.labels.length+1) * ls.length
def valM (F:List Nd) (hs ls:List Int):Bool:=((tabF F hs ls).getD (F.length - 1) []).getD 0 false
theorem neg_val {F:List Nd} (hc:chkF F=0) {hs ls:List Int} (hk:chk hs ls 8=0):valM (negF F) hs ls=!(valM F hs ls):=by
 obtain ⟨h1,_,h3⟩:=chkF_ok hc
 obtain ⟨_,_,hp,_⟩:=chk_ok hk
 have h2:0 < (negF F).length:=(fl_len h3 (F.length - 1) (by omega) true 0).2.1
 unfold valM tabF
 rw [tab_vF _ _ _ _ _ _ _ (by omega) (by omega),tab_vF _ _ _ _ _ _ _ (by omega) (by omega)]
 exact neg_holds h3 h1 hp 0 (by omega)
theorem nodes_rightW {A B O:Aut}{NA NB:Nat}{met:List Pair} (h:PairOk A B NA NB) (hO:OfNodes (pFirst A B) (pGood A) (pAfter A B) met O) (hm:O.m=A.m) (hl:met.length≤2 * (NA * NB)) (hs:O.steps.length≤2 * (NA * NB) * (A.steps.length * B.steps.length)) (hso:O.steps.Pairwise (fun a b=>0≤ordS b a)) (hsm:2 * (NA * NB)≤2000) (hf:A.first.length * B.first.length≤2000):RightW O∧1≤O.n∧O.n≤2001:=by
 have hm8:=h.rA.m8
 have hs8:=h.s
 have hg:O.good.length=if met=[] then 1 else met.length:=by
  rw [hO.good]
  split
  ·rfl
  ·rw [List.length_map]
 have hlen:met ≠ []→0 < met.length:=fun e=>List.length_pos_iff.2 e
 have hn:=hO.n
 have hge:met.length≤O.good.length∧1≤O.good.length∧O.good.length≤2001:=by
  rw [hg]
  split
  ·rename_i e;rw [e];simp
  ·rename_i e;have:=hlen e;omega
 refine ⟨⟨by omega,by omega,by omega,by omega,?_,by omega,fun x hx=>?_,fun s hs'=>?_,?_⟩,by omega,by omega⟩
 ·rw [hO.first,List.length_map,pFirst_len];omega
 ·rw [hO.first] at hx
  obtain ⟨p,hp,rfl⟩:=List.mem_map.1 hx
  have:=numOf_lt (hO.first_met p hp)
  omega
 ·obtain ⟨i,x,c,y,h1,h2,rfl⟩:=(hO.steps s).1 hs'
  have hi:=(List.getElem?_eq_some_iff.1 h1).1
  have hy:=numOf_lt (hO.closed x (List.mem_of_getElem? h1) _ h2)
  obtain ⟨s,hsA,t,htB,_,_,e3,_,_⟩:=pAfter_mem.1 h2
  have h3:=h.rA.steps s hsA
  dsimp only at hy ⊢
  omega
 ·refine hso.imp fun {a b} h5=>?_
  have h6:¬ (ordS b a < 0):=by omega
  rw [ordS_lt] at h6
  omega
theorem pairs_tell {M:Mdl}{F:List Nd}{A B O:Aut}{met:List Spo}{met2:List Pair} (hM:MRight M) (hA:WordsOf M A) (rA:RightW A) (rB:RightW B) (rO:RightW O) (hc:chkF F=0) (hn:chkF (negF F)=0) (hB:OfNodes [(true,0,0)] (goodT (negF F)) (afterT (negF F)) met B) (hO:OfNodes (pFirst A B) (pGood A) (pAfter A B) met2 O) {hs ls:List Int} (hk:chk hs ls 8=0) :
  TakesU O (lat hs ls) ↔ goesM M (lat hs ls) (farM M hs ls)∧valM F hs ls=false:=by
 obtain ⟨_,_,hp,_⟩:=chk_ok hk
 have nA:=rA.n0
 have nB:=rB.n0
 have nO:=rO.n0
 rw [takes_inf (N:=O.n.toNat) hp (fun s hs=>by have:=rO.steps s hs;omega),takesI_nodes hO,takesG_pairs (fun s hs=>by have:=rA.steps s hs;omega) (fun s hs=>by have:=rB.steps s hs;omega),← takes_inf (N:=A.n.toNat) hp (fun s hs=>by have:=rA.steps s hs;omega),← takes_inf (N:=B.n.toNat) hp (fun s hs=>by have:=rB.steps s hs;omega),← goes_iff hM hA hp,← takes_word hp,table_takes hn hk hB]
 show goesM M (lat hs ls) (farM M hs ls)∧valM (negF F) hs ls=true ↔ _
 rw [neg_val hc hk,Bool.not_eq_true']
theorem tellable {O:Aut}{us vs:List Int} (hm:O.m=8) (hn:O.n≤2001) (h1:(us.length:Int)≤O.n) (h2:vs ≠ []) (h3:(vs.length:Int)≤O.n) (h4:∀ c ∈ us ++ vs,0≤c∧c < O.m):chk us vs 8=0:=by
 have:=List.length_pos_iff.2 h2
 unfold chk
 rw [if_neg (by omega),if_neg (by omega),if_neg (by omega),if_neg]
 rw [Bool.not_eq_true,List.any_eq_false]
 intro x hx
 have:=h4 x hx
 simp
 omega
structure HoldsMade (M:Mdl) (F:List Nd) (w w':World) (hv lv:Value) (ok:Bool):Prop where
 bl:Below w.heap.size w w'
 no:ok=false→∃ us vs,IntSl w' hv us∧IntSl w' lv vs∧chk us vs 8=0∧goesM M (lat us vs) (farM M us vs)∧valM F us vs=false
 yes:ok=true→hv=.slice none 0 0∧lv=.slice none 0 0∧∀ hs ls,chk hs ls 8=0→goesM M (lat hs ls) (farM M hs ls)→valM F hs ls=true
end Go.Proofs.YtpiacnnifdjlkabGreatDoor
