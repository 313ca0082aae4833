import Derived.Test.YtpiacnnifdjlkabGreatDoorNa
import Derived.Test.YtpiacnnifdjlkabGreatDoorRu
set_option maxRecDepth 100000
set_option maxHeartbeats 8000000
namespace Go.Proofs.YtpiacnnifdjlkabGreatDoor
open Go.RowKit Go.Sort Go.MapKept
theorem spInfo:Tryz.prog.info? 111=some Tryz.t111:=by kernel_rfl
theorem spEl:ElT 112 111 3 16:=⟨Tryz.underlying112,⟨_,.agg #[.bool false,.int .u16 0,.int .i64 0],spInfo,by kernel_rfl,rfl,by kernel_rfl,by kernel_rfl⟩,by decide,by decide⟩
structure spMN (W:World) (base BN BT r:Nat) (met:List Spo):Prop where
 bn:W.heap[BN]?=some (.cells #[.map (some r)] 167)
 bt:∃ v,W.heap[BT]?=some (.cells #[v] 112)∧W.ownsRow base 111 3 v met.length (met.flatMap spEnc)
 mp:spMap W r met
 lo:base≤BN∧base≤BT∧base≤r∧base≤W.heap.size
abbrev spS (BT r:Nat):World→Nat→Prop:=ownOf [(BT,0)] [r,BT]
abbrev spAdd (met:List Spo) (x:Spo):List Spo:=addN met x
theorem spMN.apart {W:World}{base BN BT r:Nat}{met:List Spo} (h:spMN W base BN BT r met):BN ≠ BT∧BN ≠ r∧BT ≠ r:=by
 obtain ⟨v,hv,_⟩:=h.bt
 obtain ⟨o,ho,hc⟩:=h.mp.not_cells
 refine ⟨fun e=>?_,fun e=>?_,fun e=>?_⟩
 ·have:=h.bn
  rw [e,hv] at this
  injection this with this
  injection this with _ h2
  exact absurd h2 (by decide)
 ·have:=h.bn
  rw [e,ho] at this
  injection this with this
  subst this
  cases hc
 ·rw [e,ho] at hv
  injection hv with hv
  subst hv
  cases hc
theorem spMN.below {W W':World}{base BN BT r:Nat}{met:List Spo} (h:spMN W base BN BT r met) (hb:Below W.heap.size W W'):spMN W' base BN BT r met:=by
 obtain ⟨v,hv,ho⟩:=h.bt
 exact ⟨belowRow hb h.bn,⟨v,belowRow hb hv,owns_below ho hb⟩,h.mp.keep (fun o ho=>belowRow hb ho),⟨h.lo.1,h.lo.2.1,h.lo.2.2.1,Nat.le_trans h.lo.2.2.2 hb.size⟩⟩
theorem spMN.keep {W W':World}{base BN BT r:Nat}{met:List Spo} (h:spMN W base BN BT r met) (hs:W.heap.size≤W'.heap.size) (hk:∀ k o,W.heap[k]?=some o→k=BN ∨ spS BT r W k→W'.heap[k]?=some o):spMN W' base BN BT r met:=by
 obtain ⟨v,hv,ho⟩:=h.bt
 refine ⟨hk _ _ h.bn (Or.inl rfl),⟨v,hk _ _ hv (Or.inr (Or.inl (by simp))),owns_kept ho (fun q hq=>?_)⟩,h.mp.keep (fun o ho=>hk _ _ ho (Or.inr (Or.inl (by simp)))),⟨h.lo.1,h.lo.2.1,h.lo.2.2.1,Nat.le_trans h.lo.2.2.2 hs⟩⟩
 have hlt:=(ho.lt q hq).2
 have hq':W.heap[q]?=some W.heap[q]:=Array.getElem?_eq_getElem hlt
 rw [hk q _ hq' (Or.inr (Or.inr ⟨(BT,0),by simp,v,cell_of_row W BT 0 _ _ _ hv,hq⟩)),hq']
theorem spRow_one {v u:Value}{W:World}{BT:Nat} (hv:W.heap[BT]?=some (.cells #[v] 112)) (hu:W.cell? ⟨BT,0,none⟩=some u):u=v:=by
 rw [cell_of_row W BT 0 _ _ _ hv] at hu
 exact (by simpa using hu:v=u).symm
theorem spMN_add {W w8:World}{base BN BT r g8 cap8:Nat}{met:List Spo}{x:Spo}{v:Value} (hbt:W.heap[BT]?=some (.cells #[v] 112)) (hbn:W.heap[BN]?=some (.cells #[.map (some r)] 167)) (hmp:spMap W r (met ++ [x])) (hown:W.ownsRow base 111 3 v met.length (met.flatMap spEnc)) (hgr:W.grownBy w8 v.ownBlock) (hown8:w8.ownsRow base 111 3 (.slice (some ⟨g8,0,none⟩) (met.length+1) cap8) (met.length+1) (met.flatMap spEnc ++ spEnc x)) (hor:v.ownBlock=some g8 ∨ g8=W.heap.size) (lo:base≤BN∧base≤BT∧base≤r∧base≤W.heap.size) :
  spMN (w8.setCell ⟨BT,0,none⟩ (.slice (some ⟨g8,0,none⟩) (met.length+1) cap8)) base BN BT r (met ++ [x])∧KE (spS BT r) W (w8.setCell ⟨BT,0,none⟩ (.slice (some ⟨g8,0,none⟩) (met.length+1) cap8)):=by
 have hb1:some BT ≠ v.ownBlock:=fun e=>row_apart hown hbt (by decide) BT e.symm rfl
 have hb2:some BN ≠ v.ownBlock:=fun e=>row_apart hown hbn (by decide) BN e.symm rfl
 obtain ⟨o,hro,hrc⟩:=hmp.not_cells
 have hb3:some r ≠ v.ownBlock:=fun e=>by
  obtain ⟨c',fz,hc⟩:=owns_cells hown r e.symm
  rw [hro] at hc
  injection hc with hc
  subst hc
  cases hrc
 have l1:=(Array.getElem?_eq_some_iff.1 hbt).1
 have l2:=(Array.getElem?_eq_some_iff.1 hbn).1
 have l3:=hmp.lt
 have n12:BN ≠ BT:=fun e=>by
  rw [e,hbt] at hbn
  injection hbn with hbn
  injection hbn with _ h2
  exact absurd h2 (by decide)
 have n13:r ≠ BT:=fun e=>by
  rw [e,hbt] at hro
  injection hro with hro
  subst hro
  cases hrc
 have hbt8:=(hgr.block BT l1 hb1).trans hbt
 have hset:=box_set hbt8 0 (.slice (some ⟨g8,0,none⟩) (met.length+1) cap8)
 have hset':(w8.setCell ⟨BT,0,none⟩ (.slice (some ⟨g8,0,none⟩) (met.length+1) cap8)).heap[BT]?=some (.cells #[.slice (some ⟨g8,0,none⟩) (met.length+1) cap8] 112):=hset
 have hsz:(w8.setCell ⟨BT,0,none⟩ (.slice (some ⟨g8,0,none⟩) (met.length+1) cap8)).heap.size=w8.heap.size:=by simp [World.setCell]
 refine ⟨⟨?_,⟨_,hset',?_⟩,?_,⟨lo.1,lo.2.1,lo.2.2.1,by rw [hsz];exact Nat.le_trans lo.2.2.2 hgr.size⟩⟩,⟨hgr.os,hgr.tape,hgr.output,by rw [hsz];exact hgr.size,fun k o hk hs=>?_,fun k hs=>?_⟩⟩
 ·rw [heap_setCell_other _ _ _ _ n12,hgr.block BN l2 hb2]
  exact hbn
 ·have h3:=owns_set hown8 hbt8 (by decide) 0 (.slice (some ⟨g8,0,none⟩) (met.length+1) cap8)
  rw [List.length_append,List.flatMap_append]
  simpa using h3
 ·exact hmp.keep (fun o ho=>by rw [heap_setCell_other _ _ _ _ n13,hgr.block r l3 hb3];exact ho)
 ·have k1:k ≠ BT:=fun e=>hs (Or.inl (by simp [e]))
  have k2:some k ≠ v.ownBlock:=fun e=>hs (Or.inr ⟨(BT,0),by simp,v,cell_of_row W BT 0 _ _ _ hbt,e.symm⟩)
  rw [heap_setCell_other _ _ _ _ k1,hgr.block k (Array.getElem?_eq_some_iff.1 hk).1 k2]
  exact hk
 ·rcases hs with h1 | ⟨p,hp,u,hu,hr⟩
  ·exact Or.inl (Or.inl h1)
  ·have ep:p=(BT,0):=by simpa using hp
   subst ep
   have eu:=spRow_one hset' hu
   subst eu
   have ek:g8=k:=by simpa [Value.ownBlock] using hr
   subst ek
   rcases hor with h1 | h1
   ·exact Or.inl (Or.inr ⟨(BT,0),by simp,v,cell_of_row W BT 0 _ _ _ hbt,h1⟩)
   ·exact Or.inr ⟨by omega,by
     have h9:=(hown8.lt g8 rfl).2
     have h8:(w8.setCell ⟨BT,0,none⟩ (.slice (some ⟨g8,0,none⟩) (met.length+1) cap8)).heap.size=w8.heap.size:=by simp [World.setCell]
     omega⟩
theorem spMeet {w:World}{base BN BT r:Nat}{met:List Spo} (x:Spo) (h:spMN w base BN BT r met) (hlen:met.length≤900000) :
  Calls Tryz.prog 114 #[spV x,.pointer (some ⟨BN,0,none⟩),.pointer (some ⟨BT,0,none⟩)] w fun e w'=>e=.returned (.int .i64 (numOf (spAdd met x) x:Nat))∧spMN w' base BN BT r (spAdd met x)∧KE (spS BT r) w w':=by
 have HM:=hide h
 have hap:=h.apart
 obtain ⟨v,ebt,hown⟩:=h.bt
 obtain ⟨x1,x2,x3⟩:=x
 have hbn:=below_new w (Obj.cells #[.bool x1,.int .u16 (x2:Nat),.int .i64 (x3:Nat)] 111)
 have hD:Det w.heap.size (spS BT r):=det_ownOf (by simp) (by
  intro k hk
  simp at hk
  rcases hk with rfl | rfl
  ·exact h.mp.lt
  ·exact (Array.getElem?_eq_some_iff.1 ebt).1)
 have hlk:=spLookup (h.mp.keep (fun o ho=>belowRow hbn ho)) (x1,x2,x3)
 have hM1:=h.below hbn
 have hbox:=one_new w (Obj.cells #[.bool x1,.int .u16 (x2:Nat),.int .i64 (x3:Nat)] 111)
 have b0:=cell_of_row _ BN 0 _ _ _ hM1.bn
 have t0:=cell_of_row _ BT 0 _ _ _ (belowRow hbn ebt)
 have n1:BN < w.heap.size:=(Array.getElem?_eq_some_iff.1 h.bn).1
 have n2:BT < w.heap.size:=(Array.getElem?_eq_some_iff.1 ebt).1
 have HK1:=hide (KE.of_below hD (Nat.le_refl _) hbn)
 obtain ⟨ad,cp,rfl⟩:=owns_form hown
 unfold spV spEnc at hlk
 by_cases hx:(x1,x2,x3) ∈ met
 ·have e1:spAdd met (x1,x2,x3)=met:=by unfold spAdd addN;rw [if_pos hx]
  rw [e1]
  rw [if_pos hx,decide_eq_true hx] at hlk
  have HM1:=hide hM1
  clear h hown ebt hM1 hx hbn hbox e1 hD
  generalize numOf met (x1,x2,x3)=nm at *
  show Calls Tryz.prog 114 #[.agg #[.bool x1,.int .u16 (x2:Nat),.int .i64 (x3:Nat)],.pointer (some ⟨BN,0,none⟩),.pointer (some ⟨BT,0,none⟩)] w _
  go_enter Tryz.func114,Tryz.ntmps114
  go_wp2
  go_ret
  exact ⟨rfl,HM1.out,HK1.out⟩
 ·have e1:spAdd met (x1,x2,x3)=met ++ [(x1,x2,x3)]:=by unfold spAdd addN;rw [if_neg hx]
  rw [e1,numOf_last hx]
  rw [if_neg hx,decide_eq_false hx] at hlk
  obtain ⟨o,hup,hmp⟩:=spUpdate hM1.mp (x1,x2,x3) hx
  unfold spV spEnc at hup
  have hne:∀ k,k ≠ r→((w.alloc (Obj.cells #[.bool x1,.int .u16 (x2:Nat),.int .i64 (x3:Nat)] 111)).putObj r o).heap[k]?=(w.alloc (Obj.cells #[.bool x1,.int .u16 (x2:Nat),.int .i64 (x3:Nat)] 111)).heap[k]?:=fun k hk=>World.putObj_heap_other hk
  have hs2:((w.alloc (Obj.cells #[.bool x1,.int .u16 (x2:Nat),.int .i64 (x3:Nat)] 111)).putObj r o).heap.size=w.heap.size+1:=by simp
  have hrlt:r < w.heap.size:=h.mp.lt
  have hbt2:=(hne BT (by omega)).trans (belowRow hbn ebt)
  have hbn2:=(hne BN (by omega)).trans hM1.bn
  have hbox2:=(hne w.heap.size (by omega)).trans hbox
  have hown1:=owns_below hown hbn
  have hown2:((w.alloc (Obj.cells #[.bool x1,.int .u16 (x2:Nat),.int .i64 (x3:Nat)] 111)).putObj r o).ownsRow base 111 3 (.slice ad met.length cp) met.length (met.flatMap spEnc):=owns_kept hown1 (fun q hq=>hne q (fun e=>by
   obtain ⟨c',fz,hc⟩:=owns_cells hown1 q hq
   obtain ⟨o2,ho2,hcc⟩:=hM1.mp.not_cells
   rw [e,ho2] at hc
   injection hc with hc
   subst hc
   cases hcc))
  have hK2:KE (spS BT r) w ((w.alloc (Obj.cells #[.bool x1,.int .u16 (x2:Nat),.int .i64 (x3:Nat)] 111)).putObj r o):=by
   refine HK1.out.trans ⟨rfl,rfl,rfl,by simp,fun k o' hk hs=>(hne k (fun e=>hs (Or.inl (by simp [e])))).trans hk,fun k hs=>Or.inl ?_⟩
   rcases hs with h1 | ⟨p,hp,u,hu,hr⟩
   ·exact Or.inl h1
   ·have ep:p=(BT,0):=by simpa using hp
    subst ep
    exact Or.inr ⟨(BT,0),by simp,u,by rw [← cell_same (hne BT (by omega))];exact hu,hr⟩
  have q0:=cell_of_row _ BT 0 _ _ _ hbt2
  have c0:=cell_of_row _ w.heap.size 0 _ _ _ hbox2
  have c1:=cell_of_row _ w.heap.size 1 _ _ _ hbox2
  have c2:=cell_of_row _ w.heap.size 2 _ _ _ hbox2
  generalize hW2:(w.alloc (Obj.cells #[.bool x1,.int .u16 (x2:Nat),.int .i64 (x3:Nat)] 111)).putObj r o=W2 at *
  have hnw:=one_new W2 (Obj.cells #[.bool x1,.int .u16 (x2:Nat),.int .i64 (x3:Nat)] 111)
  have hbn3:=below_new W2 (Obj.cells #[.bool x1,.int .u16 (x2:Nat),.int .i64 (x3:Nat)] 111)
  have HoW:=hide (owns_below hown2 hbn3)
  have HbW:=hide (show base≤(W2.alloc (Obj.cells #[.bool x1,.int .u16 (x2:Nat),.int .i64 (x3:Nat)] 111)).heap.size by simp;have:=h.lo.2.2.2;omega)
  have HnW:=hide hnw
  have HK2:=hide hK2
  have HB2:=hide (And.intro hbt2 (And.intro hbn2 (And.intro hmp hbn3)))
  have Hown2:=hide hown2
  have hn2:BT < W2.heap.size:=by omega
  have Hs2:=hide hs2
  have hn3:w.heap.size < W2.heap.size:=by omega
  clear hs2 h hown ebt hM1 hx hbn hbox e1 hD hown1 hown2 hK2 hbt2 hbn2 hmp hbn3 hnw hne hbox2 hW2
  show Calls Tryz.prog 114 #[.agg #[.bool x1,.int .u16 (x2:Nat),.int .i64 (x3:Nat)],.pointer (some ⟨BN,0,none⟩),.pointer (some ⟨BT,0,none⟩)] w _
  go_enter Tryz.func114,Tryz.ntmps114
  go_wp2_with (at_builtin;refine wpList_append_one _ rfl (.tmp 20) (.tmp 22) 112 111 3 16 rfl spEl base _ _ _ rfl HoW.out W2.heap.size 1 (spEnc (x1,x2,x3)) rfl rfl (fun j u hu=>(cell_of_row _ W2.heap.size j _ _ _ HnW.out).trans (by simpa [spEnc] using hu)) (spEnc_one _) hlen HbW.out ?_;intro g8 cap8 w8 hown8 hgrow8 hor8 hbase8;have hbt8:=(hgrow8.block BT (by simp;omega) (fun e=>row_apart Hown2.out HB2.out.1 (by decide) BT e.symm rfl)).trans (belowRow HB2.out.2.2.2 HB2.out.1);have z0:=cell_of_row w8 BT 0 _ _ _ hbt8;have zf:∀ o,w8.frozen? ⟨BT,o,none⟩=false:=(fun o=>by simp [World.frozen?,hbt8]);have Hown8:=hide hown8;have Hgrow8:=hide hgrow8;have Hor8:=hide hor8;have Hbt8:=hide hbt8;clear hown8 hgrow8 hor8 hbt8)
  go_ret
  have hK3:=KE.of_below (S:=spS BT r) (m:=W2.heap.size) (det_ownOf (by simp) (by
   intro k hk
   simp at hk
   rcases hk with rfl | rfl
   ·exact HB2.out.2.2.1.lt
   ·exact hn2)) (Nat.le_refl _) HB2.out.2.2.2
  have hlo:=HM.out.lo
  obtain ⟨h1,h2⟩:=spMN_add (belowRow HB2.out.2.2.2 HB2.out.1) (belowRow HB2.out.2.2.2 HB2.out.2.1) (HB2.out.2.2.1.keep (fun o ho=>belowRow HB2.out.2.2.2 ho)) HoW.out Hgrow8.out Hown8.out Hor8.out ⟨hlo.1,hlo.2.1,hlo.2.2.1,HbW.out⟩
  exact ⟨rfl,h1,(HK2.out.trans hK3).trans h2⟩
def spSl (w:World) (v:Value) (zs:List Spo):Prop:=
 ∃ a cap,v=.slice a zs.length cap∧zs.length≤maxLen∧(zs=[] ∨ ∃ b off,a=some ⟨b,off,none⟩∧∀ (i:Nat) (x:Spo),zs[i]?=some x→∀ (q:Nat) (u:Value),(spEnc x)[q]?=some u→w.cell? ⟨b,off+i * 3+q,none⟩=some u)∧(a=none→cap=0)∧zs.length≤cap
structure spNA (w W:World) (BO BN BT BM r:Nat) (fv gv sv:Value) (A:Aut) (met:List Spo):Prop where
 ra:RA W w.heap.size BO fv gv sv A
 mn:spMN W w.heap.size BN BT r met
 bm:W.heap[BM]?=some (.cells #[.func (.func 114) #[] #[.pointer (some ⟨BN,0,none⟩),.pointer (some ⟨BT,0,none⟩)]] 169)
 b0:W.heap[w.heap.size]?=some (.cells #[.int .i64 0,.int .i64 0,.slice none 0 0,.slice none 0 0,.slice none 0 0] 26)
 ne:BO ≠ w.heap.size∧w.heap.size≤BM
 bl:Below w.heap.size w W
theorem spNA.below {w W W':World}{BO BN BT BM r:Nat}{fv gv sv:Value}{A:Aut}{met:List Spo} (h:spNA w W BO BN BT BM r fv gv sv A met) (hb:Below W.heap.size W W'):spNA w W' BO BN BT BM r fv gv sv A met:=
 ⟨h.ra.below hb,h.mn.below hb,belowRow hb h.bm,belowRow hb h.b0,h.ne,h.bl.trans (hb.mono h.bl.size)⟩
theorem spS_not {W:World}{base BN BT r k:Nat}{met:List Spo} (h:spMN W base BN BT r met) {o:Obj} (_hk:W.heap[k]?=some o) (h1:k ≠ r) (h2:k ≠ BT) (h3:∀ v,W.ownsRow base 111 3 v met.length (met.flatMap spEnc)→some k ≠ v.ownBlock):¬ spS BT r W k:=by
 rintro (h4 | ⟨p,hp,u,hu,hr⟩)
 ·simp at h4
  rcases h4 with h4 | h4
  ·exact h1 h4
  ·exact h2 h4
 ·have ep:p=(BT,0):=by simpa using hp
  subst ep
  obtain ⟨v,hv,ho⟩:=h.bt
  have eu:=spRow_one hv hu
  subst eu
  exact h3 _ ho hr.symm
theorem spS_box {W:World}{base BN BT r k:Nat}{met:List Spo} (h:spMN W base BN BT r met) {c:Array Value}{t:TypeId} (hk:W.heap[k]?=some (.cells c t)) (h1:t ≠ 112) (h2:t ≠ 111):¬ spS BT r W k:=by
 refine spS_not h hk (fun e=>?_) (fun e=>?_) (fun v ho e=>row_apart ho hk (Ne.symm h2) k e.symm rfl)
 ·obtain ⟨o,ho,hc⟩:=h.mp.not_cells
  rw [e,ho] at hk
  injection hk with hk
  subst hk
  cases hc
 ·obtain ⟨v,hv,_⟩:=h.bt
  rw [e,hv] at hk
  injection hk with hk
  injection hk with _ h3
  exact h1 h3.symm
theorem spS_old {W:World}{base BN BT r k:Nat}{met:List Spo} (h:spMN W base BN BT r met) (hk:k < base):¬ spS BT r W k:=by
 have hlt:k < W.heap.size:=Nat.lt_of_lt_of_le hk h.lo.2.2.2
 have ho:W.heap[k]?=some W.heap[k]:=Array.getElem?_eq_getElem hlt
 exact spS_not h ho (by have:=h.lo.2.2.1;omega) (by have:=h.lo.2.1;omega) (fun v hv e=>by have:=(hv.lt k e.symm).1;omega)
theorem spS_row {W W':World}{base BN BT r:Nat}{met:List Spo} (h:spMN W base BN BT r met) (hk:KE (spS BT r) W W') {e sz n:Nat}{v:Value}{xs:List Value} (ho:W.ownsRow base e sz v n xs) (h1:e ≠ 112) (h2:e ≠ 111):W'.ownsRow base e sz v n xs:=
 owns_kept ho (fun q hq=>by
  have hlt:=(ho.lt q hq).2
  have hq':W.heap[q]?=some W.heap[q]:=Array.getElem?_eq_getElem hlt
  obtain ⟨c',fz,hc⟩:=owns_cells ho q hq
  rw [hk.keep q _ hq' (spS_not h hq' (fun e1=>?_) (fun e1=>?_) (fun v' hv' e1=>rows_apart hv' ho (Ne.symm h2) e1.symm hq)),hq']
  ·obtain ⟨o,ho',hcc⟩:=h.mp.not_cells
   rw [e1,ho'] at hc
   injection hc with hc
   subst hc
   cases hcc
  ·obtain ⟨v',hv',_⟩:=h.bt
   rw [e1,hv'] at hc
   injection hc with hc
   injection hc with _ h3
   exact h1 h3.symm)
theorem spNA.meet {w W W':World}{BO BN BT BM r:Nat}{fv gv sv:Value}{A:Aut}{met met':List Spo} (h:spNA w W BO BN BT BM r fv gv sv A met) (hk:KE (spS BT r) W W') (hm:spMN W' w.heap.size BN BT r met'):spNA w W' BO BN BT BM r fv gv sv A met':=
 ⟨⟨hk.keep _ _ h.ra.box (spS_box h.mn h.ra.box (by decide) (by decide)),spS_row h.mn hk h.ra.f (by decide) (by decide),spS_row h.mn hk h.ra.g (by decide) (by decide),spS_row h.mn hk h.ra.s (by decide) (by decide),h.ra.hb⟩,hm,
  hk.keep _ _ h.bm (spS_box h.mn h.bm (by decide) (by decide)),hk.keep _ _ h.b0 (spS_box h.mn h.b0 (by decide) (by decide)),h.ne,
  ⟨hk.os.trans h.bl.os,hk.tape.trans h.bl.tape,hk.output.trans h.bl.output,Nat.le_trans h.bl.size hk.size,fun k hk'=>by
   have hlt:k < W.heap.size:=Nat.lt_of_lt_of_le hk' h.bl.size
   have ho:W.heap[k]?=some W.heap[k]:=Array.getElem?_eq_getElem hlt
   rw [hk.keep k _ ho (spS_old h.mn hk'),← ho]
   exact h.bl.block k hk'⟩⟩
theorem spNA.rest {w W W2:World}{BO BN BT BM r:Nat}{fv gv sv:Value}{A:Aut}{met:List Spo} (h:spNA w W BO BN BT BM r fv gv sv A met) {e sz n:Nat}{v:Value}{xs:List Value} (ho:W.ownsRow w.heap.size e sz v n xs) (hk:KR w.heap.size v.ownBlock W W2) (he:e ≠ 112∧e ≠ 111∧e ≠ 167∧e ≠ 169∧e ≠ 26) (k:Nat) (u:Value) :
  spMN (W2.setCell ⟨BO,k,none⟩ u) w.heap.size BN BT r met∧(W2.setCell ⟨BO,k,none⟩ u).heap[BM]?=some (.cells #[.func (.func 114) #[] #[.pointer (some ⟨BN,0,none⟩),.pointer (some ⟨BT,0,none⟩)]] 169)∧(W2.setCell ⟨BO,k,none⟩ u).heap[w.heap.size]?=some (.cells #[.int .i64 0,.int .i64 0,.slice none 0 0,.slice none 0 0,.slice none 0 0] 26)∧Below w.heap.size w (W2.setCell ⟨BO,k,none⟩ u):=by
 have keep:∀ (q:Nat) (o:Obj),W.heap[q]?=some o→some q ≠ v.ownBlock→q ≠ BO→(W2.setCell ⟨BO,k,none⟩ u).heap[q]?=some o:=fun q o hq h1 h2=>by
  rw [heap_setCell_other _ _ _ _ h2]
  exact hk.block hq h1
 have hsz:(W2.setCell ⟨BO,k,none⟩ u).heap.size=W2.heap.size:=by simp [World.setCell]
 have hbo:=h.ra.box
 have neB:∀ {q:Nat}{c:Array Value}{t:TypeId},W.heap[q]?=some (.cells c t)→t ≠ 26→q ≠ BO:=fun hq ht e1=>by
  rw [e1,hbo] at hq
  injection hq with hq
  injection hq with _ h3
  exact ht h3.symm
 have rowB:∀ {q:Nat}{c:Array Value}{t:TypeId},W.heap[q]?=some (.cells c t)→e ≠ t→some q ≠ v.ownBlock:=fun hq ht e1=>row_apart ho hq ht _ e1.symm rfl
 obtain ⟨tv,htv,hto⟩:=h.mn.bt
 obtain ⟨ro,hro,hrc⟩:=h.mn.mp.not_cells
 have hmn:=h.mn
 refine ⟨⟨keep _ _ hmn.bn (rowB hmn.bn he.2.2.1) (neB hmn.bn (by decide)),⟨tv,keep _ _ htv (rowB htv he.1) (neB htv (by decide)),owns_kept hto (fun q hq=>?_)⟩,hmn.mp.keep (fun o ho'=>keep _ _ ho' (not_row ho hro hrc) (fun e1=>?_)),⟨hmn.lo.1,hmn.lo.2.1,hmn.lo.2.2.1,by rw [hsz];exact Nat.le_trans hmn.lo.2.2.2 hk.size⟩⟩,keep _ _ h.bm (rowB h.bm he.2.2.2.1) (neB h.bm (by decide)),keep _ _ h.b0 (rowB h.b0 he.2.2.2.2) (Ne.symm h.ne.1),?_⟩
 ·have hlt:=(hto.lt q hq).2
  have hq':W.heap[q]?=some W.heap[q]:=Array.getElem?_eq_getElem hlt
  rw [keep q _ hq' (fun e1=>rows_apart hto ho (Ne.symm he.2.1) hq e1.symm) (fun e1=>row_apart hto hbo (by decide) q hq e1),hq']
 ·rw [e1,hbo] at hro
  injection hro with hro
  subst hro
  cases hrc
 ·exact (h.bl.trans hk.below).setCell h.ra.hb u
theorem spDet {W:World}{base BN BT r:Nat}{met:List Spo} (h:spMN W base BN BT r met):Det W.heap.size (spS BT r):=det_ownOf (by simp) (by
 intro k hk
 simp at hk
 rcases hk with rfl | rfl
 ·exact h.mp.lt
 ·obtain ⟨v,hv,_⟩:=h.bt
  exact (Array.getElem?_eq_some_iff.1 hv).1)
theorem spS_lt {W:World}{base BN BT r k:Nat}{met:List Spo} (h:spMN W base BN BT r met) (hk:spS BT r W k):k < W.heap.size:=by
 obtain ⟨v,hv,ho⟩:=h.bt
 rcases hk with h1 | ⟨p,hp,u,hu,hr⟩
 ·simp at h1
  rcases h1 with rfl | rfl
  ·exact h.mp.lt
  ·exact (Array.getElem?_eq_some_iff.1 hv).1
 ·have ep:p=(BT,0):=by simpa using hp
  subst ep
  have eu:=spRow_one hv hu
  subst eu
  exact (ho.lt k hr).2
theorem spFlat (zs:List Spo):∀ (i:Nat) (x:Spo),zs[i]?=some x→∀ (q:Nat) (u:Value),(spEnc x)[q]?=some u→(zs.flatMap spEnc)[i * 3+q]?=some u:=by
 induction zs with
 | nil=>intro i x hx;simp at hx
 | cons z zs ih =>
  intro i x hx q u hu
  rw [List.flatMap_cons]
  cases i with
  | zero =>
   have e:z=x:=by simpa using hx
   subst e
   have hq:q < (spEnc z).length:=(List.getElem?_eq_some_iff.1 hu).1
   rw [Nat.zero_mul,Nat.zero_add,List.getElem?_append_left hq]
   exact hu
  | succ i =>
   rw [List.getElem?_append_right (by rw [spEnc_len];omega),spEnc_len,show (i+1) * 3+q - 3=i * 3+q by omega]
   exact ih i x (by simpa using hx) q u hu
theorem spMN.at {W:World}{base BN BT r:Nat}{met:List Spo} (h:spMN W base BN BT r met) {i:Nat}{x:Spo} (hx:met[i]?=some x):∃ gm cp,W.heap[BT]?=some (.cells #[.slice (some ⟨gm,0,none⟩) met.length cp] 112)∧met.length≤cp∧gm < W.heap.size∧∀ (q:Nat) (u:Value),(spEnc x)[q]?=some u→W.cell? ⟨gm,i * 3+q,none⟩=some u:=by
 obtain ⟨v,hv,ho⟩:=h.bt
 have hi:i < met.length:=(List.getElem?_eq_some_iff.1 hx).1
 rcases ho.2 with ⟨rfl,h0⟩ | ⟨g,cap,cur,rfl,hb,hg,hnc,hcm,hcs,ht⟩
 ·omega
 ·refine ⟨g,cap,hv,hnc,(Array.getElem?_eq_some_iff.1 hg).1,fun q u hu=>?_⟩
  have hf:=spFlat met i x hx q u hu
  rw [← ht,List.getElem?_take] at hf
  split at hf
  ·have:=cell_of_row W g (i * 3+q) _ _ _ hg
   rw [this]
   simpa using hf
  ·cases hf
abbrev spSS (BO BT r:Nat):World→Nat→Prop:=ownOf [(BO,4),(BT,0)] [BO,r,BT]
theorem spSS_cases {w W:World}{BO BN BT BM r:Nat}{fv gv sv:Value}{A:Aut}{met:List Spo} (h:spNA w W BO BN BT BM r fv gv sv A met) {k:Nat} (hk:spSS BO BT r W k):k=BO ∨ sv.ownBlock=some k ∨ spS BT r W k:=by
 rcases hk with h1 | ⟨p,hp,u,hu,hr⟩
 ·simp at h1
  rcases h1 with rfl | rfl | rfl
  ·exact Or.inl rfl
  ·exact Or.inr (Or.inr (Or.inl (by simp)))
  ·exact Or.inr (Or.inr (Or.inl (by simp)))
 ·simp at hp
  rcases hp with rfl | rfl
  ·have e:=(cell_of_row W BO 4 _ _ _ h.ra.box).symm.trans hu
   have e2:sv=u:=by simpa using e
   subst e2
   exact Or.inr (Or.inl hr)
  ·exact Or.inr (Or.inr (Or.inr ⟨(BT,0),by simp,u,hu,hr⟩))
theorem spSS_in {w W:World}{BO BN BT BM r:Nat}{fv gv sv:Value}{A:Aut}{met:List Spo} (h:spNA w W BO BN BT BM r fv gv sv A met) {k:Nat} (hk:spSS BO BT r W k):w.heap.size≤k∧k < W.heap.size:=by
 rcases spSS_cases h hk with rfl | h1 | h1
 ·exact ⟨h.ra.hb,(Array.getElem?_eq_some_iff.1 h.ra.box).1⟩
 ·exact h.ra.s.lt k h1
 ·refine ⟨?_,spS_lt h.mn h1⟩
  rcases Nat.lt_or_ge k w.heap.size with h2 | h2
  ·exact absurd h1 (spS_old h.mn h2)
  ·exact h2
theorem spSS_det {w W:World}{BO BN BT BM r:Nat}{fv gv sv:Value}{A:Aut}{met:List Spo} (h:spNA w W BO BN BT BM r fv gv sv A met):Det W.heap.size (spSS BO BT r):=det_ownOf (by simp) (by
 intro k hk
 simp at hk
 rcases hk with rfl | rfl | rfl
 ·exact (Array.getElem?_eq_some_iff.1 h.ra.box).1
 ·exact h.mn.mp.lt
 ·obtain ⟨v,hv,_⟩:=h.mn.bt
  exact (Array.getElem?_eq_some_iff.1 hv).1)
theorem spNA.ki {w W W':World}{BO BN BT BM r s:Nat}{fv gv sv:Value}{A:Aut}{met:List Spo} (h:spNA w W BO BN BT BM r fv gv sv A met) (hk:KI s (spSS BO BT r) W W') (hf:∀ k,fv.ownBlock=some k→k < s) (hg:∀ k,gv.ownBlock=some k→k < s) (hs:BM < s∧BN < s∧w.heap.size < s):spNA w W' BO BN BT BM r fv gv sv A met:=by
 have hrow:∀ {e sz n:Nat}{v:Value}{xs:List Value},W.ownsRow w.heap.size e sz v n xs→(∀ k,v.ownBlock=some k→k < s ∨ spSS BO BT r W k)→W'.ownsRow w.heap.size e sz v n xs:=fun ho hv=>owns_kept ho (fun q hq=>by
  have hlt:=(ho.lt q hq).2
  have hq':W.heap[q]?=some W.heap[q]:=Array.getElem?_eq_getElem hlt
  rw [hk.keep q _ hq' (hv q hq),hq'])
 have hX:∀ k,k ∈ [BO,r,BT]→k < s ∨ spSS BO BT r W k:=fun k hk=>Or.inr (Or.inl hk)
 refine ⟨⟨hk.keep _ _ h.ra.box (hX _ (by simp)),hrow h.ra.f (fun k hk=>Or.inl (hf k hk)),hrow h.ra.g (fun k hk=>Or.inl (hg k hk)),hrow h.ra.s (fun k hk=>Or.inr (Or.inr ⟨(BO,4),by simp,sv,cell_of_row W BO 4 _ _ _ h.ra.box,hk⟩)),h.ra.hb⟩,
  h.mn.keep hk.size (fun k o ho hor=>hk.keep k o ho ?_),hk.keep _ _ h.bm (Or.inl hs.1),hk.keep _ _ h.b0 (Or.inl hs.2.2),h.ne,⟨hk.os.trans h.bl.os,hk.tape.trans h.bl.tape,hk.output.trans h.bl.output,Nat.le_trans h.bl.size hk.size,fun k hk'=>?_⟩⟩
 ·rcases hor with rfl | h1
  ·exact Or.inl hs.2.1
  ·rcases h1 with h2 | ⟨p,hp,u,hu,hr⟩
   ·simp at h2
    exact hX k (by simp;rcases h2 with h2 | h2;exact Or.inr (Or.inl h2);exact Or.inr (Or.inr h2))
   ·have ep:p=(BT,0):=by simpa using hp
    subst ep
    exact Or.inr (Or.inr ⟨(BT,0),by simp,u,hu,hr⟩)
 ·have hlt:k < W.heap.size:=Nat.lt_of_lt_of_le hk' h.bl.size
  have ho:W.heap[k]?=some W.heap[k]:=Array.getElem?_eq_getElem hlt
  rw [hk.keep k _ ho (Or.inl (by omega)),← ho]
  exact h.bl.block k hk'
theorem spSS_meet {w W W':World}{BO BN BT BM r:Nat}{fv gv sv:Value}{A:Aut}{met:List Spo} (h:spNA w W BO BN BT BM r fv gv sv A met) (hk:KE (spS BT r) W W'):KE (spSS BO BT r) W W':=
 hk.more (fun k hk=>by simp at hk ⊢;rcases hk with h1 | h1;exact Or.inr (Or.inl h1);exact Or.inr (Or.inr h1)) (fun p hp=>by simp at hp ⊢;exact Or.inr hp) (fun p hp=>by
  simp at hp
  rcases hp with rfl | rfl
  ·exact Or.inr ⟨(Array.getElem?_eq_some_iff.1 h.ra.box).1,spS_box h.mn h.ra.box (by decide) (by decide)⟩
  ·exact Or.inl (by simp))
theorem spSS_put {w W W2:World}{BO BN BT BM r g8 cap8 n:Nat}{fv gv sv:Value}{A:Aut}{met:List Spo} (h:spNA w W BO BN BT BM r fv gv sv A met) (hk:KR w.heap.size sv.ownBlock W W2) (hor:sv.ownBlock=some g8 ∨ W.heap.size≤g8) (hg8:g8 < W2.heap.size):KE (spSS BO BT r) W (W2.setCell ⟨BO,4,none⟩ (.slice (some ⟨g8,0,none⟩) n cap8)):=by
 have hbo:=hk.block h.ra.box h.ra.apart.2.2
 have hset:=box_set hbo 4 (.slice (some ⟨g8,0,none⟩) n cap8)
 have hsz:(W2.setCell ⟨BO,4,none⟩ (.slice (some ⟨g8,0,none⟩) n cap8)).heap.size=W2.heap.size:=by simp [World.setCell]
 have hsv:∀ k,sv.ownBlock=some k→spSS BO BT r W k:=fun k hk=>Or.inr ⟨(BO,4),by simp,sv,cell_of_row W BO 4 _ _ _ h.ra.box,hk⟩
 refine ⟨hk.below.os,hk.below.tape,hk.below.output,by rw [hsz];exact hk.size,fun k o ho hs=>?_,fun k hs=>?_⟩
 ·rw [heap_setCell_other _ _ _ _ (fun e=>hs (Or.inl (by simp [e])))]
  exact hk.block ho (fun e=>hs (hsv k e.symm))
 ·rcases hs with h1 | ⟨p,hp,u,hu,hr⟩
  ·exact Or.inl (Or.inl h1)
  ·simp at hp
   rcases hp with rfl | rfl
   ·have e:=(cell_of_row _ BO 4 _ _ _ hset).symm.trans hu
    have e2:(.slice (some ⟨g8,0,none⟩) n cap8:Value)=u:=by simpa using e
    subst e2
    have ek:g8=k:=by simpa [Value.ownBlock] using hr
    subst ek
    rcases hor with h1 | h1
    ·exact Or.inl (hsv _ h1)
    ·exact Or.inr ⟨h1,by rw [hsz];exact hg8⟩
   ·obtain ⟨v,hv,ho⟩:=h.mn.bt
    have hne:BT ≠ BO:=fun e=>by
     have h1:=h.ra.box
     rw [← e,hv] at h1
     injection h1 with h1
     injection h1 with _ h2
     exact absurd h2 (by decide)
    have hbt:(W2.setCell ⟨BO,4,none⟩ (.slice (some ⟨g8,0,none⟩) n cap8)).heap[BT]?=some (.cells #[v] 112):=by
     rw [heap_setCell_other _ _ _ _ hne]
     exact hk.block hv (fun e=>row_apart h.ra.s hv (by decide) BT e.symm rfl)
    have eu:=spRow_one hbt hu
    subst eu
    exact Or.inl (Or.inr ⟨(BT,0),by simp,_,cell_of_row W BT 0 _ _ _ hv,hr⟩)
end Go.Proofs.YtpiacnnifdjlkabGreatDoor
