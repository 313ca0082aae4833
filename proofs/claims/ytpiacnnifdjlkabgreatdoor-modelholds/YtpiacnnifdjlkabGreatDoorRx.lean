import Derived.Test.YtpiacnnifdjlkabGreatDoorRu
import Derived.Test.YtpiacnnifdjlkabGreatDoorYm
import Derived.Shelf.SlSortCmp.WholeK
import Derived.Shelf.SlSortCmp.NoneTotal
import Derived.Ground.SlsfProg
set_option maxRecDepth 100000
set_option maxHeartbeats 8000000
namespace Go.Proofs.YtpiacnnifdjlkabGreatDoor
open Go.RowKit Go.Sort Go.MapKept
def prSl (w:World) (v:Value) (zs:List Pair):Prop:=
 ∃ a cap,v=.slice a zs.length cap∧zs.length≤maxLen∧(zs=[] ∨ ∃ b off,a=some ⟨b,off,none⟩∧∀ (i:Nat) (x:Pair),zs[i]?=some x→∀ (q:Nat) (u:Value),(prEnc x)[q]?=some u→w.cell? ⟨b,off+i * 3+q,none⟩=some u)∧(a=none→cap=0)∧zs.length≤cap
structure prNA (w W:World) (BO BN BT BM r:Nat) (fv gv sv:Value) (A:Aut) (met:List Pair):Prop where
 ra:RA W w.heap.size BO fv gv sv A
 mn:prMN W w.heap.size BN BT r met
 bm:W.heap[BM]?=some (.cells #[.func (.func 155) #[] #[.pointer (some ⟨BN,0,none⟩),.pointer (some ⟨BT,0,none⟩)]] 222)
 b0:W.heap[w.heap.size]?=some (.cells #[.int .i64 0,.int .i64 0,.slice none 0 0,.slice none 0 0,.slice none 0 0] 26)
 ne:BO ≠ w.heap.size∧w.heap.size≤BM
 bl:Below w.heap.size w W
theorem prNA.below {w W W':World}{BO BN BT BM r:Nat}{fv gv sv:Value}{A:Aut}{met:List Pair} (h:prNA w W BO BN BT BM r fv gv sv A met) (hb:Below W.heap.size W W'):prNA w W' BO BN BT BM r fv gv sv A met:=
 ⟨h.ra.below hb,h.mn.below hb,belowRow hb h.bm,belowRow hb h.b0,h.ne,h.bl.trans (hb.mono h.bl.size)⟩
theorem prS_not {W:World}{base BN BT r k:Nat}{met:List Pair} (h:prMN W base BN BT r met) {o:Obj} (_hk:W.heap[k]?=some o) (h1:k ≠ r) (h2:k ≠ BT) (h3:∀ v,W.ownsRow base 153 3 v met.length (met.flatMap prEnc)→some k ≠ v.ownBlock):¬ prS BT r W k:=by
 rintro (h4 | ⟨p,hp,u,hu,hr⟩)
 ·simp at h4
  rcases h4 with h4 | h4
  ·exact h1 h4
  ·exact h2 h4
 ·have ep:p=(BT,0):=by simpa using hp
  subst ep
  obtain ⟨v,hv,ho⟩:=h.bt
  have eu:=prRow_one hv hu
  subst eu
  exact h3 _ ho hr.symm
theorem prS_box {W:World}{base BN BT r k:Nat}{met:List Pair} (h:prMN W base BN BT r met) {c:Array Value}{t:TypeId} (hk:W.heap[k]?=some (.cells c t)) (h1:t ≠ 151) (h2:t ≠ 153):¬ prS BT r W k:=by
 refine prS_not h hk (fun e=>?_) (fun e=>?_) (fun v ho e=>row_apart ho hk (Ne.symm h2) k e.symm rfl)
 ·obtain ⟨o,ho,hc⟩:=h.mp.not_cells
  rw [e,ho] at hk
  injection hk with hk
  subst hk
  cases hc
 ·obtain ⟨v,hv,_⟩:=h.bt
  rw [e,hv] at hk
  injection hk with hk
  injection hk with _ h3
  exact h1 h3.symm
theorem prS_old {W:World}{base BN BT r k:Nat}{met:List Pair} (h:prMN W base BN BT r met) (hk:k < base):¬ prS BT r W k:=by
 have hlt:k < W.heap.size:=Nat.lt_of_lt_of_le hk h.lo.2.2.2
 have ho:W.heap[k]?=some W.heap[k]:=Array.getElem?_eq_getElem hlt
 exact prS_not h ho (by have:=h.lo.2.2.1;omega) (by have:=h.lo.2.1;omega) (fun v hv e=>by have:=(hv.lt k e.symm).1;omega)
theorem prS_row {W W':World}{base BN BT r:Nat}{met:List Pair} (h:prMN W base BN BT r met) (hk:KE (prS BT r) W W') {e sz n:Nat}{v:Value}{xs:List Value} (ho:W.ownsRow base e sz v n xs) (h1:e ≠ 151) (h2:e ≠ 153):W'.ownsRow base e sz v n xs:=
 owns_kept ho (fun q hq=>by
  have hlt:=(ho.lt q hq).2
  have hq':W.heap[q]?=some W.heap[q]:=Array.getElem?_eq_getElem hlt
  obtain ⟨c',fz,hc⟩:=owns_cells ho q hq
  rw [hk.keep q _ hq' (prS_not h hq' (fun e1=>?_) (fun e1=>?_) (fun v' hv' e1=>rows_apart hv' ho (Ne.symm h2) e1.symm hq)),hq']
  ·obtain ⟨o,ho',hcc⟩:=h.mp.not_cells
   rw [e1,ho'] at hc
   injection hc with hc
   subst hc
   cases hcc
  ·obtain ⟨v',hv',_⟩:=h.bt
   rw [e1,hv'] at hc
   injection hc with hc
   injection hc with _ h3
   exact h1 h3.symm)
theorem prNA.meet {w W W':World}{BO BN BT BM r:Nat}{fv gv sv:Value}{A:Aut}{met met':List Pair} (h:prNA w W BO BN BT BM r fv gv sv A met) (hk:KE (prS BT r) W W') (hm:prMN W' w.heap.size BN BT r met'):prNA w W' BO BN BT BM r fv gv sv A met':=
 ⟨⟨hk.keep _ _ h.ra.box (prS_box h.mn h.ra.box (by decide) (by decide)),prS_row h.mn hk h.ra.f (by decide) (by decide),prS_row h.mn hk h.ra.g (by decide) (by decide),prS_row h.mn hk h.ra.s (by decide) (by decide),h.ra.hb⟩,hm,
  hk.keep _ _ h.bm (prS_box h.mn h.bm (by decide) (by decide)),hk.keep _ _ h.b0 (prS_box h.mn h.b0 (by decide) (by decide)),h.ne,
  ⟨hk.os.trans h.bl.os,hk.tape.trans h.bl.tape,hk.output.trans h.bl.output,Nat.le_trans h.bl.size hk.size,fun k hk'=>by
   have hlt:k < W.heap.size:=Nat.lt_of_lt_of_le hk' h.bl.size
   have ho:W.heap[k]?=some W.heap[k]:=Array.getElem?_eq_getElem hlt
   rw [hk.keep k _ ho (prS_old h.mn hk'),← ho]
   exact h.bl.block k hk'⟩⟩
theorem prNA.rest {w W W2:World}{BO BN BT BM r:Nat}{fv gv sv:Value}{A:Aut}{met:List Pair} (h:prNA w W BO BN BT BM r fv gv sv A met) {e sz n:Nat}{v:Value}{xs:List Value} (ho:W.ownsRow w.heap.size e sz v n xs) (hk:KR w.heap.size v.ownBlock W W2) (he:e ≠ 151∧e ≠ 153∧e ≠ 221∧e ≠ 222∧e ≠ 26) (k:Nat) (u:Value) :
  prMN (W2.setCell ⟨BO,k,none⟩ u) w.heap.size BN BT r met∧(W2.setCell ⟨BO,k,none⟩ u).heap[BM]?=some (.cells #[.func (.func 155) #[] #[.pointer (some ⟨BN,0,none⟩),.pointer (some ⟨BT,0,none⟩)]] 222)∧(W2.setCell ⟨BO,k,none⟩ u).heap[w.heap.size]?=some (.cells #[.int .i64 0,.int .i64 0,.slice none 0 0,.slice none 0 0,.slice none 0 0] 26)∧Below w.heap.size w (W2.setCell ⟨BO,k,none⟩ u):=by
 have keep:∀ (q:Nat) (o:Obj),W.heap[q]?=some o→some q ≠ v.ownBlock→q ≠ BO→(W2.setCell ⟨BO,k,none⟩ u).heap[q]?=some o:=fun q o hq h1 h2=>by
  rw [heap_setCell_other _ _ _ _ h2]
  exact hk.block hq h1
 have hsz:(W2.setCell ⟨BO,k,none⟩ u).heap.size=W2.heap.size:=by simp [World.setCell]
 have hbo:=h.ra.box
 have neB:∀ {q:Nat}{c:Array Value}{t:TypeId},W.heap[q]?=some (.cells c t)→t ≠ 26→q ≠ BO:=fun hq ht e1=>by
  rw [e1,hbo] at hq
  injection hq with hq
  injection hq with _ h3
  exact ht h3.symm
 have rowB:∀ {q:Nat}{c:Array Value}{t:TypeId},W.heap[q]?=some (.cells c t)→e ≠ t→some q ≠ v.ownBlock:=fun hq ht e1=>row_apart ho hq ht _ e1.symm rfl
 obtain ⟨tv,htv,hto⟩:=h.mn.bt
 obtain ⟨ro,hro,hrc⟩:=h.mn.mp.not_cells
 have hmn:=h.mn
 refine ⟨⟨keep _ _ hmn.bn (rowB hmn.bn he.2.2.1) (neB hmn.bn (by decide)),⟨tv,keep _ _ htv (rowB htv he.1) (neB htv (by decide)),owns_kept hto (fun q hq=>?_)⟩,hmn.mp.keep (fun o ho'=>keep _ _ ho' (not_row ho hro hrc) (fun e1=>?_)),⟨hmn.lo.1,hmn.lo.2.1,hmn.lo.2.2.1,by rw [hsz];exact Nat.le_trans hmn.lo.2.2.2 hk.size⟩⟩,keep _ _ h.bm (rowB h.bm he.2.2.2.1) (neB h.bm (by decide)),keep _ _ h.b0 (rowB h.b0 he.2.2.2.2) (Ne.symm h.ne.1),?_⟩
 ·have hlt:=(hto.lt q hq).2
  have hq':W.heap[q]?=some W.heap[q]:=Array.getElem?_eq_getElem hlt
  rw [keep q _ hq' (fun e1=>rows_apart hto ho (Ne.symm he.2.1) hq e1.symm) (fun e1=>row_apart hto hbo (by decide) q hq e1),hq']
 ·rw [e1,hbo] at hro
  injection hro with hro
  subst hro
  cases hrc
 ·exact (h.bl.trans hk.below).setCell h.ra.hb u
theorem prDet {W:World}{base BN BT r:Nat}{met:List Pair} (h:prMN W base BN BT r met):Det W.heap.size (prS BT r):=det_ownOf (by simp) (by
 intro k hk
 simp at hk
 rcases hk with rfl | rfl
 ·exact h.mp.lt
 ·obtain ⟨v,hv,_⟩:=h.bt
  exact (Array.getElem?_eq_some_iff.1 hv).1)
theorem prS_lt {W:World}{base BN BT r k:Nat}{met:List Pair} (h:prMN W base BN BT r met) (hk:prS BT r W k):k < W.heap.size:=by
 obtain ⟨v,hv,ho⟩:=h.bt
 rcases hk with h1 | ⟨p,hp,u,hu,hr⟩
 ·simp at h1
  rcases h1 with rfl | rfl
  ·exact h.mp.lt
  ·exact (Array.getElem?_eq_some_iff.1 hv).1
 ·have ep:p=(BT,0):=by simpa using hp
  subst ep
  have eu:=prRow_one hv hu
  subst eu
  exact (ho.lt k hr).2
theorem prFlat (zs:List Pair):∀ (i:Nat) (x:Pair),zs[i]?=some x→∀ (q:Nat) (u:Value),(prEnc x)[q]?=some u→(zs.flatMap prEnc)[i * 3+q]?=some u:=by
 induction zs with
 | nil=>intro i x hx;simp at hx
 | cons z zs ih =>
  intro i x hx q u hu
  rw [List.flatMap_cons]
  cases i with
  | zero =>
   have e:z=x:=by simpa using hx
   subst e
   have hq:q < (prEnc z).length:=(List.getElem?_eq_some_iff.1 hu).1
   rw [Nat.zero_mul,Nat.zero_add,List.getElem?_append_left hq]
   exact hu
  | succ i =>
   rw [List.getElem?_append_right (by rw [prEnc_len];omega),prEnc_len,show (i+1) * 3+q - 3=i * 3+q by omega]
   exact ih i x (by simpa using hx) q u hu
theorem prMN.at {W:World}{base BN BT r:Nat}{met:List Pair} (h:prMN W base BN BT r met) {i:Nat}{x:Pair} (hx:met[i]?=some x):∃ gm cp,W.heap[BT]?=some (.cells #[.slice (some ⟨gm,0,none⟩) met.length cp] 151)∧met.length≤cp∧gm < W.heap.size∧∀ (q:Nat) (u:Value),(prEnc x)[q]?=some u→W.cell? ⟨gm,i * 3+q,none⟩=some u:=by
 obtain ⟨v,hv,ho⟩:=h.bt
 have hi:i < met.length:=(List.getElem?_eq_some_iff.1 hx).1
 rcases ho.2 with ⟨rfl,h0⟩ | ⟨g,cap,cur,rfl,hb,hg,hnc,hcm,hcs,ht⟩
 ·omega
 ·refine ⟨g,cap,hv,hnc,(Array.getElem?_eq_some_iff.1 hg).1,fun q u hu=>?_⟩
  have hf:=prFlat met i x hx q u hu
  rw [← ht,List.getElem?_take] at hf
  split at hf
  ·have:=cell_of_row W g (i * 3+q) _ _ _ hg
   rw [this]
   simpa using hf
  ·cases hf
abbrev prSS (BO BT r:Nat):World→Nat→Prop:=ownOf [(BO,4),(BT,0)] [BO,r,BT]
theorem prSS_cases {w W:World}{BO BN BT BM r:Nat}{fv gv sv:Value}{A:Aut}{met:List Pair} (h:prNA w W BO BN BT BM r fv gv sv A met) {k:Nat} (hk:prSS BO BT r W k):k=BO ∨ sv.ownBlock=some k ∨ prS BT r W k:=by
 rcases hk with h1 | ⟨p,hp,u,hu,hr⟩
 ·simp at h1
  rcases h1 with rfl | rfl | rfl
  ·exact Or.inl rfl
  ·exact Or.inr (Or.inr (Or.inl (by simp)))
  ·exact Or.inr (Or.inr (Or.inl (by simp)))
 ·simp at hp
  rcases hp with rfl | rfl
  ·have e:=(cell_of_row W BO 4 _ _ _ h.ra.box).symm.trans hu
   have e2:sv=u:=by simpa using e
   subst e2
   exact Or.inr (Or.inl hr)
  ·exact Or.inr (Or.inr (Or.inr ⟨(BT,0),by simp,u,hu,hr⟩))
theorem prSS_in {w W:World}{BO BN BT BM r:Nat}{fv gv sv:Value}{A:Aut}{met:List Pair} (h:prNA w W BO BN BT BM r fv gv sv A met) {k:Nat} (hk:prSS BO BT r W k):w.heap.size≤k∧k < W.heap.size:=by
 rcases prSS_cases h hk with rfl | h1 | h1
 ·exact ⟨h.ra.hb,(Array.getElem?_eq_some_iff.1 h.ra.box).1⟩
 ·exact h.ra.s.lt k h1
 ·refine ⟨?_,prS_lt h.mn h1⟩
  rcases Nat.lt_or_ge k w.heap.size with h2 | h2
  ·exact absurd h1 (prS_old h.mn h2)
  ·exact h2
theorem prSS_det {w W:World}{BO BN BT BM r:Nat}{fv gv sv:Value}{A:Aut}{met:List Pair} (h:prNA w W BO BN BT BM r fv gv sv A met):Det W.heap.size (prSS BO BT r):=det_ownOf (by simp) (by
 intro k hk
 simp at hk
 rcases hk with rfl | rfl | rfl
 ·exact (Array.getElem?_eq_some_iff.1 h.ra.box).1
 ·exact h.mn.mp.lt
 ·obtain ⟨v,hv,_⟩:=h.mn.bt
  exact (Array.getElem?_eq_some_iff.1 hv).1)
theorem prNA.ki {w W W':World}{BO BN BT BM r s:Nat}{fv gv sv:Value}{A:Aut}{met:List Pair} (h:prNA w W BO BN BT BM r fv gv sv A met) (hk:KI s (prSS BO BT r) W W') (hf:∀ k,fv.ownBlock=some k→k < s) (hg:∀ k,gv.ownBlock=some k→k < s) (hs:BM < s∧BN < s∧w.heap.size < s):prNA w W' BO BN BT BM r fv gv sv A met:=by
 have hrow:∀ {e sz n:Nat}{v:Value}{xs:List Value},W.ownsRow w.heap.size e sz v n xs→(∀ k,v.ownBlock=some k→k < s ∨ prSS BO BT r W k)→W'.ownsRow w.heap.size e sz v n xs:=fun ho hv=>owns_kept ho (fun q hq=>by
  have hlt:=(ho.lt q hq).2
  have hq':W.heap[q]?=some W.heap[q]:=Array.getElem?_eq_getElem hlt
  rw [hk.keep q _ hq' (hv q hq),hq'])
 have hX:∀ k,k ∈ [BO,r,BT]→k < s ∨ prSS BO BT r W k:=fun k hk=>Or.inr (Or.inl hk)
 refine ⟨⟨hk.keep _ _ h.ra.box (hX _ (by simp)),hrow h.ra.f (fun k hk=>Or.inl (hf k hk)),hrow h.ra.g (fun k hk=>Or.inl (hg k hk)),hrow h.ra.s (fun k hk=>Or.inr (Or.inr ⟨(BO,4),by simp,sv,cell_of_row W BO 4 _ _ _ h.ra.box,hk⟩)),h.ra.hb⟩,
  h.mn.keep hk.size (fun k o ho hor=>hk.keep k o ho ?_),hk.keep _ _ h.bm (Or.inl hs.1),hk.keep _ _ h.b0 (Or.inl hs.2.2),h.ne,⟨hk.os.trans h.bl.os,hk.tape.trans h.bl.tape,hk.output.trans h.bl.output,Nat.le_trans h.bl.size hk.size,fun k hk'=>?_⟩⟩
 ·rcases hor with rfl | h1
  ·exact Or.inl hs.2.1
  ·rcases h1 with h2 | ⟨p,hp,u,hu,hr⟩
   ·simp at h2
    exact hX k (by simp;rcases h2 with h2 | h2;exact Or.inr (Or.inl h2);exact Or.inr (Or.inr h2))
   ·have ep:p=(BT,0):=by simpa using hp
    subst ep
    exact Or.inr (Or.inr ⟨(BT,0),by simp,u,hu,hr⟩)
 ·have hlt:k < W.heap.size:=Nat.lt_of_lt_of_le hk' h.bl.size
  have ho:W.heap[k]?=some W.heap[k]:=Array.getElem?_eq_getElem hlt
  rw [hk.keep k _ ho (Or.inl (by omega)),← ho]
  exact h.bl.block k hk'
theorem prSS_meet {w W W':World}{BO BN BT BM r:Nat}{fv gv sv:Value}{A:Aut}{met:List Pair} (h:prNA w W BO BN BT BM r fv gv sv A met) (hk:KE (prS BT r) W W'):KE (prSS BO BT r) W W':=
 hk.more (fun k hk=>by simp at hk ⊢;rcases hk with h1 | h1;exact Or.inr (Or.inl h1);exact Or.inr (Or.inr h1)) (fun p hp=>by simp at hp ⊢;exact Or.inr hp) (fun p hp=>by
  simp at hp
  rcases hp with rfl | rfl
  ·exact Or.inr ⟨(Array.getElem?_eq_some_iff.1 h.ra.box).1,prS_box h.mn h.ra.box (by decide) (by decide)⟩
  ·exact Or.inl (by simp))
theorem prSS_put {w W W2:World}{BO BN BT BM r g8 cap8 n:Nat}{fv gv sv:Value}{A:Aut}{met:List Pair} (h:prNA w W BO BN BT BM r fv gv sv A met) (hk:KR w.heap.size sv.ownBlock W W2) (hor:sv.ownBlock=some g8 ∨ W.heap.size≤g8) (hg8:g8 < W2.heap.size):KE (prSS BO BT r) W (W2.setCell ⟨BO,4,none⟩ (.slice (some ⟨g8,0,none⟩) n cap8)):=by
 have hbo:=hk.block h.ra.box h.ra.apart.2.2
 have hset:=box_set hbo 4 (.slice (some ⟨g8,0,none⟩) n cap8)
 have hsz:(W2.setCell ⟨BO,4,none⟩ (.slice (some ⟨g8,0,none⟩) n cap8)).heap.size=W2.heap.size:=by simp [World.setCell]
 have hsv:∀ k,sv.ownBlock=some k→prSS BO BT r W k:=fun k hk=>Or.inr ⟨(BO,4),by simp,sv,cell_of_row W BO 4 _ _ _ h.ra.box,hk⟩
 refine ⟨hk.below.os,hk.below.tape,hk.below.output,by rw [hsz];exact hk.size,fun k o ho hs=>?_,fun k hs=>?_⟩
 ·rw [heap_setCell_other _ _ _ _ (fun e=>hs (Or.inl (by simp [e])))]
  exact hk.block ho (fun e=>hs (hsv k e.symm))
 ·rcases hs with h1 | ⟨p,hp,u,hu,hr⟩
  ·exact Or.inl (Or.inl h1)
  ·simp at hp
   rcases hp with rfl | rfl
   ·have e:=(cell_of_row _ BO 4 _ _ _ hset).symm.trans hu
    have e2:(.slice (some ⟨g8,0,none⟩) n cap8:Value)=u:=by simpa using e
    subst e2
    have ek:g8=k:=by simpa [Value.ownBlock] using hr
    subst ek
    rcases hor with h1 | h1
    ·exact Or.inl (hsv _ h1)
    ·exact Or.inr ⟨h1,by rw [hsz];exact hg8⟩
   ·obtain ⟨v,hv,ho⟩:=h.mn.bt
    have hne:BT ≠ BO:=fun e=>by
     have h1:=h.ra.box
     rw [← e,hv] at h1
     injection h1 with h1
     injection h1 with _ h2
     exact absurd h2 (by decide)
    have hbt:(W2.setCell ⟨BO,4,none⟩ (.slice (some ⟨g8,0,none⟩) n cap8)).heap[BT]?=some (.cells #[v] 151):=by
     rw [heap_setCell_other _ _ _ _ hne]
     exact hk.block hv (fun e=>row_apart h.ra.s hv (by decide) BT e.symm rfl)
    have eu:=prRow_one hbt hu
    subst eu
    exact Or.inl (Or.inr ⟨(BT,0),by simp,_,cell_of_row W BT 0 _ _ _ hv,hr⟩)
end Go.Proofs.YtpiacnnifdjlkabGreatDoor
namespace Go.Proofs
open Go.Shelf Go.RowKit Go.Lib Go.Sort
def YtpiacnnifdjlkabGreatDoor.laysSort_ren:Go.Shelf.Ren:=⟨fun | 6=>115 | 15=>158 | 14=>157 | 28=>204 | 29=>205 | 20=>196 | 21=>197 | 22=>198 | 23=>199 | 24=>200 | 25=>201 | 26=>202 | 27=>203 | 46=>226 | 47=>227 | 48=>228 | 49=>229 | 50=>230 | 57=>245 | n=>n,fun | 22=>24 | 24=>88 | 25=>173 | 3=>3 | 39=>226 | 0=>0 | 53=>256 | 55=>185 | 4=>4 | 46=>250 | 45=>249 | 50=>168 | 5=>5 | 9=>9 | 66=>271 | 70=>275 | 76=>286 | 77=>287 | n=>n,fun | n=>n⟩
theorem YtpiacnnifdjlkabGreatDoor.laysSort:Go.Proofs.SlLaysF0.n6 Tryz.prog YtpiacnnifdjlkabGreatDoor.laysSort_ren:={
 mixed:=by kernel_rfl
 f6:=⟨Tryz.f115.name,by decide,Tryz.func115.trans (congrArg some (by kernel_rfl))⟩
 f14:=⟨Tryz.f157.name,by decide,Tryz.func157.trans (congrArg some (by kernel_rfl))⟩
 f15:=Tryz.func158.trans (congrArg some (by kernel_rfl))
 f20:=⟨Tryz.f196.name,by decide,Tryz.func196.trans (congrArg some (by kernel_rfl))⟩
 f21:=⟨Tryz.f197.name,by decide,Tryz.func197.trans (congrArg some (by kernel_rfl))⟩
 f22:=⟨Tryz.f198.name,by decide,Tryz.func198.trans (congrArg some (by kernel_rfl))⟩
 f23:=⟨Tryz.f199.name,by decide,Tryz.func199.trans (congrArg some (by kernel_rfl))⟩
 f24:=⟨Tryz.f200.name,by decide,Tryz.func200.trans (congrArg some (by kernel_rfl))⟩
 f25:=⟨Tryz.f201.name,by decide,Tryz.func201.trans (congrArg some (by kernel_rfl))⟩
 f26:=⟨Tryz.f202.name,by decide,Tryz.func202.trans (congrArg some (by kernel_rfl))⟩
 f27:=⟨Tryz.f203.name,by decide,Tryz.func203.trans (congrArg some (by kernel_rfl))⟩
 f28:=Tryz.func204.trans (congrArg some (by kernel_rfl))
 f29:=Tryz.func205.trans (congrArg some (by kernel_rfl))
 f46:=⟨Tryz.f226.name,by decide,Tryz.func226.trans (congrArg some (by kernel_rfl))⟩
 f47:=Tryz.func227.trans (congrArg some (by kernel_rfl))
 f48:=Tryz.func228.trans (congrArg some (by kernel_rfl))
 f49:=⟨Tryz.f229.name,by decide,Tryz.func229.trans (congrArg some (by kernel_rfl))⟩
 f50:=⟨Tryz.f230.name,by decide,Tryz.func230.trans (congrArg some (by kernel_rfl))⟩
 f57:=⟨Tryz.f245.name,by decide,Tryz.func245.trans (congrArg some (by kernel_rfl))⟩
 t0:=Tryz.underlying0
 a0:=Tryz.isAgg0
 z0:=Tryz.sizeOf0
 v0:=Tryz.zeroValue0
 t3:=Tryz.underlying3
 a3:=Tryz.isAgg3
 z3:=Tryz.sizeOf3
 v3:=Tryz.zeroValue3
 t4:=Tryz.underlying4
 a4:=Tryz.isAgg4
 z4:=Tryz.sizeOf4
 v4:=Tryz.zeroValue4
 t5:=Tryz.underlying5
 a5:=Tryz.isAgg5
 z5:=Tryz.sizeOf5
 v5:=Tryz.zeroValue5
 t9:=Tryz.underlying9
 a9:=Tryz.isAgg9
 z9:=Tryz.sizeOf9
 v9:=Tryz.zeroValue9
 t22:=Tryz.underlying24
 a22:=Tryz.isAgg24
 z22:=Tryz.sizeOf24
 v22:=Tryz.zeroValue24
 t25:=Tryz.underlying173
 a25:=Tryz.isAgg173
 z25:=Tryz.sizeOf173
 v25:=Tryz.zeroValue173
 t39:=Tryz.underlying226
 a39:=Tryz.isAgg226
 z39:=Tryz.sizeOf226
 v39:=Tryz.zeroValue226
 t45:=Tryz.underlying249
 a45:=Tryz.isAgg249
 z45:=Tryz.sizeOf249
 v45:=Tryz.zeroValue249
 t46:=Tryz.underlying250
 a46:=Tryz.isAgg250
 z46:=Tryz.sizeOf250
 v46:=Tryz.zeroValue250
 t50:=Tryz.underlying168
 a50:=Tryz.isAgg168
 z50:=Tryz.sizeOf168
 v50:=Tryz.zeroValue168
 t53:=Tryz.underlying256
 a53:=Tryz.isAgg256
 z53:=Tryz.sizeOf256
 v53:=Tryz.zeroValue256
 t55:=Tryz.underlying185
 a55:=Tryz.isAgg185
 z55:=Tryz.sizeOf185
 v55:=Tryz.zeroValue185
 t66:=Tryz.underlying271
 a66:=Tryz.isAgg271
 z66:=Tryz.sizeOf271
 v66:=Tryz.zeroValue271
 t70:=Tryz.underlying275
 a70:=Tryz.isAgg275
 z70:=Tryz.sizeOf275
 v70:=Tryz.zeroValue275
 t76:=Tryz.underlying286
 a76:=Tryz.isAgg286
 z76:=Tryz.sizeOf286
 v76:=Tryz.zeroValue286
 t77:=Tryz.underlying287
 a77:=Tryz.isAgg287
 z77:=Tryz.sizeOf287
 v77:=Tryz.zeroValue287 }
end Go.Proofs
namespace Go.Proofs.YtpiacnnifdjlkabGreatDoor
open Go.RowKit Go.Sort Go.Shelf
theorem three_grown (w:World) (a b c:Obj):(((w.alloc a).alloc b).alloc c).drew=grow (w.drewN 1) #[a,b,c]:=by
 rw [alloc_eq_grow,alloc_eq_grow,alloc_eq_grow,grow_grow,grow_grow]
 rfl
theorem order_grown (a b:Stp) (w:World) :
  Calls Tryz.prog 116 #[.agg #[.int .i64 a.f,.int .i64 a.l,.int .i64 a.t],.agg #[.int .i64 b.f,.int .i64 b.l,.int .i64 b.t]] w fun e w'=>e=.returned (.int .i64 (ordS a b))∧∃ q os',w'=grow (w.drewN q) os':=by
 obtain ⟨af,al,at_⟩:=a
 obtain ⟨bf,bl,bt⟩:=b
 dsimp only [ordS]
 go_enter Tryz.func116,Tryz.ntmps116
 go_wp2_with (fail)
 go_region_held3 (fun w'=>w'.cell? ⟨w.heap.size,0,none⟩=some (.int .i64 af)∧w'.cell? ⟨w.heap.size,1,none⟩=some (.int .i64 al)∧w'.cell? ⟨w.heap.size,2,none⟩=some (.int .i64 at_)∧w'.cell? ⟨w.heap.size+1,0,none⟩=some (.int .i64 bf)∧w'.cell? ⟨w.heap.size+1,1,none⟩=some (.int .i64 bl)∧w'.cell? ⟨w.heap.size+1,2,none⟩=some (.int .i64 bt)) (go_keep) (first | (go_at_call 153;refine (compare_any _ _ _).mono ?_;rintro e w' ⟨rfl,rfl⟩) | (go_at_call 159;refine (or_any _ (cmpI af bf) (cmpI al bl) (cmpI at_ bt) _ ?_ ?_ ?_).mono ?_;exact cell_three _ _ _ _ _ 0;exact cell_three _ _ _ _ _ 1;exact cell_three _ _ _ _ _ 2;rintro e w' ⟨rfl,rfl⟩))
 go_wp2
 go_ret
 exact ⟨rfl,1,#[_,_,_],three_grown _ _ _ _⟩
def encS (s:Stp):List Value:=[.int .i64 s.f,.int .i64 s.l,.int .i64 s.t]
theorem stepCells_at {ss:List Stp}{t:Nat} (h:t < ss.length * 3):(stepCells ss)[t]?=(encS (ss.getD (t / 3) stp0))[t % 3]?:=by
 obtain ⟨h0,h1,h2⟩:=stepCells_get ss (t / 3) (by omega)
 have hm:t % 3=0 ∨ t % 3=1 ∨ t % 3=2:=by omega
 rcases hm with hm | hm | hm <;> rw [hm]
 ·rw [show t=t / 3 * 3 by omega];rw [show t / 3 * 3 / 3=t / 3 by omega];exact h0
 ·rw [show t=t / 3 * 3+1 by omega];rw [show (t / 3 * 3+1) / 3=t / 3 by omega];exact h1
 ·rw [show t=t / 3 * 3+2 by omega];rw [show (t / 3 * 3+2) / 3=t / 3 by omega];exact h2
theorem ordS_lt (x y:Stp):(ordS x y < 0) ↔ (x.f < y.f ∨ x.f=y.f∧(x.l < y.l ∨ x.l=y.l∧x.t < y.t)):=by
 unfold ordS orI cmpI
 by_cases h1:x.f < y.f
 ·simp [h1]
 by_cases h2:y.f < x.f
 ·simp [h1,h2];omega
 have e1:x.f=y.f:=by omega
 by_cases h3:x.l < y.l
 ·simp [e1,h3]
 by_cases h4:y.l < x.l
 ·simp [e1,h3,h4];omega
 have e2:x.l=y.l:=by omega
 by_cases h5:x.t < y.t
 ·simp [e1,e2,h5]
 by_cases h6:y.t < x.t
 ·simp [e1,e2,h5,h6]
 simp [e1,e2,h5,h6]
theorem sort_any {W:World}{base:Nat}{sv:Value}{ss:List Stp} (ho:W.ownsRow base 88 3 sv ss.length (stepCells ss)) (hlen:ss.length≤1000000001) :
  Calls Tryz.prog 115 #[sv,.func (.func 116) #[] #[]] W fun e W'=>e=.returned (.tuple #[])∧∃ ss',ss'.Perm ss∧ss'.Pairwise (fun a b=>¬ ordS b a < 0)∧W'.ownsRow base 88 3 sv ss'.length (stepCells ss')∧W.grownBy W' sv.ownBlock:=by
 rcases ho.2 with ⟨rfl,h0⟩ | ⟨g,cap,cur,rfl,hb,hg,hnc,hcm,hcs,ht⟩
 ·have hss:ss=[]:=List.eq_nil_of_length_eq_zero (by omega)
  subst hss
  refine (AnyF.slices_SortFunc_none { laysSort with } none 0 _ W).mono ?_
  rintro e W' ⟨rfl,rfl⟩
  exact ⟨rfl,[],List.Perm.refl _,List.Pairwise.nil,ho,⟨rfl,rfl,rfl,Nat.le_refl _,fun _ _ _=>rfl⟩⟩
 ·letI:Inhabited Stp:=⟨stp0⟩
  have hcur:∀ t,t < ss.length * 3→cur[t]?=(stepCells ss)[t]?:=fun t h=>by
   rw [← ht,List.getElem?_take_of_lt h,Array.getElem?_toList]
  have hat:∀ (zs:List Stp) (i:Nat),i < zs.length→zs.toArray[i]! = zs.getD i stp0:=fun zs i hi=>by
   rw [getElem!_pos _ i (by simpa using hi)]
   simp [List.getD,hi]
  have hflat:∀ (zs:List Stp) (t:Nat),t < zs.length * 3→(stepCells zs)[t]?=some ((flatK encS 3 zs.toArray)[t]!):=fun zs t h=>by
   rw [get_flatK encS 3 zs.toArray t (by simpa using h),hat zs (t / 3) (by omega),stepCells_at h]
   have hm:t % 3=0 ∨ t % 3=1 ∨ t % 3=2:=by omega
   rcases hm with hm | hm | hm <;> rw [hm] <;> rfl
  have hH:HoldsK encS 3 W g 0 ss.toArray:=by
   intro j hj
   have hj':j < ss.length * 3:=by simpa using hj
   refine ⟨?_,by simp [World.frozen?,hg]⟩
   rw [cell_of_row W g (0+j) _ _ _ hg,Nat.zero_add,hcur j hj',hflat ss j hj']
   rfl
  have hO:SWO (ltOf ordS):=by
   refine ⟨fun x=>?_,fun x y z h1 h2=>?_,fun x y z h1 h2=>?_⟩
   ·unfold ltOf;rw [decide_eq_false_iff_not,ordS_lt];omega
   ·unfold ltOf at *;rw [decide_eq_true_iff,ordS_lt] at *;omega
   ·unfold ltOf at *;rw [decide_eq_false_iff_not,ordS_lt] at *;omega
  have hcon:=AnyQ.slices_SortFunc laysSort 3 Tryz.isAgg88 Tryz.sizeOf88 encS (fun _=>rfl) (fun x v hv=>by simp [encS] at hv;rcases hv with rfl | rfl | rfl <;> rfl) ordS hO 116 #[] g 0 cap ss.toArray W (enters_of Tryz.func116 (by kernel_rfl) rfl) (fun _ _ _ _ x y=>order_grown x y _) hH (Array.getElem?_eq_some_iff.1 hg).1 (by simp;omega)
  have hsz:ss.toArray.size=ss.length:=by simp
  rw [hsz] at hcon
  refine hcon.mono ?_
  rintro e W' ⟨rfl,d',n,os,hp,hs,rfl⟩
  obtain ⟨p1,_,p3⟩:=hp
  have hl':d'.size=ss.length:=by rw [p1];simp
  have e1:d'.extract 0 ss.length=d':=by rw [← hl'];simp
  have e2:ss.toArray.extract 0 ss.length=ss.toArray:=by rw [← hsz];exact Array.extract_size
  rw [e1,e2] at p3
  obtain ⟨zs,rfl⟩:∃ zs:List Stp,d'=zs.toArray:=⟨d'.toList,by simp⟩
  have hzl:zs.length=ss.length:=by simpa using hl'
  have hgr:W.grownBy (sortWorldK encS 3 W g 0 n zs.toArray os) (some g):=by
   refine ⟨rfl,rfl,rfl,by simp [sortWorldK,putRowK],fun k hk hne=>?_⟩
   unfold sortWorldK putRowK
   rw [heap_grow_old _ _ (by simpa using hk)]
   have:g ≠ k:=fun e=>hne (by rw [e])
   simp [Go.Sort.putRow,Go.Sort.mapBlock,Go.Sort.ahead,Array.getElem?_modify,this]
  have hh:(sortWorldK encS 3 W g 0 n zs.toArray os).heap[g]?=some (.cells (putCells id 0 (flatK encS 3 zs.toArray) cur) 88):=by
   unfold sortWorldK putRowK
   rw [heap_grow_old _ _ (by simpa using (Array.getElem?_eq_some_iff.1 hg).1)]
   simp [Go.Sort.putRow,Go.Sort.mapBlock,Go.Sort.ahead,Array.getElem?_modify,hg,Go.Sort.onCells]
  refine ⟨rfl,zs,by simpa using p3,?_,⟨stepCells_len zs,Or.inr ⟨g,cap,_,by rw [hzl],hb,hh,by rw [hzl];exact hnc,hcm,by simp [putCells,hcs],?_⟩⟩,hgr⟩
  ·rw [List.pairwise_iff_getElem]
   intro i j hi hj hij
   have h3:=hs i j (Nat.zero_le _) hij (by omega)
   rw [hat zs i hi,hat zs j hj] at h3
   unfold ltOf at h3
   rw [decide_eq_false_iff_not] at h3
   simpa [List.getD,hi,hj] using h3
  ·apply List.ext_getElem?
   intro t
   by_cases htl:t < zs.length * 3
   ·rw [List.getElem?_take_of_lt htl,Array.getElem?_toList,hflat zs t htl]
    have hcz:t < cur.size:=by
     rw [hcs]
     have:zs.length * 3≤cap * 3:=Nat.mul_le_mul_right 3 (by omega)
     omega
    have htl2:t < (flatK encS 3 zs.toArray).size:=by simpa using htl
    simp only [putCells,Array.getElem?_mapIdx,Array.getElem?_eq_getElem hcz,Option.map_some]
    rw [if_pos ⟨Nat.zero_le _,by omega⟩]
    rfl
   ·rw [List.getElem?_take_eq_none (by omega),List.getElem?_eq_none (by rw [stepCells_len];omega)]
end Go.Proofs.YtpiacnnifdjlkabGreatDoor
namespace Go.Proofs.YtpiacnnifdjlkabGreatDoor
open Go.RowKit Go.Sort
theorem owns_lower {w:World}{base base' e sz n:Nat}{v:Value}{xs:List Value} (h:w.ownsRow base' e sz v n xs) (hb:base≤base'):w.ownsRow base e sz v n xs:=by
 obtain ⟨h1,h2⟩:=h
 refine ⟨h1,?_⟩
 rcases h2 with h2 | ⟨g,cap,cur,h3,h4,h5⟩
 ·exact Or.inl h2
 ·exact Or.inr ⟨g,cap,cur,h3,Nat.le_trans hb h4,h5⟩
def AutO (w:World) (base:Nat) (v:Value) (A:Aut):Prop:=∃ fv gv sv,v=.agg #[.int .i64 A.n,.int .i64 A.m,fv,gv,sv]∧w.ownsRow base 3 1 fv A.first.length (A.first.map (.int .i64))∧w.ownsRow base 4 1 gv A.good.length (A.good.map .bool)∧w.ownsRow base 88 3 sv A.steps.length (stepCells A.steps)
theorem AutO.aut {w:World}{base:Nat}{v:Value}{A:Aut} (h:AutO w base v A):AutV w v A:=by
 obtain ⟨fv,gv,sv,rfl,h1,h2,h3⟩:=h
 exact ⟨fv,gv,sv,rfl,intSl_of_owns h1,boolSl_of_owns h2,stepSl_of_owns h3⟩
theorem AutO.below {w w':World}{base:Nat}{v:Value}{A:Aut} (h:AutO w base v A) (hb:Below w.heap.size w w'):AutO w' base v A:=by
 obtain ⟨fv,gv,sv,rfl,h1,h2,h3⟩:=h
 exact ⟨fv,gv,sv,rfl,owns_below h1 hb,owns_below h2 hb,owns_below h3 hb⟩
theorem AutO.lower {w:World}{base base':Nat}{v:Value}{A:Aut} (h:AutO w base' v A) (hb:base≤base'):AutO w base v A:=by
 obtain ⟨fv,gv,sv,rfl,h1,h2,h3⟩:=h
 exact ⟨fv,gv,sv,rfl,owns_lower h1 hb,owns_lower h2 hb,owns_lower h3 hb⟩
theorem AutO.put {w:World}{base rb:Nat}{v:Value}{A:Aut}{c:Array Value} (h:AutO w base v A) (hr:w.heap[rb]?=some (.cells c 26)) (k:Nat) (u:Value):AutO (w.setCell ⟨rb,k,none⟩ u) base v A:=by
 obtain ⟨fv,gv,sv,rfl,h1,h2,h3⟩:=h
 exact ⟨fv,gv,sv,rfl,owns_set h1 hr (by decide) _ _,owns_set h2 hr (by decide) _ _,owns_set h3 hr (by decide) _ _⟩
theorem RA.own {w:World}{base pb:Nat}{fv gv sv:Value}{A:Aut} (h:RA w base pb fv gv sv A):AutO w base (.agg #[.int .i64 A.n,.int .i64 A.m,fv,gv,sv]) A:=⟨fv,gv,sv,rfl,h.f,h.g,h.s⟩
def fivePut (w:World) (b:Nat) (v0 v1 v2 v3 v4:Value):World:=((((w.setCell ⟨b,0,none⟩ v0).setCell ⟨b,1,none⟩ v1).setCell ⟨b,2,none⟩ v2).setCell ⟨b,3,none⟩ v3).setCell ⟨b,4,none⟩ v4
theorem fivePut_box {w:World}{b:Nat}{z0 z1 z2 z3 z4:Value}{t:TypeId} (h:w.heap[b]?=some (.cells #[z0,z1,z2,z3,z4] t)) (v0 v1 v2 v3 v4:Value):(fivePut w b v0 v1 v2 v3 v4).heap[b]?=some (.cells #[v0,v1,v2,v3,v4] t):=
 box_set (box_set (box_set (box_set (box_set h 0 v0) 1 v1) 2 v2) 3 v3) 4 v4
theorem fivePut_below {base:Nat}{w w':World} (h:Below base w w') {b:Nat} (hb:base≤b) (v0 v1 v2 v3 v4:Value):Below base w (fivePut w' b v0 v1 v2 v3 v4):=
 below_set (below_set (below_set (below_set (below_set h hb 0 v0) hb 1 v1) hb 2 v2) hb 3 v3) hb 4 v4
theorem AutO.five {w:World}{base rb:Nat}{v:Value}{A:Aut}{c:Array Value} (h:AutO w base v A) (hr:w.heap[rb]?=some (.cells c 26)) (v0 v1 v2 v3 v4:Value):AutO (fivePut w rb v0 v1 v2 v3 v4) base v A:=by
 have h1:=h.put hr 0 v0
 have r1:=box_set hr 0 v0
 have h2:=h1.put r1 1 v1
 have r2:=box_set r1 1 v1
 have h3:=h2.put r2 2 v2
 have r3:=box_set r2 2 v2
 have h4:=h3.put r3 3 v3
 have r4:=box_set r3 3 v3
 exact h4.put r4 4 v4
theorem RA.slices {w:World}{base pb:Nat}{fv gv sv:Value}{A:Aut} (h:RA w base pb fv gv sv A):∃ a1 c1 a2 c2 a3 c3,fv=.slice a1 A.first.length c1∧gv=.slice a2 A.good.length c2∧sv=.slice a3 A.steps.length c3:=by
 obtain ⟨a1,c1,h1,-⟩:=intSl_of_owns h.f
 obtain ⟨a2,c2,h2,-⟩:=boolSl_of_owns h.g
 obtain ⟨a3,c3,h3,-⟩:=stepSl_of_owns h.s
 exact ⟨a1,c1,a2,c2,a3,c3,h1,h2,h3⟩
theorem fivePut_other (w:World) (b rb:Nat) (h:b ≠ rb) (v0 v1 v2 v3 v4:Value):(fivePut w rb v0 v1 v2 v3 v4).heap[b]?=w.heap[b]?:=by
 unfold fivePut
 rw [heap_setCell_other _ _ _ b h,heap_setCell_other _ _ _ b h,heap_setCell_other _ _ _ b h,heap_setCell_other _ _ _ b h,heap_setCell_other _ _ _ b h]
end Go.Proofs.YtpiacnnifdjlkabGreatDoor
