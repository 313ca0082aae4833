import Derived.Test.YtpiacnnifdjlkabGreatDoorNb
import Derived.Test.YtpiacnnifdjlkabGreatDoorRu
set_option maxRecDepth 100000
set_option maxHeartbeats 8000000
namespace Go.Proofs.YtpiacnnifdjlkabGreatDoor
open Go.RowKit Go.Sort Go.MapKept
def spSl (w:World) (v:Value) (zs:List Spo):Prop:=
 ∃ a cap,v=.slice a zs.length cap∧zs.length≤maxLen∧(zs=[] ∨ ∃ b off,a=some ⟨b,off,none⟩∧∀ (i:Nat) (x:Spo),zs[i]?=some x→∀ (q:Nat) (u:Value),(spEnc x)[q]?=some u→w.cell? ⟨b,off+i * 3+q,none⟩=some u)∧(a=none→cap=0)∧zs.length≤cap
structure spNA (w W:World) (BO BN BT BM r:Nat) (fv gv sv:Value) (A:Aut) (met:List Spo):Prop where
 ra:RA W w.heap.size BO fv gv sv A
 mn:spMN W w.heap.size BN BT r met
 bm:W.heap[BM]?=some (.cells #[.func (.func 114) #[] #[.pointer (some ⟨BN,0,none⟩),.pointer (some ⟨BT,0,none⟩)]] 169)
 b0:W.heap[w.heap.size]?=some (.cells #[.int .i64 0,.int .i64 0,.slice none 0 0,.slice none 0 0,.slice none 0 0] 26)
 ne:BO ≠ w.heap.size∧w.heap.size≤BM
 bl:Below w.heap.size w W
theorem spNA.below {w W W':World}{BO BN BT BM r:Nat}{fv gv sv:Value}{A:Aut}{met:List Spo} (h:spNA w W BO BN BT BM r fv gv sv A met) (hb:Below W.heap.size W W'):spNA w W' BO BN BT BM r fv gv sv A met:=
 ⟨h.ra.below hb,h.mn.below hb,belowRow hb h.bm,belowRow hb h.b0,h.ne,h.bl.trans (hb.mono h.bl.size)⟩
theorem spS_not {W:World}{base BN BT r k:Nat}{met:List Spo} (h:spMN W base BN BT r met) {o:Obj} (_hk:W.heap[k]?=some o) (h1:k ≠ r) (h2:k ≠ BT) (h3:∀ v,W.ownsRow base 111 3 v met.length (met.flatMap spEnc)→some k ≠ v.ownBlock):¬ spS BT r W k:=by
 rintro (h4 | ⟨p,hp,u,hu,hr⟩)
 ·simp at h4
  rcases h4 with h4 | h4
  ·exact h1 h4
  ·exact h2 h4
 ·have ep:p=(BT,0):=by simpa using hp
  subst ep
  obtain ⟨v,hv,ho⟩:=h.bt
  have eu:=spRow_one hv hu
  subst eu
  exact h3 _ ho hr.symm
theorem spS_box {W:World}{base BN BT r k:Nat}{met:List Spo} (h:spMN W base BN BT r met) {c:Array Value}{t:TypeId} (hk:W.heap[k]?=some (.cells c t)) (h1:t ≠ 112) (h2:t ≠ 111):¬ spS BT r W k:=by
 refine spS_not h hk (fun e=>?_) (fun e=>?_) (fun v ho e=>row_apart ho hk (Ne.symm h2) k e.symm rfl)
 ·obtain ⟨o,ho,hc⟩:=h.mp.not_cells
  rw [e,ho] at hk
  injection hk with hk
  subst hk
  cases hc
 ·obtain ⟨v,hv,_⟩:=h.bt
  rw [e,hv] at hk
  injection hk with hk
  injection hk with _ h3
  exact h1 h3.symm
theorem spS_old {W:World}{base BN BT r k:Nat}{met:List Spo} (h:spMN W base BN BT r met) (hk:k < base):¬ spS BT r W k:=by
 have hlt:k < W.heap.size:=Nat.lt_of_lt_of_le hk h.lo.2.2.2
 have ho:W.heap[k]?=some W.heap[k]:=Array.getElem?_eq_getElem hlt
 exact spS_not h ho (by have:=h.lo.2.2.1;omega) (by have:=h.lo.2.1;omega) (fun v hv e=>by have:=(hv.lt k e.symm).1;omega)
theorem spS_row {W W':World}{base BN BT r:Nat}{met:List Spo} (h:spMN W base BN BT r met) (hk:KE (spS BT r) W W') {e sz n:Nat}{v:Value}{xs:List Value} (ho:W.ownsRow base e sz v n xs) (h1:e ≠ 112) (h2:e ≠ 111):W'.ownsRow base e sz v n xs:=
 owns_kept ho (fun q hq=>by
  have hlt:=(ho.lt q hq).2
  have hq':W.heap[q]?=some W.heap[q]:=Array.getElem?_eq_getElem hlt
  obtain ⟨c',fz,hc⟩:=owns_cells ho q hq
  rw [hk.keep q _ hq' (spS_not h hq' (fun e1=>?_) (fun e1=>?_) (fun v' hv' e1=>rows_apart hv' ho (Ne.symm h2) e1.symm hq)),hq']
  ·obtain ⟨o,ho',hcc⟩:=h.mp.not_cells
   rw [e1,ho'] at hc
   injection hc with hc
   subst hc
   cases hcc
  ·obtain ⟨v',hv',_⟩:=h.bt
   rw [e1,hv'] at hc
   injection hc with hc
   injection hc with _ h3
   exact h1 h3.symm)
theorem spNA.meet {w W W':World}{BO BN BT BM r:Nat}{fv gv sv:Value}{A:Aut}{met met':List Spo} (h:spNA w W BO BN BT BM r fv gv sv A met) (hk:KE (spS BT r) W W') (hm:spMN W' w.heap.size BN BT r met'):spNA w W' BO BN BT BM r fv gv sv A met':=
 ⟨⟨hk.keep _ _ h.ra.box (spS_box h.mn h.ra.box (by decide) (by decide)),spS_row h.mn hk h.ra.f (by decide) (by decide),spS_row h.mn hk h.ra.g (by decide) (by decide),spS_row h.mn hk h.ra.s (by decide) (by decide),h.ra.hb⟩,hm,
  hk.keep _ _ h.bm (spS_box h.mn h.bm (by decide) (by decide)),hk.keep _ _ h.b0 (spS_box h.mn h.b0 (by decide) (by decide)),h.ne,
  ⟨hk.os.trans h.bl.os,hk.tape.trans h.bl.tape,hk.output.trans h.bl.output,Nat.le_trans h.bl.size hk.size,fun k hk'=>by
   have hlt:k < W.heap.size:=Nat.lt_of_lt_of_le hk' h.bl.size
   have ho:W.heap[k]?=some W.heap[k]:=Array.getElem?_eq_getElem hlt
   rw [hk.keep k _ ho (spS_old h.mn hk'),← ho]
   exact h.bl.block k hk'⟩⟩
theorem spNA.rest {w W W2:World}{BO BN BT BM r:Nat}{fv gv sv:Value}{A:Aut}{met:List Spo} (h:spNA w W BO BN BT BM r fv gv sv A met) {e sz n:Nat}{v:Value}{xs:List Value} (ho:W.ownsRow w.heap.size e sz v n xs) (hk:KR w.heap.size v.ownBlock W W2) (he:e ≠ 112∧e ≠ 111∧e ≠ 167∧e ≠ 169∧e ≠ 26) (k:Nat) (u:Value) :
  spMN (W2.setCell ⟨BO,k,none⟩ u) w.heap.size BN BT r met∧(W2.setCell ⟨BO,k,none⟩ u).heap[BM]?=some (.cells #[.func (.func 114) #[] #[.pointer (some ⟨BN,0,none⟩),.pointer (some ⟨BT,0,none⟩)]] 169)∧(W2.setCell ⟨BO,k,none⟩ u).heap[w.heap.size]?=some (.cells #[.int .i64 0,.int .i64 0,.slice none 0 0,.slice none 0 0,.slice none 0 0] 26)∧Below w.heap.size w (W2.setCell ⟨BO,k,none⟩ u):=by
 have keep:∀ (q:Nat) (o:Obj),W.heap[q]?=some o→some q ≠ v.ownBlock→q ≠ BO→(W2.setCell ⟨BO,k,none⟩ u).heap[q]?=some o:=fun q o hq h1 h2=>by
  rw [heap_setCell_other _ _ _ _ h2]
  exact hk.block hq h1
 have hsz:(W2.setCell ⟨BO,k,none⟩ u).heap.size=W2.heap.size:=by simp [World.setCell]
 have hbo:=h.ra.box
 have neB:∀ {q:Nat}{c:Array Value}{t:TypeId},W.heap[q]?=some (.cells c t)→t ≠ 26→q ≠ BO:=fun hq ht e1=>by
  rw [e1,hbo] at hq
  injection hq with hq
  injection hq with _ h3
  exact ht h3.symm
 have rowB:∀ {q:Nat}{c:Array Value}{t:TypeId},W.heap[q]?=some (.cells c t)→e ≠ t→some q ≠ v.ownBlock:=fun hq ht e1=>row_apart ho hq ht _ e1.symm rfl
 obtain ⟨tv,htv,hto⟩:=h.mn.bt
 obtain ⟨ro,hro,hrc⟩:=h.mn.mp.not_cells
 have hmn:=h.mn
 refine ⟨⟨keep _ _ hmn.bn (rowB hmn.bn he.2.2.1) (neB hmn.bn (by decide)),⟨tv,keep _ _ htv (rowB htv he.1) (neB htv (by decide)),owns_kept hto (fun q hq=>?_)⟩,hmn.mp.keep (fun o ho'=>keep _ _ ho' (not_row ho hro hrc) (fun e1=>?_)),⟨hmn.lo.1,hmn.lo.2.1,hmn.lo.2.2.1,by rw [hsz];exact Nat.le_trans hmn.lo.2.2.2 hk.size⟩⟩,keep _ _ h.bm (rowB h.bm he.2.2.2.1) (neB h.bm (by decide)),keep _ _ h.b0 (rowB h.b0 he.2.2.2.2) (Ne.symm h.ne.1),?_⟩
 ·have hlt:=(hto.lt q hq).2
  have hq':W.heap[q]?=some W.heap[q]:=Array.getElem?_eq_getElem hlt
  rw [keep q _ hq' (fun e1=>rows_apart hto ho (Ne.symm he.2.1) hq e1.symm) (fun e1=>row_apart hto hbo (by decide) q hq e1),hq']
 ·rw [e1,hbo] at hro
  injection hro with hro
  subst hro
  cases hrc
 ·exact (h.bl.trans hk.below).setCell h.ra.hb u
theorem spDet {W:World}{base BN BT r:Nat}{met:List Spo} (h:spMN W base BN BT r met):Det W.heap.size (spS BT r):=det_ownOf (by simp) (by
 intro k hk
 simp at hk
 rcases hk with rfl | rfl
 ·exact h.mp.lt
 ·obtain ⟨v,hv,_⟩:=h.bt
  exact (Array.getElem?_eq_some_iff.1 hv).1)
theorem spS_lt {W:World}{base BN BT r k:Nat}{met:List Spo} (h:spMN W base BN BT r met) (hk:spS BT r W k):k < W.heap.size:=by
 obtain ⟨v,hv,ho⟩:=h.bt
 rcases hk with h1 | ⟨p,hp,u,hu,hr⟩
 ·simp at h1
  rcases h1 with rfl | rfl
  ·exact h.mp.lt
  ·exact (Array.getElem?_eq_some_iff.1 hv).1
 ·have ep:p=(BT,0):=by simpa using hp
  subst ep
  have eu:=spRow_one hv hu
  subst eu
  exact (ho.lt k hr).2
theorem spFlat (zs:List Spo):∀ (i:Nat) (x:Spo),zs[i]?=some x→∀ (q:Nat) (u:Value),(spEnc x)[q]?=some u→(zs.flatMap spEnc)[i * 3+q]?=some u:=by
 induction zs with
 | nil=>intro i x hx;simp at hx
 | cons z zs ih =>
  intro i x hx q u hu
  rw [List.flatMap_cons]
  cases i with
  | zero =>
   have e:z=x:=by simpa using hx
   subst e
   have hq:q < (spEnc z).length:=(List.getElem?_eq_some_iff.1 hu).1
   rw [Nat.zero_mul,Nat.zero_add,List.getElem?_append_left hq]
   exact hu
  | succ i =>
   rw [List.getElem?_append_right (by rw [spEnc_len];omega),spEnc_len,show (i+1) * 3+q - 3=i * 3+q by omega]
   exact ih i x (by simpa using hx) q u hu
theorem spMN.at {W:World}{base BN BT r:Nat}{met:List Spo} (h:spMN W base BN BT r met) {i:Nat}{x:Spo} (hx:met[i]?=some x):∃ gm cp,W.heap[BT]?=some (.cells #[.slice (some ⟨gm,0,none⟩) met.length cp] 112)∧met.length≤cp∧gm < W.heap.size∧∀ (q:Nat) (u:Value),(spEnc x)[q]?=some u→W.cell? ⟨gm,i * 3+q,none⟩=some u:=by
 obtain ⟨v,hv,ho⟩:=h.bt
 have hi:i < met.length:=(List.getElem?_eq_some_iff.1 hx).1
 rcases ho.2 with ⟨rfl,h0⟩ | ⟨g,cap,cur,rfl,hb,hg,hnc,hcm,hcs,ht⟩
 ·omega
 ·refine ⟨g,cap,hv,hnc,(Array.getElem?_eq_some_iff.1 hg).1,fun q u hu=>?_⟩
  have hf:=spFlat met i x hx q u hu
  rw [← ht,List.getElem?_take] at hf
  split at hf
  ·have:=cell_of_row W g (i * 3+q) _ _ _ hg
   rw [this]
   simpa using hf
  ·cases hf
abbrev spSS (BO BT r:Nat):World→Nat→Prop:=ownOf [(BO,4),(BT,0)] [BO,r,BT]
theorem spSS_cases {w W:World}{BO BN BT BM r:Nat}{fv gv sv:Value}{A:Aut}{met:List Spo} (h:spNA w W BO BN BT BM r fv gv sv A met) {k:Nat} (hk:spSS BO BT r W k):k=BO ∨ sv.ownBlock=some k ∨ spS BT r W k:=by
 rcases hk with h1 | ⟨p,hp,u,hu,hr⟩
 ·simp at h1
  rcases h1 with rfl | rfl | rfl
  ·exact Or.inl rfl
  ·exact Or.inr (Or.inr (Or.inl (by simp)))
  ·exact Or.inr (Or.inr (Or.inl (by simp)))
 ·simp at hp
  rcases hp with rfl | rfl
  ·have e:=(cell_of_row W BO 4 _ _ _ h.ra.box).symm.trans hu
   have e2:sv=u:=by simpa using e
   subst e2
   exact Or.inr (Or.inl hr)
  ·exact Or.inr (Or.inr (Or.inr ⟨(BT,0),by simp,u,hu,hr⟩))
theorem spSS_in {w W:World}{BO BN BT BM r:Nat}{fv gv sv:Value}{A:Aut}{met:List Spo} (h:spNA w W BO BN BT BM r fv gv sv A met) {k:Nat} (hk:spSS BO BT r W k):w.heap.size≤k∧k < W.heap.size:=by
 rcases spSS_cases h hk with rfl | h1 | h1
 ·exact ⟨h.ra.hb,(Array.getElem?_eq_some_iff.1 h.ra.box).1⟩
 ·exact h.ra.s.lt k h1
 ·refine ⟨?_,spS_lt h.mn h1⟩
  rcases Nat.lt_or_ge k w.heap.size with h2 | h2
  ·exact absurd h1 (spS_old h.mn h2)
  ·exact h2
theorem spSS_det {w W:World}{BO BN BT BM r:Nat}{fv gv sv:Value}{A:Aut}{met:List Spo} (h:spNA w W BO BN BT BM r fv gv sv A met):Det W.heap.size (spSS BO BT r):=det_ownOf (by simp) (by
 intro k hk
 simp at hk
 rcases hk with rfl | rfl | rfl
 ·exact (Array.getElem?_eq_some_iff.1 h.ra.box).1
 ·exact h.mn.mp.lt
 ·obtain ⟨v,hv,_⟩:=h.mn.bt
  exact (Array.getElem?_eq_some_iff.1 hv).1)
theorem spNA.ki {w W W':World}{BO BN BT BM r s:Nat}{fv gv sv:Value}{A:Aut}{met:List Spo} (h:spNA w W BO BN BT BM r fv gv sv A met) (hk:KI s (spSS BO BT r) W W') (hf:∀ k,fv.ownBlock=some k→k < s) (hg:∀ k,gv.ownBlock=some k→k < s) (hs:BM < s∧BN < s∧w.heap.size < s):spNA w W' BO BN BT BM r fv gv sv A met:=by
 have hrow:∀ {e sz n:Nat}{v:Value}{xs:List Value},W.ownsRow w.heap.size e sz v n xs→(∀ k,v.ownBlock=some k→k < s ∨ spSS BO BT r W k)→W'.ownsRow w.heap.size e sz v n xs:=fun ho hv=>owns_kept ho (fun q hq=>by
  have hlt:=(ho.lt q hq).2
  have hq':W.heap[q]?=some W.heap[q]:=Array.getElem?_eq_getElem hlt
  rw [hk.keep q _ hq' (hv q hq),hq'])
 have hX:∀ k,k ∈ [BO,r,BT]→k < s ∨ spSS BO BT r W k:=fun k hk=>Or.inr (Or.inl hk)
 refine ⟨⟨hk.keep _ _ h.ra.box (hX _ (by simp)),hrow h.ra.f (fun k hk=>Or.inl (hf k hk)),hrow h.ra.g (fun k hk=>Or.inl (hg k hk)),hrow h.ra.s (fun k hk=>Or.inr (Or.inr ⟨(BO,4),by simp,sv,cell_of_row W BO 4 _ _ _ h.ra.box,hk⟩)),h.ra.hb⟩,
  h.mn.keep hk.size (fun k o ho hor=>hk.keep k o ho ?_),hk.keep _ _ h.bm (Or.inl hs.1),hk.keep _ _ h.b0 (Or.inl hs.2.2),h.ne,⟨hk.os.trans h.bl.os,hk.tape.trans h.bl.tape,hk.output.trans h.bl.output,Nat.le_trans h.bl.size hk.size,fun k hk'=>?_⟩⟩
 ·rcases hor with rfl | h1
  ·exact Or.inl hs.2.1
  ·rcases h1 with h2 | ⟨p,hp,u,hu,hr⟩
   ·simp at h2
    exact hX k (by simp;rcases h2 with h2 | h2;exact Or.inr (Or.inl h2);exact Or.inr (Or.inr h2))
   ·have ep:p=(BT,0):=by simpa using hp
    subst ep
    exact Or.inr (Or.inr ⟨(BT,0),by simp,u,hu,hr⟩)
 ·have hlt:k < W.heap.size:=Nat.lt_of_lt_of_le hk' h.bl.size
  have ho:W.heap[k]?=some W.heap[k]:=Array.getElem?_eq_getElem hlt
  rw [hk.keep k _ ho (Or.inl (by omega)),← ho]
  exact h.bl.block k hk'
theorem spSS_meet {w W W':World}{BO BN BT BM r:Nat}{fv gv sv:Value}{A:Aut}{met:List Spo} (h:spNA w W BO BN BT BM r fv gv sv A met) (hk:KE (spS BT r) W W'):KE (spSS BO BT r) W W':=
 hk.more (fun k hk=>by simp at hk ⊢;rcases hk with h1 | h1;exact Or.inr (Or.inl h1);exact Or.inr (Or.inr h1)) (fun p hp=>by simp at hp ⊢;exact Or.inr hp) (fun p hp=>by
  simp at hp
  rcases hp with rfl | rfl
  ·exact Or.inr ⟨(Array.getElem?_eq_some_iff.1 h.ra.box).1,spS_box h.mn h.ra.box (by decide) (by decide)⟩
  ·exact Or.inl (by simp))
theorem spSS_put {w W W2:World}{BO BN BT BM r g8 cap8 n:Nat}{fv gv sv:Value}{A:Aut}{met:List Spo} (h:spNA w W BO BN BT BM r fv gv sv A met) (hk:KR w.heap.size sv.ownBlock W W2) (hor:sv.ownBlock=some g8 ∨ W.heap.size≤g8) (hg8:g8 < W2.heap.size):KE (spSS BO BT r) W (W2.setCell ⟨BO,4,none⟩ (.slice (some ⟨g8,0,none⟩) n cap8)):=by
 have hbo:=hk.block h.ra.box h.ra.apart.2.2
 have hset:=box_set hbo 4 (.slice (some ⟨g8,0,none⟩) n cap8)
 have hsz:(W2.setCell ⟨BO,4,none⟩ (.slice (some ⟨g8,0,none⟩) n cap8)).heap.size=W2.heap.size:=by simp [World.setCell]
 have hsv:∀ k,sv.ownBlock=some k→spSS BO BT r W k:=fun k hk=>Or.inr ⟨(BO,4),by simp,sv,cell_of_row W BO 4 _ _ _ h.ra.box,hk⟩
 refine ⟨hk.below.os,hk.below.tape,hk.below.output,by rw [hsz];exact hk.size,fun k o ho hs=>?_,fun k hs=>?_⟩
 ·rw [heap_setCell_other _ _ _ _ (fun e=>hs (Or.inl (by simp [e])))]
  exact hk.block ho (fun e=>hs (hsv k e.symm))
 ·rcases hs with h1 | ⟨p,hp,u,hu,hr⟩
  ·exact Or.inl (Or.inl h1)
  ·simp at hp
   rcases hp with rfl | rfl
   ·have e:=(cell_of_row _ BO 4 _ _ _ hset).symm.trans hu
    have e2:(.slice (some ⟨g8,0,none⟩) n cap8:Value)=u:=by simpa using e
    subst e2
    have ek:g8=k:=by simpa [Value.ownBlock] using hr
    subst ek
    rcases hor with h1 | h1
    ·exact Or.inl (hsv _ h1)
    ·exact Or.inr ⟨h1,by rw [hsz];exact hg8⟩
   ·obtain ⟨v,hv,ho⟩:=h.mn.bt
    have hne:BT ≠ BO:=fun e=>by
     have h1:=h.ra.box
     rw [← e,hv] at h1
     injection h1 with h1
     injection h1 with _ h2
     exact absurd h2 (by decide)
    have hbt:(W2.setCell ⟨BO,4,none⟩ (.slice (some ⟨g8,0,none⟩) n cap8)).heap[BT]?=some (.cells #[v] 112):=by
     rw [heap_setCell_other _ _ _ _ hne]
     exact hk.block hv (fun e=>row_apart h.ra.s hv (by decide) BT e.symm rfl)
    have eu:=spRow_one hbt hu
    subst eu
    exact Or.inl (Or.inr ⟨(BT,0),by simp,_,cell_of_row W BT 0 _ _ _ hv,hr⟩)
end Go.Proofs.YtpiacnnifdjlkabGreatDoor
