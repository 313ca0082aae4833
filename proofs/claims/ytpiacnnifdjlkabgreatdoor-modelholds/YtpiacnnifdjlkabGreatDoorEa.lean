import Derived.Test.YtpiacnnifdjlkabGreatDoorYf
import Derived.Test.YtpiacnnifdjlkabGreatDoorVo
import Derived.Test.YtpiacnnifdjlkabGreatDoorRx
import Derived.Test.YtpiacnnifdjlkabGreatDoorYm
import Derived.KernelRfl
set_option maxRecDepth 100000
set_option maxHeartbeats 8000000
namespace Go.Proofs.YtpiacnnifdjlkabGreatDoor
open Go.RowKit Go.Sort
def headW (b1:Nat) (la fa:Option Addr) (nl lc nf fc low:Nat) (us:List Int) (j:Nat) (v:Value) (W:World):Prop:=
 match j with
 | 0=>v=.pointer (some ⟨b1,1,none⟩)
 | 1=>v=.slice la nl lc
 | 2=>v=.int .i64 (nl:Nat)
 | 3=>v=.pointer (some ⟨b1,2,none⟩)
 | 4=>v=.slice fa nf fc
 | 5=>W.ownsRow low 3 1 v us.length (us.map (Value.int .i64))
 | 6=>∃ p k,v=.agg #[.int .i64 (nl:Nat),.int .i64 8,.slice p us.length k,.slice none 0 0,.slice none 0 0]∧W.ownsRow low 3 1 (.slice p us.length k) us.length (us.map (Value.int .i64))
 | 7=>∃ y,v=.pointer (some ⟨y,0,none⟩)∧low≤y∧W.heap[y]?=some (.cells #[.int .i64 0,.int .i64 0,.slice none 0 0,.slice none 0 0,.slice none 0 0] 26)
 | _=>True
theorem headW_keep {b1:Nat}{la fa:Option Addr}{nl lc nf fc low:Nat}{us:List Int}{W W':World} (hb:Below W.heap.size W W'):∀ j v,headW b1 la fa nl lc nf fc low us j v W→headW b1 la fa nl lc nf fc low us j v W'
 | 0,_,h=>h
 | 1,_,h=>h
 | 2,_,h=>h
 | 3,_,h=>h
 | 4,_,h=>h
 | 5,_,h=>owns_below h hb
 | 6,_,⟨p,k,e,h⟩=>⟨p,k,e,owns_below h hb⟩
 | 7,_,⟨y,e,hl,h⟩=>⟨y,e,hl,belowRow hb h⟩
 | _+8,_,_=>trivial
def rowS (M:Mdl) (q:Nat):List Stp:=(onceL (mRow M q)).map fun t=>⟨(q:Int),mLab M q,t⟩
def rowsS (M:Mdl) (k:Nat):List Stp:=(List.range k).flatMap (rowS M)
theorem rowsS_next (M:Mdl) (k:Nat):rowsS M (k+1)=rowsS M k ++ rowS M k:=by
 unfold rowsS
 rw [List.range_succ,List.flatMap_append]
 simp
def wordsA (M:Mdl) (g:Nat) (ss:List Stp):Aut:=⟨(M.labels.length:Nat),8,onceL M.first,List.replicate g true,ss⟩
theorem words_right (M:Mdl):WordsOf M (wordsA M M.labels.length (rowsS M M.labels.length)):=by
 refine ⟨rfl,rfl,rfl,fun x=>(onceL_right _).1 x,fun s=>?_⟩
 show s ∈ rowsS M M.labels.length ↔ _
 unfold rowsS rowS
 rw [List.mem_flatMap]
 constructor
 ·rintro ⟨q,hq,h⟩
  obtain ⟨t,ht,rfl⟩:=List.mem_map.1 h
  exact ⟨q,List.mem_range.1 hq,rfl,rfl,((onceL_right _).1 t).1 ht⟩
 ·rintro ⟨q,hq,h1,h2,h3⟩
  refine ⟨q,List.mem_range.2 hq,List.mem_map.2 ⟨s.t,((onceL_right _).1 _).2 h3,?_⟩⟩
  rw [← h1,← h2]
theorem kr_push {base e sz n:Nat}{wr w8:World}{o:Obj}{v:Value}{xs:List Value} (hown:wr.ownsRow base e sz v n xs) (hb:base≤wr.heap.size) (hg:(wr.alloc o).grownBy w8 v.ownBlock):KR base v.ownBlock wr w8:=
 ⟨((Below.refl _ wr).alloc hb o).grown hg (by simp;omega) (fun k e=>(hown.lt k e).1),by have:=hg.size;simp at this;omega,fun b hb' hne=>(hg.block b (by simp;omega) hne).trans (Below.heap_alloc _ _ b hb')⟩
theorem once_few {xs:List Int}{n:Nat} (h:∀ x ∈ xs,0≤x∧x < n):(onceL xs).length≤n:=by
 obtain ⟨h1,h2⟩:=onceL_right xs
 have:=nodup_le n ((onceL xs).map Int.toNat) (by
  rw [List.Nodup,List.pairwise_map]
  refine List.Pairwise.imp_of_mem (R:=fun a b:Int=>a < b) ?_ h2
  intro a b ha hb hab e
  have:=h a ((h1 a).1 ha)
  have:=h b ((h1 b).1 hb)
  omega) (fun q hq=>by
  obtain ⟨x,hx,rfl⟩:=List.mem_map.1 hq
  have:=h x ((h1 x).1 hx)
  omega)
 simpa using this
theorem rowsS_few {M:Mdl} (hM:MRight M):∀ k,k≤M.labels.length→(rowsS M k).length≤12 * k
 | 0,_=>by simp [rowsS]
 | k+1,hk=>by
  rw [rowsS_next,List.length_append]
  have h1:=rowsS_few hM k (by omega)
  have h2:(rowS M k).length≤12:=by
   unfold rowS
   rw [List.length_map]
   exact Nat.le_trans (once_few (hM.row (by omega)).2) hM.n12
  omega
theorem rowS_take (M:Mdl) (k j:Nat) (hj:j < (onceL (mRow M k)).length):(rowS M k).take (j+1)=(rowS M k).take j ++ [⟨(k:Int),mLab M k,(onceL (mRow M k)).getD j 0⟩]:=by
 unfold rowS
 rw [List.take_add_one,List.getElem?_map,List.getElem?_eq_getElem hj]
 simp [List.getD,hj]
theorem words_any {w:World}{v:Value}{M:Mdl} (hM:MRight M) (hV:MdV w v M) (hbf:M.first.length * 8≤140737488355328) (hbr:∀ r ∈ M.steps,r.length * 8≤140737488355328) :
  Calls Tryz.prog 75 #[v] w fun e w'=>∃ v',e=.returned v'∧AutO w' w.heap.size v' (wordsA M M.labels.length (rowsS M M.labels.length))∧Below w.heap.size w w':=by
 obtain ⟨lv,fv,sv,rfl,hL,hF,hS⟩:=hV
 have HL:=hide hL
 have HF:=hide hF
 have HS:=hide hS
 have HM:=hide hM
 have HR:=hide hbr
 obtain ⟨la,lc,rfl,-,hlz,-,hlcap⟩:=hL
 obtain ⟨fa,fc,rfl,-⟩:=hF
 obtain ⟨sa,sc,rfl,-,hsz⟩:=hS
 have hn1:=hM.n1
 have hn12:=hM.n12
 have hrows:=hM.rows
 obtain ⟨lb,lo,rfl,hlc⟩:∃ b off,la=some ⟨b,off,none⟩∧∀ i,i < M.labels.length→w.cell? ⟨b,off+i,none⟩=some (.int .i64 (M.labels.getD i 0)):=by
  rcases hlz with h | h
  ·rw [h] at hn1;simp at hn1
  ·exact h
 obtain ⟨sb,so,rfl,hsc⟩:∃ b off,sa=some ⟨b,off,none⟩∧∀ i,i < M.steps.length→∃ rv,w.cell? ⟨b,off+i,none⟩=some rv∧IntSl w rv (M.steps.getD i []):=by
  rcases hsz with h | h
  ·rw [h] at hrows;simp at hrows;omega
  ·exact h
 have HLc:=hide hlc
 have HSc:=hide hsc
 generalize hla:(some (⟨lb,lo,none⟩:Addr))=la at *
 generalize hsa:(some (⟨sb,so,none⟩:Addr))=sa at *
 have Hla:=hide hla
 have Hsa:=hide hsa
 clear hM hbr hlc hsc hla hsa hlz hsz hrows hn1 hn12
 go_enter Tryz.func75,Tryz.ntmps75
 have hb0:=below_trans (below_new w (Obj.cells #[.int .i64 M.props,.slice la M.labels.length lc,.slice fa M.first.length fc,.slice sa M.steps.length sc] 59)) (below_new _ (Obj.cells #[.int .i64 0,.int .i64 0,.slice none 0 0,.slice none 0 0,.slice none 0 0] 26))
 have hn1:=belowRow (below_new _ (Obj.cells #[.int .i64 0,.int .i64 0,.slice none 0 0,.slice none 0 0,.slice none 0 0] 26)) (one_new w (Obj.cells #[.int .i64 M.props,.slice la M.labels.length lc,.slice fa M.first.length fc,.slice sa M.steps.length sc] 59))
 have hn2:=one_new (w.alloc (Obj.cells #[.int .i64 M.props,.slice la M.labels.length lc,.slice fa M.first.length fc,.slice sa M.steps.length sc] 59)) (Obj.cells #[.int .i64 0,.int .i64 0,.slice none 0 0,.slice none 0 0,.slice none 0 0] 26)
 have hz:(w.alloc (Obj.cells #[.int .i64 M.props,.slice la M.labels.length lc,.slice fa M.first.length fc,.slice sa M.steps.length sc] 59)).heap.size=w.heap.size+1:=by simp
 rw [hz] at hn2
 have HB0:=hide hb0
 have H1:=hide hn1
 have H2:=hide hn2
 clear hb0 hn1 hn2 hz
 go_wp2_with (fail)
 rename_i Q' K hK
 generalize ((w.alloc (Obj.cells #[.int .i64 M.props,.slice la M.labels.length lc,.slice fa M.first.length fc,.slice sa M.steps.length sc] 59)).alloc (Obj.cells #[.int .i64 0,.int .i64 0,.slice none 0 0,.slice none 0 0,.slice none 0 0] 26))=W0 at *
 have hw0:w.heap.size+1 < W0.heap.size:=(Array.getElem?_eq_some_iff.1 H2.out).1
 refine wp_region_store5 8 7 [(0,8),(1,9),(2,10),(3,11),(4,12),(5,13),(6,14),(7,3)] (fun _ W=>Below W0.heap.size W0 W) (headW w.heap.size la fa M.labels.length lc M.first.length fc W0.heap.size (onceL M.first)) 3 14 (by kernel_rfl) (by kernel_rfl) (by kernel_rfl) (by kernel_rfl) (by kernel_rfl) (by kernel_rfl) (by decide) (Below.drew (Below.refl _ _)) ?_ ?_ ?_
 ·intro i o hi hne ho b
  match i,hi,hne,ho with
  | 0,_,_,ho =>
   obtain rfl:=Option.some.inj ho
   refine stepOk_val fun a W vs hW he hd=>?_
   have e1:a.tmps[1]?.getD undef=.pointer (some ⟨w.heap.size,0,none⟩):=free_val he 1 (by kernel_rfl)
   exact ⟨.pointer (some ⟨w.heap.size,1,none⟩),by simp [execOp,go_sem,e1],rfl⟩
  | 1,_,_,ho =>
   obtain rfl:=Option.some.inj ho
   refine stepOk_val fun a W vs hW he hd=>?_
   have v0:a.tmps[8]?.getD undef=.pointer (some ⟨w.heap.size,1,none⟩):=(eval_tmp a 8).symm.trans (((hd 0 (by kernel_rfl)).2 8 (by kernel_rfl)).trans (hd 0 (by kernel_rfl)).1)
   have z1:=cell_of_row W _ 1 _ _ _ (belowRow hW H1.out)
   exact ⟨.slice la M.labels.length lc,by simp [execOp,go_sem,v0,z1],rfl⟩
  | 2,_,_,ho =>
   obtain rfl:=Option.some.inj ho
   refine stepOk_val fun a W vs hW he hd=>?_
   have v1:a.tmps[9]?.getD undef=.slice la M.labels.length lc:=(eval_tmp a 9).symm.trans (((hd 1 (by kernel_rfl)).2 9 (by kernel_rfl)).trans (hd 1 (by kernel_rfl)).1)
   exact ⟨.int .i64 (M.labels.length:Nat),by simp [execOp,go_sem,v1],rfl⟩
  | 3,_,_,ho =>
   obtain rfl:=Option.some.inj ho
   refine stepOk_val fun a W vs hW he hd=>?_
   have e1:a.tmps[1]?.getD undef=.pointer (some ⟨w.heap.size,0,none⟩):=free_val he 1 (by kernel_rfl)
   exact ⟨.pointer (some ⟨w.heap.size,2,none⟩),by simp [execOp,go_sem,e1],rfl⟩
  | 4,_,_,ho =>
   obtain rfl:=Option.some.inj ho
   refine stepOk_val fun a W vs hW he hd=>?_
   have v3:a.tmps[11]?.getD undef=.pointer (some ⟨w.heap.size,2,none⟩):=(eval_tmp a 11).symm.trans (((hd 3 (by kernel_rfl)).2 11 (by kernel_rfl)).trans (hd 3 (by kernel_rfl)).1)
   have z2:=cell_of_row W _ 2 _ _ _ (belowRow hW H1.out)
   exact ⟨.slice fa M.first.length fc,by simp [execOp,go_sem,v3,z2],rfl⟩
  | 5,_,_,ho =>
   obtain rfl:=Option.some.inj ho
   refine stepOk_call fun a W vs hW he hd=>?_
   have v4:a.tmps[12]?.getD undef=.slice fa M.first.length fc:=(eval_tmp a 12).symm.trans (((hd 4 (by kernel_rfl)).2 12 (by kernel_rfl)).trans (hd 4 (by kernel_rfl)).1)
   refine ⟨125,#[.slice fa M.first.length fc],by simp [execOp,go_sem,v4],(rising_any ((HF.out.below HB0.out).below hW) hbf).mono ?_⟩
   rintro e W' ⟨v',rfl,_,ho,hb⟩
   exact ⟨_,rfl,below_trans hW hb,owns_lower ho hW.size,headW_keep hb⟩
  | 6,_,_,ho =>
   obtain rfl:=Option.some.inj ho
   refine stepOk_val fun a W vs hW he hd=>?_
   have v2:a.tmps[10]?.getD undef=.int .i64 (M.labels.length:Nat):=(eval_tmp a 10).symm.trans (((hd 2 (by kernel_rfl)).2 10 (by kernel_rfl)).trans (hd 2 (by kernel_rfl)).1)
   have v5:a.tmps[13]?.getD undef=vs 5:=(eval_tmp a 13).symm.trans ((hd 5 (by kernel_rfl)).2 13 (by kernel_rfl))
   have h5:W.ownsRow W0.heap.size 3 1 (vs 5) (onceL M.first).length ((onceL M.first).map (Value.int .i64)):=(hd 5 (by kernel_rfl)).1
   obtain ⟨p,k,e5⟩:=owns_form h5
   rw [e5] at v5 h5
   exact ⟨.agg #[.int .i64 (M.labels.length:Nat),.int .i64 8,.slice p (onceL M.first).length k,.slice none 0 0,.slice none 0 0],by simp [execOp,go_sem,v2,v5],p,k,rfl,h5⟩
  | 7,_,hne,_=>exact absurd rfl hne
  | i+8,hi,_,_=>omega
 ·intro o ho
  obtain rfl:=Option.some.inj ho
  intro a W vs hW he hd
  unfold Oper.wp
  rw [show (execOp a.eval _).run Tryz.prog W=.ok (.value (.pointer (some ⟨W.heap.size,0,none⟩))) (W.alloc (.cells #[.int .i64 0,.int .i64 0,.slice none 0 0,.slice none 0 0,.slice none 0 0] 26)) from by simp [execOp,go_sem]]
  exact ⟨_,rfl,below_trans hW (below_new _ _),⟨W.heap.size,rfl,hW.size,one_new _ _⟩,fun j x _ h=>headW_keep (below_new _ _) j x h⟩
 ·intro vs W hW hR
  obtain ⟨y,e7,hy,hrow⟩:headW w.heap.size la fa M.labels.length lc M.first.length fc W0.heap.size (onceL M.first) 7 (vs 7) W:=hR 7 (by decide)
  obtain ⟨p,kf,e6,ho⟩:headW w.heap.size la fa M.labels.length lc M.first.length fc W0.heap.size (onceL M.first) 6 (vs 6) W:=hR 6 (by decide)
  refine ⟨y,(M.labels.length:Nat),8,p,none,none,(onceL M.first).length,0,0,kf,0,0,_,_,_,_,_,by simp [putPairs,e7],by simp [putPairs,e6],hrow,hK _ _ ?_⟩
  simp only [putPairs,List.setIfInBounds_toArray,List.set_cons_succ,List.set_cons_zero]
  have HRA:=hide (show RA (fivePut W y (.int .i64 (M.labels.length:Nat)) (.int .i64 8) (.slice p (onceL M.first).length kf) (.slice none 0 0) (.slice none 0 0)) W0.heap.size y (.slice p (onceL M.first).length kf) (.slice none 0 0) (.slice none 0 0) (wordsA M 0 (rowsS M 0)) from
   ⟨fivePut_box hrow _ _ _ _ _,owns_kept ho (fun r hr=>fivePut_other W r y (row_apart ho hrow (by decide) r hr) _ _ _ _ _),⟨rfl,.inl ⟨rfl,rfl⟩⟩,⟨rfl,.inl ⟨rfl,rfl⟩⟩,hy⟩)
  have HBW:=hide (fivePut_below hW hy (.int .i64 (M.labels.length:Nat)) (.int .i64 8) (.slice p (onceL M.first).length kf) (.slice none 0 0) (.slice none 0 0))
  rw [e7]
  clear hR e6 e7 ho hrow hK hW
  generalize hW1:fivePut W y (.int .i64 (M.labels.length:Nat)) (.int .i64 8) (.slice p (onceL M.first).length kf) (.slice none 0 0) (.slice none 0 0)=W1 at *
  clear hW1
  obtain rfl:=Hla.out
  obtain rfl:=Hsa.out
  have y1:=cell_of_row _ _ 1 _ _ _ (belowRow HBW.out H1.out)
  go_wp2_with (fail)
  clear y1
  go_loopw [18] (fun iv wr=>∃ (k:Nat) (gv sv:Value),k≤M.labels.length∧iv=.int .i64 k∧Hid (RA wr W0.heap.size y (.slice p (onceL M.first).length kf) gv sv (wordsA M k (rowsS M k)))∧Hid (Below W0.heap.size W0 wr)) (fun iv _=>M.labels.length - (intOf iv).toNat)
  case atStart=>exact ⟨0,_,_,by omega,rfl,HRA,HBW⟩
  case round =>
   obtain ⟨k,gv,sv,hk,rfl,HA,HB⟩:=hrel
   obtain ⟨_,_,a2,c2,a3,c3,-,eg,es⟩:=HA.out.slices
   have eg':gv=.slice a2 k c2:=by rw [eg];simp [wordsA]
   have es':sv=.slice a3 (rowsS M k).length c3:=es
   subst eg' es'
   clear eg es
   by_cases hlt:k < M.labels.length
   ·have hb:=below_trans HB0.out HB.out
    have hks:k < M.steps.length:=by rw [HM.out.rows];exact hlt
    have c0:wr.cell? ⟨lb,lo+k,none⟩=some (.int .i64 (mLab M k)):=(hb.cell (World.block_lt_of_cell? w _ (HLc.out k hlt))).trans (HLc.out k hlt)
    obtain ⟨rv,hrc,hri⟩:=HSc.out k hks
    have hsb:=World.block_lt_of_cell? w _ hrc
    dsimp only at hsb
    have hrc':wr.cell? ⟨sb,so+k,none⟩=some rv:=(hb.cell (World.block_lt_of_cell? w _ hrc)).trans hrc
    have HRi:=hide (show IntSl w rv (mRow M k) from hri)
    obtain ⟨ra,rc,rfl,-⟩:=hri
    have y3:=cell_of_row _ _ 3 _ _ _ HA.out.box
    have HoA:=hide (show (wr.alloc (Obj.cells #[.bool true] 4)).ownsRow W0.heap.size 4 1 (.slice a2 k c2) k ((List.replicate k true).map Value.bool) from by
     have h:=HA.out.g
     have el:(wordsA M k (rowsS M k)).good.length=k:=by simp [wordsA]
     rw [el] at h
     exact h.alloc _)
    have HbA:=hide (show W0.heap.size≤(wr.alloc (Obj.cells #[.bool true] 4)).heap.size from by simp;have:=HB.out.size;omega)
    have HcA:=hide (show ∀ j u,[Value.bool true][j]?=some u→(wr.alloc (Obj.cells #[.bool true] 4)).cell? ⟨wr.heap.size,j,none⟩=some u from fun j u hu=>(cell_of_row _ wr.heap.size j _ _ _ (one_new wr _)).trans (by simpa using hu))
    have HF8:=hide (show ∀ w8:World,(wr.alloc (Obj.cells #[.bool true] 4)).grownBy w8 (Value.slice a2 k c2).ownBlock→KR W0.heap.size (Value.slice a2 k c2).ownBlock wr w8∧w8.cell? ⟨y,3,none⟩=some (.slice a2 k c2)∧(∀ o,w8.frozen? ⟨y,o,none⟩=false)∧w8.cell? ⟨w.heap.size,3,none⟩=some (.slice (some ⟨sb,so,none⟩) M.steps.length sc)∧w8.cell? ⟨sb,so+k,none⟩=some (.slice ra (mRow M k).length rc) from fun w8 hg=>by
     have hkr:=kr_push HA.out.g HB.out.size hg
     have hbx:=(hkr.keep y (Array.getElem?_eq_some_iff.1 HA.out.box).1 HA.out.apart.2.1).trans HA.out.box
     exact ⟨hkr,cell_of_row _ _ 3 _ _ _ hbx,fun o=>row_soft hbx o,(hkr.below.cell (p:=⟨w.heap.size,3,none⟩) (by dsimp only;omega)).trans (cell_of_row _ _ 3 _ _ _ (belowRow HB.out H1.out)),(hkr.below.cell (p:=⟨sb,so+k,none⟩) (by dsimp only;omega)).trans hrc'⟩)
    have n1:¬ w.heap.size=y:=by omega
    have n2:¬ y=w.heap.size:=by omega
    have n3:¬ sb=y:=by omega
    have n4:¬ y=sb:=by omega
    have hk9:k≤900000:=by have:=HM.out.n12;omega
    clear hrc hrc' hb
    go_wp2_with (at_builtin;refine wpList_append_one _ rfl (.tmp 24) (.tmp 25) 23 4 1 1 rfl elBool W0.heap.size _ _ _ rfl HoA.out wr.heap.size 1 [.bool true] rfl rfl HcA.out (by intro u hu;simp at hu;subst hu;rfl) hk9 HbA.out ?_;intro g8 cap8 w8 hown8 hgrow8 hor8 hbase8;obtain ⟨f1,f2,f3,f4,f5⟩:=HF8.out w8 hgrow8;have Hown8:=hide hown8;have Hkr8:=hide f1;clear hown8 hgrow8 hor8 hbase8 f1)
    have HA9:=hide (show RA (w8.setCell ⟨y,3,none⟩ (.slice (some ⟨g8,0,none⟩) (k+1) cap8)) W0.heap.size y (.slice p (onceL M.first).length kf) (.slice (some ⟨g8,0,none⟩) (k+1) cap8) (.slice a3 (rowsS M k).length c3) (wordsA M (k+1) (rowsS M k)) from by
     have el:(wordsA M k (rowsS M k)).good.length=k:=by simp [wordsA]
     have h:=HA.out.appGood (z:=true) Hkr8.out (by rw [el];exact Hown8.out)
     have e2:List.replicate (k+1) true=List.replicate k true ++ [true]:=List.replicate_succ' ..
     unfold wordsA
     rw [e2]
     exact h)
    have HB9:=hide (below_set (HB.out.trans Hkr8.out.below) hy 3 (.slice (some ⟨g8,0,none⟩) (k+1) cap8))
    clear f2 f3 f4 f5 HoA HbA HcA HF8 Hown8 Hkr8 HA HB y3 c0
    generalize w8.setCell ⟨y,3,none⟩ (.slice (some ⟨g8,0,none⟩) (k+1) cap8)=w9 at *
    go_fit (rising_any (HRi.out.below (below_trans HB0.out HB9.out)) (HR.out _ (getD_mem hks)))
    rintro e w10 ⟨v',rfl,-,hown,hb10⟩
    have HA10:=hide (HA9.out.below hb10)
    have HB10:=hide (below_trans HB9.out hb10)
    have HO10:=hide (owns_lower (base:=W0.heap.size) hown HB9.out.size)
    obtain ⟨ra',rc',rfl⟩:=owns_form hown
    clear hown hb10 HA9 HB9 HRi
    go_wp2_with (fail)
    go_loopw [35] (fun jv wr2=>∃ (j:Nat) (sv2:Value),j≤(onceL (mRow M k)).length∧jv=.int .i64 j∧Hid (RA wr2 W0.heap.size y (.slice p (onceL M.first).length kf) (.slice (some ⟨g8,0,none⟩) (k+1) cap8) sv2 (wordsA M (k+1) (rowsS M k ++ (rowS M k).take j)))∧Hid (Below W0.heap.size W0 wr2)∧Hid (wr2.ownsRow W0.heap.size 3 1 (.slice ra' (onceL (mRow M k)).length rc') (onceL (mRow M k)).length ((onceL (mRow M k)).map (Value.int .i64)))) (fun jv _=>(onceL (mRow M k)).length - (intOf jv).toNat)
    case atStart=>exact ⟨0,_,by omega,rfl,by simpa using HA10,HB10,HO10⟩
    case round =>
     obtain ⟨j,sv2,hj,rfl,HA,HB,HO⟩:=hrel
     clear HA10 HB10 HO10
     obtain ⟨_,_,_,_,a5,c5,-,-,es⟩:=HA.out.slices
     have es':sv2=.slice a5 (rowsS M k ++ (rowS M k).take j).length c5:=es
     subst es'
     clear es
     by_cases hjl:j < (onceL (mRow M k)).length
     ·obtain ⟨gr,hgr⟩:∃ gr,ra'=some ⟨gr,0,none⟩:=by
       rcases HO.out.2 with ⟨e,h0⟩ | ⟨g',cap',cur,e,_⟩
       ·omega
       ·cases e;exact ⟨g',rfl⟩
      subst hgr
      obtain ⟨x,hx⟩:∃ x,(onceL (mRow M k)).getD j 0=x:=⟨_,rfl⟩
      have d0:wr.cell? ⟨gr,j,none⟩=some (.int .i64 x):=by
       have:=HO.out.cells (g:=gr) rfl j (.int .i64 x) (by rw [List.getElem?_map,List.getElem?_eq_getElem hjl,← hx];simp [List.getD,hjl])
       rw [add_none,Nat.zero_add] at this
       exact this
      have hrl:(onceL (mRow M k)).length≤rc':=by
       rcases HO.out.2 with ⟨e,h0⟩ | ⟨g',cap',cur,e,_,_,h5,_⟩
       ·omega
       ·cases e;exact h5
      have hl12:(onceL (mRow M k)).length≤12:=Nat.le_trans (once_few (HM.out.row hlt).2) HM.out.n12
      have y4:=cell_of_row _ _ 4 _ _ _ HA.out.box
      have hl9:(rowsS M k ++ (rowS M k).take j).length≤900000:=by
       have h1:=rowsS_few HM.out k (by omega)
       have h2:=HM.out.n12
       have h3:(rowS M k).length≤12:=by
        unfold rowS
        rw [List.length_map]
        exact Nat.le_trans (once_few (HM.out.row hlt).2) h2
       rw [List.length_append,List.length_take]
       omega
      have HoS:=hide (show (wr.alloc (Obj.cells #[.int .i64 (k:Nat),.int .i64 (mLab M k),.int .i64 x] 88)).ownsRow W0.heap.size 88 3 (.slice a5 (rowsS M k ++ (rowS M k).take j).length c5) (rowsS M k ++ (rowS M k).take j).length (stepCells (rowsS M k ++ (rowS M k).take j)) from HA.out.s.alloc _)
      have HbS:=hide (show W0.heap.size≤(wr.alloc (Obj.cells #[.int .i64 (k:Nat),.int .i64 (mLab M k),.int .i64 x] 88)).heap.size from by simp;have:=HB.out.size;omega)
      have HcS:=hide (show ∀ i u,[Value.int .i64 (k:Nat),.int .i64 (mLab M k),.int .i64 x][i]?=some u→(wr.alloc (Obj.cells #[.int .i64 (k:Nat),.int .i64 (mLab M k),.int .i64 x] 88)).cell? ⟨wr.heap.size,i,none⟩=some u from fun i u hu=>(cell_of_row _ wr.heap.size i _ _ _ (one_new wr _)).trans (by simpa using hu))
      have HF9:=hide (show ∀ w11:World,(wr.alloc (Obj.cells #[.int .i64 (k:Nat),.int .i64 (mLab M k),.int .i64 x] 88)).grownBy w11 (Value.slice a5 (rowsS M k ++ (rowS M k).take j).length c5).ownBlock→KR W0.heap.size (Value.slice a5 (rowsS M k ++ (rowS M k).take j).length c5).ownBlock wr w11∧w11.cell? ⟨y,4,none⟩=some (.slice a5 (rowsS M k ++ (rowS M k).take j).length c5)∧(∀ o,w11.frozen? ⟨y,o,none⟩=false) from fun w11 hg=>by
       have hkr:=kr_push HA.out.s HB.out.size hg
       have hbx:=(hkr.keep y (Array.getElem?_eq_some_iff.1 HA.out.box).1 HA.out.apart.2.2).trans HA.out.box
       exact ⟨hkr,cell_of_row _ _ 4 _ _ _ hbx,fun o=>row_soft hbx o⟩)
      have Hx:=hide hx
      have HE:=hide (rowS_take M k j hjl)
      clear hx
      generalize hN:(rowsS M k ++ (rowS M k).take j).length=N at *
      have HN:=hide hN
      clear hN
      go_wp2_with (at_builtin;refine wpList_append_one _ rfl (.tmp 40) (.tmp 45) 24 88 3 24 rfl elStep W0.heap.size _ _ _ rfl HoS.out wr.heap.size 1 [.int .i64 (k:Nat),.int .i64 (mLab M k),.int .i64 x] rfl rfl HcS.out (by intro u hu;simp at hu;rcases hu with rfl | rfl | rfl <;> rfl) hl9 HbS.out ?_;intro g9 cap9 w11 hown9 hgrow9 hor9 hbase9;obtain ⟨f1,f2,f3⟩:=HF9.out w11 hgrow9;have Hown9:=hide hown9;have Hkr9:=hide f1;clear hown9 hgrow9 hor9 hbase9 f1)
      go_roundw
      case rel =>
       have hbx:=(Hkr9.out.keep y (Array.getElem?_eq_some_iff.1 HA.out.box).1 HA.out.apart.2.2).trans HA.out.box
       refine ⟨j+1,.slice (some ⟨g9,0,none⟩) (N+1) cap9,by omega,by go_num,hide ?_,hide (below_set (HB.out.trans Hkr9.out.below) hy 4 _),hide (owns_set (Hkr9.out.owns HO.out (rows_far HO.out HA.out.s (by decide))) hbx (by decide) 4 _)⟩
       have h:=HA.out.appStep (z:=⟨(k:Int),mLab M k,x⟩) Hkr9.out (by rw [show (wordsA M (k+1) (rowsS M k ++ (rowS M k).take j)).steps.length=N from HN.out];exact Hown9.out)
       rw [HE.out,Hx.out,← List.append_assoc]
       exact h
      case measure=>simp [intOf];omega
     ·have ej:j=(onceL (mRow M k)).length:=by omega
      have HA11:=hide (show RA wr W0.heap.size y (.slice p (onceL M.first).length kf) (.slice (some ⟨g8,0,none⟩) (k+1) cap8) (.slice a5 (rowsS M k ++ (rowS M k).take j).length c5) (wordsA M (k+1) (rowsS M (k+1))) from by
       have h:=HA.out
       have e3:(rowS M k).take j=rowS M k:=List.take_of_length_le (by unfold rowS;simp;omega)
       rw [rowsS_next]
       rw [e3] at h ⊢
       exact h)
      clear HA
      go_wp2
      go_roundw
      case rel=>exact ⟨k+1,_,_,by omega,by go_num,HA11,HB⟩
      case measure=>simp [intOf];omega
   ·have ek:k=M.labels.length:=by omega
    subst ek
    have hbox:wr.heap[y]?=some (.cells #[.int .i64 (M.labels.length:Nat),.int .i64 8,.slice p (onceL M.first).length kf,.slice a2 M.labels.length c2,.slice a3 (rowsS M M.labels.length).length c3] 26):=HA.out.box
    have h09:=belowRow HB.out H2.out
    have hne:w.heap.size+1 ≠ y:=by omega
    have hF:=fivePut_box h09 (.int .i64 (M.labels.length:Nat)) (.int .i64 8) (.slice p (onceL M.first).length kf) (.slice a2 M.labels.length c2) (.slice a3 (rowsS M M.labels.length).length c3)
    have u0:=cell_of_row _ _ 0 _ _ _ hbox
    have u1:=cell_of_row _ _ 1 _ _ _ hbox
    have u2:=cell_of_row _ _ 2 _ _ _ hbox
    have u3:=cell_of_row _ _ 3 _ _ _ hbox
    have u4:=cell_of_row _ _ 4 _ _ _ hbox
    have y0:=cell_of_row _ _ 0 _ _ _ h09
    have y1:=cell_of_row _ _ 1 _ _ _ h09
    have y2:=cell_of_row _ _ 2 _ _ _ h09
    have y3:=cell_of_row _ _ 3 _ _ _ h09
    have y4:=cell_of_row _ _ 4 _ _ _ h09
    have z0:=frozen_of_row _ _ 0 _ _ h09
    have z1:=frozen_of_row _ _ 1 _ _ h09
    have z2:=frozen_of_row _ _ 2 _ _ h09
    have z3:=frozen_of_row _ _ 3 _ _ h09
    have z4:=frozen_of_row _ _ 4 _ _ h09
    have f0:=cell_of_row _ _ 0 _ _ _ hF
    have f1:=cell_of_row _ _ 1 _ _ _ hF
    have f2:=cell_of_row _ _ 2 _ _ _ hF
    have f3:=cell_of_row _ _ 3 _ _ _ hF
    have f4:=cell_of_row _ _ 4 _ _ _ hF
    have HBF:=hide (fivePut_below (show Below w.heap.size w wr from below_trans HB0.out HB.out) (show w.heap.size≤w.heap.size+1 by omega) (.int .i64 (M.labels.length:Nat)) (.int .i64 8) (.slice p (onceL M.first).length kf) (.slice a2 M.labels.length c2) (.slice a3 (rowsS M M.labels.length).length c3))
    have HAF:=hide ((HA.out.own.lower (show w.heap.size≤W0.heap.size by omega)).five h09 (.int .i64 (M.labels.length:Nat)) (.int .i64 8) (.slice p (onceL M.first).length kf) (.slice a2 M.labels.length c2) (.slice a3 (rowsS M M.labels.length).length c3))
    unfold fivePut at f0 f1 f2 f3 f4 HBF HAF
    clear hF h09 hbox HA HB
    go_wp2
    exact bodyPost_ret (v:=.agg #[.int .i64 (M.labels.length:Nat),.int .i64 8,.slice p (onceL M.first).length kf,.slice a2 M.labels.length c2,.slice a3 (rowsS M M.labels.length).length c3]) (by simp [results,Tryz.results75,go_sem,f0,f1,f2,f3,f4]) rfl ⟨_,rfl,HAF.out,HBF.out⟩
end Go.Proofs.YtpiacnnifdjlkabGreatDoor
namespace Go.Proofs.YtpiacnnifdjlkabGreatDoor
structure Nd where
 k:Int
 a:Int
 b:Int
 n:Int
def nd0:Nd:=⟨0,0,0,0⟩
def look (r:Nat→Bool→Bool) (e:Bool):Nat→Nat→Bool
 | 0,_=>e
 | m+1,i=>r i (look r e m (i+1))
theorem look_split (r:Nat→Bool→Bool) (e:Bool) (b:Nat):∀ a i,look r e (a+b) i=look r (look r e b (i+a)) a i
 | 0,i=>by simp [look]
 | a+1,i=>by
  rw [Nat.add_right_comm]
  show r i (look r e (a+b) (i+1))=r i (look r (look r e b (i+(a+1))) a (i+1))
  rw [look_split r e b a (i+1),show i+1+a=i+(a+1) by omega]
theorem look_congr (r s:Nat→Bool→Bool) (e:Bool):∀ m i,(∀ k,i≤k→k < i+m→r k=s k)→look r e m i=look s e m i
 | 0,_,_=>rfl
 | m+1,i,h=>by
  show r i (look r e m (i+1))=s i (look s e m (i+1))
  rw [look_congr r s e m (i+1) (fun k h1 h2=>h k (by omega) (by omega)),h i (by omega) (by omega)]
theorem look_shift (r:Nat→Bool→Bool) (e:Bool) (p:Nat):∀ m i,(∀ k,i≤k→r (k+p)=r k)→look r e m (i+p)=look r e m i
 | 0,_,_=>rfl
 | m+1,i,h=>by
  show r (i+p) (look r e m (i+p+1))=r i (look r e m (i+1))
  rw [show i+p+1=i+1+p by omega,look_shift r e p m (i+1) (fun k hk=>h k (by omega)),h i (Nat.le_refl _)]
def Mono (r:Nat→Bool→Bool):Prop:=∀ i,(∃ c,∀ x,r i x=c) ∨ (∀ x,r i x=x)
theorem look_decided (r:Nat→Bool→Bool) (e:Bool) (c:Bool):∀ d M N i,d < M→d < N→(∀ x,r (i+d) x=c)→look r e M i=look r e N i
 | 0,M+1,N+1,i,_,_,h=>by
  have h':∀ x,r i x=c:=h
  show r i _=r i _
  rw [h',h']
 | d+1,M+1,N+1,i,h1,h2,h=>by
  show r i (look r e M (i+1))=r i (look r e N (i+1))
  rw [look_decided r e c d M N (i+1) (by omega) (by omega) (by rw [show i+1+d=i+(d+1) by omega];exact h)]
theorem look_ident (r:Nat→Bool→Bool) (e:Bool):∀ M i,(∀ d x,r (i+d) x=x)→look r e M i=e
 | 0,_,_=>rfl
 | M+1,i,h=>by
  show r i (look r e M (i+1))=e
  rw [look_ident r e M (i+1) (fun d x=>by rw [show i+1+d=i+(d+1) by omega];exact h _ _)]
  exact h 0 e
theorem ident_all (r:Nat→Bool→Bool) (h p N i:Nat) (hp:0 < p) (hpN:p≤N) (hi:h+p≤i+N) (hper:∀ k,h≤k→r (k+p)=r k) (hN:∀ d,d < N→∀ x,r (i+d) x=x):∀ d x,r (i+d) x=x:=by
 intro d
 induction d using Nat.strongRecOn with
 | ind d ih =>
  intro x
  by_cases hd:d < N
  ·exact hN d hd x
  ·have e:i+d=i+(d - p)+p:=by omega
   rw [e,hper (i+(d - p)) (by omega)]
   exact ih (d - p) (by omega) x
theorem look_stab (r:Nat→Bool→Bool) (e:Bool) (h p N M i:Nat) (hm:Mono r) (hp:0 < p) (hpN:p≤N) (hi:h+p≤i+N) (hper:∀ k,h≤k→r (k+p)=r k) (hM:N≤M):look r e M i=look r e N i:=by
 by_cases hex:∃ d,d < N∧∃ c,∀ x,r (i+d) x=c
 ·obtain ⟨d,hd,c,hc⟩:=hex
  exact look_decided r e c d M N i (by omega) hd hc
 ·have hN:∀ d,d < N→∀ x,r (i+d) x=x:=fun d hd=>by
   rcases hm (i+d) with hc | hx
   ·exact absurd ⟨d,hd,hc⟩ hex
   ·exact hx
  have ha:=ident_all r h p N i hp hpN hi hper hN
  rw [look_ident r e M i ha,look_ident r e N i ha]
def plc (h p k:Nat):Nat:=if k < h+p then k else h+(k - h) % p
theorem plc_lt (h p k:Nat) (hp:0 < p):plc h p k < h+p:=by
 unfold plc
 split
 ·assumption
 ·have:=Nat.mod_lt (k - h) hp;omega
theorem plc_small {h p k:Nat} (hk:k < h+p):plc h p k=k:=by unfold plc;rw [if_pos hk]
theorem plc_add (h p k:Nat) (hk:h≤k):plc h p (k+p)=plc h p k:=by
 have e:plc h p (k+p)=h+(k - h) % p:=by
  unfold plc
  rw [if_neg (by omega),show k+p - h=(k - h)+p by omega,Nat.add_mod_right]
 rw [e]
 unfold plc
 split
 ·rename_i h1
  rw [Nat.mod_eq_of_lt (by omega)];omega
 ·rfl
theorem passes (u:Nat→Bool→Bool) (e:Bool) (h p:Nat) (hp:0 < p) (hm:Mono u) (j:Nat) (hj:j < h+p) :
  (if j < h then look u (look u (look u e p h) p h) (h - j) j else look u (look u e p h) (h+p - j) j)=look (fun k=>u (plc h p k)) e (h+p) j:=by
 have hper:∀ k,h≤k→(fun k=>u (plc h p k)) (k+p)=(fun k=>u (plc h p k)) k:=fun k hk=>by
  show u (plc h p (k+p))=u (plc h p k)
  rw [plc_add h p k hk]
 have hmr:Mono (fun k=>u (plc h p k)):=fun i=>hm _
 have hcon:∀ e m i,i+m≤h+p→look u e m i=look (fun k=>u (plc h p k)) e m i:=fun e m i him =>
  look_congr _ _ e m i fun k h1 h2=>by show u k=u (plc h p k);rw [plc_small (by omega)]
 generalize hr:(fun k=>u (plc h p k))=r at *
 have e1:look u e p h=look r e p (h+p):=by rw [hcon e p h (by omega),look_shift r e p p h hper]
 have e2:∀ i,i≤h+p→look u (look u e p h) (h+p - i) i=look r e (h+p - i+p) i:=fun i hi=>by
  rw [hcon _ _ _ (by omega),e1,look_split r e p (h+p - i) i,show i+(h+p - i)=h+p by omega]
 split
 ·rename_i hjh
  have e3:look u (look u e p h) p h=look r e (p+p) h:=by
   have:=e2 h (by omega)
   rwa [show h+p - h=p by omega] at this
  rw [e3,hcon _ _ _ (by omega)]
  have e4:=look_split r e (p+p) (h - j) j
  rw [show j+(h - j)=h by omega] at e4
  rw [← e4,look_stab r e h p (h - j+p) (h - j+(p+p)) j hmr hp (by omega) (by omega) hper (by omega),look_stab r e h p (h - j+p) (h+p) j hmr hp (by omega) (by omega) hper (by omega)]
 ·rename_i hjh
  rw [e2 j (by omega),look_stab r e h p p (h+p - j+p) j hmr hp (by omega) (by omega) hper (by omega),look_stab r e h p p (h+p) j hmr hp (by omega) (by omega) hper (by omega)]
def bt (T:List (List Bool)) (a:Int) (i:Nat):Bool:=(T.getD a.toNat []).getD i false
def nxp (h p i:Nat):Nat:=if i+1=h+p then h else i+1
theorem plc_next {h p i:Nat} (hp:0 < p) (hi:i < h+p):plc h p (i+1)=nxp h p i:=by
 unfold nxp
 split
 ·rename_i e
  rw [e,plc_add h p h (Nat.le_refl _),plc_small (by omega)]
 ·exact plc_small (by omega)
def ruleB (T:List (List Bool)) (h p:Nat) (L:Nat→Int) (x:Nd) (i:Nat) (nx:Bool):Bool:=
 if x.k=2 then decide (L i / 2 ^ x.n.toNat % 2=1)
 else if x.k=3 then !bt T x.a i
 else if x.k=4 then bt T x.a i && bt T x.b i
 else if x.k=5 then bt T x.a i || bt T x.b i
 else if x.k=6 then bt T x.a (nxp h p i)
 else if x.k=7 then bt T x.b i || bt T x.a i && nx
 else if x.k=8 then bt T x.b i && (bt T x.a i || nx)
 else true
theorem rule_mono (T:List (List Bool)) (h p:Nat) (L:Nat→Int) (x:Nd):Mono (ruleB T h p L x):=by
 intro i
 unfold ruleB
 by_cases h2:x.k=2
 ·left;simp only [if_pos h2];exact ⟨_,fun _=>rfl⟩
 simp only [if_neg h2]
 by_cases h3:x.k=3
 ·left;simp only [if_pos h3];exact ⟨_,fun _=>rfl⟩
 simp only [if_neg h3]
 by_cases h4:x.k=4
 ·left;simp only [if_pos h4];exact ⟨_,fun _=>rfl⟩
 simp only [if_neg h4]
 by_cases h5:x.k=5
 ·left;simp only [if_pos h5];exact ⟨_,fun _=>rfl⟩
 simp only [if_neg h5]
 by_cases h6:x.k=6
 ·left;simp only [if_pos h6];exact ⟨_,fun _=>rfl⟩
 simp only [if_neg h6]
 by_cases h7:x.k=7
 ·simp only [if_pos h7]
  cases bt T x.b i with
  | true=>left;exact ⟨true,fun _=>rfl⟩
  | false =>
   cases bt T x.a i with
   | true=>right;intro y;simp
   | false=>left;exact ⟨false,fun _=>rfl⟩
 simp only [if_neg h7]
 by_cases h8:x.k=8
 ·simp only [if_pos h8]
  cases bt T x.b i with
  | false=>left;exact ⟨false,fun _=>rfl⟩
  | true =>
   cases bt T x.a i with
   | false=>right;intro y;simp
   | true=>left;exact ⟨true,fun _=>rfl⟩
 simp only [if_neg h8]
 left;exact ⟨true,fun _=>rfl⟩
def valB (T:List (List Bool)) (h p:Nat) (L:Nat→Int) (x:Nd) (j:Nat):Bool:=look (fun k=>ruleB T h p L x (plc h p k)) (decide (x.k=8)) (h+p) j
def rowV (T:List (List Bool)) (h p:Nat) (L:Nat→Int) (x:Nd):List Bool:=(List.range (h+p)).map (valB T h p L x)
theorem rowV_len (T:List (List Bool)) (h p:Nat) (L:Nat→Int) (x:Nd):(rowV T h p L x).length=h+p:=by simp [rowV]
theorem rowV_get (T:List (List Bool)) (h p:Nat) (L:Nat→Int) (x:Nd) (j:Nat) (hj:j < h+p):(rowV T h p L x).getD j false=valB T h p L x j:=by simp [rowV,List.getD,hj]
def tabN (F:List Nd) (h p:Nat) (L:Nat→Int):Nat→List (List Bool)
 | 0=>[]
 | m+1=>tabN F h p L m ++ [rowV (tabN F h p L m) h p L (F.getD m nd0)]
theorem tabN_len (F:List Nd) (h p:Nat) (L:Nat→Int):∀ m,(tabN F h p L m).length=m
 | 0=>rfl
 | m+1=>by simp [tabN,tabN_len F h p L m]
theorem tabN_get (F:List Nd) (h p:Nat) (L:Nat→Int) (i:Nat):∀ m,i < m→(tabN F h p L m).getD i []=rowV (tabN F h p L i) h p L (F.getD i nd0)
 | 0,hi=>by omega
 | m+1,hi=>by
  by_cases e:i=m
  ·subst e
   simp [tabN,List.getD,tabN_len]
  ·have:=tabN_get F h p L i m (by omega)
   rw [← this]
   have hl:=tabN_len F h p L m
   simp [tabN,List.getD,List.getElem?_append,hl,show i < m by omega]
theorem tabN_row (F:List Nd) (h p:Nat) (L:Nat→Int) (i m:Nat) (hi:i < m):((tabN F h p L m).getD i []).length=h+p:=by
 rw [tabN_get F h p L i m hi,rowV_len]
end Go.Proofs.YtpiacnnifdjlkabGreatDoor
