import Derived.Test.YtpiacnnifdjlkabGreatDoorCa
import Derived.Deep.DeepCutAuto
set_option maxRecDepth 100000
set_option maxHeartbeats 8000000
namespace Go.Proofs.YtpiacnnifdjlkabGreatDoor
open Go.RowKit Go.Sort
attribute [local go_sem] Oper.semAt_some
structure KB (m g:Nat) (W W':World):Prop where
 os:W'.os=W.os
 tape:W'.tape=W.tape
 output:W'.output=W.output
 size:W.heap.size≤W'.heap.size
 block:∀ k,k < m→k ≠ g→W'.heap[k]?=W.heap[k]?
theorem KB.refl (m g:Nat) (W:World):KB m g W W:=⟨rfl,rfl,rfl,Nat.le_refl _,fun _ _ _=>rfl⟩
theorem KB.trans {m g:Nat}{A B C:World} (h:KB m g A B) (k:KB m g B C):KB m g A C:=
 ⟨k.os.trans h.os,k.tape.trans h.tape,k.output.trans h.output,Nat.le_trans h.size k.size,fun i hi hn=>(k.block i hi hn).trans (h.block i hi hn)⟩
theorem KB.of_below {m g:Nat}{W W':World} (h:Below W.heap.size W W') (hm:m≤W.heap.size):KB m g W W':=⟨h.os,h.tape,h.output,h.size,fun k hk _=>h.block k (by omega)⟩
theorem KB.cell {m g:Nat}{W W':World} (h:KB m g W W') {a:Addr} (hm:a.block < m) (hg:a.block ≠ g):W'.cell? a=W.cell? a:=World.cell?_of_block (w:=W) (h.block a.block hm hg)
def GS (st:Int) (N:Nat) (x:Stp):Prop:=x.f=st∧0≤x.l∧x.l < 8∧0≤x.t∧x.t < N
theorem from_any (n m:Int) (fv gv sv:Value) (st:Int) (w:World) :
  Calls Tryz.prog 99 #[.agg #[.int .i64 n,.int .i64 m,fv,gv,sv],.int .i64 st] w fun e w'=>e=.returned (.func (.func 150) #[] #[.pointer (some ⟨w.heap.size,0,none⟩),.pointer (some ⟨w.heap.size+1,0,none⟩)])∧w'=(w.alloc (.cells #[.int .i64 n,.int .i64 m,fv,gv,sv] 26)).alloc (.cells #[.int .i64 st] 3):=by
 go_enter Tryz.func99,Tryz.ntmps99
 go_wp2
 go_ret
 exact ⟨rfl,rfl⟩
theorem stp_getD (ss:List Stp) (k:Nat) (h:k < ss.length):ss.getD k stp0=ss[k]:=by simp [List.getD,h]
theorem from_filter (ss:List Stp) (st:Int) (k i:Nat) (hlo:∀ j,j < k→(ss.getD j stp0).f < st) (hall:∀ j,k≤j→j < k+i→(ss.getD j stp0).f=st) (hhi:∀ j,k+i≤j→j < ss.length→(ss.getD j stp0).f ≠ st) (hk:k+i≤ss.length) :
  ss.filter (fun x=>decide (x.f=st))=(ss.drop k).take i:=by
 have e:ss=ss.take k ++ ((ss.drop k).take i ++ ss.drop (k+i)):=by
  rw [← List.drop_drop,List.take_append_drop,List.take_append_drop]
 have h1:(ss.take k).filter (fun x=>decide (x.f=st))=[]:=by
  rw [List.filter_eq_nil_iff]
  intro x hx
  obtain ⟨j,hj,rfl⟩:=List.mem_iff_getElem.1 hx
  have hj':j < k:=by simp at hj;omega
  have:=hlo j hj'
  rw [stp_getD _ _ (by omega)] at this
  rw [List.getElem_take]
  simp;omega
 have h2:((ss.drop k).take i).filter (fun x=>decide (x.f=st))=(ss.drop k).take i:=by
  rw [List.filter_eq_self]
  intro x hx
  obtain ⟨j,hj,rfl⟩:=List.mem_iff_getElem.1 hx
  have hj':j < i:=by simp at hj;omega
  have:=hall (k+j) (by omega) (by omega)
  rw [stp_getD _ _ (by omega)] at this
  rw [List.getElem_take,List.getElem_drop]
  simp [this]
 have h3:(ss.drop (k+i)).filter (fun x=>decide (x.f=st))=[]:=by
  rw [List.filter_eq_nil_iff]
  intro x hx
  obtain ⟨j,hj,rfl⟩:=List.mem_iff_getElem.1 hx
  have hj':k+i+j < ss.length:=by simp at hj;omega
  have:=hhi (k+i+j) (by omega) hj'
  rw [stp_getD _ _ hj'] at this
  rw [List.getElem_drop]
  simp [this]
 conv=>lhs;rw [e]
 rw [List.filter_append,List.filter_append,h1,h2,h3]
 simp
theorem take_snoc_getD (ss:List Stp) (k i:Nat) (h:k+i < ss.length):(ss.drop k).take (i+1)=(ss.drop k).take i ++ [ss.getD (k+i) stp0]:=by
 rw [List.take_add_one,List.getElem?_drop,List.getElem?_eq_getElem h,stp_getD _ _ h]
 rfl
theorem fromOne_in {ss:List Stp}{b off cap:Nat} (n l B1 B2 m g N:Nat) (st:Int) (J Jx:List { x:Stp // GS st N x }→World→Prop)
  (hY:∀ (pre:List { x:Stp // GS st N x }) (x:{ x:Stp // GS st N x }) (W1:World),J pre W1→pre.length < ss.length→YieldAt Fence.wide (n - 1) Tryz.prog l #[.agg #[.int .i64 x.1.f,.int .i64 x.1.l,.int .i64 x.1.t]] W1 fun e W' =>
   (e=.returned (.bool true)∧J (pre ++ [x]) W'∧KB m g W1 W') ∨ (e=.returned (.bool false)∧Jx (pre ++ [x]) W'))
  (W:World) (hJ:AbidesFrom W.heap.size J) (hm:m≤W.heap.size) (hB1:W.cell? ⟨B1,4,none⟩=some (.slice (some ⟨b,off,none⟩) ss.length cap)) (hB2:W.cell? ⟨B2,0,none⟩=some (.int .i64 st)) (hb2:B2 < m∧B2 ≠ g) (hbs:b < m∧b ≠ g)
  (hlen:ss.length≤6000) (hcap:ss.length≤cap) (hc:∀ i,i < ss.length→W.cell? ⟨b,off+i * 3,none⟩=some (.int .i64 (ss.getD i stp0).f)∧W.cell? ⟨b,off+i * 3+1,none⟩=some (.int .i64 (ss.getD i stp0).l)∧W.cell? ⟨b,off+i * 3+2,none⟩=some (.int .i64 (ss.getD i stp0).t))
  (hmono:∀ i j,i≤j→j < ss.length→(ss.getD i stp0).f≤(ss.getD j stp0).f) (hgs:∀ x,x ∈ ss→x.f=st→GS st N x) (h0:J [] W) :
  CallsIn Fence.wide n Tryz.prog 150 #[.func (.yield l) #[] #[],.pointer (some ⟨B1,0,none⟩),.pointer (some ⟨B2,0,none⟩)] W fun e W'=>(∃ v,e=.returned v) ∧
   ((∃ xs,(xs.map (·.1))=ss.filter (fun x=>decide (x.f=st))∧J xs W') ∨ (∃ pre,Jx pre W')):=by
 have HS:=hide (bsf_go ss b off cap st W (by omega) hc hmono)
 refine callsIn_of_wp Tryz.func150 rfl trivial ?_ rfl
 simp only [Tryz.ntmps150,List.size_toArray,List.length_cons,List.length_nil,Nat.reduceAdd,Nat.reduceSub,Array.replicate_succ,Array.replicate_zero,List.push_toArray,List.append_toArray,List.nil_append,List.cons_append]
 have Hc:=hide hc
 have HY:=hide hY
 have Hgs:=hide hgs
 have HJ:=hide hJ
 clear hc hY hgs hJ
 gi_wp2_with (fail)
 refine ⟨trivial,fun h=>by simp [Fence.wide] at h,(callsIn_wide.2 HS.out).mono ?_⟩
 rintro e w1 ⟨k0,q0,rfl,hk0,hlo,hhi,hb1⟩
 have Hlo:=hide hlo
 have Hhi:=hide hhi
 clear hlo hhi
 have x1:w1.cell? ⟨B1,4,none⟩=some (.slice (some ⟨b,off,none⟩) ss.length cap):=(hb1.cell (World.block_lt_of_cell? W _ hB1)).trans hB1
 have hK1:KB m g W w1:=KB.of_below hb1 hm
 have hJ1:J [] w1:=HJ.out [] W w1 none h0 (grown_of_below hb1) (fun r e=>by cases e)
 have hbl:=hbs.1
 have HJ1:=hide hJ1
 clear hJ1 h0 HS
 have Hmo:=hide hmono
 clear hmono
 by_cases hkl:k0 < ss.length
 ·have hne:¬ cap=k0:=by omega
  have hne2:¬ k0=cap:=by omega
  have hle0:k0≤cap:=by omega
  gi_wp2_with (fail)
  gi_loopw [20] (fun iv wr=>∃ i:Nat,iv=.int .i64 i∧k0+i≤ss.length∧(∃ pre,pre.map (·.1)=(ss.drop k0).take i∧J pre wr)∧(∀ j,k0≤j→j < k0+i→(ss.getD j stp0).f=st)∧KB m g W wr) (fun iv _=>ss.length - k0 - (intOf iv).toNat)
  case atStart=>exact ⟨0,rfl,by omega,⟨[],by simp,HJ1.out⟩,(fun j h1 h2=>by omega),hK1⟩
  case round =>
   obtain ⟨i,rfl,hi,⟨pre,hpre,hJp⟩,hall,hK⟩:=hrel
   have Hpre:=hide hpre
   have HJp:=hide hJp
   have Hall:=hide hall
   clear hpre hJp hall
   by_cases hil:k0+i < ss.length
   ·have hil2:i < ss.length - k0:=by omega
    obtain ⟨d0,d1,d2⟩:=Hc.out (k0+i) hil
    have ea:off+(k0+i) * 3=off+k0 * 3+i * 3:=by omega
    rw [ea] at d0 d1 d2
    rw [← hK.cell (a:=⟨b,_,none⟩) hbs.1 hbs.2] at d0 d1 d2
    have y2:wr.cell? ⟨B2,0,none⟩=some (.int .i64 st):=by rw [hK.cell (a:=⟨B2,0,none⟩) hb2.1 hb2.2];exact hB2
    generalize hx:ss.getD (k0+i) stp0=x at *
    have Hx:=hide hx
    clear hx
    have hxm:x ∈ ss:=by
     rw [← Hx.out,stp_getD _ _ hil]
     exact List.getElem_mem _
    have Hxm:=hide hxm
    clear hxm
    have hlb:B2 < wr.heap.size:=World.block_lt_of_cell? _ _ y2
    by_cases hfs:x.f=st
    ·have hd:(x.f != st)=false:=by simp [hfs]
     have Hfs:=hide hfs
     clear hfs
     have hlt':pre.length < ss.length:=by
      have:=congrArg List.length Hpre.out
      simp at this
      omega
     have hJa:J pre (wr.alloc (Obj.cells #[Value.int .i64 x.f,.int .i64 x.l,.int .i64 x.t] 88)):=HJ.out pre wr _ none HJp.out (World.grownBy_alloc _ _ _) (fun r e=>by cases e)
     obtain ⟨fn,tmps,assign,body,hy,hR⟩:=HY.out pre ⟨x,Hgs.out x Hxm.out Hfs.out⟩ _ hJa hlt'
     dsimp only at hy
     have HR:=hide hR
     clear hR
     gi_wp2_with (fail)
     refine ⟨fun h=>by simp [Fence.wide] at h,HR.out.mono ?_⟩
     rintro e W3 (⟨rfl,hJ3,hk3⟩ | ⟨rfl,hJx3⟩)
     ·have HJ3:=hide hJ3
      clear hJ3
      have hk4:KB m g W W3:=(hK.trans (KB.of_below (below_new wr _) (Nat.le_trans hm hK.size))).trans hk3
      gi_wp2
      go_roundw
      case rel =>
       refine ⟨i+1,by go_num,by omega,⟨pre ++ [⟨x,Hgs.out x Hxm.out Hfs.out⟩],?_,HJ3.out⟩,fun j h1 h2=>?_,hk4⟩
       ·rw [take_snoc_getD ss k0 i hil,Hx.out,List.map_append,Hpre.out]
        rfl
       ·by_cases hj:j=k0+i
        ·subst hj;rw [Hx.out];exact Hfs.out
        ·exact Hall.out j h1 (by omega)
      case measure=>simp [intOf];omega
     ·have HJx3:=hide hJx3
      clear hJx3
      gi_wp2
      refine bodyPost_ret (results_none rfl _ _ _) rfl ?_
      exact ⟨⟨_,rfl⟩,.inr ⟨_,HJx3.out⟩⟩
    ·have hd:(x.f != st)=true:=by simp [hfs]
     have Hfs:=hide hfs
     clear hfs
     gi_wp2
     refine ⟨fun _ h=>(by cases h),?_⟩
     gi_wp2
     refine bodyPost_ret (results_none rfl _ _ _) rfl ?_
     refine ⟨⟨_,rfl⟩,.inl ⟨pre,?_,HJ.out pre wr _ none HJp.out (World.grownBy_alloc _ _ _) (fun r e=>by cases e)⟩⟩
     rw [Hpre.out]
     refine (from_filter ss st k0 i Hlo.out Hall.out (fun j h1 h2=>?_) hi).symm
     have h3:=Hmo.out (k0+i) j h1 h2
     have h4:=Hhi.out (k0+i) (by omega) hil
     rw [Hx.out] at h3 h4
     have h5:x.f ≠ st:=Hfs.out
     omega
   ·gi_wp2
    go_end0
    refine ⟨⟨_,rfl⟩,.inl ⟨pre,?_,HJp.out⟩⟩
    rw [Hpre.out]
    exact (from_filter ss st k0 i Hlo.out Hall.out (fun j h1 h2=>by omega) hi).symm
 ·have hke:k0=ss.length:=by omega
  subst hke
  have hfin:([]:List { x:Stp // GS st N x }).map (·.1)=ss.filter (fun x=>decide (x.f=st)):=by
   rw [from_filter ss st ss.length 0 Hlo.out (fun j h1 h2=>by omega) (fun j h1 h2=>by omega) (by omega)]
   simp
  have Hfin:=hide hfin
  clear hfin
  gi_wp2_with (fail)
  all_goals
   refine wpIn_loop_rounds 1 ?_
   rw [roundsIn_succ]
   gi_wp2
   go_end0
   exact ⟨⟨_,rfl⟩,.inl ⟨[],Hfin.out,HJ1.out⟩⟩
attribute [local go_sem] Oper.semAt_some
def zeroW (c:Nat):Array Value:=Array.replicate c (.int .u64 0)
def zeroL:Value:=.agg (Array.replicate 40 (.int .u64 0))
theorem leadsInfo:Tryz.prog.info? 189=some Tryz.t189:=by kernel_rfl
theorem leadsZero:Tryz.t189.zero=some zeroL:=by kernel_rfl
theorem leadsBytes:Tryz.t189.bytes=320:=by kernel_rfl
theorem leadsSize:Tryz.t189.size=40:=by kernel_rfl
theorem leadsCells:zeroL.cells=Array.replicate 40 (.int .u64 0):=by kernel_rfl
theorem make_leads (c:Nat) (h:c≤300) (w:World):(Instr.makeSlice 123 (.int .i64 c) (.int .i64 c)).run Tryz.prog w=.ok (.slice (some ⟨w.heap.size,0,none⟩) c c) (w.alloc (.cells (zeroW (c * 40)) 189)):=by
 rw [run_make w 123 189 Tryz.t189 zeroL Tryz.underlying123 leadsInfo leadsZero .i64 .i64 c c (by omega) (by omega) (by rw [leadsBytes];omega) (by omega)]
 have e:madeCells zeroL.cells (c * 40)=zeroW (c * 40):=by
  rw [leadsCells]
  apply Array.ext
  ·simp [size_madeCells,zeroW]
  ·intro i h1 h2
   have:i % 40 < 40:=Nat.mod_lt _ (by decide)
   simp [madeCells,zeroW,this]
 rw [leadsSize,Int.toNat_natCast,e]
structure LC (W:World) (g N:Nat) (D:Nat→Nat→Nat→Nat):Prop where
 lead:∀ s l i,s < N→l < 8→i < 5→W.cell? ⟨g,s * 40+l * 5+i,none⟩=some (.int .u64 (D s l i))
 soft:∀ o,W.frozen? ⟨g,o,none⟩=false
 isC:∃ o:Obj,W.heap[g]?=some o∧o.isCells=true
theorem LC.of_block {W W':World}{g N:Nat}{D:Nat→Nat→Nat→Nat} (h:LC W g N D) (hb:W'.heap[g]?=W.heap[g]?):LC W' g N D:=
 ⟨fun s l i a b c=>(World.cell?_of_block (a:=⟨g,_,none⟩) hb).trans (h.lead s l i a b c),fun o=>(World.frozen?_of_block (a:=⟨g,o,none⟩) hb).trans (h.soft o),by rw [hb];exact h.isC⟩
theorem LC.lt {W:World}{g N:Nat}{D:Nat→Nat→Nat→Nat} (h:LC W g N D):g < W.heap.size:=by
 obtain ⟨o,ho,_⟩:=h.isC
 exact (Array.getElem?_eq_some_iff.1 ho).1
theorem isC_setCell {W:World}{g:Nat} (a:Addr) (v:Value) (h:∃ o:Obj,W.heap[g]?=some o∧o.isCells=true):∃ o:Obj,(W.setCell a v).heap[g]?=some o∧o.isCells=true:=by
 obtain ⟨o,ho,hc⟩:=h
 simp only [World.setCell,Array.getElem?_modify]
 by_cases hb:a.block=g
 ·rw [if_pos hb,ho]
  cases o <;> first | exact ⟨_,rfl,rfl⟩ | cases hc
 ·rw [if_neg hb]
  exact ⟨o,ho,hc⟩
theorem heap_setCell_row {W:World}{b:Nat}{cs:Array Value}{t:TypeId} (i:Nat) (v:Value) (h:W.heap[b]?=some (.cells cs t)):(W.setCell ⟨b,i,none⟩ v).heap[b]?=some (.cells (cs.setIfInBounds i v) t):=by
 simp only [World.setCell,Array.getElem?_modify,if_true,h]
 rfl
def updD (D:Nat→Nat→Nat→Nat) (s l:Nat) (B:Nat→Nat):Nat→Nat→Nat→Nat:=fun s' l'=>if s'=s∧l'=l then B else D s' l'
def five (W:World) (g o:Nat) (B:Nat→Nat):World:=
 ((((W.setCell ⟨g,o,none⟩ (.int .u64 (B 0))).setCell ⟨g,o+1,none⟩ (.int .u64 (B 1))).setCell ⟨g,o+2,none⟩ (.int .u64 (B 2))).setCell ⟨g,o+3,none⟩ (.int .u64 (B 3))).setCell ⟨g,o+4,none⟩ (.int .u64 (B 4))
theorem five_other {W:World}{g o p:Nat}{B:Nat→Nat} (h:∀ i,i < 5→p ≠ o+i):(five W g o B).cell? ⟨g,p,none⟩=W.cell? ⟨g,p,none⟩:=by
 have h0:=h 0 (by omega)
 have h1:=h 1 (by omega)
 have h2:=h 2 (by omega)
 have h3:=h 3 (by omega)
 have h4:=h 4 (by omega)
 unfold five
 rw [World.cell?_setCell_other _ _ _ _ (by simp <;> omega),World.cell?_setCell_other _ _ _ _ (by simp <;> omega),World.cell?_setCell_other _ _ _ _ (by simp <;> omega),World.cell?_setCell_other _ _ _ _ (by simp <;> omega),World.cell?_setCell_other _ _ _ _ (by simp <;> omega)]
theorem five_same {W:World}{g o:Nat}{B C:Nat→Nat} (h:∀ i,i < 5→W.cell? ⟨g,o+i,none⟩=some (.int .u64 (C i))) (i:Nat) (hi:i < 5):(five W g o B).cell? ⟨g,o+i,none⟩=some (.int .u64 (B i)):=by
 have h0:=h 0 (by omega)
 have h1:=h 1 (by omega)
 have h2:=h 2 (by omega)
 have h3:=h 3 (by omega)
 have h4:=h 4 (by omega)
 rw [Nat.add_zero] at h0
 unfold five
 obtain rfl | rfl | rfl | rfl | rfl:i=0 ∨ i=1 ∨ i=2 ∨ i=3 ∨ i=4:=by omega
 ·rw [Nat.add_zero,World.cell?_setCell_other _ _ _ _ (by simp),World.cell?_setCell_other _ _ _ _ (by simp),World.cell?_setCell_other _ _ _ _ (by simp),World.cell?_setCell_other _ _ _ _ (by simp)]
  exact World.cell?_setCell_same _ _ _ h0
 ·rw [World.cell?_setCell_other _ _ _ _ (by simp),World.cell?_setCell_other _ _ _ _ (by simp),World.cell?_setCell_other _ _ _ _ (by simp)]
  refine World.cell?_setCell_same _ _ _ (u:=.int .u64 (C 1)) ?_
  rw [World.cell?_setCell_other _ _ _ _ (by simp)]
  exact h1
 ·rw [World.cell?_setCell_other _ _ _ _ (by simp),World.cell?_setCell_other _ _ _ _ (by simp)]
  refine World.cell?_setCell_same _ _ _ (u:=.int .u64 (C 2)) ?_
  rw [World.cell?_setCell_other _ _ _ _ (by simp),World.cell?_setCell_other _ _ _ _ (by simp)]
  exact h2
 ·rw [World.cell?_setCell_other _ _ _ _ (by simp)]
  refine World.cell?_setCell_same _ _ _ (u:=.int .u64 (C 3)) ?_
  rw [World.cell?_setCell_other _ _ _ _ (by simp),World.cell?_setCell_other _ _ _ _ (by simp),World.cell?_setCell_other _ _ _ _ (by simp)]
  exact h3
 ·refine World.cell?_setCell_same _ _ _ (u:=.int .u64 (C 4)) ?_
  rw [World.cell?_setCell_other _ _ _ _ (by simp),World.cell?_setCell_other _ _ _ _ (by simp),World.cell?_setCell_other _ _ _ _ (by simp),World.cell?_setCell_other _ _ _ _ (by simp)]
  exact h4
theorem LC.five {W:World}{g N:Nat}{D:Nat→Nat→Nat→Nat} (h:LC W g N D) (s l:Nat) (hs:s < N) (hl:l < 8) (B:Nat→Nat):LC (five W g (s * 40+l * 5) B) g N (updD D s l B):=by
 refine ⟨fun s' l' i a b c=>?_,fun o=>?_,?_⟩
 ·unfold updD
  by_cases e:s'=s∧l'=l
  ·rw [if_pos e,e.1,e.2]
   exact five_same (fun j hj=>h.lead s l j hs hl hj) i c
  ·rw [if_neg e,five_other (fun j hj=>by omega)]
   exact h.lead s' l' i a b c
 ·unfold YtpiacnnifdjlkabGreatDoor.five
  rw [World.frozen?_setCell,World.frozen?_setCell,World.frozen?_setCell,World.frozen?_setCell,World.frozen?_setCell]
  exact h.soft o
 ·unfold YtpiacnnifdjlkabGreatDoor.five
  exact isC_setCell _ _ (isC_setCell _ _ (isC_setCell _ _ (isC_setCell _ _ (isC_setCell _ _ h.isC))))
theorem heap_setCell_other (W:World) (a:Addr) (v:Value) (k:Nat) (h:k ≠ a.block):(W.setCell a v).heap[k]?=W.heap[k]?:=by
 simp only [World.setCell,Array.getElem?_modify]
 rw [if_neg (fun e=>h e.symm)]
theorem KB.set (m g o:Nat) (W:World) (v:Value):KB m g W (W.setCell ⟨g,o,none⟩ v):=
 ⟨rfl,rfl,rfl,by simp [World.setCell],fun k _ hk=>heap_setCell_other W _ _ k hk⟩
theorem KB.five (m g o:Nat) (W:World) (B:Nat→Nat):KB m g W (five W g o B):=
 ((((KB.set m g _ _ _).trans (KB.set m g _ _ _)).trans (KB.set m g _ _ _)).trans (KB.set m g _ _ _)).trans (KB.set m g _ _ _)
theorem keeps_five (g o:Nat) (W:World) (B:Nat→Nat):KeepsOthers W (five W g o B):=
 ((((KeepsOthers.setCell _ _ _).trans (KeepsOthers.setCell _ _ _)).trans (KeepsOthers.setCell _ _ _)).trans (KeepsOthers.setCell _ _ _)).trans (KeepsOthers.setCell _ _ _)
def IW (W0:World) (g N m:Nat) (ss:List Stp) (k:Int) (pre:List { x:Stp // GS k N x }) (W:World):Prop:=
 KB m g W0 W∧∃ D,LC W g N D∧(∀ s l,Words (D s l))∧∀ s l t:Nat,inB (D s l) t=true ↔ (∃ x ∈ ss,x.f=s∧x.l=l∧x.t=t∧x.f < k) ∨ (∃ y ∈ pre,y.1.f=s∧y.1.l=l∧y.1.t=t)
theorem KB.grown {m g:Nat}{A W W':World}{row:Option Nat} (h:KB m g A W) (hm:m≤W.heap.size) (hg:W.grownBy W' row) (hr:∀ r,row=some r→m≤r):KB m g A W':=
 ⟨hg.os.trans h.os,hg.tape.trans h.tape,hg.output.trans h.output,Nat.le_trans h.size hg.size,fun k hk hn=>(hg.block k (by omega) (fun e=>by have:=hr k e.symm;omega)).trans (h.block k hk hn)⟩
theorem IW_own (W0:World) (g N:Nat) (ss:List Stp) (k:Int) (hg:g < W0.heap.size):OwnFrom W0.heap.size (IW W0 g N W0.heap.size ss k):=by
 rintro pre W W' row ⟨hk,D,hl,hw,hD⟩ hgr hr
 refine ⟨hk.grown hk.size hgr (fun r e=>(hr r e).1),D,hl.of_block (hgr.block g hl.lt (fun e=>?_)),hw,hD⟩
 have:=(hr g e.symm).1
 omega
theorem Words.add {B:Nat→Nat} (h:Words B) (s:Nat):Words (addB B s):=addB_words h s
theorem IW.step {W0 W:World}{g N m:Nat}{ss:List Stp}{k:Nat}{pre:List { x:Stp // GS k N x }}{D:Nat→Nat→Nat→Nat}{W':World} (hK:KB m g W0 W) (hL:LC W g N D) (hw:∀ s l,Words (D s l))
  (hD:∀ s l t:Nat,inB (D s l) t=true ↔ (∃ x ∈ ss,x.f=s∧x.l=l∧x.t=t∧x.f < (k:Int)) ∨ (∃ y ∈ pre,y.1.f=s∧y.1.l=l∧y.1.t=t)) (x:{ x:Stp // GS k N x }) (hk:k < N) (l t:Nat) (hl:x.1.l=l) (ht:x.1.t=t)
  (hb:KB m g W W') (hg:W'.heap[g]?=W.heap[g]?):IW W0 g N m ss k (pre ++ [x]) (five W' g (k * 40+l * 5) (addB (D k l) t)):=by
 have h1:=x.2.1
 have h2:=x.2.2.2.1
 refine ⟨(hK.trans hb).trans (KB.five _ _ _ _ _),_,(hL.of_block hg).five k l hk (by omega) (addB (D k l) t),fun s' l'=>?_,fun s' l' t'=>?_⟩
 ·unfold updD
  by_cases e:s'=k∧l'=l
  ·rw [if_pos e];exact Words.add (hw _ _) _
  ·rw [if_neg e];exact hw _ _
 ·unfold updD
  by_cases e:s'=k∧l'=l
  ·rw [if_pos e,inB_add,Bool.or_eq_true,hD,e.1,e.2,decide_eq_true_eq]
   constructor
   ·rintro ((h | ⟨y,hy,h⟩) | rfl)
    ·exact .inl h
    ·exact .inr ⟨y,List.mem_append_left _ hy,h⟩
    ·exact .inr ⟨x,by simp,h1,hl,ht⟩
   ·rintro (h | ⟨y,hy,h⟩)
    ·exact .inl (.inl h)
    ·rcases List.mem_append.1 hy with hy | hy
     ·exact .inl (.inr ⟨y,hy,h⟩)
     ·rw [List.mem_singleton] at hy
      subst hy
      exact .inr (by omega)
  ·rw [if_neg e,hD]
   constructor
   ·rintro (h | ⟨y,hy,h⟩)
    ·exact .inl h
    ·exact .inr ⟨y,List.mem_append_left _ hy,h⟩
   ·rintro (h | ⟨y,hy,h⟩)
    ·exact .inl h
    ·rcases List.mem_append.1 hy with hy | hy
     ·exact .inr ⟨y,hy,h⟩
     ·rw [List.mem_singleton] at hy
      subst hy
      exact absurd ⟨by omega,by omega⟩ e
def SD (ss:List Stp) (k:Int) (D:Nat→Nat→Nat→Nat):Prop:=(∀ s l,Words (D s l))∧∀ s l t:Nat,inB (D s l) t=true ↔ ∃ x ∈ ss,x.f=s∧x.l=l∧x.t=t∧x.f < k
theorem SD_zero (ss:List Stp) (hgs:∀ x,x ∈ ss→0≤x.f):SD ss 0 (fun _ _ _=>0):=by
 refine ⟨fun _ _ _=>by show (0:Nat) < 18446744073709551616;decide,fun s l t=>?_⟩
 constructor
 ·intro h
  simp [inB] at h
 ·rintro ⟨x,hx,_,_,_,h⟩
  have:=hgs x hx
  omega
theorem SD_next {ss:List Stp}{k N:Nat}{D:Nat→Nat→Nat→Nat}{xs:List { x:Stp // GS k N x }} (hw:∀ s l,Words (D s l)) (hxs:xs.map (·.1)=ss.filter (fun x=>decide (x.f=(k:Int))))
  (hD:∀ s l t:Nat,inB (D s l) t=true ↔ (∃ x ∈ ss,x.f=s∧x.l=l∧x.t=t∧x.f < (k:Int)) ∨ (∃ y ∈ xs,y.1.f=s∧y.1.l=l∧y.1.t=t)):SD ss ((k+1:Nat):Int) D:=by
 refine ⟨hw,fun s l t=>?_⟩
 rw [hD]
 constructor
 ·rintro (⟨x,hx,h1,h2,h3,h4⟩ | ⟨y,hy,h1,h2,h3⟩)
  ·exact ⟨x,hx,h1,h2,h3,by omega⟩
  ·have:y.1 ∈ ss.filter (fun x=>decide (x.f=(k:Int))):=by rw [← hxs];exact List.mem_map_of_mem hy
   have h5:=y.2.1
   exact ⟨y.1,(List.mem_filter.1 this).1,h1,h2,h3,by omega⟩
 ·rintro ⟨x,hx,h1,h2,h3,h4⟩
  by_cases e:x.f=(k:Int)
  ·have:x ∈ ss.filter (fun x=>decide (x.f=(k:Int))):=List.mem_filter.2 ⟨hx,by simpa using e⟩
   rw [← hxs] at this
   obtain ⟨y,hy,rfl⟩:=List.mem_map.1 this
   exact .inr ⟨y,hy,h1,h2,h3⟩
  ·exact .inl ⟨x,hx,h1,h2,h3,by omega⟩
def marksOf (Ds:List Nat):List Deferred:=Ds.map fun D=>{ target:=.collected D,args:=#[] }
def Marks (W:World) (lo:Nat) (Ds:List Nat):Prop:=Ds.Nodup∧∀ D ∈ Ds,lo≤D∧W.heap[D]?=some (.deferred (some []))
structure Shut (lo:Nat) (W W':World):Prop where
 os:W'.os=W.os
 tape:W'.tape=W.tape
 output:W'.output=W.output
 size:W.heap.size≤W'.heap.size
 low:∀ k,k < lo→W'.heap[k]?=W.heap[k]?
 cells:∀ (k:Nat) (o:Obj),W.heap[k]?=some o→o.isCells=true→W'.heap[k]?=some o
theorem heap_putObj_other (W:World) (b:Nat) (o:Obj) (k:Nat) (h:k ≠ b):(W.putObj b o).heap[k]?=W.heap[k]?:=by
 simp only [World.putObj,Array.getElem?_setIfInBounds]
 rw [if_neg (fun e=>h e.symm)]
theorem leaves_marks {F:Fence}{n:Nat}{P:Program}{fn:Func}{tmps:Array Value}{R:Ending→World→Prop} (lo:Nat):∀ (Ds:List Nat) (W:World),Marks W lo Ds →
  (∀ W',Shut lo W W'→LeavesIn F n P fn tmps R [] .returning W')→LeavesInM F n P fn tmps R (marksOf Ds) .returning W:=by
 intro Ds
 induction Ds with
 | nil=>exact fun W _ h=>h W ⟨rfl,rfl,rfl,Nat.le_refl _,fun _ _=>rfl,fun _ _ h _=>h⟩
 | cons D Ds ih =>
  rintro W ⟨hn,hall⟩ h
  obtain ⟨hlo,hD⟩:=hall D (by simp)
  have hn':=List.nodup_cons.1 hn
  refine ⟨by simp,.inl ⟨D,_,rfl,run_takeDeferred hD,ih _ ⟨hn'.2,fun E hE=>?_⟩ fun W' hS=>h W' ⟨hS.os,hS.tape,hS.output,?_,fun k hk=>?_,fun k o hk ho=>?_⟩⟩⟩
  ·obtain ⟨h1,h2⟩:=hall E (List.mem_cons_of_mem _ hE)
   refine ⟨h1,?_⟩
   rw [heap_putObj_other _ _ _ _ (fun e=>hn'.1 (by rw [← e];exact hE))]
   exact h2
  ·refine Nat.le_trans ?_ hS.size
   simp [World.putObj]
  ·rw [hS.low k hk,heap_putObj_other _ _ _ _ (by omega)]
  ·refine hS.cells k o ?_ ho
   rw [heap_putObj_other]
   ·exact hk
   ·rintro rfl
    rw [hD] at hk
    cases hk
    cases ho
theorem Marks.of_kb {W W':World}{lo m g:Nat}{Ds:List Nat} (h:Marks W lo Ds) (hk:KB m g W W') (hm:W.heap.size≤m) (hg:g < lo ∨ ∃ o:Obj,W.heap[g]?=some o∧o.isCells=true):Marks W' lo Ds:=by
 refine ⟨h.1,fun D hD=>?_⟩
 obtain ⟨h1,h2⟩:=h.2 D hD
 refine ⟨h1,?_⟩
 rw [hk.block D (by have:=(Array.getElem?_eq_some_iff.1 h2).1;omega) ?_]
 ·exact h2
 ·rintro rfl
  rcases hg with hg | ⟨o,ho,hc⟩
  ·omega
  ·rw [h2] at ho;cases ho;cases hc
theorem Marks.cons {W:World}{lo D:Nat}{Ds:List Nat} (h:Marks W lo Ds) (hlo:lo≤D) (hD:W.heap[D]?=some (.deferred (some []))) (hne:D ∉ Ds):Marks W lo (D :: Ds):=
 ⟨List.nodup_cons.2 ⟨hne,h.1⟩,fun E hE=>by
  rcases List.mem_cons.1 hE with rfl | hE
  ·exact ⟨hlo,hD⟩
  ·exact h.2 E hE⟩
theorem fromZero_in {N:Nat}{a:Option Addr}{cap:Nat} (hcap:a=none→cap=0) (n l B1 B2:Nat) (st:Int) (J:List { x:Stp // GS st N x }→World→Prop)
  (W:World) (hB1:W.cell? ⟨B1,4,none⟩=some (.slice a 0 cap)) (hB2:W.cell? ⟨B2,0,none⟩=some (.int .i64 st)) (h0:J [] W) :
  CallsIn Fence.wide n Tryz.prog 150 #[.func (.yield l) #[] #[],.pointer (some ⟨B1,0,none⟩),.pointer (some ⟨B2,0,none⟩)] W fun e W'=>(∃ v,e=.returned v)∧J [] W':=by
 have HS:=hide (bsf_zero a cap st (.func (.func 152) #[] #[]) W)
 refine callsIn_of_wp Tryz.func150 rfl trivial ?_ rfl
 simp only [Tryz.ntmps150,List.size_toArray,List.length_cons,List.length_nil,Nat.reduceAdd,Nat.reduceSub,Array.replicate_succ,Array.replicate_zero,List.push_toArray,List.append_toArray,List.nil_append,List.cons_append]
 have H0:=hide h0
 clear h0
 gi_wp2_with (fail)
 refine ⟨trivial,fun h=>by simp [Fence.wide] at h,(callsIn_wide.2 HS.out).mono ?_⟩
 rintro e w1 ⟨rfl,rfl⟩
 cases a with
 | none =>
  obtain rfl:=hcap rfl
  gi_wp2_with (fail)
  all_goals
   refine wpIn_loop_rounds 1 ?_
   rw [roundsIn_succ]
   gi_wp2
   go_end0
   exact ⟨⟨_,rfl⟩,H0.out⟩
 | some ad =>
  by_cases hc0:cap=0
  ·subst hc0
   gi_wp2_with (fail)
   all_goals
    refine wpIn_loop_rounds 1 ?_
    rw [roundsIn_succ]
    gi_wp2
    go_end0
    exact ⟨⟨_,rfl⟩,H0.out⟩
  ·have hc1:¬ 0=cap:=fun e=>hc0 e.symm
   gi_wp2_with (fail)
   all_goals
    refine wpIn_loop_rounds 1 ?_
    rw [roundsIn_succ]
    gi_wp2
    go_end0
    exact ⟨⟨_,rfl⟩,H0.out⟩
theorem fromSeq {ss:List Stp}{a:Option Addr}{cap:Nat} (n B1 B2 m g N:Nat) (st:Int) (w0:World) (hm:m≤w0.heap.size) (hB1:w0.cell? ⟨B1,4,none⟩=some (.slice a ss.length cap)) (hB2:w0.cell? ⟨B2,0,none⟩=some (.int .i64 st)) (hb2:B2 < m∧B2 ≠ g)
  (hS:StepSl w0 (.slice a ss.length cap) ss) (hlt:∀ b off,ss ≠ []→a=some ⟨b,off,none⟩→b < m∧b ≠ g) (hlen:ss.length≤6000)
  (hmono:∀ i j,i≤j→j < ss.length→(ss.getD i stp0).f≤(ss.getD j stp0).f) (hgs:∀ x,x ∈ ss→x.f=st→GS st N x) :
  SeqStopsK Fence.wide n Tryz.prog 150 #[.pointer (some ⟨B1,0,none⟩),.pointer (some ⟨B2,0,none⟩)] (fun x:{ x:Stp // GS st N x }=>#[.agg #[.int .i64 x.1.f,.int .i64 x.1.l,.int .i64 x.1.t]]) (KB m g)
   (fun xs=>xs.map (·.1)=ss.filter (fun x=>decide (x.f=st))) (fun _=>True) ss.length w0:=by
 intro l J Jx W hb hJ hJx hY h0
 have hx1:=(hb.cell (World.block_lt_of_cell? w0 _ hB1)).trans hB1
 have hx2:=(hb.cell (World.block_lt_of_cell? w0 _ hB2)).trans hB2
 have hS':=hS.below hb
 obtain ⟨a',cap',e,_,hz,hn,hcap⟩:=hS'
 cases e
 rcases hz with rfl | ⟨b,off,rfl,hc⟩
 ·refine (fromZero_in hn n l B1 B2 st J W hx1 hx2 h0).mono ?_
  rintro e W' ⟨hv,hj⟩
  exact ⟨hv,.inl ⟨[],rfl,hj⟩⟩
 ·by_cases hnil:ss=[]
  ·subst hnil
   refine (fromZero_in hn n l B1 B2 st J W hx1 hx2 h0).mono ?_
   rintro e W' ⟨hv,hj⟩
   exact ⟨hv,.inl ⟨[],rfl,hj⟩⟩
  ·refine (fromOne_in n l B1 B2 m g N st J Jx hY W hJ (Nat.le_trans hm hb.size) hx1 hx2 hb2 (hlt b off hnil rfl) hlen hcap hc hmono hgs h0).mono ?_
   rintro e W' ⟨hv,h⟩
   refine ⟨hv,?_⟩
   rcases h with h | ⟨pre,h⟩
   ·exact .inl h
   ·exact .inr ⟨pre,trivial,h⟩
end Go.Proofs.YtpiacnnifdjlkabGreatDoor
