import Derived.Test.YtpiacnnifdjlkabGreatDoorRk
import Derived.Test.YtpiacnnifdjlkabGreatDoorCe
import Derived.Test.YtpiacnnifdjlkabGreatDoorCt
set_option maxRecDepth 100000
set_option maxHeartbeats 8000000
namespace Go.Proofs.YtpiacnnifdjlkabGreatDoor
open Go.RowKit Go.Sort
def withL (S:World→Nat→Prop) (l:Nat) (W:World) (k:Nat):Prop:=S W k ∨ k=l
theorem det_withL {m l:Nat}{S:World→Nat→Prop} (h:Det m S):Det m (withL S l):=by
 intro W W' hm hs hk k
 have:=h W W' hm hs (fun k o ho hS=>hk k o ho (Or.inl hS)) k
 unfold withL
 rw [this]
theorem KO.withL {l:Nat}{S:World→Nat→Prop}{A B:World} (h:KO l S A B):KE (withL S l) A B:=
 ⟨h.os,h.tape,h.output,h.size,fun k o hk hn=>h.keep k o hk (fun e=>hn (Or.inr e)) (fun hs=>hn (Or.inl hs)),fun k hk=>by
  rcases hk with hk | hk
  ·rcases h.own k hk with h1 | h1
   ·exact Or.inl (Or.inl h1)
   ·exact Or.inr h1
  ·exact Or.inl (Or.inr hk)⟩
theorem KI.ofWithL {s s' l:Nat}{S:World→Nat→Prop}{A B:World} (h:KI s (Go.Proofs.YtpiacnnifdjlkabGreatDoor.withL S l) A B) (hs:s'≤s):KI s' S A B:=
 ⟨h.os,h.tape,h.output,h.size,fun k o hk hor=>h.keep k o hk (hor.imp (fun h1=>Nat.lt_of_lt_of_le h1 hs) Or.inl)⟩
theorem KO.thenKI {s l m:Nat}{S:World→Nat→Prop}{W A B:World} (h:KO l S W A) (hD:Det m S) (hm:m≤A.heap.size) (hs:W.heap.size≤s) (hk:KI s (Go.Proofs.YtpiacnnifdjlkabGreatDoor.withL S l) A B):KO l S W B:=
 ⟨hk.os.trans h.os,hk.tape.trans h.tape,hk.output.trans h.output,Nat.le_trans h.size hk.size,fun k o ho hl hn=>hk.keep k o (h.keep k o ho hl hn) (Or.inl (Nat.lt_of_lt_of_le (Array.getElem?_eq_some_iff.1 ho).1 hs)),fun k hS=>(h.own k (((hk.ofWithL (Nat.le_refl _)).det hD hm k).1 hS)).imp id (fun h2=>⟨h2.1,Nat.lt_of_lt_of_le h2.2 hk.size⟩)⟩
theorem KO.cell {l:Nat}{S:World→Nat→Prop}{W W':World} (h:KO l S W W') {b o:Nat}{v:Value} (hc:W.cell? ⟨b,o,none⟩=some v) (hl:b ≠ l) (hn:¬ S W b):W'.cell? ⟨b,o,none⟩=some v:=by
 have hlt:=World.block_lt_of_cell? W _ hc
 have ho:W.heap[b]?=some W.heap[b]:=Array.getElem?_eq_getElem hlt
 rw [cell_same ((h.keep b _ ho hl hn).trans ho.symm)]
 exact hc
structure ShutX (Ds:List Nat) (W W':World):Prop where
 os:W'.os=W.os
 tape:W'.tape=W.tape
 output:W'.output=W.output
 size:W.heap.size≤W'.heap.size
 other:∀ k,k ∉ Ds→W'.heap[k]?=W.heap[k]?
theorem leaves_marksX {F:Fence}{n:Nat}{P:Program}{fn:Func}{tmps:Array Value}{R:Ending→World→Prop} (lo:Nat):∀ (Ds:List Nat) (W:World),Marks W lo Ds →
  (∀ W',ShutX Ds W W'→LeavesIn F n P fn tmps R [] .returning W')→LeavesInM F n P fn tmps R (marksOf Ds) .returning W:=by
 intro Ds
 induction Ds with
 | nil=>exact fun W _ h=>h W ⟨rfl,rfl,rfl,Nat.le_refl _,fun _ _=>rfl⟩
 | cons D Ds ih =>
  rintro W ⟨hn,hall⟩ h
  obtain ⟨hlo,hD⟩:=hall D (by simp)
  have hn':=List.nodup_cons.1 hn
  refine ⟨by simp,.inl ⟨D,_,rfl,run_takeDeferred hD,ih _ ⟨hn'.2,fun E hE=>?_⟩ fun W' hS=>h W' ⟨hS.os,hS.tape,hS.output,?_,fun k hk=>?_⟩⟩⟩
  ·obtain ⟨h1,h2⟩:=hall E (List.mem_cons_of_mem _ hE)
   refine ⟨h1,?_⟩
   rw [heap_putObj_other _ _ _ _ (fun e=>hn'.1 (by rw [← e];exact hE))]
   exact h2
  ·refine Nat.le_trans ?_ hS.size
   simp [World.putObj]
  ·rw [List.mem_cons,not_or] at hk
   rw [hS.other k hk.2,heap_putObj_other _ _ _ _ hk.1]
theorem ShutX.ki {Ds:List Nat}{s:Nat}{S:World→Nat→Prop}{W W':World} (h:ShutX Ds W W') (h1:∀ D ∈ Ds,s≤D∧¬ S W D):KI s S W W':=
 ⟨h.os,h.tape,h.output,h.size,fun k o hk hor=>(h.other k (fun hm=>by
  rcases hor with h2 | h2
  ·have:=(h1 k hm).1;omega
  ·exact (h1 k hm).2 h2)).trans hk⟩
attribute [local go_sem] Oper.semAt_some
theorem fromOneO_in {ss:List Stp}{b off cap:Nat} (n l B1 B2 m:Nat) (S:World→Nat→Prop) (N:Nat) (st:Int) (J Jx:List { x:Stp // x ∈ ss∧GS st N x }→World→Prop) (W:World)
  (hY:∀ (pre:List { x:Stp // x ∈ ss∧GS st N x }) (x:{ x:Stp // x ∈ ss∧GS st N x }) (W1:World),J pre W1→pre.length < ss.length→W.heap.size≤W1.heap.size→YieldAt Fence.wide (n - 1) Tryz.prog l #[.agg #[.int .i64 x.1.f,.int .i64 x.1.l,.int .i64 x.1.t]] W1 fun e W' =>
   (e=.returned (.bool true)∧J (pre ++ [x]) W'∧KO l S W1 W') ∨ (e=.returned (.bool false)∧Jx (pre ++ [x]) W'∧KO l S W1 W'))
  (hD:Det m S) (hJ:∀ pre A B,J pre A→W.heap.size≤A.heap.size→KI W.heap.size S A B→J pre B) (hm:m≤W.heap.size) (hB1:W.cell? ⟨B1,4,none⟩=some (.slice (some ⟨b,off,none⟩) ss.length cap)) (hB2:W.cell? ⟨B2,0,none⟩=some (.int .i64 st)) (hb2:B2 ≠ l∧¬ S W B2) (hbs:b ≠ l∧¬ S W b)
  (hlen:ss.length≤1000000000) (hcap:ss.length≤cap) (hc:∀ i,i < ss.length→W.cell? ⟨b,off+i * 3,none⟩=some (.int .i64 (ss.getD i stp0).f)∧W.cell? ⟨b,off+i * 3+1,none⟩=some (.int .i64 (ss.getD i stp0).l)∧W.cell? ⟨b,off+i * 3+2,none⟩=some (.int .i64 (ss.getD i stp0).t))
  (hmono:∀ i j,i≤j→j < ss.length→(ss.getD i stp0).f≤(ss.getD j stp0).f) (hgs:∀ x,x ∈ ss→x.f=st→GS st N x) (h0:J [] W) :
  CallsIn Fence.wide n Tryz.prog 150 #[.func (.yield l) #[] #[],.pointer (some ⟨B1,0,none⟩),.pointer (some ⟨B2,0,none⟩)] W fun e W'=>(∃ v,e=.returned v) ∧
   ((∃ xs,(xs.map (·.1))=ss.filter (fun x=>decide (x.f=st))∧J xs W') ∨ (∃ pre,Jx pre W')):=by
 have HS:=hide (bsf_go ss b off cap st W (by omega) hc hmono)
 refine callsIn_of_wp Tryz.func150 rfl trivial ?_ rfl
 simp only [Tryz.ntmps150,List.size_toArray,List.length_cons,List.length_nil,Nat.reduceAdd,Nat.reduceSub,Array.replicate_succ,Array.replicate_zero,List.push_toArray,List.append_toArray,List.nil_append,List.cons_append]
 have Hc:=hide hc
 have HY:=hide hY
 have Hgs:=hide hgs
 have HJ:=hide hJ
 clear hc hY hgs hJ
 gi_wp2_with (fail)
 refine ⟨trivial,fun h=>by simp [Fence.wide] at h,(callsIn_wide.2 HS.out).mono ?_⟩
 rintro e w1 ⟨k0,q0,rfl,hk0,hlo,hhi,hb1⟩
 have Hlo:=hide hlo
 have Hhi:=hide hhi
 clear hlo hhi
 have x1:w1.cell? ⟨B1,4,none⟩=some (.slice (some ⟨b,off,none⟩) ss.length cap):=(hb1.cell (World.block_lt_of_cell? W _ hB1)).trans hB1
 have hK1:KO l S W w1:=KO.of_below hD hm hb1
 have hJ1:J [] w1:=HJ.out [] W w1 h0 (Nat.le_refl _) (KI.of_below hb1)
 have HJ1:=hide hJ1
 clear hJ1 h0 HS
 have Hmo:=hide hmono
 clear hmono
 by_cases hkl:k0 < ss.length
 ·have hne:¬ cap=k0:=by omega
  have hne2:¬ k0=cap:=by omega
  have hle0:k0≤cap:=by omega
  gi_wp2_with (fail)
  gi_loopw [20] (fun iv wr=>∃ i:Nat,iv=.int .i64 i∧k0+i≤ss.length∧(∃ pre,pre.map (·.1)=(ss.drop k0).take i∧J pre wr)∧(∀ j,k0≤j→j < k0+i→(ss.getD j stp0).f=st)∧KO l S W wr) (fun iv _=>ss.length - k0 - (intOf iv).toNat)
  case atStart=>exact ⟨0,rfl,by omega,⟨[],by simp,HJ1.out⟩,(fun j h1 h2=>by omega),hK1⟩
  case round =>
   obtain ⟨i,rfl,hi,⟨pre,hpre,hJp⟩,hall,hK⟩:=hrel
   have Hpre:=hide hpre
   have HJp:=hide hJp
   have Hall:=hide hall
   clear hpre hJp hall
   by_cases hil:k0+i < ss.length
   ·have hil2:i < ss.length - k0:=by omega
    obtain ⟨d0,d1,d2⟩:=Hc.out (k0+i) hil
    have ea:off+(k0+i) * 3=off+k0 * 3+i * 3:=by omega
    rw [ea] at d0 d1 d2
    replace d0:=hK.cell d0 hbs.1 hbs.2
    replace d1:=hK.cell d1 hbs.1 hbs.2
    replace d2:=hK.cell d2 hbs.1 hbs.2
    have y2:wr.cell? ⟨B2,0,none⟩=some (.int .i64 st):=hK.cell hB2 hb2.1 hb2.2
    generalize hx:ss.getD (k0+i) stp0=x at *
    have Hx:=hide hx
    clear hx
    have hxm:x ∈ ss:=by
     rw [← Hx.out,stp_getD _ _ hil]
     exact List.getElem_mem _
    have Hxm:=hide hxm
    clear hxm
    have hlb:B2 < wr.heap.size:=World.block_lt_of_cell? _ _ y2
    by_cases hfs:x.f=st
    ·have hd:(x.f != st)=false:=by simp [hfs]
     have Hfs:=hide hfs
     clear hfs
     have hlt':pre.length < ss.length:=by
      have:=congrArg List.length Hpre.out
      simp at this
      omega
     have hJa:J pre (wr.alloc (Obj.cells #[Value.int .i64 x.f,.int .i64 x.l,.int .i64 x.t] 88)):=HJ.out pre wr _ HJp.out hK.size (KI.of_below (below_new wr _))
     obtain ⟨fn,tmps,assign,body,hy,hR⟩:=HY.out pre ⟨x,Hxm.out,Hgs.out x Hxm.out Hfs.out⟩ _ hJa hlt' (by have:=hK.size;simp;omega)
     dsimp only at hy
     have HR:=hide hR
     clear hR
     gi_wp2_with (fail)
     refine ⟨fun h=>by simp [Fence.wide] at h,HR.out.mono ?_⟩
     rintro e W3 (⟨rfl,hJ3,hk3⟩ | ⟨rfl,hJx3,-⟩)
     ·have HJ3:=hide hJ3
      clear hJ3
      have hk4:KO l S W W3:=(hK.trans (KO.of_below hD (Nat.le_trans hm hK.size) (below_new wr _))).trans hk3
      gi_wp2
      go_roundw
      case rel =>
       refine ⟨i+1,by go_num,by omega,⟨pre ++ [⟨x,Hxm.out,Hgs.out x Hxm.out Hfs.out⟩],?_,HJ3.out⟩,fun j h1 h2=>?_,hk4⟩
       ·rw [take_snoc_getD ss k0 i hil,Hx.out,List.map_append,Hpre.out]
        rfl
       ·by_cases hj:j=k0+i
        ·subst hj;rw [Hx.out];exact Hfs.out
        ·exact Hall.out j h1 (by omega)
      case measure=>simp [intOf];omega
     ·have HJx3:=hide hJx3
      clear hJx3
      gi_wp2
      refine bodyPost_ret (results_none rfl _ _ _) rfl ?_
      exact ⟨⟨_,rfl⟩,.inr ⟨_,HJx3.out⟩⟩
    ·have hd:(x.f != st)=true:=by simp [hfs]
     have Hfs:=hide hfs
     clear hfs
     gi_wp2
     refine ⟨fun _ h=>(by cases h),?_⟩
     gi_wp2
     refine bodyPost_ret (results_none rfl _ _ _) rfl ?_
     refine ⟨⟨_,rfl⟩,.inl ⟨pre,?_,HJ.out pre wr _ HJp.out hK.size (KI.of_below (below_new wr _))⟩⟩
     rw [Hpre.out]
     refine (from_filter ss st k0 i Hlo.out Hall.out (fun j h1 h2=>?_) hi).symm
     have h3:=Hmo.out (k0+i) j h1 h2
     have h4:=Hhi.out (k0+i) (by omega) hil
     rw [Hx.out] at h3 h4
     have h5:x.f ≠ st:=Hfs.out
     omega
   ·gi_wp2
    go_end0
    refine ⟨⟨_,rfl⟩,.inl ⟨pre,?_,HJp.out⟩⟩
    rw [Hpre.out]
    exact (from_filter ss st k0 i Hlo.out Hall.out (fun j h1 h2=>by omega) hi).symm
 ·have hke:k0=ss.length:=by omega
  subst hke
  have hfin:([]:List { x:Stp // x ∈ ss∧GS st N x }).map (·.1)=ss.filter (fun x=>decide (x.f=st)):=by
   rw [from_filter ss st ss.length 0 Hlo.out (fun j h1 h2=>by omega) (fun j h1 h2=>by omega) (by omega)]
   simp
  have Hfin:=hide hfin
  clear hfin
  gi_wp2_with (fail)
  all_goals
   refine wpIn_loop_rounds 1 ?_
   rw [roundsIn_succ]
   gi_wp2
   go_end0
   exact ⟨⟨_,rfl⟩,.inl ⟨[],Hfin.out,HJ1.out⟩⟩
def FromC (B1 B2:Nat) (a:Option Addr) (ss:List Stp) (k:Nat):Prop:=k=B1 ∨ k=B2 ∨ (ss ≠ []∧∃ b off,a=some ⟨b,off,none⟩∧k=b)
theorem fromSeqO {ss:List Stp}{a:Option Addr}{cap:Nat} (n B1 B2:Nat) (N:Nat) (st:Int) (w0:World) (hB1:w0.cell? ⟨B1,4,none⟩=some (.slice a ss.length cap)) (hB2:w0.cell? ⟨B2,0,none⟩=some (.int .i64 st))
  (hS:StepSl w0 (.slice a ss.length cap) ss) (hlen:ss.length≤1000000000)
  (hmono:∀ i j,i≤j→j < ss.length→(ss.getD i stp0).f≤(ss.getD j stp0).f) (hgs:∀ x,x ∈ ss→x.f=st→GS st N x) :
  SeqO n Tryz.prog 150 #[.pointer (some ⟨B1,0,none⟩),.pointer (some ⟨B2,0,none⟩)] (fun x:{ x:Stp // x ∈ ss∧GS st N x }=>#[.agg #[.int .i64 x.1.f,.int .i64 x.1.l,.int .i64 x.1.t]]) (FromC B1 B2 a ss)
   (fun xs=>xs.map (·.1)=ss.filter (fun x=>decide (x.f=st))) ss.length w0:=by
 intro l S m J Jx W hb hD hm hC hl0 hlW hSl hSW hJ hJx hY h0
 have hx1:=(hb.cell (World.block_lt_of_cell? w0 _ hB1)).trans hB1
 have hx2:=(hb.cell (World.block_lt_of_cell? w0 _ hB2)).trans hB2
 have hl2:B2 ≠ l:=by have:=World.block_lt_of_cell? w0 _ hB2;dsimp only at this;omega
 have hSw:=hS
 have hS':=hS.below hb
 obtain ⟨a',cap',e,_,hz,hn,hcap⟩:=hS'
 cases e
 show CallsIn Fence.wide n Tryz.prog 150 #[.func (.yield l) #[] #[],.pointer (some ⟨B1,0,none⟩),.pointer (some ⟨B2,0,none⟩)] W _
 by_cases hnil:ss=[]
 ·subst hnil
  refine (fromZero_in (N:=N) hn n l B1 B2 st (fun _ W=>J [] W) W hx1 hx2 h0).mono ?_
  rintro e W' ⟨hv,hj⟩
  exact ⟨hv,.inl ⟨[],rfl,hj⟩⟩
 ·rcases hz with rfl | ⟨b,off,rfl,hc⟩
  ·exact absurd rfl hnil
  ·have hbl:b < w0.heap.size:=by
    obtain ⟨a',cap',e,_,hz,_⟩:=hSw
    cases e
    rcases hz with rfl | ⟨b',off',e,hc'⟩
    ·exact absurd rfl hnil
    ·cases e
     exact World.block_lt_of_cell? w0 _ (hc' 0 (List.length_pos_iff.2 hnil)).1
   refine (fromOneO_in n l B1 B2 m S N st J Jx W (fun pre x W1 h1 h2 h3=>hY pre x W1 h1 h2 h3) hD hJ hm hx1 hx2 ⟨hl2,hC B2 (.inr (.inl rfl))⟩ ⟨by omega,hC b (.inr (.inr ⟨hnil,b,off,rfl,rfl⟩))⟩ hlen hcap hc hmono hgs h0).mono ?_
   rintro e W' ⟨hv,h⟩
   exact ⟨hv,h⟩
end Go.Proofs.YtpiacnnifdjlkabGreatDoor
