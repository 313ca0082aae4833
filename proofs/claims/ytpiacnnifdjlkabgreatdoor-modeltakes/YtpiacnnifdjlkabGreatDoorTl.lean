import Derived.Test.YtpiacnnifdjlkabGreatDoorNa
import Derived.Test.YtpiacnnifdjlkabGreatDoorNd
import Derived.Test.YtpiacnnifdjlkabGreatDoorTc
set_option maxRecDepth 100000
set_option maxHeartbeats 8000000
namespace Go.Proofs.YtpiacnnifdjlkabGreatDoor
open Go.RowKit Go.Sort
attribute [local go_sem] Oper.semAt_some
def rowP (F:List Nd) (s:Spo) (c:Nat) (l:List Nat):List (Int × Spo):=(l.filter fun told=>fitsL F s (nowL F (c:Nat) told)).map fun told=>((c:Int),(false,told,turnL F s.2.2 (nowL F (c:Nat) told)))
def afterC (F:List Nd) (s:Spo) (c:Nat):List (Int × Spo):=(List.range c).flatMap fun c=>rowP F s c (partsL (foreL F))
theorem afterC_all (F:List Nd) (s:Spo):afterC F s 8=afterT F s:=rfl
theorem afterC_next (F:List Nd) (s:Spo) (c:Nat):afterC F s (c+1)=afterC F s c ++ rowP F s c (partsL (foreL F)):=by
 unfold afterC
 rw [List.range_succ,List.flatMap_append]
 simp
theorem rowP_yes {F:List Nd}{s:Spo}{c:Nat}{l:List Nat}{t:Nat} (h:fitsL F s (nowL F (c:Nat) t)=true):rowP F s c (l ++ [t])=rowP F s c l ++ [((c:Int),(false,t,turnL F s.2.2 (nowL F (c:Nat) t)))]:=by
 unfold rowP
 rw [List.filter_append,List.map_append]
 simp [h]
theorem rowP_no {F:List Nd}{s:Spo}{c:Nat}{l:List Nat}{t:Nat} (h:fitsL F s (nowL F (c:Nat) t)=false):rowP F s c (l ++ [t])=rowP F s c l:=by
 unfold rowP
 rw [List.filter_append,List.map_append]
 simp [h]
structure AI {α:Type} (l:Nat) (S:World→Nat→Prop) (J:List α→World→Prop) (val:α→Int × Spo) (W:World) (Ds:List Nat) (had:List (Int × Spo)) (most:Nat) (A:World):Prop where
 has:∃ pre:List α,pre.map val=had∧pre.length≤most∧J pre A
 ko:KO l S W A
 by_:A.heap[W.heap.size]?=some (.cells #[.func (.yield l) #[] #[]] 174)
 mks:Marks A (W.heap.size+1) Ds
 not:∀ k ∈ W.heap.size :: Ds,¬ S A k
theorem AI.ki {α:Type}{l m s:Nat}{S:World→Nat→Prop}{J:List α→World→Prop}{val:α→Int × Spo}{W A B:World}{Ds:List Nat}{had:List (Int × Spo)}{most:Nat} (h:AI l S J val W Ds had most A) (hJ:∀ pre A B,J pre A→W.heap.size≤A.heap.size→KI W.heap.size S A B→J pre B) (hD:Det m S) (hm:m≤W.heap.size) (hs:W.heap.size+1≤s) (hDs:∀ D ∈ Ds,D < s) (hk:KI s (withL S l) A B):AI l S J val W Ds had most B:=by
 have hd:=(hk.ofWithL (Nat.le_refl _)).det hD (Nat.le_trans hm h.ko.size)
 obtain ⟨pre,h1,h2,h3⟩:=h.has
 refine ⟨⟨pre,h1,h2,hJ pre A B h3 h.ko.size (hk.ofWithL (by omega))⟩,h.ko.thenKI hD (Nat.le_trans hm h.ko.size) (by omega) hk,hk.keep _ _ h.by_ (Or.inl (by omega)),⟨h.mks.1,fun D hD'=>⟨(h.mks.2 D hD').1,hk.keep _ _ (h.mks.2 D hD').2 (Or.inl (hDs D hD'))⟩⟩,fun k hk' hS=>h.not k hk' ((hd k).1 hS)⟩
theorem AI.lt {α:Type}{l:Nat}{S:World→Nat→Prop}{J:List α→World→Prop}{val:α→Int × Spo}{W A:World}{Ds:List Nat}{had:List (Int × Spo)}{most:Nat} (h:AI l S J val W Ds had most A):∀ D ∈ Ds,D < A.heap.size:=fun D hD=>(Array.getElem?_eq_some_iff.1 (h.mks.2 D hD).2).1
theorem AI.below {α:Type}{l m:Nat}{S:World→Nat→Prop}{J:List α→World→Prop}{val:α→Int × Spo}{W A B:World}{Ds:List Nat}{had:List (Int × Spo)}{most:Nat} (h:AI l S J val W Ds had most A) (hJ:∀ pre A B,J pre A→W.heap.size≤A.heap.size→KI W.heap.size S A B→J pre B) (hD:Det m S) (hm:m≤W.heap.size) (hb:Below A.heap.size A B):AI l S J val W Ds had most B:=
 h.ki hJ hD hm (s:=A.heap.size) (by have:=(Array.getElem?_eq_some_iff.1 h.by_).1;omega) h.lt (KI.of_below hb)
theorem AI.in_ {α:Type}{l:Nat}{S:World→Nat→Prop}{J:List α→World→Prop}{val:α→Int × Spo}{W A:World}{Ds:List Nat}{had:List (Int × Spo)}{most:Nat} (h:AI l S J val W Ds had most A) (hSw:∀ k,S W k→k < W.heap.size):∀ k,S A k→k < A.heap.size:=fun k hk=>by
 have h1:=h.ko.size
 rcases h.ko.own k hk with h2 | h2
 ·have:=hSw k h2;omega
 ·exact h2.2
theorem afterSeq {F:List Nd} (hF:RdOk F) (s:Spo) (ht:s.2.1 < 65536) (hu:s.2.2≤(lastL F).length) (h16:(partsL (foreL F)).length≤16) (br bs:Nat) (fv lv:Value) (w0:World) (hr:w0.heap[br]?=some (.cells #[fv,.int .u16 (foreL F:Nat),lv] 107)) (hsx:w0.heap[bs]?=some (.cells #[.bool s.1,.int .u16 s.2.1,.int .i64 s.2.2] 111))
  (hv:NodeSl w0 fv F) (hl:IntSl w0 lv ((lastL F).map fun (i:Nat)=>(i:Int))) (C:Nat→Prop) (hCr:C br) (hCs:C bs) (hCf:∀ a n c,fv=.slice (some a) n c→C a.block∧a.block < w0.heap.size) (hCl:∀ a n c,lv=.slice (some a) n c→C a.block∧a.block < w0.heap.size) (N:Nat) (hN:128≤N) :
  SeqO 19 Tryz.prog 117 #[.pointer (some ⟨br,0,none⟩),.pointer (some ⟨bs,0,none⟩)] (fun p:{ p:Int × Spo // p ∈ afterT F s }=>#[.int .i64 p.1.1,spV p.1.2]) C (fun xs=>xs.map (·.1)=afterT F s) N w0:=by
 intro l S m J Jx W hb0 hD hm hC hl0 hlW hSl hSw hJ hJx hY h0
 show CallsIn Fence.wide 19 Tryz.prog 117 #[.func (.yield l) #[] #[],.pointer (some ⟨br,0,none⟩),.pointer (some ⟨bs,0,none⟩)] W _
 have hrl:br ≠ l:=by have:=(Array.getElem?_eq_some_iff.1 hr).1;omega
 have hsl:bs ≠ l:=by have:=(Array.getElem?_eq_some_iff.1 hsx).1;omega
 have HrW:=hide (belowRow hb0 hr)
 have HsW:=hide (belowRow hb0 hsx)
 have HfW:=hide (hv.below hb0)
 have HlW:=hide (hl.below hb0)
 have HSr:=hide (hC br hCr)
 have HSs:=hide (hC bs hCs)
 have HSf:=hide (show ∀ a n c,fv=.slice (some a) n c→a.block ≠ l∧¬ S W a.block from fun a n c e=>⟨by have:=(hCf a n c e).2;omega,hC _ (hCf a n c e).1⟩)
 have HSl:=hide (show ∀ a n c,lv=.slice (some a) n c→a.block ≠ l∧¬ S W a.block from fun a n c e=>⟨by have:=(hCl a n c e).2;omega,hC _ (hCl a n c e).1⟩)
 have HJ:=hide hJ
 have HJx:=hide hJx
 have HY:=hide hY
 have HDt:=hide hD
 have HSw:=hide hSw
 have HSlo:=hide hSl
 have hfo:=foreL_lt hF
 have HA0:=hide (show AI l S J (·.1) W [] (afterC F s 0) (16 * 0) (W.alloc (Obj.cells #[.func (.yield l) #[] #[]] 174)) from
  ⟨⟨[],rfl,Nat.zero_le _,hJ [] W _ h0 (Nat.le_refl _) (KI.of_below (below_new _ _))⟩,KO.of_below hD hm (below_new _ _),one_new _ _,⟨List.nodup_nil,fun D h=>by cases h⟩,fun k hk hS=>by
   have e:k=W.heap.size:=by simpa using hk
   have:=hSw k (((KI.of_below (s:=0) (S:=S) (below_new W (Obj.cells #[.func (.yield l) #[] #[]] 174))).det hD hm k).1 hS)
   omega⟩)
 generalize hfe:foreL F=fo at *
 have Hfe:=hide hfe
 clear hr hsx hv hl hCf hCl hCr hCs hJ hJx hY hSw hSl hC hb0 hfe hD h0
 refine callsIn_of_wp_marks Tryz.func117 rfl trivial ?_ rfl
 simp only [Tryz.ntmps117,List.size_toArray,List.length_cons,List.length_nil,Nat.reduceAdd,Nat.reduceSub,Array.replicate_succ,Array.replicate_zero,List.push_toArray,List.append_toArray,List.nil_append,List.cons_append]
 refine wpIn_wide.2 ?_
 go_wp2_with (fail)
 refine wp_loop_ghost_k (fun gk a Wk=>∃ (c:Nat) (v4 v8 v9 v10 v11 v12 v35:Value) (Ds:List Nat),gk=8 - c∧c≤8∧a={ tmps:=#[.func (.yield l) #[] #[],.pointer (some ⟨br,0,none⟩),.pointer (some ⟨bs,0,none⟩),.pointer (some ⟨W.heap.size,0,none⟩),v4,undef,undef,.int .i64 (c:Nat),v8,v9,v10,v11,v12,undef,undef,undef,undef,undef,undef,undef,undef,undef,undef,undef,undef,undef,undef,undef,undef,undef,undef,undef,undef,undef,undef,v35],defers:=marksOf Ds }∧Hid (AI l S J (·.1) W Ds (afterC F s c) (16 * c) Wk)) (8 - 0) ?_ ?_
 ·exact ⟨0,undef,undef,undef,undef,undef,undef,undef,[],rfl,by omega,rfl,HA0⟩
 clear HA0
 rintro gk a Wk ⟨c,v4,v8,v9,v10,v11,v12,v35,Ds,rfl,hc8,rfl,HA⟩ Jq Kq hJq hKq
 by_cases hc:c < 8
 ·have hrk:=HA.out.ko.keep br _ HrW.out hrl HSr.out
  have r1:=cell_of_row _ _ 1 _ _ _ (belowRow (below_new Wk (Obj.cells #[.int .i64 (c:Nat)] 3)) hrk)
  clear hrk
  go_wp2_with (fail)
  go_fit (tParts fo _)
  rintro e w2 ⟨rfl,hw2⟩
  have hb2:=below_trans (below_new Wk (Obj.cells #[.int .i64 (c:Nat)] 3)) (below_new (Wk.alloc (Obj.cells #[.int .i64 (c:Nat)] 3)) (Obj.cells #[.int .u16 (fo:Nat)] 105))
  have hL2:=belowRow (below_new (Wk.alloc (Obj.cells #[.int .i64 (c:Nat)] 3)) (Obj.cells #[.int .u16 (fo:Nat)] 105)) (one_new Wk (Obj.cells #[.int .i64 (c:Nat)] 3))
  have hP2:=one_new (Wk.alloc (Obj.cells #[.int .i64 (c:Nat)] 3)) (Obj.cells #[.int .u16 (fo:Nat)] 105)
  have hz:(Wk.alloc (Obj.cells #[.int .i64 (c:Nat)] 3)).heap.size=Wk.heap.size+1:=by simp
  rw [hz] at hP2 ⊢
  rw [← hw2] at hb2 hL2 hP2
  clear hz hw2 r1
  have HA2:=hide (HA.out.below HJ.out HDt.out hm hb2)
  have HL2:=hide hL2
  have HP2:=hide hP2
  have HB2:=hide hb2
  clear hb2 hL2 hP2
  go_wp2_with (fail)
  have hWk:=HA.out.ko.size
  have hw2:=HB2.out.size
  have hby:W.heap.size < Wk.heap.size:=(Array.getElem?_eq_some_iff.1 HA.out.by_).1
  have hbp:Wk.heap.size+1 < w2.heap.size:=(Array.getElem?_eq_some_iff.1 HP2.out).1
  have HS2:=hide (show ∀ k,S w2 k→k < Wk.heap.size from fun k hk=>HA.out.in_ HSw.out k (((KI.of_below (s:=0) (S:=S) HB2.out).det HDt.out (by omega) k).1 hk))
  refine wpIn_wide.1 (range_own (n:=19) (w0:=w2) (gf:=160) (lb:=#[.pointer (some ⟨Wk.heap.size+1,0,none⟩)]) rfl (fun _ _=>rfl) (partsSeq 18 fo (Wk.heap.size+1) hfo w2 HP2.out) (withL S l) m (det_withL HDt.out) (by omega)
   (fun k hk h=>by rcases h with h | h;have:=HS2.out k h;omega;omega) (fun k h=>by rcases h with h | h;have:=HS2.out k h;omega;omega) (Below.refl _ _) (fun _=>rfl)
   (fun pre A=>AI l S J (·.1) W Ds (afterC F s c ++ rowP F s c (pre.map (·.1))) (16 * c+pre.length) A∧A.heap[Wk.heap.size]?=some (.cells #[.int .i64 (c:Nat)] 3)∧¬ S A Wk.heap.size)
   (fun q pre A=>q=.ret∧(∃ pre',Jx pre' A)∧Marks A (W.heap.size+1) Ds∧(∀ D ∈ Ds,¬ S A D)∧m≤A.heap.size∧W.heap.size≤A.heap.size) ?hI ?hIx ?start
   (fun x a' A=>a'={ tmps:=#[.func (.yield l) #[] #[],.pointer (some ⟨br,0,none⟩),.pointer (some ⟨bs,0,none⟩),.pointer (some ⟨W.heap.size,0,none⟩),.pointer (some ⟨Wk.heap.size,0,none⟩),.int .u16 (x.1:Nat),undef,.int .i64 (c:Nat),.bool true,.int .i64 (c:Nat),.pointer (some ⟨br,1,none⟩),.int .u16 (fo:Nat),.func (.func 160) #[] #[.pointer (some ⟨Wk.heap.size+1,0,none⟩)],.int .u16 (x.1:Nat),undef,undef,undef,undef,undef,undef,undef,undef,undef,undef,undef,undef,undef,undef,undef,undef,undef,undef,undef,undef,undef,v35],defers:=[] }) (fun _ _ _ _ _ _ _ _ h=>h) ?assign ?body ?done ?stop)
  case hI =>
   rintro pre A B ⟨h1,h2,h3⟩ hA hk
   have hd:=(hk.ofWithL (Nat.le_refl _)).det HDt.out (by omega)
   exact ⟨h1.ki HJ.out HDt.out hm (s:=w2.heap.size) (by omega) (fun D hD=>by have:=HA.out.lt D hD;omega) hk,hk.keep _ _ h2 (Or.inl (by omega)),fun h=>h3 ((hd _).1 h)⟩
  case hIx =>
   rintro q pre A B ⟨h1,⟨pre',h2⟩,h3,h4,h5,h6⟩ hA hk
   have hd:=(hk.ofWithL (Nat.le_refl _)).det HDt.out h5
   have hsz:=hk.size
   exact ⟨h1,⟨pre',HJx.out pre' A B h2 h6 (hk.ofWithL (by omega))⟩,⟨h3.1,fun D hD=>⟨(h3.2 D hD).1,hk.keep _ _ (h3.2 D hD).2 (Or.inl (by have:=HA.out.lt D hD;omega))⟩⟩,fun D hD h=>h4 D hD ((hd _).1 h),by omega,by omega⟩
  case start =>
   refine ⟨?_,HL2.out,fun h=>?_⟩
   ·have:=HA2.out
    simpa [rowP] using this
   ·have:=HS2.out _ h;omega
  case assign =>
   rintro q pre x A K' hi hsz hK'
   have HK':=hide hK'
   clear hK' hi
   gi_wp2
   exact HK'.out _ _ (Below.refl _ _) rfl
  case body =>
   rintro q pre ⟨t,htm⟩ a' A hq hlr hnq hsz ⟨h1,h2,h3⟩ rfl hlen
   have ht1:t &&& fo=t:=partsL_mem.1 htm
   have ht2:t < 65536:=Nat.lt_of_le_of_lt (by rw [← ht1];exact Nat.and_le_right) hfo
   have hrA:=h1.ko.keep br _ HrW.out hrl HSr.out
   have hsA:=h1.ko.keep bs _ HsW.out hsl HSs.out
   have hfA:=HfW.out.ko h1.ko HSf.out
   have hlA:=HlW.out.ko h1.ko HSl.out
   have r0:=cell_of_row _ _ 0 _ _ _ hrA
   have r1:=cell_of_row _ _ 1 _ _ _ hrA
   have r2:=cell_of_row _ _ 2 _ _ _ hrA
   have c0:=cell_of_row _ _ 0 _ _ _ h2
   have HN:=hide (tNow hF fv lv fo t (c:Int) A hfA (by omega) (by omega) ht2)
   generalize hQ2:postE (withL S l) _ _ (pre ++ [(⟨t,htm⟩:{ p:Nat // p ∈ partsL fo })]) A=Q2
   have HQn:=hide (show ∀ (a:Act) (W':World),KE (withL S l) A W'→AI l S J (·.1) W Ds (afterC F s c ++ rowP F s c (pre.map (·.1) ++ [t])) (16 * c+pre.length+1) W'→W'.heap[Wk.heap.size]?=some (.cells #[.int .i64 (c:Nat)] 3)→¬ S W' Wk.heap.size→Q2 .normal a W' by
    intro a W' k1 k2 k3 k4
    rw [← hQ2]
    exact ⟨k1,by rw [List.map_append,List.length_append];exact k2,k3,k4⟩)
   have HQr:=hide (show ∀ (a:Act) (W':World),KE (withL S l) A W'→(∃ pre',Jx pre' W')→Marks W' (W.heap.size+1) Ds→(∀ D ∈ Ds,¬ S W' D)→Q2 .ret a W' by
    intro a W' k1 k2 k3 k4
    rw [← hQ2]
    have:=k1.size
    exact ⟨k1,rfl,k2,k3,k4,by omega,by omega⟩)
   have HI:=hide (And.intro h1 (And.intro h2 h3))
   have HrA:=hide hrA
   have HsA:=hide hsA
   have HfA:=hide hfA
   have HlA:=hide hlA
   clear hQ2 h1 h2 h3 hrA hsA hfA hlA
   gi_wp2_with (fail)
   refine ⟨trivial,(CallsIn.inRound q (callsIn_wide.2 HN.out)).mono ?_⟩
   rintro e A2 ⟨rfl,hb2⟩
   have HB:=hide hb2
   clear hb2 HN r0 r1 r2 c0
   gi_wp2_with (fail)
   rename_i K hK
   have hnl:nowL F (c:Int) t < 65536:=nowN_lt F (c:Int) t F.length (by have:=hF.few;omega)
   have HFits:=hide (show ∀ W,Below A2.heap.size A2 W→Calls Tryz.prog 120 #[.agg #[fv,.int .u16 (fo:Nat),lv],.agg #[.bool s.1,.int .u16 s.2.1,.int .i64 s.2.2],.int .u16 (nowL F (c:Int) t:Nat)] W fun e w'=>e=.returned (.bool (fitsL F s (nowL F (c:Int) t)))∧Below W.heap.size W w' from fun W hW=>by
    have:=tFits hF fv lv s.1 s.2.1 s.2.2 (nowL F (c:Int) t) W ((HfA.out.below HB.out).below hW) (by obtain ⟨a,cp,e,_⟩:=HlA.out;exact ⟨_,_,_,e⟩) ht hnl
    rwa [Hfe.out] at this)
   cases hfit:fitsL F s (nowL F (c:Int) t) with
   | false =>
    rw [hfit] at HFits
    refine region_phases (lr:=some q) [(0,18),(1,19),(2,20),(3,21),(4,22),(5,23),(6,24),(7,25),(8,26),(9,27),(10,28),(11,29),(12,30),(13,31),(14,32),(15,33),(16,34)] (fun _ W=>Below A2.heap.size A2 W) (fun j v _=>match j with | 0=>v=.agg #[fv,.int .u16 (fo:Nat),lv] | 1=>v=.agg #[.bool s.1,.int .u16 s.2.1,.int .i64 s.2.2] | 2=>v=.int .u16 (nowL F (c:Int) t:Nat) | 3=>v=.bool false | 4=>v=.bool false | 16=>v=.bool false | _=>True) (by kernel_rfl) (by kernel_rfl) (by kernel_rfl) false ?hgd ?hsk [3] [] rfl (fun x hx=>by simp at hx;subst hx;exact ⟨by decide,Or.inr ⟨_,rfl,rfl⟩⟩) (by decide) (by kernel_rfl) ((Below.refl _ _).drew) ?hpure ?hspec ?hend
    case hgd =>
     intro i o j b ho hg
     match i,ho with
     | 0,ho =>
      obtain rfl:=Option.some.inj ho
      exact absurd hg (by simp)
     | 1,ho =>
      obtain rfl:=Option.some.inj ho
      exact absurd hg (by simp)
     | 2,ho =>
      obtain rfl:=Option.some.inj ho
      exact absurd hg (by simp)
     | 3,ho =>
      obtain rfl:=Option.some.inj ho
      exact absurd hg (by simp)
     | 4,ho =>
      obtain rfl:=Option.some.inj ho
      exact absurd hg (by simp)
     | 5,ho =>
      obtain rfl:=Option.some.inj ho
      obtain ⟨rfl,rfl⟩:4=j∧true=b:=by simpa using hg
      exact ⟨⟨22,by kernel_rfl⟩,fun v w h=>h⟩
     | 6,ho =>
      obtain rfl:=Option.some.inj ho
      obtain ⟨rfl,rfl⟩:4=j∧true=b:=by simpa using hg
      exact ⟨⟨22,by kernel_rfl⟩,fun v w h=>h⟩
     | 7,ho =>
      obtain rfl:=Option.some.inj ho
      obtain ⟨rfl,rfl⟩:4=j∧true=b:=by simpa using hg
      exact ⟨⟨22,by kernel_rfl⟩,fun v w h=>h⟩
     | 8,ho =>
      obtain rfl:=Option.some.inj ho
      obtain ⟨rfl,rfl⟩:4=j∧true=b:=by simpa using hg
      exact ⟨⟨22,by kernel_rfl⟩,fun v w h=>h⟩
     | 9,ho =>
      obtain rfl:=Option.some.inj ho
      obtain ⟨rfl,rfl⟩:4=j∧true=b:=by simpa using hg
      exact ⟨⟨22,by kernel_rfl⟩,fun v w h=>h⟩
     | 10,ho =>
      obtain rfl:=Option.some.inj ho
      obtain ⟨rfl,rfl⟩:4=j∧true=b:=by simpa using hg
      exact ⟨⟨22,by kernel_rfl⟩,fun v w h=>h⟩
     | 11,ho =>
      obtain rfl:=Option.some.inj ho
      obtain ⟨rfl,rfl⟩:4=j∧true=b:=by simpa using hg
      exact ⟨⟨22,by kernel_rfl⟩,fun v w h=>h⟩
     | 12,ho =>
      obtain rfl:=Option.some.inj ho
      obtain ⟨rfl,rfl⟩:4=j∧true=b:=by simpa using hg
      exact ⟨⟨22,by kernel_rfl⟩,fun v w h=>h⟩
     | 13,ho =>
      obtain rfl:=Option.some.inj ho
      obtain ⟨rfl,rfl⟩:4=j∧true=b:=by simpa using hg
      exact ⟨⟨22,by kernel_rfl⟩,fun v w h=>h⟩
     | 14,ho =>
      obtain rfl:=Option.some.inj ho
      obtain ⟨rfl,rfl⟩:4=j∧true=b:=by simpa using hg
      exact ⟨⟨22,by kernel_rfl⟩,fun v w h=>h⟩
     | 15,ho =>
      obtain rfl:=Option.some.inj ho
      obtain ⟨rfl,rfl⟩:4=j∧true=b:=by simpa using hg
      exact ⟨⟨22,by kernel_rfl⟩,fun v w h=>h⟩
     | 16,ho =>
      obtain rfl:=Option.some.inj ho
      exact absurd hg (by simp)
     | i+17,ho=>exact absurd ho (by simp)
    case hsk =>
     intro _ i o g ho hg w
     match i,ho with
     | 0,ho =>
      obtain rfl:=Option.some.inj ho
      exact absurd hg (by simp)
     | 1,ho =>
      obtain rfl:=Option.some.inj ho
      exact absurd hg (by simp)
     | 2,ho =>
      obtain rfl:=Option.some.inj ho
      exact absurd hg (by simp)
     | 3,ho =>
      obtain rfl:=Option.some.inj ho
      exact absurd hg (by simp)
     | 4,ho =>
      obtain rfl:=Option.some.inj ho
      exact absurd hg (by simp)
     | 5,ho =>
      trivial
     | 6,ho =>
      trivial
     | 7,ho =>
      trivial
     | 8,ho =>
      trivial
     | 9,ho =>
      trivial
     | 10,ho =>
      trivial
     | 11,ho =>
      trivial
     | 12,ho =>
      trivial
     | 13,ho =>
      trivial
     | 14,ho =>
      trivial
     | 15,ho =>
      trivial
     | 16,ho =>
      obtain rfl:=Option.some.inj ho
      exact absurd hg (by simp)
     | i+17,ho=>exact absurd ho (by simp)
    case hpure =>
     intro i o ho hni hor k hk hn hr a W vs hV he hd
     match i,ho with
     | 0,ho =>
      obtain rfl:=Option.some.inj ho
      have e1:a.tmps[1]?.getD undef=.pointer (some ⟨br,0,none⟩):=free_val he 1 (by kernel_rfl)
      have hrW:=belowRow hV (belowRow HB.out HrA.out)
      have z0:=cell_of_row _ _ 0 _ _ _ hrW
      have z1:=cell_of_row _ _ 1 _ _ _ hrW
      have z2:=cell_of_row _ _ 2 _ _ _ hrW
      exact Goes.value (v:=.agg #[fv,.int .u16 (fo:Nat),lv]) (by simp [execOp,go_sem,e1,z0,z1,z2]) ⟨hV,rfl,fun _ _ _ _ h=>h⟩
     | 1,ho =>
      obtain rfl:=Option.some.inj ho
      have e2:a.tmps[2]?.getD undef=.pointer (some ⟨bs,0,none⟩):=free_val he 2 (by kernel_rfl)
      have hsW:=belowRow hV (belowRow HB.out HsA.out)
      have z0:=cell_of_row _ _ 0 _ _ _ hsW
      have z1:=cell_of_row _ _ 1 _ _ _ hsW
      have z2:=cell_of_row _ _ 2 _ _ _ hsW
      exact Goes.value (v:=.agg #[.bool s.1,.int .u16 s.2.1,.int .i64 s.2.2]) (by simp [execOp,go_sem,e2,z0,z1,z2]) ⟨hV,rfl,fun _ _ _ _ h=>h⟩
     | 2,ho =>
      obtain rfl:=Option.some.inj ho
      have e6:a.tmps[6]?.getD undef=.int .u16 (nowL F (c:Int) t:Nat):=free_val he 6 (by kernel_rfl)
      exact Goes.value (v:=.int .u16 (nowL F (c:Int) t:Nat)) (by simp [execOp,go_sem,e6]) ⟨hV,rfl,fun _ _ _ _ h=>h⟩
     | 3,ho =>
      exact absurd (by simp) hni
     | 4,ho =>
      obtain rfl:=Option.some.inj ho
      have v3:a.tmps[21]?.getD undef=.bool false:=(eval_tmp a 21).symm.trans (((hd 3 (by kernel_rfl)).2 21 (by kernel_rfl)).trans (hd 3 (by kernel_rfl)).1)
      exact Goes.value (v:=.bool false) (by simp [execOp,go_sem,v3]) ⟨hV,rfl,fun _ _ _ _ h=>h⟩
     | 5,ho =>
      obtain rfl:=Option.some.inj ho
      exact absurd hor (by simp)
     | 6,ho =>
      obtain rfl:=Option.some.inj ho
      exact absurd hor (by simp)
     | 7,ho =>
      obtain rfl:=Option.some.inj ho
      exact absurd hor (by simp)
     | 8,ho =>
      obtain rfl:=Option.some.inj ho
      exact absurd hor (by simp)
     | 9,ho =>
      obtain rfl:=Option.some.inj ho
      exact absurd hor (by simp)
     | 10,ho =>
      obtain rfl:=Option.some.inj ho
      exact absurd hor (by simp)
     | 11,ho =>
      obtain rfl:=Option.some.inj ho
      exact absurd hor (by simp)
     | 12,ho =>
      obtain rfl:=Option.some.inj ho
      exact absurd hor (by simp)
     | 13,ho =>
      obtain rfl:=Option.some.inj ho
      exact absurd hor (by simp)
     | 14,ho =>
      obtain rfl:=Option.some.inj ho
      exact absurd hor (by simp)
     | 15,ho =>
      obtain rfl:=Option.some.inj ho
      exact absurd hor (by simp)
     | 16,ho =>
      obtain rfl:=Option.some.inj ho
      have v4:a.tmps[22]?.getD undef=.bool false:=(eval_tmp a 22).symm.trans (((hd 4 (by kernel_rfl)).2 22 (by kernel_rfl)).trans (hd 4 (by kernel_rfl)).1)
      exact Goes.value (v:=.bool false) (by simp [execOp,go_sem,v4]) ⟨hV,rfl,fun _ _ _ _ h=>h⟩
     | i+17,ho=>exact absurd ho (by simp)
    case hspec =>
     intro k o hk ho a W vs hV he hd
     obtain rfl:k=0:=by simp at hk;omega
     obtain rfl:=Option.some.inj ho
     have v0:a.tmps[18]?.getD undef=.agg #[fv,.int .u16 (fo:Nat),lv]:=(eval_tmp a 18).symm.trans (((hd 0 (by kernel_rfl)).2 18 (by kernel_rfl)).trans (hd 0 (by kernel_rfl)).1)
     have v1:a.tmps[19]?.getD undef=.agg #[.bool s.1,.int .u16 s.2.1,.int .i64 s.2.2]:=(eval_tmp a 19).symm.trans (((hd 1 (by kernel_rfl)).2 19 (by kernel_rfl)).trans (hd 1 (by kernel_rfl)).1)
     have v2:a.tmps[20]?.getD undef=.int .u16 (nowL F (c:Int) t:Nat):=(eval_tmp a 20).symm.trans (((hd 2 (by kernel_rfl)).2 20 (by kernel_rfl)).trans (hd 2 (by kernel_rfl)).1)
     refine Or.inr (Or.inl ⟨120,#[.agg #[fv,.int .u16 (fo:Nat),lv],.agg #[.bool s.1,.int .u16 s.2.1,.int .i64 s.2.2],.int .u16 (nowL F (c:Int) t:Nat)],by simp [execOp,go_sem,v0,v1,v2],(HFits.out W hV).mono ?_⟩)
     rintro e W' ⟨rfl,hb⟩
     exact ⟨_,rfl,below_trans hV hb,rfl,fun _ _ _ _ h=>h⟩
    case hend =>
     intro vs W' hV hRR
     have h16:vs 16=.bool false:=hRR 16 (by decide)
     refine hK _ _ ?_
     simp only [putPairs,List.setIfInBounds_toArray,List.set_cons_succ,List.set_cons_zero]
     rw [h16]
     have HE:=hide (below_trans HB.out hV)
     clear hRR h16 hV
     gi_wp2
     have hA3:=HI.out.1.below HJ.out HDt.out hm HE.out
     have hd3:=(KI.of_below (s:=0) (S:=S) HE.out).det HDt.out (by omega) Wk.heap.size
     refine HQn.out _ _ (KE.of_below (det_withL HDt.out) (by omega) HE.out) ?_ (belowRow HE.out HI.out.2.1) (fun h=>HI.out.2.2 (hd3.1 h))
     rw [rowP_no hfit]
     obtain ⟨pr,p1,p2,p3⟩:=hA3.has
     exact ⟨⟨pr,p1,by omega,p3⟩,hA3.ko,hA3.by_,hA3.mks,hA3.not⟩
   | true =>
    rw [hfit] at HFits
    have hmem:((c:Int),((false,t,turnL F s.2.2 (nowL F (c:Int) t)):Spo)) ∈ afterT F s:=afterT_mem.2 ⟨by omega,by omega,rfl,by rw [Hfe.out];exact ht1,hfit,rfl⟩
    have HTurn:=hide (show ∀ W,Below A2.heap.size A2 W→Calls Tryz.prog 121 #[.agg #[fv,.int .u16 (fo:Nat),lv],.int .i64 s.2.2,.int .u16 (nowL F (c:Int) t:Nat)] W fun e w'=>e=.returned (.int .i64 (turnL F s.2.2 (nowL F (c:Int) t):Nat))∧Below W.heap.size W w' from fun W hW=>tTurn hF fv lv fo s.2.2 (nowL F (c:Int) t) W ((HfA.out.below HB.out).below hW) ((HlA.out.below HB.out).below hW) hu hnl)
    obtain ⟨FinT,hFT⟩:∃ P:World→Prop,P=fun B=>AI l S J (·.1) W Ds (afterC F s c ++ rowP F s c (pre.map (·.1) ++ [t])) (16 * c+pre.length+1) B∧KE (withL S l) A B∧B.heap[Wk.heap.size]?=some (.cells #[.int .i64 (c:Nat)] 3)∧¬ S B Wk.heap.size:=⟨_,rfl⟩
    obtain ⟨FinF,hFF⟩:∃ P:World→Prop,P=fun B=>KE (withL S l) A B∧(∃ pre',Jx pre' B)∧Marks B (W.heap.size+1) Ds∧(∀ D ∈ Ds,¬ S B D):=⟨_,rfl⟩
    have HFT:=hide (show ∀ B,FinT B→AI l S J (·.1) W Ds (afterC F s c ++ rowP F s c (pre.map (·.1) ++ [t])) (16 * c+pre.length+1) B∧KE (withL S l) A B∧B.heap[Wk.heap.size]?=some (.cells #[.int .i64 (c:Nat)] 3)∧¬ S B Wk.heap.size from fun B h=>by rw [hFT] at h;exact h)
    have HFF:=hide (show ∀ B,FinF B→KE (withL S l) A B∧(∃ pre',Jx pre' B)∧Marks B (W.heap.size+1) Ds∧(∀ D ∈ Ds,¬ S B D) from fun B h=>by rw [hFF] at h;exact h)
    have HYield:=hide (show ∀ W3,Below A2.heap.size A2 W3→YieldAt Fence.wide 18 Tryz.prog l #[.int .i64 (c:Nat),.agg #[.bool false,.int .u16 (t:Nat),.int .i64 (turnL F s.2.2 (nowL F (c:Int) t):Nat)]] W3 fun e B=>(e=.returned (.bool true)∧FinT B) ∨ (e=.returned (.bool false)∧FinF B) from fun W3 hW3=>by
     have hb3:=below_trans HB.out hW3
     have hA3:=HI.out.1.below HJ.out HDt.out hm hb3
     obtain ⟨pr,p1,p2,p3⟩:=hA3.has
     have hsz3:=hA3.ko.size
     have hlet:=belowRow hb3 HI.out.2.1
     have hnle:¬ S W3 Wk.heap.size:=fun h=>HI.out.2.2 (((KI.of_below (s:=0) (S:=S) hb3).det HDt.out (by omega) _).1 h)
     have hke:=KE.of_below (S:=withL S l) (det_withL HDt.out) (show m≤A.heap.size by omega) hb3
     obtain ⟨fn,tm,asg,bd,hy,hR⟩:=HY.out pr ⟨_,hmem⟩ W3 p3 (by omega) hsz3
     refine ⟨fn,tm,asg,bd,hy,hR.mono ?_⟩
     rintro e B (⟨rfl,hJ3,hk3⟩ | ⟨rfl,hx3,hk3⟩)
     ·refine Or.inl ⟨rfl,?_⟩
      rw [hFT]
      refine ⟨⟨⟨pr ++ [⟨_,hmem⟩],?_,?_,hJ3⟩,hA3.ko.trans hk3,hk3.keep _ _ hA3.by_ (by omega) (hA3.not _ (by simp)),⟨hA3.mks.1,fun D hD=>⟨(hA3.mks.2 D hD).1,hk3.keep _ _ (hA3.mks.2 D hD).2 (by have:=(hA3.mks.2 D hD).1;omega) (hA3.not D (List.mem_cons_of_mem _ hD))⟩⟩,fun k hk=>?_⟩,hke.trans hk3.withL,hk3.keep _ _ hlet (by omega) hnle,hk3.not_own (Array.getElem?_eq_some_iff.1 hlet).1 hnle⟩
      ·rw [rowP_yes hfit,List.map_append,p1,List.append_assoc]
       rfl
      ·rw [List.length_append,List.length_singleton];omega
      ·refine hk3.not_own ?_ (hA3.not k hk)
       rcases List.mem_cons.1 hk with rfl | hk
       ·exact (Array.getElem?_eq_some_iff.1 hA3.by_).1
       ·exact hA3.lt k hk
     ·refine Or.inr ⟨rfl,?_⟩
      rw [hFF]
      exact ⟨hke.trans hk3.withL,⟨_,hx3⟩,⟨hA3.mks.1,fun D hD=>⟨(hA3.mks.2 D hD).1,hk3.keep _ _ (hA3.mks.2 D hD).2 (by have:=(hA3.mks.2 D hD).1;omega) (hA3.not D (List.mem_cons_of_mem _ hD))⟩⟩,fun D hD=>hk3.not_own (hA3.lt D hD) (hA3.not D (List.mem_cons_of_mem _ hD))⟩)
    clear hFT hFF
    refine region_phases (lr:=some q) [(0,18),(1,19),(2,20),(3,21),(4,22),(5,23),(6,24),(7,25),(8,26),(9,27),(10,28),(11,29),(12,30),(13,31),(14,32),(15,33),(16,34)] (fun k W=>k≤2→Below A2.heap.size A2 W) (fun j v W3=>match j with | 0=>v=.agg #[fv,.int .u16 (fo:Nat),lv] | 1=>v=.agg #[.bool s.1,.int .u16 s.2.1,.int .i64 s.2.2] | 2=>v=.int .u16 (nowL F (c:Int) t:Nat) | 3=>v=.bool true | 4=>v=.bool true | 5=>v=.func (.yield l) #[] #[] | 6=>v=.int .i64 (c:Nat) | 7=>v=.int .u16 (t:Nat) | 8=>v=.agg #[fv,.int .u16 (fo:Nat),lv] | 9=>v=.pointer (some ⟨bs,2,none⟩) | 10=>v=.int .i64 s.2.2 | 11=>v=.int .u16 (nowL F (c:Int) t:Nat) | 12=>v=.int .i64 (turnL F s.2.2 (nowL F (c:Int) t):Nat) | 13=>v=.agg #[.bool false,.int .u16 (t:Nat),.int .i64 (turnL F s.2.2 (nowL F (c:Int) t):Nat)] | 14=>(v=.bool true∧FinT W3) ∨ (v=.bool false∧FinF W3) | 15=>(v=.bool false∧FinT W3) ∨ (v=.bool true∧FinF W3) | 16=>(v=.bool false∧FinT W3) ∨ (v=.bool true∧FinF W3) | _=>True) (by kernel_rfl) (by kernel_rfl) (by kernel_rfl) true ?hgd (fun e=>by cases e) [3,12,14] [[4],[13]] rfl (fun x hx=>⟨by simp at hx;rcases hx with rfl | rfl | rfl <;> decide,Or.inl rfl⟩) (by decide) (by kernel_rfl) (fun _=>(Below.refl _ _).drew) ?hpure ?hspec ?hend
    case hgd =>
     intro i o j b ho hg
     match i,ho with
     | 0,ho =>
      obtain rfl:=Option.some.inj ho
      exact absurd hg (by simp)
     | 1,ho =>
      obtain rfl:=Option.some.inj ho
      exact absurd hg (by simp)
     | 2,ho =>
      obtain rfl:=Option.some.inj ho
      exact absurd hg (by simp)
     | 3,ho =>
      obtain rfl:=Option.some.inj ho
      exact absurd hg (by simp)
     | 4,ho =>
      obtain rfl:=Option.some.inj ho
      exact absurd hg (by simp)
     | 5,ho =>
      obtain rfl:=Option.some.inj ho
      obtain ⟨rfl,rfl⟩:4=j∧true=b:=by simpa using hg
      exact ⟨⟨22,by kernel_rfl⟩,fun v w h=>h⟩
     | 6,ho =>
      obtain rfl:=Option.some.inj ho
      obtain ⟨rfl,rfl⟩:4=j∧true=b:=by simpa using hg
      exact ⟨⟨22,by kernel_rfl⟩,fun v w h=>h⟩
     | 7,ho =>
      obtain rfl:=Option.some.inj ho
      obtain ⟨rfl,rfl⟩:4=j∧true=b:=by simpa using hg
      exact ⟨⟨22,by kernel_rfl⟩,fun v w h=>h⟩
     | 8,ho =>
      obtain rfl:=Option.some.inj ho
      obtain ⟨rfl,rfl⟩:4=j∧true=b:=by simpa using hg
      exact ⟨⟨22,by kernel_rfl⟩,fun v w h=>h⟩
     | 9,ho =>
      obtain rfl:=Option.some.inj ho
      obtain ⟨rfl,rfl⟩:4=j∧true=b:=by simpa using hg
      exact ⟨⟨22,by kernel_rfl⟩,fun v w h=>h⟩
     | 10,ho =>
      obtain rfl:=Option.some.inj ho
      obtain ⟨rfl,rfl⟩:4=j∧true=b:=by simpa using hg
      exact ⟨⟨22,by kernel_rfl⟩,fun v w h=>h⟩
     | 11,ho =>
      obtain rfl:=Option.some.inj ho
      obtain ⟨rfl,rfl⟩:4=j∧true=b:=by simpa using hg
      exact ⟨⟨22,by kernel_rfl⟩,fun v w h=>h⟩
     | 12,ho =>
      obtain rfl:=Option.some.inj ho
      obtain ⟨rfl,rfl⟩:4=j∧true=b:=by simpa using hg
      exact ⟨⟨22,by kernel_rfl⟩,fun v w h=>h⟩
     | 13,ho =>
      obtain rfl:=Option.some.inj ho
      obtain ⟨rfl,rfl⟩:4=j∧true=b:=by simpa using hg
      exact ⟨⟨22,by kernel_rfl⟩,fun v w h=>h⟩
     | 14,ho =>
      obtain rfl:=Option.some.inj ho
      obtain ⟨rfl,rfl⟩:4=j∧true=b:=by simpa using hg
      exact ⟨⟨22,by kernel_rfl⟩,fun v w h=>h⟩
     | 15,ho =>
      obtain rfl:=Option.some.inj ho
      obtain ⟨rfl,rfl⟩:4=j∧true=b:=by simpa using hg
      exact ⟨⟨22,by kernel_rfl⟩,fun v w h=>h⟩
     | 16,ho =>
      obtain rfl:=Option.some.inj ho
      exact absurd hg (by simp)
     | i+17,ho=>exact absurd ho (by simp)
    case hpure =>
     intro i o ho hni hor k hk hn hr a Wp vs hV0 he hd
     match i,ho with
     | 0,ho =>
      obtain rfl:=Option.some.inj ho
      have hk2:k≤2:=Nat.le_of_not_lt (fun h3=>by
       have:=hn 0 (by omega)
       rw [show needsB _ ([3,12,14].getD 0 0) 0=true from by kernel_rfl] at this
       cases this)
      have hV:=hV0 hk2
      have e1:a.tmps[1]?.getD undef=.pointer (some ⟨br,0,none⟩):=free_val he 1 (by kernel_rfl)
      have hrW:=belowRow hV (belowRow HB.out HrA.out)
      have z0:=cell_of_row _ _ 0 _ _ _ hrW
      have z1:=cell_of_row _ _ 1 _ _ _ hrW
      have z2:=cell_of_row _ _ 2 _ _ _ hrW
      exact Goes.value (v:=.agg #[fv,.int .u16 (fo:Nat),lv]) (by simp [execOp,go_sem,e1,z0,z1,z2]) ⟨hV0,rfl,fun _ _ _ _ h=>h⟩
     | 1,ho =>
      obtain rfl:=Option.some.inj ho
      have hk2:k≤2:=Nat.le_of_not_lt (fun h3=>by
       have:=hn 0 (by omega)
       rw [show needsB _ ([3,12,14].getD 0 0) 1=true from by kernel_rfl] at this
       cases this)
      have hV:=hV0 hk2
      have e2:a.tmps[2]?.getD undef=.pointer (some ⟨bs,0,none⟩):=free_val he 2 (by kernel_rfl)
      have hsW:=belowRow hV (belowRow HB.out HsA.out)
      have z0:=cell_of_row _ _ 0 _ _ _ hsW
      have z1:=cell_of_row _ _ 1 _ _ _ hsW
      have z2:=cell_of_row _ _ 2 _ _ _ hsW
      exact Goes.value (v:=.agg #[.bool s.1,.int .u16 s.2.1,.int .i64 s.2.2]) (by simp [execOp,go_sem,e2,z0,z1,z2]) ⟨hV0,rfl,fun _ _ _ _ h=>h⟩
     | 2,ho =>
      obtain rfl:=Option.some.inj ho
      have hk2:k≤2:=Nat.le_of_not_lt (fun h3=>by
       have:=hn 0 (by omega)
       rw [show needsB _ ([3,12,14].getD 0 0) 2=true from by kernel_rfl] at this
       cases this)
      have hV:=hV0 hk2
      have e6:a.tmps[6]?.getD undef=.int .u16 (nowL F (c:Int) t:Nat):=free_val he 6 (by kernel_rfl)
      exact Goes.value (v:=.int .u16 (nowL F (c:Int) t:Nat)) (by simp [execOp,go_sem,e6]) ⟨hV0,rfl,fun _ _ _ _ h=>h⟩
     | 3,ho =>
      exact absurd (by simp) hni
     | 4,ho =>
      obtain rfl:=Option.some.inj ho
      have hk2:k≤2:=Nat.le_of_not_lt (fun h3=>by
       have:=hn 1 (by omega)
       rw [show needsB _ ([3,12,14].getD 1 0) 4=true from by kernel_rfl] at this
       cases this)
      have hV:=hV0 hk2
      have v3:a.tmps[21]?.getD undef=.bool true:=(eval_tmp a 21).symm.trans (((hd 3 (by kernel_rfl)).2 21 (by kernel_rfl)).trans (hd 3 (by kernel_rfl)).1)
      exact Goes.value (v:=.bool true) (by simp [execOp,go_sem,v3]) ⟨hV0,rfl,fun _ _ _ _ h=>h⟩
     | 5,ho =>
      obtain rfl:=Option.some.inj ho
      have hk2:k≤2:=Nat.le_of_not_lt (fun h3=>by
       have:=hn 2 (by omega)
       rw [show needsB _ ([3,12,14].getD 2 0) 5=true from by kernel_rfl] at this
       cases this)
      have hV:=hV0 hk2
      have e3:a.tmps[3]?.getD undef=.pointer (some ⟨W.heap.size,0,none⟩):=free_val he 3 (by kernel_rfl)
      have z0:=cell_of_row _ _ 0 _ _ _ (belowRow hV (belowRow HB.out HI.out.1.by_))
      exact Goes.value (v:=.func (.yield l) #[] #[]) (by simp [execOp,go_sem,e3,z0]) ⟨hV0,rfl,fun _ _ _ _ h=>h⟩
     | 6,ho =>
      obtain rfl:=Option.some.inj ho
      have hk2:k≤2:=Nat.le_of_not_lt (fun h3=>by
       have:=hn 2 (by omega)
       rw [show needsB _ ([3,12,14].getD 2 0) 6=true from by kernel_rfl] at this
       cases this)
      have hV:=hV0 hk2
      have e4:a.tmps[4]?.getD undef=.pointer (some ⟨Wk.heap.size,0,none⟩):=free_val he 4 (by kernel_rfl)
      have z0:=cell_of_row _ _ 0 _ _ _ (belowRow hV (belowRow HB.out HI.out.2.1))
      exact Goes.value (v:=.int .i64 (c:Nat)) (by simp [execOp,go_sem,e4,z0]) ⟨hV0,rfl,fun _ _ _ _ h=>h⟩
     | 7,ho =>
      obtain rfl:=Option.some.inj ho
      have hk2:k≤2:=Nat.le_of_not_lt (fun h3=>by
       have:=hn 2 (by omega)
       rw [show needsB _ ([3,12,14].getD 2 0) 7=true from by kernel_rfl] at this
       cases this)
      have hV:=hV0 hk2
      have e5:a.tmps[5]?.getD undef=.int .u16 (t:Nat):=free_val he 5 (by kernel_rfl)
      exact Goes.value (v:=.int .u16 (t:Nat)) (by simp [execOp,go_sem,e5]) ⟨hV0,rfl,fun _ _ _ _ h=>h⟩
     | 8,ho =>
      obtain rfl:=Option.some.inj ho
      have hk2:k≤2:=Nat.le_of_not_lt (fun h3=>by
       have:=hn 1 (by omega)
       rw [show needsB _ ([3,12,14].getD 1 0) 8=true from by kernel_rfl] at this
       cases this)
      have hV:=hV0 hk2
      have e1:a.tmps[1]?.getD undef=.pointer (some ⟨br,0,none⟩):=free_val he 1 (by kernel_rfl)
      have hrW:=belowRow hV (belowRow HB.out HrA.out)
      have z0:=cell_of_row _ _ 0 _ _ _ hrW
      have z1:=cell_of_row _ _ 1 _ _ _ hrW
      have z2:=cell_of_row _ _ 2 _ _ _ hrW
      exact Goes.value (v:=.agg #[fv,.int .u16 (fo:Nat),lv]) (by simp [execOp,go_sem,e1,z0,z1,z2]) ⟨hV0,rfl,fun _ _ _ _ h=>h⟩
     | 9,ho =>
      obtain rfl:=Option.some.inj ho
      have hk2:k≤2:=Nat.le_of_not_lt (fun h3=>by
       have:=hn 1 (by omega)
       rw [show needsB _ ([3,12,14].getD 1 0) 9=true from by kernel_rfl] at this
       cases this)
      have hV:=hV0 hk2
      have e2:a.tmps[2]?.getD undef=.pointer (some ⟨bs,0,none⟩):=free_val he 2 (by kernel_rfl)
      exact Goes.value (v:=.pointer (some ⟨bs,2,none⟩)) (by simp [execOp,go_sem,e2]) ⟨hV0,rfl,fun _ _ _ _ h=>h⟩
     | 10,ho =>
      obtain rfl:=Option.some.inj ho
      have hk2:k≤2:=Nat.le_of_not_lt (fun h3=>by
       have:=hn 1 (by omega)
       rw [show needsB _ ([3,12,14].getD 1 0) 10=true from by kernel_rfl] at this
       cases this)
      have hV:=hV0 hk2
      have v9:a.tmps[27]?.getD undef=.pointer (some ⟨bs,2,none⟩):=(eval_tmp a 27).symm.trans (((hd 9 (by kernel_rfl)).2 27 (by kernel_rfl)).trans (hd 9 (by kernel_rfl)).1)
      have hsW:=belowRow hV (belowRow HB.out HsA.out)
      have z0:=cell_of_row _ _ 0 _ _ _ hsW
      have z1:=cell_of_row _ _ 1 _ _ _ hsW
      have z2:=cell_of_row _ _ 2 _ _ _ hsW
      exact Goes.value (v:=.int .i64 s.2.2) (by simp [execOp,go_sem,v9,z2]) ⟨hV0,rfl,fun _ _ _ _ h=>h⟩
     | 11,ho =>
      obtain rfl:=Option.some.inj ho
      have hk2:k≤2:=Nat.le_of_not_lt (fun h3=>by
       have:=hn 1 (by omega)
       rw [show needsB _ ([3,12,14].getD 1 0) 11=true from by kernel_rfl] at this
       cases this)
      have hV:=hV0 hk2
      have e6:a.tmps[6]?.getD undef=.int .u16 (nowL F (c:Int) t:Nat):=free_val he 6 (by kernel_rfl)
      exact Goes.value (v:=.int .u16 (nowL F (c:Int) t:Nat)) (by simp [execOp,go_sem,e6]) ⟨hV0,rfl,fun _ _ _ _ h=>h⟩
     | 12,ho =>
      exact absurd (by simp) hni
     | 13,ho =>
      obtain rfl:=Option.some.inj ho
      have hk2:k≤2:=Nat.le_of_not_lt (fun h3=>by
       have:=hn 2 (by omega)
       rw [show needsB _ ([3,12,14].getD 2 0) 13=true from by kernel_rfl] at this
       cases this)
      have hV:=hV0 hk2
      have v7:a.tmps[25]?.getD undef=.int .u16 (t:Nat):=(eval_tmp a 25).symm.trans (((hd 7 (by kernel_rfl)).2 25 (by kernel_rfl)).trans (hd 7 (by kernel_rfl)).1)
      have v12:a.tmps[30]?.getD undef=.int .i64 (turnL F s.2.2 (nowL F (c:Int) t):Nat):=(eval_tmp a 30).symm.trans (((hd 12 (by kernel_rfl)).2 30 (by kernel_rfl)).trans (hd 12 (by kernel_rfl)).1)
      exact Goes.value (v:=.agg #[.bool false,.int .u16 (t:Nat),.int .i64 (turnL F s.2.2 (nowL F (c:Int) t):Nat)]) (by simp [execOp,go_sem,v7,v12]) ⟨hV0,rfl,fun _ _ _ _ h=>h⟩
     | 14,ho =>
      exact absurd (by simp) hni
     | 15,ho =>
      obtain rfl:=Option.some.inj ho
      obtain ⟨hv,hd14⟩:=hd 14 (by kernel_rfl)
      have e14:=(eval_tmp a 32).symm.trans (hd14 32 (by kernel_rfl))
      rcases hv with ⟨hv,hf⟩ | ⟨hv,hf⟩
      ·rw [hv] at e14
       exact Goes.value (v:=.bool false) (by simp [execOp,go_sem,e14]) ⟨hV0,Or.inl ⟨rfl,hf⟩,fun _ _ _ _ h=>h⟩
      ·rw [hv] at e14
       exact Goes.value (v:=.bool true) (by simp [execOp,go_sem,e14]) ⟨hV0,Or.inr ⟨rfl,hf⟩,fun _ _ _ _ h=>h⟩
     | 16,ho =>
      obtain rfl:=Option.some.inj ho
      obtain ⟨hv,hd15⟩:=hd 15 (by kernel_rfl)
      have e15:=(eval_tmp a 33).symm.trans (hd15 33 (by kernel_rfl))
      have v4:a.tmps[22]?.getD undef=.bool true:=(eval_tmp a 22).symm.trans (((hd 4 (by kernel_rfl)).2 22 (by kernel_rfl)).trans (hd 4 (by kernel_rfl)).1)
      rcases hv with ⟨hv,hf⟩ | ⟨hv,hf⟩
      ·rw [hv] at e15
       exact Goes.value (v:=.bool false) (by simp [execOp,go_sem,e15,v4]) ⟨hV0,Or.inl ⟨rfl,hf⟩,fun _ _ _ _ h=>h⟩
      ·rw [hv] at e15
       exact Goes.value (v:=.bool true) (by simp [execOp,go_sem,e15,v4]) ⟨hV0,Or.inr ⟨rfl,hf⟩,fun _ _ _ _ h=>h⟩
     | i+17,ho=>exact absurd ho (by simp)
    case hspec =>
     intro k o hk ho a W vs hV0 he hd
     match k,ho with
     | 0,ho =>
      obtain rfl:=Option.some.inj ho
      have hV:=hV0 (by omega)
      have v0:a.tmps[18]?.getD undef=.agg #[fv,.int .u16 (fo:Nat),lv]:=(eval_tmp a 18).symm.trans (((hd 0 (by kernel_rfl)).2 18 (by kernel_rfl)).trans (hd 0 (by kernel_rfl)).1)
      have v1:a.tmps[19]?.getD undef=.agg #[.bool s.1,.int .u16 s.2.1,.int .i64 s.2.2]:=(eval_tmp a 19).symm.trans (((hd 1 (by kernel_rfl)).2 19 (by kernel_rfl)).trans (hd 1 (by kernel_rfl)).1)
      have v2:a.tmps[20]?.getD undef=.int .u16 (nowL F (c:Int) t:Nat):=(eval_tmp a 20).symm.trans (((hd 2 (by kernel_rfl)).2 20 (by kernel_rfl)).trans (hd 2 (by kernel_rfl)).1)
      refine Or.inr (Or.inl ⟨120,#[.agg #[fv,.int .u16 (fo:Nat),lv],.agg #[.bool s.1,.int .u16 s.2.1,.int .i64 s.2.2],.int .u16 (nowL F (c:Int) t:Nat)],by simp [execOp,go_sem,v0,v1,v2],(HFits.out W hV).mono ?_⟩)
      rintro e W' ⟨rfl,hb⟩
      exact ⟨_,rfl,fun _=>below_trans hV hb,rfl,fun j x hj hnj h=>by
       match j,hnj,h with
       | 0,hnj,h=>exact h
       | 1,hnj,h=>exact h
       | 2,hnj,h=>exact h
       | 3,hnj,h=>exact h
       | 4,hnj,h=>exact h
       | 5,hnj,h=>exact h
       | 6,hnj,h=>exact h
       | 7,hnj,h=>exact h
       | 8,hnj,h=>exact h
       | 9,hnj,h=>exact h
       | 10,hnj,h=>exact h
       | 11,hnj,h=>exact h
       | 12,hnj,h=>exact h
       | 13,hnj,h=>exact h
       | 14,hnj,h=>exact absurd hnj (by rw [show needsB _ 14 ([3,12,14].getD 0 0)=true from by kernel_rfl];simp)
       | 15,hnj,h=>exact absurd hnj (by rw [show needsB _ 15 ([3,12,14].getD 0 0)=true from by kernel_rfl];simp)
       | 16,hnj,h=>exact absurd hnj (by rw [show needsB _ 16 ([3,12,14].getD 0 0)=true from by kernel_rfl];simp)
       | j+17,hnj,h=>trivial
      ⟩
     | 1,ho =>
      obtain rfl:=Option.some.inj ho
      have hV:=hV0 (by omega)
      have v8:a.tmps[26]?.getD undef=.agg #[fv,.int .u16 (fo:Nat),lv]:=(eval_tmp a 26).symm.trans (((hd 8 (by kernel_rfl)).2 26 (by kernel_rfl)).trans (hd 8 (by kernel_rfl)).1)
      have v10:a.tmps[28]?.getD undef=.int .i64 s.2.2:=(eval_tmp a 28).symm.trans (((hd 10 (by kernel_rfl)).2 28 (by kernel_rfl)).trans (hd 10 (by kernel_rfl)).1)
      have v11:a.tmps[29]?.getD undef=.int .u16 (nowL F (c:Int) t:Nat):=(eval_tmp a 29).symm.trans (((hd 11 (by kernel_rfl)).2 29 (by kernel_rfl)).trans (hd 11 (by kernel_rfl)).1)
      refine Or.inr (Or.inl ⟨121,#[.agg #[fv,.int .u16 (fo:Nat),lv],.int .i64 s.2.2,.int .u16 (nowL F (c:Int) t:Nat)],by simp [execOp,go_sem,v8,v10,v11],(HTurn.out W hV).mono ?_⟩)
      rintro e W' ⟨rfl,hb⟩
      exact ⟨_,rfl,fun _=>below_trans hV hb,rfl,fun j x hj hnj h=>by
       match j,hnj,h with
       | 0,hnj,h=>exact h
       | 1,hnj,h=>exact h
       | 2,hnj,h=>exact h
       | 3,hnj,h=>exact h
       | 4,hnj,h=>exact h
       | 5,hnj,h=>exact h
       | 6,hnj,h=>exact h
       | 7,hnj,h=>exact h
       | 8,hnj,h=>exact h
       | 9,hnj,h=>exact h
       | 10,hnj,h=>exact h
       | 11,hnj,h=>exact h
       | 12,hnj,h=>exact h
       | 13,hnj,h=>exact h
       | 14,hnj,h=>exact absurd hnj (by rw [show needsB _ 14 ([3,12,14].getD 1 0)=true from by kernel_rfl];simp)
       | 15,hnj,h=>exact absurd hnj (by rw [show needsB _ 15 ([3,12,14].getD 1 0)=true from by kernel_rfl];simp)
       | 16,hnj,h=>exact absurd hnj (by rw [show needsB _ 16 ([3,12,14].getD 1 0)=true from by kernel_rfl];simp)
       | j+17,hnj,h=>trivial
       ⟩
     | 2,ho =>
      obtain rfl:=Option.some.inj ho
      have hV:=hV0 (by omega)
      have v5:a.tmps[23]?.getD undef=.func (.yield l) #[] #[]:=(eval_tmp a 23).symm.trans (((hd 5 (by kernel_rfl)).2 23 (by kernel_rfl)).trans (hd 5 (by kernel_rfl)).1)
      have v6:a.tmps[24]?.getD undef=.int .i64 (c:Nat):=(eval_tmp a 24).symm.trans (((hd 6 (by kernel_rfl)).2 24 (by kernel_rfl)).trans (hd 6 (by kernel_rfl)).1)
      have v13:a.tmps[31]?.getD undef=.agg #[.bool false,.int .u16 (t:Nat),.int .i64 (turnL F s.2.2 (nowL F (c:Int) t):Nat)]:=(eval_tmp a 31).symm.trans (((hd 13 (by kernel_rfl)).2 31 (by kernel_rfl)).trans (hd 13 (by kernel_rfl)).1)
      obtain ⟨fn,tm,asg,bd,hy,hR⟩:=HYield.out W hV
      refine Or.inr (Or.inr ⟨_,l,fn,tm,asg,bd,by simp [execOp,go_sem,v5,v6,v13,hy],hR.mono ?_⟩)
      rintro e W' (⟨rfl,hf⟩ | ⟨rfl,hf⟩)
      ·exact ⟨_,rfl,fun h=>absurd h (by omega),Or.inl ⟨rfl,hf⟩,fun j x hj hnj h=>by
        match j,hnj,h with
        | 0,hnj,h=>exact h
        | 1,hnj,h=>exact h
        | 2,hnj,h=>exact h
        | 3,hnj,h=>exact h
        | 4,hnj,h=>exact h
        | 5,hnj,h=>exact h
        | 6,hnj,h=>exact h
        | 7,hnj,h=>exact h
        | 8,hnj,h=>exact h
        | 9,hnj,h=>exact h
        | 10,hnj,h=>exact h
        | 11,hnj,h=>exact h
        | 12,hnj,h=>exact h
        | 13,hnj,h=>exact h
        | 14,hnj,h=>exact absurd rfl hj
        | 15,hnj,h=>exact absurd hnj (by rw [show needsB _ 15 ([3,12,14].getD 2 0)=true from by kernel_rfl];simp)
        | 16,hnj,h=>exact absurd hnj (by rw [show needsB _ 16 ([3,12,14].getD 2 0)=true from by kernel_rfl];simp)
        | j+17,hnj,h=>trivial
        ⟩
      ·exact ⟨_,rfl,fun h=>absurd h (by omega),Or.inr ⟨rfl,hf⟩,fun j x hj hnj h=>by
        match j,hnj,h with
        | 0,hnj,h=>exact h
        | 1,hnj,h=>exact h
        | 2,hnj,h=>exact h
        | 3,hnj,h=>exact h
        | 4,hnj,h=>exact h
        | 5,hnj,h=>exact h
        | 6,hnj,h=>exact h
        | 7,hnj,h=>exact h
        | 8,hnj,h=>exact h
        | 9,hnj,h=>exact h
        | 10,hnj,h=>exact h
        | 11,hnj,h=>exact h
        | 12,hnj,h=>exact h
        | 13,hnj,h=>exact h
        | 14,hnj,h=>exact absurd rfl hj
        | 15,hnj,h=>exact absurd hnj (by rw [show needsB _ 15 ([3,12,14].getD 2 0)=true from by kernel_rfl];simp)
        | 16,hnj,h=>exact absurd hnj (by rw [show needsB _ 16 ([3,12,14].getD 2 0)=true from by kernel_rfl];simp)
        | j+17,hnj,h=>trivial
        ⟩
     | k+3,ho=>exact absurd hk (by simp)
    case hend =>
     intro vs W3 hV hRR
     have h16:(vs 16=.bool false∧FinT W3) ∨ (vs 16=.bool true∧FinF W3):=hRR 16 (by decide)
     clear hRR hV
     refine hK _ _ ?_
     simp only [putPairs,List.setIfInBounds_toArray,List.set_cons_succ,List.set_cons_zero]
     rcases h16 with ⟨h16,hf⟩ | ⟨h16,hf⟩
     ·rw [h16]
      have HFin:=hide (HFT.out W3 hf)
      clear hf h16
      gi_wp2
      exact HQn.out _ _ HFin.out.2.1 HFin.out.1 HFin.out.2.2.1 HFin.out.2.2.2
     ·rw [h16]
      have HFin:=hide (HFF.out W3 hf)
      clear hf h16
      gi_wp2
      exact HQr.out _ _ HFin.out.1 HFin.out.2.1 HFin.out.2.2.1 HFin.out.2.2.2
  case done =>
   rintro D xs A hDw hxs ⟨h1,h2,h3⟩ hdef hnS
   have HH:=hide (And.intro h1 (And.intro hdef (And.intro hxs hDw)))
   have HnS:=hide hnS
   clear h1 h2 h3 hdef hxs hDw hnS
   go_wp2_with (fail)
   obtain ⟨h1,hdef,hxs,hDw⟩:=HH.out
   refine Handed.intro (8 - (c+1)) (by omega) (hJq _ _ _ ⟨c+1,_,_,_,_,_,_,_,D :: Ds,rfl,by omega,rfl,hide ?_⟩)
   obtain ⟨pre,p1,p2,p3⟩:=h1.has
   refine ⟨⟨pre,?_,?_,p3⟩,h1.ko,h1.by_,h1.mks.cons (by omega) hdef (fun hm'=>by have:=HA.out.lt D hm';omega),fun k hk=>?_⟩
   ·rw [p1,hxs,← Hfe.out,afterC_next]
   ·have e:=congrArg List.length hxs
    rw [List.length_map] at e
    omega
   ·rw [List.mem_cons,List.mem_cons] at hk
    rcases hk with rfl | rfl | hk
    ·exact h1.not _ (by simp)
    ·exact fun h=>HnS.out (Or.inl h)
    ·exact h1.not _ (List.mem_cons_of_mem _ hk)
  case stop =>
   rintro D q pre A hDw ⟨rfl,⟨pre',h2⟩,h3,h4,h5,h6⟩ hdef hnS
   have HH:=hide (show Marks A (W.heap.size+1) (D :: Ds)∧Jx pre' A∧(∀ E ∈ D :: Ds,¬ S A E)∧W.heap.size≤A.heap.size from ⟨h3.cons (by omega) hdef (fun hm'=>by have:=HA.out.lt D hm';omega),h2,fun E hE=>by
    rcases List.mem_cons.1 hE with rfl | hE
    ·exact fun h=>hnS (Or.inl h)
    ·exact h4 E hE,h6⟩)
   clear h2 h3 h4 h5 h6 hdef hnS hDw
   refine wpIn_wide.2 ?_
   go_wp2
   refine leaves_marksX (W.heap.size+1) (D :: Ds) _ HH.out.1 ?_
   intro W' hSh
   refine ⟨_,results_none rfl _ _ _,⟨_,rfl⟩,.inr ⟨pre',HJx.out pre' _ _ HH.out.2.1 HH.out.2.2.2 (hSh.ki (fun E hE=>⟨by have:=(HH.out.1.2 E hE).1;omega,HH.out.2.2.1 E hE⟩))⟩⟩
 ·obtain rfl:c=8:=by omega
  go_wp2
  refine leaves_marksX (W.heap.size+1) Ds _ HA.out.mks ?_
  intro W' hSh
  obtain ⟨pre,h1,_,h3⟩:=HA.out.has
  refine ⟨_,results_none rfl _ _ _,⟨_,rfl⟩,.inl ⟨pre,h1,HJ.out pre _ _ h3 HA.out.ko.size (hSh.ki (fun D hD=>⟨by have:=(HA.out.mks.2 D hD).1;omega,HA.out.not D (List.mem_cons_of_mem _ hD)⟩))⟩⟩
end Go.Proofs.YtpiacnnifdjlkabGreatDoor
