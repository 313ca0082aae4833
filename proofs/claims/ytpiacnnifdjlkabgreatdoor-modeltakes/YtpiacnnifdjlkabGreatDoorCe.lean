import Derived.Test.YtpiacnnifdjlkabGreatDoorCc
import Derived.Deep.DeepCutAuto
import Derived.Deep.LoopGhost
import Derived.Shelf.Abstract
set_option maxRecDepth 100000
set_option maxHeartbeats 8000000
namespace Go.Proofs.YtpiacnnifdjlkabGreatDoor
open Go.RowKit Go.Sort
attribute [local go_sem] Oper.semAt_some
structure NR (w W:World) (N B5 g:Nat) (v5 v8:Array Value) (D:Nat→Nat→Nat→Nat):Prop where
 below:Below w.heap.size w W
 auto:W.heap[w.heap.size]?=some (.cells v5 26)
 res:W.heap[w.heap.size+1+1]?=some (.cells #[.int .i64 0,.int .i64 0,.slice none 0 0,.slice none 0 0,.slice none 0 0,.slice none 0 0,.slice none 0 0,.slice none 0 0] 125)
 run:W.heap[B5]?=some (.cells v8 125)
 lc:LC W g N D
 b5:w.heap.size+2 < B5
 gl:w.heap.size+2 < g
 ne:B5 ≠ g
theorem three_alloc (w:World) (a b c:Obj):(((w.alloc a).alloc b).alloc c).heap[w.heap.size]?=some a∧(((w.alloc a).alloc b).alloc c).heap[w.heap.size+1]?=some b∧(((w.alloc a).alloc b).alloc c).heap[w.heap.size+1+1]?=some c:=by
 refine ⟨?_,?_,?_⟩
 ·rw [heap_alloc_old _ _ (by simp;omega),heap_alloc_old _ _ (by simp)]
  exact heap_alloc_new w a
 ·rw [heap_alloc_old _ _ (by simp)]
  have:=heap_alloc_new (w.alloc a) b
  rwa [World.size_alloc] at this
 ·have:=heap_alloc_new ((w.alloc a).alloc b) c
  rwa [World.size_alloc,World.size_alloc] at this
theorem wpIn_region_tail_below {P:Program}{l n id:Nat}{ops l':List Oper}{oL:Oper}{Q':Exit→Act→World→Prop}{a:Act}{w:World} (hops:ops.toArray=l'.toArray.push oL) (hm:P.follows .mixedOrders=true) (hB:Region.lexB .any l'.toArray=true) (hT:tailOk l' oL=true) (hg:oL.guard=none)
  (h:wpQuiet P l'.toArray (fun w'=>∃ p:Regrown,w'=grow (redrawn w p.d) p.os) (fun a'=>∀ w',(∃ p:Regrown,w'=grow (redrawn w p.d) p.os)→wpListIn (Fence.wide.inRound l) n P #[] Q' [oL] a' w') l' a) :
  (Code.region id ops.toArray true).wpIn (Fence.wide.inRound l) n P Q' a w:=by
 rw [hops]
 refine wpIn_region_tail hm hB hT ⟨⟨w.drawn+1,#[]⟩,by rw [grow_empty];rfl⟩ h ?_
 intro a' w' hc hq
 have:=hq w' hc
 unfold wpListIn at this
 rw [wanted_free hg] at this
 exact this
theorem KB.mono {m m' g:Nat}{W W':World} (h:KB m g W W') (hm:m'≤m):KB m' g W W':=⟨h.os,h.tape,h.output,h.size,fun k hk hn=>h.block k (by omega) hn⟩
theorem eight_set {W:World}{b:Nat}{t:TypeId}{u0 u1 u2 u3 u4 u5 u6 u7:Value} (m:Nat) (v0 v1 v2 v3 v4 v5 v6 v7:Value) (h:W.heap[b]?=some (.cells #[u0,u1,u2,u3,u4,u5,u6,u7] t)) :
  KB m b W ((((((((W.setCell ⟨b,0,none⟩ v0).setCell ⟨b,1,none⟩ v1).setCell ⟨b,2,none⟩ v2).setCell ⟨b,3,none⟩ v3).setCell ⟨b,4,none⟩ v4).setCell ⟨b,5,none⟩ v5).setCell ⟨b,6,none⟩ v6).setCell ⟨b,7,none⟩ v7) ∧
  ((((((((W.setCell ⟨b,0,none⟩ v0).setCell ⟨b,1,none⟩ v1).setCell ⟨b,2,none⟩ v2).setCell ⟨b,3,none⟩ v3).setCell ⟨b,4,none⟩ v4).setCell ⟨b,5,none⟩ v5).setCell ⟨b,6,none⟩ v6).setCell ⟨b,7,none⟩ v7).heap[b]?=some (.cells #[v0,v1,v2,v3,v4,v5,v6,v7] t):=by
 refine ⟨(((((((KB.set m b 0 _ _).trans (KB.set m b 1 _ _)).trans (KB.set m b 2 _ _)).trans (KB.set m b 3 _ _)).trans (KB.set m b 4 _ _)).trans (KB.set m b 5 _ _)).trans (KB.set m b 6 _ _)).trans (KB.set m b 7 _ _),?_⟩
 simpa using heap_setCell_row 7 v7 (heap_setCell_row 6 v6 (heap_setCell_row 5 v5 (heap_setCell_row 4 v4 (heap_setCell_row 3 v3 (heap_setCell_row 2 v2 (heap_setCell_row 1 v1 (heap_setCell_row 0 v0 h)))))))
theorem zero_LC {W:World}{g N:Nat} (h:W.heap[g]?=some (.cells (zeroW (N * 40)) 189)):LC W g N (fun _ _ _=>0):=by
 refine ⟨fun s l i hs hl hi=>?_,fun o=>by simp [World.frozen?,h],⟨_,h,rfl⟩⟩
 have hlt:s * 40+l * 5+i < N * 40:=by omega
 rw [cell_of_row W g (s * 40+l * 5+i) _ _ _ h]
 unfold zeroW
 rw [Array.getElem?_replicate,if_pos hlt]
 rfl
theorem newRun_any {w:World}{ss:List Stp} (m:Int) (a1 a2 a3 a4 a5:Option Addr) (l1 l2 l4 l5 c1 c2 c3 c4 c5 N l3:Nat) (hl3:l3=ss.length) (hN:N≤300) (hS:StepSl w (.slice a3 l3 c3) ss) (hlen:ss.length≤6000)
  (hmono:∀ i j,i≤j→j < ss.length→(ss.getD i stp0).f≤(ss.getD j stp0).f) (hgs:∀ x,x ∈ ss→0≤x.f∧x.f < N∧0≤x.l∧x.l < 8∧0≤x.t∧x.t < N) :
  Calls Tryz.prog 79 #[.agg #[.int .i64 (N:Nat),.int .i64 m,.slice a1 l1 c1,.slice a2 l2 c2,.slice a3 l3 c3],.agg #[.slice a4 l4 c4,.slice a5 l5 c5]] w fun e w'=>∃ g D,e=.returned (.agg #[.int .i64 (N:Nat),.int .i64 m,.slice a1 l1 c1,.slice a2 l2 c2,.slice a3 l3 c3,.slice a4 l4 c4,.slice a5 l5 c5,.slice (some ⟨g,0,none⟩) N N])∧Below w.heap.size w w'∧SD ss N D∧(∀ s l i,s < N→l < 8→i < 5→w'.cell? ⟨g,s * 40+l * 5+i,none⟩=some (.int .u64 (D s l i))):=by
 refine (callsIn_wide (n:=10)).1 ?_
 refine callsIn_of_wp_marks Tryz.func79 rfl trivial ?_ rfl
 simp only [Tryz.ntmps79,List.size_toArray,List.length_cons,List.length_nil,Nat.reduceAdd,Nat.reduceSub,Array.replicate_succ,Array.replicate_zero,List.push_toArray,List.append_toArray,List.nil_append,List.cons_append]
 refine wpIn_wide.2 ?_
 have hmk:=make_leads N hN
 have Hall:=hide (And.intro hl3 (And.intro hS (And.intro hlen (And.intro hmono hgs))))
 clear hl3 hS hlen hmono hgs
 go_wp2_with (fail)
 rename_i K hK
 have key:∀ (B5 g:Nat) (W:World),NR w W N B5 g #[.int .i64 (N:Nat),.int .i64 m,.slice a1 l1 c1,.slice a2 l2 c2,.slice a3 l3 c3] #[.int .i64 (N:Nat),.int .i64 m,.slice a1 l1 c1,.slice a2 l2 c2,.slice a3 l3 c3,.slice a4 l4 c4,.slice a5 l5 c5,.slice (some ⟨g,0,none⟩) N N] (fun _ _ _=>0)→K { tmps:=#[.agg #[.int .i64 (N:Nat),.int .i64 m,.slice a1 l1 c1,.slice a2 l2 c2,.slice a3 l3 c3],.agg #[.slice a4 l4 c4,.slice a5 l5 c5],.pointer (some ⟨w.heap.size,0,none⟩),.pointer (some ⟨w.heap.size+1,0,none⟩),.pointer (some ⟨w.heap.size+1+1,0,none⟩),.pointer (some ⟨B5,0,none⟩),undef,undef,.agg #[.int .i64 (N:Nat),.int .i64 m,.slice a1 l1 c1,.slice a2 l2 c2,.slice a3 l3 c3],.agg #[.slice a4 l4 c4,.slice a5 l5 c5],.pointer (some ⟨w.heap.size,0,none⟩),.int .i64 (N:Nat),.slice (some ⟨g,0,none⟩) N N,.agg #[.int .i64 (N:Nat),.int .i64 m,.slice a1 l1 c1,.slice a2 l2 c2,.slice a3 l3 c3,.slice a4 l4 c4,.slice a5 l5 c5,.slice (some ⟨g,0,none⟩) N N],undef,undef,undef,undef,undef,undef,undef,undef,undef,undef,undef,undef,undef,undef,undef,undef,undef,undef,undef,undef,undef,undef,undef,undef,undef,undef,undef,undef,undef,undef],defers:=[] } W:=by
  intro B5 g W hnr
  refine hK _ _ ?_
  clear hK hmk
  have r7:=cell_of_row W B5 7 _ _ _ hnr.run
  have Hnr:=hide hnr
  clear hnr
  go_wp2_with (fail)
  refine wp_loop_ghost_k (fun gk a Wk=>∃ (k:Nat) (u6 u18 u19 u20 u21 u22 u42:Value) (Ds:List Nat) (D:Nat→Nat→Nat→Nat),k≤N∧gk=N - k∧a={ tmps:=#[.agg #[.int .i64 (N:Nat),.int .i64 m,.slice a1 l1 c1,.slice a2 l2 c2,.slice a3 l3 c3],.agg #[.slice a4 l4 c4,.slice a5 l5 c5],.pointer (some ⟨w.heap.size,0,none⟩),.pointer (some ⟨w.heap.size+1,0,none⟩),.pointer (some ⟨w.heap.size+1+1,0,none⟩),.pointer (some ⟨B5,0,none⟩),u6,undef,.agg #[.int .i64 (N:Nat),.int .i64 m,.slice a1 l1 c1,.slice a2 l2 c2,.slice a3 l3 c3],.agg #[.slice a4 l4 c4,.slice a5 l5 c5],.pointer (some ⟨w.heap.size,0,none⟩),.int .i64 (N:Nat),.slice (some ⟨g,0,none⟩) N N,.agg #[.int .i64 (N:Nat),.int .i64 m,.slice a1 l1 c1,.slice a2 l2 c2,.slice a3 l3 c3,.slice a4 l4 c4,.slice a5 l5 c5,.slice (some ⟨g,0,none⟩) N N],.pointer (some ⟨B5,7,none⟩),.slice (some ⟨g,0,none⟩) N N,.int .i64 (N:Nat),.int .i64 (k:Nat),u18,u19,u20,u21,u22,undef,undef,undef,undef,undef,undef,undef,undef,undef,undef,undef,undef,undef,undef,undef,undef,undef,undef,undef,u42,undef],defers:=marksOf Ds }∧NR w Wk N B5 g #[.int .i64 (N:Nat),.int .i64 m,.slice a1 l1 c1,.slice a2 l2 c2,.slice a3 l3 c3] #[.int .i64 (N:Nat),.int .i64 m,.slice a1 l1 c1,.slice a2 l2 c2,.slice a3 l3 c3,.slice a4 l4 c4,.slice a5 l5 c5,.slice (some ⟨g,0,none⟩) N N] D∧SD ss k D∧Marks Wk (w.heap.size+3) Ds) N ?_ ?_
  ·exact ⟨0,undef,undef,undef,undef,undef,undef,undef,[],_,Nat.zero_le _,rfl,rfl,Hnr.out,SD_zero ss (fun x hx=>(Hall.out.2.2.2.2 x hx).1),List.nodup_nil,fun D h=>by cases h⟩
  rintro gk a Wk ⟨k,u6,u18,u19,u20,u21,u22,u42,Ds,D,hk,rfl,rfl,hnr,hsd,hmk⟩ J K hJ hK
  have Hnr:=hide hnr
  have Hsd:=hide hsd
  have Hmk:=hide hmk
  clear hsd hmk
  have hH:=(Array.getElem?_eq_some_iff.1 hnr.auto).1
  have hH5:=(Array.getElem?_eq_some_iff.1 hnr.run).1
  have p0:=cell_of_row Wk _ 0 _ _ _ hnr.auto
  have p1:=cell_of_row Wk _ 1 _ _ _ hnr.auto
  have p2:=cell_of_row Wk _ 2 _ _ _ hnr.auto
  have p3:=cell_of_row Wk _ 3 _ _ _ hnr.auto
  have p4:=cell_of_row Wk _ 4 _ _ _ hnr.auto
  by_cases hkN:k < N
  ·clear hnr
   go_wp2_with (refine (from_any _ _ _ _ _ _ _).mono ?_;rintro e w1 ⟨rfl,rfl⟩)
   obtain ⟨hl3,hS,hlen,hmono,hgs⟩:=Hall.out
   subst hl3
   obtain ⟨e0,e1,e2⟩:=three_alloc Wk (Obj.cells #[Value.int .i64 (k:Nat)] 3) (Obj.cells #[Value.int .i64 (N:Nat),.int .i64 m,.slice a1 l1 c1,.slice a2 l2 c2,.slice a3 ss.length c3] 26) (Obj.cells #[Value.int .i64 (k:Nat)] 3)
   have hbk:Below Wk.heap.size Wk (((Wk.alloc (Obj.cells #[Value.int .i64 (k:Nat)] 3)).alloc (Obj.cells #[Value.int .i64 (N:Nat),.int .i64 m,.slice a1 l1 c1,.slice a2 l2 c2,.slice a3 ss.length c3] 26)).alloc (Obj.cells #[Value.int .i64 (k:Nat)] 3)):=(by repeat (first | exact Below.refl _ _ | assumption | refine below_drewN ?_ _ | refine Below.drew ?_ | refine Below.alloc ?_ (by simp <;> omega) _ | refine below_trans ?_ (by assumption)))
   have hsz:(((Wk.alloc (Obj.cells #[Value.int .i64 (k:Nat)] 3)).alloc (Obj.cells #[Value.int .i64 (N:Nat),.int .i64 m,.slice a1 l1 c1,.slice a2 l2 c2,.slice a3 ss.length c3] 26)).alloc (Obj.cells #[Value.int .i64 (k:Nat)] 3)).heap.size=Wk.heap.size+3:=by simp
   generalize (((Wk.alloc (Obj.cells #[Value.int .i64 (k:Nat)] 3)).alloc (Obj.cells #[Value.int .i64 (N:Nat),.int .i64 m,.slice a1 l1 c1,.slice a2 l2 c2,.slice a3 ss.length c3] 26)).alloc (Obj.cells #[Value.int .i64 (k:Nat)] 3))=W0 at e0 e1 e2 hbk hsz ⊢
   have hgl:=Hnr.out.gl
   have hlc:=Hnr.out.lc
   have hgk:=hlc.lt
   have hb0:Below w.heap.size w W0:=below_trans Hnr.out.below hbk
   have hlt:∀ b off,ss ≠ []→a3=some ⟨b,off,none⟩→b < W0.heap.size∧b ≠ g:=by
    intro b off hne ha
    subst ha
    obtain ⟨a',cap',e,_,hz,_⟩:=hS
    cases e
    rcases hz with h | ⟨b',off',e,hc⟩
    ·exact absurd h hne
    ·cases e
     have:=World.block_lt_of_cell? w _ (hc 0 (List.length_pos_iff.2 hne)).1
     dsimp only at this
     omega
   refine wpIn_wide.1 (wpIn_rangeFunc_ownH (n:=10) rfl (by decide) (gf:=150) (lb:=#[.pointer (some ⟨Wk.heap.size+1,0,none⟩),.pointer (some ⟨Wk.heap.size+1+1,0,none⟩)]) rfl trivial (enters_of Tryz.func150 (by kernel_rfl) rfl)
    (fromSeq 9 (Wk.heap.size+1) (Wk.heap.size+1+1) W0.heap.size g N (k:Nat) W0 (Nat.le_refl _) (cell_of_row W0 _ 4 _ _ _ e1) (cell_of_row W0 _ 0 _ _ _ e2) ⟨by omega,by omega⟩ (hS.below hb0) hlt hlen hmono (fun x hx hf=>⟨hf,(hgs x hx).2.2.1,(hgs x hx).2.2.2.1,(hgs x hx).2.2.2.2⟩))
    (fun h h'=>h.trans h') (fun W l o o' hl ho hc hw=>(KB.refl _ _ _).grown (by have:=(Array.getElem?_eq_some_iff.1 ho).1;omega) (grownBy_putObj' W l o') (fun r e=>by cases e;exact hl)) (Below.refl _ _) (fun _=>rfl)
    (IW W0 g N W0.heap.size ss (k:Nat)) (fun _ _ _=>False) (IW_own W0 g N ss k (by omega)) (fun _ _ _ _ _ h _ _=>h) ?start
    (fun x a' W=>∃ Bx,W0.heap.size≤Bx∧W.heap[Bx]?=some (.cells #[.int .i64 x.1.f,.int .i64 x.1.l,.int .i64 x.1.t] 88)∧a'={ tmps:=#[.agg #[.int .i64 (N:Nat),.int .i64 m,.slice a1 l1 c1,.slice a2 l2 c2,.slice a3 ss.length c3],.agg #[.slice a4 l4 c4,.slice a5 l5 c5],.pointer (some ⟨w.heap.size,0,none⟩),.pointer (some ⟨w.heap.size+1,0,none⟩),.pointer (some ⟨w.heap.size+1+1,0,none⟩),.pointer (some ⟨B5,0,none⟩),.pointer (some ⟨Wk.heap.size,0,none⟩),.pointer (some ⟨Bx,0,none⟩),.agg #[.int .i64 (N:Nat),.int .i64 m,.slice a1 l1 c1,.slice a2 l2 c2,.slice a3 ss.length c3],.agg #[.slice a4 l4 c4,.slice a5 l5 c5],.pointer (some ⟨w.heap.size,0,none⟩),.int .i64 (N:Nat),.slice (some ⟨g,0,none⟩) N N,.agg #[.int .i64 (N:Nat),.int .i64 m,.slice a1 l1 c1,.slice a2 l2 c2,.slice a3 ss.length c3,.slice a4 l4 c4,.slice a5 l5 c5,.slice (some ⟨g,0,none⟩) N N],.pointer (some ⟨B5,7,none⟩),.slice (some ⟨g,0,none⟩) N N,.int .i64 (N:Nat),.int .i64 (k:Nat),.bool true,.int .i64 (k:Nat),.agg #[.int .i64 (N:Nat),.int .i64 m,.slice a1 l1 c1,.slice a2 l2 c2,.slice a3 ss.length c3],.int .i64 (k:Nat),.func (.func 150) #[] #[.pointer (some ⟨Wk.heap.size+1,0,none⟩),.pointer (some ⟨Wk.heap.size+1+1,0,none⟩)],.agg #[.int .i64 x.1.f,.int .i64 x.1.l,.int .i64 x.1.t],undef,undef,undef,undef,undef,undef,undef,undef,undef,undef,undef,undef,undef,undef,undef,undef,undef,undef,u42,undef],defers:=[] }) ?own ?assign ?body ?done ?stop)
   case start =>
    refine ⟨KB.refl _ _ _,D,hlc.of_block (hbk.block g hgk),Hsd.out.1,fun s l t=>?_⟩
    rw [Hsd.out.2 s l t]
    exact ⟨.inl,fun h=>h.elim id (fun ⟨y,hy,_⟩=>by cases hy)⟩
   case own =>
    rintro x a' _ A B row ⟨Bx,h1,h2,h3⟩ hg hr
    refine ⟨Bx,h1,(hg.block Bx (Array.getElem?_eq_some_iff.1 h2).1 (fun e=>?_)).trans h2,h3⟩
    obtain ⟨_,o,ho,hc⟩:=hr Bx e.symm
    rw [h2] at ho
    cases ho
    cases hc
   case assign =>
    rintro l pre x W K' hi hK'
    have HK':=hide hK'
    have Hi:=hide hi
    clear hK' hi e0 e1 e2 hbk hb0 hS hlt hgs hmono
    gi_wp2
    exact HK'.out _ _ ((KeepsOthers.alloc _ _).from _) (KB.of_below (below_new W _) Hi.out.1.size) ((IW_own W0 g N ss k (by omega)).alloc _ Hi.out) ⟨W.heap.size,Hi.out.1.size,heap_alloc_new W _,rfl⟩
   case body =>
    rintro l pre x a' W hl ⟨r,hr⟩ hi ⟨Bx,hBx,hbx,rfl⟩ hlt'
    generalize hQ2:ownPostG W0.heap.size (KB W0.heap.size g) (IW W0 g N W0.heap.size ss (k:Nat)) (fun _ _ _=>False) (pre ++ [x]) W=Q2
    have HQ2:=hide (show ∀ a W',(KeepsFrom W0.heap.size W W'∧KB W0.heap.size g W W'∧IW W0 g N W0.heap.size ss (k:Nat) (pre ++ [x]) W')→Q2 .normal a W' from by rw [← hQ2];exact fun _ _ h=>h)
    clear hQ2
    obtain ⟨⟨xf,xl,xt⟩,hx⟩:=x
    obtain ⟨hKB,D',hL,hw,hD⟩:=hi
    have hx':=hx
    obtain ⟨hx1,hx2,hx3,hx4,hx5⟩:=hx'
    dsimp only at hx1 hx2 hx3 hx4 hx5 hbx ⊢
    subst hx1
    obtain ⟨ln,rfl⟩:=Int.eq_ofNat_of_zero_le hx2
    obtain ⟨tn,rfl⟩:=Int.eq_ofNat_of_zero_le hx4
    have hln:ln < 8:=by omega
    have htn:tn < 300:=by omega
    have f5:W.heap[B5]?=some (.cells #[.int .i64 (N:Nat),.int .i64 m,.slice a1 l1 c1,.slice a2 l2 c2,.slice a3 ss.length c3,.slice a4 l4 c4,.slice a5 l5 c5,.slice (some ⟨g,0,none⟩) N N] 125):=by
     rw [hKB.block B5 (by omega) Hnr.out.ne,hbk.block B5 hH5]
     exact Hnr.out.run
    have f6:W.heap[Wk.heap.size]?=some (.cells #[.int .i64 (k:Nat)] 3):=by
     rw [hKB.block _ (by omega) (by omega)]
     exact e0
    have k7:=cell_regrown (cell_of_row W B5 7 _ _ _ f5)
    have k0:=cell_regrown (cell_of_row W _ 0 _ _ _ f6)
    have x1:=cell_regrown (cell_of_row W Bx 1 _ _ _ hbx)
    have x2:=cell_regrown (cell_of_row W Bx 2 _ _ _ hbx)
    have d00:=hL.lead k ln 0 hkN hln (by omega)
    rw [Nat.add_zero] at d00
    have d0:=cell_regrown d00
    have d1:=cell_regrown (hL.lead k ln 1 hkN hln (by omega))
    have d2:=cell_regrown (hL.lead k ln 2 hkN hln (by omega))
    have d3:=cell_regrown (hL.lead k ln 3 hkN hln (by omega))
    have d4:=cell_regrown (hL.lead k ln 4 hkN hln (by omega))
    have CW:=hide (fun d os=>Calls.regrown_of (with_any (D' k ln) tn (grow (redrawn W d) os) htn (hw k ln)))
    have HK:=hide (And.intro hKB (And.intro hL (And.intro hw hD)))
    clear hKB hL hw hD hx2 hx3 hx4 hx5 e0 e1 e2 hbk hb0 hS hlt hgs hmono hbx f5 f6 hlc
    gi_wp2_with (fail)
    refine wpIn_region_tail_below (l':=[_,_,_,_,_,_,_,_,_,_,_,_,_,_,_,_,_,_]) rfl (by kernel_rfl) (by kernel_rfl) (by kernel_rfl) rfl ?_
    (repeat (go_big_quiet_step (first | exact CW.out _ _)))
    refine wpQuiet_nil ?_
    intro _ hw'
    obtain ⟨⟨dq,osq⟩,hw''⟩:=hw'
    subst hw''
    have hbq:=below_regrown W dq osq
    clear k7 k0 x1 x2 d0 d1 d2 d3 d4 CW
    dsimp only at hbq ⊢
    generalize hwq:grow (redrawn W dq) osq=wq at hbq ⊢
    clear hwq
    have hgW:=HK.out.2.1.lt
    have hlq:LC wq g N D':=HK.out.2.1.of_block (hbq.block g hgW)
    have q0:=hlq.lead k ln 0 hkN hln (by omega)
    rw [Nat.add_zero] at q0
    have q1:=hlq.lead k ln 1 hkN hln (by omega)
    have q2:=hlq.lead k ln 2 hkN hln (by omega)
    have q3:=hlq.lead k ln 3 hkN hln (by omega)
    have q4:=hlq.lead k ln 4 hkN hln (by omega)
    have qs:=hlq.soft
    gi_wp2
    obtain ⟨hKB,hL,hw,hD⟩:=HK.out
    have hkq:KB W0.heap.size g W wq:=KB.of_below hbq hKB.size
    exact HQ2.out _ (five wq g (k * 40+ln * 5) (addB (D' k ln) tn)) ⟨KeepsFrom.trans ⟨hbq.size,fun i o _ hi _=>(hbq.block i (Array.getElem?_eq_some_iff.1 hi).1).trans hi⟩ ((keeps_five _ _ _ _).from _),hkq.trans (KB.five _ _ _ _ _),IW.step hKB hL hw hD ⟨⟨k,ln,tn⟩,hx⟩ hkN ln tn rfl rfl hkq (hbq.block g hgW)⟩
   case done =>
    rintro D2 xs W hD2 hxs ⟨hKB,D',hL,hw,hD⟩ hdef
    have HS2:=hide (SD_next hw hxs hD)
    have Hd:=hide hdef
    have Hb0:=hide hb0
    clear hxs hw hD hdef e0 e1 e2 hb0 hS hlt hgs hmono
    have Hbk:=hide hbk
    clear hbk
    go_wp2
    have hB0:=Hb0.out
    have hBk:=Hbk.out
    have h5:=Hnr.out.b5
    have hn5:=Hnr.out.ne
    have hr2:=(Array.getElem?_eq_some_iff.1 Hnr.out.res).1
    have hmk2:Marks W (w.heap.size+3) Ds:=Hmk.out.of_kb ((KB.of_below (g:=g) hBk (Nat.le_refl _)).trans (hKB.mono (by omega))) (Nat.le_refl _) (.inr Hnr.out.lc.isC)
    refine Handed.intro (N - (k+1)) (by omega) (hJ _ _ _ ⟨k+1,_,_,_,_,_,_,_,D2 :: Ds,D',by omega,rfl,rfl,⟨⟨hKB.os.trans hB0.os,hKB.tape.trans hB0.tape,hKB.output.trans hB0.output,Nat.le_trans hB0.size hKB.size,fun i hi=>?_⟩,?_,?_,?_,hL,h5,hgl,hn5⟩,HS2.out,hmk2.cons (by omega) Hd.out (fun hm=>?_)⟩)
    ·rw [hKB.block i (by omega) (by omega)]
     exact hB0.block i hi
    ·rw [hKB.block _ (by omega) (by omega),hBk.block _ hH]
     exact Hnr.out.auto
    ·rw [hKB.block _ (by omega) (by omega),hBk.block _ hr2]
     exact Hnr.out.res
    ·rw [hKB.block _ (by omega) hn5,hBk.block _ hH5]
     exact Hnr.out.run
    ·have:=(Array.getElem?_eq_some_iff.1 (Hmk.out.2 D2 hm).2).1
     omega
   case stop =>
    rintro D2 c pre W _ _ h _
    exact h.elim
  ·have hkN':k=N:=by omega
   subst hkN'
   have hH2:=(Array.getElem?_eq_some_iff.1 hnr.res).1
   have r0:=cell_of_row Wk B5 0 _ _ _ hnr.run
   have r1:=cell_of_row Wk B5 1 _ _ _ hnr.run
   have r2:=cell_of_row Wk B5 2 _ _ _ hnr.run
   have r3:=cell_of_row Wk B5 3 _ _ _ hnr.run
   have r4:=cell_of_row Wk B5 4 _ _ _ hnr.run
   have r5:=cell_of_row Wk B5 5 _ _ _ hnr.run
   have r6:=cell_of_row Wk B5 6 _ _ _ hnr.run
   have r7:=cell_of_row Wk B5 7 _ _ _ hnr.run
   have s0:=cell_of_row Wk _ 0 _ _ _ hnr.res
   have s1:=cell_of_row Wk _ 1 _ _ _ hnr.res
   have s2:=cell_of_row Wk _ 2 _ _ _ hnr.res
   have s3:=cell_of_row Wk _ 3 _ _ _ hnr.res
   have s4:=cell_of_row Wk _ 4 _ _ _ hnr.res
   have s5:=cell_of_row Wk _ 5 _ _ _ hnr.res
   have s6:=cell_of_row Wk _ 6 _ _ _ hnr.res
   have s7:=cell_of_row Wk _ 7 _ _ _ hnr.res
   have sf:∀ i,Wk.frozen? ⟨w.heap.size+1+1,i,none⟩=false:=fun i=>by simp [World.frozen?,hnr.res]
   clear hnr
   go_wp2
   clear r0 r1 r2 r3 r4 r5 r6 r7 s0 s1 s2 s3 s4 s5 s6 s7 sf
   have hnr:=Hnr.out
   have hgl:=hnr.gl
   obtain ⟨hkb8,h8⟩:=eight_set Wk.heap.size (.int .i64 (k:Nat)) (.int .i64 m) (.slice a1 l1 c1) (.slice a2 l2 c2) (.slice a3 l3 c3) (.slice a4 l4 c4) (.slice a5 l5 c5) (.slice (some ⟨g,0,none⟩) k k) hnr.res
   refine leaves_marks (w.heap.size+3) Ds _ (Hmk.out.of_kb hkb8 (Nat.le_refl _) (.inl (by omega))) ?_
   intro W' hS
   have hr8:=(hS.low (w.heap.size+1+1) (by omega)).trans h8
   have q0:=cell_of_row W' _ 0 _ _ _ hr8
   have q1:=cell_of_row W' _ 1 _ _ _ hr8
   have q2:=cell_of_row W' _ 2 _ _ _ hr8
   have q3:=cell_of_row W' _ 3 _ _ _ hr8
   have q4:=cell_of_row W' _ 4 _ _ _ hr8
   have q5:=cell_of_row W' _ 5 _ _ _ hr8
   have q6:=cell_of_row W' _ 6 _ _ _ hr8
   have q7:=cell_of_row W' _ 7 _ _ _ hr8
   have hlg:=hnr.lc.lt
   have hlcW:LC W' g k D:=by
    obtain ⟨o,ho,hc⟩:=hnr.lc.isC
    have h1:=hkb8.block g hlg (by omega)
    have h2:=hS.cells g o (h1.trans ho) hc
    exact hnr.lc.of_block (h2.trans ho.symm)
   refine ⟨.agg #[.int .i64 (k:Nat),.int .i64 m,.slice a1 l1 c1,.slice a2 l2 c2,.slice a3 l3 c3,.slice a4 l4 c4,.slice a5 l5 c5,.slice (some ⟨g,0,none⟩) k k],by simp [results,Tryz.results79,go_sem,q0,q1,q2,q3,q4,q5,q6,q7],g,rfl,⟨(hS.os.trans hkb8.os).trans hnr.below.os,(hS.tape.trans hkb8.tape).trans hnr.below.tape,(hS.output.trans hkb8.output).trans hnr.below.output,Nat.le_trans (Nat.le_trans hnr.below.size hkb8.size) hS.size,fun i hi=>?_⟩,D,Hsd.out,hlcW.lead⟩
   rw [hS.low i (by omega),hkb8.block i (by omega) (by omega)]
   exact hnr.below.block i hi
 clear hK
 go_region
 ·obtain ⟨f0,_,f2,f3,f4⟩:=(five_alloc w (.cells #[.int .i64 (N:Nat),.int .i64 m,.slice a1 l1 c1,.slice a2 l2 c2,.slice a3 l3 c3] 26) (.cells #[.slice a4 l4 c4,.slice a5 l5 c5] 28) (.cells #[.int .i64 0,.int .i64 0,.slice none 0 0,.slice none 0 0,.slice none 0 0,.slice none 0 0,.slice none 0 0,.slice none 0 0] 125) (.cells (zeroW (N * 40)) 189) (.cells #[.int .i64 (N:Nat),.int .i64 m,.slice a1 l1 c1,.slice a2 l2 c2,.slice a3 l3 c3,.slice a4 l4 c4,.slice a5 l5 c5,.slice (some ⟨w.heap.size+1+1+1,0,none⟩) N N] 125))
  exact key (w.heap.size+1+1+1+1) (w.heap.size+1+1+1) _ ⟨(by repeat (first | exact Below.refl _ _ | assumption | refine below_drewN ?_ _ | refine Below.drew ?_ | refine Below.alloc ?_ (by simp <;> omega) _ | refine below_trans ?_ (by assumption))),f0,f2,f4,zero_LC f3,by omega,by omega,by omega⟩
 ·obtain ⟨f0,_,f2,f3,f4⟩:=(five_alloc w (.cells #[.int .i64 (N:Nat),.int .i64 m,.slice a1 l1 c1,.slice a2 l2 c2,.slice a3 l3 c3] 26) (.cells #[.slice a4 l4 c4,.slice a5 l5 c5] 28) (.cells #[.int .i64 0,.int .i64 0,.slice none 0 0,.slice none 0 0,.slice none 0 0,.slice none 0 0,.slice none 0 0,.slice none 0 0] 125) (.cells #[.int .i64 (N:Nat),.int .i64 m,.slice a1 l1 c1,.slice a2 l2 c2,.slice a3 l3 c3,.slice a4 l4 c4,.slice a5 l5 c5,.slice (some ⟨w.heap.size+1+1+1+1,0,none⟩) N N] 125) (.cells (zeroW (N * 40)) 189))
  exact key (w.heap.size+1+1+1) (w.heap.size+1+1+1+1) _ ⟨(by repeat (first | exact Below.refl _ _ | assumption | refine below_drewN ?_ _ | refine Below.drew ?_ | refine Below.alloc ?_ (by simp <;> omega) _ | refine below_trans ?_ (by assumption))),f0,f2,f3,zero_LC f4,by omega,by omega,by omega⟩
theorem ordS_le {a b:Stp} (h:ordS a b < 0):a.f≤b.f:=by
 unfold ordS orI cmpI at h
 by_cases h1:a.f < b.f
 ·omega
 ·by_cases h2:b.f < a.f
  ·simp [h1,h2] at h
  ·omega
theorem steps_right (n m:Int):∀ (ss:List Stp) (p:Option Stp),chkStepsFrom n m p ss=0→(∀ s ∈ ss,badS n m s=false)∧ss.Pairwise (fun a b=>a.f≤b.f)∧(∀ q,p=some q→∀ s ∈ ss,q.f≤s.f)
 | [],_,_=>⟨fun s h=>(by cases h),List.Pairwise.nil,fun q _ s h=>(by cases h)⟩
 | s :: r,p,h=>by
  unfold chkStepsFrom at h
  cases hb:badS n m s with
  | true=>rw [hb] at h;simp at h
  | false =>
   rw [hb] at h
   cases p with
   | none =>
    obtain ⟨h1,h2,h3⟩:=steps_right n m r (some s) (by simpa using h)
    refine ⟨fun x hx=>?_,List.Pairwise.cons (fun x hx=>h3 s rfl x hx) h2,fun q e=>by cases e⟩
    rcases List.mem_cons.1 hx with rfl | hx
    ·exact hb
    ·exact h1 x hx
   | some q =>
    by_cases ho:0≤ordS q s
    ·simp [ho] at h
    ·obtain ⟨h1,h2,h3⟩:=steps_right n m r (some s) (by simpa [ho] using h)
     have hq:q.f≤s.f:=ordS_le (by omega)
     refine ⟨fun x hx=>?_,List.Pairwise.cons (fun x hx=>h3 s rfl x hx) h2,fun q' e x hx=>?_⟩
     ·rcases List.mem_cons.1 hx with rfl | hx
      ·exact hb
      ·exact h1 x hx
     ·cases e
      rcases List.mem_cons.1 hx with rfl | hx
      ·exact hq
      ·have:=h3 s rfl x hx
       omega
structure Right (A:Aut):Prop where
 n1:1≤A.n
 n3:A.n≤300
 m1:1≤A.m
 m8:A.m≤8
 good:(A.good.length:Int)=A.n
 few:A.steps.length≤6000
 first:∀ x ∈ A.first,0≤x∧x < A.n
 steps:∀ s ∈ A.steps,0≤s.f∧s.f < A.n∧0≤s.l∧s.l < A.m∧0≤s.t∧s.t < A.n
 sorted:A.steps.Pairwise (fun a b=>a.f≤b.f)
theorem outB_false {n x:Int} (h:outB n x=false):0≤x∧x < n:=by
 simpa [outB] using h
theorem right_of {A:Aut} (h:chkA A=0):Right A:=by
 unfold chkA at h
 by_cases h1:A.n < 1 ∨ 300 < A.n ∨ A.m < 1 ∨ 8 < A.m
 ·rw [if_pos h1] at h;omega
 rw [if_neg h1] at h
 by_cases h2:(A.good.length:Int) ≠ A.n
 ·rw [if_pos h2] at h;omega
 rw [if_neg h2] at h
 by_cases h3:6000 < A.steps.length
 ·rw [if_pos h3] at h;omega
 rw [if_neg h3] at h
 by_cases h4:chkFirst A.n A.first ≠ 0
 ·rw [if_pos h4] at h;omega
 rw [if_neg h4] at h
 have h4':chkFirst A.n A.first=0:=by omega
 unfold chkFirst at h4'
 have h5:A.first.any (outB A.n)=false:=by
  cases hb:A.first.any (outB A.n) with
  | false=>rfl
  | true=>rw [hb] at h4';simp at h4'
 obtain ⟨g1,g2,_⟩:=steps_right A.n A.m A.steps none h
 refine ⟨by omega,by omega,by omega,by omega,by omega,by omega,fun x hx=>?_,fun s hs=>?_,g2⟩
 ·rw [List.any_eq_false] at h5
  exact outB_false (by simpa using h5 x hx)
 ·have:=g1 s hs
  unfold badS at this
  rw [Bool.or_eq_false_iff,Bool.or_eq_false_iff] at this
  have q1:=outB_false this.1.1
  have q2:=outB_false this.1.2
  have q3:=outB_false this.2
  omega
def EdgeA (A:Aut) (hs ls:List Int) (x y:Spot):Prop:=
 y.1=(if x.1+1=hs.length+ls.length then hs.length else x.1+1)∧∃ s ∈ A.steps,s.f=x.2∧s.l=lat hs ls x.1∧s.t=y.2
def TakesA (A:Aut) (hs ls:List Int):Prop:=
 ∃ i,i < A.first.length∧∃ z,Leads (EdgeA A hs ls) (0,(A.first.getD i 0).toNat) z∧A.good.getD z.2 false=true∧LeadsOn (EdgeA A hs ls) z z
def tkE (A:Aut) (hs ls:List Int):Int:=if chkA A ≠ 0 then chkA A else chk hs ls A.m
theorem lat_range {hs ls:List Int}{n:Int} (h:chk hs ls n=0) (p:Nat):0≤lat hs ls p∧lat hs ls p < n∧n≤8:=by
 unfold chk at h
 by_cases h1:n < 1 ∨ 8 < n
 ·rw [if_pos h1] at h;omega
 rw [if_neg h1] at h
 by_cases h2:4000 < hs.length ∨ 4000 < ls.length
 ·rw [if_pos h2] at h;omega
 rw [if_neg h2] at h
 by_cases h3:ls.length=0
 ·rw [if_pos h3] at h;omega
 rw [if_neg h3] at h
 have h4:(hs ++ ls).any (fun x=>decide (x < 0) || decide (n≤x))=false:=by
  cases hb:(hs ++ ls).any (fun x=>decide (x < 0) || decide (n≤x)) with
  | false=>rfl
  | true=>rw [hb] at h;simp at h
 rw [List.any_eq_false] at h4
 have key:∀ x ∈ hs ++ ls,0≤x∧x < n∧n≤8:=fun x hx=>by
  have:=h4 x hx
  simp at this
  omega
 unfold lat
 by_cases hp:p < hs.length
 ·rw [if_pos hp]
  refine key _ (List.mem_append_left _ ?_)
  simp [List.getD,hp]
 ·rw [if_neg hp]
  refine key _ (List.mem_append_right _ ?_)
  have:(p - hs.length) % ls.length < ls.length:=Nat.mod_lt _ (by omega)
  simp [List.getD,this]
theorem chk_lens {hs ls:List Int}{n:Int} (h:chk hs ls n=0):hs.length≤4000∧ls.length≤4000∧ls ≠ []:=by
 unfold chk at h
 by_cases h1:n < 1 ∨ 8 < n
 ·rw [if_pos h1] at h;omega
 rw [if_neg h1] at h
 by_cases h2:4000 < hs.length ∨ 4000 < ls.length
 ·rw [if_pos h2] at h;omega
 rw [if_neg h2] at h
 by_cases h3:ls.length=0
 ·rw [if_pos h3] at h;omega
 refine ⟨by omega,by omega,fun e=>h3 (by rw [e];rfl)⟩
theorem edge_eq {A:Aut}{R:Rn}{D:Nat→Nat→Nat→Nat}{N:Nat} (hA:Right A) (hN:(N:Int)=A.n) (hD:SD A.steps N D) (hl:∀ p,0≤lat R.hs R.ls p):Edge R D=EdgeA A R.hs R.ls:=by
 funext x y
 apply propext
 unfold Edge EdgeA nextOf
 rw [hD.2]
 have e:((lat R.hs R.ls x.1).toNat:Int)=lat R.hs R.ls x.1:=Int.toNat_of_nonneg (hl _)
 constructor
 ·rintro ⟨h1,s,hs,h2,h3,h4,h5⟩
  exact ⟨h1,s,hs,h2,by rw [h3,e],h4⟩
 ·rintro ⟨h1,s,hs,h2,h3,h4⟩
  exact ⟨h1,s,hs,h2,by rw [h3,e],h4,by have:=hA.steps s hs;omega⟩
theorem mono_getD {ss:List Stp} (h:ss.Pairwise (fun a b=>a.f≤b.f)) (i j:Nat) (hij:i≤j) (hj:j < ss.length):(ss.getD i stp0).f≤(ss.getD j stp0).f:=by
 rw [stp_getD _ _ hj,stp_getD _ _ (by omega)]
 rcases Nat.lt_or_eq_of_le hij with hlt | rfl
 ·exact List.pairwise_iff_getElem.1 h i j (by omega) hj hlt
 ·omega
theorem two_alloc (w:World) (a b:Obj):((w.alloc a).alloc b).heap[w.heap.size]?=some a∧((w.alloc a).alloc b).heap[w.heap.size+1]?=some b:=by
 refine ⟨?_,?_⟩
 ·rw [heap_alloc_old _ _ (by simp)]
  exact heap_alloc_new w a
 ·have:=heap_alloc_new (w.alloc a) b
  rwa [World.size_alloc] at this
theorem takes_any {w:World}{v hv lv:Value}{A:Aut}{hs ls:List Int} (hA:AutV w v A) (hh:IntSl w hv hs) (hl:IntSl w lv ls) (ht:Tab w) :
  Calls Tryz.prog 34 #[v,.agg #[hv,lv]] w fun e w'=>∃ b:Bool,e=.returned (.tuple #[.bool b,.int .i64 (tkE A hs ls)])∧(b=true ↔ tkE A hs ls=0∧TakesA A hs ls)∧Below w.heap.size w w':=by
 have HA:=hide (fun w1 (hb:Below w.heap.size w w1)=>autoCheck_any (hA.below hb))
 have HC:=hide (fun w1 (hb:Below w.heap.size w w1)=>check_any A.m (hh.below hb) (hl.below hb))
 obtain ⟨fv,gv,sv,rfl,h1,h2,h3⟩:=hA
 have Hall:=hide (And.intro h1 (And.intro h2 (And.intro h3 (And.intro hh (And.intro hl ht)))))
 obtain ⟨a1,c1,rfl,-⟩:=h1
 obtain ⟨a2,c2,rfl,-⟩:=h2
 obtain ⟨a3,c3,rfl,-⟩:=h3
 obtain ⟨a4,c4,rfl,-⟩:=hh
 obtain ⟨a5,c5,rfl,-⟩:=hl
 clear ht
 by_cases hc:chkA A=0
 ·by_cases hk:chk hs ls A.m=0
  ·have hR:=right_of hc
   obtain ⟨N,hN⟩:=Int.eq_ofNat_of_zero_le (show 0≤A.n from by have:=hR.n1;omega)
   have et:tkE A hs ls=0:=by unfold tkE;rw [if_neg (by omega),hk]
   rw [et]
   rw [hc] at HA
   rw [hk] at HC
   have HN:=hide (fun w1 (hb:Below w.heap.size w w1)=>newRun_any A.m a1 a2 a3 a4 a5 A.first.length A.good.length hs.length ls.length c1 c2 c3 c4 c5 N A.steps.length rfl (by have:=hR.n3;omega) (Hall.out.2.2.1.below hb) hR.few (mono_getD hR.sorted) (fun x hx=>by have:=hR.steps x hx;have:=hR.m8;omega))
   have HR:=hide hR
   have HN0:=hide hN
   rw [hN] at HA ⊢
   have Hk:=hide hk
   generalize hm:A.m=m at *
   clear hN hR et hc hk
   generalize A.first.length=L1 at *
   generalize A.good.length=L2 at *
   generalize A.steps.length=L3 at *
   go_enter Tryz.func34,Tryz.ntmps34
   go_wp2_with (fail)
   have hb0:Below w.heap.size w ((w.alloc (Obj.cells #[Value.int .i64 (N:Nat),.int .i64 m,.slice a1 L1 c1,.slice a2 L2 c2,.slice a3 L3 c3] 26)).alloc (Obj.cells #[Value.slice a4 hs.length c4,.slice a5 ls.length c5] 28)):=(by repeat (first | exact Below.refl _ _ | assumption | refine below_drewN ?_ _ | refine Below.drew ?_ | refine Below.alloc ?_ (by simp <;> omega) _ | refine below_trans ?_ (by assumption)))
   refine (HA.out _ hb0).mono ?_
   rintro e w1 ⟨rfl,hb1⟩
   have q0:=two_alloc w (Obj.cells #[Value.int .i64 (N:Nat),.int .i64 m,.slice a1 L1 c1,.slice a2 L2 c2,.slice a3 L3 c3] 26) (Obj.cells #[Value.slice a4 hs.length c4,.slice a5 ls.length c5] 28)
   have hs0:((w.alloc (Obj.cells #[Value.int .i64 (N:Nat),.int .i64 m,.slice a1 L1 c1,.slice a2 L2 c2,.slice a3 L3 c3] 26)).alloc (Obj.cells #[Value.slice a4 hs.length c4,.slice a5 ls.length c5] 28)).heap.size=w.heap.size+2:=by simp
   generalize ((w.alloc (Obj.cells #[Value.int .i64 (N:Nat),.int .i64 m,.slice a1 L1 c1,.slice a2 L2 c2,.slice a3 L3 c3] 26)).alloc (Obj.cells #[Value.slice a4 hs.length c4,.slice a5 ls.length c5] 28))=W0 at hb0 hb1 q0 hs0 ⊢
   have z0:=(hb1.block _ (by omega)).trans q0.1
   have z1:=(hb1.block _ (by omega)).trans q0.2
   have hB1:=below_trans hb0 hb1
   have hs1:=hb1.size
   clear q0
   have p0:=cell_of_row w1 _ 0 _ _ _ z0
   have p1:=cell_of_row w1 _ 1 _ _ _ z0
   have p2:=cell_of_row w1 _ 2 _ _ _ z0
   have p3:=cell_of_row w1 _ 3 _ _ _ z0
   have p4:=cell_of_row w1 _ 4 _ _ _ z0
   have p5:=cell_of_row w1 _ 0 _ _ _ z1
   have p6:=cell_of_row w1 _ 1 _ _ _ z1
   go_wp2_with (fail)
   refine (HC.out _ hB1).mono ?_
   rintro e w2 ⟨rfl,hb2⟩
   have hB2:=below_trans hB1 hb2
   have hs2:=hb2.size
   have y0:=(hb2.block _ (by omega)).trans z0
   have y1:=(hb2.block _ (by omega)).trans z1
   clear p0 p1 p2 p3 p4 p5 p6
   have p0:=cell_of_row w2 _ 0 _ _ _ y0
   have p1:=cell_of_row w2 _ 1 _ _ _ y0
   have p2:=cell_of_row w2 _ 2 _ _ _ y0
   have p3:=cell_of_row w2 _ 3 _ _ _ y0
   have p4:=cell_of_row w2 _ 4 _ _ _ y0
   have p5:=cell_of_row w2 _ 0 _ _ _ y1
   have p6:=cell_of_row w2 _ 1 _ _ _ y1
   go_wp2_with (fail)
   refine (HN.out _ hB2).mono ?_
   rintro e w3 ⟨g,D,rfl,hb3,hD,hcell⟩
   have hB3:=below_trans hB2 hb3
   obtain ⟨i1,i2,i3,i4,i5,hT⟩:=Hall.out
   have hlr:=fun p=>lat_range Hk.out p
   have hlen:=chk_lens Hk.out
   have hRn:RnOk w3 ⟨N,m,a1,L1,c1,a2,L2,c2,a3,L3,c3,a4,c4,a5,c5,g,N,hs,ls⟩ D:=
    ⟨i4.below hB3,i5.below hB3,hlen.1,hlen.2.1,hlen.2.2,by have:=HR.out.n3;have:=HN0.out;dsimp only;omega,fun p=>⟨(hlr p).1,by have:=hlr p;dsimp only;omega⟩,hcell,hD.1,fun s l t ht=>by
     obtain ⟨x,hx,_,_,h,_⟩:=(hD.2 s l t).1 ht
     have:=HR.out.steps x hx
     have:=HN0.out
     dsimp only
     omega⟩
   have hT2:=hide (runTakes_any (gs:=A.good) (fs:=A.first) ⟨N,m,a1,L1,c1,a2,L2,c2,a3,L3,c3,a4,c4,a5,c5,g,N,hs,ls⟩ D hRn (hT.below hB3) ⟨i2.below hB3,by have:=HR.out.good;have:=HN0.out;dsimp only;omega⟩ (i1.below hB3) (fun i hi=>by
    have:=HR.out.first (A.first.getD i 0) (by simp [List.getD,hi])
    have:=HN0.out
    dsimp only
    omega))
   have hE:=edge_eq HR.out HN0.out.symm hD (R:=⟨N,m,a1,L1,c1,a2,L2,c2,a3,L3,c3,a4,c4,a5,c5,g,N,hs,ls⟩) (fun p=>(hlr p).1)
   have HE:=hide hE
   clear hE hRn hcell hD hlr hlen i1 i2 i3 i4 i5 hT p0 p1 p2 p3 p4 p5 p6
   unfold rnV at hT2
   dsimp only at hT2
   go_wp2_with (fail)
   refine hT2.out.mono ?_
   rintro e w4 ⟨b,rfl,hb,hb4⟩
   have hB4:=below_trans hB3 hb4
   have Hb:=hide hb
   clear hb hT2
   go_wp2_with (fail)
   refine bodyPost_ret (v:=.tuple #[.bool b,.int .i64 0]) (by simp [results,Tryz.results34,go_sem]) rfl ?_
   refine ⟨b,rfl,?_,hB4⟩
   rw [Hb.out]
   unfold RunTakes Found TakesA
   rw [HE.out]
   simp
  ·have et:tkE A hs ls=chk hs ls A.m:=by unfold tkE;rw [if_neg (by omega)]
   rw [et]
   rw [hc] at HA
   generalize chk hs ls A.m=c at *
   generalize hm:A.m=m at *
   generalize hn:A.n=n at *
   clear et hc
   generalize A.first.length=L1 at *
   generalize A.good.length=L2 at *
   generalize A.steps.length=L3 at *
   clear Hall
   go_enter Tryz.func34,Tryz.ntmps34
   go_wp2_with (fail)
   have hb0:Below w.heap.size w ((w.alloc (Obj.cells #[Value.int .i64 n,.int .i64 m,.slice a1 L1 c1,.slice a2 L2 c2,.slice a3 L3 c3] 26)).alloc (Obj.cells #[Value.slice a4 hs.length c4,.slice a5 ls.length c5] 28)):=(by repeat (first | exact Below.refl _ _ | assumption | refine below_drewN ?_ _ | refine Below.drew ?_ | refine Below.alloc ?_ (by simp <;> omega) _ | refine below_trans ?_ (by assumption)))
   refine (HA.out _ hb0).mono ?_
   rintro e w1 ⟨rfl,hb1⟩
   have q0:=two_alloc w (Obj.cells #[Value.int .i64 n,.int .i64 m,.slice a1 L1 c1,.slice a2 L2 c2,.slice a3 L3 c3] 26) (Obj.cells #[Value.slice a4 hs.length c4,.slice a5 ls.length c5] 28)
   have hs0:((w.alloc (Obj.cells #[Value.int .i64 n,.int .i64 m,.slice a1 L1 c1,.slice a2 L2 c2,.slice a3 L3 c3] 26)).alloc (Obj.cells #[Value.slice a4 hs.length c4,.slice a5 ls.length c5] 28)).heap.size=w.heap.size+2:=by simp
   generalize ((w.alloc (Obj.cells #[Value.int .i64 n,.int .i64 m,.slice a1 L1 c1,.slice a2 L2 c2,.slice a3 L3 c3] 26)).alloc (Obj.cells #[Value.slice a4 hs.length c4,.slice a5 ls.length c5] 28))=W0 at hb0 hb1 q0 hs0 ⊢
   have z0:=(hb1.block _ (by omega)).trans q0.1
   have z1:=(hb1.block _ (by omega)).trans q0.2
   have hB1:=below_trans hb0 hb1
   have hs1:=hb1.size
   clear q0
   have p0:=cell_of_row w1 _ 0 _ _ _ z0
   have p1:=cell_of_row w1 _ 1 _ _ _ z0
   have p2:=cell_of_row w1 _ 2 _ _ _ z0
   have p3:=cell_of_row w1 _ 3 _ _ _ z0
   have p4:=cell_of_row w1 _ 4 _ _ _ z0
   have p5:=cell_of_row w1 _ 0 _ _ _ z1
   have p6:=cell_of_row w1 _ 1 _ _ _ z1
   go_wp2_with (fail)
   refine (HC.out _ hB1).mono ?_
   rintro e w2 ⟨rfl,hb2⟩
   have hB2:=below_trans hB1 hb2
   have hs2:=hb2.size
   go_wp2_with (fail)
   refine bodyPost_ret (v:=.tuple #[.bool false,.int .i64 c]) (by simp [results,Tryz.results34,go_sem]) rfl ?_
   exact ⟨false,rfl,by simp [hk],hB2⟩
 ·have et:tkE A hs ls=chkA A:=by unfold tkE;rw [if_pos hc]
  rw [et]
  generalize chkA A=c at *
  generalize hm:A.m=m at *
  generalize hn:A.n=n at *
  clear et Hall HC
  generalize A.first.length=L1 at *
  generalize A.good.length=L2 at *
  generalize A.steps.length=L3 at *
  go_enter Tryz.func34,Tryz.ntmps34
  go_wp2_with (fail)
  have hb0:Below w.heap.size w ((w.alloc (Obj.cells #[Value.int .i64 n,.int .i64 m,.slice a1 L1 c1,.slice a2 L2 c2,.slice a3 L3 c3] 26)).alloc (Obj.cells #[Value.slice a4 hs.length c4,.slice a5 ls.length c5] 28)):=(by repeat (first | exact Below.refl _ _ | assumption | refine below_drewN ?_ _ | refine Below.drew ?_ | refine Below.alloc ?_ (by simp <;> omega) _ | refine below_trans ?_ (by assumption)))
  refine (HA.out _ hb0).mono ?_
  rintro e w1 ⟨rfl,hb1⟩
  have q0:=two_alloc w (Obj.cells #[Value.int .i64 n,.int .i64 m,.slice a1 L1 c1,.slice a2 L2 c2,.slice a3 L3 c3] 26) (Obj.cells #[Value.slice a4 hs.length c4,.slice a5 ls.length c5] 28)
  have hs0:((w.alloc (Obj.cells #[Value.int .i64 n,.int .i64 m,.slice a1 L1 c1,.slice a2 L2 c2,.slice a3 L3 c3] 26)).alloc (Obj.cells #[Value.slice a4 hs.length c4,.slice a5 ls.length c5] 28)).heap.size=w.heap.size+2:=by simp
  generalize ((w.alloc (Obj.cells #[Value.int .i64 n,.int .i64 m,.slice a1 L1 c1,.slice a2 L2 c2,.slice a3 L3 c3] 26)).alloc (Obj.cells #[Value.slice a4 hs.length c4,.slice a5 ls.length c5] 28))=W0 at hb0 hb1 q0 hs0 ⊢
  have z0:=(hb1.block _ (by omega)).trans q0.1
  have z1:=(hb1.block _ (by omega)).trans q0.2
  have hB1:=below_trans hb0 hb1
  have hs1:=hb1.size
  clear q0
  have p0:=cell_of_row w1 _ 0 _ _ _ z0
  have p1:=cell_of_row w1 _ 1 _ _ _ z0
  have p2:=cell_of_row w1 _ 2 _ _ _ z0
  have p3:=cell_of_row w1 _ 3 _ _ _ z0
  have p4:=cell_of_row w1 _ 4 _ _ _ z0
  have p5:=cell_of_row w1 _ 0 _ _ _ z1
  have p6:=cell_of_row w1 _ 1 _ _ _ z1
  go_wp2_with (fail)
  refine bodyPost_ret (v:=.tuple #[.bool false,.int .i64 c]) (by simp [results,Tryz.results34,go_sem]) rfl ?_
  exact ⟨false,rfl,by simp [hc],hB1⟩
end Go.Proofs.YtpiacnnifdjlkabGreatDoor
