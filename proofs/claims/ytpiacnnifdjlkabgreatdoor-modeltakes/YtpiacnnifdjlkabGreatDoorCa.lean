import Derived.Test.YtpiacnnifdjlkabGreatDoorBw
import Derived.Carry
import Derived.RangeFuncNested
import Derived.RangeFuncBound
import Derived.RangeFuncCalls
import Derived.RangeFuncLeaves
import Derived.OwnWalkIn
import Derived.TacticsInMore
import Derived.LoopNIn
import Derived.LoopIn
import Derived.OrdersIn
set_option maxRecDepth 100000
set_option maxHeartbeats 8000000
namespace Go.Proofs.YtpiacnnifdjlkabGreatDoor
open Go.RowKit Go.Sort
def POut (R:Rn) (D:Nat→Nat→Nat→Nat) (gs:List Bool) (rI:Nat) (done:Spot→Prop) (w:World):Prop:=
 ∃ MI,MetAt w rI MI∧Dfs (Edge R D) (inM MI) (inM MI) []∧(∀ z,inM MI z→∃ s,done s∧gs.getD s.2 false=true∧Leads (Edge R D) s z)∧(∀ s,done s→gs.getD s.2 false=true→¬ LeadsOn (Edge R D) s s)
def Found (R:Rn) (D:Nat→Nat→Nat→Nat) (gs:List Bool) (frm:Spot):Prop:=∃ z,Leads (Edge R D) frm z∧gs.getD z.2 false=true∧LeadsOn (Edge R D) z z
theorem outerSearch_any {w:World}{rO rI:Nat}{MO:Nat→Nat→Nat}{gs:List Bool} (R:Rn) (D:Nat→Nat→Nat→Nat) (frm:Spot) (B1 B4:Nat) (hb1:RunAt w B1 R) (hb4:VarAt w B4 (.map (some rI))) (hR:RnOk w R D) (ht:Tab w) (hg:GoodAt w R gs) (hM:MetAt w rO MO)
  (hD:Dfs (Edge R D) (inM MO) (inM MO) []) (hP:POut R D gs rI (inM MO) w) (hne:rO ≠ rI) (hx:InR R frm) :
  Calls Tryz.prog 130 #[rnV R,.agg #[.int .i64 frm.1,.int .i64 frm.2],.map (some rO),.func (.func 131) #[] #[.pointer (some ⟨B1,0,none⟩),.pointer (some ⟨B4,0,none⟩)]] w fun e w' =>
   ∃ b,e=.returned (.bool b)∧Fr [rO,rI] w w'∧(b=true→Found R D gs frm) ∧
    (b=false→∃ M,MetAt w' rO M∧Dfs (Edge R D) (inM M) (inM M) []∧POut R D gs rI (inM M) w'∧(∀ z,inM MO z→inM M z)∧inM M frm):=by
 have hLI:IsMap w rI:=let ⟨_,h,_⟩:=hP;h.isMap
 have hLm:∀ k,k ∈ [rO,rI]→IsMap w k:=fun k hk=>by
  have:k=rO ∨ k=rI:=by simpa using hk
  rcases this with rfl | rfl
  ·exact hM.isMap
  ·exact hLI
 have hrI:rI < w.heap.size:=let ⟨_,h,_⟩:=hP;h.lt
 refine (search_any (w:=w) (r:=rO) (M0:=MO) R D [rI] 131 #[.pointer (some ⟨B1,0,none⟩),.pointer (some ⟨B4,0,none⟩)] frm (Found R D gs frm) (POut R D gs rI)
  (fun w1 h=>hR.frM h hLm) (fun w1 h=>ht.frM h hLm) hM hD hP hx ?_ (fun k hk=>by rw [List.mem_singleton.1 hk];exact hrI) (by simpa using hne) callF_outer ?_).mono ?_
 ·rintro done w1 w2 RR ⟨MI,h1,h2⟩ hf hk
  exact ⟨MI,h1.fr hf (fun hm=>by rcases hk _ hm with h | h;exact hne h.symm;omega),h2⟩
 ·intro done path x M w1 hf hm hd hl hall hz hp
  obtain ⟨MI,hMI,hDI,hI,hno⟩:=hp
  refine (outer_any R D x B1 B4 (hb1.frM hf hLm) (hb4.frM hf hLm) (hR.frM hf hLm) (ht.frM hf hLm) ⟨hg.1.frM hf hLm,hg.2⟩ hMI hDI hz).mono ?_
  rintro e w' ⟨b,rfl,hf',h1,h2⟩
  refine ⟨b,rfl,hf',fun h=>⟨x,hl,h1 h⟩,fun h=>?_⟩
  obtain ⟨M',a1,a2,a3,a4,a5⟩:=h2 h
  cases hgx:gs.getD x.2 false with
  | false =>
   have:=a4 hgx
   subst this
   refine ⟨M',a1,a2,fun z hz=>?_,?_⟩
   ·obtain ⟨s,s1,s2,s3⟩:=hI z hz
    exact ⟨s,Or.inl s1,s2,s3⟩
   ·rintro s (s1 | rfl) s2
    ·exact hno s s1 s2
    ·rw [hgx] at s2;cases s2
  | true =>
   obtain ⟨b1,b2,b3⟩:=a5 hgx
   refine ⟨M',a1,a2,fun z hz=>?_,?_⟩
   ·rcases b2 z hz with h | h
    ·obtain ⟨s,s1,s2,s3⟩:=hI z h
     exact ⟨s,Or.inl s1,s2,s3⟩
    ·exact ⟨x,Or.inr rfl,hgx,h⟩
   ·rintro s (s1 | rfl) s2
    ·exact hno s s1 s2
    ·exact no_circle (good:=fun z=>gs.getD z.2 false=true) (I:=inM MI) (I':=inM M') hd hI hno (fun u v hu he=>a2.closed u v hu he) b3 (fun u hu hn=>b1 u hu hn)
 ·rintro e w' ⟨b,rfl,hf,h1,h2⟩
  refine ⟨b,rfl,hf,h1,fun h=>?_⟩
  obtain ⟨M,a1,a2,a3,a4,a5,a6⟩:=h2 h
  exact ⟨M,a1,a2,a3,a5,a6⟩
theorem first_any {w:World}{rO rI:Nat}{MO:Nat→Nat→Nat}{gs:List Bool} (R:Rn) (D:Nat→Nat→Nat→Nat) (f:Nat) (B1 B3 B4:Nat) (hb1:RunAt w B1 R) (hb3:VarAt w B3 (.map (some rO))) (hb4:VarAt w B4 (.map (some rI))) (hR:RnOk w R D) (ht:Tab w) (hg:GoodAt w R gs) (hM:MetAt w rO MO)
  (hD:Dfs (Edge R D) (inM MO) (inM MO) []) (hP:POut R D gs rI (inM MO) w) (hne:rO ≠ rI) (hx:InR R (0,f)) :
  Calls Tryz.prog 129 #[.int .i64 f,.pointer (some ⟨B1,0,none⟩),.pointer (some ⟨B3,0,none⟩),.pointer (some ⟨B4,0,none⟩)] w fun e w' =>
   ∃ b,e=.returned (.bool b)∧Fr [rO,rI] w w'∧(b=true→Found R D gs (0,f)) ∧
    (b=false→∃ M,MetAt w' rO M∧Dfs (Edge R D) (inM M) (inM M) []∧POut R D gs rI (inM M) w'∧(∀ z,inM MO z→inM M z)∧inM M (0,f)):=by
 have HS:=hide (outerSearch_any R D (0,f) B1 B4 hb1 hb4 hR ht hg hM hD hP hne hx)
 have e1:∀ j,w.cell? ⟨B1,j,none⟩=_:=fun j=>cell_of_row w B1 j _ _ _ hb1
 have e3:w.cell? ⟨B3,0,none⟩=some (.map (some rO)):=cell_of_row w B3 0 _ _ _ hb3
 have k0:=e1 0
 have k1:=e1 1
 have k2:=e1 2
 have k3:=e1 3
 have k4:=e1 4
 have k5:=e1 5
 have k6:=e1 6
 have k7:=e1 7
 clear hb1 hb3 hb4 hR ht hg hM hD hP hne hx e1
 unfold rnV at HS
 go_enter Tryz.func129,Tryz.ntmps129
 go_wp2_with (fail)
 refine Calls.mono HS.out ?_
 rintro e w1 ⟨b,rfl,hf,ht,hfa⟩
 have Ht:=hide ht
 have Hfa:=hide hfa
 clear ht hfa
 go_wp2
 go_ret
 exact ⟨b,rfl,hf,Ht.out,Hfa.out⟩
theorem indexFunc_st (n b off cap F:Nat) (caps:Array Value) (f:Nat→Int) (w:World) (Inv:Nat→World→Prop) (T:World→Prop) (hm:n≤maxLen) (hF:∀ args w,(callFunc F args).run Tryz.prog w=.ok (.enter F args) w)
  (h0:Inv 0 w) (hx:∀ k w1,Inv k w1→∀ i,i < n→w1.cell? ⟨b,off+i,none⟩=some (.int .i64 (f i)))
  (hp:∀ i,i < n→∀ w1,Inv i w1→Calls Tryz.prog F (#[.int .i64 (f i)] ++ caps) w1 fun e w'=>∃ b,e=.returned (.bool b)∧(b=true→T w')∧(b=false→Inv (i+1) w')) :
  Calls Tryz.prog 146 #[.slice (some ⟨b,off,none⟩) n cap,.func (.func F) #[] caps] w fun e w'=>∃ r:Int,e=.returned (.int .i64 r)∧(0≤r→T w')∧(r < 0→Inv n w'):=by
 unfold maxLen at hm
 have Hp:=hide hp
 have Hx:=hide hx
 have H0:=hide h0
 clear hp hx h0
 go_enter Tryz.func146,Tryz.ntmps146
 go_wp2
 go_loopw [8] (fun i wr=>∃ k:Nat,k≤n∧i=.int .i64 k∧Inv k wr) (fun i _=>n - (intOf i).toNat)
 case atStart=>exact ⟨0,Nat.zero_le _,rfl,H0.out⟩
 case round =>
  obtain ⟨k,hk,rfl,hinv⟩:=hrel
  have Hinv:=hide hinv
  clear hinv
  by_cases hlt:k < n
  ·have hx':=Hx.out k wr Hinv.out k hlt
   go_wp2_with (fail)
   refine (Hp.out k hlt wr Hinv.out).mono ?_
   rintro e w1 ⟨pk,rfl,h1,h2⟩
   have H1:=hide h1
   have H2:=hide h2
   clear h1 h2
   cases pk with
   | false =>
    go_wp2
    go_roundw
    case rel=>exact ⟨k+1,by omega,by go_num,by first | exact H2.out rfl | exact H2.out trivial⟩
    case measure=>simp [intOf];omega
   | true =>
    go_wp2
    go_ret
    exact ⟨k,rfl,(fun _=>by first | exact H1.out rfl | exact H1.out trivial),fun h=>by omega⟩
  ·go_wp2
   go_ret
   have:k=n:=by omega
   subst this
   exact ⟨-1,rfl,(fun h=>by omega),fun _=>Hinv.out⟩
theorem indexFunc_zero2 (a:Option Addr) (cap:Nat) (fv:Value) (w:World) :
  Calls Tryz.prog 146 #[.slice a 0 cap,fv] w fun e w'=>e=.returned (.int .i64 (-1))∧w'=w:=by
 go_enter Tryz.func146,Tryz.ntmps146
 go_wp2
 refine wp_loop_rounds 1 ?_;rw [rounds_succ]
 go_wp2
 go_ret
 exact ⟨rfl,rfl⟩
theorem containsFunc_st {v:Value}{zs:List Int}{w:World} (F:Nat) (caps:Array Value) (Inv:Nat→World→Prop) (T:World→Prop) (hF:∀ args w,(callFunc F args).run Tryz.prog w=.ok (.enter F args) w)
  (h0:Inv 0 w) (hv:∀ k w1,Inv k w1→IntSl w1 v zs)
  (hp:∀ i,i < zs.length→∀ w1,Inv i w1→Calls Tryz.prog F (#[.int .i64 (zs.getD i 0)] ++ caps) w1 fun e w'=>∃ b,e=.returned (.bool b)∧(b=true→T w')∧(b=false→Inv (i+1) w')) :
  Calls Tryz.prog 93 #[v,.func (.func F) #[] caps] w fun e w'=>∃ b,e=.returned (.bool b)∧(b=true→T w')∧(b=false→Inv zs.length w'):=by
 have H:Calls Tryz.prog 146 #[v,.func (.func F) #[] caps] w fun e w'=>∃ r:Int,e=.returned (.int .i64 r)∧(0≤r→T w')∧(r < 0→Inv zs.length w'):=by
  obtain ⟨a,cap,rfl,hm,h,hn,hn2⟩:=hv 0 w h0
  rcases h with rfl | ⟨b,off,rfl,hc⟩
  ·refine (indexFunc_zero2 a cap _ w).mono ?_
   rintro e w' ⟨rfl,rfl⟩
   exact ⟨-1,rfl,(fun h=>by omega),fun _=>h0⟩
  ·refine indexFunc_st zs.length b off cap F caps (fun i=>zs.getD i 0) w Inv T hm hF h0 (fun k w1 hi i hlt=>?_) hp
   obtain ⟨a',cap',he,hm',h',_⟩:=hv k w1 hi
   rcases h' with rfl | ⟨b',off',rfl,hc'⟩
   ·simp at hlt
   ·cases he;exact hc' i hlt
 have HH:=hide H
 clear H hp hF hv h0
 go_enter Tryz.func93,Tryz.ntmps93
 go_wp2_with (fail)
 refine Calls.mono HH.out ?_
 rintro e w1 ⟨r,rfl,h1,h2⟩
 have H1:=hide h1
 have H2:=hide h2
 clear h1 h2
 go_wp2
 go_ret
 refine ⟨decide (0≤r),rfl,fun h=>H1.out (by simpa using h),fun h=>H2.out (by simpa using h)⟩
theorem callF_first:∀ args w,(callFunc 129 args).run Tryz.prog w=.ok (.enter 129 args) w:=Tryz.call129
structure TInv (R:Rn) (D:Nat→Nat→Nat→Nat) (gs:List Bool) (fs:List Int) (W:World) (rO rI k:Nat) (w:World):Prop where
 fr:Fr [rO,rI] W w
 met:∃ M,MetAt w rO M∧Dfs (Edge R D) (inM M) (inM M) []∧POut R D gs rI (inM M) w∧∀ i,i < k→inM M (0,(fs.getD i 0).toNat)
def RunTakes (R:Rn) (D:Nat→Nat→Nat→Nat) (gs:List Bool) (fs:List Int):Prop:=∃ i,i < fs.length∧Found R D gs (0,(fs.getD i 0).toNat)
theorem TInv.none {R:Rn}{D:Nat→Nat→Nat→Nat}{gs:List Bool}{fs:List Int}{W:World}{rO rI:Nat}{w:World} (h:TInv R D gs fs W rO rI fs.length w):¬ RunTakes R D gs fs:=by
 rintro ⟨i,hi,z,h1,h2,h3⟩
 obtain ⟨M,_,hd,⟨MI,_,_,_,hno⟩,hin⟩:=h.met
 have hz:inM M z:=closed_leads (S:=inM M) (fun x y hx he=>hd.closed x y hx he) h1 (hin i hi)
 exact hno z hz h2 h3
theorem takesAll_any {W:World}{rO rI:Nat}{gs:List Bool}{fs:List Int} (R:Rn) (D:Nat→Nat→Nat→Nat) (B1 B3 B4:Nat) (hb1:RunAt W B1 R) (hb3:VarAt W B3 (.map (some rO))) (hb4:VarAt W B4 (.map (some rI))) (hR:RnOk W R D) (ht:Tab W) (hg:GoodAt W R gs) (hf:IntSl W (.slice R.a1 R.l1 R.c1) fs)
  (hin:∀ i,i < fs.length→0≤fs.getD i 0∧fs.getD i 0 < R.N) (hO:MetAt W rO (fun _ _=>0)) (hI:MetAt W rI (fun _ _=>0)) (hne:rO ≠ rI) :
  Calls Tryz.prog 93 #[.slice R.a1 R.l1 R.c1,.func (.func 129) #[] #[.pointer (some ⟨B1,0,none⟩),.pointer (some ⟨B3,0,none⟩),.pointer (some ⟨B4,0,none⟩)]] W fun e w' =>
   ∃ b,e=.returned (.bool b)∧(b=true ↔ RunTakes R D gs fs)∧Fr [rO,rI] W w':=by
 have hempty:∀ z,¬ inM (fun _ _=>0) z:=fun z h=>by unfold inM inB at h;simp at h
 have hLm:∀ k,k ∈ [rO,rI]→IsMap W k:=fun k hk=>by
  have:k=rO ∨ k=rI:=by simpa using hk
  rcases this with rfl | rfl
  ·exact hO.isMap
  ·exact hI.isMap
 have hd0:Dfs (Edge R D) (inM fun _ _=>0) (inM fun _ _=>0) []:=
  ⟨fun x hx=>by (cases hx),fun x hx=>absurd hx (hempty x),fun x hx=>hx,fun x y hx _=>absurd hx (hempty x),trivial,List.nodup_nil,fun x hx _=>absurd hx (hempty x)⟩
 refine (containsFunc_st (zs:=fs) 129 _ (TInv R D gs fs W rO rI) (fun w'=>RunTakes R D gs fs∧Fr [rO,rI] W w') callF_first ?_ ?_ ?_).mono ?_
 ·exact ⟨Fr.refl _ _,fun _ _=>0,hO,hd0,⟨fun _ _=>0,hI,hd0,fun z hz=>absurd hz (hempty z),fun z hz=>absurd hz (hempty z)⟩,fun i hi=>by omega⟩
 ·intro k w1 h
  exact hf.frM h.fr hLm
 ·intro i hi w1 h
  obtain ⟨hi0,hi1⟩:=hin i hi
  obtain ⟨M,hM,hD,hP,hk⟩:=h.met
  have hlen:0 < R.hs.length+R.ls.length:=by have:=List.length_pos_iff.2 hR.lpos;omega
  have h1:=first_any R D (fs.getD i 0).toNat B1 B3 B4 (hb1.frM h.fr hLm) (hb3.frM h.fr hLm) (hb4.frM h.fr hLm) (hR.frM h.fr hLm) (ht.frM h.fr hLm) ⟨hg.1.frM h.fr hLm,hg.2⟩ hM hD hP hne ⟨hlen,by dsimp only;omega⟩
  rw [Int.toNat_of_nonneg hi0] at h1
  refine h1.mono ?_
  rintro e w' ⟨b,rfl,hf',ht',hfa⟩
  refine ⟨b,rfl,fun hb=>⟨⟨i,hi,ht' hb⟩,h.fr.trans hf'⟩,fun hb=>?_⟩
  obtain ⟨M',a1,a2,a3,a4,a5⟩:=hfa hb
  refine ⟨h.fr.trans hf',M',a1,a2,a3,fun j hj=>?_⟩
  by_cases e:j=i
  ·subst e;exact a5
  ·exact a4 _ (hk j (by omega))
 ·rintro e w' ⟨b,rfl,h1,h2⟩
  cases b with
  | true=>exact ⟨true,rfl,⟨fun _=>(h1 rfl).1,fun _=>rfl⟩,(h1 rfl).2⟩
  | false=>exact ⟨false,rfl,⟨(fun h=>by cases h),fun h=>absurd h (h2 rfl).none⟩,(h2 rfl).fr⟩
theorem five_alloc (w:World) (a b c d e:Obj):(((((w.alloc a).alloc b).alloc c).alloc d).alloc e).heap[w.heap.size]?=some a∧(((((w.alloc a).alloc b).alloc c).alloc d).alloc e).heap[w.heap.size+1]?=some b∧(((((w.alloc a).alloc b).alloc c).alloc d).alloc e).heap[w.heap.size+1+1]?=some c ∧
  (((((w.alloc a).alloc b).alloc c).alloc d).alloc e).heap[w.heap.size+1+1+1]?=some d∧(((((w.alloc a).alloc b).alloc c).alloc d).alloc e).heap[w.heap.size+1+1+1+1]?=some e:=by
 refine ⟨?_,?_,?_,?_,?_⟩
 ·rw [heap_alloc_old _ _ (by simp;omega),heap_alloc_old _ _ (by simp;omega),heap_alloc_old _ _ (by simp;omega),heap_alloc_old _ _ (by simp)]
  exact heap_alloc_new w a
 ·rw [heap_alloc_old _ _ (by simp),heap_alloc_old _ _ (by simp),heap_alloc_old _ _ (by simp)]
  have:=heap_alloc_new (w.alloc a) b
  rwa [World.size_alloc] at this
 ·rw [heap_alloc_old _ _ (by simp),heap_alloc_old _ _ (by simp)]
  have:=heap_alloc_new ((w.alloc a).alloc b) c
  rwa [World.size_alloc,World.size_alloc] at this
 ·rw [heap_alloc_old _ _ (by simp)]
  have:=heap_alloc_new (((w.alloc a).alloc b).alloc c) d
  rwa [World.size_alloc,World.size_alloc,World.size_alloc] at this
 ·have:=heap_alloc_new ((((w.alloc a).alloc b).alloc c).alloc d) e
  rwa [World.size_alloc,World.size_alloc,World.size_alloc,World.size_alloc] at this
theorem MetAt.new {w:World}{r:Nat} (h:w.heap[r]?=some (.map #[] 0)):MetAt w r (fun _ _=>0):=
 ⟨fun _ _=>by show 0 < _;decide,#[],0,h,fun e he=>by simp at he,fun _ _=>rfl,by simp⟩
theorem Fr.toBelow {L:List Nat}{w w':World}{n:Nat} (h:Fr L w w') (hL:∀ k,k ∈ L→n≤k) (hn:n≤w.heap.size):Below n w w':=
 ⟨h.os,h.tape,h.output,h.size,fun k hk=>h.block k (by omega) (fun hm=>by have:=hL k hm;omega)⟩
theorem runTakes_any {w:World}{gs:List Bool}{fs:List Int} (R:Rn) (D:Nat→Nat→Nat→Nat) (hR:RnOk w R D) (ht:Tab w) (hg:GoodAt w R gs) (hf:IntSl w (.slice R.a1 R.l1 R.c1) fs)
  (hin:∀ i,i < fs.length→0≤fs.getD i 0∧fs.getD i 0 < R.N) :
  Calls Tryz.prog 80 #[rnV R] w fun e w'=>∃ b,e=.returned (.bool b)∧(b=true ↔ RunTakes R D gs fs)∧Below w.heap.size w w':=by
 have hmm:=@run_makeMap Tryz.prog
 have Hall:=hide (And.intro hR (And.intro ht (And.intro hg (And.intro hf hin))))
 clear hR ht hg hf hin
 unfold rnV
 go_enter Tryz.func80,Tryz.ntmps80
 go_wp2_with (fail)
 obtain ⟨hR,ht,hg,hf,hin⟩:=Hall.out
 generalize hW:((((w.alloc (Obj.cells #[Value.int .i64 R.n,.int .i64 R.m,.slice R.a1 R.l1 R.c1,.slice R.a2 R.l2 R.c2,.slice R.a3 R.l3 R.c3,.slice R.a4 R.hs.length R.c4,.slice R.a5 R.ls.length R.c5,.slice (some ⟨R.g,0,none⟩) R.N R.N] 125)).alloc (Obj.map #[] 0)).alloc (Obj.map #[] 0)).alloc (Obj.cells #[Value.map (some (w.heap.size+1))] 192)).alloc (Obj.cells #[Value.map (some (w.heap.size+1+1))] 192)=W
 have hbW:Below w.heap.size w W:=by rw [← hW];exact (by repeat (first | exact Below.refl _ _ | assumption | refine below_drewN ?_ _ | refine Below.drew ?_ | refine Below.alloc ?_ (by simp <;> omega) _ | refine below_trans ?_ (by assumption)))
 have hsW:W.heap.size=w.heap.size+5:=by rw [← hW];simp
 obtain ⟨b1,x1,x2,b3,b4⟩:=five_alloc w (Obj.cells #[Value.int .i64 R.n,.int .i64 R.m,.slice R.a1 R.l1 R.c1,.slice R.a2 R.l2 R.c2,.slice R.a3 R.l3 R.c3,.slice R.a4 R.hs.length R.c4,.slice R.a5 R.ls.length R.c5,.slice (some ⟨R.g,0,none⟩) R.N R.N] 125) (Obj.map #[] 0) (Obj.map #[] 0) (Obj.cells #[Value.map (some (w.heap.size+1))] 192) (Obj.cells #[Value.map (some (w.heap.size+1+1))] 192)
 rw [hW] at b1 x1 x2 b3 b4
 have m1:=MetAt.new x1
 have m2:=MetAt.new x2
 refine (takesAll_any R D w.heap.size (w.heap.size+1+1+1) (w.heap.size+1+1+1+1) b1 b3 b4 (hR.below hbW) (ht.below hbW) ⟨hg.1.below hbW,hg.2⟩ (hf.below hbW) hin m1 m2 (by omega)).mono ?_
 rintro e w1 ⟨b,rfl,hb,hfr⟩
 have Hb:=hide hb
 have hbe:Below w.heap.size w w1:=by
  refine hbW.trans ?_
  exact hfr.toBelow (fun k hk=>by rcases List.mem_cons.1 hk with rfl | hk;omega;have:=List.mem_singleton.1 hk;omega) (by omega)
 clear hb hR ht hg hf hin hW hbW hsW b1 b3 b4 x1 x2 m1 m2 hfr
 go_wp2
 go_ret
 exact ⟨b,rfl,Hb.out,hbe⟩
theorem fromCmp_any (s:Stp) (st:Int) (w:World) :
  Calls Tryz.prog 152 #[.agg #[.int .i64 s.f,.int .i64 s.l,.int .i64 s.t],.int .i64 st] w fun e w'=>e=.returned (.int .i64 (cmpI s.f st))∧Below w.heap.size w w':=by
 have HC:=hide (fun w1=>compare_any s.f st w1)
 generalize cmpI s.f st=c at *
 go_enter Tryz.func152,Tryz.ntmps152
 go_wp2_with (fail)
 refine (HC.out _).mono ?_
 rintro e w1 ⟨rfl,rfl⟩
 go_wp2
 go_ret
 exact ⟨rfl,(by repeat (first | exact Below.refl _ _ | assumption | refine below_drewN ?_ _ | refine Below.drew ?_ | refine Below.alloc ?_ (by simp <;> omega) _ | refine below_trans ?_ (by assumption)))⟩
theorem bsf_go (ss:List Stp) (b off cap:Nat) (st:Int) (w:World) (hlen:ss.length≤1000000000)
  (hc:∀ i,i < ss.length→w.cell? ⟨b,off+i * 3,none⟩=some (.int .i64 (ss.getD i stp0).f)∧w.cell? ⟨b,off+i * 3+1,none⟩=some (.int .i64 (ss.getD i stp0).l)∧w.cell? ⟨b,off+i * 3+2,none⟩=some (.int .i64 (ss.getD i stp0).t))
  (hmono:∀ i j,i≤j→j < ss.length→(ss.getD i stp0).f≤(ss.getD j stp0).f) :
  Calls Tryz.prog 151 #[.slice (some ⟨b,off,none⟩) ss.length cap,.int .i64 st,.func (.func 152) #[] #[]] w fun e w' =>
   ∃ (k:Nat) (q:Bool),e=.returned (.tuple #[.int .i64 k,.bool q])∧k≤ss.length∧(∀ j,j < k→(ss.getD j stp0).f < st)∧(∀ j,k≤j→j < ss.length→st≤(ss.getD j stp0).f)∧Below w.heap.size w w':=by
 have Hc:=hide hc
 have Hm:=hide hmono
 clear hc hmono
 go_enter Tryz.func151,Tryz.ntmps151
 go_wp2_with (fail)
 go_loopw [9,10] (fun iv jv wr=>∃ i j:Nat,iv=.int .i64 i∧jv=.int .i64 j∧i≤j∧j≤ss.length∧(∀ k,k < i→(ss.getD k stp0).f < st)∧(∀ k,j≤k→k < ss.length→st≤(ss.getD k stp0).f)∧Below w.heap.size w wr) (fun iv jv _=>(intOf jv).toNat - (intOf iv).toNat)
 case atStart=>exact ⟨0,ss.length,rfl,rfl,Nat.zero_le _,Nat.le_refl _,(fun k hk=>by omega),(fun k h1 h2=>by omega),(by repeat (first | exact Below.refl _ _ | assumption | refine below_drewN ?_ _ | refine Below.drew ?_ | refine Below.alloc ?_ (by simp <;> omega) _ | refine below_trans ?_ (by assumption)))⟩
 case round =>
  obtain ⟨i,j,rfl,rfl,hij,hj,hlo,hhi,hb⟩:=hrel
  have Hlo:=hide hlo
  have Hhi:=hide hhi
  clear hlo hhi
  by_cases hlt:i < j
  ·have hmid:(i+j) / 2 < ss.length:=by omega
   obtain ⟨d0,d1,d2⟩:=Hc.out ((i+j) / 2) hmid
   rw [← hb.cell (World.block_lt_of_cell? w _ d0)] at d0
   rw [← hb.cell (World.block_lt_of_cell? w _ d1)] at d1
   rw [← hb.cell (World.block_lt_of_cell? w _ d2)] at d2
   generalize hs:ss.getD ((i+j) / 2) stp0=s at *
   have Hs:=hide hs
   clear hs
   have HC:=hide (fun w1=>fromCmp_any s st w1)
   generalize hcm:cmpI s.f st=c at HC
   have Hcm:=hide hcm
   clear hcm
   go_wp2_with (fail)
   refine (HC.out _).mono ?_
   rintro e w1 ⟨rfl,hb1⟩
   have hb2:=below_trans hb hb1
   by_cases hneg:c < 0
   ·have hd:decide (c < 0)=true:=decide_eq_true hneg
    clear d0 d1 d2 hb1
    go_wp2
    go_roundw
    case rel =>
     refine ⟨(i+j) / 2+1,j,by simp only [Value.int.injEq];exact ⟨trivial,by omega⟩,rfl,by omega,hj,fun k hk=>?_,Hhi.out,hb2⟩
     have h1:s.f < st:=by have:=Hcm.out;unfold cmpI at this;split at this <;> first | omega | (split at this <;> omega)
     have h2:=Hm.out k ((i+j) / 2) (by omega) hmid
     rw [Hs.out] at h2
     omega
    case measure=>simp [intOf];omega
   ·have hd:decide (c < 0)=false:=decide_eq_false hneg
    clear d0 d1 d2 hb1
    go_wp2
    go_roundw
    case rel =>
     refine ⟨i,(i+j) / 2,rfl,by simp only [Value.int.injEq];exact ⟨trivial,by omega⟩,by omega,by omega,Hlo.out,fun k h1 h2=>?_,hb2⟩
     have h3:st≤s.f:=by have:=Hcm.out;unfold cmpI at this;split at this <;> first | omega | (split at this <;> omega)
     have h4:=Hm.out ((i+j) / 2) k h1 h2
     rw [Hs.out] at h4
     omega
    case measure=>simp [intOf];omega
  ·have hij2:i=j:=by omega
   subst hij2
   have Hend:=hide (And.intro hj (And.intro Hlo.out Hhi.out))
   by_cases hin:i < ss.length
   ·obtain ⟨d0,d1,d2⟩:=Hc.out i hin
    rw [← hb.cell (World.block_lt_of_cell? w _ d0)] at d0
    rw [← hb.cell (World.block_lt_of_cell? w _ d1)] at d1
    rw [← hb.cell (World.block_lt_of_cell? w _ d2)] at d2
    generalize hs:ss.getD i stp0=s at *
    clear hs
    have HC:=hide (fun w1=>fromCmp_any s st w1)
    generalize hcm:cmpI s.f st=c at HC
    clear hcm
    go_wp2_with (fail)
    refine (HC.out _).mono ?_
    rintro e w1 ⟨rfl,hb1⟩
    have hb2:=below_trans hb hb1
    clear d0 d1 d2 hb1
    go_wp2
    go_ret2
    obtain ⟨q1,q2,q3⟩:=Hend.out
    exact ⟨i,_,rfl,q1,q2,q3,hb2⟩
   ·go_wp2_with (fail)
    go_ret2
    obtain ⟨q1,q2,q3⟩:=Hend.out
    exact ⟨i,_,rfl,q1,q2,q3,hb⟩
theorem bsf_zero (a:Option Addr) (cap:Nat) (st:Int) (fv:Value) (w:World) :
  Calls Tryz.prog 151 #[.slice a 0 cap,.int .i64 st,fv] w fun e w'=>e=.returned (.tuple #[.int .i64 0,.bool false])∧w'=w:=by
 go_enter Tryz.func151,Tryz.ntmps151
 go_wp2
 refine wp_loop_rounds 1 ?_;rw [rounds_succ]
 go_wp2
 go_ret2
 exact ⟨rfl,rfl⟩
section
variable {P:Program}{l n:Nat}{C:World→Prop}{md:Region.Mode}{ops:Array Oper}{oL:Oper}{Q':Exit→Act→World→Prop}{Qa:Act→Prop}
theorem wpIn_of_quiet {o:Oper}{a:Act}{K:Act→Prop}{K':Act→World→Prop}{w:World} (hnd:∀ c,o.op ≠ .defer c) (hw:C w) (h:∀ a w',C w'→K a→K' a w') (hh:o.quiet P a C K) :
  o.wpIn (Fence.wide.inRound l) n P a w K' Q':=by
 obtain ⟨v,h1,h2⟩:=hh
 have h3:=h1 w hw
 unfold Oper.quietAt at h3
 unfold Oper.wpIn
 refine ⟨fun f _=>trivial,?_⟩
 rw [Fence.inRound_round,Oper.semAt_some l _ _ hnd]
 generalize (execOp a.eval o).run P w=r at *
 cases r with
 | ok x w' =>
  cases x <;> simp only [Oper.quietUpon] at h3 <;> simp only [Oper.uponIn]
  case value u =>
   obtain ⟨e1,e2⟩:=h3
   rw [e1,e2]
   exact h _ _ hw h2
  case skip =>
   obtain ⟨e1,e2⟩:=h3
   rw [e1,← e2]
   exact h _ _ hw h2
  case enter f args =>
   obtain ⟨e1,hc⟩:=h3
   rw [e1]
   refine ⟨fun hd=>by simp [Fence.wide] at hd,?_⟩
   refine CallsIn.mono (CallsIn.inRound l (callsIn_wide.2 hc)) ?_
   rintro e w'' ⟨he,hw''⟩
   subst he
   exact h _ _ hw'' h2
 | halt x w'=>simp only [Oper.quietUpon] at h3
theorem wanted_free {o:Oper} (h:o.guard=none) (y:Nat→Option Bool):Region.wanted o y=true:=by simp [Region.wanted,h]
theorem all_listed {listed:Array Bool} (hs:listed.size=ops.size) (hlt:∀ (i:Nat) (o:Oper),ops[i]?=some o→∀ e ∈ o.after,e.on < i) (h:Region.ready md ops listed=[]):∀ i,i < ops.size→listed.getD i false=true:=by
 intro i
 induction i using Nat.strongRecOn with
 | _ i ih =>
  intro hi
  cases hb:listed.getD i false with
  | true=>rfl
  | false =>
   have:i ∈ Region.ready md ops listed:=by
    rw [mem_ready]
    refine ⟨?_,ops[i],by simp [hi],fun e he _=>ih e.on (hlt i _ (by simp [hi]) e he) (by have:=hlt i _ (by simp [hi]) e he;omega)⟩
    have:i < listed.size:=by omega
    simp [Array.getD,this] at hb ⊢
    exact hb
   rw [h] at this
   cases this
theorem ready_push {listed:Array Bool} (hs:listed.size=ops.size) (hlt:∀ (i:Nat) (o:Oper),ops[i]?=some o→∀ e ∈ o.after,e.on < i) {i:Nat} (hi:i < ops.size) (h:i ∈ Region.ready md (ops.push oL) (listed.push false)):i ∈ Region.ready md ops listed:=by
 rw [mem_ready] at h ⊢
 obtain ⟨h1,o,ho,h2⟩:=h
 have ho':ops[i]?=some o:=by rw [Array.getElem?_push] at ho;rw [if_neg (by omega)] at ho;exact ho
 refine ⟨?_,o,ho',fun e he hb=>?_⟩
 ·have:i < listed.size:=by omega
  simpa [Array.getD,this,Array.getElem_push,Nat.lt_succ_of_lt this] using h1
 ·have h3:=h2 e he hb
  have h4:=hlt i o ho' e he
  have:e.on < listed.size:=by omega
  simpa [Array.getD,this,Array.getElem_push,Nat.lt_succ_of_lt this] using h3
theorem wpAnyIn_ended {F:Fence}{listed:Array Bool}{a:Act}{w:World} (h:Region.ready md ops listed=[]) (hq:Q' .normal a w):∀ fuel,wpAnyIn F n P md ops Q' fuel listed a w
 | 0=>⟨h,hq⟩
 | _+1=>⟨fun _=>hq,fun i hi=>by rw [h] at hi;cases hi⟩
theorem getD_set_off {xs:Array Bool}{i j:Nat}{b:Bool} (h:j ≠ i):(xs.setIfInBounds i b).getD j false=xs.getD j false:=by
 simp [Array.getD_eq_getD_getElem?,Ne.symm h]
theorem wpAnyIn_tail (hnd:∀ (i:Nat) o,ops[i]?=some o→∀ c,o.op ≠ .defer c) (hgd:∀ (i:Nat) o,ops[i]?=some o→o.guard=none) (hgL:oL.guard=none)
  (hlast:∀ i,i < ops.size→∃ e ∈ oL.after,Region.binds md e=true∧(e.on=i ∨ ∃ o,ops[e.on]?=some o∧∃ e' ∈ o.after,Region.binds md e'=true∧e'.on=i)) (hlt:∀ (i:Nat) o,ops[i]?=some o→∀ e ∈ o.after,e.on < i) (hltL:∀ e ∈ oL.after,e.on < ops.size)
  (hQ:∀ a w,C w→Qa a→oL.wpIn (Fence.wide.inRound l) n P a w (fun a w=>Q' .normal a w) Q') :
  ∀ (fuel:Nat) (listed:Array Bool) (a:Act) (w:World),listed.size=ops.size→(∀ (j:Nat) o,ops[j]?=some o→listed.getD j false=true→∀ e ∈ o.after,Region.binds md e=true→listed.getD e.on false=true)→C w→wpAnyQ P md ops C Qa fuel listed a→wpAnyIn (Fence.wide.inRound l) n P md (ops.push oL) Q' (fuel+1) (listed.push false) a w:=by
 have hdone:∀ (fuel:Nat) (listed:Array Bool) (a:Act) (w:World),listed.size=ops.size→C w→Qa a→(∀ i,i < ops.size→listed.getD i false=true)→wpAnyIn (Fence.wide.inRound l) n P md (ops.push oL) Q' (fuel+1) (listed.push false) a w:=by
  intro fuel listed a w hs hw hqa hall
  have hno:∀ i,i < ops.size→i ∉ Region.ready md (ops.push oL) (listed.push false):=fun i hi hm=>by
   have h1:=(mem_ready.1 (ready_push hs hlt hi hm)).1
   have h2:=hall i hi
   have:i < listed.size:=by omega
   simp [Array.getD,this] at h1 h2
   rw [h1] at h2;cases h2
  have hin:ops.size ∈ Region.ready md (ops.push oL) (listed.push false):=by
   rw [mem_ready]
   refine ⟨by rw [← hs];simp [Array.getD],oL,by simp,fun e he _=>?_⟩
   have h1:=hltL e he
   have h2:=hall e.on h1
   have:e.on < listed.size:=by omega
   simpa [Array.getD,this,Array.getElem_push,Nat.lt_succ_of_lt this] using h2
  refine ⟨fun h=>(by rw [h] at hin;cases hin),fun i hi=>?_⟩
  have hile:i=ops.size:=by
   rcases Nat.lt_trichotomy i ops.size with h | h | h
   ·exact absurd hi (hno i h)
   ·exact h
   ·obtain ⟨_,o,ho,_⟩:=mem_ready.1 hi
    rw [Array.getElem?_eq_none (by simp;omega)] at ho
    cases ho
  subst hile
  unfold wpOpIn
  rw [Array.getElem?_push_size]
  simp only [wanted_free hgL,if_true]
  refine Oper.wpIn_mono (fun a' w' hq=>wpAnyIn_ended ?_ hq fuel) (hQ a w hw hqa)
  apply List.eq_nil_iff_forall_not_mem.2
  intro j hj
  obtain ⟨h1,o,ho,_⟩:=mem_ready.1 hj
  by_cases hjs:j=ops.size
  ·subst hjs
   simp [Array.getD,hs] at h1
  ·have hjl:j < ops.size:=by
    rcases Nat.lt_trichotomy j ops.size with h | h | h
    ·exact h
    ·exact absurd h hjs
    ·rw [Array.getElem?_eq_none (by simp;omega)] at ho;cases ho
   have h2:=hall j hjl
   have hj3:j < listed.size:=by omega
   rw [getD_set_ne true (Ne.symm hjs)] at h1
   simp [Array.getD,hj3,Array.getElem_push,Nat.lt_succ_of_lt hj3] at h1 h2
   rw [h1] at h2;cases h2
 intro fuel
 induction fuel with
 | zero =>
  intro listed a w hs hcl hw h
  exact hdone 0 listed a w hs hw h.2 (all_listed hs hlt h.1)
 | succ fuel ih =>
  intro listed a w hs hcl hw h
  by_cases hr:Region.ready md ops listed=[]
  ·exact hdone _ listed a w hs hw (h.1 hr) (all_listed hs hlt hr)
  ·obtain ⟨i0,hi0⟩:=List.exists_mem_of_ne_nil _ hr
   refine ⟨fun h0=>?_,fun i hi=>?_⟩
   ·exfalso
    obtain ⟨h1,o,ho,h2⟩:=mem_ready.1 hi0
    have hlt0:i0 < ops.size:=(Array.getElem?_eq_some_iff.1 ho).1
    have:i0 ∈ Region.ready md (ops.push oL) (listed.push false):=by
     rw [mem_ready]
     have h5:i0 < listed.size:=by omega
     refine ⟨?_,o,by rw [Array.getElem?_push,if_neg (by omega)];exact ho,fun e he hb=>?_⟩
     ·simpa [Array.getD,h5,Array.getElem_push,Nat.lt_succ_of_lt h5] using h1
     ·have h3:=h2 e he hb
      have h4:=hlt i0 o ho e he
      have h6:e.on < listed.size:=by omega
      simpa [Array.getD,h6,Array.getElem_push,Nat.lt_succ_of_lt h6] using h3
    rw [h0] at this
    cases this
   ·by_cases hlt1:i < ops.size
    ·have hq:=h.2 i (ready_push hs hlt hlt1 hi)
     unfold qOp at hq
     unfold wpOpIn
     rw [Array.getElem?_push,if_neg (by omega)]
     have ho:ops[i]?=some ops[i]:=by simp [hlt1]
     rw [ho] at hq ⊢
     simp only [wanted_free (hgd i _ ho),if_true] at hq ⊢
     refine wpIn_of_quiet (hnd i _ ho) hw (fun a' w' hw' hk=>?_) hq
     have e:(listed.push false).setIfInBounds i true=(listed.setIfInBounds i true).push false:=by
      have h5:i < listed.size:=by omega
      apply Array.ext_getElem?
      intro j
      simp only [Array.getElem?_setIfInBounds,Array.getElem?_push,Array.size_push,Array.size_setIfInBounds]
      by_cases h6:i=j
      ·subst h6;simp [h5,Nat.lt_succ_of_lt h5];intro h7;omega
      ·simp [h6]
     rw [e]
     refine ih _ a' w' (by simp [hs]) (fun j oj hj hlj ed he hb=>?_) hw' hk
     have hit:listed.getD ed.on false=true:=by
      by_cases hji:j=i
      ·rw [hji] at hj
       obtain ⟨_,o2,ho2,h2⟩:=mem_ready.1 (ready_push hs hlt hlt1 hi)
       rw [hj] at ho2
       cases ho2
       exact h2 ed he hb
      ·rw [getD_set_off hji] at hlj
       exact hcl j oj hj hlj ed he hb
     by_cases hei:ed.on=i
     ·rw [hei]
      have h5:i < listed.size:=by omega
      simp [Array.getD,h5]
     ·rw [getD_set_off hei]
      exact hit
    ·exfalso
     have hie:i=ops.size:=by
      obtain ⟨_,o,ho,_⟩:=mem_ready.1 hi
      have:=(Array.getElem?_eq_some_iff.1 ho).1
      simp at this
      omega
     subst hie
     obtain ⟨_,o,ho,h2⟩:=mem_ready.1 hi
     rw [Array.getElem?_push_size] at ho
     cases ho
     obtain ⟨h1,o,ho,_⟩:=mem_ready.1 hi0
     have hlt0:i0 < ops.size:=(Array.getElem?_eq_some_iff.1 ho).1
     obtain ⟨e,he,hb,hor⟩:=hlast i0 hlt0
     have h3:=h2 e he hb
     have h5:e.on < listed.size:=by have:=hltL e he;omega
     have h6:listed.getD e.on false=true:=by simpa [Array.getD,h5,Array.getElem_push,Nat.lt_succ_of_lt h5] using h3
     have h7:listed.getD i0 false=true:=by
      rcases hor with rfl | ⟨o2,ho2,e2,he2,hb2,rfl⟩
      ·exact h6
      ·exact hcl _ o2 ho2 h6 e2 he2 hb2
     have h8:i0 < listed.size:=by omega
     simp [Array.getD,h8] at h1 h7
     rw [h1] at h7;cases h7
def notDefer:Op→Bool
 | .defer _=>false
 | _=>true
def tailOk (ops:List Oper) (oL:Oper):Bool:=
 (List.range ops.length).all (fun i=>match ops[i]? with
  | some o=>notDefer o.op && o.guard.isNone && o.after.all (fun e=>decide (e.on < i))
  | none=>true) &&
 (oL.guard.isNone && oL.after.all (fun e=>decide (e.on < ops.length)) && (List.range ops.length).all (fun i=>oL.after.any (fun e=>Region.binds .any e && (decide (e.on=i) || match ops[e.on]? with
  | some o=>o.after.any (fun e'=>Region.binds .any e' && decide (e'.on=i))
  | none=>false))))
theorem wpIn_region_tail {id:Nat}{a:Act}{w:World}{l':List Oper} (hm:P.follows .mixedOrders=true) (hB:Region.lexB .any l'.toArray=true) (hT:tailOk l' oL=true) (hC:C { w with drawn:=w.drawn+1 })
  (h:wpQuiet P l'.toArray C Qa l' a) (hQ:∀ a w,C w→Qa a→oL.wpIn (Fence.wide.inRound l) n P a w (fun a w=>Q' .normal a w) Q') :
  (Code.region id (l'.toArray.push oL) true).wpIn (Fence.wide.inRound l) n P Q' a w:=by
 simp only [Region.lexB,Bool.and_eq_true] at hB
 simp only [tailOk,Bool.and_eq_true] at hT
 obtain ⟨h1,⟨h2,h3⟩,h4⟩:=hT
 have key:∀ (i:Nat) (o:Oper),l'.toArray[i]?=some o→notDefer o.op=true∧o.guard.isNone=true∧o.after.all (fun e=>decide (e.on < i))=true:=by
  intro i o ho
  have hi:i < l'.length:=by simpa using (Array.getElem?_eq_some_iff.1 ho).1
  have:=(List.all_eq_true.1 h1) i (List.mem_range.2 hi)
  have ho':l'[i]?=some o:=by simpa using ho
  rw [ho'] at this
  simp only [Bool.and_eq_true] at this
  exact ⟨this.1.1,this.1.2,this.2⟩
 refine wpIn_region_any hm ?_
 have e1:(l'.toArray.push oL).size=l'.length+1:=by simp
 have e2:Array.replicate (l'.toArray.push oL).size false=(Array.replicate l'.length false).push false:=by rw [e1,Array.replicate_succ]
 rw [e1,Array.replicate_succ]
 refine wpAnyIn_tail (C:=C) (Qa:=Qa) ?_ ?_ (by simpa using h2) ?_ ?_ ?_ hQ l'.length _ a _ (by simp) (fun j o ho hl=>?_) hC ?_
 ·intro i o ho c hc
  have:=(key i o ho).1
  rw [hc] at this
  cases this
 ·intro i o ho
  simpa using (key i o ho).2.1
 ·intro i hi
  have:=(List.all_eq_true.1 h4) i (List.mem_range.2 (by simpa using hi))
  obtain ⟨e,he,hb⟩:=Array.any_eq_true'.1 this
  simp only [Bool.and_eq_true,Bool.or_eq_true,decide_eq_true_eq] at hb
  refine ⟨e,he,hb.1,?_⟩
  rcases hb.2 with h | h
  ·exact .inl h
  ·right
   cases ho:l'[e.on]? with
   | none=>rw [ho] at h;cases h
   | some o =>
    rw [ho] at h
    obtain ⟨e',he',hb'⟩:=Array.any_eq_true'.1 h
    simp only [Bool.and_eq_true,decide_eq_true_eq] at hb'
    exact ⟨o,by simpa using ho,e',he',hb'.1,hb'.2⟩
 ·intro i o ho e he
  have:=(key i o ho).2.2
  rw [Array.all_eq_true'] at this
  simpa using this e he
 ·intro e he
  rw [Array.all_eq_true'] at h3
  simpa using h3 e he
 ·exfalso
  rw [Array.getD_eq_getD_getElem?,Array.getElem?_replicate] at hl
  split at hl <;> cases hl
 ·have:=wpAnyQ_lex (C:=C) (md:=.any) (P:=P) (ops:=l'.toArray) (Q:=Qa) hB.1 l' 0 (Array.replicate l'.length false) a (by simp) (by simpa using hB.2) h
  simpa using this
end
end Go.Proofs.YtpiacnnifdjlkabGreatDoor
