import Derived.Test.YtpiacnnifdjlkabGreatDoorVe
import Derived.Test.YtpiacnnifdjlkabGreatDoorCt
set_option maxRecDepth 100000
set_option maxHeartbeats 8000000
namespace Go.Proofs.YtpiacnnifdjlkabGreatDoor
open Go.RowKit Go.Sort
theorem sy_nil {W:World}{k:Nat} (h:SY [] W k):False:=by
 rcases h with h | ⟨p,hp,_⟩
 ·cases h
 ·cases hp
theorem below_of_ke {W W':World} (h:KE (SY []) W W'):Below W.heap.size W W':=⟨h.os,h.tape,h.output,h.size,fun k hk=>keep_eq hk fun o ho=>h.keep k o ho sy_nil⟩
theorem wordIs_any (y q b:Nat) (w:World) (hb:w.cell? ⟨b,0,none⟩=some (.int .i64 (q:Nat))) :
  Calls Tryz.prog 109 #[.int .i64 (y:Nat),.pointer (some ⟨b,0,none⟩)] w fun e w'=>e=.returned (.bool (decide (y=q)))∧w'=w:=by
 by_cases h:y=q
 ·subst h
  go_enter Tryz.func109,Tryz.ntmps109
  go_wp2
  go_ret
  exact ⟨by simp,rfl⟩
 ·have hd:((y:Int) == (q:Int))=false:=by rw [beq_eq_false_iff_ne];omega
  have he:decide (y=q)=false:=decide_eq_false h
  rw [he]
  clear h he
  go_enter Tryz.func109,Tryz.ntmps109
  go_wp2
  go_ret
  exact ⟨rfl,rfl⟩
theorem ints_row {W:World}{g:Nat}{z:Int}{fr:Nat × Nat} (h:W.heap[g]?=some (.cells #[.int .i64 z] 3 fr)):IntSl W (.slice (some ⟨g,0,none⟩) 1 1) [z]:=
 ⟨_,_,rfl,by simp [maxLen],Or.inr ⟨g,0,rfl,fun i hi=>by
  have:i=0:=by simpa using hi
  subst this
  simpa using cell_of_row W g 0 _ _ _ h⟩,fun e=>(by cases e),by simp⟩
def LoopAt (A:Aut) (LB:Nat) (q:Nat) (W:World):Prop:=∃ lv us,W.heap[LB]?=some (.cells #[lv] 22)∧IntSl W lv us∧us ≠ []∧(us.length:Int)≤A.n∧wayL A us q q
theorem loopAt_stable (A:Aut) (LB:Nat) (x:Nat) (W W':World) (h:LoopAt A LB x W) (hk:∀ (k:Nat) (o:Obj),SY [LB] W k→o.isCells=true→W.heap[k]?=some o→W'.heap[k]?=some o):LoopAt A LB x W':=by
 obtain ⟨lv,us,h1,h2,h3,h4,h5⟩:=h
 refine ⟨lv,us,hk LB _ (Or.inl (by simp)) rfl h1,h2.of_block (fun b off k c e hne=>?_),h3,h4,h5⟩
 obtain ⟨a,cap,e2,_,hz,_⟩:=h2
 rcases hz with h0 | ⟨b',off',e3,hc⟩
 ·exact absurd h0 hne
 ·rw [e2,e3] at e
  cases e
  obtain ⟨c',t',fr,hb',_⟩:=cells_of_cell? (hc 0 (List.length_pos_iff.2 hne))
  rw [hb']
  refine hk _ _ (Or.inr ⟨(LB,0),by simp,lv,cell_of_row _ _ 0 _ _ _ h1,by rw [e2,e3];rfl⟩) rfl hb'
theorem ke_box {W W1:World}{LB:Nat}{lv v:Value} (hLB:W.heap[LB]?=some (.cells #[lv] 22)) (hb:Below W.heap.size W W1) (hv:∀ k,v.ownBlock=some k→W.heap.size≤k∧k < W1.heap.size) :
  KE (SY [LB]) W (W1.setCell ⟨LB,0,none⟩ v)∧KX W.heap.size [LB] W (W1.setCell ⟨LB,0,none⟩ v)∧(W1.setCell ⟨LB,0,none⟩ v).heap[LB]?=some (.cells #[v] 22)∧∀ k,SY [LB] (W1.setCell ⟨LB,0,none⟩ v) k→k=LB ∨ W.heap.size≤k:=by
 have h1:=belowRow hb hLB
 have hr:(W1.setCell ⟨LB,0,none⟩ v).heap[LB]?=some (.cells #[v] 22):=by simpa using heap_setCell_row 0 v h1
 have hsz:(W1.setCell ⟨LB,0,none⟩ v).heap.size=W1.heap.size:=by simp [World.setCell]
 have hoth:∀ k,k < W.heap.size→k ≠ LB→(W1.setCell ⟨LB,0,none⟩ v).heap[k]?=W.heap[k]?:=fun k hk hn=>by
  rw [heap_setCell_other _ _ _ _ hn]
  exact hb.block k hk
 have hown:∀ k,SY [LB] (W1.setCell ⟨LB,0,none⟩ v) k→k=LB ∨ (W.heap.size≤k∧k < W1.heap.size):=fun k hS=>by
  rcases hS with h | ⟨p,hp,u,hu,hur⟩
  ·exact Or.inl (by simpa using h)
  ·have ep:p=(LB,0):=by simpa using hp
   subst ep
   rw [cell_of_row _ LB 0 _ _ _ hr] at hu
   have eu:u=v:=by simpa using hu.symm
   subst eu
   exact Or.inr (hv k hur)
 refine ⟨⟨hb.os,hb.tape,hb.output,by rw [hsz];exact hb.size,fun k o ho hn=>(hoth k (Array.getElem?_eq_some_iff.1 ho).1 (fun e=>hn (Or.inl (by simp [e])))).trans ho,fun k hS=>?_⟩,⟨hb.os,hb.tape,hb.output,by rw [hsz];exact hb.size,fun k hk hn=>hoth k hk (by simpa using hn)⟩,hr,fun k hS=>(hown k hS).imp id (fun h=>h.1)⟩
 rcases hown k hS with h | h
 ·exact Or.inl (Or.inl (by simp [h]))
 ·exact Or.inr ⟨h.1,by rw [hsz];exact h.2⟩
theorem leadsBack_any {W:World}{A:Aut} (hA:RightW A) (hn1:1≤A.n) (hn8:A.n≤90000) {F:Nat→Bool} (hF:BackB A F) {bA LB q:Nat}{fsv gsv ssv lv:Value} (hbA:W.heap[bA]?=some (.cells #[.int .i64 A.n,.int .i64 A.m,fsv,gsv,ssv] 26)) (hLB:W.heap[LB]?=some (.cells #[lv] 22)) (hS:StepSl W ssv A.steps) (hG:BoolSl W gsv A.good) (hq:(q:Int) < A.n) :
  Calls Tryz.prog 107 #[.int .i64 (q:Nat),.pointer (some ⟨bA,0,none⟩),.pointer (some ⟨LB,0,none⟩)] W fun e W'=>e=.returned (.bool (F q))∧(F q=true→LoopAt A LB q W'∧∀ k,SY [LB] W' k→k ∈ [LB] ∨ W.heap.size≤k)∧KE (SY [LB]) W W'∧KX W.heap.size [LB] W W'∧∀ y ∈ [LB],∃ lv,W'.heap[y]?=some (.cells #[lv] 22):=by
 have hmf:∀ (fn:Fn) (first cap:Array Value) (w:World),(Instr.makeFunc fn first cap).run Tryz.prog w=.ok (.func fn first cap) w:=fun _ _ _ _=>rfl
 have hgl:q < A.good.length:=by have:=hA.good;omega
 have hFq:=hF q hq
 have HG:=hide hG
 have HS:=hide hS
 have HLB:=hide hLB
 have HbA:=hide hbA
 have hltA:=(Array.getElem?_eq_some_iff.1 hbA).1
 have hltL:=(Array.getElem?_eq_some_iff.1 hLB).1
 obtain ⟨a2,c2,rfl,_,hz,_⟩:=hG
 rcases hz with h0 | ⟨gb,go,rfl,hc⟩
 ·rw [h0] at hgl;simp at hgl
 have hgc:=hc q hgl
 have hgbl:gb < W.heap.size:=World.block_lt_of_cell? W _ hgc
 obtain ⟨a3,c3,rfl,-⟩:=hS
 have c3':=cell_of_row _ _ 3 _ _ _ hbA
 have hb1:=below_new W (Obj.cells #[Value.int .i64 (q:Nat)] 3)
 have hn1':=one_new W (Obj.cells #[Value.int .i64 (q:Nat)] 3)
 have HB1:=hide hb1
 have HN1:=hide hn1'
 generalize hgq:A.good.getD q false=gq at *
 have Hgq:=hide hgq
 have HFq:=hide hFq
 clear hbA hLB hc hb1 hn1' hgq hFq
 cases gq with
 | false =>
  have hFf:F q=false:=by
   cases h:F q with
   | false=>rfl
   | true=>exact absurd (HFq.out.1 h).1 (by simp)
  rw [hFf]
  go_enter Tryz.func107,Tryz.ntmps107
  go_wp2
  go_ret
  refine ⟨rfl,fun e=>(by cases e),KE.of_below (det_SY (fun k hk=>by rw [List.mem_singleton] at hk;omega)) (Nat.le_refl _) HB1.out,KX.of_below HB1.out (Nat.le_refl _),fun y hy=>?_⟩
  rw [List.mem_singleton] at hy
  subst hy
  exact ⟨lv,belowRow HB1.out HLB.out⟩
 | true =>
  have hb2:=below_new (W.alloc (Obj.cells #[Value.int .i64 (q:Nat)] 3)) (Obj.cells #[Value.int .i64 (q:Nat)] 3 (0,0))
  have hn2:=one_new (W.alloc (Obj.cells #[Value.int .i64 (q:Nat)] 3)) (Obj.cells #[Value.int .i64 (q:Nat)] 3 (0,0))
  have hz2:(W.alloc (Obj.cells #[Value.int .i64 (q:Nat)] 3)).heap.size=W.heap.size+1:=by simp
  rw [hz2] at hn2
  have hbb:=below_trans HB1.out hb2
  have hq2:=cell_of_row _ _ 0 _ _ _ (belowRow hb2 HN1.out)
  have HBB:=hide hbb
  have HWay:=hide (way_any (w:=(W.alloc (Obj.cells #[Value.int .i64 (q:Nat)] 3)).alloc (Obj.cells #[Value.int .i64 (q:Nat)] 3 (0,0))) hA fsv (.slice (some ⟨gb,go,none⟩) A.good.length c2) (.slice a3 A.steps.length c3) (.slice (some ⟨W.heap.size+1,0,none⟩) 1 1) [(q:Int)] (HS.out.below hbb) (ints_row hn2) (fun x hx=>by rw [List.mem_singleton] at hx;omega) (by simp) hn1 hn8 109 #[.pointer (some ⟨W.heap.size,0,none⟩)] (fun _ _=>rfl) [] (fun k hk=>by cases hk) (fun k hk=>(sy_nil hk).elim) (fun b off k c _ _ h=>sy_nil h) (fun b off k c _ _ h=>sy_nil h) (fun y hy=>by cases hy) (fun y=>decide (y=q)) (fun _ _=>True) (fun _ _ _ _ _=>trivial)
   (fun W2 y hke _ _=>by
    have hbw:=below_of_ke hke
    refine (wordIs_any y q W.heap.size W2 ((hbw.cell (World.block_lt_of_cell? _ _ hq2)).trans hq2)).mono ?_
    rintro e W3 ⟨rfl,rfl⟩
    exact ⟨rfl,fun _=>⟨trivial,fun k hk=>(sy_nil hk).elim⟩,KE.refl _ _,KX.refl _ _ _,fun y hy=>by cases hy⟩))
  clear hb2 hn2 hz2 hbb hq2
  have a0:=cell_of_row _ _ 0 _ _ _ (belowRow HB1.out HbA.out)
  have a1:=cell_of_row _ _ 1 _ _ _ (belowRow HB1.out HbA.out)
  have a2:=cell_of_row _ _ 2 _ _ _ (belowRow HB1.out HbA.out)
  have a3':=cell_of_row _ _ 3 _ _ _ (belowRow HB1.out HbA.out)
  have a4:=cell_of_row _ _ 4 _ _ _ (belowRow HB1.out HbA.out)
  go_enter Tryz.func107,Tryz.ntmps107
  go_wp2_with (fail)
  refine HWay.out.mono ?_
  rintro e W3 ⟨v,b,rfl,hmade⟩
  have hb3:=below_trans HBB.out (below_of_ke hmade.ke)
  have hFb:F q=b:=by
   cases b with
   | true =>
    obtain ⟨us,y,h1,h2,h3,h4,h5,_⟩:=hmade.yes rfl
    have ey:y=q:=of_decide_eq_true h5
    subst ey
    obtain ⟨hne,hlen,x,hx,hw⟩:=h3
    rw [List.mem_singleton] at hx
    subst hx
    rw [Int.toNat_natCast] at hw
    exact HFq.out.2 ⟨by simp,us,hne,hw⟩
   | false =>
    obtain ⟨_,hno⟩:=hmade.no rfl
    cases h:F q with
    | false=>rfl
    | true =>
     obtain ⟨_,us,hne,hw⟩:=HFq.out.1 h
     have:=hno (q:Int) (by simp) us q hne (by rw [Int.toNat_natCast];exact hw)
     simp at this
  have hvs:∃ a n c,v=.slice a n c∧∀ k,v.ownBlock=some k→W.heap.size≤k∧k < W3.heap.size:=by
   cases b with
   | true =>
    obtain ⟨us,y,h1,h2,h3,_⟩:=hmade.yes rfl
    obtain ⟨a,cap,e2,_,hz,_⟩:=h1
    rcases hz with h0 | ⟨b',off',e3,hc⟩
    ·exact absurd h0 h3.1
    ·subst e3
     refine ⟨_,_,_,e2,fun k hk=>?_⟩
     have h4:=h2 b' off' _ _ e2
     rw [e2] at hk
     have ek:b'=k:=by simpa [Value.ownBlock] using hk
     subst ek
     simp at h4
     exact ⟨by omega,World.block_lt_of_cell? W3 _ (hc 0 (List.length_pos_iff.2 h3.1))⟩
   | false =>
    obtain ⟨e,_⟩:=hmade.no rfl
    exact ⟨_,_,_,e,fun k hk=>by rw [e] at hk;cases hk⟩
  obtain ⟨va,vn,vc,rfl,hvo⟩:=hvs
  have HBox:=hide (ke_box (v:=.slice va vn vc) HLB.out hb3 hvo)
  have l0:=cell_of_row _ _ 0 _ _ _ (belowRow hb3 HLB.out)
  have lf:=frozen_of_row _ _ 0 _ _ (belowRow hb3 HLB.out)
  have HYes:=hide hmade.yes
  have HFb:=hide hFb
  have Hb3:=hide hb3
  clear hmade hFb hvo hb3 a0 a1 a2 a3' a4 hgc c3'
  go_wp2
  go_ret
  rw [HFb.out]
  refine ⟨rfl,fun hb=>⟨?_,fun k hS=>?_⟩,HBox.out.1,HBox.out.2.1,fun y hy=>?_⟩
  ·obtain ⟨us,y,h1,h2,h3,h4,h5,_⟩:=HYes.out hb
   have ey:y=q:=of_decide_eq_true h5
   subst ey
   obtain ⟨hne,hlen,x,hx,hw⟩:=h3
   rw [List.mem_singleton] at hx
   subst hx
   rw [Int.toNat_natCast] at hw
   refine ⟨_,us,HBox.out.2.2.1,h1.of_block (fun b off k c e _=>heap_setCell_other _ _ _ _ ?_),hne,hlen,hw⟩
   have:=h2 b off k c e
   simp at this
   show b ≠ LB
   omega
  ·rcases HBox.out.2.2.2 k hS with h | h
   ·exact Or.inl (by simp [h])
   ·exact Or.inr h
  ·rw [List.mem_singleton] at hy
   subst hy
   exact ⟨_,HBox.out.2.2.1⟩
theorem BoolSl.of_block {W W':World}{v:Value}{zs:List Bool} (h:BoolSl W v zs) (hb:∀ b off k c,v=.slice (some ⟨b,off,none⟩) k c→zs ≠ []→W'.heap[b]?=W.heap[b]?):BoolSl W' v zs:=by
 obtain ⟨a,cap,rfl,hm,hz,hn⟩:=h
 refine ⟨a,cap,rfl,hm,?_,hn⟩
 by_cases h0:zs=[]
 ·exact Or.inl h0
 ·rcases hz with h | ⟨b,off,rfl,hc⟩
  ·exact absurd h h0
  ·exact Or.inr ⟨b,off,rfl,fun i hi=>(World.cell?_of_block (a:=⟨b,off+i,none⟩) (hb b off _ _ rfl h0)).trans (hc i hi)⟩
theorem intSl_lt {W:World}{v:Value}{zs:List Int} (h:IntSl W v zs) {b off k c:Nat} (e:v=.slice (some ⟨b,off,none⟩) k c) (hne:zs ≠ []):b < W.heap.size:=by
 obtain ⟨a,cap,e2,_,hz,_⟩:=h
 rcases hz with h0 | ⟨b',off',e3,hc⟩
 ·exact absurd h0 hne
 ·rw [e2,e3] at e
  cases e
  exact World.block_lt_of_cell? W _ (hc 0 (List.length_pos_iff.2 hne))
theorem boolSl_lt {W:World}{v:Value}{zs:List Bool} (h:BoolSl W v zs) {b off k c:Nat} (e:v=.slice (some ⟨b,off,none⟩) k c) (hne:zs ≠ []):b < W.heap.size:=by
 obtain ⟨a,cap,e2,_,hz,_⟩:=h
 rcases hz with h0 | ⟨b',off',e3,hc⟩
 ·exact absurd h0 hne
 ·rw [e2,e3] at e
  cases e
  exact World.block_lt_of_cell? W _ (hc 0 (List.length_pos_iff.2 hne))
theorem stepSl_lt {W:World}{v:Value}{zs:List Stp} (h:StepSl W v zs) {b off k c:Nat} (e:v=.slice (some ⟨b,off,none⟩) k c) (hne:zs ≠ []):b < W.heap.size:=by
 obtain ⟨a,cap,e2,_,hz,_⟩:=h
 rcases hz with h0 | ⟨b',off',e3,hc⟩
 ·exact absurd h0 hne
 ·rw [e2,e3] at e
  cases e
  exact World.block_lt_of_cell? W _ (hc 0 (List.length_pos_iff.2 hne)).1
def Fresh (s:Nat) (v:Value):Prop:=∀ b off k c,v=.slice (some ⟨b,off,none⟩) k c→s≤b
structure WordMade (A:Aut) (w w':World) (hv lv:Value) (b:Bool):Prop where
 bl:Below w.heap.size w w'
 yes:b=true→∃ us vs,IntSl w' hv us∧IntSl w' lv vs∧Fresh w.heap.size hv∧Fresh w.heap.size lv∧(us.length:Int)≤A.n∧vs ≠ []∧(vs.length:Int)≤A.n∧(∀ c ∈ us ++ vs,0≤c∧c < A.m)∧TakesU A (lat us vs)
 no:b=false→hv=.slice none 0 0∧lv=.slice none 0 0∧∀ u,¬ TakesU A u
structure FirstI (A:Aut) (F:Nat→Bool) (LB:Nat) (W3:World) (k:Nat) (W:World):Prop where
 kx:KX W3.heap.size [LB] W3 W
 box:∃ lv,W.heap[LB]?=some (.cells #[lv] 22)∧∀ k,lv.ownBlock=some k→k=LB ∨ (W3.heap.size≤k∧k < W.heap.size)
 not:∀ j,j < k→F (A.first.getD j 0).toNat=false
structure FirstT (A:Aut) (F:Nat→Bool) (LB:Nat) (W3:World) (W:World):Prop where
 kx:KX W3.heap.size [LB] W3 W
 found:∃ q:Nat,(q:Int) ∈ A.first∧(q:Int) < A.n∧F q=true∧LoopAt A LB q W
 fresh:∀ k,SY [LB] W k→k ∈ [LB] ∨ W3.heap.size≤k
theorem loop_word {A:Aut}{F:Nat→Bool} (hA:RightW A) (hF:BackB A F) {LB q s:Nat}{W:World} (h:LoopAt A LB q W) (hq:(q:Int) < A.n) (hFq:F q=true) {us:List Int} (hu:∃ x ∈ A.first,wayL A us x.toNat q) (hfr:∀ k,SY [LB] W k→k ∈ [LB] ∨ s≤k) :
  ∃ lv vs,W.heap[LB]?=some (.cells #[lv] 22)∧IntSl W lv vs∧(∀ b off k c,lv=.slice (some ⟨b,off,none⟩) k c→vs ≠ []→b=LB ∨ s≤b)∧vs ≠ []∧(vs.length:Int)≤A.n∧(∀ c ∈ us ++ vs,0≤c∧c < A.m)∧TakesU A (lat us vs):=by
 obtain ⟨lv,vs,h1,h2,h3,h4,h5⟩:=h
 obtain ⟨hg,_⟩:=(hF q hq).1 hFq
 refine ⟨lv,vs,h1,h2,fun b off k c e _=>?_,h3,h4,fun c hc=>?_,some_taken hu hg h5 h3⟩
 ·rcases hfr b (Or.inr ⟨(LB,0),by simp,lv,cell_of_row _ _ 0 _ _ _ h1,by rw [e];rfl⟩) with h | h
  ·exact Or.inl (by simpa using h)
  ·exact Or.inr h
 ·obtain ⟨x,_,hw⟩:=hu
  rcases List.mem_append.1 hc with h | h
  ·exact wayL_letters hA hw c h
  ·exact wayL_letters hA h5 c h
open Classical in
theorem backB_exists (A:Aut):∃ F,BackB A F:=⟨fun q=>decide (A.good.getD q false=true∧∃ us,us ≠ []∧wayL A us q q),fun q _=>by rw [decide_eq_true_iff]⟩
theorem firstFunc_any {W3:World}{A:Aut} (hA:RightW A) (hn1:1≤A.n) (hn8:A.n≤90000) {F:Nat→Bool} (hF:BackB A F) {bA LB:Nat}{fsv gsv ssv:Value} (hbA:W3.heap[bA]?=some (.cells #[.int .i64 A.n,.int .i64 A.m,fsv,gsv,ssv] 26)) (hne:bA ≠ LB) (hLB:W3.heap[LB]?=some (.cells #[.slice none 0 0] 22)) (hI:IntSl W3 fsv A.first) (hS:StepSl W3 ssv A.steps) (hG:BoolSl W3 gsv A.good)
  (hIl:∀ b off k c,fsv=.slice (some ⟨b,off,none⟩) k c→A.first ≠ []→b ≠ LB) (hSl:∀ b off k c,ssv=.slice (some ⟨b,off,none⟩) k c→A.steps ≠ []→b ≠ LB) (hGl:∀ b off k c,gsv=.slice (some ⟨b,off,none⟩) k c→A.good ≠ []→b ≠ LB) :
  Calls Tryz.prog 93 #[fsv,.func (.func 107) #[] #[.pointer (some ⟨bA,0,none⟩),.pointer (some ⟨LB,0,none⟩)]] W3 fun e W=>∃ b,e=.returned (.bool b)∧(b=true→FirstT A F LB W3 W)∧(b=false→FirstI A F LB W3 A.first.length W):=by
 have hIW:∀ W,KX W3.heap.size [LB] W3 W→IntSl W fsv A.first:=fun W hk=>hI.of_block fun b off k c e h0=>hk.block b (intSl_lt hI e h0) (by simpa using hIl b off k c e h0)
 have hSW:∀ W,KX W3.heap.size [LB] W3 W→StepSl W ssv A.steps:=fun W hk=>hS.of_block fun b off k c e h0=>hk.block b (stepSl_lt hS e h0) (by simpa using hSl b off k c e h0)
 have hGW:∀ W,KX W3.heap.size [LB] W3 W→BoolSl W gsv A.good:=fun W hk=>hG.of_block fun b off k c e h0=>hk.block b (boolSl_lt hG e h0) (by simpa using hGl b off k c e h0)
 have hltA:=(Array.getElem?_eq_some_iff.1 hbA).1
 refine containsFunc_st 107 _ (FirstI A F LB W3) (FirstT A F LB W3) (fun _ _=>rfl) ⟨KX.refl _ _ _,⟨_,hLB,fun k hk=>by cases hk⟩,fun j hj=>absurd hj (Nat.not_lt_zero _)⟩ (fun k W h=>hIW W h.kx) ?_
 intro i hi W h
 obtain ⟨lv,hlv,hlo⟩:=h.box
 have hm:A.first.getD i 0 ∈ A.first:=getD_mem hi
 have hr:=hA.first _ hm
 obtain ⟨q,hq⟩:=Int.eq_ofNat_of_zero_le hr.1
 rw [hq] at hm hr ⊢
 have hbW:=(h.kx.block bA hltA (by simpa using hne)).trans hbA
 refine (leadsBack_any hA hn1 hn8 hF hbW hlv (hSW W h.kx) (hGW W h.kx) hr.2).mono ?_
 rintro e W' ⟨rfl,hyes,hke,hkx,hyb⟩
 have hsz:=h.kx.size
 have hkx':KX W3.heap.size [LB] W3 W':=h.kx.trans (hkx.mono hsz (fun x hx=>Or.inl hx))
 refine ⟨F q,rfl,fun hb=>?_,fun hb=>?_⟩
 ·obtain ⟨h1,h2⟩:=hyes hb
  exact ⟨hkx',⟨q,hm,hr.2,hb,h1⟩,fun k hS=>(h2 k hS).imp id (fun h=>by omega)⟩
 ·obtain ⟨lv',hlv'⟩:=hyb LB (by simp)
  refine ⟨hkx',⟨lv',hlv',fun k hk=>?_⟩,fun j hj=>?_⟩
  ·have hS:SY [LB] W' k:=Or.inr ⟨(LB,0),by simp,lv',cell_of_row _ _ 0 _ _ _ hlv',hk⟩
   rcases hke.own k hS with h1 | h1
   ·rcases h1 with h2 | ⟨p,hp,u,hu,hur⟩
    ·exact Or.inl (by simpa using h2)
    ·have ep:p=(LB,0):=by simpa using hp
     subst ep
     rw [cell_of_row _ LB 0 _ _ _ hlv] at hu
     have eu:u=lv:=by simpa using hu.symm
     subst eu
     have:=hkx.size
     exact (hlo k hur).imp id (fun h3=>⟨h3.1,by omega⟩)
   ·exact Or.inr ⟨by omega,h1.2⟩
  ·by_cases e:j=i
   ·rw [e,hq,Int.toNat_natCast];exact hb
   ·exact h.not j (by omega)
theorem lasso_put {w W:World}{y:Nat}{u0 u1 z0 z1:Value} (hy:W.heap[y]?=some (.cells #[u0,u1] 28)) (hwy:w.heap.size≤y) (hbl:Below w.heap.size w W) :
  ((W.setCell ⟨y,0,none⟩ z0).setCell ⟨y,1,none⟩ z1).heap[y]?=some (.cells #[z0,z1] 28)∧Below w.heap.size w ((W.setCell ⟨y,0,none⟩ z0).setCell ⟨y,1,none⟩ z1)∧∀ k,k ≠ y→((W.setCell ⟨y,0,none⟩ z0).setCell ⟨y,1,none⟩ z1).heap[k]?=W.heap[k]?:=by
 have ho:∀ k,k ≠ y→((W.setCell ⟨y,0,none⟩ z0).setCell ⟨y,1,none⟩ z1).heap[k]?=W.heap[k]?:=fun k hk=>by rw [heap_setCell_other _ _ _ _ hk,heap_setCell_other _ _ _ _ hk]
 refine ⟨by simpa using heap_setCell_row 1 z1 (heap_setCell_row 0 z0 hy),⟨hbl.os,hbl.tape,hbl.output,by simpa [World.setCell] using hbl.size,fun i hi=>(ho i (by omega)).trans (hbl.block i hi)⟩,ho⟩
theorem word_any {w:World}{A:Aut} (hA:RightW A) (hn1:1≤A.n) (hn8:A.n≤90000) (hf8:A.first.length≤800000) {av:Value} (hav:AutV w av A) :
  Calls Tryz.prog 63 #[av] w fun e w'=>∃ hv lv b,e=.returned (.tuple #[.agg #[hv,lv],.bool b])∧WordMade A w w' hv lv b:=by
 obtain ⟨fsv,gsv,ssv,rfl,hI,hG,hS⟩:=hav
 obtain ⟨F,hF⟩:=backB_exists A
 have hmf:∀ (fn:Fn) (first cap:Array Value) (w:World),(Instr.makeFunc fn first cap).run Tryz.prog w=.ok (.func fn first cap) w:=fun _ _ _ _=>rfl
 obtain ⟨r0,r1,r2⟩:=three_alloc w (Obj.cells #[Value.int .i64 A.n,.int .i64 A.m,fsv,gsv,ssv] 26) (Obj.cells #[Value.slice none 0 0,.slice none 0 0] 28) (Obj.cells #[Value.slice none 0 0] 22)
 have hb3:Below w.heap.size w (((w.alloc (Obj.cells #[Value.int .i64 A.n,.int .i64 A.m,fsv,gsv,ssv] 26)).alloc (Obj.cells #[Value.slice none 0 0,.slice none 0 0] 28)).alloc (Obj.cells #[Value.slice none 0 0] 22)):=(by repeat (first | exact Below.refl _ _ | assumption | refine below_drewN ?_ _ | refine Below.drew ?_ | refine Below.alloc ?_ (by simp <;> omega) _ | refine below_trans ?_ (by assumption)))
 have hsz3:(((w.alloc (Obj.cells #[Value.int .i64 A.n,.int .i64 A.m,fsv,gsv,ssv] 26)).alloc (Obj.cells #[Value.slice none 0 0,.slice none 0 0] 28)).alloc (Obj.cells #[Value.slice none 0 0] 22)).heap.size=w.heap.size+1+1+1:=by simp
 obtain ⟨W3,hW3⟩:∃ W3,W3=(((w.alloc (Obj.cells #[Value.int .i64 A.n,.int .i64 A.m,fsv,gsv,ssv] 26)).alloc (Obj.cells #[Value.slice none 0 0,.slice none 0 0] 28)).alloc (Obj.cells #[Value.slice none 0 0] 22)):=⟨_,rfl⟩
 rw [← hW3] at r0 r1 r2 hb3 hsz3
 have HFF:=hide (firstFunc_any hA hn1 hn8 hF r0 (by omega) r2 (hI.below hb3) (hS.below hb3) (hG.below hb3) (fun b off k c e h0=>by have:=intSl_lt hI e h0;omega) (fun b off k c e h0=>by have:=stepSl_lt hS e h0;omega) (fun b off k c e h0=>by have:=boolSl_lt hG e h0;omega))
 have HH:=hide (And.intro hA (And.intro hF (And.intro hI (And.intro hG hS))))
 have HR:=hide (And.intro r0 (And.intro r1 r2))
 have HB3:=hide hb3
 have q2:=cell_of_row _ _ 2 _ _ _ r0
 obtain ⟨fa,fc,rfl,-⟩:=id hI
 obtain ⟨ga,gc,rfl,-⟩:=id hG
 obtain ⟨sa,sc,rfl,-⟩:=id hS
 clear hA hF hI hG hS r0 r1 r2 hb3
 go_enter Tryz.func63,Tryz.ntmps63
 go_wp2_with (fail)
 rw [← hW3]
 refine HFF.out.mono ?_
 rintro e W4 ⟨b,rfl,hT,hIn⟩
 clear hW3 q2 HFF
 cases b with
 | true =>
  have h:=hT rfl
  obtain ⟨q,hm,hqn,hFq,hL⟩:=h.found
  obtain ⟨lv,vs,h1,h2,h3,h4,h5,h6,h7⟩:=loop_word (s:=W3.heap.size) HH.out.1 HH.out.2.1 hL hqn hFq (us:=[]) ⟨(q:Int),hm,by rw [Int.toNat_natCast];rfl⟩ h.fresh
  obtain ⟨la,lc,rfl,-⟩:=id h2
  have hy:=(h.kx.block (w.heap.size+1) (by omega) (by simp)).trans HR.out.2.1
  have hbl:Below w.heap.size w W4:=⟨h.kx.os.trans HB3.out.os,h.kx.tape.trans HB3.out.tape,h.kx.output.trans HB3.out.output,Nat.le_trans HB3.out.size h.kx.size,fun i hi=>(h.kx.block i (by omega) (by simp;omega)).trans (HB3.out.block i hi)⟩
  have HP:=hide (lasso_put (z0:=.slice none 0 0) (z1:=.slice la vs.length lc) hy (by omega) hbl)
  have HM:=hide (show WordMade A w ((W4.setCell ⟨w.heap.size+1,0,none⟩ (.slice none 0 0)).setCell ⟨w.heap.size+1,1,none⟩ (.slice la vs.length lc)) (.slice none 0 0) (.slice la vs.length lc) true from ⟨HP.out.2.1,fun _=>⟨[],vs,⟨none,0,rfl,by simp [maxLen],Or.inl rfl,fun _=>rfl,by simp⟩,h2.of_block (fun b off k c e h0=>HP.out.2.2 b (by rcases h3 b off k c e h0 with h8 | h8 <;> omega)),(fun b off k c e=>by cases e),(fun b off k c e=>by rcases h3 b off k c e h4 with h8 | h8 <;> omega),by simp;omega,h4,h5,h6,h7⟩,fun e=>by cases e⟩)
  have l0:=cell_of_row _ _ 0 _ _ _ h1
  have y0:=cell_of_row _ _ 0 _ _ _ hy
  have y1:=cell_of_row _ _ 1 _ _ _ hy
  have z0:=frozen_of_row _ _ 0 _ _ hy
  have z1:=frozen_of_row _ _ 1 _ _ hy
  have f0:=cell_of_row _ _ 0 _ _ _ HP.out.1
  have f1:=cell_of_row _ _ 1 _ _ _ HP.out.1
  clear h hL h1 h2 h3 h4 h5 h6 h7 hm hqn hFq hy hbl hT hIn
  go_wp2
  exact bodyPost_ret (v:=.tuple #[.agg #[.slice none 0 0,.slice la vs.length lc],.bool true]) (by simp [results,Tryz.results63,go_sem,f0,f1]) rfl ⟨_,_,_,rfl,HM.out⟩
 | false =>
  have h:=hIn rfl
  clear hT hIn
  obtain ⟨lv0,hlv0,hlo0⟩:=h.box
  have hbl:Below w.heap.size w W4:=⟨h.kx.os.trans HB3.out.os,h.kx.tape.trans HB3.out.tape,h.kx.output.trans HB3.out.output,Nat.le_trans HB3.out.size h.kx.size,fun i hi=>(h.kx.block i (by omega) (by simp;omega)).trans (HB3.out.block i hi)⟩
  have hsz4:=h.kx.size
  have hSY:∀ k,SY [w.heap.size+1+1] W4 k→k=w.heap.size+1+1 ∨ (W3.heap.size≤k∧k < W4.heap.size):=fun k hS=>by
   rcases hS with h1 | ⟨p,hp,u,hu,hur⟩
   ·exact Or.inl (by simpa using h1)
   ·have ep:p=(w.heap.size+1+1,0):=by simpa using hp
    subst ep
    rw [cell_of_row _ _ 0 _ _ _ hlv0] at hu
    have eu:u=lv0:=by simpa using hu.symm
    subst eu
    exact hlo0 k hur
  have hbA:=(h.kx.block w.heap.size (by omega) (by simp;omega)).trans HR.out.1
  have hy:=(h.kx.block (w.heap.size+1) (by omega) (by simp)).trans HR.out.2.1
  obtain ⟨hA,hF,hI,hG,hS⟩:=id HH.out
  have HWay:=hide (way_any (w:=W4) hA (.slice fa A.first.length fc) (.slice ga A.good.length gc) (.slice sa A.steps.length sc) (.slice fa A.first.length fc) A.first (hS.below hbl) (hI.below hbl) hA.first hf8 hn1 hn8 107 #[.pointer (some ⟨w.heap.size,0,none⟩),.pointer (some ⟨w.heap.size+1+1,0,none⟩)] (fun _ _=>rfl) [w.heap.size+1+1] (fun k hk=>by rw [List.mem_singleton] at hk;omega) (fun k hS=>by rcases hSY k hS with h1 | h1 <;> omega)
   (fun b off k c e h0 hSb=>by have h1:=stepSl_lt hS e h0;rcases hSY b hSb with h2 | h2 <;> omega) (fun b off k c e h0 hSb=>by have h1:=intSl_lt hI e h0;rcases hSY b hSb with h2 | h2 <;> omega) (fun y hy=>by rw [List.mem_singleton] at hy;subst hy;exact ⟨lv0,hlv0⟩) F (LoopAt A (w.heap.size+1+1)) (loopAt_stable A (w.heap.size+1+1))
   (fun W x hke hyb hx=>by
    obtain ⟨lv,hlv⟩:=hyb (w.heap.size+1+1) (by simp)
    have hnot:∀ k,k < w.heap.size+1+1→¬ SY [w.heap.size+1+1] W4 k:=fun k hk hS=>by rcases hSY k hS with h1 | h1 <;> omega
    exact leadsBack_any hA hn1 hn8 hF (hke.keep _ _ hbA (hnot _ (by omega))) hlv ((hS.below hbl).ke hke (fun b off k c e h0=>hnot b (by have:=stepSl_lt hS e h0;omega))) ((hG.below hbl).of_block (fun b off k c e h0=>keep_eq (by have:=boolSl_lt hG e h0;omega) fun o ho=>hke.keep b o ho (hnot b (by have:=boolSl_lt hG e h0;omega)))) hx))
  have a0:=cell_of_row _ _ 0 _ _ _ hbA
  have a1:=cell_of_row _ _ 1 _ _ _ hbA
  have a2:=cell_of_row _ _ 2 _ _ _ hbA
  have a3:=cell_of_row _ _ 3 _ _ _ hbA
  have a4:=cell_of_row _ _ 4 _ _ _ hbA
  have Hy:=hide hy
  have HSY:=hide hSY
  have Hbl:=hide hbl
  have HNot:=hide h.not
  clear h hlv0 hlo0 hy hbA hA hF hI hG hS hSY hbl
  go_wp2_with (fail)
  refine HWay.out.mono ?_
  rintro e W5 ⟨v,b,rfl,hmade⟩
  have hnot:∀ k,k < w.heap.size+1+1→¬ SY [w.heap.size+1+1] W4 k:=fun k hk hS=>by rcases HSY.out k hS with h1 | h1 <;> omega
  have hy5:=hmade.ke.keep _ _ Hy.out (hnot _ (by omega))
  have hbl5:Below w.heap.size w W5:=⟨hmade.ke.os.trans Hbl.out.os,hmade.ke.tape.trans Hbl.out.tape,hmade.ke.output.trans Hbl.out.output,Nat.le_trans Hbl.out.size hmade.ke.size,fun i hi=>(keep_eq (by have:=Hbl.out.size;omega) fun o ho=>hmade.ke.keep i o ho (hnot i (by omega))).trans (Hbl.out.block i hi)⟩
  have hsz5:=hmade.ke.size
  have y0:=cell_of_row _ _ 0 _ _ _ hy5
  have y1:=cell_of_row _ _ 1 _ _ _ hy5
  have z0:=frozen_of_row _ _ 0 _ _ hy5
  have z1:=frozen_of_row _ _ 1 _ _ hy5
  clear a0 a1 a2 a3 a4 HWay
  cases b with
  | true =>
   obtain ⟨us,y,g1,g2,g3,g4,g5,g6,g7⟩:=hmade.yes rfl
   obtain ⟨lv,vs,h1,h2,h3,h4,h5,h6,h7⟩:=loop_word (s:=W4.heap.size) HH.out.1 HH.out.2.1 g6 g4 g5 g3.2.2 g7
   obtain ⟨la,lc,rfl,-⟩:=id h2
   obtain ⟨va,vc,rfl,-⟩:=id g1
   have HP:=hide (lasso_put (z0:=.slice va us.length vc) (z1:=.slice la vs.length lc) hy5 (by omega) hbl5)
   have HM:=hide (show WordMade A w ((W5.setCell ⟨w.heap.size+1,0,none⟩ (.slice va us.length vc)).setCell ⟨w.heap.size+1,1,none⟩ (.slice la vs.length lc)) (.slice va us.length vc) (.slice la vs.length lc) true from ⟨HP.out.2.1,fun _=>⟨us,vs,g1.of_block (fun b off k c e h0=>HP.out.2.2 b (by have:=g2 b off k c e;omega)),h2.of_block (fun b off k c e h0=>HP.out.2.2 b (by rcases h3 b off k c e h0 with h8 | h8 <;> omega)),(fun b off k c e=>by have:=g2 b off k c e;omega),(fun b off k c e=>by rcases h3 b off k c e h4 with h8 | h8 <;> omega),g3.2.1,h4,h5,h6,h7⟩,fun e=>by cases e⟩)
   have l0:=cell_of_row _ _ 0 _ _ _ h1
   have f0:=cell_of_row _ _ 0 _ _ _ HP.out.1
   have f1:=cell_of_row _ _ 1 _ _ _ HP.out.1
   clear h1 h2 h3 h4 h5 h6 h7 g1 g2 g3 g4 g5 g6 g7 hmade hy5 hbl5
   go_wp2
   exact bodyPost_ret (v:=.tuple #[.agg #[.slice va us.length vc,.slice la vs.length lc],.bool true]) (by simp [results,Tryz.results63,go_sem,f0,f1]) rfl ⟨_,_,_,rfl,HM.out⟩
  | false =>
   obtain ⟨e,hno⟩:=hmade.no rfl
   subst e
   have HP:=hide (lasso_put (z0:=.slice none 0 0) (z1:=.slice none 0 0) hy5 (by omega) hbl5)
   have HM:=hide (show WordMade A w ((W5.setCell ⟨w.heap.size+1,0,none⟩ (.slice none 0 0)).setCell ⟨w.heap.size+1,1,none⟩ (.slice none 0 0)) (.slice none 0 0) (.slice none 0 0) false from ⟨HP.out.2.1,fun e=>(by cases e),fun _=>⟨rfl,rfl,none_taken HH.out.1 HH.out.2.1 (fun x hx=>by
    obtain ⟨j,hj,rfl⟩:=List.mem_iff_getElem.1 hx
    have:=HNot.out j hj
    rwa [show A.first.getD j 0=A.first[j] by simp [List.getD,hj]] at this) hno⟩⟩)
   have f0:=cell_of_row _ _ 0 _ _ _ HP.out.1
   have f1:=cell_of_row _ _ 1 _ _ _ HP.out.1
   clear hmade hy5 hbl5 hno
   go_wp2
   exact bodyPost_ret (v:=.tuple #[.agg #[.slice none 0 0,.slice none 0 0],.bool false]) (by simp [results,Tryz.results63,go_sem,f0,f1]) rfl ⟨_,_,_,rfl,HM.out⟩
theorem rising_from {n:Int}:∀ (l:List Int) (p:Int),(∀ x ∈ l,x < n)→(p :: l).Pairwise (fun a b=>a < b)→(l.length:Int)≤max 0 (n - 1 - p)
 | [],_,_,_=>by simp;omega
 | x :: r,p,hb,hp=>by
  have hx:=hb x (List.mem_cons_self ..)
  obtain ⟨h1,h2⟩:=List.pairwise_cons.1 hp
  have hpx:=h1 x (List.mem_cons_self ..)
  have ih:=rising_from r x (fun y hy=>hb y (List.mem_cons_of_mem _ hy)) h2
  rw [List.length_cons]
  omega
theorem rising_pairs {l:List Int} (h:fallsB l=false):l.Pairwise (fun a b=>a < b):=by
 rw [List.pairwise_iff_getElem]
 have hs:∀ i,i+1 < l.length→l.getD i 0 < l.getD (i+1) 0:=fun i hi=>by
  unfold fallsB at h
  have:=List.any_eq_false.1 h i (List.mem_range.2 (by omega))
  simpa using this
 have hall:∀ d i,i+d+1 < l.length→l.getD i 0 < l.getD (i+d+1) 0:=by
  intro d
  induction d with
  | zero=>intro i hi;exact hs i hi
  | succ d ih =>
   intro i hi
   have h1:=ih i (by omega)
   have h2:=hs (i+d+1) (by omega)
   rw [show i+(d+1)+1=i+d+1+1 by omega]
   omega
 intro i j hi hj hij
 have:=hall (j - i - 1) i (by omega)
 rw [show i+(j - i - 1)+1=j by omega] at this
 simpa [List.getD,hi,hj] using this
theorem first_few {A:Aut} (h:chkA A=0):A.first.length≤300:=by
 have hR:=right_of h
 have hn:=hR.n3
 have hf:fallsB A.first=false:=by
  unfold chkA at h
  by_cases h1:A.n < 1 ∨ 300 < A.n ∨ A.m < 1 ∨ 8 < A.m
  ·rw [if_pos h1] at h;omega
  rw [if_neg h1] at h
  by_cases h2:(A.good.length:Int) ≠ A.n
  ·rw [if_pos h2] at h;omega
  rw [if_neg h2] at h
  by_cases h3:6000 < A.steps.length
  ·rw [if_pos h3] at h;omega
  rw [if_neg h3] at h
  by_cases h4:chkFirst A.n A.first ≠ 0
  ·rw [if_pos h4] at h;omega
  have h4':chkFirst A.n A.first=0:=by omega
  unfold chkFirst at h4'
  cases hb:fallsB A.first with
  | false=>rfl
  | true =>
   rw [hb] at h4'
   split at h4'
   ·omega
   ·simp at h4'
 have hp:=rising_pairs hf
 have:=rising_from A.first (-1) (fun x hx=>(hR.first x hx).2) (List.pairwise_cons.2 ⟨fun x hx=>by have:=(hR.first x hx).1;omega,hp⟩)
 omega
theorem rightW_of {A:Aut} (h:chkA A=0):RightW A∧1≤A.n∧A.n≤90000∧A.first.length≤800000:=by
 have hR:=right_of h
 have hf:=first_few h
 have h1:=hR.n1
 have h3:=hR.n3
 exact ⟨⟨by omega,by omega,hR.good,by have:=hR.few;omega,by omega,hR.m8,hR.first,hR.steps,hR.sorted⟩,h1,by omega,by omega⟩
end Go.Proofs.YtpiacnnifdjlkabGreatDoor
