import Derived.Test.YtpiacnnifdjlkabGreatDoorVd
import Derived.Test.YtpiacnnifdjlkabGreatDoorLc
import Derived.Deep.LoopGhost
import Derived.Deep.Cut
set_option maxRecDepth 100000
set_option maxHeartbeats 8000000
namespace Go.Proofs.YtpiacnnifdjlkabGreatDoor
open Go.RowKit Go.Sort
attribute [local go_sem] Oper.semAt_some
structure WayMade (A:Aut) (from_:List Int) (F:Nat→Bool) (P:Nat→World→Prop) (Y:List Nat) (w w':World) (v:Value) (b:Bool):Prop where
 ke:KE (SY Y) w w'
 yes:b=true→∃ us y,IntSl w' v us∧(∀ b off k c,v=.slice (some ⟨b,off,none⟩) k c→w.heap.size≤b)∧WayTo A from_ us y∧(y:Int) < A.n∧F y=true∧P y w'∧∀ k,SY Y w' k→k ∈ Y ∨ w.heap.size≤k
 no:b=false→v=.slice none 0 0∧NoWay A from_ F
theorem ke_shut {Y:List Nat}{w W W':World} (h:KE (SY Y) w W) (hY:∀ k ∈ Y,k < w.heap.size) (hSh:Shut w.heap.size W W'):KE (SY Y) w W':=by
 have hsy:∀ k,SY Y W' k ↔ SY Y W k:=sy_same fun y hy=>hSh.low y (hY y hy)
 exact ⟨hSh.os.trans h.os,hSh.tape.trans h.tape,hSh.output.trans h.output,Nat.le_trans h.size hSh.size,fun k o ho hn=>(hSh.low k (Array.getElem?_eq_some_iff.1 ho).1).trans (h.keep k o ho hn),fun k hS=>(h.own k ((hsy k).1 hS)).imp id (fun h2=>⟨h2.1,Nat.lt_of_lt_of_le h2.2 hSh.size⟩)⟩
theorem WayRes.shut {A:Aut}{from_:List Int}{F:Nat→Bool}{P:Nat→World→Prop}{Y:List Nat}{w W W':World}{bR bK:Nat} (h:WayRes A from_ F P Y w bR bK W) (hP:∀ x W W',P x W→(∀ (k:Nat) (o:Obj),SY Y W k→o.isCells=true→W.heap[k]?=some o→W'.heap[k]?=some o)→P x W') (hY:∀ k ∈ Y,k < w.heap.size) (hSh:Shut w.heap.size W W'):∃ v,W'.cell? ⟨bR,0,none⟩=some v∧W'.cell? ⟨bK,0,none⟩=some (.bool true)∧WayMade A from_ F P Y w W' v true:=by
 obtain ⟨v,us,y,h1,h2,h3,h4,h5,h6,h7,h8,h9,h10⟩:=h.out
 have hsy:∀ k,SY Y W' k ↔ SY Y W k:=sy_same fun y hy=>hSh.low y (hY y hy)
 refine ⟨v,cell_of_row _ _ 0 _ _ _ (hSh.cells _ _ h1 rfl),cell_of_row _ _ 0 _ _ _ (hSh.cells _ _ h2 rfl),⟨ke_shut h3 hY hSh,fun _=>⟨us,y,h4.of_block (fun b off k c e hne=>?_),h5,h6,h7,h8,hP y W W' h9 (fun k o _ hc ho=>hSh.cells k o ho hc),fun k hS=>h10 k ((hsy k).1 hS)⟩,fun e=>by cases e⟩⟩
 obtain ⟨a,cap,e2,_,hz,_⟩:=h4
 rcases hz with h0 | ⟨b',off',e3,hc⟩
 ·exact absurd h0 hne
 ·rw [e2,e3] at e
  cases e
  obtain ⟨c',t',fr,hb',_⟩:=cells_of_cell? (hc 0 (List.length_pos_iff.2 hne))
  rw [hb']
  exact hSh.cells _ _ hb' rfl
theorem way_any {w:World}{A:Aut} (hA:RightW A) (fsv gsv ssv frv:Value) (from_:List Int) (hS:StepSl w ssv A.steps) (hF:IntSl w frv from_) (hf0:∀ x ∈ from_,0≤x∧x < A.n) (hfl:from_.length≤800000) (hn1:1≤A.n) (hn8:A.n≤90000) (gf:Nat) (caps:Array Value) (eg:∀ args w,(callFunc gf args).run Tryz.prog w=.ok (.enter gf args) w)
  (Y:List Nat) (hY:∀ k ∈ Y,k < w.heap.size) (hYl:∀ k,SY Y w k→k < w.heap.size) (hYs:∀ b off k c,ssv=.slice (some ⟨b,off,none⟩) k c→A.steps ≠ []→¬ SY Y w b) (hYf:∀ b off k c,frv=.slice (some ⟨b,off,none⟩) k c→from_ ≠ []→¬ SY Y w b)
  (hYb:∀ y ∈ Y,∃ lv,w.heap[y]?=some (.cells #[lv] 22)) (F:Nat→Bool) (P:Nat→World→Prop) (hP:∀ x W W',P x W→(∀ (k:Nat) (o:Obj),SY Y W k→o.isCells=true→W.heap[k]?=some o→W'.heap[k]?=some o)→P x W')
  (hfound:∀ (W:World) (x:Nat),KE (SY Y) w W→(∀ y ∈ Y,∃ lv,W.heap[y]?=some (.cells #[lv] 22))→(x:Int) < A.n→Calls Tryz.prog gf (#[.int .i64 (x:Nat)] ++ caps) W fun e W'=>e=.returned (.bool (F x))∧(F x=true→P x W'∧∀ k,SY Y W' k→k ∈ Y ∨ W.heap.size≤k)∧KE (SY Y) W W'∧KX W.heap.size Y W W'∧∀ y ∈ Y,∃ lv,W'.heap[y]?=some (.cells #[lv] 22)) :
  Calls Tryz.prog 108 #[.agg #[.int .i64 A.n,.int .i64 A.m,fsv,gsv,ssv],frv,.func (.func gf) #[] caps] w fun e w'=>∃ v b,e=.returned (.tuple #[v,.bool b])∧WayMade A from_ F P Y w w' v b:=by
 obtain ⟨N,hN⟩:=Int.eq_ofNat_of_zero_le hA.n0
 have hmk:=make_bools N (by omega)
 have hms:=make_steps N (by omega)
 have hsf:∀ (a:Addr) (fn:Fn) (x y:Array Value) (md:Mode) (w:World),(store a (.func fn x y) md).run Tryz.prog w=stored Tryz.prog w a (.func fn x y) md:=fun a fn x y md w=>run_store Tryz.prog w a _ md rfl
 have HS:=hide hS
 have HF:=hide hF
 have HA:=hide (And.intro hA (And.intro hf0 (And.intro hfl (And.intro hY (And.intro hYs (And.intro hYf (And.intro hP (And.intro hYl hYb))))))))
 have HFo:=hide hfound
 have HN:=hide hN
 rw [hN]
 obtain ⟨a3,c3,rfl,-⟩:=hS
 obtain ⟨af,cf,rfl,-⟩:=hF
 clear hA hf0 hfl hY hYs hYf hP hYl hYb hfound
 refine (callsIn_wide (n:=20)).1 ?_
 refine callsIn_of_wp_marks Tryz.func108 rfl trivial ?_ rfl
 simp only [Tryz.ntmps108,List.size_toArray,List.length_cons,List.length_nil,Nat.reduceAdd,Nat.reduceSub,Array.replicate_succ,Array.replicate_zero,List.push_toArray,List.append_toArray,List.nil_append,List.cons_append]
 refine wpIn_wide.2 ?_
 go_wp2_with (fail)
 obtain ⟨r0,r1,r2,r3,r4,r5,r6,r7,r8,hb9,hs9⟩:=nine_alloc w (Obj.cells #[Value.int .i64 (N:Nat),.int .i64 A.m,fsv,gsv,.slice a3 A.steps.length c3] 26) (Obj.cells #[Value.slice af from_.length cf] 22) (Obj.cells #[Value.func (.func gf) #[] caps] 128) (Obj.cells #[Value.slice none 0 0] 22) (Obj.cells #[Value.bool false] 4) (Obj.cells (falses N) 4) (Obj.cells #[Value.slice (some ⟨w.heap.size+1+1+1+1+1,0,none⟩) N N] 23) (Obj.cells (zeroS (N * 3)) 88) (Obj.cells #[Value.slice (some ⟨w.heap.size+1+1+1+1+1+1+1,0,none⟩) N N] 24) _ rfl
 generalize (((((((((w.alloc (Obj.cells #[Value.int .i64 (N:Nat),.int .i64 A.m,fsv,gsv,.slice a3 A.steps.length c3] 26)).alloc (Obj.cells #[Value.slice af from_.length cf] 22)).alloc (Obj.cells #[Value.func (.func gf) #[] caps] 128)).alloc (Obj.cells #[Value.slice none 0 0] 22)).alloc (Obj.cells #[Value.bool false] 4)).alloc (Obj.cells (falses N) 4)).alloc (Obj.cells #[Value.slice (some ⟨w.heap.size+1+1+1+1+1,0,none⟩) N N] 23)).alloc (Obj.cells (zeroS (N * 3)) 88)).alloc (Obj.cells #[Value.slice (some ⟨w.heap.size+1+1+1+1+1+1+1,0,none⟩) N N] 24))=W9 at *
 have HR:=hide (And.intro r0 (And.intro r1 (And.intro r2 (And.intro r3 (And.intro r4 (And.intro (BR.new r5) (And.intro r6 (And.intro (BY.new r7) r8))))))))
 have HB9:=hide hb9
 clear r0 r1 r2 r3 r4 r5 r6 r7 r8 hb9 hmk hms hsf
 go_fit (clone_any (HF.out.below HB9.out) (by have:=HA.out.2.2.1;omega))
 rintro e W10 ⟨tv,rfl,hown,hb10⟩
 have hb11:=below_new W10 (Obj.cells #[tv] 22)
 have hn11:=one_new W10 (Obj.cells #[tv] 22)
 have hs10:=hb10.size
 have HM0:=hide (show WM w Y (N:Nat) A.m fsv gsv (.slice a3 A.steps.length c3) (.slice af from_.length cf) (.func (.func gf) #[] caps) N w.heap.size (w.heap.size+1) (w.heap.size+1+1) (w.heap.size+1+1+1) (w.heap.size+1+1+1+1) (w.heap.size+1+1+1+1+1) (w.heap.size+1+1+1+1+1+1) (w.heap.size+1+1+1+1+1+1+1) (w.heap.size+1+1+1+1+1+1+1+1) W9.heap.size W10.heap.size (fun _=>false) (fun _=>⟨0,0,0⟩) from_ (W10.alloc (Obj.cells #[tv] 22)) from by
  obtain ⟨r0,r1,r2,r3,r4,r5,r6,r7,r8⟩:=HR.out
  have hbb:=below_trans hb10 hb11
  exact ⟨belowRow hbb r0,belowRow hbb r1,belowRow hbb r2,belowRow hbb r3,belowRow hbb r4,r5.old hbb,belowRow hbb r6,r7.old hbb,belowRow hbb r8,⟨tv,hn11,owns_kept hown (fun r hr=>hb11.block r (hown.lt r hr).2),fun k ek hS=>by
   have h1:=HA.out.2.2.2.2.2.2.2.1 k (((KI.of_below (s:=0) (S:=SY Y) (below_trans HB9.out hbb)).det (det_SY HA.out.2.2.2.1) (Nat.le_refl _) k).1 hS)
   have h2:=(hown.lt k ek).1
   omega⟩,⟨Nat.le_refl _,by omega,by omega,by omega,by omega,by omega,by omega,by omega,by omega,by omega,hs10,by simp⟩,KE.of_below (det_SY HA.out.2.2.2.1) (Nat.le_refl _) (below_trans HB9.out hbb),fun k hS=>Or.inl (((KI.of_below (s:=0) (S:=SY Y) (below_trans HB9.out hbb)).det (det_SY HA.out.2.2.2.1) (Nat.le_refl _) k).1 hS),HA.out.2.2.2.1,fun y hy=>by
   obtain ⟨lv,hlv⟩:=HA.out.2.2.2.2.2.2.2.2 y hy
   exact ⟨lv,belowRow (below_trans HB9.out hbb) hlv⟩⟩)
 obtain ⟨at_,ct,rfl⟩:=owns_form hown
 clear hown hb10 hb11 hn11 HR
 go_wp2_with (fail)
 generalize hbB:w.heap.size+1+1+1+1+1+1+1+1=bB at *
 generalize hgB:w.heap.size+1+1+1+1+1+1+1=gB at *
 generalize hbM:w.heap.size+1+1+1+1+1+1=bM at *
 generalize hgM:w.heap.size+1+1+1+1+1=gM at *
 generalize hbK:w.heap.size+1+1+1+1=bK at *
 generalize hbR:w.heap.size+1+1+1=bR at *
 generalize hbG:w.heap.size+1+1=bG at *
 generalize hbF:w.heap.size+1=bF at *
 clear hbB hgB hbM hgM hbK hbR hbG hbF
 generalize W9.heap.size=base at *
 generalize W10.heap.size=BT at *
 have hA0:=HA.out.2.2.1
 refine wp_loop_ghost_k (fun gk a Wk=>∃ (k:Nat) (ord:List Nat) (by_:Nat→Stp) (v21 v22 v23 v24 v25 v26 v27 v28 v29 v30 v31 v32:Value) (Ds:List Nat),gk=N+from_.length - k∧a={ tmps:=#[.agg #[.int .i64 (N:Nat),.int .i64 A.m,fsv,gsv,.slice a3 A.steps.length c3],.slice af from_.length cf,.func (.func gf) #[] caps,.pointer (some ⟨w.heap.size,0,none⟩),.pointer (some ⟨bF,0,none⟩),.pointer (some ⟨bG,0,none⟩),.pointer (some ⟨bR,0,none⟩),.pointer (some ⟨bK,0,none⟩),.pointer (some ⟨bM,0,none⟩),.pointer (some ⟨bB,0,none⟩),.pointer (some ⟨BT,0,none⟩),.int .i64 (k:Nat),undef,.pointer (some ⟨w.heap.size,0,none⟩),.int .i64 (N:Nat),.slice (some ⟨gM,0,none⟩) N N,.pointer (some ⟨w.heap.size,0,none⟩),.int .i64 (N:Nat),.slice (some ⟨gB,0,none⟩) N N,.slice af from_.length cf,.slice at_ from_.length ct,v21,v22,v23,v24,v25,v26,v27,v28,v29,v30,v31,v32,undef,undef,undef,undef,undef,undef,undef,undef,undef,undef,undef,undef,undef,undef,undef,undef,undef,undef,undef,undef,undef,undef,undef,undef,undef,undef,undef,undef,undef],defers:=marksOf Ds }∧Hid (WM w Y (N:Nat) A.m fsv gsv (.slice a3 A.steps.length c3) (.slice af from_.length cf) (.func (.func gf) #[] caps) N w.heap.size bF bG bR bK gM bM gB bB base BT (fun q=>decide (q ∈ ord)) by_ (XS from_ ord) Wk)∧Hid (Look A N F from_ ord by_ k)∧k≤from_.length+ord.length∧Hid (Marks Wk w.heap.size Ds)) (N+from_.length - 0) ?_ ?_
 ·refine ⟨0,[],fun _=>⟨0,0,0⟩,undef,undef,undef,undef,undef,undef,undef,undef,undef,undef,undef,undef,[],rfl,rfl,hide ?_,hide (look_nil _ _ _ _ _),Nat.zero_le _,hide ⟨List.nodup_nil,fun D h=>by cases h⟩⟩
  have h:=HM0.out
  have e1:(fun q=>decide (q ∈ ([]:List Nat)))=fun _=>false:=by funext q;simp
  have e2:XS from_ []=from_:=by simp [XS]
  rw [e1,e2]
  exact h
 clear HM0 hs9 hs10 HB9
 rintro gk a Wk ⟨k,ord,by_,v21,v22,v23,v24,v25,v26,v27,v28,v29,v30,v31,v32,Ds,rfl,rfl,HM,HL,hk,HMk⟩ Jq Kq hJq hKq
 have hol:ord.length≤N:=HL.out.few
 obtain ⟨tv,htb,hown,htr⟩:=HM.out.hT
 obtain ⟨ad,cp,rfl⟩:=owns_form hown
 have t0:=cell_of_row Wk BT 0 _ _ _ htb
 have HXl:=hide (XS_len from_ ord)
 by_cases hlt:k < from_.length+ord.length
 ·have hlx:k < (XS from_ ord).length:=by rw [HXl.out];exact hlt
  obtain ⟨gt,hgt,hgb⟩:∃ gt,ad=some ⟨gt,0,none⟩∧base≤gt:=by
   rcases hown.2 with ⟨e,h0⟩ | ⟨g',cap',cur,e,hb,_⟩
   ·omega
   ·cases e;exact ⟨g',rfl,hb⟩
  subst hgt
  obtain ⟨x,hx⟩:∃ x,(XS from_ ord).getD k 0=x:=⟨_,rfl⟩
  have hxc:Wk.cell? ⟨gt,k,none⟩=some (.int .i64 x):=by
   have:=hown.cells (g:=gt) rfl k (.int .i64 x) (by rw [List.getElem?_map,List.getElem?_eq_getElem hlx,← hx];simp [List.getD,hlx])
   rw [add_none,Nat.zero_add] at this
   exact this
  have hxN:0≤x∧x < (N:Int):=by
   rw [← hx]
   rcases XS_at hlt with h | ⟨q,hq,h⟩
   ·have:=HA.out.2.1 _ h;have:=HN.out;omega
   ·have:=HL.out.range q hq;rw [h];omega
  have a0:=cell_of_row Wk w.heap.size 0 _ _ _ HM.out.hA
  have a1:=cell_of_row Wk w.heap.size 1 _ _ _ HM.out.hA
  have a2:=cell_of_row Wk w.heap.size 2 _ _ _ HM.out.hA
  have a3':=cell_of_row Wk w.heap.size 3 _ _ _ HM.out.hA
  have a4:=cell_of_row Wk w.heap.size 4 _ _ _ HM.out.hA
  have hcp:(XS from_ ord).length≤cp:=by
   rcases hown.2 with ⟨e,h0⟩ | ⟨g',cap',cur,e,hb,_,hnc,_⟩
   ·omega
   ·cases e;exact hnc
  have Hx:=hide hx
  have Hxc:=hide (And.intro hxc (And.intro a0 (And.intro a1 (And.intro a2 (And.intro a3' (And.intro a4 t0))))))
  have Hown:=hide hown
  have Htb:=hide htb
  clear hx hxc a0 a1 a2 a3' a4 hown htb
  go_wp2_with (fail)
  rename_i Q' K hK
  refine wpIn_wide.1 (region_phases0 (lr:=none) (n:=0) [(0,27),(1,28),(2,29),(3,30),(4,31),(5,32)] (fun k W=>match k with | 0=>∃ d,W={ Wk with drawn:=d } | _=>∃ d,W=(({ Wk with drawn:=d }:World).alloc (Obj.cells #[Value.int .i64 (N:Nat),.int .i64 A.m,fsv,gsv,.slice a3 A.steps.length c3] 26)).alloc (Obj.cells #[Value.int .i64 x] 3)) (fun j v _=>match j with | 0=>v=.agg #[.int .i64 (N:Nat),.int .i64 A.m,fsv,gsv,.slice a3 A.steps.length c3] | 1=>v=.slice (some ⟨gt,0,none⟩) (XS from_ ord).length cp | 2=>v=.int .i64 (k:Nat) | 3=>v=.pointer (some ⟨gt,k,none⟩) | 4=>v=.int .i64 x | 5=>v=.func (.func 150) #[] #[.pointer (some ⟨Wk.heap.size,0,none⟩),.pointer (some ⟨Wk.heap.size+1,0,none⟩)] | _=>True) (by kernel_rfl) (by kernel_rfl) (by kernel_rfl) (by kernel_rfl) [5] [] rfl (fun x hx=>by simp at hx;subst hx;decide) (by decide) (by kernel_rfl) ⟨_,rfl⟩ ?hpure ?hspec ?hend)
  case hpure =>
   intro i o ho hni kk hkk hn hr a W vs hV he hd
   have hk0:kk=0:=by
    match kk,hn,hkk with
    | 0,_,_=>rfl
    | 1,hn,_ =>
     exfalso
     have:=hn 0 (by omega)
     match i,ho,hni with
     | 0,_,_=>exact absurd this (by rw [show needsB _ ([5].getD 0 0) 0=true from by kernel_rfl];simp)
     | 1,_,_=>exact absurd this (by rw [show needsB _ ([5].getD 0 0) 1=true from by kernel_rfl];simp)
     | 2,_,_=>exact absurd this (by rw [show needsB _ ([5].getD 0 0) 2=true from by kernel_rfl];simp)
     | 3,_,_=>exact absurd this (by rw [show needsB _ ([5].getD 0 0) 3=true from by kernel_rfl];simp)
     | 4,_,_=>exact absurd this (by rw [show needsB _ ([5].getD 0 0) 4=true from by kernel_rfl];simp)
     | 5,_,h=>exact absurd (by simp) h
     | i+6,ho,_=>exact absurd ho (by simp)
    | kk+2,_,h=>exact absurd h (by simp)
   subst hk0
   obtain ⟨d,rfl⟩:=hV
   obtain ⟨hxc,a0,a1,a2,a3',a4,t0⟩:=Hxc.out
   match i,ho,hni with
   | 0,ho,_ =>
    obtain rfl:=Option.some.inj ho
    have f3:a.tmps[3]?.getD undef=.pointer (some ⟨w.heap.size,0,none⟩):=free_val he 3 (by kernel_rfl)
    have q0:({ Wk with drawn:=d }:World).cell? ⟨w.heap.size,0,none⟩=_:=a0
    have q1:({ Wk with drawn:=d }:World).cell? ⟨w.heap.size,1,none⟩=_:=a1
    have q2:({ Wk with drawn:=d }:World).cell? ⟨w.heap.size,2,none⟩=_:=a2
    have q3:({ Wk with drawn:=d }:World).cell? ⟨w.heap.size,3,none⟩=_:=a3'
    have q4:({ Wk with drawn:=d }:World).cell? ⟨w.heap.size,4,none⟩=_:=a4
    exact Goes.value (v:=.agg #[.int .i64 (N:Nat),.int .i64 A.m,fsv,gsv,.slice a3 A.steps.length c3]) (w':={ Wk with drawn:=d }) (by simp [execOp,go_sem,f3,q0,q1,q2,q3,q4]) ⟨⟨_,rfl⟩,rfl,fun _ _ _ _ h=>h⟩
   | 1,ho,_ =>
    obtain rfl:=Option.some.inj ho
    have f10:a.tmps[10]?.getD undef=.pointer (some ⟨BT,0,none⟩):=free_val he 10 (by kernel_rfl)
    have q0:({ Wk with drawn:=d }:World).cell? ⟨BT,0,none⟩=_:=t0
    exact Goes.value (v:=.slice (some ⟨gt,0,none⟩) (XS from_ ord).length cp) (w':={ Wk with drawn:=d }) (by simp [execOp,go_sem,f10,q0]) ⟨⟨_,rfl⟩,rfl,fun _ _ _ _ h=>h⟩
   | 2,ho,_ =>
    obtain rfl:=Option.some.inj ho
    have f11:a.tmps[11]?.getD undef=.int .i64 (k:Nat):=free_val he 11 (by kernel_rfl)
    exact Goes.value (v:=.int .i64 (k:Nat)) (w':={ Wk with drawn:=d }) (by simp [execOp,go_sem,f11]) ⟨⟨_,rfl⟩,rfl,fun _ _ _ _ h=>h⟩
   | 3,ho,_ =>
    obtain rfl:=Option.some.inj ho
    have e1:a.tmps[28]?.getD undef=.slice (some ⟨gt,0,none⟩) (XS from_ ord).length cp:=(eval_tmp a 28).symm.trans (((hd 1 (by kernel_rfl)).2 28 (by kernel_rfl)).trans (hd 1 (by kernel_rfl)).1)
    have e2:a.tmps[29]?.getD undef=.int .i64 (k:Nat):=(eval_tmp a 29).symm.trans (((hd 2 (by kernel_rfl)).2 29 (by kernel_rfl)).trans (hd 2 (by kernel_rfl)).1)
    exact Goes.value (v:=.pointer (some ⟨gt,k,none⟩)) (w':={ Wk with drawn:=d }) (by simp [execOp,go_sem,e1,e2,hlx]) ⟨⟨_,rfl⟩,rfl,fun _ _ _ _ h=>h⟩
   | 4,ho,_ =>
    obtain rfl:=Option.some.inj ho
    have e3:a.tmps[30]?.getD undef=.pointer (some ⟨gt,k,none⟩):=(eval_tmp a 30).symm.trans (((hd 3 (by kernel_rfl)).2 30 (by kernel_rfl)).trans (hd 3 (by kernel_rfl)).1)
    have q0:({ Wk with drawn:=d }:World).cell? ⟨gt,k,none⟩=_:=hxc
    exact Goes.value (v:=.int .i64 x) (w':={ Wk with drawn:=d }) (by simp [execOp,go_sem,e3,q0]) ⟨⟨_,rfl⟩,rfl,fun _ _ _ _ h=>h⟩
   | 5,_,h=>exact absurd (by simp) h
   | i+6,ho,_=>exact absurd ho (by simp)
  case hspec =>
   intro kk o hkk ho a W vs hV he hd
   obtain rfl:kk=0:=by simp at hkk;omega
   obtain rfl:=Option.some.inj ho
   obtain ⟨d,rfl⟩:=hV
   have e0:a.tmps[27]?.getD undef=.agg #[.int .i64 (N:Nat),.int .i64 A.m,fsv,gsv,.slice a3 A.steps.length c3]:=(eval_tmp a 27).symm.trans (((hd 0 (by kernel_rfl)).2 27 (by kernel_rfl)).trans (hd 0 (by kernel_rfl)).1)
   have e4:a.tmps[31]?.getD undef=.int .i64 x:=(eval_tmp a 31).symm.trans (((hd 4 (by kernel_rfl)).2 31 (by kernel_rfl)).trans (hd 4 (by kernel_rfl)).1)
   refine Or.inr (Or.inl ⟨99,#[.agg #[.int .i64 (N:Nat),.int .i64 A.m,fsv,gsv,.slice a3 A.steps.length c3],.int .i64 x],by simp [execOp,go_sem,e0,e4],(from_any _ _ _ _ _ _ _).mono ?_⟩)
   rintro e W' ⟨rfl,rfl⟩
   exact ⟨_,rfl,⟨_,rfl⟩,rfl,fun _ _ _ _ h=>h⟩
  case hend =>
   intro vs W4 hV hRR
   obtain ⟨d,hW4⟩:=hV
   have g0:vs 0=.agg #[.int .i64 (N:Nat),.int .i64 A.m,fsv,gsv,.slice a3 A.steps.length c3]:=hRR 0 (by decide)
   have g1:vs 1=.slice (some ⟨gt,0,none⟩) (XS from_ ord).length cp:=hRR 1 (by decide)
   have g2:vs 2=.int .i64 (k:Nat):=hRR 2 (by decide)
   have g3:vs 3=.pointer (some ⟨gt,k,none⟩):=hRR 3 (by decide)
   have g4:vs 4=.int .i64 x:=hRR 4 (by decide)
   have g5:vs 5=.func (.func 150) #[] #[.pointer (some ⟨Wk.heap.size,0,none⟩),.pointer (some ⟨Wk.heap.size+1,0,none⟩)]:=hRR 5 (by decide)
   refine hK _ _ ?_
   simp only [putPairs,List.setIfInBounds_toArray,List.set_cons_succ,List.set_cons_zero]
   rw [g0,g1,g2,g3,g4,g5]
   clear hRR g0 g1 g2 g3 g4 g5
   obtain ⟨hbx,hq1,hq2⟩:Below Wk.heap.size Wk W4∧W4.heap[Wk.heap.size]?=some (Obj.cells #[Value.int .i64 (N:Nat),.int .i64 A.m,fsv,gsv,.slice a3 A.steps.length c3] 26)∧W4.heap[Wk.heap.size+1]?=some (Obj.cells #[Value.int .i64 x] 3):=by
    rw [hW4]
    have b1:Below Wk.heap.size Wk { Wk with drawn:=d }:=⟨rfl,rfl,rfl,Nat.le_refl _,fun _ _=>rfl⟩
    have n2:=one_new (({ Wk with drawn:=d }:World).alloc (Obj.cells #[Value.int .i64 (N:Nat),.int .i64 A.m,fsv,gsv,.slice a3 A.steps.length c3] 26)) (Obj.cells #[Value.int .i64 x] 3)
    rw [show (({ Wk with drawn:=d }:World).alloc (Obj.cells #[Value.int .i64 (N:Nat),.int .i64 A.m,fsv,gsv,.slice a3 A.steps.length c3] 26)).heap.size=Wk.heap.size+1 by simp] at n2
    exact ⟨below_trans (below_trans b1 (below_new _ _)) (below_new _ _),belowRow (below_new _ _) (one_new _ _),n2⟩
   clear hW4
   obtain ⟨hA,hf0,hfl,hY,hYs,hYf,hP,hYl,hYb⟩:=id HA.out
   have hlw:=HM.out.lt
   have hsz4:=hbx.size
   have hM4:=HM.out.below (det_SY hY) HM.out.ke.size hbx
   have hS4:StepSl W4 (.slice a3 A.steps.length c3) A.steps:=HS.out.ke hM4.ke hYs
   have hDt:Det Wk.heap.size (SWay Y bR bK gM gB BT):=det_SWay (fun k hk=>by have:=hY k hk;omega) (by omega)
   have hS4k:∀ k,SWay Y bR bK gM gB BT W4 k→k < Wk.heap.size:=fun k hS=>HM.out.way_lt hYl (((KI.of_below (s:=0) (S:=SWay Y bR bK gM gB BT) hbx).det hDt (Nat.le_refl _) k).1 hS)
   have hsq:=fromSeqO 19 Wk.heap.size (Wk.heap.size+1) N x W4 (cell_of_row _ _ 4 _ _ _ hq1) (cell_of_row _ _ 0 _ _ _ hq2) hS4 (by have:=hA.few;omega) (mono_getD hA.sorted) (fun s hs hf=>by have:=hA.steps s hs;have:=hA.m8;have:=HN.out;exact ⟨hf,by omega,by omega,by omega,by omega⟩)
   have HMD:=hide (show ∀ D ∈ Ds,D < Wk.heap.size from fun D hD=>(Array.getElem?_eq_some_iff.1 (HMk.out.2 D hD).2).1)
   have HM4:=hide hM4
   have HB4:=hide hbx
   clear hM4
   go_wp2_with (fail)
   refine wpIn_wide.1 (range_own (n:=20) (w0:=W4) (gf:=150) (lb:=#[.pointer (some ⟨Wk.heap.size,0,none⟩),.pointer (some ⟨Wk.heap.size+1,0,none⟩)]) rfl (enters_of Tryz.func150 (by kernel_rfl) rfl) hsq (SWay Y bR bK gM gB BT) Wk.heap.size hDt hsz4 ?hC (fun k hk=>by have:=hS4k k hk;omega) (Below.refl _ _) (fun _=>rfl)
    (fun pre W=>∃ (ord':List Nat) (by':Nat→Stp),WM w Y (N:Nat) A.m fsv gsv (.slice a3 A.steps.length c3) (.slice af from_.length cf) (.func (.func gf) #[] caps) N w.heap.size bF bG bR bK gM bM gB bB base BT (fun q=>decide (q ∈ ord')) by' (XS from_ ord') W∧LookI A N F from_ ord' by' k (pre.map (·.1))∧Marks W w.heap.size Ds∧(XS from_ ord').getD k 0=x∧k < from_.length+ord'.length) (fun q pre W=>q=.ret∧WayRes A from_ F P Y w bR bK W∧Marks W w.heap.size Ds) ?hI ?hIx ?start
    (fun y a' W=>∃ Bx,BT < Bx∧W.heap[Bx]?=some (.cells #[.int .i64 y.1.f,.int .i64 y.1.l,.int .i64 y.1.t] 88)∧a'={ tmps:=#[.agg #[.int .i64 (N:Nat),.int .i64 A.m,fsv,gsv,.slice a3 A.steps.length c3],.slice af from_.length cf,.func (.func gf) #[] caps,.pointer (some ⟨w.heap.size,0,none⟩),.pointer (some ⟨bF,0,none⟩),.pointer (some ⟨bG,0,none⟩),.pointer (some ⟨bR,0,none⟩),.pointer (some ⟨bK,0,none⟩),.pointer (some ⟨bM,0,none⟩),.pointer (some ⟨bB,0,none⟩),.pointer (some ⟨BT,0,none⟩),.int .i64 (k:Nat),.pointer (some ⟨Bx,0,none⟩),.pointer (some ⟨w.heap.size,0,none⟩),.int .i64 (N:Nat),.slice (some ⟨gM,0,none⟩) N N,.pointer (some ⟨w.heap.size,0,none⟩),.int .i64 (N:Nat),.slice (some ⟨gB,0,none⟩) N N,.slice af from_.length cf,.slice at_ from_.length ct,.int .i64 (k:Nat),.slice (some ⟨gt,0,none⟩) (XS from_ ord).length cp,.int .i64 ((XS from_ ord).length:Nat),.bool true,v25,v26,.agg #[.int .i64 (N:Nat),.int .i64 A.m,fsv,gsv,.slice a3 A.steps.length c3],.slice (some ⟨gt,0,none⟩) (XS from_ ord).length cp,.int .i64 (k:Nat),.pointer (some ⟨gt,k,none⟩),.int .i64 x,.func (.func 150) #[] #[.pointer (some ⟨Wk.heap.size,0,none⟩),.pointer (some ⟨Wk.heap.size+1,0,none⟩)],.agg #[.int .i64 y.1.f,.int .i64 y.1.l,.int .i64 y.1.t],undef,undef,undef,undef,undef,undef,undef,undef,undef,undef,undef,undef,undef,undef,undef,undef,undef,undef,undef,undef,undef,undef,undef,undef,undef,undef,undef,undef],defers:=[] }) ?hAx ?assign ?body ?done ?stop)
   case hC =>
    rintro c hc hS
    have:=hS4k c hS
    rcases hc with rfl | rfl | ⟨hne,b,off,e,rfl⟩
    ·omega
    ·omega
    ·have hb0:c < w.heap.size:=by
      obtain ⟨a',cap',e2,_,hz,_⟩:=HS.out
      injection e2 with e2 _ _
      subst e2
      rcases hz with h0 | ⟨b',off',e3,hcc⟩
      ·exact absurd h0 hne
      ·rw [e] at e3
       cases e3
       exact World.block_lt_of_cell? w _ (hcc 0 (List.length_pos_iff.2 hne)).1
     exact HM4.out.way_not hb0 (hYs c off _ _ (by rw [e]) hne) hS
   case hI =>
    rintro pre A B ⟨ord',by',h1,h2,h3,h4,h5⟩ hA' hk'
    exact ⟨ord',by',h1.ki (det_SY hY) h1.ke.size (by omega) hk',h2,⟨h3.1,fun D hD=>⟨(h3.2 D hD).1,hk'.keep _ _ (h3.2 D hD).2 (Or.inl (by have:=HMD.out D hD;omega))⟩⟩,h4,h5⟩
   case hIx =>
    rintro q pre A B ⟨h1,h2,h3⟩ hA' hk'
    exact ⟨h1,h2.ki hP hY (by omega) hk',⟨h3.1,fun D hD=>⟨(h3.2 D hD).1,hk'.keep _ _ (h3.2 D hD).2 (Or.inl (by have:=HMD.out D hD;omega))⟩⟩⟩
   case start=>exact ⟨ord,by_,HM4.out,HL.out.begin_,⟨HMk.out.1,fun D hD=>⟨(HMk.out.2 D hD).1,belowRow HB4.out (HMk.out.2 D hD).2⟩⟩,Hx.out,hlt⟩
   case hAx =>
    rintro l y a' A o rr hl _ ⟨Bx,h0,h1,h2⟩
    exact ⟨Bx,h0,(World.putObj_heap_other (fun e=>by rw [e,hl] at h1;cases h1)).trans h1,h2⟩
   case assign =>
    rintro l pre ⟨⟨yf,yl,yt⟩,hy⟩ A1 K' hi hsz hK'
    have HK':=hide hK'
    clear hK' hi hsq hS4 hq1 hq2 HM4 HB4 hDt hS4k
    gi_wp2
    exact HK'.out _ _ (below_new _ _) ⟨A1.heap.size,by omega,one_new A1 _,rfl⟩
   case body =>
    rintro l pre ⟨⟨sf,sl,st⟩,hsg⟩ a' A1 hl hlr hSl hsz ⟨ord',by',h1,h2,h3,h4,h5⟩ ⟨Bx,hBxT,hbx',rfl⟩ hlen
    have hgs:=hsg.2
    obtain ⟨tn,htn⟩:=Int.eq_ofNat_of_zero_le hgs.2.2.2.1
    dsimp only at htn
    subst htn
    have htN:tn < N:=by have:=hgs.2.2.2.2;dsimp only at this;omega
    have hsm:(⟨sf,sl,(tn:Nat)⟩:Stp) ∈ A.steps:=hsg.1
    generalize hQ2:postE (SWay Y bR bK gM gB BT) _ _ (pre ++ [(⟨(⟨sf,sl,(tn:Nat)⟩:Stp),hsg⟩:{ s:Stp // s ∈ A.steps∧GS x N s })]) A1=Q2
    have HQn:=hide (show ∀ (a:Act) (W:World),KE (SWay Y bR bK gM gB BT) A1 W→(∃ (ord':List Nat) (by':Nat→Stp),WM w Y (N:Nat) A.m fsv gsv (.slice a3 A.steps.length c3) (.slice af from_.length cf) (.func (.func gf) #[] caps) N w.heap.size bF bG bR bK gM bM gB bB base BT (fun q=>decide (q ∈ ord')) by' (XS from_ ord') W∧LookI A N F from_ ord' by' k (pre.map (·.1) ++ [(⟨sf,sl,(tn:Nat)⟩:Stp)])∧Marks W w.heap.size Ds∧(XS from_ ord').getD k 0=x∧k < from_.length+ord'.length)→Q2 .normal a W by
     intro a W k1 k2
     rw [← hQ2]
     refine ⟨k1,?_⟩
     show ∃ (ord':List Nat) (by':Nat→Stp),_∧LookI A N F from_ ord' by' k ((pre ++ [(⟨(⟨sf,sl,(tn:Nat)⟩:Stp),hsg⟩:{ s:Stp // s ∈ A.steps∧GS x N s })]).map (·.1))∧_
     rw [List.map_append]
     exact k2)
    have HQr:=hide (show ∀ (a:Act) (W:World),KE (SWay Y bR bK gM gB BT) A1 W→WayRes A from_ F P Y w bR bK W→Marks W w.heap.size Ds→Q2 .ret a W by
     intro a W k1 k2 k3
     rw [← hQ2]
     exact ⟨k1,rfl,k2,k3⟩)
    have hlt1:=h1.lt
    have m0:=cell_of_row _ _ 0 _ _ _ h1.hM
    have x2:=cell_of_row _ _ 2 _ _ _ hbx'
    have b0:=h1.hr.cell tn htN
    have HI:=hide (And.intro h1 (And.intro h2 (And.intro h3 (And.intro h4 h5))))
    have HBx:=hide hbx'
    have Hgs:=hide hgs
    dsimp only at x2 HBx
    clear hQ2 h1 h2 h3 h4 h5 hbx' hsq hS4 hq1 hq2 HM4 HB4 hgs hlen hSl hl
    by_cases hm:tn ∈ ord'
    ·have hd:decide (tn ∈ ord')=true:=decide_eq_true hm
     rw [hd] at b0
     clear hd
     gi_wp2
     obtain ⟨h1,h2,h3,h4,h5⟩:=HI.out
     exact HQn.out _ _ (KE.refl _ _) ⟨ord',by',h1,h2.skip rfl hm,h3,h4,h5⟩
    ·have hd:decide (tn ∈ ord')=false:=decide_eq_false hm
     rw [hd] at b0
     clear hd
     gi_wp2_with (fail)
     rename_i K hK
     have hc:∀ kk W,VW A1 (A1.setCell ⟨gM,tn,none⟩ (.bool true)) (putStep (A1.setCell ⟨gM,tn,none⟩ (.bool true)) gB tn (⟨sf,sl,(tn:Nat)⟩:Stp)) kk W→W.cell? ⟨bM,0,none⟩=some (.slice (some ⟨gM,0,none⟩) N N)∧W.cell? ⟨bB,0,none⟩=some (.slice (some ⟨gB,0,none⟩) N N)∧W.cell? ⟨Bx,0,none⟩=some (.int .i64 sf)∧W.cell? ⟨Bx,1,none⟩=some (.int .i64 sl)∧W.cell? ⟨Bx,2,none⟩=some (.int .i64 (tn:Nat)):=by
      have y0:=cell_of_row _ _ 0 _ _ _ HBx.out
      have y1:=cell_of_row _ _ 1 _ _ _ HBx.out
      have q1:=cell_of_row _ _ 0 _ _ _ HI.out.1.hB
      have n1:Bx ≠ gM:=by omega
      have n2:Bx ≠ gB:=by omega
      have g1:∀ k,k ≠ gM→(A1.setCell ⟨gM,tn,none⟩ (.bool true)).heap[k]?=A1.heap[k]?:=fun k h=>heap_setCell_other _ _ _ _ h
      have g2:∀ k,k ≠ gM→k ≠ gB→(putStep (A1.setCell ⟨gM,tn,none⟩ (.bool true)) gB tn (⟨sf,sl,(tn:Nat)⟩:Stp)).heap[k]?=A1.heap[k]?:=fun k h h'=>(putStep_other _ _ _ h').trans (g1 k h)
      intro kk W hV
      match kk,hV with
      | 0,⟨d,e⟩=>subst e;exact ⟨m0,q1,y0,y1,x2⟩
      | 1,⟨d,e⟩ =>
       subst e
       exact ⟨(cell_same (g1 bM (by omega))).trans m0,(cell_same (g1 bB (by omega))).trans q1,(cell_same (g1 Bx n1)).trans y0,(cell_same (g1 Bx n1)).trans y1,(cell_same (g1 Bx n1)).trans x2⟩
      | kk+2,⟨d,e⟩ =>
       subst e
       exact ⟨(cell_same (g2 bM (by omega) (by omega))).trans m0,(cell_same (g2 bB (by omega) (by omega))).trans q1,(cell_same (g2 Bx n1 n2)).trans y0,(cell_same (g2 Bx n1 n2)).trans y1,(cell_same (g2 Bx n1 n2)).trans x2⟩
     have Hc:=hide hc
     clear hc
     refine region_phases0 (lr:=some l) [(0,39),(1,40),(2,41),(3,42),(4,43),(5,44),(6,45),(7,46),(9,47)] (VW A1 (A1.setCell ⟨gM,tn,none⟩ (.bool true)) (putStep (A1.setCell ⟨gM,tn,none⟩ (.bool true)) gB tn (⟨sf,sl,(tn:Nat)⟩:Stp))) (fun j v _=>match j with | 0=>v=.slice (some ⟨gM,0,none⟩) N N | 1=>v=.pointer (some ⟨Bx,2,none⟩) | 2=>v=.int .i64 (tn:Nat) | 3=>v=.slice (some ⟨gB,0,none⟩) N N | 4=>v=.pointer (some ⟨Bx,2,none⟩) | 5=>v=.int .i64 (tn:Nat) | 6=>v=.agg #[.int .i64 sf,.int .i64 sl,.int .i64 (tn:Nat)] | 7=>v=.pointer (some ⟨gM,tn,none⟩) | 9=>v=.pointer (some ⟨gB,tn * 3,none⟩) | _=>True) (by kernel_rfl) (by kernel_rfl) (by kernel_rfl) (by kernel_rfl) [8,10] [[]] rfl (fun x hx=>by simp at hx;rcases hx with rfl | rfl <;> decide) (by decide) (by kernel_rfl) ⟨_,rfl⟩ ?hpure ?hspec ?hend
     case hpure =>
      intro i o ho hni kk hkk hn hr a W vs hV he hd
      obtain ⟨c0,c1,c2,c3,c4⟩:=Hc.out kk W hV
      match i,ho,hni with
      | 0,ho,_ =>
       obtain rfl:=Option.some.inj ho
       have f8:a.tmps[8]?.getD undef=.pointer (some ⟨bM,0,none⟩):=free_val he 8 (by kernel_rfl)
       exact Goes.value (v:=.slice (some ⟨gM,0,none⟩) N N) (w':=W) (by simp [execOp,go_sem,f8,c0]) ⟨hV,rfl,fun _ _ _ _ h=>h⟩
      | 1,ho,_ =>
       obtain rfl:=Option.some.inj ho
       have f12:a.tmps[12]?.getD undef=.pointer (some ⟨Bx,0,none⟩):=free_val he 12 (by kernel_rfl)
       exact Goes.value (v:=.pointer (some ⟨Bx,2,none⟩)) (w':=W) (by simp [execOp,go_sem,f12]) ⟨hV,rfl,fun _ _ _ _ h=>h⟩
      | 2,ho,_ =>
       obtain rfl:=Option.some.inj ho
       have e1:a.tmps[40]?.getD undef=.pointer (some ⟨Bx,2,none⟩):=(eval_tmp a 40).symm.trans (((hd 1 (by kernel_rfl)).2 40 (by kernel_rfl)).trans (hd 1 (by kernel_rfl)).1)
       exact Goes.value (v:=.int .i64 (tn:Nat)) (w':=W) (by simp [execOp,go_sem,e1,c4]) ⟨hV,rfl,fun _ _ _ _ h=>h⟩
      | 3,ho,_ =>
       obtain rfl:=Option.some.inj ho
       have f9:a.tmps[9]?.getD undef=.pointer (some ⟨bB,0,none⟩):=free_val he 9 (by kernel_rfl)
       exact Goes.value (v:=.slice (some ⟨gB,0,none⟩) N N) (w':=W) (by simp [execOp,go_sem,f9,c1]) ⟨hV,rfl,fun _ _ _ _ h=>h⟩
      | 4,ho,_ =>
       obtain rfl:=Option.some.inj ho
       have f12:a.tmps[12]?.getD undef=.pointer (some ⟨Bx,0,none⟩):=free_val he 12 (by kernel_rfl)
       exact Goes.value (v:=.pointer (some ⟨Bx,2,none⟩)) (w':=W) (by simp [execOp,go_sem,f12]) ⟨hV,rfl,fun _ _ _ _ h=>h⟩
      | 5,ho,_ =>
       obtain rfl:=Option.some.inj ho
       have e4:a.tmps[43]?.getD undef=.pointer (some ⟨Bx,2,none⟩):=(eval_tmp a 43).symm.trans (((hd 4 (by kernel_rfl)).2 43 (by kernel_rfl)).trans (hd 4 (by kernel_rfl)).1)
       exact Goes.value (v:=.int .i64 (tn:Nat)) (w':=W) (by simp [execOp,go_sem,e4,c4]) ⟨hV,rfl,fun _ _ _ _ h=>h⟩
      | 6,ho,_ =>
       obtain rfl:=Option.some.inj ho
       have f12:a.tmps[12]?.getD undef=.pointer (some ⟨Bx,0,none⟩):=free_val he 12 (by kernel_rfl)
       exact Goes.value (v:=.agg #[.int .i64 sf,.int .i64 sl,.int .i64 (tn:Nat)]) (w':=W) (by simp [execOp,go_sem,f12,c2,c3,c4]) ⟨hV,rfl,fun _ _ _ _ h=>h⟩
      | 7,ho,_ =>
       obtain rfl:=Option.some.inj ho
       have e0:a.tmps[39]?.getD undef=.slice (some ⟨gM,0,none⟩) N N:=(eval_tmp a 39).symm.trans (((hd 0 (by kernel_rfl)).2 39 (by kernel_rfl)).trans (hd 0 (by kernel_rfl)).1)
       have e2:a.tmps[41]?.getD undef=.int .i64 (tn:Nat):=(eval_tmp a 41).symm.trans (((hd 2 (by kernel_rfl)).2 41 (by kernel_rfl)).trans (hd 2 (by kernel_rfl)).1)
       exact Goes.value (v:=.pointer (some ⟨gM,tn,none⟩)) (w':=W) (by simp [execOp,go_sem,e0,e2,htN]) ⟨hV,rfl,fun _ _ _ _ h=>h⟩
      | 8,_,h=>exact absurd (by simp) h
      | 9,ho,_ =>
       obtain rfl:=Option.some.inj ho
       have e3:a.tmps[42]?.getD undef=.slice (some ⟨gB,0,none⟩) N N:=(eval_tmp a 42).symm.trans (((hd 3 (by kernel_rfl)).2 42 (by kernel_rfl)).trans (hd 3 (by kernel_rfl)).1)
       have e5:a.tmps[44]?.getD undef=.int .i64 (tn:Nat):=(eval_tmp a 44).symm.trans (((hd 5 (by kernel_rfl)).2 44 (by kernel_rfl)).trans (hd 5 (by kernel_rfl)).1)
       exact Goes.value (v:=.pointer (some ⟨gB,tn * 3,none⟩)) (w':=W) (by simp [execOp,go_sem,e3,e5,htN]) ⟨hV,rfl,fun _ _ _ _ h=>h⟩
      | 10,_,h=>exact absurd (by simp) h
      | i+11,ho,_=>exact absurd ho (by simp)
     case hspec =>
      intro kk o hkk ho a W vs hV he hd
      match kk,ho,hV with
      | 0,ho,⟨d,hW⟩ =>
       obtain rfl:=Option.some.inj ho
       subst hW
       have u0:(atD A1 d).cell? ⟨gM,tn,none⟩=_:=b0
       have u1:(atD A1 d).frozen? ⟨gM,tn,none⟩=false:=HI.out.1.hr.soft tn
       have e7:a.tmps[46]?.getD undef=.pointer (some ⟨gM,tn,none⟩):=(eval_tmp a 46).symm.trans (((hd 7 (by kernel_rfl)).2 46 (by kernel_rfl)).trans (hd 7 (by kernel_rfl)).1)
       exact Or.inl ⟨undef,atD (A1.setCell ⟨gM,tn,none⟩ (.bool true)) d,Or.inr ⟨by simp [execOp,go_sem,e7,u0,u1];rfl,rfl⟩,⟨_,rfl⟩,trivial,fun _ _ _ _ h=>h⟩
      | 1,ho,⟨d,hW⟩ =>
       obtain rfl:=Option.some.inj ho
       subst hW
       obtain ⟨d0,d1,d2⟩:=HI.out.1.hS.cell tn htN
       have hgg:gB ≠ gM:=by omega
       have u0:(atD (A1.setCell ⟨gM,tn,none⟩ (.bool true)) d).cell? ⟨gB,tn * 3,none⟩=_:=(cell_same (heap_setCell_other _ _ _ _ hgg)).trans d0
       have u1:(atD (A1.setCell ⟨gM,tn,none⟩ (.bool true)) d).cell? ⟨gB,tn * 3+1,none⟩=_:=(cell_same (heap_setCell_other _ _ _ _ hgg)).trans d1
       have u2:(atD (A1.setCell ⟨gM,tn,none⟩ (.bool true)) d).cell? ⟨gB,tn * 3+2,none⟩=_:=(cell_same (heap_setCell_other _ _ _ _ hgg)).trans d2
       have u3:∀ o,(atD (A1.setCell ⟨gM,tn,none⟩ (.bool true)) d).frozen? ⟨gB,o,none⟩=false:=fun o=>by
        show (A1.setCell ⟨gM,tn,none⟩ (.bool true)).frozen? _=false
        rw [World.frozen?_setCell]
        exact HI.out.1.hS.soft o
       have e9:a.tmps[47]?.getD undef=.pointer (some ⟨gB,tn * 3,none⟩):=(eval_tmp a 47).symm.trans (((hd 9 (by kernel_rfl)).2 47 (by kernel_rfl)).trans (hd 9 (by kernel_rfl)).1)
       have e6:a.tmps[45]?.getD undef=.agg #[.int .i64 sf,.int .i64 sl,.int .i64 (tn:Nat)]:=(eval_tmp a 45).symm.trans (((hd 6 (by kernel_rfl)).2 45 (by kernel_rfl)).trans (hd 6 (by kernel_rfl)).1)
       refine Or.inl ⟨undef,atD (putStep (A1.setCell ⟨gM,tn,none⟩ (.bool true)) gB tn (⟨sf,sl,(tn:Nat)⟩:Stp)) d,Or.inr ⟨?_,rfl⟩,⟨_,rfl⟩,trivial,fun _ _ _ _ h=>h⟩
       simp [execOp,go_sem,e9,e6,u0,u1,u2,u3]
       rfl
      | kk+2,_,_=>exact absurd hkk (by simp)
     case hend =>
      intro vs W5 hV hRR
      obtain ⟨d,hW5⟩:=hV
      have g0:vs 0=.slice (some ⟨gM,0,none⟩) N N:=hRR 0 (by decide)
      have g1:vs 1=.pointer (some ⟨Bx,2,none⟩):=hRR 1 (by decide)
      have g2:vs 2=.int .i64 (tn:Nat):=hRR 2 (by decide)
      have g3:vs 3=.slice (some ⟨gB,0,none⟩) N N:=hRR 3 (by decide)
      have g4:vs 4=.pointer (some ⟨Bx,2,none⟩):=hRR 4 (by decide)
      have g5:vs 5=.int .i64 (tn:Nat):=hRR 5 (by decide)
      have g6:vs 6=.agg #[.int .i64 sf,.int .i64 sl,.int .i64 (tn:Nat)]:=hRR 6 (by decide)
      have g7:vs 7=.pointer (some ⟨gM,tn,none⟩):=hRR 7 (by decide)
      have g9:vs 9=.pointer (some ⟨gB,tn * 3,none⟩):=hRR 9 (by decide)
      refine hK _ _ ?_
      simp only [putPairs,List.setIfInBounds_toArray,List.set_cons_succ,List.set_cons_zero]
      rw [g0,g1,g2,g3,g4,g5,g6,g7,g9]
      clear hRR g0 g1 g2 g3 g4 g5 g6 g7 g9 Hc
      have hgg:gM ≠ gB:=by omega
      have ho5:∀ k,k ≠ gM→k ≠ gB→W5.heap[k]?=A1.heap[k]?:=fun k h h'=>by rw [hW5];exact (putStep_other _ _ _ h').trans (heap_setCell_other _ _ _ _ h)
      have hsz5:W5.heap.size=A1.heap.size:=by rw [hW5];exact (putStep_size _ _ _ _).trans (by simp [World.setCell])
      have hBR5:BR W5 gM N (fun q=>decide (q ∈ ord' ++ [tn])):=by
       have h:=(HI.out.1.hr.set tn htN).of_block (W':=W5) (by rw [hW5];exact putStep_other _ _ _ hgg)
       refine h.congr (fun i _=>?_)
       rw [Bool.eq_iff_iff]
       simp
      have hBY5:BY W5 gB N (setBy by' (⟨sf,sl,(tn:Nat)⟩:Stp)):=by
       have h:=(HI.out.1.hS.of_block (W':=(A1.setCell ⟨gM,tn,none⟩ (.bool true))) (heap_setCell_other _ _ _ _ (Ne.symm hgg))).put (s:=(⟨sf,sl,(tn:Nat)⟩:Stp)) rfl htN
       exact h.of_block (by rw [hW5];rfl)
      have HW5:=hide (HI.out.1.put hY (by rw [hW5];rfl) (by rw [hW5];rfl) (by rw [hW5];rfl) hsz5 ho5 hBR5 hBY5)
      have HKE5:=hide (way_put_ke HI.out.1 hY (by rw [hW5];rfl) (by rw [hW5];rfl) (by rw [hW5];rfl) hsz5 ho5)
      have hnM:∀ D,(∀ c t fr,A1.heap[D]? ≠ some (.cells c t fr))→D ≠ gM∧D ≠ gB:=fun D hD=>⟨fun e=>by
       obtain ⟨c',t',fr,hb',_⟩:=cells_of_cell? (HI.out.1.hr.cell tn htN)
       exact hD _ _ _ (by rw [e];exact hb'),fun e=>by
       obtain ⟨c',t',fr,hb',_⟩:=cells_of_cell? (HI.out.1.hS.cell tn htN).1
       exact hD _ _ _ (by rw [e];exact hb')⟩
      have HMk5:=hide (marks_kept HI.out.2.2.1 (fun D _ hD _=>ho5 D (hnM D hD).1 (hnM D hD).2))
      have HBx5:=hide ((ho5 Bx (by omega) (by omega)).trans HBx.out)
      have hBxl:Bx < W5.heap.size:=(Array.getElem?_eq_some_iff.1 HBx5.out).1
      have HFd:=hide (HFo.out W5 tn HW5.out.ke HW5.out.yb (by have:=HN.out;omega))
      clear hW5 ho5 hBR5 hBY5 hnM m0 x2 b0 HBx hK
      have c0:=cell_of_row _ _ 0 _ _ _ HW5.out.hG
      have c1:=cell_of_row _ _ 2 _ _ _ HBx5.out
      gi_wp2_with (fail)
      refine ⟨trivial,(CallsIn.inRound l (callsIn_wide.2 HFd.out)).mono ?_⟩
      rintro e W6 ⟨rfl,hyes,hke6,hkx6,hyb6⟩
      have hsz6:=hke6.size
      have HW6:=hide (HW5.out.found hYl hke6 hyb6)
      have HKE6:=hide (HKE5.out.trans (way_found_ke HW5.out hYl hke6))
      have HBx6:=hide ((hkx6.block Bx hBxl (fun h=>by have:=hY Bx h;omega)).trans HBx5.out)
      have HMk6:=hide (marks_kept HMk5.out (fun D hlo _ hlt=>hkx6.block D hlt (fun h=>by have:=hY D h;omega)))
      have HYes:=hide hyes
      clear c0 c1 hyes hke6 hkx6 hyb6 HFd
      have c2:=cell_of_row _ _ 2 _ _ _ HBx6.out
      cases hFt:F tn with
      | true =>
       have HNew:=hide (HI.out.2.1.new HI.out.2.2.2.2 hsm rfl hm (by rw [HI.out.2.2.2.1];exact Hgs.out.1))
       have hrange:∀ q ∈ ord' ++ [tn],q < N:=fun q hq=>by
        rcases List.mem_append.1 hq with h1 | h1
        ·exact HI.out.2.1.look.range q h1
        ·rw [List.mem_singleton] at h1;omega
       have hfew:=nodup_le N _ HNew.out.nodup hrange
       have HBa:=hide (backWay_any (A:=A) (from_:=from_) (ord:=ord' ++ [tn]) (end_:=tn) HW6.out.hS (HF.out.ke HW6.out.ke hYf) (fun s hs=>(hA.steps s hs).1) HNew.out hrange (by have:=HN.out;omega) hfew (by simp))
       have HP6:=hide (HYes.out hFt)
       have HFt:=hide hFt
       have d0:=cell_of_row _ _ 0 _ _ _ HW6.out.hB
       have d1:=cell_of_row _ _ 0 _ _ _ HW6.out.hF
       clear hFt HYes HNew
       gi_wp2_with (fail)
       refine ⟨trivial,(CallsIn.inRound l (callsIn_wide.2 HBa.out)).mono ?_⟩
       rintro e W7 ⟨v7,us,rfl,hv7,hf7,hne7,hlen7,hway7,hb7⟩
       have hsz7:=hb7.size
       have HW7:=hide (HW6.out.below (det_SY hY) HW6.out.ke.size hb7)
       have HKE7:=hide (HKE6.out.trans (KE.of_below hDt (by have:=HKE6.out.size;omega) hb7))
       have HMk7:=hide (marks_kept HMk6.out (fun D _ _ hlt=>hb7.block D hlt))
       have hsy7:∀ k,SY Y W7 k ↔ SY Y W6 k:=(KI.of_below (s:=0) (S:=SY Y) hb7).det (det_SY hY) HW6.out.ke.size
       have HAns:=hide (HW7.out.answer (c0:=W6.heap.size) hY hYl hP hv7 (fun b off k c e=>⟨hf7 b off k c e,by
        obtain ⟨a,cap,e2,_,hz,_⟩:=hv7
        rcases hz with h0 | ⟨b',off',e3,hc⟩
        ·exact absurd h0 hne7
        ·rw [e2,e3] at e
         cases e
         exact World.block_lt_of_cell? W7 _ (hc 0 (List.length_pos_iff.2 hne7))⟩) (by omega) ⟨hne7,by have:=HN.out;omega,hway7⟩ (by have:=HN.out;omega) HFt.out (hP tn W6 W7 HP6.out.1 (fun k o _ _ ho=>belowRow hb7 ho)) (fun k hS=>(HP6.out.2 k ((hsy7 k).1 hS)).imp id (fun h=>by have:=HW5.out.ke.size;omega)) (C:=A1) (by have:=HKE6.out.size;omega) HKE7.out)
       have r0:=cell_of_row _ _ 0 _ _ _ HW7.out.hR
       have r1:=cell_of_row _ _ 0 _ _ _ HW7.out.hK
       have z0:=frozen_of_row _ _ 0 _ _ HW7.out.hR
       have z1:=frozen_of_row _ _ 0 _ _ HW7.out.hK
       have HMk8:=hide (show Marks ((W7.setCell ⟨bR,0,none⟩ v7).setCell ⟨bK,0,none⟩ (.bool true)) w.heap.size Ds from marks_kept HMk7.out (fun D _ hD _=>by
        have n1:D ≠ bR:=fun e=>hD _ _ _ (by rw [e];exact HW7.out.hR)
        have n2:D ≠ bK:=fun e=>hD _ _ _ (by rw [e];exact HW7.out.hK)
        rw [heap_setCell_other _ _ _ _ n2,heap_setCell_other _ _ _ _ n1]))
       obtain ⟨va,vc,rfl,-⟩:=id hv7
       have hne1:¬ bR=bK:=by omega
       have hne2:¬ bK=bR:=by omega
       clear hv7 hf7 hne7 hlen7 hway7 hb7 hsy7 d0 d1 c2 HBa
       gi_wp2
       exact HQr.out _ _ HAns.out.2 HAns.out.1 HMk8.out
      | false =>
       have HLm:=hide (HI.out.2.1.meet HI.out.2.2.2.2 hsm rfl htN hm (by rw [HI.out.2.2.2.1];exact Hgs.out.1) hFt)
       clear hFt HYes
       obtain ⟨tv,htb,hown,htr⟩:=HW6.out.hT
       obtain ⟨ad8,cp8,rfl⟩:=owns_form hown
       have t6:=cell_of_row _ _ 0 _ _ _ htb
       have hb8:=below_new W6 (Obj.cells #[Value.int .i64 (tn:Nat)] 3 (0,0))
       have hn8:=one_new W6 (Obj.cells #[Value.int .i64 (tn:Nat)] 3 (0,0))
       have HownW:=hide (owns_kept hown (fun r hr=>hb8.block r (hown.lt r hr).2))
       have Hbt8:=hide (belowRow hb8 htb)
       have Hc0:=hide (cell_of_row _ _ 0 _ _ _ hn8)
       have HW8:=hide (HW6.out.below (det_SY hY) HW6.out.ke.size hb8)
       have HKE8:=hide (HKE6.out.trans (KE.of_below hDt (by have:=HKE6.out.size;omega) hb8))
       have HMk8:=hide (marks_kept HMk6.out (fun D _ _ hlt=>hb8.block D hlt))
       have hl8:=HW8.out.lt
       have hlenx:(XS from_ ord').length≤900000:=by
        rw [XS_len]
        have:=HI.out.2.1.look.few
        have:=HN.out
        omega
       have HszW:=hide (show base≤(W6.alloc (Obj.cells #[Value.int .i64 (tn:Nat)] 3 (0,0))).heap.size by omega)
       have hBT6:BT < W6.heap.size:=HW6.out.lt.2.2.2.2.2.2.2.2.2.2.2
       clear hown htb htr hb8 hn8
       gi_wp2_with (gi_at_builtin;refine wpListIn_append_int _ rfl (.tmp 57) (.tmp 60) rfl base (XS from_ ord').length _ ((XS from_ ord').map (.int .i64)) rfl HownW.out W6.heap.size 1 (tn:Int) rfl (by decide) Hc0.out hlenx HszW.out ?_;intro g8 cap8 w8 hown8 hgrow8 hor8 hbase8;have hnr:∀ r,(Value.slice ad8 (XS from_ ord').length cp8).ownBlock=some r→r ≠ BT:=(fun r hr e=>by obtain ⟨c',fz,hc⟩:=owns_cells HownW.out r hr;rw [e,Hbt8.out] at hc;injection hc with hc;injection hc with _ hc2;exact absurd hc2 (by decide));have hbt9:=(hgrow8.block BT (by omega) (fun e=>hnr BT e.symm rfl)).trans Hbt8.out;have z0:=cell_of_row w8 BT 0 _ _ _ hbt9;have zf:∀ o,w8.frozen? ⟨BT,o,none⟩=false:=(fun o=>by simp [World.frozen?,hbt9]);have Hn8:=hide (HW8.out.app hY hYl Hbt8.out hgrow8 hown8 hor8);have HMk9:=hide (marks_kept (W:=w8.setCell ⟨BT,0,none⟩ (.slice (some ⟨g8,0,none⟩) ((XS from_ ord').length+1) cap8)) HMk8.out (fun D _ hD hlt=>by rw [heap_setCell_other _ _ _ _ (fun e=>hD _ _ _ (by rw [e];exact Hbt8.out):D ≠ BT)];exact hgrow8.block D hlt (fun e=>by obtain ⟨c',fz,hc⟩:=owns_cells HownW.out D e.symm;exact hD _ _ _ hc)));clear hown8 hgrow8 hor8 hbase8 hnr hbt9)
       refine HQn.out _ _ (HKE8.out.trans Hn8.out.2) ⟨ord' ++ [tn],setBy by' (⟨sf,sl,(tn:Nat)⟩:Stp),?_,HLm.out,HMk9.out,?_,?_⟩
       ·rw [XS_snoc]
        exact Hn8.out.1
       ·rw [XS_more HI.out.2.2.2.2]
        exact HI.out.2.2.2.1
       ·rw [List.length_append]
        have:=HI.out.2.2.2.2
        omega
   case done =>
    rintro D zs W hD hzs ⟨ord',by',h1,h2,h3,h4,h5⟩ hdef hnS
    have HH:=hide (And.intro h1 (And.intro h2 (And.intro h3 (And.intro h4 (And.intro h5 (And.intro hdef hzs))))))
    clear h1 h2 h3 h4 h5 hdef hzs hsq hS4 hq1 hq2 HM4 HB4 hDt hS4k hnS
    go_wp2_with (fail)
    obtain ⟨h1,h2,h3,h4,h5,hdef,hzs⟩:=HH.out
    refine Handed.intro (N+from_.length - (k+1)) (by have:=h2.look.few;omega) (hJq _ _ _ ⟨k+1,ord',by',_,_,_,_,_,_,_,_,_,_,_,_,D :: Ds,rfl,rfl,hide h1,hide (h2.done fun s hs e=>?_),by omega,hide (h3.cons (by omega) hdef (fun hm'=>by have:=HMD.out D hm';omega))⟩)
    ·rw [hzs]
     exact List.mem_filter.2 ⟨hs,by rw [e,h4];simp⟩
   case stop =>
    rintro D q pre W hD ⟨rfl,hres,hmk⟩ hdef hnS
    have HH:=hide (And.intro hres (hmk.cons (show w.heap.size≤D by omega) hdef (fun hm'=>by have:=HMD.out D hm';omega)))
    clear hres hmk hdef hnS hsq hS4 hq1 hq2 HM4 HB4 hDt hS4k
    refine wpIn_wide.2 ?_
    go_wp2
    refine leaves_marks w.heap.size (D :: Ds) _ HH.out.2 ?_
    intro W' hSh
    obtain ⟨v,g0,g1,hmade⟩:=HH.out.1.shut hP hY hSh
    exact ⟨.tuple #[v,.bool true],by simp [results,Tryz.results108,go_sem,g0,g1],v,true,rfl,hmade⟩
 ·have hke:k=from_.length+ord.length:=by omega
  have hlx:¬ k < (XS from_ ord).length:=by rw [HXl.out];exact hlt
  have r0:=cell_of_row _ _ 0 _ _ _ HM.out.hR
  have r1:=cell_of_row _ _ 0 _ _ _ HM.out.hK
  have z0:=frozen_of_row _ _ 0 _ _ HM.out.hR
  have z1:=frozen_of_row _ _ 0 _ _ HM.out.hK
  have hlw:=HM.out.lt
  have hne1:¬ bR=bK:=by omega
  have hne2:¬ bK=bR:=by omega
  have hrr:=heap_setCell_row 0 (.slice none 0 0) HM.out.hR
  have hkk:=(heap_setCell_other Wk ⟨bR,0,none⟩ (.slice none 0 0) bK hne2).trans HM.out.hK
  have hkk2:=heap_setCell_row 0 (.bool false) hkk
  have hrr2:=(heap_setCell_other (Wk.setCell ⟨bR,0,none⟩ (.slice none 0 0)) ⟨bK,0,none⟩ (.bool false) bR hne1).trans hrr
  have HF0:=hide (And.intro hrr2 hkk2)
  have HM2:=hide (show Marks ((Wk.setCell ⟨bR,0,none⟩ (.slice none 0 0)).setCell ⟨bK,0,none⟩ (.bool false)) w.heap.size Ds from ⟨HMk.out.1,fun D hD=>by
   obtain ⟨h1,h2⟩:=HMk.out.2 D hD
   have n1:D ≠ bR:=fun e=>by rw [e,HM.out.hR] at h2;cases h2
   have n2:D ≠ bK:=fun e=>by rw [e,HM.out.hK] at h2;cases h2
   exact ⟨h1,by rw [heap_setCell_other _ _ _ _ n2,heap_setCell_other _ _ _ _ n1];exact h2⟩⟩)
  have HKE:=hide (show KE (SY Y) w ((Wk.setCell ⟨bR,0,none⟩ (.slice none 0 0)).setCell ⟨bK,0,none⟩ (.bool false)) from by
   have hlow:∀ k,k < w.heap.size→((Wk.setCell ⟨bR,0,none⟩ (.slice none 0 0)).setCell ⟨bK,0,none⟩ (.bool false)).heap[k]?=Wk.heap[k]?:=fun k hk=>by rw [heap_setCell_other _ _ _ _ (show k ≠ bK by omega),heap_setCell_other _ _ _ _ (show k ≠ bR by omega)]
   have hsy:∀ k,SY Y ((Wk.setCell ⟨bR,0,none⟩ (.slice none 0 0)).setCell ⟨bK,0,none⟩ (.bool false)) k ↔ SY Y Wk k:=sy_same fun y hy=>hlow y (HA.out.2.2.2.1 y hy)
   have h:=HM.out.ke
   exact ⟨h.os,h.tape,h.output,by simpa [World.setCell] using h.size,fun k o ho hn=>(hlow k (Array.getElem?_eq_some_iff.1 ho).1).trans (h.keep k o ho hn),fun k hS=>(h.own k ((hsy k).1 hS)).imp id (fun h2=>⟨h2.1,by simpa [World.setCell] using h2.2⟩)⟩)
  have HNo:=hide (HL.out.noWay (by omega) (fun x hx=>(HA.out.2.1 x hx).1))
  clear hrr hkk hkk2 hrr2 htb hown htr hlt HL
  go_wp2
  refine leaves_marks w.heap.size Ds _ HM2.out ?_
  intro W' hSh
  have g0:=cell_of_row _ _ 0 _ _ _ (hSh.cells _ _ HF0.out.1 rfl)
  have g1:=cell_of_row _ _ 0 _ _ _ (hSh.cells _ _ HF0.out.2 rfl)
  exact ⟨.tuple #[.slice none 0 0,.bool false],by simp [results,Tryz.results108,go_sem,g0,g1],.slice none 0 0,Or.inl ⟨rfl,⟨ke_shut HKE.out HA.out.2.2.2.1 hSh,fun e=>(by cases e),fun _=>⟨rfl,HNo.out⟩⟩⟩⟩
end Go.Proofs.YtpiacnnifdjlkabGreatDoor
