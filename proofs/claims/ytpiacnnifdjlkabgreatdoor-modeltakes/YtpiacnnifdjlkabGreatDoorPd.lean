import Derived.Test.YtpiacnnifdjlkabGreatDoorRx
import Derived.Deep.LoopGhost
import Derived.Deep.Cut
set_option maxRecDepth 100000
set_option maxHeartbeats 8000000
namespace Go.Proofs.YtpiacnnifdjlkabGreatDoor
open Go.RowKit Go.Sort Go.MapKept
attribute [local go_sem] Oper.semAt_some
structure prMade (first:List Pair) (G:Pair→Bool) (S:Pair→List (Int × Pair)) (c:Int) (dom:Pair→Prop) (M N:Nat) (w w':World) (v:Value):Prop where
 out:∃ met A,OfNodes first G S met A∧A.m=c∧(∀ x ∈ met,dom x)∧met.length≤M∧A.steps.length≤M * N∧A.steps.Pairwise (fun a b=>0≤ordS b a)∧((∀ x,(S x).Nodup)→A.steps.Nodup)∧AutO w' w.heap.size v A
 bl:Below w.heap.size w w'
theorem prMarks_set {W:World}{lo pb:Nat}{Ds:List Nat}{c:Array Value}{t:TypeId} (hm:Marks W lo Ds) (hb:W.heap[pb]?=some (.cells c t)) (k:Nat) (v:Value):Marks (W.setCell ⟨pb,k,none⟩ v) lo Ds:=⟨hm.1,fun D hD=>by
 obtain ⟨h1,h2⟩:=hm.2 D hD
 have h4:D ≠ pb:=fun e=>by
  rw [← e,h2] at hb
  cases hb
 exact ⟨h1,by rw [heap_setCell_other _ _ _ _ h4];exact h2⟩⟩
theorem prMarks_five {W:World}{lo b:Nat}{Ds:List Nat}{c:Array Value}{t:TypeId} (hm:Marks W lo Ds) (hb:W.heap[b]?=some (.cells c t)) (v0 v1 v2 v3 v4:Value):Marks (fivePut W b v0 v1 v2 v3 v4) lo Ds:=
 prMarks_set (prMarks_set (prMarks_set (prMarks_set (prMarks_set hm hb 0 v0) (box_set hb 0 v0) 1 v1) (box_set (box_set hb 0 v0) 1 v1) 2 v2) (box_set (box_set (box_set hb 0 v0) 1 v1) 2 v2) 3 v3) (box_set (box_set (box_set (box_set hb 0 v0) 1 v1) 2 v2) 3 v3) 4 v4
theorem prMarks_grown {W W':World}{lo base e sz n:Nat}{v:Value}{xs:List Value}{Ds:List Nat} (hm:Marks W lo Ds) (ho:W.ownsRow base e sz v n xs) (hg:W.grownBy W' v.ownBlock):Marks W' lo Ds:=⟨hm.1,fun D hD=>by
 obtain ⟨h1,h2⟩:=hm.2 D hD
 refine ⟨h1,?_⟩
 rw [hg.block D (Array.getElem?_eq_some_iff.1 h2).1 (fun e=>?_)]
 ·exact h2
 ·obtain ⟨c',fz,hc⟩:=owns_cells ho D e.symm
  rw [h2] at hc
  cases hc⟩
theorem prGrown_row {W W':World}{base base' e e' sz sz' n n':Nat}{v v':Value}{xs xs':List Value} (h:W.ownsRow base e sz v n xs) (h':W.ownsRow base' e' sz' v' n' xs') (hne:e ≠ e') (hg:W.grownBy W' v'.ownBlock):W'.ownsRow base e sz v n xs:=
 owns_kept h fun r hr=>hg.block r (h.lt r hr).2 (rows_far h h' hne r hr)
theorem prGrown_box {W W':World}{base e sz n pb:Nat}{v:Value}{xs:List Value}{c:Array Value}{t:TypeId} (hb:W.heap[pb]?=some (.cells c t)) (h':W.ownsRow base e sz v n xs) (hne:e ≠ t) (hg:W.grownBy W' v.ownBlock):W'.heap[pb]?=some (.cells c t):=
 (hg.block pb (Array.getElem?_eq_some_iff.1 hb).1 (fun e1=>row_apart h' hb hne pb e1.symm rfl)).trans hb
theorem prGrown_below {w W W':World}{base e sz n:Nat}{v:Value}{xs:List Value} (hb:Below base w W) (h':W.ownsRow base e sz v n xs) (hbase:base≤w.heap.size) (hg:W.grownBy W' v.ownBlock):Below base w W':=
 ⟨hg.os.trans hb.os,hg.tape.trans hb.tape,hg.output.trans hb.output,Nat.le_trans hb.size hg.size,fun i hi=>by
  rw [hg.block i (by have:=hb.size;omega) (fun e1=>by have:=(h'.lt i e1.symm).1;omega)]
  exact hb.block i hi⟩
theorem prStart (w:World) (c:Int) (W:World) (hW:W=((((((w.alloc (Obj.cells #[Value.int .i64 0,.int .i64 0,.slice none 0 0,.slice none 0 0,.slice none 0 0] 26)).alloc (Obj.map #[] 0)).alloc (Obj.cells #[Value.map (some (w.heap.size+1))] 221)).alloc (Obj.cells #[Value.slice none 0 0] 151)).alloc (Obj.cells #[Value.func (.func 155) #[] #[.pointer (some ⟨w.heap.size+1+1,0,none⟩),.pointer (some ⟨w.heap.size+1+1+1,0,none⟩)]] 222)).alloc (Obj.cells #[Value.int .i64 0,.int .i64 c,.slice none 0 0,.slice none 0 0,.slice none 0 0] 26))) :
  prNA w W (w.heap.size+1+1+1+1+1) (w.heap.size+1+1) (w.heap.size+1+1+1) (w.heap.size+1+1+1+1) (w.heap.size+1) (.slice none 0 0) (.slice none 0 0) (.slice none 0 0) ⟨0,c,[],[],[]⟩ []:=by
 obtain ⟨f0,f1,f2,f3,f4⟩:=five_alloc w (Obj.cells #[Value.int .i64 0,.int .i64 0,.slice none 0 0,.slice none 0 0,.slice none 0 0] 26) (Obj.map #[] 0) (Obj.cells #[Value.map (some (w.heap.size+1))] 221) (Obj.cells #[Value.slice none 0 0] 151) (Obj.cells #[Value.func (.func 155) #[] #[.pointer (some ⟨w.heap.size+1+1,0,none⟩),.pointer (some ⟨w.heap.size+1+1+1,0,none⟩)]] 222)
 have hb5:Below w.heap.size w (((((w.alloc (Obj.cells #[Value.int .i64 0,.int .i64 0,.slice none 0 0,.slice none 0 0,.slice none 0 0] 26)).alloc (Obj.map #[] 0)).alloc (Obj.cells #[Value.map (some (w.heap.size+1))] 221)).alloc (Obj.cells #[Value.slice none 0 0] 151)).alloc (Obj.cells #[Value.func (.func 155) #[] #[.pointer (some ⟨w.heap.size+1+1,0,none⟩),.pointer (some ⟨w.heap.size+1+1+1,0,none⟩)]] 222)):=(by repeat (first | exact Below.refl _ _ | assumption | refine below_drewN ?_ _ | refine Below.drew ?_ | refine Below.alloc ?_ (by simp <;> omega) _ | refine below_trans ?_ (by assumption)))
 have hs5:(((((w.alloc (Obj.cells #[Value.int .i64 0,.int .i64 0,.slice none 0 0,.slice none 0 0,.slice none 0 0] 26)).alloc (Obj.map #[] 0)).alloc (Obj.cells #[Value.map (some (w.heap.size+1))] 221)).alloc (Obj.cells #[Value.slice none 0 0] 151)).alloc (Obj.cells #[Value.func (.func 155) #[] #[.pointer (some ⟨w.heap.size+1+1,0,none⟩),.pointer (some ⟨w.heap.size+1+1+1,0,none⟩)]] 222)).heap.size=w.heap.size+1+1+1+1+1:=by simp
 generalize (((((w.alloc (Obj.cells #[Value.int .i64 0,.int .i64 0,.slice none 0 0,.slice none 0 0,.slice none 0 0] 26)).alloc (Obj.map #[] 0)).alloc (Obj.cells #[Value.map (some (w.heap.size+1))] 221)).alloc (Obj.cells #[Value.slice none 0 0] 151)).alloc (Obj.cells #[Value.func (.func 155) #[] #[.pointer (some ⟨w.heap.size+1+1,0,none⟩),.pointer (some ⟨w.heap.size+1+1+1,0,none⟩)]] 222))=W5 at *
 subst hW
 have hb:=below_new W5 (Obj.cells #[Value.int .i64 0,.int .i64 c,.slice none 0 0,.slice none 0 0,.slice none 0 0] 26)
 have hn:=one_new W5 (Obj.cells #[Value.int .i64 0,.int .i64 c,.slice none 0 0,.slice none 0 0,.slice none 0 0] 26)
 rw [hs5] at hn
 refine ⟨⟨hn,World.ownsRow_nil _ _ _ _,World.ownsRow_nil _ _ _ _,World.ownsRow_nil _ _ _ _,by omega⟩,⟨belowRow hb f2,⟨_,belowRow hb f3,World.ownsRow_nil _ _ _ _⟩,⟨#[],0,belowRow hb f1,rfl,fun i x hx=>by simp at hx⟩,⟨by omega,by omega,by omega,by simp;omega⟩⟩,belowRow hb f4,belowRow hb f0,⟨by omega,by omega⟩,hb5.trans (hb.mono (by omega))⟩
theorem prAuto {w:World} (c:Int) (fsv:Value) (first:List Pair) (hfs:prSl w fsv first) (hfl:first.length≤900000) (g ga:Nat) (pg cg pa ca:Array Value) (eg:∀ args w,(callFunc g args).run Tryz.prog w=.ok (.enter g args) w) (ega:∀ args w,(callFunc ga args).run Tryz.prog w=.ok (.enter ga args) w)
  (dom:Pair→Prop) (hdf:∀ x ∈ first,dom x) (G:Pair→Bool) (S:Pair→List (Int × Pair)) (hdS:∀ x,dom x→∀ p ∈ S x,dom p.2) (M N:Nat) (hM:∀ l:List Pair,l.Nodup→(∀ x ∈ l,dom x)→l.length≤M) (hN:∀ x,dom x→(S x).length≤N) (hM9:M≤800000) (hMN:M * N≤300000000)
  (hgood:∀ x,dom x→∀ W,Below w.heap.size w W→Calls Tryz.prog g (pg.push (prV x) ++ cg) W fun e W'=>e=.returned (.bool (G x))∧Below W.heap.size W W')
  (hafter:∀ x,dom x→∀ W,Below w.heap.size w W→Calls Tryz.prog ga (pa.push (prV x) ++ ca) W fun e W'=>∃ gf lb C,e=.returned (.func (.func gf) #[] lb)∧Below W.heap.size W W'∧(∀ args w,(callFunc gf args).run Tryz.prog w=.ok (.enter gf args) w)∧(∀ k,C k→k < w.heap.size ∨ (W.heap.size≤k∧k < W'.heap.size))∧SeqO 19 Tryz.prog gf lb (fun p:{ p:Int × Pair // p ∈ S x }=>#[.int .i64 p.1.1,prV p.1.2]) C (fun xs=>xs.map (·.1)=S x) N W') :
  Calls Tryz.prog 104 #[.int .i64 c,fsv,.func (.func g) pg cg,.func (.func ga) pa ca] w fun e w'=>∃ v,e=.returned v∧prMade first G S c dom M N w w' v:=by
 have hmf:∀ (fn:Fn) (first cap:Array Value) (w:World),(Instr.makeFunc fn first cap).run Tryz.prog w=.ok (.func fn first cap) w:=fun _ _ _ _=>rfl
 have hsf:∀ (a:Addr) (fn:Fn) (x y:Array Value) (md:Mode) (w:World),(store a (.func fn x y) md).run Tryz.prog w=stored Tryz.prog w a (.func fn x y) md:=fun a fn x y md w=>run_store Tryz.prog w a _ md rfl
 have hmk:∀ w:World,(Instr.makeMap 221 none).run Tryz.prog w=.ok (.map (some w.heap.size)) (w.alloc (.map #[] 0)):=fun _=>rfl
 obtain ⟨a1,c1,rfl,hm1,hz1,hn1,hc1⟩:=hfs
 unfold maxLen at hm1
 generalize hL1:first.length=L1 at *
 have HL1:=hide hL1
 have Hz1:=hide hz1
 clear hL1 hz1
 refine (callsIn_wide (n:=20)).1 ?_
 refine callsIn_of_wp_marks Tryz.func104 rfl trivial ?_ rfl
 simp only [Tryz.ntmps104,List.size_toArray,List.length_cons,List.length_nil,Nat.reduceAdd,Nat.reduceSub,Array.replicate_succ,Array.replicate_zero,List.push_toArray,List.append_toArray,List.nil_append,List.cons_append]
 refine wpIn_wide.2 ?_
 go_wp2_with (fail)
 have HN0:=hide (prStart w c _ rfl)
 generalize ((((((w.alloc (Obj.cells #[Value.int .i64 0,.int .i64 0,.slice none 0 0,.slice none 0 0,.slice none 0 0] 26)).alloc (Obj.map #[] 0)).alloc (Obj.cells #[Value.map (some (w.heap.size+1))] 221)).alloc (Obj.cells #[Value.slice none 0 0] 151)).alloc (Obj.cells #[Value.func (.func 155) #[] #[.pointer (some ⟨w.heap.size+1+1,0,none⟩),.pointer (some ⟨w.heap.size+1+1+1,0,none⟩)]] 222)).alloc (Obj.cells #[Value.int .i64 0,.int .i64 c,.slice none 0 0,.slice none 0 0,.slice none 0 0] 26))=W6 at *
 clear hmf hsf hmk
 generalize hBO:w.heap.size+1+1+1+1+1=BO at *
 generalize hBM:w.heap.size+1+1+1+1=BM at *
 generalize hBT:w.heap.size+1+1+1=BT at *
 generalize hBN:w.heap.size+1+1=BN at *
 generalize hr:w.heap.size+1=r at *
 clear hBO hBM hBT hBN hr
 go_loopw [24] (fun s24 wr=>∃ (i:Nat) (met:List Pair) (fv:Value) (fs:List Int),s24=.int .i64 i∧i≤L1∧Hid (prNA w wr BO BN BT BM r fv (.slice none 0 0) (.slice none 0 0) ⟨0,c,fs,[],[]⟩ met)∧Hid (First first i met fs)) (fun s24 _=>L1 - (intOf s24).toNat)
 case atStart=>exact ⟨0,[],_,[],rfl,Nat.zero_le _,HN0,hide (First.nil first)⟩
 case round =>
  obtain ⟨i,met,fv,fs,rfl,hi,HN,HF⟩:=hrel
  by_cases hil:i < L1
  ·have hls:i < first.length:=by rw [HL1.out];exact hil
   have hx:first[i]?=some first[i]:=List.getElem?_eq_getElem hls
   generalize first[i]=x at hx
   rcases Hz1.out with hz | ⟨b5,o5,e5,hc⟩
   ·rw [hz] at hls;simp at hls
   subst e5
   have hd:∀ (q:Nat) (u:Value),(prEnc x)[q]?=some u→wr.cell? ⟨b5,o5+i * 3+q,none⟩=some u:=fun q u hu=>(HN.out.bl.cell (p:=⟨b5,_,none⟩) (World.block_lt_of_cell? w _ (hc i x hx q u hu))).trans (hc i x hx q u hu)
   obtain ⟨x1,x2,x3⟩:=x
   have d0:wr.cell? ⟨b5,o5+i * 3,none⟩=some (.int .i64 (x1:Nat)):=hd 0 _ rfl
   have d1:wr.cell? ⟨b5,o5+i * 3+1,none⟩=some (.int .i64 (x2:Nat)):=hd 1 _ rfl
   have d2:wr.cell? ⟨b5,o5+i * 3+2,none⟩=some (.bool x3):=hd 2 _ rfl
   have HX:=hide hx
   clear hd hc hx
   have hbx:=below_new wr (Obj.cells #[.int .i64 (x1:Nat),.int .i64 (x2:Nat),.bool x3] 153)
   have hox:=one_new wr (Obj.cells #[.int .i64 (x1:Nat),.int .i64 (x2:Nat),.bool x3] 153)
   have HP0:=hide (show prNA w (wr.alloc (Obj.cells #[.int .i64 (x1:Nat),.int .i64 (x2:Nat),.bool x3] 153)) BO BN BT BM r fv (.slice none 0 0) (.slice none 0 0) ⟨0,c,fs,[],[]⟩ met from HN.out.below hbx)
   have HX1:=hide (show (wr.alloc (Obj.cells #[.int .i64 (x1:Nat),.int .i64 (x2:Nat),.bool x3] 153)).heap[wr.heap.size]?=some (.cells #[.int .i64 (x1:Nat),.int .i64 (x2:Nat),.bool x3] 153) from hox)
   have HX2:=hide (show ¬ prS BT r (wr.alloc (Obj.cells #[.int .i64 (x1:Nat),.int .i64 (x2:Nat),.bool x3] 153)) wr.heap.size from fun h=>by
    have h1:=((KI.of_below (s:=0) (S:=prS BT r) hbx).det (prDet HN.out.mn) (Nat.le_refl _) _).1 h
    have:=prS_lt HN.out.mn h1
    omega)
   clear hbx hox
   have hml:met.length≤900000:=Nat.le_trans (HF.out.few (by omega)) (by rw [HL1.out];exact hfl)
   go_wp2_with (fail)
   rename_i Q' K hK
   refine wpIn_wide.1 (region_callapp (lr:=none) (nn:=0) 4 5 6 8 7 [5] [] [(0,28),(1,29),(2,30),(3,31),(4,32),(5,33),(6,34),(7,35)] (fun j v=>match j with | 0=>v=.pointer (some ⟨BO,2,none⟩) | 1=>v=fv | 2=>v=.func (.func 155) #[] #[.pointer (some ⟨BN,0,none⟩),.pointer (some ⟨BT,0,none⟩)] | 3=>v=.agg #[.int .i64 (x1:Nat),.int .i64 (x2:Nat),.bool x3] | 4=>v=.int .i64 (numOf (addN met (x1,x2,x3)) (x1,x2,x3):Nat) | 7=>v=.pointer (some ⟨BO,2,none⟩) | _=>True)
    (fun W=>prNA w W BO BN BT BM r fv (.slice none 0 0) (.slice none 0 0) ⟨0,c,fs,[],[]⟩ met∧W.heap[wr.heap.size]?=some (.cells #[.int .i64 (x1:Nat),.int .i64 (x2:Nat),.bool x3] 153))
    (fun W=>prNA w W BO BN BT BM r fv (.slice none 0 0) (.slice none 0 0) ⟨0,c,fs,[],[]⟩ (addN met (x1,x2,x3))) (base:=w.heap.size) (xs:=fs.map (.int .i64)) (n:=fs.length) (pb:=BO) (k:=2) (cs:=#[.int .i64 0,.int .i64 c,fv,.slice none 0 0,.slice none 0 0]) (tb:=26)
    [.int .i64 (numOf (addN met (x1,x2,x3)) (x1,x2,x3):Nat)] elInt (by have:=HF.out.fslen;omega) rfl (by intro u hu;simp at hu;subst hu;rfl) (by kernel_rfl) (by kernel_rfl) (by kernel_rfl) (by kernel_rfl) (by decide) (by decide) (by kernel_rfl) (by decide) ⟨by kernel_rfl,by kernel_rfl,by kernel_rfl⟩ (by kernel_rfl)
    (fun W W' h hb=>h.below hb) (fun W h=>⟨h.ra.f,h.ra.box,h.ra.hb0⟩) (by decide) rfl ⟨HP0.out.below ((Below.refl _ _).drew),HX1.out⟩ ?call (.cells #[.int .i64 (numOf (addN met (x1,x2,x3)) (x1,x2,x3):Nat)] 3) 1 (el_new _ _) rfl rfl rfl ?el _ rfl 29 33 1 rfl ⟨by kernel_rfl,by kernel_rfl,by kernel_rfl,by kernel_rfl⟩ (fun v h=>h) ?pure _ rfl rfl sizeInts ⟨by kernel_rfl,by kernel_rfl,by kernel_rfl,by kernel_rfl⟩ (fun v h=>h) ?fin)
   case call =>
    intro o ho a W vs hP he hd
    obtain rfl:=Option.some.inj ho
    have v2:a.tmps[30]?.getD undef=.func (.func 155) #[] #[.pointer (some ⟨BN,0,none⟩),.pointer (some ⟨BT,0,none⟩)]:=(eval_tmp a 30).symm.trans (((hd 2 (by kernel_rfl)).2 30 (by kernel_rfl)).trans (hd 2 (by kernel_rfl)).1)
    have v3:a.tmps[31]?.getD undef=.agg #[.int .i64 (x1:Nat),.int .i64 (x2:Nat),.bool x3]:=(eval_tmp a 31).symm.trans (((hd 3 (by kernel_rfl)).2 31 (by kernel_rfl)).trans (hd 3 (by kernel_rfl)).1)
    refine ⟨155,#[.agg #[.int .i64 (x1:Nat),.int .i64 (x2:Nat),.bool x3],.pointer (some ⟨BN,0,none⟩),.pointer (some ⟨BT,0,none⟩)],by simp [execOp,go_sem,v2,v3],(prMeet (x1,x2,x3) hP.1.mn hml).mono ?_⟩
    rintro e' W' ⟨rfl,hm',hk'⟩
    exact ⟨_,rfl,rfl,hP.1.meet hk' hm'⟩
   case el =>
    intro o ho a W vs he hd
    obtain rfl:=Option.some.inj ho
    have v4:a.tmps[32]?.getD undef=.int .i64 (numOf (addN met (x1,x2,x3)) (x1,x2,x3):Nat):=(eval_tmp a 32).symm.trans (((hd 4 (by kernel_rfl)).2 32 (by kernel_rfl)).trans (hd 4 (by kernel_rfl)).1)
    simp [execOp,go_sem,v4]
   case pure =>
    intro q o ho n4 n5 n6 n8 a W vs hany he hd
    have hbb:W.heap[BO]?=some (.cells #[.int .i64 0,.int .i64 c,fv,.slice none 0 0,.slice none 0 0] 26)∧W.heap[BM]?=some (.cells #[.func (.func 155) #[] #[.pointer (some ⟨BN,0,none⟩),.pointer (some ⟨BT,0,none⟩)]] 222):=by
     rcases hany with h | ⟨_,h | ⟨W1,h,hkr⟩⟩
     ·exact ⟨h.1.ra.box,h.1.bm⟩
     ·exact ⟨h.ra.box,h.bm⟩
     ·exact ⟨hkr.block h.ra.box h.ra.apart.1,hkr.block h.bm (fun e=>row_apart h.ra.f h.bm (by decide) BM e.symm rfl)⟩
    have p2:=cell_of_row W BO 2 _ _ _ hbb.1
    have pm:=cell_of_row W BM 0 _ _ _ hbb.2
    match q,ho,n4,n5,n6,n8,hany,he with
    | 0,ho,_,_,_,_,_,he =>
     obtain rfl:=Option.some.inj ho
     have e12:a.tmps[12]?.getD undef=.pointer (some ⟨BO,0,none⟩):=free_val he 12 (by kernel_rfl)
     exact ⟨.pointer (some ⟨BO,2,none⟩),by simp [execOp,go_sem,e12],rfl⟩
    | 1,ho,_,_,_,_,_,he =>
     obtain rfl:=Option.some.inj ho
     have v0:a.tmps[28]?.getD undef=.pointer (some ⟨BO,2,none⟩):=(eval_tmp a 28).symm.trans (((hd 0 (by kernel_rfl)).2 28 (by kernel_rfl)).trans (hd 0 (by kernel_rfl)).1)
     exact ⟨fv,by simp [execOp,go_sem,v0,p2],rfl⟩
    | 2,ho,_,_,_,_,_,he =>
     obtain rfl:=Option.some.inj ho
     have e11:a.tmps[11]?.getD undef=.pointer (some ⟨BM,0,none⟩):=free_val he 11 (by kernel_rfl)
     exact ⟨_,by simp [execOp,go_sem,e11,pm],rfl⟩
    | 3,ho,_,_,_,_,hany,he =>
     obtain rfl:=Option.some.inj ho
     have e14:a.tmps[14]?.getD undef=.pointer (some ⟨wr.heap.size,0,none⟩):=free_val he 14 (by kernel_rfl)
     have hx3:W.heap[wr.heap.size]?=some (.cells #[.int .i64 (x1:Nat),.int .i64 (x2:Nat),.bool x3] 153):=by
      rcases hany with h | ⟨h,_⟩
      ·exact h.2
      ·exact absurd h (by rw [show needsB _ 4 3=true from by kernel_rfl];simp)
     have y0:=cell_of_row W _ 0 _ _ _ hx3
     have y1:=cell_of_row W _ 1 _ _ _ hx3
     have y2:=cell_of_row W _ 2 _ _ _ hx3
     exact ⟨.agg #[.int .i64 (x1:Nat),.int .i64 (x2:Nat),.bool x3],by simp [execOp,go_sem,e14,y0,y1,y2],rfl⟩
    | 4,_,h,_,_,_,_,_=>exact absurd rfl h
    | 5,_,_,h,_,_,_,_=>exact absurd rfl h
    | 6,_,_,_,h,_,_,_=>exact absurd rfl h
    | 7,ho,_,_,_,_,_,he =>
     obtain rfl:=Option.some.inj ho
     have e12:a.tmps[12]?.getD undef=.pointer (some ⟨BO,0,none⟩):=free_val he 12 (by kernel_rfl)
     exact ⟨.pointer (some ⟨BO,2,none⟩),by simp [execOp,go_sem,e12],rfl⟩
    | 8,_,_,_,_,h,_,_=>exact absurd rfl h
    | q+9,ho,_,_,_,_,_,_=>exact absurd ho (by simp)
   case fin =>
    intro vs W1 W2 g8 cap8 hM1 hkr hRp hown hor
    refine hK _ _ ?_
    have hRn:=hM1.ra.appFirst hkr hown
    have hrest:=hM1.rest hM1.ra.f hkr (by decide) 2 (.slice (some ⟨g8,0,none⟩) (fs.length+1) cap8)
    have HNn:=hide (show prNA w (W2.setCell ⟨BO,2,none⟩ (.slice (some ⟨g8,0,none⟩) (fs.length+1) cap8)) BO BN BT BM r _ (.slice none 0 0) (.slice none 0 0) ⟨0,c,fs ++ [(numOf (addN met (x1,x2,x3)) (x1,x2,x3):Int)],[],[]⟩ (addN met (x1,x2,x3)) from ⟨hRn,hrest.1,hrest.2.1,hrest.2.2.1,hM1.ne,hrest.2.2.2⟩)
    have HFn:=hide (HF.out.next HX.out)
    clear hRn hrest hown hkr hM1 hRp
    simp only [putPairs]
    go_wp2_with (fail)
    go_roundw
    case rel=>exact ⟨i+1,_,_,_,by go_num,by omega,HNn,HFn⟩
    case measure=>simp [intOf];omega
  ·obtain rfl:L1=i:=by omega
   clear hi hil HN0
   have hbf:=below_new wr (Obj.cells #[Value.int .i64 0] 3)
   have hof:=one_new wr (Obj.cells #[Value.int .i64 0] 3)
   have HF0:=HF.out
   rw [← HL1.out] at HF0
   have HFs:=hide HF0.fs
   have HI0:=hide (show prNA w (wr.alloc (Obj.cells #[Value.int .i64 0] 3)) BO BN BT BM r fv (.slice none 0 0) (.slice none 0 0) ⟨0,c,fs,[],[]⟩ met∧(wr.alloc (Obj.cells #[Value.int .i64 0] 3)).heap[wr.heap.size]?=some (.cells #[.int .i64 (0:Nat)] 3)∧w.heap.size≤wr.heap.size from ⟨HN.out.below hbf,hof,HN.out.bl.size⟩)
   have HG0:=hide (Grow.begin_ (G:=G) (S:=S) HF0)
   clear hbf hof HF0 HN HF
   go_wp2_with (fail)
   refine wp_loop_ghost_k (fun gk a Wk=>∃ (i BF:Nat) (met:List Pair) (gv sv:Value) (ss:List Stp) (v37 v38 v39 v40 v41 v42 v43 v44 v45 v46 v47 v48 v49 v50 v51 v52 v53 v54 v55 v56 v57 v58 v59 v73:Value) (Ds:List Nat),gk=M - i∧a={ tmps:=#[.int .i64 c,.slice a1 L1 c1,.func (.func g) pg cg,.func (.func ga) pa ca,undef,undef,undef,undef,.pointer (some ⟨w.heap.size,0,none⟩),.pointer (some ⟨BN,0,none⟩),.pointer (some ⟨BT,0,none⟩),.pointer (some ⟨BM,0,none⟩),.pointer (some ⟨BO,0,none⟩),undef,u14,.pointer (some ⟨BF,0,none⟩),undef,undef,.map (some r),.func (.func 155) #[] #[.pointer (some ⟨BN,0,none⟩),.pointer (some ⟨BT,0,none⟩)],.int .i64 c,.agg #[.int .i64 0,.int .i64 c,.slice none 0 0,.slice none 0 0,.slice none 0 0],.slice a1 L1 c1,.int .i64 (L1:Nat),.int .i64 (L1:Nat),.bool false,u26,u27,u28,u29,u30,u31,u32,u33,u34,u35,u36,v37,v38,v39,v40,v41,v42,v43,v44,v45,v46,v47,v48,v49,v50,v51,v52,v53,v54,v55,v56,v57,v58,v59,undef,undef,undef,undef,undef,undef,undef,undef,undef,undef,undef,undef,undef,v73,undef,undef,undef,undef,undef,undef,undef,undef,undef,undef,undef,undef,undef],defers:=marksOf Ds }∧Hid (prNA w Wk BO BN BT BM r fv gv sv ⟨0,c,first.map (fun x=>(numOf met x:Int)),(met.take i).map G,ss⟩ met)∧Hid (Wk.heap[BF]?=some (.cells #[.int .i64 (i:Nat)] 3)∧w.heap.size≤BF)∧Hid (Grow first G S i [] met ss)∧ss.length≤i * N∧Hid (Marks Wk w.heap.size Ds)) (M - 0) ?_ ?_
   ·exact ⟨0,wr.heap.size,met,_,_,[],undef,undef,undef,undef,undef,undef,undef,undef,undef,undef,undef,undef,undef,undef,undef,undef,undef,undef,undef,undef,undef,undef,undef,undef,[],rfl,rfl,hide (by have:=HI0.out.1;rw [HFs.out,List.take_length] at this;exact this),hide HI0.out.2,HG0,Nat.zero_le _,hide ⟨List.nodup_nil,fun D h=>by cases h⟩⟩
   clear HI0 HG0 HFs
   rintro gk a Wk ⟨i,BF,met,gv,sv,ss,v37,v38,v39,v40,v41,v42,v43,v44,v45,v46,v47,v48,v49,v50,v51,v52,v53,v54,v55,v56,v57,v58,v59,v73,Ds,rfl,rfl,HN,HBF,HG,hsl,HMk⟩ J K hJ hK
   have hdm:∀ x ∈ met,dom x:=HG.out.least dom hdf (fun x hx p hp=>hdS x hx p hp) (fun p hp=>absurd hp (List.not_mem_nil))
   have hmM:met.length≤M:=hM met HG.out.nodup hdm
   have q0:=cell_of_row Wk BF 0 _ _ _ HBF.out.1
   by_cases hil:i < met.length
   ·have hx:met[i]?=some met[i]:=List.getElem?_eq_getElem hil
    generalize met[i]=x at hx
    have hdx:=hdm x (List.mem_of_getElem? hx)
    obtain ⟨gm,cp,hbt,hcp,hgm,hcell⟩:=HN.out.mn.at hx
    have t0:=cell_of_row Wk BT 0 _ _ _ hbt
    have HX:=hide hx
    have Hbt:=hide hbt
    have Hcell:=hide hcell
    clear hx hbt hcell hdm
    go_wp2_with (fail)
    rename_i Q' K2 hK2
    have HH:=hide (And.intro hgood hafter)
    clear hgood hafter
    obtain ⟨x1,x2,x3⟩:=x
    refine wpIn_wide.1 (region_callapp (lr:=none) (nn:=0) 7 8 9 11 10 [8] [] [(0,43),(1,44),(2,45),(3,46),(4,47),(5,48),(6,49),(7,50),(8,51),(9,52),(10,53)] (fun j v=>match j with | 0=>v=.pointer (some ⟨BO,3,none⟩) | 1=>v=gv | 2=>v=.func (.func g) pg cg | 3=>v=.slice (some ⟨gm,0,none⟩) met.length cp | 4=>v=.int .i64 (i:Nat) | 5=>v=.pointer (some ⟨gm,i * 3,none⟩) | 6=>v=.agg #[.int .i64 (x1:Nat),.int .i64 (x2:Nat),.bool x3] | 7=>v=.bool (G (x1,x2,x3)) | 10=>v=.pointer (some ⟨BO,3,none⟩) | _=>True)
     (fun W=>Below Wk.heap.size Wk W) (fun W=>Below Wk.heap.size Wk W) (base:=w.heap.size) (xs:=((met.take i).map G).map .bool) (n:=((met.take i).map G).length) (sv:=gv) (pb:=BO) (k:=3) (cs:=#[.int .i64 0,.int .i64 c,fv,gv,sv]) (tb:=26)
     [.bool (G (x1,x2,x3))] elBool (by simp;omega) rfl (by intro u hu;simp at hu;subst hu;rfl) (by kernel_rfl) (by kernel_rfl) (by kernel_rfl) (by kernel_rfl) (by decide) (by decide) (by kernel_rfl) (by decide) ⟨by kernel_rfl,by kernel_rfl,by kernel_rfl⟩ (by kernel_rfl)
     (fun W W' h hb=>h.trans (hb.mono h.size)) (fun W h=>⟨(HN.out.below h).ra.g,(HN.out.below h).ra.box,(HN.out.below h).ra.hb0⟩) (by decide) rfl ((Below.refl _ _).drew) ?call (.cells #[.bool (G (x1,x2,x3))] 4) 1 (el_new _ _) rfl rfl rfl ?el _ rfl 44 51 1 rfl ⟨by kernel_rfl,by kernel_rfl,by kernel_rfl,by kernel_rfl⟩ (fun v h=>h) ?pure _ rfl rfl sizeBools ⟨by kernel_rfl,by kernel_rfl,by kernel_rfl,by kernel_rfl⟩ (fun v h=>h) ?fin)
    case call =>
     intro o ho a W vs hP he hd
     obtain rfl:=Option.some.inj ho
     have v2:a.tmps[45]?.getD undef=.func (.func g) pg cg:=(eval_tmp a 45).symm.trans (((hd 2 (by kernel_rfl)).2 45 (by kernel_rfl)).trans (hd 2 (by kernel_rfl)).1)
     have v6:a.tmps[49]?.getD undef=.agg #[.int .i64 (x1:Nat),.int .i64 (x2:Nat),.bool x3]:=(eval_tmp a 49).symm.trans (((hd 6 (by kernel_rfl)).2 49 (by kernel_rfl)).trans (hd 6 (by kernel_rfl)).1)
     have hcg:=HH.out.1 (x1,x2,x3) hdx W (HN.out.bl.trans (hP.mono HN.out.bl.size))
     have e7:prV (x1,x2,x3)=.agg #[.int .i64 (x1:Nat),.int .i64 (x2:Nat),.bool x3]:=rfl
     rw [e7] at hcg
     refine ⟨g,pg.push (.agg #[.int .i64 (x1:Nat),.int .i64 (x2:Nat),.bool x3]) ++ cg,?_,?_⟩
     ·simp [execOp,go_sem,v2,v6,eg]
     ·refine hcg.mono ?_
      rintro e' W' ⟨rfl,hb'⟩
      exact ⟨_,rfl,rfl,hP.trans (hb'.mono hP.size)⟩
    case el =>
     intro o ho a W vs he hd
     obtain rfl:=Option.some.inj ho
     have v7:a.tmps[50]?.getD undef=.bool (G (x1,x2,x3)):=(eval_tmp a 50).symm.trans (((hd 7 (by kernel_rfl)).2 50 (by kernel_rfl)).trans (hd 7 (by kernel_rfl)).1)
     simp [execOp,go_sem,v7]
    case pure =>
     intro q o ho n7 n8 n9 n11 a W vs hany he hd
     have hbb:W.heap[BO]?=some (.cells #[.int .i64 0,.int .i64 c,fv,gv,sv] 26):=by
      rcases hany with h | ⟨_,h | ⟨W1,h,hkr⟩⟩
      ·exact (HN.out.below h).ra.box
      ·exact (HN.out.below h).ra.box
      ·exact hkr.block (HN.out.below h).ra.box (HN.out.below h).ra.apart.2.1
     have p3:=cell_of_row W BO 3 _ _ _ hbb
     match q,ho,n7,n8,n9,n11,hany,he with
     | 0,ho,_,_,_,_,_,he =>
      obtain rfl:=Option.some.inj ho
      have e12:a.tmps[12]?.getD undef=.pointer (some ⟨BO,0,none⟩):=free_val he 12 (by kernel_rfl)
      exact ⟨.pointer (some ⟨BO,3,none⟩),by simp [execOp,go_sem,e12],rfl⟩
     | 1,ho,_,_,_,_,_,he =>
      obtain rfl:=Option.some.inj ho
      have v0:a.tmps[43]?.getD undef=.pointer (some ⟨BO,3,none⟩):=(eval_tmp a 43).symm.trans (((hd 0 (by kernel_rfl)).2 43 (by kernel_rfl)).trans (hd 0 (by kernel_rfl)).1)
      exact ⟨gv,by simp [execOp,go_sem,v0,p3],rfl⟩
     | 2,ho,_,_,_,_,_,he =>
      obtain rfl:=Option.some.inj ho
      have e2:a.tmps[2]?.getD undef=.func (.func g) pg cg:=free_val he 2 (by kernel_rfl)
      exact ⟨_,by simp [execOp,go_sem,e2],rfl⟩
     | 3,ho,_,_,_,_,hany,he =>
      obtain rfl:=Option.some.inj ho
      have hb:Below Wk.heap.size Wk W:=by
       rcases hany with h | ⟨h,_⟩
       ·exact h
       ·exact absurd h (by rw [show needsB _ 7 3=true from by kernel_rfl];simp)
      have e10:a.tmps[10]?.getD undef=.pointer (some ⟨BT,0,none⟩):=free_val he 10 (by kernel_rfl)
      have pt:=cell_of_row W BT 0 _ _ _ (belowRow hb Hbt.out)
      exact ⟨.slice (some ⟨gm,0,none⟩) met.length cp,by simp [execOp,go_sem,e10,pt],rfl⟩
     | 4,ho,_,_,_,_,hany,he =>
      obtain rfl:=Option.some.inj ho
      have hb:Below Wk.heap.size Wk W:=by
       rcases hany with h | ⟨h,_⟩
       ·exact h
       ·exact absurd h (by rw [show needsB _ 7 4=true from by kernel_rfl];simp)
      have e15:a.tmps[15]?.getD undef=.pointer (some ⟨BF,0,none⟩):=free_val he 15 (by kernel_rfl)
      have pt:=cell_of_row W BF 0 _ _ _ (belowRow hb HBF.out.1)
      exact ⟨.int .i64 (i:Nat),by simp [execOp,go_sem,e15,pt],rfl⟩
     | 5,ho,_,_,_,_,_,he =>
      obtain rfl:=Option.some.inj ho
      have v3:a.tmps[46]?.getD undef=.slice (some ⟨gm,0,none⟩) met.length cp:=(eval_tmp a 46).symm.trans (((hd 3 (by kernel_rfl)).2 46 (by kernel_rfl)).trans (hd 3 (by kernel_rfl)).1)
      have v4:a.tmps[47]?.getD undef=.int .i64 (i:Nat):=(eval_tmp a 47).symm.trans (((hd 4 (by kernel_rfl)).2 47 (by kernel_rfl)).trans (hd 4 (by kernel_rfl)).1)
      exact ⟨.pointer (some ⟨gm,i * 3,none⟩),by simp [execOp,go_sem,v3,v4,hil],rfl⟩
     | 6,ho,_,_,_,_,hany,he =>
      obtain rfl:=Option.some.inj ho
      have hb:Below Wk.heap.size Wk W:=by
       rcases hany with h | ⟨h,_⟩
       ·exact h
       ·exact absurd h (by rw [show needsB _ 7 6=true from by kernel_rfl];simp)
      have v5:a.tmps[48]?.getD undef=.pointer (some ⟨gm,i * 3,none⟩):=(eval_tmp a 48).symm.trans (((hd 5 (by kernel_rfl)).2 48 (by kernel_rfl)).trans (hd 5 (by kernel_rfl)).1)
      have y0:W.cell? ⟨gm,i * 3,none⟩=some (.int .i64 (x1:Nat)):=(hb.cell (p:=⟨gm,_,none⟩) hgm).trans (Hcell.out 0 _ rfl)
      have y1:W.cell? ⟨gm,i * 3+1,none⟩=some (.int .i64 (x2:Nat)):=(hb.cell (p:=⟨gm,_,none⟩) hgm).trans (Hcell.out 1 _ rfl)
      have y2:W.cell? ⟨gm,i * 3+2,none⟩=some (.bool x3):=(hb.cell (p:=⟨gm,_,none⟩) hgm).trans (Hcell.out 2 _ rfl)
      exact ⟨.agg #[.int .i64 (x1:Nat),.int .i64 (x2:Nat),.bool x3],by simp [execOp,go_sem,v5,y0,y1,y2],rfl⟩
     | 7,_,h,_,_,_,_,_=>exact absurd rfl h
     | 8,_,_,h,_,_,_,_=>exact absurd rfl h
     | 9,_,_,_,h,_,_,_=>exact absurd rfl h
     | 10,ho,_,_,_,_,_,he =>
      obtain rfl:=Option.some.inj ho
      have e12:a.tmps[12]?.getD undef=.pointer (some ⟨BO,0,none⟩):=free_val he 12 (by kernel_rfl)
      exact ⟨.pointer (some ⟨BO,3,none⟩),by simp [execOp,go_sem,e12],rfl⟩
     | 11,_,_,_,_,h,_,_=>exact absurd rfl h
     | q+12,ho,_,_,_,_,_,_=>exact absurd ho (by simp)
    case fin =>
     intro vs W1 W2 g8 cap8 hM1 hkr hRp hown hor
     refine hK2 _ _ ?_
     have hN1:=HN.out.below hM1
     have hRn:=hN1.ra.appGood hkr hown
     have hrest:=hN1.rest hN1.ra.g hkr (by decide) 3 (.slice (some ⟨g8,0,none⟩) (((met.take i).map G).length+1) cap8)
     have hgn:(met.take i).map G ++ [G (x1,x2,x3)]=(met.take (i+1)).map G:=by
      rw [List.take_add_one,HX.out,List.map_append];rfl
     have HNn:=hide (show prNA w (W2.setCell ⟨BO,3,none⟩ (.slice (some ⟨g8,0,none⟩) (((met.take i).map G).length+1) cap8)) BO BN BT BM r fv (.slice (some ⟨g8,0,none⟩) (((met.take i).map G).length+1) cap8) sv ⟨0,c,first.map (fun x=>(numOf met x:Int)),(met.take (i+1)).map G,ss⟩ met from ⟨by rw [← hgn];exact hRn,hrest.1,hrest.2.1,hrest.2.2.1,hN1.ne,hrest.2.2.2⟩)
     have hf1:=belowRow hM1 HBF.out.1
     have hneF:BF ≠ BO:=fun e=>by
      have h1:=hN1.ra.box
      rw [← e,hf1] at h1
      injection h1 with h1
      injection h1 with _ h2
      exact absurd h2 (by decide)
     have HF3:=hide (show (W2.setCell ⟨BO,3,none⟩ (.slice (some ⟨g8,0,none⟩) (((met.take i).map G).length+1) cap8)).heap[BF]?=some (.cells #[.int .i64 (i:Nat)] 3) from by rw [heap_setCell_other _ _ _ _ hneF];exact hkr.block hf1 (fun e=>row_apart hN1.ra.g hf1 (by decide) BF e.symm rfl))
     have HM3:=hide (show Marks (W2.setCell ⟨BO,3,none⟩ (.slice (some ⟨g8,0,none⟩) (((met.take i).map G).length+1) cap8)) w.heap.size Ds from ⟨HMk.out.1,fun D hD=>by
      obtain ⟨h1,h2⟩:=HMk.out.2 D hD
      have h3:=belowRow hM1 h2
      refine ⟨h1,?_⟩
      have h4:D ≠ BO:=fun e=>by
       have h5:=hN1.ra.box
       rw [← e,h3] at h5
       cases h5
      rw [heap_setCell_other _ _ _ _ h4]
      exact hkr.block h3 (not_row hN1.ra.g h3 rfl)⟩)
     clear hRn hrest hgn hf1 hneF hN1 hM1 hkr hRp hown hor HN HMk HBF Hbt Hcell hgm hcp t0 q0
     generalize W2.setCell ⟨BO,3,none⟩ (.slice (some ⟨g8,0,none⟩) (((met.take i).map G).length+1) cap8)=W3 at *
     generalize (.slice (some ⟨g8,0,none⟩) (((met.take i).map G).length+1) cap8:Value)=gv3 at *
     obtain ⟨gm2,cp2,hbt2,hcp2,hgm2,hcell2⟩:=HNn.out.mn.at HX.out
     have t0:=cell_of_row W3 BT 0 _ _ _ hbt2
     have q0:=cell_of_row W3 BF 0 _ _ _ HF3.out
     have y0:W3.cell? ⟨gm2,i * 3,none⟩=some (.int .i64 (x1:Nat)):=hcell2 0 _ rfl
     have y1:W3.cell? ⟨gm2,i * 3+1,none⟩=some (.int .i64 (x2:Nat)):=hcell2 1 _ rfl
     have y2:W3.cell? ⟨gm2,i * 3+2,none⟩=some (.bool x3):=hcell2 2 _ rfl
     have HAf:=HH.out.2 (x1,x2,x3) hdx W3 HNn.out.bl
     have e7:prV (x1,x2,x3)=.agg #[.int .i64 (x1:Nat),.int .i64 (x2:Nat),.bool x3]:=rfl
     rw [e7] at HAf
     have HAf:=hide HAf
     clear hbt2 hgm2 hcell2 e7 HH
     simp only [putPairs]
     go_wp2_with (fail)
     refine HAf.out.mono ?_
     rintro e W4 ⟨gf,lb,C,rfl,hb4,egf,hC,hseq⟩
     have HS:=hide (And.intro hb4 (And.intro hC hseq))
     have Hegf:=hide egf
     clear hb4 hC hseq egf HAf t0 q0 y0 y1 y2 eg ega
     go_wp2_with (fail)
     have hb4:=HS.out.1
     have hN3:=HNn.out
     have hN4:=hN3.below hb4
     have hlow:∀ (k:Nat) (o:Obj),W3.heap[k]?=some o→k < W4.heap.size:=fun k o hk=>Nat.lt_of_lt_of_le (Array.getElem?_eq_some_iff.1 hk).1 hb4.size
     have hfl:∀ k,fv.ownBlock=some k→k < W4.heap.size:=fun k hk=>Nat.lt_of_lt_of_le (hN3.ra.f.lt k hk).2 hb4.size
     have hgl:∀ k,gv3.ownBlock=some k→k < W4.heap.size:=fun k hk=>Nat.lt_of_lt_of_le (hN3.ra.g.lt k hk).2 hb4.size
     have hbl:BM < W4.heap.size∧BN < W4.heap.size∧w.heap.size < W4.heap.size:=⟨hlow _ _ hN3.bm,hlow _ _ hN3.mn.bn,hlow _ _ hN3.b0⟩
     have hBFl:BF < W4.heap.size:=hlow _ _ HF3.out
     have hDl:∀ D ∈ Ds,D < W4.heap.size:=fun D hD=>hlow _ _ (HM3.out.2 D hD).2
     have hiM:i * N+N≤300000000:=by
      have h1:(i+1) * N≤M * N:=Nat.mul_le_mul_right N (by omega)
      rw [Nat.succ_mul] at h1
      omega
     have HLow:=hide (And.intro hfl (And.intro hgl (And.intro hbl (And.intro hBFl (And.intro hDl hiM)))))
     have HN4:=hide hN4
     have HF4:=hide (belowRow hb4 HF3.out)
     have HM4:=hide (show Marks W4 w.heap.size Ds from ⟨HM3.out.1,fun D hD=>⟨(HM3.out.2 D hD).1,belowRow hb4 (HM3.out.2 D hD).2⟩⟩)
     have HG4:=HG
     have hsq:=HS.out.2.2
     clear hlow hfl hgl hbl hBFl hDl hiM hN3 hN4
     refine wpIn_wide.1 (range_own (n:=20) (w0:=W4) (gf:=gf) (lb:=lb) rfl Hegf.out hsq (prSS BO BT r) W4.heap.size (prSS_det HN4.out) (Nat.le_refl _) (fun k hk h=>?hC) (fun k hk=>(prSS_in HN4.out hk).2) (Below.refl _ _) (fun _=>rfl)
      (fun pre W=>∃ (met':List Pair) (sv':Value) (ss':List Stp),prNA w W BO BN BT BM r fv gv3 sv' ⟨0,c,first.map (fun x=>(numOf met' x:Int)),(met'.take (i+1)).map G,ss'⟩ met'∧W.heap[BF]?=some (.cells #[.int .i64 (i:Nat)] 3)∧Marks W w.heap.size Ds∧Grow first G S i (pre.map (·.1)) met' ss'∧met'[i]?=some (x1,x2,x3)∧ss'.length≤i * N+pre.length)
      (fun _ _ _=>False) ?hI (fun _ _ _ _ h _ _=>h) ?start
      (fun y a' W=>∃ By,W.heap[By]?=some (.cells (prEnc y.1.2).toArray 153)∧a'={ tmps:=#[.int .i64 c,.slice a1 L1 c1,.func (.func g) pg cg,.func (.func ga) pa ca,undef,undef,undef,undef,.pointer (some ⟨w.heap.size,0,none⟩),.pointer (some ⟨BN,0,none⟩),.pointer (some ⟨BT,0,none⟩),.pointer (some ⟨BM,0,none⟩),.pointer (some ⟨BO,0,none⟩),undef,u14,.pointer (some ⟨BF,0,none⟩),.int .i64 y.1.1,.pointer (some ⟨By,0,none⟩),.map (some r),.func (.func 155) #[] #[.pointer (some ⟨BN,0,none⟩),.pointer (some ⟨BT,0,none⟩)],.int .i64 c,.agg #[.int .i64 0,.int .i64 c,.slice none 0 0,.slice none 0 0,.slice none 0 0],.slice a1 L1 c1,.int .i64 (L1:Nat),.int .i64 (L1:Nat),.bool false,u26,u27,u28,u29,u30,u31,u32,u33,u34,u35,u36,.int .i64 (i:Nat),.slice (some ⟨gm,0,none⟩) met.length cp,.int .i64 (met.length:Nat),.bool true,v41,v42,vs 0,vs 1,vs 2,vs 3,vs 4,vs 5,vs 6,vs 7,vs 8,vs 9,vs 10,.func (.func ga) pa ca,.slice (some ⟨gm2,0,none⟩) met.length cp2,.int .i64 (i:Nat),.pointer (some ⟨gm2,i * 3,none⟩),.agg #[.int .i64 (x1:Nat),.int .i64 (x2:Nat),.bool x3],.func (.func gf) #[] lb,.int .i64 y.1.1,prV y.1.2,undef,undef,undef,undef,undef,undef,undef,undef,undef,undef,undef,v73,undef,undef,undef,undef,undef,undef,undef,undef,undef,undef,undef,undef,undef],defers:=[] }) ?hAx ?assign ?body ?done (fun _ _ _ _ _ h _ _=>h.elim))
     case hC =>
      have h1:=prSS_in HNn.out (((KI.of_below (s:=0) (S:=prSS BO BT r) hb4).det (prSS_det HNn.out) (Nat.le_refl _) k).1 h)
      have h2:=HS.out.2.1 k hk
      omega
     case hI =>
      rintro pre A B ⟨met',sv',ss',h1,h2,h3,h4,h5,h6⟩ hA hk
      obtain ⟨l1,l2,l3,l4,l5,_⟩:=HLow.out
      exact ⟨met',sv',ss',h1.ki hk l1 l2 l3,hk.keep _ _ h2 (Or.inl l4),⟨h3.1,fun D hD=>⟨(h3.2 D hD).1,hk.keep _ _ (h3.2 D hD).2 (Or.inl (l5 D hD))⟩⟩,h4,h5,h6⟩
     case start=>exact ⟨met,sv,ss,HN4.out,HF4.out,HM4.out,HG.out,HX.out,hsl⟩
     case hAx =>
      rintro l y a' A o rr hl _ ⟨By,h1,h2⟩
      exact ⟨By,(World.putObj_heap_other (fun e=>by rw [e,hl] at h1;cases h1)).trans h1,h2⟩
     case assign =>
      rintro l pre ⟨⟨cy,y1,y2,y3⟩,hy⟩ A K' hi hsz hK'
      have HK':=hide hK'
      clear hK' hi hsq hb4 HLow HN4 HF4 HM4 HG4 HS HNn HF3 HM3
      have henc:prEnc (y1,y2,y3)=[.int .i64 (y1:Nat),.int .i64 (y2:Nat),.bool y3]:=rfl
      gi_wp2
      exact HK'.out _ _ (below_new _ _) ⟨A.heap.size,one_new _ _,rfl⟩
     case body =>
      rintro l pre ⟨⟨cy,y1,y2,y3⟩,hy⟩ a' A hl hlr hnl hsz ⟨met',sv',ss',h1,h2,h3,h4,h5,h6⟩ ⟨By,hby,rfl⟩ hlen
      generalize hQ2:postE (prSS BO BT r) _ (fun _ _ _=>False) (pre ++ [(⟨(cy,y1,y2,y3),hy⟩:{ p:Int × Pair // p ∈ S (x1,x2,x3) })]) A=Q2
      have HQ2:=hide (show ∀ (a:Act) (W':World) (met2:List Pair) (sv2:Value) (ss2:List Stp),KE (prSS BO BT r) A W'→prNA w W' BO BN BT BM r fv gv3 sv2 ⟨0,c,first.map (fun x=>(numOf met2 x:Int)),(met2.take (i+1)).map G,ss2⟩ met2→W'.heap[BF]?=some (.cells #[.int .i64 (i:Nat)] 3)→Marks W' w.heap.size Ds→Grow first G S i (pre.map (·.1) ++ [(cy,y1,y2,y3)]) met2 ss2→met2[i]?=some (x1,x2,x3)→ss2.length≤i * N+(pre.length+1)→Q2 .normal a W' from by
       intro a W' met2 sv2 ss2 k1 k2 k3 k4 k5 k6 k7
       rw [← hQ2]
       exact ⟨k1,met2,sv2,ss2,k2,k3,k4,by rw [List.map_append];exact k5,k6,by rw [List.length_append];exact k7⟩)
      clear hQ2
      have hdm':∀ x ∈ met',dom x:=h4.least dom hdf (fun x hx p hp=>hdS x hx p hp) (fun p hp=>by
       obtain ⟨q,_,rfl⟩:=List.mem_map.1 hp
       exact ⟨_,h5,q.2⟩)
      have hml:met'.length≤900000:=by have:=hM met' h4.nodup hdm';omega
      have hsl':ss'.length≤1000000000:=by have:=HLow.out.2.2.2.2.2;omega
      have hnBF:¬ prSS BO BT r A BF:=fun h=>by
       rcases prSS_cases h1 h with h7 | h7 | h7
       ·have h8:=h1.ra.box
        rw [← h7,h2] at h8
        injection h8 with h8
        injection h8 with _ h9
        exact absurd h9 (by decide)
       ·exact row_apart h1.ra.s h2 (by decide) BF h7 rfl
       ·exact prS_box h1.mn h2 (by decide) (by decide) h7
      have hnD:∀ D ∈ Ds,¬ prSS BO BT r A D:=fun D hD h=>by
       have h0:=(h3.2 D hD).2
       rcases prSS_cases h1 h with h7 | h7 | h7
       ·have h8:=h1.ra.box
        rw [← h7,h0] at h8
        cases h8
       ·exact not_row h1.ra.s h0 rfl h7.symm
       ·refine prS_not h1.mn h0 (fun e=>?_) (fun e=>?_) (fun v ho=>not_row ho h0 rfl) h7
        ·obtain ⟨es,ck,hr,_⟩:=h1.mn.mp
         rw [e,hr] at h0
         cases h0
        ·obtain ⟨v,hv,_⟩:=h1.mn.bt
         rw [e,hv] at h0
         cases h0
      have HI:=hide (And.intro h1 (And.intro h2 (And.intro h3 (And.intro h4 (And.intro h5 (And.intro h6 (And.intro hnBF hnD)))))))
      have Hby:=hide hby
      have henc:prEnc (y1,y2,y3)=[.int .i64 (y1:Nat),.int .i64 (y2:Nat),.bool y3]:=rfl
      clear h1 h2 h3 h4 h5 h6 hnBF hnD hby hdm' hsq hb4 HN4 HF4 HM4 HG4 HS HNn HF3 HM3
      gi_wp2_with (fail)
      refine region_callapp (lr:=some l) (nn:=18) 6 8 9 11 10 [8,7] [] [(0,62),(1,63),(2,64),(3,65),(4,66),(5,67),(6,68),(7,69),(8,70),(9,71),(10,72)] (fun j v=>match j with | 0=>v=.pointer (some ⟨BO,4,none⟩) | 1=>v=sv' | 2=>v=.int .i64 (i:Nat) | 3=>v=.int .i64 cy | 4=>v=.func (.func 155) #[] #[.pointer (some ⟨BN,0,none⟩),.pointer (some ⟨BT,0,none⟩)] | 5=>v=.agg #[.int .i64 (y1:Nat),.int .i64 (y2:Nat),.bool y3] | 6=>v=.int .i64 (numOf (addN met' (y1,y2,y3)) (y1,y2,y3):Nat) | 7=>v=.agg #[.int .i64 (i:Nat),.int .i64 cy,.int .i64 (numOf (addN met' (y1,y2,y3)) (y1,y2,y3):Nat)] | 10=>v=.pointer (some ⟨BO,4,none⟩) | _=>True)
       (fun W=>Below A.heap.size A W) (fun W=>prNA w W BO BN BT BM r fv gv3 sv' ⟨0,c,first.map (fun x=>(numOf met' x:Int)),(met'.take (i+1)).map G,ss'⟩ (addN met' (y1,y2,y3))∧KE (prSS BO BT r) A W) (base:=w.heap.size) (xs:=stepCells ss') (n:=ss'.length) (sv:=sv') (pb:=BO) (k:=4) (cs:=#[.int .i64 0,.int .i64 c,fv,gv3,sv']) (tb:=26)
       [.int .i64 (i:Nat),.int .i64 cy,.int .i64 (numOf (addN met' (y1,y2,y3)) (y1,y2,y3):Nat)] elStep hsl' rfl (by intro u hu;simp at hu;rcases hu with rfl | rfl | rfl <;> rfl) (by kernel_rfl) (by kernel_rfl) (by kernel_rfl) (by kernel_rfl) (by decide) (by decide) (by kernel_rfl) (by decide) ⟨by kernel_rfl,by kernel_rfl,by kernel_rfl⟩ (by kernel_rfl)
       (fun W W' h hb=>⟨h.1.below hb,h.2.trans (KE.of_below (prSS_det h.1) (Nat.le_refl _) hb)⟩) (fun W h=>⟨h.1.ra.s,h.1.ra.box,h.1.ra.hb0⟩) (by decide) rfl ((Below.refl _ _).drew) ?call (.cells #[.int .i64 (i:Nat),.int .i64 cy,.int .i64 (numOf (addN met' (y1,y2,y3)) (y1,y2,y3):Nat)] 88) 1 (el_new _ _) rfl rfl rfl ?el _ rfl 63 70 1 rfl ⟨by kernel_rfl,by kernel_rfl,by kernel_rfl,by kernel_rfl⟩ (fun v h=>h) ?pure _ rfl rfl sizeSteps ⟨by kernel_rfl,by kernel_rfl,by kernel_rfl,by kernel_rfl⟩ (fun v h=>h) ?fin2
      case call =>
       intro o ho a W vs' hP he hd
       obtain rfl:=Option.some.inj ho
       have v4:a.tmps[66]?.getD undef=.func (.func 155) #[] #[.pointer (some ⟨BN,0,none⟩),.pointer (some ⟨BT,0,none⟩)]:=(eval_tmp a 66).symm.trans (((hd 4 (by kernel_rfl)).2 66 (by kernel_rfl)).trans (hd 4 (by kernel_rfl)).1)
       have v5:a.tmps[67]?.getD undef=.agg #[.int .i64 (y1:Nat),.int .i64 (y2:Nat),.bool y3]:=(eval_tmp a 67).symm.trans (((hd 5 (by kernel_rfl)).2 67 (by kernel_rfl)).trans (hd 5 (by kernel_rfl)).1)
       have hNW:=HI.out.1.below hP
       refine ⟨155,#[.agg #[.int .i64 (y1:Nat),.int .i64 (y2:Nat),.bool y3],.pointer (some ⟨BN,0,none⟩),.pointer (some ⟨BT,0,none⟩)],by simp [execOp,go_sem,v4,v5],(prMeet (y1,y2,y3) hNW.mn hml).mono ?_⟩
       rintro e' W' ⟨rfl,hm',hk'⟩
       exact ⟨_,rfl,rfl,hNW.meet hk' hm',(KE.of_below (prSS_det HI.out.1) (Nat.le_refl _) hP).trans (prSS_meet hNW hk')⟩
      case el =>
       intro o ho a W vs' he hd
       obtain rfl:=Option.some.inj ho
       have v7:a.tmps[69]?.getD undef=.agg #[.int .i64 (i:Nat),.int .i64 cy,.int .i64 (numOf (addN met' (y1,y2,y3)) (y1,y2,y3):Nat)]:=(eval_tmp a 69).symm.trans (((hd 7 (by kernel_rfl)).2 69 (by kernel_rfl)).trans (hd 7 (by kernel_rfl)).1)
       simp [execOp,go_sem,v7]
      case pure =>
       intro q o ho n6 n8 n9 n11 a W vs' hany he hd
       have hbb:W.heap[BO]?=some (.cells #[.int .i64 0,.int .i64 c,fv,gv3,sv'] 26)∧W.heap[BM]?=some (.cells #[.func (.func 155) #[] #[.pointer (some ⟨BN,0,none⟩),.pointer (some ⟨BT,0,none⟩)]] 222)∧W.heap[BF]?=some (.cells #[.int .i64 (i:Nat)] 3):=by
        rcases hany with h | ⟨_,h | ⟨W1,h,hkr⟩⟩
        ·exact ⟨(HI.out.1.below h).ra.box,(HI.out.1.below h).bm,belowRow h HI.out.2.1⟩
        ·exact ⟨h.1.ra.box,h.1.bm,h.2.keep _ _ HI.out.2.1 HI.out.2.2.2.2.2.2.1⟩
        ·have hf:=h.2.keep _ _ HI.out.2.1 HI.out.2.2.2.2.2.2.1
         exact ⟨hkr.block h.1.ra.box h.1.ra.apart.2.2,hkr.block h.1.bm (fun e=>row_apart h.1.ra.s h.1.bm (by decide) BM e.symm rfl),hkr.block hf (fun e=>row_apart h.1.ra.s hf (by decide) BF e.symm rfl)⟩
       have p4:=cell_of_row W BO 4 _ _ _ hbb.1
       have pm:=cell_of_row W BM 0 _ _ _ hbb.2.1
       have pf:=cell_of_row W BF 0 _ _ _ hbb.2.2
       match q,ho,n6,n8,n9,n11,hany,he with
       | 0,ho,_,_,_,_,_,he =>
        obtain rfl:=Option.some.inj ho
        have e12:a.tmps[12]?.getD undef=.pointer (some ⟨BO,0,none⟩):=free_val he 12 (by kernel_rfl)
        exact ⟨.pointer (some ⟨BO,4,none⟩),by simp [execOp,go_sem,e12],rfl⟩
       | 1,ho,_,_,_,_,_,he =>
        obtain rfl:=Option.some.inj ho
        have v0:a.tmps[62]?.getD undef=.pointer (some ⟨BO,4,none⟩):=(eval_tmp a 62).symm.trans (((hd 0 (by kernel_rfl)).2 62 (by kernel_rfl)).trans (hd 0 (by kernel_rfl)).1)
        exact ⟨sv',by simp [execOp,go_sem,v0,p4],rfl⟩
       | 2,ho,_,_,_,_,_,he =>
        obtain rfl:=Option.some.inj ho
        have e15:a.tmps[15]?.getD undef=.pointer (some ⟨BF,0,none⟩):=free_val he 15 (by kernel_rfl)
        exact ⟨.int .i64 (i:Nat),by simp [execOp,go_sem,e15,pf],rfl⟩
       | 3,ho,_,_,_,_,_,he =>
        obtain rfl:=Option.some.inj ho
        have e16:a.tmps[16]?.getD undef=.int .i64 cy:=free_val he 16 (by kernel_rfl)
        exact ⟨.int .i64 cy,by simp [execOp,go_sem,e16],rfl⟩
       | 4,ho,_,_,_,_,_,he =>
        obtain rfl:=Option.some.inj ho
        have e11:a.tmps[11]?.getD undef=.pointer (some ⟨BM,0,none⟩):=free_val he 11 (by kernel_rfl)
        exact ⟨_,by simp [execOp,go_sem,e11,pm],rfl⟩
       | 5,ho,_,_,_,_,hany,he =>
        obtain rfl:=Option.some.inj ho
        have e17:a.tmps[17]?.getD undef=.pointer (some ⟨By,0,none⟩):=free_val he 17 (by kernel_rfl)
        have hx3:W.heap[By]?=some (.cells #[.int .i64 (y1:Nat),.int .i64 (y2:Nat),.bool y3] 153):=by
         rcases hany with h | ⟨h,_⟩
         ·exact belowRow h Hby.out
         ·exact absurd h (by rw [show needsB _ 6 5=true from by kernel_rfl];simp)
        have z0:=cell_of_row W _ 0 _ _ _ hx3
        have z1:=cell_of_row W _ 1 _ _ _ hx3
        have z2:=cell_of_row W _ 2 _ _ _ hx3
        exact ⟨.agg #[.int .i64 (y1:Nat),.int .i64 (y2:Nat),.bool y3],by simp [execOp,go_sem,e17,z0,z1,z2],rfl⟩
       | 6,_,h,_,_,_,_,_=>exact absurd rfl h
       | 7,ho,_,_,_,_,_,he =>
        obtain rfl:=Option.some.inj ho
        have v2:a.tmps[64]?.getD undef=.int .i64 (i:Nat):=(eval_tmp a 64).symm.trans (((hd 2 (by kernel_rfl)).2 64 (by kernel_rfl)).trans (hd 2 (by kernel_rfl)).1)
        have v3:a.tmps[65]?.getD undef=.int .i64 cy:=(eval_tmp a 65).symm.trans (((hd 3 (by kernel_rfl)).2 65 (by kernel_rfl)).trans (hd 3 (by kernel_rfl)).1)
        have v6:a.tmps[68]?.getD undef=.int .i64 (numOf (addN met' (y1,y2,y3)) (y1,y2,y3):Nat):=(eval_tmp a 68).symm.trans (((hd 6 (by kernel_rfl)).2 68 (by kernel_rfl)).trans (hd 6 (by kernel_rfl)).1)
        exact ⟨.agg #[.int .i64 (i:Nat),.int .i64 cy,.int .i64 (numOf (addN met' (y1,y2,y3)) (y1,y2,y3):Nat)],by simp [execOp,go_sem,v2,v3,v6],rfl⟩
       | 8,_,_,h,_,_,_,_=>exact absurd rfl h
       | 9,_,_,_,h,_,_,_=>exact absurd rfl h
       | 10,ho,_,_,_,_,_,he =>
        obtain rfl:=Option.some.inj ho
        have e12:a.tmps[12]?.getD undef=.pointer (some ⟨BO,0,none⟩):=free_val he 12 (by kernel_rfl)
        exact ⟨.pointer (some ⟨BO,4,none⟩),by simp [execOp,go_sem,e12],rfl⟩
       | 11,_,_,_,_,h,_,_=>exact absurd rfl h
       | q+12,ho,_,_,_,_,_,_=>exact absurd ho (by simp)
      case fin2 =>
       intro vs' W1 W2 g8 cap8 hM1 hkr hRp hown hor
       obtain ⟨h1,h2,h3,h4,h5,h6,hnBF,hnD⟩:=HI.out
       have hKA:=hM1.2.trans (prSS_put (n:=ss'.length+1) (cap8:=cap8) hM1.1 hkr hor (hown.lt g8 rfl).2)
       have hRn:=hM1.1.ra.appStep (z:=⟨(i:Nat),cy,(numOf (addN met' (y1,y2,y3)) (y1,y2,y3):Nat)⟩) hkr hown
       have hrest:=hM1.1.rest hM1.1.ra.s hkr (by decide) 4 (.slice (some ⟨g8,0,none⟩) (ss'.length+1) cap8)
       have hfm:first.map (fun x=>(numOf met' x:Int))=first.map (fun x=>(numOf (addN met' (y1,y2,y3)) x:Int)):=List.map_congr_left (fun x hx=>by rw [addN_num (h4.first_met x hx)])
       have hgm':(met'.take (i+1)).map G=((addN met' (y1,y2,y3)).take (i+1)).map G:=by rw [addN_take (List.getElem?_eq_some_iff.1 h5).1]
       refine HQ2.out _ _ (addN met' (y1,y2,y3)) (.slice (some ⟨g8,0,none⟩) (ss'.length+1) cap8) (ss' ++ [⟨(i:Nat),cy,(numOf (addN met' (y1,y2,y3)) (y1,y2,y3):Nat)⟩]) hKA ⟨?_,hrest.1,hrest.2.1,hrest.2.2.1,hM1.1.ne,hrest.2.2.2⟩ (hKA.keep _ _ h2 hnBF) ⟨h3.1,fun D hD=>⟨(h3.2 D hD).1,hKA.keep _ _ (h3.2 D hD).2 (hnD D hD)⟩⟩ (h4.step h5 hy) (addN_get h5) (by rw [List.length_append,List.length_singleton];omega)
       rw [← hfm,← hgm']
       exact hRn
     case done =>
      rintro D xs W hD hxs ⟨met',sv',ss',h1,h2,h3,h4,h5,h6⟩ hdef hnS
      have q1:=cell_of_row W BF 0 _ _ _ h2
      have HR:=hide (And.intro h1 (And.intro h3 (And.intro h4 (And.intro h5 (And.intro h6 (And.intro hdef (And.intro hxs hD)))))))
      clear h1 h2 h3 h4 h5 h6 hdef hxs hD hnS hsq hb4 HN4 HF4 HM4 HG4 HS HNn HF3 HM3
      go_wp2_with (fail)
      obtain ⟨h1,h3,h4,h5,h6,hdef,hxs,hD⟩:=HR.out
      have hbn:=below_new W (Obj.cells #[Value.int .i64 ((i:Nat)+1:Int)] 3)
      have hls:xs.length=(S (x1,x2,x3)).length:=by have:=congrArg List.length hxs;rwa [List.length_map] at this
      have hSN:=hN _ hdx
      rw [hxs] at h4
      have hi1:i < met'.length:=(List.getElem?_eq_some_iff.1 h5).1
      refine Handed.intro (M - (i+1)) (by omega) (hJ _ _ _ ⟨i+1,W.heap.size,met',gv3,sv',ss',_,_,_,_,_,_,_,_,_,_,_,_,_,_,_,_,_,_,_,_,_,_,_,_,D :: Ds,rfl,rfl,hide (h1.below hbn),hide ⟨one_new W _,h1.bl.size⟩,hide (Grow.next h5 h4),by rw [Nat.succ_mul];omega,hide ?_⟩)
      refine Marks.cons ⟨h3.1,fun E hE=>⟨(h3.2 E hE).1,belowRow hbn (h3.2 E hE).2⟩⟩ (by have:=h1.bl.size;have:=HLow.out.2.2.1.2.2;omega) (belowRow hbn hdef) (fun hm=>?_)
      have:=HLow.out.2.2.2.2.1 D hm
      omega
   ·obtain rfl:i=met.length:=by have:=HG.out.le;omega
    have hN:=HN.out
    rw [List.take_length] at hN
    obtain ⟨tv,hbt,hot⟩:=hN.mn.bt
    obtain ⟨ta,tc,rfl⟩:=owns_form hot
    have t0:=cell_of_row Wk BT 0 _ _ _ hbt
    have hlow:w.heap.size≤BO:=hN.ra.hb
    have HR:=hide hN.ra
    have H0:=hide hN.b0
    have HBl:=hide hN.bl
    have hneB:w.heap.size ≠ BO:=fun e=>hN.ne.1 e.symm
    have HDm:=hide hdm
    have hssl:ss.length≤M * N:=Nat.le_trans hsl (Nat.mul_le_mul_right N hmM)
    clear hN hbt hot HN HBF hgood hafter hdm
    generalize hF7:first.map (fun x=>(numOf met x:Int))=F7 at *
    have HF7:=hide hF7
    clear hF7
    by_cases hmt:met=[]
    case' pos =>
     have hz:((met.length:Int) == 0)=true:=by rw [hmt];rfl
     have hbn:=below_new Wk (Obj.cells #[Value.bool false] 4)
     have HRn:=hide (HR.out.below hbn)
     have p3:=cell_of_row _ _ 3 _ _ _ HRn.out.box
     have z3:=frozen_of_row _ _ 3 _ _ HRn.out.box
     have HR7:=hide (show RA ((Wk.alloc (Obj.cells #[Value.bool false] 4)).setCell ⟨BO,3,none⟩ (.slice (some ⟨Wk.heap.size,0,none⟩) 1 1)) w.heap.size BO fv (.slice (some ⟨Wk.heap.size,0,none⟩) 1 1) sv ⟨0,c,F7,[false],ss⟩ from
      ⟨box_set HRn.out.box 3 _,owns_set HRn.out.f HRn.out.box (by decide) _ _,owns_set ⟨rfl,Or.inr ⟨Wk.heap.size,1,_,rfl,HBl.out.size,one_new Wk _,Nat.le_refl _,by unfold maxLen;omega,rfl,rfl⟩⟩ HRn.out.box (by decide) _ _,owns_set HRn.out.s HRn.out.box (by decide) _ _,HRn.out.hb⟩)
     have H07:=hide ((heap_setCell_other (Wk.alloc (Obj.cells #[Value.bool false] 4)) ⟨BO,3,none⟩ (.slice (some ⟨Wk.heap.size,0,none⟩) 1 1) _ hneB).trans (belowRow hbn H0.out))
     have HB7:=hide (below_set (below_trans HBl.out hbn) hlow 3 (.slice (some ⟨Wk.heap.size,0,none⟩) 1 1))
     have HM7:=hide (prMarks_set (show Marks (Wk.alloc (Obj.cells #[Value.bool false] 4)) w.heap.size Ds from ⟨HMk.out.1,fun D hD=>⟨(HMk.out.2 D hD).1,belowRow hbn (HMk.out.2 D hD).2⟩⟩) HRn.out.box 3 (.slice (some ⟨Wk.heap.size,0,none⟩) 1 1))
     clear hbn HRn HR H0 HBl HMk
     go_upto_region 22 with (fail)
     generalize (Wk.alloc (Obj.cells #[Value.bool false] 4)).setCell ⟨BO,3,none⟩ (.slice (some ⟨Wk.heap.size,0,none⟩) 1 1)=W7 at *
     generalize Value.slice (some ⟨Wk.heap.size,0,none⟩) 1 1=gv7 at *
     generalize hG7:([false]:List Bool)=G7 at HR7
     have HG7:=hide (show (if met=[] then [false] else met.map G)=G7 by rw [if_pos hmt,hG7])
     clear hG7
     clear p3 z3
    case' neg =>
     have hz:((met.length:Int) == 0)=false:=by
      rw [beq_eq_false_iff_ne]
      intro e
      exact hmt (List.eq_nil_of_length_eq_zero (by omega))
     have HR7:=HR
     have H07:=H0
     have HB7:=HBl
     have HM7:=HMk
     clear HR H0 HBl HMk
     go_upto_region 22 with (fail)
     generalize Wk=W7 at *
     generalize gv=gv7 at *
     generalize hG7:met.map G=G7 at HR7
     have HG7:=hide (show (if met=[] then [false] else met.map G)=G7 by rw [if_neg hmt,hG7])
     clear hG7
    all_goals
     clear hz t0 q0
     obtain ⟨a4,c4,a2,c2,a3,c3,e1,e2,e3⟩:=HR7.out.slices
     dsimp only at e1 e2 e3
     subst e1 e2 e3
     have p3:=cell_of_row _ _ 3 _ _ _ HR7.out.box
     have p0:=cell_of_row _ _ 0 _ _ _ HR7.out.box
     have z0:=frozen_of_row _ _ 0 _ _ HR7.out.box
     have HR8:=hide (show RA (W7.setCell ⟨BO,0,none⟩ (.int .i64 (G7.length:Nat))) w.heap.size BO _ _ _ ⟨(G7.length:Nat),c,F7,G7,ss⟩ from ⟨box_set HR7.out.box 0 _,owns_set HR7.out.f HR7.out.box (by decide) _ _,owns_set HR7.out.g HR7.out.box (by decide) _ _,owns_set HR7.out.s HR7.out.box (by decide) _ _,HR7.out.hb⟩)
     have H08:=hide ((heap_setCell_other W7 ⟨BO,0,none⟩ (.int .i64 (G7.length:Nat)) _ hneB).trans H07.out)
     have HB8:=hide (below_set HB7.out hlow 0 (.int .i64 (G7.length:Nat)))
     have HM8:=hide (prMarks_set HM7.out HR7.out.box 0 (.int .i64 (G7.length:Nat)))
     clear HR7 H07 HB7 HM7
     go_upto_region 23 with (fail)
     generalize W7.setCell ⟨BO,0,none⟩ (.int .i64 (G7.length:Nat))=W8 at *
     clear p3 p0 z0
     have p4:=cell_of_row _ _ 4 _ _ _ HR8.out.box
     go_wp2_with (fail)
     go_fit (sort_any HR8.out.s (by dsimp only;omega))
     rintro e W9 ⟨rfl,ss',hperm,hsort,hown,hgr⟩
     have hl':ss'.length=ss.length:=hperm.length_eq
     have HR9:=hide (show RA W9 w.heap.size BO _ _ _ ⟨(G7.length:Nat),c,F7,G7,ss'⟩ from ⟨prGrown_box HR8.out.box HR8.out.s (by decide) hgr,prGrown_row HR8.out.f HR8.out.s (by decide) hgr,prGrown_row HR8.out.g HR8.out.s (by decide) hgr,hown,HR8.out.hb⟩)
     have h09:=prGrown_box H08.out HR8.out.s (by decide) hgr
     have HB9:=hide (prGrown_below HB8.out HR8.out.s (Nat.le_refl _) hgr)
     have HM9:=hide (prMarks_grown HM8.out HR8.out.s hgr)
     have HP:=hide (And.intro hperm hsort)
     clear hperm hsort hown hgr HR8 H08 HB8 HM8 p4
     have x0:=cell_of_row _ _ 0 _ _ _ HR9.out.box
     have x1:=cell_of_row _ _ 1 _ _ _ HR9.out.box
     have x2:=cell_of_row _ _ 2 _ _ _ HR9.out.box
     have x3:=cell_of_row _ _ 3 _ _ _ HR9.out.box
     have x4:=cell_of_row _ _ 4 _ _ _ HR9.out.box
     have hF:=fivePut_box h09 (.int .i64 (G7.length:Nat)) (.int .i64 c) (.slice a4 F7.length c4) (.slice a2 G7.length c2) (.slice a3 ss.length c3)
     have y0:=cell_of_row _ _ 0 _ _ _ h09
     have y1:=cell_of_row _ _ 1 _ _ _ h09
     have y2:=cell_of_row _ _ 2 _ _ _ h09
     have y3:=cell_of_row _ _ 3 _ _ _ h09
     have y4:=cell_of_row _ _ 4 _ _ _ h09
     have z0:=frozen_of_row _ _ 0 _ _ h09
     have z1:=frozen_of_row _ _ 1 _ _ h09
     have z2:=frozen_of_row _ _ 2 _ _ h09
     have z3:=frozen_of_row _ _ 3 _ _ h09
     have z4:=frozen_of_row _ _ 4 _ _ h09
     have f0:=cell_of_row _ _ 0 _ _ _ hF
     have f1:=cell_of_row _ _ 1 _ _ _ hF
     have f2:=cell_of_row _ _ 2 _ _ _ hF
     have f3:=cell_of_row _ _ 3 _ _ _ hF
     have f4:=cell_of_row _ _ 4 _ _ _ hF
     have HBF:=hide (fivePut_below HB9.out (Nat.le_refl _) (.int .i64 (G7.length:Nat)) (.int .i64 c) (.slice a4 F7.length c4) (.slice a2 G7.length c2) (.slice a3 ss.length c3))
     have HMF:=hide (prMarks_five HM9.out h09 (.int .i64 (G7.length:Nat)) (.int .i64 c) (.slice a4 F7.length c4) (.slice a2 G7.length c2) (.slice a3 ss.length c3))
     have HAF:=hide (HR9.out.own.five h09 (.int .i64 (G7.length:Nat)) (.int .i64 c) (.slice a4 F7.length c4) (.slice a2 G7.length c2) (.slice a3 ss.length c3))
     have HFb:=hide hF
     unfold fivePut at f0 f1 f2 f3 f4 HBF HMF HAF HFb
     clear hF HR9 HB9 HM9 h09
     go_wp2
     refine leaves_marks w.heap.size Ds _ HMF.out ?_
     intro W' hSh
     have hb':=hSh.cells _ _ HFb.out rfl
     have g0:=cell_of_row _ _ 0 _ _ _ hb'
     have g1:=cell_of_row _ _ 1 _ _ _ hb'
     have g2:=cell_of_row _ _ 2 _ _ _ hb'
     have g3:=cell_of_row _ _ 3 _ _ _ hb'
     have g4:=cell_of_row _ _ 4 _ _ _ hb'
     refine ⟨.agg #[.int .i64 (G7.length:Nat),.int .i64 c,.slice a4 F7.length c4,.slice a2 G7.length c2,.slice a3 ss.length c3],by simp [results,Tryz.results104,go_sem,g0,g1,g2,g3,g4],.agg #[.int .i64 (G7.length:Nat),.int .i64 c,.slice a4 F7.length c4,.slice a2 G7.length c2,.slice a3 ss.length c3],rfl,⟨met,⟨(G7.length:Nat),c,F7,G7,ss'⟩,?_,rfl,HDm.out,hmM,by dsimp only;omega,HP.out.2,?_,?_⟩,?_⟩
     ·have:=Grow.done (c:=c) HG.out HP.out.1
      rw [HG7.out,HF7.out] at this
      exact this
     ·exact fun hS=>(HP.out.1.nodup_iff).2 (HG.out.apart hS List.nodup_nil)
     ·obtain ⟨fv',gv',sv',ev,o1,o2,o3⟩:=HAF.out
      have hk:∀ {e sz n:Nat}{v:Value}{xs:List Value},(fivePut W9 w.heap.size (.int .i64 (G7.length:Nat)) (.int .i64 c) (.slice a4 F7.length c4) (.slice a2 G7.length c2) (.slice a3 ss.length c3)).ownsRow w.heap.size e sz v n xs→W'.ownsRow w.heap.size e sz v n xs:=fun {e sz n v xs} ho=>owns_kept ho fun r hr=>by
       obtain ⟨c',fz,hc⟩:=owns_cells ho r hr
       rw [hc]
       exact hSh.cells r _ hc rfl
      exact ⟨fv',gv',sv',ev,hk o1,hk o2,hk o3⟩
     ·exact ⟨hSh.os.trans HBF.out.os,hSh.tape.trans HBF.out.tape,hSh.output.trans HBF.out.output,Nat.le_trans HBF.out.size hSh.size,fun i hi=>(hSh.low i hi).trans (HBF.out.block i hi)⟩
end Go.Proofs.YtpiacnnifdjlkabGreatDoor
