import Derived.Test.YtpiacnnifdjlkabGreatDoorYm
import Derived.Test.YtpiacnnifdjlkabGreatDoorYi
import Derived.Test.YtpiacnnifdjlkabGreatDoorYa
import Derived.Test.YtpiacnnifdjlkabGreatDoorLc
set_option maxRecDepth 100000
set_option maxHeartbeats 8000000
namespace Go.Proofs.YtpiacnnifdjlkabGreatDoor
open Go.RowKit Go.Sort
def nowF (M:Mdl) (u:Nat→Int):Nat→Nat→Bool
 | 0,q=>M.first.any fun x=>decide (x=(q:Int))
 | t+1,q=>(List.range M.labels.length).any fun p=>nowF M u t p && decide (mLab M p=u t) && (mRow M p).any fun x=>decide (x=(q:Int))
def atF (M:Mdl) (u:Nat→Int) (t p:Nat):Bool:=nowF M u t p && decide (mLab M p=u t)
def hereF (M:Mdl) (u:Nat→Int) (t i:Nat):Bool:=(List.range i).any fun p=>atF M u t p
def nextF (M:Mdl) (u:Nat→Int) (t i q:Nat):Bool:=(List.range i).any fun p=>atF M u t p && (mRow M p).any fun x=>decide (x=(q:Int))
theorem now_reach {M:Mdl}{u:Nat→Int}:∀ {t q:Nat},nowF M u t q=true ↔ reachM M u t q
 | 0,q=>by
  unfold nowF reachM
  rw [List.any_eq_true]
  constructor
  ·rintro ⟨x,hx,e⟩
   rw [decide_eq_true_iff] at e
   rw [← e];exact hx
  ·exact fun h=>⟨_,h,decide_eq_true rfl⟩
 | t+1,q=>by
  unfold nowF reachM
  rw [List.any_eq_true]
  constructor
  ·rintro ⟨p,hp,e⟩
   simp only [Bool.and_eq_true,decide_eq_true_eq,List.any_eq_true] at e
   obtain ⟨⟨e1,e2⟩,x,hx,e3⟩:=e
   exact ⟨p,List.mem_range.1 hp,now_reach.1 e1,e2,by rw [← e3];exact hx⟩
  ·rintro ⟨p,hp,e1,e2,hx⟩
   refine ⟨p,List.mem_range.2 hp,?_⟩
   simp only [Bool.and_eq_true,decide_eq_true_eq,List.any_eq_true]
   exact ⟨⟨now_reach.2 e1,e2⟩,_,hx,rfl⟩
theorem goes_here {M:Mdl}{u:Nat→Int}{N:Nat}:goesM M u N ↔ ∀ t,t < N→hereF M u t M.labels.length=true:=by
 have h:∀ t,hereF M u t M.labels.length=true ↔ ∃ p,p < M.labels.length∧reachM M u t p∧mLab M p=u t:=fun t=>by
  unfold hereF atF
  rw [List.any_eq_true]
  constructor
  ·rintro ⟨p,hp,e⟩
   rw [Bool.and_eq_true,decide_eq_true_iff] at e
   exact ⟨p,List.mem_range.1 hp,now_reach.1 e.1,e.2⟩
  ·rintro ⟨p,hp,e1,e2⟩
   exact ⟨p,List.mem_range.2 hp,by rw [Bool.and_eq_true,decide_eq_true_iff];exact ⟨now_reach.2 e1,e2⟩⟩
 unfold goesM
 exact ⟨fun hg t ht=>(h t).2 (hg t ht),fun hg t ht=>(h t).1 (hg t ht)⟩
theorem hereF_next (M:Mdl) (u:Nat→Int) (t i:Nat):hereF M u t (i+1)=(hereF M u t i || atF M u t i):=by
 unfold hereF
 rw [List.range_succ,List.any_append]
 simp
theorem nextF_next (M:Mdl) (u:Nat→Int) (t i q:Nat):nextF M u t (i+1) q=(nextF M u t i q || (atF M u t i && (mRow M i).any fun x=>decide (x=(q:Int)))):=by
 unfold nextF
 rw [List.range_succ,List.any_append]
 simp
theorem anyI_take (xs:List Int) (i q:Nat) (h:i < xs.length) {tn:Nat} (ht:xs.getD i 0=(tn:Int)):((xs.take (i+1)).any fun x=>decide (x=(q:Int)))=(((xs.take i).any fun x=>decide (x=(q:Int))) || decide (q=tn)):=by
 rw [List.take_add_one,List.getElem?_eq_getElem h,List.any_append]
 have:xs[i]=(tn:Int):=by simpa [List.getD,h] using ht
 simp only [Option.toList_some,List.any_cons,List.any_nil,Bool.or_false,this]
 congr 1
 rw [decide_eq_decide]
 omega
structure GoW (w:World) (mb lb:Obj) (W:World):Prop where
 bl:Below w.heap.size w W
 m:W.heap[w.heap.size]?=some mb
 l:W.heap[w.heap.size+1]?=some lb
theorem GoW.below {w:World}{mb lb:Obj}{W W':World} (h:GoW w mb lb W) (hb:Below W.heap.size W W'):GoW w mb lb W':=⟨below_trans h.bl hb,belowRow hb h.m,belowRow hb h.l⟩
theorem GoW.set {w:World}{mb lb:Obj}{W:World} (h:GoW w mb lb W) {g:Nat} (hg:w.heap.size+1 < g) (o:Nat) (v:Value):GoW w mb lb (W.setCell ⟨g,o,none⟩ v):=
 ⟨below_set h.bl (by omega) o v,by rw [heap_setCell_other _ _ _ _ (show w.heap.size ≠ g by omega)];exact h.m,by rw [heap_setCell_other _ _ _ _ (show w.heap.size+1 ≠ g by omega)];exact h.l⟩
theorem goesBy_any {w:World}{v hv lv:Value}{M:Mdl}{hs ls:List Int} (hM:MRight M) (hV:MdV w v M) (hh:IntSl w hv hs) (hl:IntSl w lv ls) (h4:hs.length≤4000) (h5:ls.length≤4000) (h6:0 < ls.length) (b:Bool) (hb:b=true ↔ goesM M (lat hs ls) (farM M hs ls)) :
  Calls Tryz.prog 35 #[v,.agg #[hv,lv]] w fun e w'=>e=.returned (.bool b)∧Below w.heap.size w w':=by
 obtain ⟨lbv,fv,sv,rfl,m1,m2,m4⟩:=hV
 have HLs:=hide m1
 have HF:=hide m2
 have HR:=hide m4
 have HLet:Hid (∀ W,Below w.heap.size w W→∀ i:Nat,i≤60000→Calls Tryz.prog 81 #[.agg #[hv,lv],.int .i64 (i:Nat)] W fun e w'=>e=.returned (.int .i64 (lat hs ls i))∧Below W.heap.size W w'):=hide fun W hb i hi=>by
  have h:=letterAtR_any (hh.below hb) (hl.below hb) (i:Int) (by omega) (by omega) (List.length_pos_iff.1 h6)
  rw [Int.toNat_natCast] at h
  exact h
 obtain ⟨a1,c1,rfl,hm1,-⟩:=m1
 obtain ⟨a2,c2,rfl,hm2,-⟩:=m2
 obtain ⟨a3,c3,rfl,hm3,-⟩:=m4
 obtain ⟨h1,k1,rfl,-⟩:=hh
 obtain ⟨h2,k2,rfl,-⟩:=hl
 have hn1:=hM.n1
 have hn12:=hM.n12
 have HM:=hide hM
 have HB:Hid (b=true ↔ ∀ t,t < farM M hs ls→hereF M (lat hs ls) t M.labels.length=true):=hide (hb.trans goes_here)
 have hfar:farM M hs ls=hs.length+(M.labels.length+1) * ls.length:=rfl
 have hpr:(M.labels.length+1) * ls.length≤13 * 4000:=Nat.mul_le_mul (by omega) h5
 have hpi:((M.labels.length:Int)+1) * (ls.length:Int)=(((M.labels.length+1) * ls.length:Nat):Int):=by simp
 generalize hpg:(M.labels.length+1) * ls.length=pr at *
 generalize farM M hs ls=N at *
 generalize hu:lat hs ls=u at *
 generalize M.props=p at *
 generalize hl2:M.first.length=l2 at *
 generalize hl3:M.steps.length=l3 at *
 generalize hl1:M.labels.length=l1 at *
 have HL1:=hide hl1
 have HL2:=hide hl2
 have HL3:=hide hl3
 generalize hs.length=lh at *
 generalize ls.length=ll at *
 clear hl1 hl2 hl3 hM hb hpg hu h6
 unfold maxLen at hm1 hm2 hm3
 have hmb:∀ W,(Instr.makeSlice 23 (.int .i64 l1) (.int .i64 l1)).run Tryz.prog W=.ok (.slice (some ⟨W.heap.size,0,none⟩) l1 l1) (W.alloc (.cells (falses l1) 4)):=fun W=>make_bools l1 (by omega) W
 have hbm:=below_trans (below_new w (Obj.cells #[.int .i64 p,.slice a1 l1 c1,.slice a2 l2 c2,.slice a3 l3 c3] 59)) (below_new _ (Obj.cells #[.slice h1 lh k1,.slice h2 ll k2] 28))
 have hr1:=belowRow (below_new _ (Obj.cells #[.slice h1 lh k1,.slice h2 ll k2] 28)) (one_new w (Obj.cells #[.int .i64 p,.slice a1 l1 c1,.slice a2 l2 c2,.slice a3 l3 c3] 59))
 have hr2:=one_new (w.alloc (Obj.cells #[.int .i64 p,.slice a1 l1 c1,.slice a2 l2 c2,.slice a3 l3 c3] 59)) (Obj.cells #[.slice h1 lh k1,.slice h2 ll k2] 28)
 rw [show (w.alloc (Obj.cells #[.int .i64 p,.slice a1 l1 c1,.slice a2 l2 c2,.slice a3 l3 c3] 59)).heap.size=w.heap.size+1 by simp] at hr2
 have HW0:=hide (show GoW w (Obj.cells #[.int .i64 p,.slice a1 l1 c1,.slice a2 l2 c2,.slice a3 l3 c3] 59) (Obj.cells #[.slice h1 lh k1,.slice h2 ll k2] 28) ((w.alloc (Obj.cells #[.int .i64 p,.slice a1 l1 c1,.slice a2 l2 c2,.slice a3 l3 c3] 59)).alloc (Obj.cells #[.slice h1 lh k1,.slice h2 ll k2] 28)) from ⟨hbm,hr1,hr2⟩)
 have q1:=cell_of_row _ _ 1 _ _ _ hr1
 clear hbm hr1 hr2
 go_enter Tryz.func35,Tryz.ntmps35
 go_wp2_with (fail)
 have hz:((w.alloc (Obj.cells #[.int .i64 p,.slice a1 l1 c1,.slice a2 l2 c2,.slice a3 l3 c3] 59)).alloc (Obj.cells #[.slice h1 lh k1,.slice h2 ll k2] 28)).heap.size=w.heap.size+1+1:=by simp
 have hbr:=BR.new (one_new ((w.alloc (Obj.cells #[.int .i64 p,.slice a1 l1 c1,.slice a2 l2 c2,.slice a3 l3 c3] 59)).alloc (Obj.cells #[.slice h1 lh k1,.slice h2 ll k2] 28)) (Obj.cells (falses l1) 4))
 rw [hz] at hbr
 have HB1:=hide hbr
 have HW1:=hide (HW0.out.below (below_new _ (Obj.cells (falses l1) 4)))
 generalize ((w.alloc (Obj.cells #[.int .i64 p,.slice a1 l1 c1,.slice a2 l2 c2,.slice a3 l3 c3] 59)).alloc (Obj.cells #[.slice h1 lh k1,.slice h2 ll k2] 28)).alloc (Obj.cells (falses l1) 4)=W1 at *
 clear HW0 q1 hz hbr
 subst hfar
 go_loopw [7] (fun s7 wr=>∃ i:Nat,i≤l2∧s7=.int .i64 i∧Hid (GoW w (Obj.cells #[.int .i64 p,.slice a1 l1 c1,.slice a2 l2 c2,.slice a3 l3 c3] 59) (Obj.cells #[.slice h1 lh k1,.slice h2 ll k2] 28) wr)∧Hid (BR wr (w.heap.size+1+1) l1 (fun q=>(M.first.take i).any fun x=>decide (x=(q:Int))))) (fun s7 _=>l2 - (intOf s7).toNat)
 case atStart=>exact ⟨0,by omega,rfl,HW1,hide (HB1.out.congr fun i _=>by simp)⟩
 case round =>
  obtain ⟨i,hi,rfl,HW,HBR⟩:=hrel
  have q2:=cell_of_row _ _ 2 _ _ _ HW.out.m
  by_cases hlt:i < l2
  ·obtain ⟨a',c',e3,-,hrows,-⟩:=HF.out.below HW.out.bl
   injection e3 with e1 e2 e4
   subst e1
   subst e4
   obtain ⟨b',off,rfl,hcell⟩:∃ b' off,a2=some ⟨b',off,none⟩∧∀ i,i < M.first.length→wr.cell? ⟨b',off+i,none⟩=some (.int .i64 (M.first.getD i 0)):=by
    rcases hrows with h | h
    ·have:=HL2.out;rw [h] at this;simp at this;omega
    ·exact h
   have d0:=hcell i (by rw [HL2.out];exact hlt)
   have hx:=HM.out.first (M.first.getD i 0) (getD_mem (by rw [HL2.out];exact hlt))
   rw [HL1.out] at hx
   obtain ⟨x,hxe⟩:=Int.eq_ofNat_of_zero_le hx.1
   have HNx:=hide (fun q:Nat=>anyI_take M.first i q (by rw [HL2.out];exact hlt) hxe)
   rw [hxe] at d0 hx
   have hxl:x < l1:=by omega
   have d1:=HBR.out.cell x hxl
   have z1:=HBR.out.soft x
   have HW2:=hide (HW.out.set (g:=w.heap.size+1+1) (by omega) x (.bool true))
   have HB2:=hide (HBR.out.set x hxl)
   generalize (M.first.take i).any (fun y=>decide (y=(x:Int)))=bx at *
   clear hcell hrows e2 hx hxe HBR HW
   go_wp2_with (fail)
   go_roundw
   case rel=>exact ⟨i+1,by omega,by go_num,HW2,hide (HB2.out.congr fun q _=>(HNx.out q).symm)⟩
   case measure=>simp [intOf];omega
  ·have HBn:Hid (BR wr (w.heap.size+1+1) l1 (nowF M u 0)):=hide (HBR.out.congr fun q _=>by
    rw [List.take_of_length_le (by rw [HL2.out];omega)]
    rfl)
   clear HBR
   go_wp2_with (fail)
   clear q2
   go_loopw [6,8] (fun s6 s8 w2=>∃ t g:Nat,t≤lh+pr∧s8=.int .i64 t∧s6=.slice (some ⟨g,0,none⟩) l1 l1∧w.heap.size+1 < g∧Hid (GoW w (Obj.cells #[.int .i64 p,.slice a1 l1 c1,.slice a2 l2 c2,.slice a3 l3 c3] 59) (Obj.cells #[.slice h1 lh k1,.slice h2 ll k2] 28) w2)∧Hid (BR w2 g l1 (nowF M u t))∧Hid (∀ t',t' < t→hereF M u t' l1=true)) (fun _ s8 _=>lh+pr - (intOf s8).toNat)
   case atStart=>exact ⟨0,w.heap.size+1+1,by omega,rfl,rfl,by omega,HW,HBn,hide (fun t' h=>absurd h (Nat.not_lt_zero _))⟩
   case round =>
    obtain ⟨t,g,ht,rfl,rfl,hg,HW,HBR,HH⟩:=hrel
    have r0:=cell_of_row _ _ 0 _ _ _ HW.out.l
    have r1:=cell_of_row _ _ 1 _ _ _ HW.out.l
    by_cases hlt:t < lh+pr
    ·have hb2:=BR.new (one_new wr (Obj.cells (falses l1) 4))
     have HB2:=hide hb2
     have HW2:=hide (HW.out.below (below_new wr (Obj.cells (falses l1) 4)))
     have HBR2:=hide (HBR.out.old (below_new wr (Obj.cells (falses l1) 4)))
     have hgl:=HBR.out.lt
     clear hb2
     go_wp2_with (fail)
     generalize hW2:wr.alloc (Obj.cells (falses l1) 4)=W2 at *
     generalize wr.heap.size=g2 at *
     clear HW HBR hW2 r0 r1 HBn
     go_loopw [10,11] (fun s10 s11 w3=>∃ i:Nat,i≤l1∧s11=.int .i64 i∧s10=.bool (hereF M u t i)∧Hid (GoW w (Obj.cells #[.int .i64 p,.slice a1 l1 c1,.slice a2 l2 c2,.slice a3 l3 c3] 59) (Obj.cells #[.slice h1 lh k1,.slice h2 ll k2] 28) w3)∧Hid (BR w3 g l1 (nowF M u t))∧Hid (BR w3 g2 l1 (nextF M u t i))) (fun _ s11 _=>l1 - (intOf s11).toNat)
     case atStart=>exact ⟨0,by omega,rfl,rfl,HW2,HBR2,hide (HB2.out.congr fun q _=>rfl)⟩
     case round =>
      obtain ⟨i,hi,rfl,rfl,HW,HBR,HBN⟩:=hrel
      clear HW2 HBR2 HB2
      by_cases hilt:i < l1
      ·have HHn:=hide (hereF_next M u t i)
       have HNn:=hide (nextF_next M u t i)
       generalize hereF M u t i=hf at *
       cases hnow:nowF M u t i with
       | false =>
        have HA:Hid (atF M u t i=false):=hide (by unfold atF;rw [hnow];rfl)
        go_wp2_with (fail)
        rename_i hK
        refine wpIn_wide.1 (region_phases (lr:=none) (n:=0) [(0,53),(1,54),(2,55),(3,56),(4,57),(5,58),(6,59),(7,60),(8,61),(9,62),(10,63),(11,64),(12,65),(13,66),(14,67),(15,68)] (fun _ W=>Below wr.heap.size wr W) (fun j v _=>match j with | 0=>v=.slice (some ⟨g,0,none⟩) l1 l1 | 1=>v=.int .i64 (i:Nat) | 2=>v=.pointer (some ⟨g,i,none⟩) | 3=>v=.bool false | 4=>v=.bool true | 5=>v=.bool true | 15=>v=.bool true | _=>True) (by kernel_rfl) (by kernel_rfl) (by kernel_rfl) false ?hgd ?hsk [15] [] rfl ?hxo (by simp) (by kernel_rfl) ?h0 ?hpure ?hspec ?hend)
        case hgd =>
         intro i' o j b ho e
         match i',ho with
         | 0,ho=>obtain rfl:=Option.some.inj ho;cases e
         | 1,ho=>obtain rfl:=Option.some.inj ho;cases e
         | 2,ho=>obtain rfl:=Option.some.inj ho;cases e
         | 3,ho=>obtain rfl:=Option.some.inj ho;cases e
         | 4,ho=>obtain rfl:=Option.some.inj ho;cases e
         | 5,ho=>obtain rfl:=Option.some.inj ho;cases e
         | 15,ho=>obtain rfl:=Option.some.inj ho;cases e
         | 6,ho=>exact ⟨⟨58,by obtain rfl:=Option.some.inj ho;cases e;kernel_rfl⟩,fun v w h=>by obtain rfl:=Option.some.inj ho;cases e;exact h⟩
         | 7,ho=>exact ⟨⟨58,by obtain rfl:=Option.some.inj ho;cases e;kernel_rfl⟩,fun v w h=>by obtain rfl:=Option.some.inj ho;cases e;exact h⟩
         | 8,ho=>exact ⟨⟨58,by obtain rfl:=Option.some.inj ho;cases e;kernel_rfl⟩,fun v w h=>by obtain rfl:=Option.some.inj ho;cases e;exact h⟩
         | 9,ho=>exact ⟨⟨58,by obtain rfl:=Option.some.inj ho;cases e;kernel_rfl⟩,fun v w h=>by obtain rfl:=Option.some.inj ho;cases e;exact h⟩
         | 10,ho=>exact ⟨⟨58,by obtain rfl:=Option.some.inj ho;cases e;kernel_rfl⟩,fun v w h=>by obtain rfl:=Option.some.inj ho;cases e;exact h⟩
         | 11,ho=>exact ⟨⟨58,by obtain rfl:=Option.some.inj ho;cases e;kernel_rfl⟩,fun v w h=>by obtain rfl:=Option.some.inj ho;cases e;exact h⟩
         | 12,ho=>exact ⟨⟨58,by obtain rfl:=Option.some.inj ho;cases e;kernel_rfl⟩,fun v w h=>by obtain rfl:=Option.some.inj ho;cases e;exact h⟩
         | 13,ho=>exact ⟨⟨58,by obtain rfl:=Option.some.inj ho;cases e;kernel_rfl⟩,fun v w h=>by obtain rfl:=Option.some.inj ho;cases e;exact h⟩
         | 14,ho=>exact ⟨⟨58,by obtain rfl:=Option.some.inj ho;cases e;kernel_rfl⟩,fun v w h=>by obtain rfl:=Option.some.inj ho;cases e;exact h⟩
         | i'+16,ho=>exact absurd ho (by simp)
        case hsk =>
         intro _ i' o gd ho e W
         match i',ho with
         | 0,ho=>obtain rfl:=Option.some.inj ho;cases e
         | 1,ho=>obtain rfl:=Option.some.inj ho;cases e
         | 2,ho=>obtain rfl:=Option.some.inj ho;cases e
         | 3,ho=>obtain rfl:=Option.some.inj ho;cases e
         | 4,ho=>obtain rfl:=Option.some.inj ho;cases e
         | 5,ho=>obtain rfl:=Option.some.inj ho;cases e
         | 15,ho=>obtain rfl:=Option.some.inj ho;cases e
         | 6,_=>trivial
         | 7,_=>trivial
         | 8,_=>trivial
         | 9,_=>trivial
         | 10,_=>trivial
         | 11,_=>trivial
         | 12,_=>trivial
         | 13,_=>trivial
         | 14,_=>trivial
         | i'+16,ho=>exact absurd ho (by simp)
        case h0=>exact ⟨rfl,rfl,rfl,Nat.le_refl _,fun _ _=>rfl⟩
        case hxo=>intro x hx;simp at hx;subst hx;exact ⟨by decide,Or.inr ⟨_,rfl,rfl⟩⟩
        case hpure =>
         intro i' o ho hni hw kk hkk hn hr a W vs hV he hd
         have hil:(0:Int)≤(i:Nat)∧((i:Nat):Int) < l1:=by omega
         match i',ho,hni with
         | 0,ho,_ =>
          obtain rfl:=Option.some.inj ho
          have f6:a.tmps[6]?.getD undef=.slice (some ⟨g,0,none⟩) l1 l1:=free_val he 6 (by kernel_rfl)
          exact Goes.value (v:=.slice (some ⟨g,0,none⟩) l1 l1) (w':=W) (by simp [execOp,go_sem,f6]) ⟨hV,rfl,fun _ _ _ _ h=>h⟩
         | 1,ho,_ =>
          obtain rfl:=Option.some.inj ho
          have f11:a.tmps[11]?.getD undef=.int .i64 (i:Nat):=free_val he 11 (by kernel_rfl)
          exact Goes.value (v:=.int .i64 (i:Nat)) (w':=W) (by simp [execOp,go_sem,f11]) ⟨hV,rfl,fun _ _ _ _ h=>h⟩
         | 2,ho,_ =>
          obtain rfl:=Option.some.inj ho
          have e0:a.tmps[53]?.getD undef=.slice (some ⟨g,0,none⟩) l1 l1:=(eval_tmp a 53).symm.trans (((hd 0 (by kernel_rfl)).2 53 (by kernel_rfl)).trans (hd 0 (by kernel_rfl)).1)
          have e1:a.tmps[54]?.getD undef=.int .i64 (i:Nat):=(eval_tmp a 54).symm.trans (((hd 1 (by kernel_rfl)).2 54 (by kernel_rfl)).trans (hd 1 (by kernel_rfl)).1)
          exact Goes.value (v:=.pointer (some ⟨g,i,none⟩)) (w':=W) (by simp [execOp,go_sem,e0,e1,hil]) ⟨hV,rfl,fun _ _ _ _ h=>h⟩
         | 3,ho,_ =>
          obtain rfl:=Option.some.inj ho
          have e2:a.tmps[55]?.getD undef=.pointer (some ⟨g,i,none⟩):=(eval_tmp a 55).symm.trans (((hd 2 (by kernel_rfl)).2 55 (by kernel_rfl)).trans (hd 2 (by kernel_rfl)).1)
          have d0:=(HBR.out.old hV).cell i hilt
          rw [hnow] at d0
          exact Goes.value (v:=.bool false) (w':=W) (by simp [execOp,go_sem,e2,d0]) ⟨hV,rfl,fun _ _ _ _ h=>h⟩
         | 4,ho,_ =>
          obtain rfl:=Option.some.inj ho
          have e3:a.tmps[56]?.getD undef=.bool false:=(eval_tmp a 56).symm.trans (((hd 3 (by kernel_rfl)).2 56 (by kernel_rfl)).trans (hd 3 (by kernel_rfl)).1)
          exact Goes.value (v:=.bool true) (w':=W) (by simp [execOp,go_sem,e3]) ⟨hV,rfl,fun _ _ _ _ h=>h⟩
         | 5,ho,_ =>
          obtain rfl:=Option.some.inj ho
          have e4:a.tmps[57]?.getD undef=.bool true:=(eval_tmp a 57).symm.trans (((hd 4 (by kernel_rfl)).2 57 (by kernel_rfl)).trans (hd 4 (by kernel_rfl)).1)
          exact Goes.value (v:=.bool true) (w':=W) (by simp [execOp,go_sem,e4]) ⟨hV,rfl,fun _ _ _ _ h=>h⟩
         | 6,ho,_=>obtain rfl:=Option.some.inj ho;rcases hw with hw | hw <;> cases hw
         | 7,ho,_=>obtain rfl:=Option.some.inj ho;rcases hw with hw | hw <;> cases hw
         | 8,ho,_=>obtain rfl:=Option.some.inj ho;rcases hw with hw | hw <;> cases hw
         | 9,ho,_=>obtain rfl:=Option.some.inj ho;rcases hw with hw | hw <;> cases hw
         | 10,ho,_=>obtain rfl:=Option.some.inj ho;rcases hw with hw | hw <;> cases hw
         | 11,ho,_=>obtain rfl:=Option.some.inj ho;rcases hw with hw | hw <;> cases hw
         | 12,ho,_=>obtain rfl:=Option.some.inj ho;rcases hw with hw | hw <;> cases hw
         | 13,ho,_=>obtain rfl:=Option.some.inj ho;rcases hw with hw | hw <;> cases hw
         | 14,ho,_=>obtain rfl:=Option.some.inj ho;rcases hw with hw | hw <;> cases hw
         | 15,_,h=>exact absurd (by simp) h
         | i'+16,ho,_=>exact absurd ho (by simp)
        case hspec =>
         intro kk o hkk ho a W vs hV he hd
         obtain rfl:kk=0:=by simp at hkk;omega
         obtain rfl:=Option.some.inj ho
         have e5:a.tmps[58]?.getD undef=.bool true:=(eval_tmp a 58).symm.trans (((hd 5 (by kernel_rfl)).2 58 (by kernel_rfl)).trans (hd 5 (by kernel_rfl)).1)
         exact Goes.value (v:=.bool true) (w':=W) (by simp [execOp,go_sem,e5]) ⟨hV,rfl,fun _ _ _ _ h=>h⟩
        case hend =>
         intro vs W5 hV hRR
         have g15:vs 15=.bool true:=hRR 15 (by decide)
         refine hK _ _ ?_
         simp only [putPairs,List.setIfInBounds_toArray,List.set_cons_succ,List.set_cons_zero]
         rw [g15]
         have HW5:=hide (HW.out.below hV)
         have HBR5:=hide (HBR.out.old hV)
         have HBN5:=hide (HBN.out.old hV)
         clear hRR g15 hV HW HBR HBN
         go_wp2_with (fail)
         go_roundw
         case rel=>exact ⟨i+1,by omega,by go_num,by rw [HHn.out,HA.out,Bool.or_false],HW5,HBR5,hide (HBN5.out.congr fun q _=>by rw [HNn.out,HA.out];simp)⟩
         case measure=>simp [intOf];omega
       | true =>
        obtain ⟨a',c',e3,-,hrows,-⟩:=HLs.out.below HW.out.bl
        injection e3 with e1 e2 e4
        subst e1
        subst e4
        obtain ⟨b',off,rfl,hcell⟩:∃ b' off,a1=some ⟨b',off,none⟩∧∀ i,i < M.labels.length→wr.cell? ⟨b',off+i,none⟩=some (.int .i64 (M.labels.getD i 0)):=by
         rcases hrows with h | h
         ·have:=HL1.out;rw [h] at this;simp at this;omega
         ·exact h
        have hd0:=hcell i (by rw [HL1.out];exact hilt)
        have HAt:Hid (atF M u t i=(nowF M u t i && decide (M.labels.getD i 0=u t))):=hide rfl
        generalize M.labels.getD i 0=x at *
        have Hd:=hide hd0
        clear hcell hrows e2 hd0
        go_wp2_with (fail)
        rename_i hK
        refine wpIn_wide.1 (region_phases (lr:=none) (n:=0) [(0,53),(1,54),(2,55),(3,56),(4,57),(5,58),(6,59),(7,60),(8,61),(9,62),(10,63),(11,64),(12,65),(13,66),(14,67),(15,68)] (fun _ W=>Below wr.heap.size wr W) (fun j v _=>match j with | 0=>v=.slice (some ⟨g,0,none⟩) l1 l1 | 1=>v=.int .i64 (i:Nat) | 2=>v=.pointer (some ⟨g,i,none⟩) | 3=>v=.bool true | 4=>v=.bool false | 5=>v=.bool false | 6=>v=.pointer (some ⟨w.heap.size,1,none⟩) | 7=>v=.slice (some ⟨b',off,none⟩) l1 c1 | 8=>v=.int .i64 (i:Nat) | 9=>v=.pointer (some ⟨b',off+i,none⟩) | 10=>v=.int .i64 x | 11=>v=.agg #[.slice h1 lh k1,.slice h2 ll k2] | 12=>v=.int .i64 (t:Nat) | 13=>v=.int .i64 (u t) | 14=>v=.bool (x != u t) | 15=>v=.bool (x != u t) | _=>True) (by kernel_rfl) (by kernel_rfl) (by kernel_rfl) true ?hgd ?hsk [15] [] rfl ?hxo (by simp) (by kernel_rfl) ?h0 ?hpure ?hspec ?hend)
        case hgd =>
         intro i' o j b ho e
         match i',ho with
         | 0,ho=>obtain rfl:=Option.some.inj ho;cases e
         | 1,ho=>obtain rfl:=Option.some.inj ho;cases e
         | 2,ho=>obtain rfl:=Option.some.inj ho;cases e
         | 3,ho=>obtain rfl:=Option.some.inj ho;cases e
         | 4,ho=>obtain rfl:=Option.some.inj ho;cases e
         | 5,ho=>obtain rfl:=Option.some.inj ho;cases e
         | 15,ho=>obtain rfl:=Option.some.inj ho;cases e
         | 6,ho=>exact ⟨⟨58,by obtain rfl:=Option.some.inj ho;cases e;kernel_rfl⟩,fun v w h=>by obtain rfl:=Option.some.inj ho;cases e;exact h⟩
         | 7,ho=>exact ⟨⟨58,by obtain rfl:=Option.some.inj ho;cases e;kernel_rfl⟩,fun v w h=>by obtain rfl:=Option.some.inj ho;cases e;exact h⟩
         | 8,ho=>exact ⟨⟨58,by obtain rfl:=Option.some.inj ho;cases e;kernel_rfl⟩,fun v w h=>by obtain rfl:=Option.some.inj ho;cases e;exact h⟩
         | 9,ho=>exact ⟨⟨58,by obtain rfl:=Option.some.inj ho;cases e;kernel_rfl⟩,fun v w h=>by obtain rfl:=Option.some.inj ho;cases e;exact h⟩
         | 10,ho=>exact ⟨⟨58,by obtain rfl:=Option.some.inj ho;cases e;kernel_rfl⟩,fun v w h=>by obtain rfl:=Option.some.inj ho;cases e;exact h⟩
         | 11,ho=>exact ⟨⟨58,by obtain rfl:=Option.some.inj ho;cases e;kernel_rfl⟩,fun v w h=>by obtain rfl:=Option.some.inj ho;cases e;exact h⟩
         | 12,ho=>exact ⟨⟨58,by obtain rfl:=Option.some.inj ho;cases e;kernel_rfl⟩,fun v w h=>by obtain rfl:=Option.some.inj ho;cases e;exact h⟩
         | 13,ho=>exact ⟨⟨58,by obtain rfl:=Option.some.inj ho;cases e;kernel_rfl⟩,fun v w h=>by obtain rfl:=Option.some.inj ho;cases e;exact h⟩
         | 14,ho=>exact ⟨⟨58,by obtain rfl:=Option.some.inj ho;cases e;kernel_rfl⟩,fun v w h=>by obtain rfl:=Option.some.inj ho;cases e;exact h⟩
         | i'+16,ho=>exact absurd ho (by simp)
        case hsk=>intro e;cases e
        case h0=>exact ⟨rfl,rfl,rfl,Nat.le_refl _,fun _ _=>rfl⟩
        case hxo=>intro x hx;simp at hx;subst hx;exact ⟨by decide,Or.inl rfl⟩
        case hpure =>
         intro i' o ho hni hw kk hkk hn hr a W vs hV he hd
         have hil:(0:Int)≤(i:Nat)∧((i:Nat):Int) < l1:=by omega
         match i',ho,hni with
         | 0,ho,_ =>
          obtain rfl:=Option.some.inj ho
          have f6:a.tmps[6]?.getD undef=.slice (some ⟨g,0,none⟩) l1 l1:=free_val he 6 (by kernel_rfl)
          exact Goes.value (v:=.slice (some ⟨g,0,none⟩) l1 l1) (w':=W) (by simp [execOp,go_sem,f6]) ⟨hV,rfl,fun _ _ _ _ h=>h⟩
         | 1,ho,_ =>
          obtain rfl:=Option.some.inj ho
          have f11:a.tmps[11]?.getD undef=.int .i64 (i:Nat):=free_val he 11 (by kernel_rfl)
          exact Goes.value (v:=.int .i64 (i:Nat)) (w':=W) (by simp [execOp,go_sem,f11]) ⟨hV,rfl,fun _ _ _ _ h=>h⟩
         | 2,ho,_ =>
          obtain rfl:=Option.some.inj ho
          have e0:a.tmps[53]?.getD undef=.slice (some ⟨g,0,none⟩) l1 l1:=(eval_tmp a 53).symm.trans (((hd 0 (by kernel_rfl)).2 53 (by kernel_rfl)).trans (hd 0 (by kernel_rfl)).1)
          have e1:a.tmps[54]?.getD undef=.int .i64 (i:Nat):=(eval_tmp a 54).symm.trans (((hd 1 (by kernel_rfl)).2 54 (by kernel_rfl)).trans (hd 1 (by kernel_rfl)).1)
          exact Goes.value (v:=.pointer (some ⟨g,i,none⟩)) (w':=W) (by simp [execOp,go_sem,e0,e1,hil]) ⟨hV,rfl,fun _ _ _ _ h=>h⟩
         | 3,ho,_ =>
          obtain rfl:=Option.some.inj ho
          have e2:a.tmps[55]?.getD undef=.pointer (some ⟨g,i,none⟩):=(eval_tmp a 55).symm.trans (((hd 2 (by kernel_rfl)).2 55 (by kernel_rfl)).trans (hd 2 (by kernel_rfl)).1)
          have d0:=(HBR.out.old hV).cell i hilt
          rw [hnow] at d0
          exact Goes.value (v:=.bool true) (w':=W) (by simp [execOp,go_sem,e2,d0]) ⟨hV,rfl,fun _ _ _ _ h=>h⟩
         | 4,ho,_ =>
          obtain rfl:=Option.some.inj ho
          have e3:a.tmps[56]?.getD undef=.bool true:=(eval_tmp a 56).symm.trans (((hd 3 (by kernel_rfl)).2 56 (by kernel_rfl)).trans (hd 3 (by kernel_rfl)).1)
          exact Goes.value (v:=.bool false) (w':=W) (by simp [execOp,go_sem,e3]) ⟨hV,rfl,fun _ _ _ _ h=>h⟩
         | 5,ho,_ =>
          obtain rfl:=Option.some.inj ho
          have e4:a.tmps[57]?.getD undef=.bool false:=(eval_tmp a 57).symm.trans (((hd 4 (by kernel_rfl)).2 57 (by kernel_rfl)).trans (hd 4 (by kernel_rfl)).1)
          exact Goes.value (v:=.bool false) (w':=W) (by simp [execOp,go_sem,e4]) ⟨hV,rfl,fun _ _ _ _ h=>h⟩
         | 6,ho,_ =>
          obtain rfl:=Option.some.inj ho
          have f2:a.tmps[2]?.getD undef=.pointer (some ⟨w.heap.size,0,none⟩):=free_val he 2 (by kernel_rfl)
          exact Goes.value (v:=.pointer (some ⟨w.heap.size,1,none⟩)) (w':=W) (by simp [execOp,go_sem,f2]) ⟨hV,rfl,fun _ _ _ _ h=>h⟩
         | 7,ho,_ =>
          obtain rfl:=Option.some.inj ho
          have e6:a.tmps[59]?.getD undef=.pointer (some ⟨w.heap.size,1,none⟩):=(eval_tmp a 59).symm.trans (((hd 6 (by kernel_rfl)).2 59 (by kernel_rfl)).trans (hd 6 (by kernel_rfl)).1)
          have q1:=cell_of_row _ _ 1 _ _ _ (HW.out.below hV).m
          exact Goes.value (v:=.slice (some ⟨b',off,none⟩) l1 c1) (w':=W) (by simp [execOp,go_sem,e6,q1]) ⟨hV,rfl,fun _ _ _ _ h=>h⟩
         | 8,ho,_ =>
          obtain rfl:=Option.some.inj ho
          have f11:a.tmps[11]?.getD undef=.int .i64 (i:Nat):=free_val he 11 (by kernel_rfl)
          exact Goes.value (v:=.int .i64 (i:Nat)) (w':=W) (by simp [execOp,go_sem,f11]) ⟨hV,rfl,fun _ _ _ _ h=>h⟩
         | 9,ho,_ =>
          obtain rfl:=Option.some.inj ho
          have e7:a.tmps[60]?.getD undef=.slice (some ⟨b',off,none⟩) l1 c1:=(eval_tmp a 60).symm.trans (((hd 7 (by kernel_rfl)).2 60 (by kernel_rfl)).trans (hd 7 (by kernel_rfl)).1)
          have e8:a.tmps[61]?.getD undef=.int .i64 (i:Nat):=(eval_tmp a 61).symm.trans (((hd 8 (by kernel_rfl)).2 61 (by kernel_rfl)).trans (hd 8 (by kernel_rfl)).1)
          exact Goes.value (v:=.pointer (some ⟨b',off+i,none⟩)) (w':=W) (by simp [execOp,go_sem,e7,e8,hil]) ⟨hV,rfl,fun _ _ _ _ h=>h⟩
         | 10,ho,_ =>
          obtain rfl:=Option.some.inj ho
          have e9:a.tmps[62]?.getD undef=.pointer (some ⟨b',off+i,none⟩):=(eval_tmp a 62).symm.trans (((hd 9 (by kernel_rfl)).2 62 (by kernel_rfl)).trans (hd 9 (by kernel_rfl)).1)
          have d1:=(hV.cell (p:=⟨b',off+i,none⟩) (World.block_lt_of_cell? wr _ Hd.out)).trans Hd.out
          exact Goes.value (v:=.int .i64 x) (w':=W) (by simp [execOp,go_sem,e9,d1]) ⟨hV,rfl,fun _ _ _ _ h=>h⟩
         | 11,ho,_ =>
          obtain rfl:=Option.some.inj ho
          have f3:a.tmps[3]?.getD undef=.pointer (some ⟨w.heap.size+1,0,none⟩):=free_val he 3 (by kernel_rfl)
          have q0:=cell_of_row _ _ 0 _ _ _ (HW.out.below hV).l
          have q1:=cell_of_row _ _ 1 _ _ _ (HW.out.below hV).l
          exact Goes.value (v:=.agg #[.slice h1 lh k1,.slice h2 ll k2]) (w':=W) (by simp [execOp,go_sem,f3,q0,q1]) ⟨hV,rfl,fun _ _ _ _ h=>h⟩
         | 12,ho,_ =>
          obtain rfl:=Option.some.inj ho
          have f8:a.tmps[8]?.getD undef=.int .i64 (t:Nat):=free_val he 8 (by kernel_rfl)
          exact Goes.value (v:=.int .i64 (t:Nat)) (w':=W) (by simp [execOp,go_sem,f8]) ⟨hV,rfl,fun _ _ _ _ h=>h⟩
         | 13,ho,_ =>
          obtain rfl:=Option.some.inj ho
          have e11:a.tmps[64]?.getD undef=.agg #[.slice h1 lh k1,.slice h2 ll k2]:=(eval_tmp a 64).symm.trans (((hd 11 (by kernel_rfl)).2 64 (by kernel_rfl)).trans (hd 11 (by kernel_rfl)).1)
          have e12:a.tmps[65]?.getD undef=.int .i64 (t:Nat):=(eval_tmp a 65).symm.trans (((hd 12 (by kernel_rfl)).2 65 (by kernel_rfl)).trans (hd 12 (by kernel_rfl)).1)
          refine Or.inr (Or.inl ⟨81,#[.agg #[.slice h1 lh k1,.slice h2 ll k2],.int .i64 (t:Nat)],by simp [execOp,go_sem,e11,e12],(HLet.out W (below_trans HW.out.bl hV) t (by omega)).mono ?_⟩)
          rintro e W' ⟨rfl,hb⟩
          exact ⟨_,rfl,below_trans hV hb,rfl,fun _ _ _ _ h=>h⟩
         | 14,ho,_ =>
          obtain rfl:=Option.some.inj ho
          have e10:a.tmps[63]?.getD undef=.int .i64 x:=(eval_tmp a 63).symm.trans (((hd 10 (by kernel_rfl)).2 63 (by kernel_rfl)).trans (hd 10 (by kernel_rfl)).1)
          have e13:a.tmps[66]?.getD undef=.int .i64 (u t):=(eval_tmp a 66).symm.trans (((hd 13 (by kernel_rfl)).2 66 (by kernel_rfl)).trans (hd 13 (by kernel_rfl)).1)
          exact Goes.value (v:=.bool (x != u t)) (w':=W) (by simp [execOp,go_sem,e10,e13]) ⟨hV,rfl,fun _ _ _ _ h=>h⟩
         | 15,_,h=>exact absurd (by simp) h
         | i'+16,ho,_=>exact absurd ho (by simp)
        case hspec =>
         intro kk o hkk ho a W vs hV he hd
         obtain rfl:kk=0:=by simp at hkk;omega
         obtain rfl:=Option.some.inj ho
         have e5:a.tmps[58]?.getD undef=.bool false:=(eval_tmp a 58).symm.trans (((hd 5 (by kernel_rfl)).2 58 (by kernel_rfl)).trans (hd 5 (by kernel_rfl)).1)
         have e14:a.tmps[67]?.getD undef=.bool (x != u t):=(eval_tmp a 67).symm.trans (((hd 14 (by kernel_rfl)).2 67 (by kernel_rfl)).trans (hd 14 (by kernel_rfl)).1)
         exact Goes.value (v:=.bool (x != u t)) (w':=W) (by simp [execOp,go_sem,e5,e14]) ⟨hV,rfl,fun _ _ _ _ h=>h⟩
        case hend =>
         intro vs W5 hV hRR
         have g15:vs 15=.bool (x != u t):=hRR 15 (by decide)
         refine hK _ _ ?_
         simp only [putPairs,List.setIfInBounds_toArray,List.set_cons_succ,List.set_cons_zero]
         rw [g15]
         have HW5:=hide (HW.out.below hV)
         have HBR5:=hide (HBR.out.old hV)
         have HBN5:=hide (HBN.out.old hV)
         clear hRR g15 hV HW HBR HBN Hd
         by_cases hxu:x=u t
         ·have bx:(x != u t)=false:=by simp [hxu]
          have HA:Hid (atF M u t i=true):=hide (HAt.out.trans (by rw [hnow,decide_eq_true hxu];rfl))
          rw [bx]
          clear hxu bx
          go_wp2_with (fail)
          go_loopw [12] (fun s12 w4=>∃ j:Nat,j≤(mRow M i).length∧s12=.int .i64 j∧Hid (GoW w (Obj.cells #[.int .i64 p,.slice (some ⟨b',off,none⟩) l1 c1,.slice a2 l2 c2,.slice a3 l3 c3] 59) (Obj.cells #[.slice h1 lh k1,.slice h2 ll k2] 28) w4)∧Hid (BR w4 g l1 (nowF M u t))∧Hid (BR w4 g2 l1 (fun q=>nextF M u t i q || ((mRow M i).take j).any fun y=>decide (y=(q:Int))))) (fun s12 _=>(mRow M i).length - (intOf s12).toNat)
          case atStart=>exact ⟨0,by omega,rfl,HW5,HBR5,hide (HBN5.out.congr fun q _=>by simp)⟩
          case round =>
           obtain ⟨j,hj,rfl,HW,HBR,HBN⟩:=hrel
           clear HW5 HBR5 HBN5
           have hi3:i < l3:=by rw [← HL3.out,HM.out.rows,HL1.out];exact hilt
           have q3:=cell_of_row _ _ 3 _ _ _ HW.out.m
           obtain ⟨a',c',e3,-,hrows⟩:=HR.out.below HW.out.bl
           injection e3 with e1 e2 e4
           subst e1
           subst e4
           obtain ⟨b3,off3,rfl,hcell⟩:∃ b3 off3,a3=some ⟨b3,off3,none⟩∧∀ i,i < M.steps.length→∃ rv,wr.cell? ⟨b3,off3+i,none⟩=some rv∧IntSl wr rv (M.steps.getD i []):=by
            rcases hrows with h | h
            ·have:=HL3.out;rw [h] at this;simp at this;omega
            ·exact h
           obtain ⟨rv,d3,hrv⟩:=hcell i (by rw [HL3.out];exact hi3)
           obtain ⟨ra,rc,rfl,hrm,hrc,-⟩:=hrv
           have HRow:=hide ((HM.out.row (q:=i) (by rw [HL1.out];exact hilt)).2)
           rw [HL1.out] at HRow
           change wr.cell? ⟨b3,off3+i,none⟩=some (.slice ra (mRow M i).length rc) at d3
           change mRow M i=[] ∨ ∃ b off,ra=some ⟨b,off,none⟩∧∀ k,k < (mRow M i).length→wr.cell? ⟨b,off+k,none⟩=some (.int .i64 ((mRow M i).getD k 0)) at hrc
           change (mRow M i).length≤maxLen at hrm
           generalize hrow:mRow M i=row at *
           unfold maxLen at hrm
           clear hcell hrows e2
           by_cases hjl:j < row.length
           ·obtain ⟨b4,off4,rfl,hcell⟩:∃ b off,ra=some ⟨b,off,none⟩∧∀ k,k < row.length→wr.cell? ⟨b,off+k,none⟩=some (.int .i64 (row.getD k 0)):=by
             rcases hrc with h | h
             ·rw [h] at hjl;simp at hjl
             ·exact h
            have d4:=hcell j hjl
            have hx:=HRow.out (row.getD j 0) (getD_mem hjl)
            obtain ⟨y,hye⟩:=Int.eq_ofNat_of_zero_le hx.1
            have HNx:=hide (fun q:Nat=>anyI_take row j q hjl hye)
            rw [hye] at d4 hx
            have hyl:y < l1:=by omega
            have d5:=HBN.out.cell y hyl
            have z5:=HBN.out.soft y
            have HW6:=hide (HW.out.set (g:=g2) (by omega) y (.bool true))
            have HBR6:=hide (HBR.out.far (g':=g2) y (.bool true) (by omega))
            have HBN6:=hide (HBN.out.set y hyl)
            generalize hrl:row.length=rl at *
            have HRL:=hide hrl
            generalize (nextF M u t i y || (row.take j).any fun z=>decide (z=(y:Int)))=by_ at *
            clear hcell hrc hx hye HBR HW HBN hrow hrl
            go_wp2_with (fail)
            go_roundw
            case rel=>exact ⟨j+1,by omega,by go_num,HW6,HBR6,hide (HBN6.out.congr fun q _=>by rw [HNx.out q,Bool.or_assoc])⟩
            case measure=>simp [intOf];omega
           ·have HBF:=hide (show BR wr g2 l1 (nextF M u t (i+1)) from HBN.out.congr fun q _=>by
             rw [HNn.out,HA.out,Bool.true_and,List.take_of_length_le (by omega)])
            clear HBN hrc HRow
            generalize row.length=rl at *
            clear hrow
            go_wp2_with (fail)
            go_roundw
            case rel=>exact ⟨i+1,by omega,by go_num,by rw [HHn.out,HA.out,Bool.or_true],HW,HBR,HBF⟩
            case measure=>simp [intOf];omega
         ·have bx:(x != u t)=true:=by simp [hxu]
          have HA:Hid (atF M u t i=false):=hide (HAt.out.trans (by rw [hnow,decide_eq_false hxu];rfl))
          rw [bx]
          clear hxu bx
          go_wp2_with (fail)
          go_roundw
          case rel=>exact ⟨i+1,by omega,by go_num,by rw [HHn.out,HA.out,Bool.or_false],HW5,HBR5,hide (HBN5.out.congr fun q _=>by rw [HNn.out,HA.out];simp)⟩
          case measure=>simp [intOf];omega
      ·have hil:i=l1:=by omega
       have HHl:Hid (hereF M u t l1=hereF M u t i):=hide (by rw [hil])
       have HBn:Hid (BR wr g2 l1 (nowF M u (t+1))):=hide (HBN.out.congr fun q _=>by
        rw [hil,← HL1.out]
        rfl)
       clear HBN hil
       generalize hereF M u t i=hf at *
       cases hf with
       | false =>
        have HX:Hid (b=false):=hide (by
         cases hbb:b with
         | false=>rfl
         | true =>
          have:=HB.out.1 hbb t hlt
          rw [HHl.out] at this
          cases this)
        go_wp2
        go_ret
        exact ⟨by rw [HX.out];rfl,HW.out.bl⟩
       | true =>
        have HH':Hid (∀ t',t' < t+1→hereF M u t' l1=true):=hide fun t' h=>by
         by_cases e:t'=t
         ·rw [e];exact HHl.out
         ·exact HH.out t' (by omega)
        clear HBR HH
        go_wp2
        go_roundw
        case rel=>exact ⟨t+1,g2,by omega,by go_num,rfl,by omega,HW,HBn,HH'⟩
        case measure=>simp [intOf];omega
    ·have htN:t=lh+pr:=by omega
     have HX:Hid (b=true):=hide (HB.out.2 fun t' h=>HH.out t' (by omega))
     clear htN
     go_wp2
     go_ret
     exact ⟨by rw [HX.out];rfl,HW.out.bl⟩
end Go.Proofs.YtpiacnnifdjlkabGreatDoor
