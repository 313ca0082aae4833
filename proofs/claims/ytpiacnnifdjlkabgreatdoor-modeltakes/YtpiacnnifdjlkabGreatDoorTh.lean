import Derived.Test.YtpiacnnifdjlkabGreatDoorTf
set_option maxRecDepth 100000
set_option maxHeartbeats 8000000
namespace Go.Proofs.YtpiacnnifdjlkabGreatDoor
open Go.RowKit Go.Sort
theorem lastL_lt {F:List Nd}{t:Nat} (h:t < (lastL F).length):(lastL F).getD t 0 < F.length:=by
 have h1:(lastL F).getD t 0 ∈ lastL F:=by simp [List.getD,h]
 exact ((lastN_mem F _ F.length).1 h1).1
theorem advL_step (ok:Nat→Bool) {L t:Nat} (h:t < L):advL ok (L - t) t=if ok t=true then advL ok (L - (t+1)) (t+1) else t:=by
 rw [show L - t=L - (t+1)+1 by omega]
 rfl
theorem tTurn {F:List Nd} (hF:RdOk F) (fv lv:Value) (X turn now:Nat) (w:World) (hv:NodeSl w fv F) (hl:IntSl w lv ((lastL F).map fun (i:Nat)=>(i:Int))) (ht:turn≤(lastL F).length) (hx:now < 65536) :
  Calls Tryz.prog 121 #[.agg #[fv,.int .u16 X,lv],.int .i64 turn,.int .u16 now] w fun e w'=>e=.returned (.int .i64 (turnL F turn now:Nat))∧Below w.heap.size w w':=by
 obtain ⟨fa,fc,rfl,hfm,hcell,-,-⟩:=hv
 obtain ⟨la,lc,rfl,hlm,hlcell,-,-⟩:=hl
 unfold maxLen at hfm hlm
 rw [List.length_map] at hlm
 have HLC:=hide hlcell
 have Hcell:=hide hcell
 have HN:=hide hF
 have HLt:=hide (fun t (h:t < (lastL F).length)=>lastL_lt h)
 have HT:=hide (show turnL F turn now=advL (okAt F now) ((lastL F).length - (if turn=(lastL F).length then 0 else turn)) (if turn=(lastL F).length then 0 else turn) from rfl)
 have HOk:=hide (show ∀ t,okAt F now t=(now.testBit ((lastL F).getD t 0) == now.testBit (bN F ((lastL F).getD t 0))) from fun t=>rfl)
 rw [List.length_map]
 generalize hLL:(lastL F).length=LL at *
 generalize hL:F.length=L at *
 have HL:=hide hL
 have HLL:=hide hLL
 clear hL hLL hF hcell hlcell
 have hbn:=below_new w (Obj.cells #[.slice fa L fc,.int .u16 X,.slice la LL lc] 107)
 have hon:=one_new w (Obj.cells #[.slice fa L fc,.int .u16 X,.slice la LL lc] 107)
 have HB0:=hide hbn
 have HX0:=hide hon
 have r2:=cell_of_row _ _ 2 _ _ _ hon
 clear hbn hon
 go_enter Tryz.func121,Tryz.ntmps121
 by_cases htl:turn=LL
 ·have htz:((turn:Int) == (LL:Int))=true:=by rw [htl];simp
  rw [if_pos htl] at HT
  go_wp2_with (fail)
  go_loopw [1] (fun s1 wr=>∃ t:Nat,s1=.int .i64 t∧t≤LL∧Hid (advL (okAt F now) (LL - t) t=turnL F turn now)∧Hid (Below w.heap.size w wr)∧Hid (wr.heap[w.heap.size]?=some (.cells #[.slice fa L fc,.int .u16 X,.slice la LL lc] 107))) (fun s1 _=>LL - (intOf s1).toNat)
  case atStart=>exact ⟨0,rfl,by omega,hide HT.out.symm,HB0,HX0⟩
  case round =>
   obtain ⟨t,rfl,ht2,HA,HB,HX⟩:=hrel
   clear r2
   have r2:=cell_of_row _ _ 2 _ _ _ HX.out
   by_cases htL:t < LL
   ·have htl2:t < (lastL F).length:=by rw [HLL.out];exact htL
    have hstep:=advL_step (okAt F now) htL
    rw [HOk.out,HA.out] at hstep
    have hi:=HLt.out t htL
    rcases HLC.out with hz | ⟨lb,lo,el,hlc⟩
    ·have:=congrArg List.length hz;rw [List.length_map,HLL.out] at this;simp at this;omega
    subst el
    have dl:=hlc t (by rw [List.length_map];exact htl2)
    rw [show ((lastL F).map fun (i:Nat)=>(i:Int)).getD t 0=(((lastL F).getD t 0:Nat):Int) by simp [List.getD,htl2]] at dl
    have dl:=(HB.out.cell (World.block_lt_of_cell? w _ dl)).trans dl
    generalize (lastL F).getD t 0=i at *
    have hil:i < F.length:=by rw [HL.out];exact hi
    rcases Hcell.out with hz | ⟨b5,o5,e5,hc⟩
    ·rw [hz] at hil;simp at hil
    subst e5
    obtain ⟨-,-,q2,-⟩:=hc i hi
    have d2:=(HB.out.cell (World.block_lt_of_cell? w _ q2)).trans q2
    obtain ⟨a0,a16,b0,b16,-⟩:=HN.out.num i hil
    have hf12:=HN.out.few
    rw [HL.out] at hf12
    unfold bN at hstep
    clear q2 hc hlc
    generalize (F.getD i nd0).b=xb at *
    obtain ⟨nb,rfl⟩:=Int.eq_ofNat_of_zero_le b0
    rw [Int.toNat_natCast] at hstep
    have hiL:(i:Int) < (L:Int):=by omega
    have HSt:=hide hstep
    clear hstep a0 a16 b0
    go_wp2_with (fail)
    rename_i Q' K hK
    refine wp_region_told [(0,23),(1,24),(2,25),(3,26),(4,27),(5,28),(6,29),(7,30),(8,31),(9,32),(10,33),(11,34)] (fun W=>Below wr.heap.size wr W) (fun j v _=>match j with | 0=>v=.int .u16 (now:Nat) | 1=>v=.int .i64 (i:Nat) | 2=>v=.bool (now.testBit i) | 3=>v=.int .u16 (now:Nat) | 4=>v=.pointer (some ⟨w.heap.size,0,none⟩) | 5=>v=.slice (some ⟨b5,o5,none⟩) L fc | 6=>v=.int .i64 (i:Nat) | 7=>v=.pointer (some ⟨b5,o5+i * 4,none⟩) | 8=>v=.pointer (some ⟨b5,o5+i * 4+2,none⟩) | 9=>v=.int .i64 (nb:Nat) | 10=>v=.bool (now.testBit nb) | 11=>v=.bool (now.testBit i != now.testBit nb) | _=>True) (by kernel_rfl) (by kernel_rfl) (by kernel_rfl) (Below.drew (Below.refl _ _)) ?_ ?_
    ·intro j o ho
     match j,ho with
     | 0,ho =>
      obtain rfl:=Option.some.inj ho
      refine stepOk_val fun a W vs hW he hd=>?_
      have e2:a.tmps[2]?.getD undef=.int .u16 (now:Nat):=free_val he 2 (by kernel_rfl)
      exact ⟨.int .u16 (now:Nat),by simp [execOp,go_sem,e2],rfl⟩
     | 1,ho =>
      obtain rfl:=Option.some.inj ho
      refine stepOk_val fun a W vs hW he hd=>?_
      have e7:a.tmps[7]?.getD undef=.int .i64 (i:Nat):=free_val he 7 (by kernel_rfl)
      exact ⟨.int .i64 (i:Nat),by simp [execOp,go_sem,e7],rfl⟩
     | 2,ho =>
      obtain rfl:=Option.some.inj ho
      refine stepOk_call fun a W vs hW he hd=>?_
      have v0:a.tmps[23]?.getD undef=.int .u16 (now:Nat):=(eval_tmp a 23).symm.trans (((hd 0 (by kernel_rfl)).2 23 (by kernel_rfl)).trans (hd 0 (by kernel_rfl)).1)
      have v1:a.tmps[24]?.getD undef=.int .i64 (i:Nat):=(eval_tmp a 24).symm.trans (((hd 1 (by kernel_rfl)).2 24 (by kernel_rfl)).trans (hd 1 (by kernel_rfl)).1)
      refine ⟨162,#[.int .u16 (now:Nat),.int .i64 (i:Nat)],by simp [execOp,go_sem,v0,v1],(tHas now i W hx (by omega)).mono ?_⟩
      rintro e W' ⟨rfl,rfl⟩
      exact ⟨_,rfl,hW,rfl,fun j x h=>h⟩
     | 3,ho =>
      obtain rfl:=Option.some.inj ho
      refine stepOk_val fun a W vs hW he hd=>?_
      have e2:a.tmps[2]?.getD undef=.int .u16 (now:Nat):=free_val he 2 (by kernel_rfl)
      exact ⟨.int .u16 (now:Nat),by simp [execOp,go_sem,e2],rfl⟩
     | 4,ho =>
      obtain rfl:=Option.some.inj ho
      refine stepOk_val fun a W vs hW he hd=>?_
      have e3:a.tmps[3]?.getD undef=.pointer (some ⟨w.heap.size,0,none⟩):=free_val he 3 (by kernel_rfl)
      exact ⟨.pointer (some ⟨w.heap.size,0,none⟩),by simp [execOp,go_sem,e3],rfl⟩
     | 5,ho =>
      obtain rfl:=Option.some.inj ho
      refine stepOk_val fun a W vs hW he hd=>?_
      have v4:a.tmps[27]?.getD undef=.pointer (some ⟨w.heap.size,0,none⟩):=(eval_tmp a 27).symm.trans (((hd 4 (by kernel_rfl)).2 27 (by kernel_rfl)).trans (hd 4 (by kernel_rfl)).1)
      have z0:=cell_of_row W _ 0 _ _ _ (belowRow hW HX.out)
      exact ⟨.slice (some ⟨b5,o5,none⟩) L fc,by simp [execOp,go_sem,v4,z0],rfl⟩
     | 6,ho =>
      obtain rfl:=Option.some.inj ho
      refine stepOk_val fun a W vs hW he hd=>?_
      have e7:a.tmps[7]?.getD undef=.int .i64 (i:Nat):=free_val he 7 (by kernel_rfl)
      exact ⟨.int .i64 (i:Nat),by simp [execOp,go_sem,e7],rfl⟩
     | 7,ho =>
      obtain rfl:=Option.some.inj ho
      refine stepOk_val fun a W vs hW he hd=>?_
      have v5:a.tmps[28]?.getD undef=.slice (some ⟨b5,o5,none⟩) L fc:=(eval_tmp a 28).symm.trans (((hd 5 (by kernel_rfl)).2 28 (by kernel_rfl)).trans (hd 5 (by kernel_rfl)).1)
      have v6:a.tmps[29]?.getD undef=.int .i64 (i:Nat):=(eval_tmp a 29).symm.trans (((hd 6 (by kernel_rfl)).2 29 (by kernel_rfl)).trans (hd 6 (by kernel_rfl)).1)
      exact ⟨.pointer (some ⟨b5,o5+i * 4,none⟩),by simp [execOp,go_sem,v5,v6,hiL],rfl⟩
     | 8,ho =>
      obtain rfl:=Option.some.inj ho
      refine stepOk_val fun a W vs hW he hd=>?_
      have v7:a.tmps[30]?.getD undef=.pointer (some ⟨b5,o5+i * 4,none⟩):=(eval_tmp a 30).symm.trans (((hd 7 (by kernel_rfl)).2 30 (by kernel_rfl)).trans (hd 7 (by kernel_rfl)).1)
      exact ⟨.pointer (some ⟨b5,o5+i * 4+2,none⟩),by simp [execOp,go_sem,v7],rfl⟩
     | 9,ho =>
      obtain rfl:=Option.some.inj ho
      refine stepOk_val fun a W vs hW he hd=>?_
      have v8:a.tmps[31]?.getD undef=.pointer (some ⟨b5,o5+i * 4+2,none⟩):=(eval_tmp a 31).symm.trans (((hd 8 (by kernel_rfl)).2 31 (by kernel_rfl)).trans (hd 8 (by kernel_rfl)).1)
      have z2:=cell_kept d2 hW
      exact ⟨.int .i64 (nb:Nat),by simp [execOp,go_sem,v8,z2],rfl⟩
     | 10,ho =>
      obtain rfl:=Option.some.inj ho
      refine stepOk_call fun a W vs hW he hd=>?_
      have v3:a.tmps[26]?.getD undef=.int .u16 (now:Nat):=(eval_tmp a 26).symm.trans (((hd 3 (by kernel_rfl)).2 26 (by kernel_rfl)).trans (hd 3 (by kernel_rfl)).1)
      have v9:a.tmps[32]?.getD undef=.int .i64 (nb:Nat):=(eval_tmp a 32).symm.trans (((hd 9 (by kernel_rfl)).2 32 (by kernel_rfl)).trans (hd 9 (by kernel_rfl)).1)
      refine ⟨162,#[.int .u16 (now:Nat),.int .i64 (nb:Nat)],by simp [execOp,go_sem,v3,v9],(tHas now nb W hx (by omega)).mono ?_⟩
      rintro e W' ⟨rfl,rfl⟩
      exact ⟨_,rfl,hW,rfl,fun j x h=>h⟩
     | 11,ho =>
      obtain rfl:=Option.some.inj ho
      refine stepOk_val fun a W vs hW he hd=>?_
      have v2:a.tmps[25]?.getD undef=.bool (now.testBit i):=(eval_tmp a 25).symm.trans (((hd 2 (by kernel_rfl)).2 25 (by kernel_rfl)).trans (hd 2 (by kernel_rfl)).1)
      have v10:a.tmps[33]?.getD undef=.bool (now.testBit nb):=(eval_tmp a 33).symm.trans (((hd 10 (by kernel_rfl)).2 33 (by kernel_rfl)).trans (hd 10 (by kernel_rfl)).1)
      exact ⟨.bool (now.testBit i != now.testBit nb),by simp [execOp,go_sem,v2,v10];cases now.testBit i <;> cases now.testBit nb <;> rfl,rfl⟩
     | j+12,ho=>simp at ho
    ·intro vs W hW hRR
     have h11:vs 11=.bool (now.testBit i != now.testBit nb):=hRR 11 (by decide)
     refine hK _ _ ?_
     simp only [putPairs,List.setIfInBounds_toArray,List.set_cons_succ,List.set_cons_zero]
     rw [h11]
     have HB3:=hide (below_trans HB.out hW)
     have HX3:=hide (belowRow hW HX.out)
     clear hW hRR h11 d2 dl r2
     generalize now.testBit i=p1 at *
     generalize now.testBit nb=p2 at *
     by_cases hp:p1=p2
     ·have hne:(p1 != p2)=false:=by rw [hp];simp
      have HAn:=hide (show advL (okAt F now) (LL - (t+1)) (t+1)=turnL F turn now from ((HSt.out).trans (if_pos (by rw [hp];simp))).symm)
      rw [hne]
      go_wp2_with (fail)
      go_roundw
      case rel=>exact ⟨t+1,by go_num,by omega,HAn,HB3,HX3⟩
      case measure=>simp [intOf];omega
     ·have hne:(p1 != p2)=true:=by simpa using hp
      have HAn:=hide (show turnL F turn now=t from (HSt.out).trans (if_neg (by simpa using hp)))
      rw [hne]
      go_wp2_with (fail)
      go_ret
      exact ⟨by rw [HAn.out];rfl,HB3.out⟩
   ·obtain rfl:t=LL:=by omega
    have HAn:=hide (show t=turnL F turn now by have:=HA.out;rwa [Nat.sub_self] at this)
    go_wp2_with (fail)
    go_ret
    exact ⟨by rw [← HAn.out];rfl,HB.out⟩
 ·have htz:((turn:Int) == (LL:Int))=false:=by rw [beq_eq_false_iff_ne];omega
  rw [if_neg htl] at HT
  go_wp2_with (fail)
  go_loopw [1] (fun s1 wr=>∃ t:Nat,s1=.int .i64 t∧t≤LL∧Hid (advL (okAt F now) (LL - t) t=turnL F turn now)∧Hid (Below w.heap.size w wr)∧Hid (wr.heap[w.heap.size]?=some (.cells #[.slice fa L fc,.int .u16 X,.slice la LL lc] 107))) (fun s1 _=>LL - (intOf s1).toNat)
  case atStart=>exact ⟨turn,rfl,by omega,hide HT.out.symm,HB0,HX0⟩
  case round =>
   obtain ⟨t,rfl,ht2,HA,HB,HX⟩:=hrel
   clear r2
   have r2:=cell_of_row _ _ 2 _ _ _ HX.out
   by_cases htL:t < LL
   ·have htl2:t < (lastL F).length:=by rw [HLL.out];exact htL
    have hstep:=advL_step (okAt F now) htL
    rw [HOk.out,HA.out] at hstep
    have hi:=HLt.out t htL
    rcases HLC.out with hz | ⟨lb,lo,el,hlc⟩
    ·have:=congrArg List.length hz;rw [List.length_map,HLL.out] at this;simp at this;omega
    subst el
    have dl:=hlc t (by rw [List.length_map];exact htl2)
    rw [show ((lastL F).map fun (i:Nat)=>(i:Int)).getD t 0=(((lastL F).getD t 0:Nat):Int) by simp [List.getD,htl2]] at dl
    have dl:=(HB.out.cell (World.block_lt_of_cell? w _ dl)).trans dl
    generalize (lastL F).getD t 0=i at *
    have hil:i < F.length:=by rw [HL.out];exact hi
    rcases Hcell.out with hz | ⟨b5,o5,e5,hc⟩
    ·rw [hz] at hil;simp at hil
    subst e5
    obtain ⟨-,-,q2,-⟩:=hc i hi
    have d2:=(HB.out.cell (World.block_lt_of_cell? w _ q2)).trans q2
    obtain ⟨a0,a16,b0,b16,-⟩:=HN.out.num i hil
    have hf12:=HN.out.few
    rw [HL.out] at hf12
    unfold bN at hstep
    clear q2 hc hlc
    generalize (F.getD i nd0).b=xb at *
    obtain ⟨nb,rfl⟩:=Int.eq_ofNat_of_zero_le b0
    rw [Int.toNat_natCast] at hstep
    have hiL:(i:Int) < (L:Int):=by omega
    have HSt:=hide hstep
    clear hstep a0 a16 b0
    go_wp2_with (fail)
    rename_i Q' K hK
    refine wp_region_told [(0,23),(1,24),(2,25),(3,26),(4,27),(5,28),(6,29),(7,30),(8,31),(9,32),(10,33),(11,34)] (fun W=>Below wr.heap.size wr W) (fun j v _=>match j with | 0=>v=.int .u16 (now:Nat) | 1=>v=.int .i64 (i:Nat) | 2=>v=.bool (now.testBit i) | 3=>v=.int .u16 (now:Nat) | 4=>v=.pointer (some ⟨w.heap.size,0,none⟩) | 5=>v=.slice (some ⟨b5,o5,none⟩) L fc | 6=>v=.int .i64 (i:Nat) | 7=>v=.pointer (some ⟨b5,o5+i * 4,none⟩) | 8=>v=.pointer (some ⟨b5,o5+i * 4+2,none⟩) | 9=>v=.int .i64 (nb:Nat) | 10=>v=.bool (now.testBit nb) | 11=>v=.bool (now.testBit i != now.testBit nb) | _=>True) (by kernel_rfl) (by kernel_rfl) (by kernel_rfl) (Below.drew (Below.refl _ _)) ?_ ?_
    ·intro j o ho
     match j,ho with
     | 0,ho =>
      obtain rfl:=Option.some.inj ho
      refine stepOk_val fun a W vs hW he hd=>?_
      have e2:a.tmps[2]?.getD undef=.int .u16 (now:Nat):=free_val he 2 (by kernel_rfl)
      exact ⟨.int .u16 (now:Nat),by simp [execOp,go_sem,e2],rfl⟩
     | 1,ho =>
      obtain rfl:=Option.some.inj ho
      refine stepOk_val fun a W vs hW he hd=>?_
      have e7:a.tmps[7]?.getD undef=.int .i64 (i:Nat):=free_val he 7 (by kernel_rfl)
      exact ⟨.int .i64 (i:Nat),by simp [execOp,go_sem,e7],rfl⟩
     | 2,ho =>
      obtain rfl:=Option.some.inj ho
      refine stepOk_call fun a W vs hW he hd=>?_
      have v0:a.tmps[23]?.getD undef=.int .u16 (now:Nat):=(eval_tmp a 23).symm.trans (((hd 0 (by kernel_rfl)).2 23 (by kernel_rfl)).trans (hd 0 (by kernel_rfl)).1)
      have v1:a.tmps[24]?.getD undef=.int .i64 (i:Nat):=(eval_tmp a 24).symm.trans (((hd 1 (by kernel_rfl)).2 24 (by kernel_rfl)).trans (hd 1 (by kernel_rfl)).1)
      refine ⟨162,#[.int .u16 (now:Nat),.int .i64 (i:Nat)],by simp [execOp,go_sem,v0,v1],(tHas now i W hx (by omega)).mono ?_⟩
      rintro e W' ⟨rfl,rfl⟩
      exact ⟨_,rfl,hW,rfl,fun j x h=>h⟩
     | 3,ho =>
      obtain rfl:=Option.some.inj ho
      refine stepOk_val fun a W vs hW he hd=>?_
      have e2:a.tmps[2]?.getD undef=.int .u16 (now:Nat):=free_val he 2 (by kernel_rfl)
      exact ⟨.int .u16 (now:Nat),by simp [execOp,go_sem,e2],rfl⟩
     | 4,ho =>
      obtain rfl:=Option.some.inj ho
      refine stepOk_val fun a W vs hW he hd=>?_
      have e3:a.tmps[3]?.getD undef=.pointer (some ⟨w.heap.size,0,none⟩):=free_val he 3 (by kernel_rfl)
      exact ⟨.pointer (some ⟨w.heap.size,0,none⟩),by simp [execOp,go_sem,e3],rfl⟩
     | 5,ho =>
      obtain rfl:=Option.some.inj ho
      refine stepOk_val fun a W vs hW he hd=>?_
      have v4:a.tmps[27]?.getD undef=.pointer (some ⟨w.heap.size,0,none⟩):=(eval_tmp a 27).symm.trans (((hd 4 (by kernel_rfl)).2 27 (by kernel_rfl)).trans (hd 4 (by kernel_rfl)).1)
      have z0:=cell_of_row W _ 0 _ _ _ (belowRow hW HX.out)
      exact ⟨.slice (some ⟨b5,o5,none⟩) L fc,by simp [execOp,go_sem,v4,z0],rfl⟩
     | 6,ho =>
      obtain rfl:=Option.some.inj ho
      refine stepOk_val fun a W vs hW he hd=>?_
      have e7:a.tmps[7]?.getD undef=.int .i64 (i:Nat):=free_val he 7 (by kernel_rfl)
      exact ⟨.int .i64 (i:Nat),by simp [execOp,go_sem,e7],rfl⟩
     | 7,ho =>
      obtain rfl:=Option.some.inj ho
      refine stepOk_val fun a W vs hW he hd=>?_
      have v5:a.tmps[28]?.getD undef=.slice (some ⟨b5,o5,none⟩) L fc:=(eval_tmp a 28).symm.trans (((hd 5 (by kernel_rfl)).2 28 (by kernel_rfl)).trans (hd 5 (by kernel_rfl)).1)
      have v6:a.tmps[29]?.getD undef=.int .i64 (i:Nat):=(eval_tmp a 29).symm.trans (((hd 6 (by kernel_rfl)).2 29 (by kernel_rfl)).trans (hd 6 (by kernel_rfl)).1)
      exact ⟨.pointer (some ⟨b5,o5+i * 4,none⟩),by simp [execOp,go_sem,v5,v6,hiL],rfl⟩
     | 8,ho =>
      obtain rfl:=Option.some.inj ho
      refine stepOk_val fun a W vs hW he hd=>?_
      have v7:a.tmps[30]?.getD undef=.pointer (some ⟨b5,o5+i * 4,none⟩):=(eval_tmp a 30).symm.trans (((hd 7 (by kernel_rfl)).2 30 (by kernel_rfl)).trans (hd 7 (by kernel_rfl)).1)
      exact ⟨.pointer (some ⟨b5,o5+i * 4+2,none⟩),by simp [execOp,go_sem,v7],rfl⟩
     | 9,ho =>
      obtain rfl:=Option.some.inj ho
      refine stepOk_val fun a W vs hW he hd=>?_
      have v8:a.tmps[31]?.getD undef=.pointer (some ⟨b5,o5+i * 4+2,none⟩):=(eval_tmp a 31).symm.trans (((hd 8 (by kernel_rfl)).2 31 (by kernel_rfl)).trans (hd 8 (by kernel_rfl)).1)
      have z2:=cell_kept d2 hW
      exact ⟨.int .i64 (nb:Nat),by simp [execOp,go_sem,v8,z2],rfl⟩
     | 10,ho =>
      obtain rfl:=Option.some.inj ho
      refine stepOk_call fun a W vs hW he hd=>?_
      have v3:a.tmps[26]?.getD undef=.int .u16 (now:Nat):=(eval_tmp a 26).symm.trans (((hd 3 (by kernel_rfl)).2 26 (by kernel_rfl)).trans (hd 3 (by kernel_rfl)).1)
      have v9:a.tmps[32]?.getD undef=.int .i64 (nb:Nat):=(eval_tmp a 32).symm.trans (((hd 9 (by kernel_rfl)).2 32 (by kernel_rfl)).trans (hd 9 (by kernel_rfl)).1)
      refine ⟨162,#[.int .u16 (now:Nat),.int .i64 (nb:Nat)],by simp [execOp,go_sem,v3,v9],(tHas now nb W hx (by omega)).mono ?_⟩
      rintro e W' ⟨rfl,rfl⟩
      exact ⟨_,rfl,hW,rfl,fun j x h=>h⟩
     | 11,ho =>
      obtain rfl:=Option.some.inj ho
      refine stepOk_val fun a W vs hW he hd=>?_
      have v2:a.tmps[25]?.getD undef=.bool (now.testBit i):=(eval_tmp a 25).symm.trans (((hd 2 (by kernel_rfl)).2 25 (by kernel_rfl)).trans (hd 2 (by kernel_rfl)).1)
      have v10:a.tmps[33]?.getD undef=.bool (now.testBit nb):=(eval_tmp a 33).symm.trans (((hd 10 (by kernel_rfl)).2 33 (by kernel_rfl)).trans (hd 10 (by kernel_rfl)).1)
      exact ⟨.bool (now.testBit i != now.testBit nb),by simp [execOp,go_sem,v2,v10];cases now.testBit i <;> cases now.testBit nb <;> rfl,rfl⟩
     | j+12,ho=>simp at ho
    ·intro vs W hW hRR
     have h11:vs 11=.bool (now.testBit i != now.testBit nb):=hRR 11 (by decide)
     refine hK _ _ ?_
     simp only [putPairs,List.setIfInBounds_toArray,List.set_cons_succ,List.set_cons_zero]
     rw [h11]
     have HB3:=hide (below_trans HB.out hW)
     have HX3:=hide (belowRow hW HX.out)
     clear hW hRR h11 d2 dl r2
     generalize now.testBit i=p1 at *
     generalize now.testBit nb=p2 at *
     by_cases hp:p1=p2
     ·have hne:(p1 != p2)=false:=by rw [hp];simp
      have HAn:=hide (show advL (okAt F now) (LL - (t+1)) (t+1)=turnL F turn now from ((HSt.out).trans (if_pos (by rw [hp];simp))).symm)
      rw [hne]
      go_wp2_with (fail)
      go_roundw
      case rel=>exact ⟨t+1,by go_num,by omega,HAn,HB3,HX3⟩
      case measure=>simp [intOf];omega
     ·have hne:(p1 != p2)=true:=by simpa using hp
      have HAn:=hide (show turnL F turn now=t from (HSt.out).trans (if_neg (by simpa using hp)))
      rw [hne]
      go_wp2_with (fail)
      go_ret
      exact ⟨by rw [HAn.out];rfl,HB3.out⟩
   ·obtain rfl:t=LL:=by omega
    have HAn:=hide (show t=turnL F turn now by have:=HA.out;rwa [Nat.sub_self] at this)
    go_wp2_with (fail)
    go_ret
    exact ⟨by rw [← HAn.out];rfl,HB.out⟩
theorem foreL_lt {F:List Nd} (hF:RdOk F):foreL F < 65536:=
 Nat.lt_of_lt_of_le (Nat.lt_pow_two_of_testBit _ (fun i hi=>by
  unfold foreL
  rw [foreN_test,decide_eq_false (by omega),Bool.false_and])) (Nat.pow_le_pow_right (n:=2) (by decide) (show F.length≤16 by have:=hF.few;omega))
def fitN (F:List Nd) (tl now i:Nat):Bool:=!(foreL F).testBit i || (tl.testBit i == now.testBit (partN F i))
theorem fits_all {F:List Nd}{tl tu now:Nat}:fitsL F (false,tl,tu) now=true ↔ ∀ j,j < F.length→fitN F tl now j=true:=by
 unfold fitsL
 rw [if_neg (by simp),List.all_eq_true]
 simp only [List.mem_range]
 rfl
theorem fits_not {F:List Nd}{tl tu now:Nat}{j:Nat} (hj:j < F.length) (h:fitN F tl now j=false):fitsL F (false,tl,tu) now=false:=by
 cases hf:fitsL F (false,tl,tu) now with
 | false=>rfl
 | true=>rw [fits_all.1 hf j hj] at h;cases h
theorem tFits {F:List Nd} (hF:RdOk F) (fv lv:Value) (bg:Bool) (tl tu now:Nat) (w:World) (hv:NodeSl w fv F) (hl1:∃ a l c,lv=.slice a l c) (htl:tl < 65536) (hx:now < 65536) :
  Calls Tryz.prog 120 #[.agg #[fv,.int .u16 (foreL F:Nat),lv],.agg #[.bool bg,.int .u16 tl,.int .i64 tu],.int .u16 now] w fun e w'=>e=.returned (.bool (fitsL F (bg,tl,tu) now))∧Below w.heap.size w w':=by
 obtain ⟨fa,fc,rfl,hfm,hcell,-,-⟩:=hv
 obtain ⟨l1,l2,l3,rfl⟩:=hl1
 unfold maxLen at hfm
 have hfo:=foreL_lt hF
 have HN:=hide hF
 have Hcell:=hide hcell
 have HAll:=hide (fun h=>(fits_all (F:=F) (tl:=tl) (tu:=tu) (now:=now)).2 h)
 have HNot:=hide (fun j hj h=>fits_not (F:=F) (tl:=tl) (tu:=tu) (now:=now) (j:=j) hj h)
 have HFN:=hide (show ∀ i,fitN F tl now i=(!(foreL F).testBit i || (tl.testBit i == now.testBit (partN F i))) from fun i=>rfl)
 have HBg:=hide (show fitsL F (true,tl,tu) now=now.testBit (F.length - 1) from rfl)
 have hf12:=hF.few
 have hne:=hF.ne
 generalize hL:F.length=L at *
 have HL:=hide hL
 clear hL hF hcell
 generalize foreL F=fo at *
 have HB0:=hide (below_trans (below_new w (Obj.cells #[.slice fa L fc,.int .u16 (fo:Nat),.slice l1 l2 l3] 107)) (below_new (w.alloc (Obj.cells #[.slice fa L fc,.int .u16 (fo:Nat),.slice l1 l2 l3] 107)) (Obj.cells #[.bool bg,.int .u16 tl,.int .i64 tu] 111)))
 have hr0:=belowRow (below_new (w.alloc (Obj.cells #[.slice fa L fc,.int .u16 (fo:Nat),.slice l1 l2 l3] 107)) (Obj.cells #[.bool bg,.int .u16 tl,.int .i64 tu] 111)) (one_new w (Obj.cells #[.slice fa L fc,.int .u16 (fo:Nat),.slice l1 l2 l3] 107))
 have hs0:=one_new (w.alloc (Obj.cells #[.slice fa L fc,.int .u16 (fo:Nat),.slice l1 l2 l3] 107)) (Obj.cells #[.bool bg,.int .u16 tl,.int .i64 tu] 111)
 rw [show (w.alloc (Obj.cells #[.slice fa L fc,.int .u16 (fo:Nat),.slice l1 l2 l3] 107)).heap.size=w.heap.size+1 by simp] at hs0
 have HXr0:=hide hr0
 have HXs0:=hide hs0
 clear hr0 hs0
 go_enter Tryz.func120,Tryz.ntmps120
 cases bg with
 | true =>
  have hsub:((L:Int) - 1).toNat=L - 1:=by omega
  have e1:(L:Int) - 1=((L - 1:Nat):Int):=by omega
  go_wp2_with (fail)
  go_fit (tHas now (L - 1) _ hx (by omega))
  rintro e W' ⟨rfl,rfl⟩
  go_wp2_with (fail)
  go_ret
  exact ⟨by rw [HBg.out];rfl,HB0.out⟩
 | false =>
  go_wp2_with (fail)
  go_loopw [21] (fun s21 wr=>∃ m:Nat,s21=.int .i64 m∧m≤L∧Hid (∀ j,j < m→fitN F tl now j=true)∧Hid (Below w.heap.size w wr)∧Hid (wr.heap[w.heap.size]?=some (.cells #[.slice fa L fc,.int .u16 (fo:Nat),.slice l1 l2 l3] 107))∧Hid (wr.heap[w.heap.size+1]?=some (.cells #[.bool false,.int .u16 tl,.int .i64 tu] 111))) (fun s21 _=>L - (intOf s21).toNat)
  case atStart=>exact ⟨0,rfl,Nat.zero_le _,hide (fun j hj=>absurd hj (Nat.not_lt_zero _)),HB0,HXr0,HXs0⟩
  case round =>
   clear HXr0 HXs0 HB0 HBg
   obtain ⟨m,rfl,hm,HA,HB,HXr,HXs⟩:=hrel
   by_cases hmL:m < L
   ·have hml:m < F.length:=by rw [HL.out];exact hmL
    rcases Hcell.out with hz | ⟨b5,o5,e5,hc⟩
    ·rw [hz] at hml;simp at hml
    subst e5
    obtain ⟨q0,q1,q2,q3⟩:=hc m hmL
    have d0:=(HB.out.cell (World.block_lt_of_cell? w _ q0)).trans q0
    have d1:=(HB.out.cell (World.block_lt_of_cell? w _ q1)).trans q1
    have d2:=(HB.out.cell (World.block_lt_of_cell? w _ q2)).trans q2
    have d3:=(HB.out.cell (World.block_lt_of_cell? w _ q3)).trans q3
    obtain ⟨a0,a16,b0,b16,-⟩:=HN.out.num m hml
    have HOne:=hide (HFN.out m)
    unfold partN kN aN at HOne
    have HNo:=hide (HNot.out m hmL)
    clear q0 q1 q2 q3 hc HFN
    generalize F.getD m nd0=x at *
    obtain ⟨k,xa,xb,xn⟩:=x
    dsimp only at *
    obtain ⟨na,rfl⟩:=Int.eq_ofNat_of_zero_le a0
    rw [Int.toNat_natCast] at HOne
    have hbx:=below_new wr (Obj.cells #[.int .i64 k,.int .i64 (na:Nat),.int .i64 xb,.int .i64 xn] 55)
    have HB2:=hide (below_trans HB.out hbx)
    have hr2:=belowRow hbx HXr.out
    have hs2:=belowRow hbx HXs.out
    have r1:=cell_of_row _ _ 1 _ _ _ hr2
    have s1:=cell_of_row _ _ 1 _ _ _ hs2
    have HXr2:=hide hr2
    have HXs2:=hide hs2
    clear hbx hr2 hs2
    by_cases k6:k=6
    ·rw [if_pos k6] at HOne
     subst k6
     go_wp2_with (fail)
     go_fit (tHas fo m _ hfo (by omega))
     rintro e W' ⟨rfl,rfl⟩
     cases hb:fo.testBit m with
     | false =>
      rw [hb] at HOne
      have HEq:=hide (show (!false || (tl.testBit m == now.testBit na))=true from rfl)
      clear hb
      go_wp2_with (fail)
      go_roundw
      case rel=>exact ⟨m+1,by go_num,by omega,hide (fun j hj=>by
       rcases Nat.lt_succ_iff_lt_or_eq.1 hj with h | h
       ·exact HA.out j h
       ·rw [h,HOne.out,HEq.out]),HB2,HXr2,HXs2⟩
      case measure=>simp [intOf];omega
     | true =>
      rw [hb] at HOne
      clear hb
      go_wp2_with (fail)
      go_fit (tHas tl m _ htl (by omega))
      rintro e W' ⟨rfl,rfl⟩
      go_wp2_with (fail)
      go_fit (tHas now na _ hx (by omega))
      rintro e W' ⟨rfl,rfl⟩
      generalize tl.testBit m=p1 at *
      generalize now.testBit na=p2 at *
      by_cases hp:p1=p2
      ·have hne:(p1 != p2)=false:=by rw [hp];simp
       have hn2:(!(p1 == p2))=false:=by rw [hp];simp
       have hn3:(p1 == p2)=true:=by rw [hp];simp
       have HEq:=hide (show (!true || (p1 == p2))=true by rw [hp];simp)
       go_wp2_with (fail)
       go_roundw
       case rel=>exact ⟨m+1,by go_num,by omega,hide (fun j hj=>by
        rcases Nat.lt_succ_iff_lt_or_eq.1 hj with h | h
        ·exact HA.out j h
        ·rw [h,HOne.out,HEq.out]),HB2,HXr2,HXs2⟩
       case measure=>simp [intOf];omega
      ·have hne:(p1 != p2)=true:=by simpa using hp
       have hn3:(p1 == p2)=false:=by simpa using hp
       have hn2:(!(p1 == p2))=true:=by rw [hn3];rfl
       have HEq:=hide (show (!true || (p1 == p2))=false by simpa using hp)
       go_wp2_with (fail)
       go_ret
       exact ⟨by rw [HNo.out (by rw [HOne.out,HEq.out])];rfl,HB2.out⟩
    ·have hk6:(k == 6)=false:=by simpa using k6
     rw [if_neg k6] at HOne
     go_wp2_with (fail)
     go_fit (tHas fo m _ hfo (by omega))
     rintro e W' ⟨rfl,rfl⟩
     cases hb:fo.testBit m with
     | false =>
      rw [hb] at HOne
      have HEq:=hide (show (!false || (tl.testBit m == now.testBit m))=true from rfl)
      clear hb
      go_wp2_with (fail)
      go_roundw
      case rel=>exact ⟨m+1,by go_num,by omega,hide (fun j hj=>by
       rcases Nat.lt_succ_iff_lt_or_eq.1 hj with h | h
       ·exact HA.out j h
       ·rw [h,HOne.out,HEq.out]),HB2,HXr2,HXs2⟩
      case measure=>simp [intOf];omega
     | true =>
      rw [hb] at HOne
      clear hb
      go_wp2_with (fail)
      go_fit (tHas tl m _ htl (by omega))
      rintro e W' ⟨rfl,rfl⟩
      go_wp2_with (fail)
      go_fit (tHas now m _ hx (by omega))
      rintro e W' ⟨rfl,rfl⟩
      generalize tl.testBit m=p1 at *
      generalize now.testBit m=p2 at *
      by_cases hp:p1=p2
      ·have hne:(p1 != p2)=false:=by rw [hp];simp
       have hn2:(!(p1 == p2))=false:=by rw [hp];simp
       have hn3:(p1 == p2)=true:=by rw [hp];simp
       have HEq:=hide (show (!true || (p1 == p2))=true by rw [hp];simp)
       go_wp2_with (fail)
       go_roundw
       case rel=>exact ⟨m+1,by go_num,by omega,hide (fun j hj=>by
        rcases Nat.lt_succ_iff_lt_or_eq.1 hj with h | h
        ·exact HA.out j h
        ·rw [h,HOne.out,HEq.out]),HB2,HXr2,HXs2⟩
       case measure=>simp [intOf];omega
      ·have hne:(p1 != p2)=true:=by simpa using hp
       have hn3:(p1 == p2)=false:=by simpa using hp
       have hn2:(!(p1 == p2))=true:=by rw [hn3];rfl
       have HEq:=hide (show (!true || (p1 == p2))=false by simpa using hp)
       go_wp2_with (fail)
       go_ret
       exact ⟨by rw [HNo.out (by rw [HOne.out,HEq.out])];rfl,HB2.out⟩
   ·obtain rfl:m=L:=by omega
    go_wp2_with (fail)
    go_ret
    exact ⟨by rw [HAll.out HA.out];rfl,HB.out⟩
end Go.Proofs.YtpiacnnifdjlkabGreatDoor
