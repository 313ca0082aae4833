import Derived.Test.YtpiacnnifdjlkabGreatDoorEc
import Derived.Test.YtpiacnnifdjlkabGreatDoorEg
import Derived.Test.YtpiacnnifdjlkabGreatDoorCx
import Derived.Deep.DeepFit
set_option maxRecDepth 100000
set_option maxHeartbeats 8000000
namespace Go.Proofs.YtpiacnnifdjlkabGreatDoor
open Go.RowKit Go.Sort
theorem wrap_u16 (x:Int):IntKind.u16.wrap x=x % 65536:=by
 simp [IntKind.wrap,IntKind.bits,IntKind.signed]
theorem bits_and_u16 (a b:Nat) (ha:a < 65536) (hb:b < 65536):bits .and .u16 (a:Int) (b:Int)=((a &&& b:Nat):Int):=by
 have hx:a &&& b < 2 ^ 16:=Nat.and_lt_two_pow _ (by omega)
 have h1:(BitVec.ofInt 16 (a:Int)).toNat=a:=by
  rw [BitVec.ofInt_natCast,BitVec.toNat_ofNat];exact Nat.mod_eq_of_lt (by omega)
 have h2:(BitVec.ofInt 16 (b:Int)).toNat=b:=by
  rw [BitVec.ofInt_natCast,BitVec.toNat_ofNat];exact Nat.mod_eq_of_lt (by omega)
 show IntKind.u16.wrap ((BitVec.ofInt 16 (a:Int) &&& BitVec.ofInt 16 (b:Int)).toNat:Int)=_
 rw [BitVec.toNat_and,h1,h2,wrap_u16]
 omega
theorem bits_or_u16 (a b:Nat) (ha:a < 65536) (hb:b < 65536):bits .or .u16 (a:Int) (b:Int)=((a ||| b:Nat):Int):=by
 have hx:a ||| b < 2 ^ 16:=Nat.or_lt_two_pow (by omega) (by omega)
 have h1:(BitVec.ofInt 16 (a:Int)).toNat=a:=by
  rw [BitVec.ofInt_natCast,BitVec.toNat_ofNat];exact Nat.mod_eq_of_lt (by omega)
 have h2:(BitVec.ofInt 16 (b:Int)).toNat=b:=by
  rw [BitVec.ofInt_natCast,BitVec.toNat_ofNat];exact Nat.mod_eq_of_lt (by omega)
 show IntKind.u16.wrap ((BitVec.ofInt 16 (a:Int) ||| BitVec.ofInt 16 (b:Int)).toNat:Int)=_
 rw [BitVec.toNat_or,h1,h2,wrap_u16]
 omega
theorem testBit_u16 (x k:Nat) (hx:x < 65536):(bits BinOp.and IntKind.u16 ((x:Int) / 2 ^ k) 1 != 0)=x.testBit k:=by
 have e1:(2:Int) ^ k=((2 ^ k:Nat):Int):=by simp
 have e:((x:Int) / 2 ^ k)=((x / 2 ^ k:Nat):Int):=by rw [e1];exact (Int.natCast_ediv x (2 ^ k)).symm
 have hle:x / 2 ^ k≤x:=Nat.div_le_self _ _
 rw [e,Nat.testBit_eq_decide_div_mod_eq]
 generalize x / 2 ^ k=y at *
 rw [show (1:Int)=((1:Nat):Int) from rfl,bits_and_u16 _ _ (by omega) (by omega),Nat.and_one_is_mod]
 rcases Nat.mod_two_eq_zero_or_one y with h | h <;> rw [h] <;> rfl
theorem orBit_u16 (x k:Nat) (hx:x < 65536) (hk:k < 16):bits BinOp.or IntKind.u16 (x:Int) (IntKind.u16.wrap (2 ^ k))=((addBit x k:Nat):Int):=by
 have e1:(2:Int) ^ k=((2 ^ k:Nat):Int):=by simp
 have hlt:2 ^ k < 2 ^ 16:=Nat.pow_lt_pow_right (by decide) hk
 have e2:IntKind.u16.wrap (2 ^ k)=((2 ^ k:Nat):Int):=by
  rw [wrap_u16,e1]
  generalize 2 ^ k=y at *
  omega
 rw [e2,bits_or_u16 x (2 ^ k) hx (by omega)]
 rfl
theorem tHas (s i:Nat) (w:World) (hs:s < 65536) (hi:i < 16) :
  Calls Tryz.prog 162 #[.int .u16 s,.int .i64 i] w fun e w'=>e=.returned (.bool (s.testBit i))∧w'=w:=by
 have Hr:=hide (testBit_u16 s i hs)
 have h0:0≤(i:Int):=by omega
 go_enter Tryz.func162,Tryz.ntmps162
 go_wp2
 go_ret
 exact ⟨by rw [← Hr.out];rfl,rfl⟩
theorem tWith (s i:Nat) (w:World) (hs:s < 65536) (hi:i < 16) :
  Calls Tryz.prog 113 #[.int .u16 s,.int .i64 i] w fun e w'=>e=.returned (.int .u16 (addBit s i:Nat))∧w'=w:=by
 have Hr:=hide (orBit_u16 s i hs hi)
 have h0:0≤(i:Int):=by omega
 go_enter Tryz.func113,Tryz.ntmps113
 go_wp2
 go_ret
 exact ⟨by rw [← Hr.out];rfl,rfl⟩
theorem bit_nat {c n:Int} (c0:0≤c):decide (c / 2 ^ n.toNat % 2=1)=c.toNat.testBit n.toNat:=by
 obtain ⟨x,rfl⟩:=Int.eq_ofNat_of_zero_le c0
 rw [Nat.testBit_eq_decide_div_mod_eq,Int.toNat_natCast]
 congr 1
 have e1:((x:Int) / 2 ^ n.toNat % 2=1) ↔ (((x / 2 ^ n.toNat % 2:Nat):Int)=((1:Nat):Int)):=by
  rw [Int.natCast_emod,Int.natCast_ediv,Int.natCast_pow];rfl
 rw [e1,Int.ofNat_inj]
theorem tHolds (k:Int) (a b:Nat) (n c:Int) (now:Nat) (nx:Bool) (w:World) (ha:a < 16) (hb:b < 16) (hn:k=2→0≤n∧n≤2) (c0:0≤c) (c7:c≤7) (hs:now < 65536) :
  Calls Tryz.prog 161 #[.agg #[.int .i64 k,.int .i64 a,.int .i64 b,.int .i64 n],.int .i64 c,.int .u16 now,.bool nx] w fun e w'=>e=.returned (.bool (nodeV ⟨k,a,b,n⟩ c (now.testBit a) (now.testBit b) nx))∧Below w.heap.size w w':=by
 have HC:=hide (fun (i:Nat) (hi:i < 16) W=>tHas now i W hs hi)
 have hbW:∀ q,Below w.heap.size w ((w.alloc (Obj.cells #[Value.int .i64 k,.int .i64 a,.int .i64 b,.int .i64 n] 55)).drewN q):=fun q=>below_drewN (by repeat (first | exact Below.refl _ _ | assumption | refine below_drewN ?_ _ | refine Below.drew ?_ | refine Below.alloc ?_ (by simp <;> omega) _ | refine below_trans ?_ (by assumption))) q
 have HV:=hide (show nodeV ⟨k,a,b,n⟩ c (now.testBit a) (now.testBit b) nx=if k=2 then c.toNat.testBit n.toNat else if k=3 then !now.testBit a else if k=4 then now.testBit a && now.testBit b else if k=5 then now.testBit a || now.testBit b else if k=6 then nx else if k=7 then now.testBit b || (now.testBit a && nx) else if k=8 then now.testBit b && (now.testBit a || nx) else true from rfl)
 generalize nodeV ⟨k,a,b,n⟩ c (now.testBit a) (now.testBit b) nx=val at *
 go_enter Tryz.func161,Tryz.ntmps161
 go_wp2_with (fail)
 refine wp_region_quiet_lit (by kernel_rfl) (by kernel_rfl) ?_
 (repeat (go_big_quiet_step (exact Calls.quiet_of_same (HC.out _ (by assumption) _))))
 refine wpQuiet_nil ?_
 intro _ hw';obtain ⟨nq,hw''⟩:=hw';subst hw''
 generalize now.testBit a=va at *
 generalize now.testBit b=vb at *
 have HbW:=hide hbW
 have Hn:=hide hn
 clear hbW hn HC
 by_cases h2:k=2
 ·subst h2
  obtain ⟨n0,n2⟩:=Hn.out rfl
  have HR:=hide ((bit_and c n c0 c7 n0 n2).trans (bit_nat c0))
  have HV2:=HV.out
  rw [if_pos rfl,← HR.out] at HV2
  subst HV2
  clear HV
  go_wp2
  go_ret
  exact ⟨rfl,HbW.out _⟩
 have b2:(k == 2)=false:=by simpa using h2
 have HV:=hide ((show val=_ from HV.out).trans (if_neg h2))
 clear h2 Hn
 by_cases h3:k=3
 ·subst h3
  have HV2:=HV.out
  rw [if_pos rfl] at HV2
  subst HV2
  clear HV
  go_wp2
  go_ret
  exact ⟨rfl,HbW.out _⟩
 have b3:(k == 3)=false:=by simpa using h3
 have HV:=hide ((show val=_ from HV.out).trans (if_neg h3))
 clear h3
 by_cases h4:k=4
 ·subst h4
  have HV2:=HV.out
  rw [if_pos rfl] at HV2
  subst HV2
  clear HV
  cases va
  all_goals
   go_wp2
   go_ret
   exact ⟨by simp,HbW.out _⟩
 have b4:(k == 4)=false:=by simpa using h4
 have HV:=hide ((show val=_ from HV.out).trans (if_neg h4))
 clear h4
 by_cases h5:k=5
 ·subst h5
  have HV2:=HV.out
  rw [if_pos rfl] at HV2
  subst HV2
  clear HV
  cases va
  all_goals
   go_wp2
   go_ret
   exact ⟨by simp,HbW.out _⟩
 have b5:(k == 5)=false:=by simpa using h5
 have HV:=hide ((show val=_ from HV.out).trans (if_neg h5))
 clear h5
 by_cases h6:k=6
 ·subst h6
  have HV2:=HV.out
  rw [if_pos rfl] at HV2
  subst HV2
  clear HV
  go_wp2
  go_ret
  exact ⟨rfl,HbW.out _⟩
 have b6:(k == 6)=false:=by simpa using h6
 have HV:=hide ((show val=_ from HV.out).trans (if_neg h6))
 clear h6
 by_cases h7:k=7
 ·subst h7
  have HV2:=HV.out
  rw [if_pos rfl] at HV2
  subst HV2
  clear HV
  cases vb <;> cases va
  all_goals
   go_wp2
   go_ret
   exact ⟨by simp,HbW.out _⟩
 have b7:(k == 7)=false:=by simpa using h7
 have HV:=hide ((show val=_ from HV.out).trans (if_neg h7))
 clear h7
 by_cases h8:k=8
 ·subst h8
  have HV2:=HV.out
  rw [if_pos rfl] at HV2
  subst HV2
  clear HV
  cases vb <;> cases va
  all_goals
   go_wp2
   go_ret
   exact ⟨by simp,HbW.out _⟩
 have b8:(k == 8)=false:=by simpa using h8
 have HV:=hide ((show val=_ from HV.out).trans (if_neg h8))
 clear h8
 have HV2:=HV.out
 subst HV2
 clear HV
 go_wp2
 go_ret
 exact ⟨rfl,HbW.out _⟩
structure RdOk (F:List Nd):Prop where
 ne:0 < F.length
 few:F.length≤12
 num:∀ i,i < F.length→0≤(F.getD i nd0).a∧(F.getD i nd0).a < 12∧0≤(F.getD i nd0).b∧(F.getD i nd0).b < 12∧((F.getD i nd0).k=2→0≤(F.getD i nd0).n∧(F.getD i nd0).n≤2)
theorem nowN_lt (F:List Nd) (c:Int) (next m:Nat) (hm:m≤16):nowN F c next m < 65536:=
 Nat.lt_of_lt_of_le (Nat.lt_pow_two_of_testBit _ (fun i hi=>nowN_high F c next i m hi)) (Nat.pow_le_pow_right (n:=2) (by decide) hm)
theorem tGood (fv:Value) (X:Nat) (la:Option Addr) (LL lc:Nat) (bg:Bool) (tl tu:Nat) (w:World) :
  Calls Tryz.prog 71 #[.agg #[fv,.int .u16 X,.slice la LL lc],.agg #[.bool bg,.int .u16 tl,.int .i64 tu]] w fun e w'=>e=.returned (.bool (decide (tu=LL)))∧Below w.heap.size w w':=by
 have HD:=hide (show ((tu:Int) == (LL:Int))=decide (tu=LL) by rw [Bool.eq_iff_iff];simp;omega)
 go_enter Tryz.func71,Tryz.ntmps71
 go_wp2
 go_ret
 exact ⟨by rw [← HD.out];rfl,(by repeat (first | exact Below.refl _ _ | assumption | refine below_drewN ?_ _ | refine Below.drew ?_ | refine Below.alloc ?_ (by simp <;> omega) _ | refine below_trans ?_ (by assumption)))⟩
theorem tNow {F:List Nd} (hF:RdOk F) (fv lv:Value) (X next:Nat) (c:Int) (w:World) (hv:NodeSl w fv F) (c0:0≤c) (c7:c≤7) (hx:next < 65536) :
  Calls Tryz.prog 119 #[.agg #[fv,.int .u16 X,lv],.int .i64 c,.int .u16 next] w fun e w'=>e=.returned (.int .u16 (nowL F c next:Nat))∧Below w.heap.size w w':=by
 obtain ⟨fa,fc,rfl,hfm,hcell,-,-⟩:=hv
 unfold maxLen at hfm
 have HN:=hide hF
 have HNow:=hide (show nowL F c next=nowN F c next F.length from rfl)
 have Hcell:=hide hcell
 generalize hL:F.length=L at *
 have HL:=hide hL
 clear hL hF hcell
 go_enter Tryz.func119,Tryz.ntmps119
 go_wp2_with (fail)
 go_loopw [7,13] (fun s7 s13 wr=>∃ m:Nat,s13=.int .i64 m∧m≤L∧s7=.int .u16 (nowN F c next m:Nat)∧Hid (Below w.heap.size w wr)) (fun _ s13 _=>L - (intOf s13).toNat)
 case atStart=>exact ⟨0,rfl,Nat.zero_le _,rfl,hide (by repeat (first | exact Below.refl _ _ | assumption | refine below_drewN ?_ _ | refine Below.drew ?_ | refine Below.alloc ?_ (by simp <;> omega) _ | refine below_trans ?_ (by assumption)))⟩
 case round =>
  obtain ⟨m,rfl,hm,rfl,HB⟩:=hrel
  have hf12:=HN.out.few
  rw [HL.out] at hf12
  have hlt:=nowN_lt F c next m (by omega)
  by_cases hmL:m < L
  ·have hml:m < F.length:=by rw [HL.out];exact hmL
   rcases Hcell.out with hz | ⟨b5,o5,e5,hc⟩
   ·rw [hz] at hml;simp at hml
   subst e5
   obtain ⟨q0,q1,q2,q3⟩:=hc m hmL
   have d0:=(HB.out.cell (World.block_lt_of_cell? w _ q0)).trans q0
   have d1:=(HB.out.cell (World.block_lt_of_cell? w _ q1)).trans q1
   have d2:=(HB.out.cell (World.block_lt_of_cell? w _ q2)).trans q2
   have d3:=(HB.out.cell (World.block_lt_of_cell? w _ q3)).trans q3
   obtain ⟨a0,a16,b0,b16,hn2⟩:=HN.out.num m hml
   have HS:=hide (show nowN F c next (m+1)=if nodeV (F.getD m nd0) c ((nowN F c next m).testBit (aN F m)) ((nowN F c next m).testBit (bN F m)) (next.testBit m)=true then addBit (nowN F c next m) m else nowN F c next m from rfl)
   unfold aN bN at HS
   clear q0 q1 q2 q3 hc
   generalize F.getD m nd0=x at *
   obtain ⟨k,xa,xb,xn⟩:=x
   dsimp only at *
   obtain ⟨na,rfl⟩:=Int.eq_ofNat_of_zero_le a0
   obtain ⟨nb,rfl⟩:=Int.eq_ofNat_of_zero_le b0
   rw [Int.toNat_natCast,Int.toNat_natCast] at HS
   have HSt:=hide (show nodeV ⟨k,na,nb,xn⟩ c ((nowN F c next m).testBit na) ((nowN F c next m).testBit nb) (next.testBit m)=true→nowN F c next (m+1)=addBit (nowN F c next m) m from fun h=>HS.out.trans (if_pos h))
   have HSf:=hide (show nodeV ⟨k,na,nb,xn⟩ c ((nowN F c next m).testBit na) ((nowN F c next m).testBit nb) (next.testBit m)=false→nowN F c next (m+1)=nowN F c next m from fun h=>HS.out.trans (if_neg (fun h2=>by rw [h] at h2;cases h2)))
   clear HS
   generalize hnow:nowN F c next m=now at *
   have hbx:=below_new wr (Obj.cells #[.int .i64 k,.int .i64 (na:Nat),.int .i64 (nb:Nat),.int .i64 xn] 55)
   have hox:=one_new wr (Obj.cells #[.int .i64 k,.int .i64 (na:Nat),.int .i64 (nb:Nat),.int .i64 xn] 55)
   have HB2:=hide (below_trans HB.out hbx)
   have HX:=hide hox
   clear hbx hox hnow
   go_wp2_with (fail)
   rename_i Q' K hK
   generalize wr.alloc (Obj.cells #[.int .i64 k,.int .i64 (na:Nat),.int .i64 (nb:Nat),.int .i64 xn] 55)=w5 at *
   refine wp_region_told [(0,18),(1,19),(2,20),(3,21),(4,22),(5,23),(6,24)] (fun W=>Below w5.heap.size w5 W) (fun j v _=>match j with | 0=>v=.agg #[.int .i64 k,.int .i64 (na:Nat),.int .i64 (nb:Nat),.int .i64 xn] | 1=>v=.int .i64 c | 2=>v=.int .u16 (now:Nat) | 3=>v=.int .u16 (next:Nat) | 4=>v=.int .i64 (m:Nat) | 5=>v=.bool (next.testBit m) | 6=>v=.bool (nodeV ⟨k,na,nb,xn⟩ c (now.testBit na) (now.testBit nb) (next.testBit m)) | _=>True) (by kernel_rfl) (by kernel_rfl) (by kernel_rfl) (Below.drew (Below.refl _ _)) ?_ ?_
   ·intro j o ho
    match j,ho with
    | 0,ho =>
     obtain rfl:=Option.some.inj ho
     refine stepOk_val fun a W vs hW he hd=>?_
     have e9:a.tmps[9]?.getD undef=.pointer (some ⟨wr.heap.size,0,none⟩):=free_val he 9 (by kernel_rfl)
     have hr:=belowRow hW HX.out
     have z0:=cell_of_row W _ 0 _ _ _ hr
     have z1:=cell_of_row W _ 1 _ _ _ hr
     have z2:=cell_of_row W _ 2 _ _ _ hr
     have z3:=cell_of_row W _ 3 _ _ _ hr
     exact ⟨.agg #[.int .i64 k,.int .i64 (na:Nat),.int .i64 (nb:Nat),.int .i64 xn],by simp [execOp,go_sem,e9,z0,z1,z2,z3],rfl⟩
    | 1,ho =>
     obtain rfl:=Option.some.inj ho
     refine stepOk_val fun a W vs hW he hd=>?_
     have e1:a.tmps[1]?.getD undef=.int .i64 c:=free_val he 1 (by kernel_rfl)
     exact ⟨.int .i64 c,by simp [execOp,go_sem,e1],rfl⟩
    | 2,ho =>
     obtain rfl:=Option.some.inj ho
     refine stepOk_val fun a W vs hW he hd=>?_
     have e7:a.tmps[7]?.getD undef=.int .u16 (now:Nat):=free_val he 7 (by kernel_rfl)
     exact ⟨.int .u16 (now:Nat),by simp [execOp,go_sem,e7],rfl⟩
    | 3,ho =>
     obtain rfl:=Option.some.inj ho
     refine stepOk_val fun a W vs hW he hd=>?_
     have e2:a.tmps[2]?.getD undef=.int .u16 (next:Nat):=free_val he 2 (by kernel_rfl)
     exact ⟨.int .u16 (next:Nat),by simp [execOp,go_sem,e2],rfl⟩
    | 4,ho =>
     obtain rfl:=Option.some.inj ho
     refine stepOk_val fun a W vs hW he hd=>?_
     have e8:a.tmps[8]?.getD undef=.int .i64 (m:Nat):=free_val he 8 (by kernel_rfl)
     exact ⟨.int .i64 (m:Nat),by simp [execOp,go_sem,e8],rfl⟩
    | 5,ho =>
     obtain rfl:=Option.some.inj ho
     refine stepOk_call fun a W vs hW he hd=>?_
     have v3:a.tmps[21]?.getD undef=.int .u16 (next:Nat):=(eval_tmp a 21).symm.trans (((hd 3 (by kernel_rfl)).2 21 (by kernel_rfl)).trans (hd 3 (by kernel_rfl)).1)
     have v4:a.tmps[22]?.getD undef=.int .i64 (m:Nat):=(eval_tmp a 22).symm.trans (((hd 4 (by kernel_rfl)).2 22 (by kernel_rfl)).trans (hd 4 (by kernel_rfl)).1)
     refine ⟨162,#[.int .u16 (next:Nat),.int .i64 (m:Nat)],by simp [execOp,go_sem,v3,v4],(tHas next m W hx (by omega)).mono ?_⟩
     rintro e W' ⟨rfl,rfl⟩
     exact ⟨_,rfl,hW,rfl,fun j x h=>h⟩
    | 6,ho =>
     obtain rfl:=Option.some.inj ho
     refine stepOk_call fun a W vs hW he hd=>?_
     have v0:a.tmps[18]?.getD undef=.agg #[.int .i64 k,.int .i64 (na:Nat),.int .i64 (nb:Nat),.int .i64 xn]:=(eval_tmp a 18).symm.trans (((hd 0 (by kernel_rfl)).2 18 (by kernel_rfl)).trans (hd 0 (by kernel_rfl)).1)
     have v1:a.tmps[19]?.getD undef=.int .i64 c:=(eval_tmp a 19).symm.trans (((hd 1 (by kernel_rfl)).2 19 (by kernel_rfl)).trans (hd 1 (by kernel_rfl)).1)
     have v2:a.tmps[20]?.getD undef=.int .u16 (now:Nat):=(eval_tmp a 20).symm.trans (((hd 2 (by kernel_rfl)).2 20 (by kernel_rfl)).trans (hd 2 (by kernel_rfl)).1)
     have v5:a.tmps[23]?.getD undef=.bool (next.testBit m):=(eval_tmp a 23).symm.trans (((hd 5 (by kernel_rfl)).2 23 (by kernel_rfl)).trans (hd 5 (by kernel_rfl)).1)
     refine ⟨161,#[.agg #[.int .i64 k,.int .i64 (na:Nat),.int .i64 (nb:Nat),.int .i64 xn],.int .i64 c,.int .u16 (now:Nat),.bool (next.testBit m)],by simp [execOp,go_sem,v0,v1,v2,v5],(tHolds k na nb xn c now (next.testBit m) W (by omega) (by omega) hn2 c0 c7 hlt).mono ?_⟩
     rintro e W' ⟨rfl,hb⟩
     exact ⟨_,rfl,below_trans hW hb,rfl,fun j x h=>h⟩
    | j+7,ho=>simp at ho
   ·intro vs W hW hRR
    have h6:vs 6=.bool (nodeV ⟨k,na,nb,xn⟩ c (now.testBit na) (now.testBit nb) (next.testBit m)):=hRR 6 (by decide)
    refine hK _ _ ?_
    simp only [putPairs,List.setIfInBounds_toArray,List.set_cons_succ,List.set_cons_zero]
    rw [h6]
    have HB3:=hide (below_trans HB2.out hW)
    clear hW hRR h6
    generalize nodeV ⟨k,na,nb,xn⟩ c (now.testBit na) (now.testBit nb) (next.testBit m)=val at *
    cases val with
    | true =>
     have HS:=hide (HSt.out rfl)
     clear HSt HSf
     go_wp2_with (fail)
     go_fit (tWith now m _ hlt (by omega))
     rintro e W' ⟨rfl,rfl⟩
     go_wp2_with (fail)
     go_roundw
     case rel=>exact ⟨m+1,by go_num,by omega,by rw [HS.out],HB3⟩
     case measure=>simp [intOf];omega
    | false =>
     have HS:=hide (HSf.out rfl)
     clear HSt HSf
     go_wp2_with (fail)
     go_roundw
     case rel=>exact ⟨m+1,by go_num,by omega,by rw [HS.out],HB3⟩
     case measure=>simp [intOf];omega
  ·obtain rfl:m=L:=by omega
   go_wp2_with (fail)
   go_ret
   exact ⟨by rw [HNow.out];rfl,HB.out⟩
theorem lastL_lt {F:List Nd}{t:Nat} (h:t < (lastL F).length):(lastL F).getD t 0 < F.length:=by
 have h1:(lastL F).getD t 0 ∈ lastL F:=by simp [List.getD,h]
 exact ((lastN_mem F _ F.length).1 h1).1
theorem advL_step (ok:Nat→Bool) {L t:Nat} (h:t < L):advL ok (L - t) t=if ok t=true then advL ok (L - (t+1)) (t+1) else t:=by
 rw [show L - t=L - (t+1)+1 by omega]
 rfl
theorem tTurn {F:List Nd} (hF:RdOk F) (fv lv:Value) (X turn now:Nat) (w:World) (hv:NodeSl w fv F) (hl:IntSl w lv ((lastL F).map fun (i:Nat)=>(i:Int))) (ht:turn≤(lastL F).length) (hx:now < 65536) :
  Calls Tryz.prog 121 #[.agg #[fv,.int .u16 X,lv],.int .i64 turn,.int .u16 now] w fun e w'=>e=.returned (.int .i64 (turnL F turn now:Nat))∧Below w.heap.size w w':=by
 obtain ⟨fa,fc,rfl,hfm,hcell,-,-⟩:=hv
 obtain ⟨la,lc,rfl,hlm,hlcell,-,-⟩:=hl
 unfold maxLen at hfm hlm
 rw [List.length_map] at hlm
 have HLC:=hide hlcell
 have Hcell:=hide hcell
 have HN:=hide hF
 have HLt:=hide (fun t (h:t < (lastL F).length)=>lastL_lt h)
 have HT:=hide (show turnL F turn now=advL (okAt F now) ((lastL F).length - (if turn=(lastL F).length then 0 else turn)) (if turn=(lastL F).length then 0 else turn) from rfl)
 have HOk:=hide (show ∀ t,okAt F now t=(now.testBit ((lastL F).getD t 0) == now.testBit (bN F ((lastL F).getD t 0))) from fun t=>rfl)
 rw [List.length_map]
 generalize hLL:(lastL F).length=LL at *
 generalize hL:F.length=L at *
 have HL:=hide hL
 have HLL:=hide hLL
 clear hL hLL hF hcell hlcell
 have hbn:=below_new w (Obj.cells #[.slice fa L fc,.int .u16 X,.slice la LL lc] 107)
 have hon:=one_new w (Obj.cells #[.slice fa L fc,.int .u16 X,.slice la LL lc] 107)
 have HB0:=hide hbn
 have HX0:=hide hon
 have r2:=cell_of_row _ _ 2 _ _ _ hon
 clear hbn hon
 go_enter Tryz.func121,Tryz.ntmps121
 by_cases htl:turn=LL
 ·have htz:((turn:Int) == (LL:Int))=true:=by rw [htl];simp
  rw [if_pos htl] at HT
  go_wp2_with (fail)
  go_loopw [1] (fun s1 wr=>∃ t:Nat,s1=.int .i64 t∧t≤LL∧Hid (advL (okAt F now) (LL - t) t=turnL F turn now)∧Hid (Below w.heap.size w wr)∧Hid (wr.heap[w.heap.size]?=some (.cells #[.slice fa L fc,.int .u16 X,.slice la LL lc] 107))) (fun s1 _=>LL - (intOf s1).toNat)
  case atStart=>exact ⟨0,rfl,by omega,hide HT.out.symm,HB0,HX0⟩
  case round =>
   obtain ⟨t,rfl,ht2,HA,HB,HX⟩:=hrel
   clear r2
   have r2:=cell_of_row _ _ 2 _ _ _ HX.out
   by_cases htL:t < LL
   ·have htl2:t < (lastL F).length:=by rw [HLL.out];exact htL
    have hstep:=advL_step (okAt F now) htL
    rw [HOk.out,HA.out] at hstep
    have hi:=HLt.out t htL
    rcases HLC.out with hz | ⟨lb,lo,el,hlc⟩
    ·have:=congrArg List.length hz;rw [List.length_map,HLL.out] at this;simp at this;omega
    subst el
    have dl:=hlc t (by rw [List.length_map];exact htl2)
    rw [show ((lastL F).map fun (i:Nat)=>(i:Int)).getD t 0=(((lastL F).getD t 0:Nat):Int) by simp [List.getD,htl2]] at dl
    have dl:=(HB.out.cell (World.block_lt_of_cell? w _ dl)).trans dl
    generalize (lastL F).getD t 0=i at *
    have hil:i < F.length:=by rw [HL.out];exact hi
    rcases Hcell.out with hz | ⟨b5,o5,e5,hc⟩
    ·rw [hz] at hil;simp at hil
    subst e5
    obtain ⟨-,-,q2,-⟩:=hc i hi
    have d2:=(HB.out.cell (World.block_lt_of_cell? w _ q2)).trans q2
    obtain ⟨a0,a16,b0,b16,-⟩:=HN.out.num i hil
    have hf12:=HN.out.few
    rw [HL.out] at hf12
    unfold bN at hstep
    clear q2 hc hlc
    generalize (F.getD i nd0).b=xb at *
    obtain ⟨nb,rfl⟩:=Int.eq_ofNat_of_zero_le b0
    rw [Int.toNat_natCast] at hstep
    have hiL:(i:Int) < (L:Int):=by omega
    have HSt:=hide hstep
    clear hstep a0 a16 b0
    go_wp2_with (fail)
    rename_i Q' K hK
    refine wp_region_told [(0,23),(1,24),(2,25),(3,26),(4,27),(5,28),(6,29),(7,30),(8,31),(9,32),(10,33),(11,34)] (fun W=>Below wr.heap.size wr W) (fun j v _=>match j with | 0=>v=.int .u16 (now:Nat) | 1=>v=.int .i64 (i:Nat) | 2=>v=.bool (now.testBit i) | 3=>v=.int .u16 (now:Nat) | 4=>v=.pointer (some ⟨w.heap.size,0,none⟩) | 5=>v=.slice (some ⟨b5,o5,none⟩) L fc | 6=>v=.int .i64 (i:Nat) | 7=>v=.pointer (some ⟨b5,o5+i * 4,none⟩) | 8=>v=.pointer (some ⟨b5,o5+i * 4+2,none⟩) | 9=>v=.int .i64 (nb:Nat) | 10=>v=.bool (now.testBit nb) | 11=>v=.bool (now.testBit i != now.testBit nb) | _=>True) (by kernel_rfl) (by kernel_rfl) (by kernel_rfl) (Below.drew (Below.refl _ _)) ?_ ?_
    ·intro j o ho
     match j,ho with
     | 0,ho =>
      obtain rfl:=Option.some.inj ho
      refine stepOk_val fun a W vs hW he hd=>?_
      have e2:a.tmps[2]?.getD undef=.int .u16 (now:Nat):=free_val he 2 (by kernel_rfl)
      exact ⟨.int .u16 (now:Nat),by simp [execOp,go_sem,e2],rfl⟩
     | 1,ho =>
      obtain rfl:=Option.some.inj ho
      refine stepOk_val fun a W vs hW he hd=>?_
      have e7:a.tmps[7]?.getD undef=.int .i64 (i:Nat):=free_val he 7 (by kernel_rfl)
      exact ⟨.int .i64 (i:Nat),by simp [execOp,go_sem,e7],rfl⟩
     | 2,ho =>
      obtain rfl:=Option.some.inj ho
      refine stepOk_call fun a W vs hW he hd=>?_
      have v0:a.tmps[23]?.getD undef=.int .u16 (now:Nat):=(eval_tmp a 23).symm.trans (((hd 0 (by kernel_rfl)).2 23 (by kernel_rfl)).trans (hd 0 (by kernel_rfl)).1)
      have v1:a.tmps[24]?.getD undef=.int .i64 (i:Nat):=(eval_tmp a 24).symm.trans (((hd 1 (by kernel_rfl)).2 24 (by kernel_rfl)).trans (hd 1 (by kernel_rfl)).1)
      refine ⟨162,#[.int .u16 (now:Nat),.int .i64 (i:Nat)],by simp [execOp,go_sem,v0,v1],(tHas now i W hx (by omega)).mono ?_⟩
      rintro e W' ⟨rfl,rfl⟩
      exact ⟨_,rfl,hW,rfl,fun j x h=>h⟩
     | 3,ho =>
      obtain rfl:=Option.some.inj ho
      refine stepOk_val fun a W vs hW he hd=>?_
      have e2:a.tmps[2]?.getD undef=.int .u16 (now:Nat):=free_val he 2 (by kernel_rfl)
      exact ⟨.int .u16 (now:Nat),by simp [execOp,go_sem,e2],rfl⟩
     | 4,ho =>
      obtain rfl:=Option.some.inj ho
      refine stepOk_val fun a W vs hW he hd=>?_
      have e3:a.tmps[3]?.getD undef=.pointer (some ⟨w.heap.size,0,none⟩):=free_val he 3 (by kernel_rfl)
      exact ⟨.pointer (some ⟨w.heap.size,0,none⟩),by simp [execOp,go_sem,e3],rfl⟩
     | 5,ho =>
      obtain rfl:=Option.some.inj ho
      refine stepOk_val fun a W vs hW he hd=>?_
      have v4:a.tmps[27]?.getD undef=.pointer (some ⟨w.heap.size,0,none⟩):=(eval_tmp a 27).symm.trans (((hd 4 (by kernel_rfl)).2 27 (by kernel_rfl)).trans (hd 4 (by kernel_rfl)).1)
      have z0:=cell_of_row W _ 0 _ _ _ (belowRow hW HX.out)
      exact ⟨.slice (some ⟨b5,o5,none⟩) L fc,by simp [execOp,go_sem,v4,z0],rfl⟩
     | 6,ho =>
      obtain rfl:=Option.some.inj ho
      refine stepOk_val fun a W vs hW he hd=>?_
      have e7:a.tmps[7]?.getD undef=.int .i64 (i:Nat):=free_val he 7 (by kernel_rfl)
      exact ⟨.int .i64 (i:Nat),by simp [execOp,go_sem,e7],rfl⟩
     | 7,ho =>
      obtain rfl:=Option.some.inj ho
      refine stepOk_val fun a W vs hW he hd=>?_
      have v5:a.tmps[28]?.getD undef=.slice (some ⟨b5,o5,none⟩) L fc:=(eval_tmp a 28).symm.trans (((hd 5 (by kernel_rfl)).2 28 (by kernel_rfl)).trans (hd 5 (by kernel_rfl)).1)
      have v6:a.tmps[29]?.getD undef=.int .i64 (i:Nat):=(eval_tmp a 29).symm.trans (((hd 6 (by kernel_rfl)).2 29 (by kernel_rfl)).trans (hd 6 (by kernel_rfl)).1)
      exact ⟨.pointer (some ⟨b5,o5+i * 4,none⟩),by simp [execOp,go_sem,v5,v6,hiL],rfl⟩
     | 8,ho =>
      obtain rfl:=Option.some.inj ho
      refine stepOk_val fun a W vs hW he hd=>?_
      have v7:a.tmps[30]?.getD undef=.pointer (some ⟨b5,o5+i * 4,none⟩):=(eval_tmp a 30).symm.trans (((hd 7 (by kernel_rfl)).2 30 (by kernel_rfl)).trans (hd 7 (by kernel_rfl)).1)
      exact ⟨.pointer (some ⟨b5,o5+i * 4+2,none⟩),by simp [execOp,go_sem,v7],rfl⟩
     | 9,ho =>
      obtain rfl:=Option.some.inj ho
      refine stepOk_val fun a W vs hW he hd=>?_
      have v8:a.tmps[31]?.getD undef=.pointer (some ⟨b5,o5+i * 4+2,none⟩):=(eval_tmp a 31).symm.trans (((hd 8 (by kernel_rfl)).2 31 (by kernel_rfl)).trans (hd 8 (by kernel_rfl)).1)
      have z2:=cell_kept d2 hW
      exact ⟨.int .i64 (nb:Nat),by simp [execOp,go_sem,v8,z2],rfl⟩
     | 10,ho =>
      obtain rfl:=Option.some.inj ho
      refine stepOk_call fun a W vs hW he hd=>?_
      have v3:a.tmps[26]?.getD undef=.int .u16 (now:Nat):=(eval_tmp a 26).symm.trans (((hd 3 (by kernel_rfl)).2 26 (by kernel_rfl)).trans (hd 3 (by kernel_rfl)).1)
      have v9:a.tmps[32]?.getD undef=.int .i64 (nb:Nat):=(eval_tmp a 32).symm.trans (((hd 9 (by kernel_rfl)).2 32 (by kernel_rfl)).trans (hd 9 (by kernel_rfl)).1)
      refine ⟨162,#[.int .u16 (now:Nat),.int .i64 (nb:Nat)],by simp [execOp,go_sem,v3,v9],(tHas now nb W hx (by omega)).mono ?_⟩
      rintro e W' ⟨rfl,rfl⟩
      exact ⟨_,rfl,hW,rfl,fun j x h=>h⟩
     | 11,ho =>
      obtain rfl:=Option.some.inj ho
      refine stepOk_val fun a W vs hW he hd=>?_
      have v2:a.tmps[25]?.getD undef=.bool (now.testBit i):=(eval_tmp a 25).symm.trans (((hd 2 (by kernel_rfl)).2 25 (by kernel_rfl)).trans (hd 2 (by kernel_rfl)).1)
      have v10:a.tmps[33]?.getD undef=.bool (now.testBit nb):=(eval_tmp a 33).symm.trans (((hd 10 (by kernel_rfl)).2 33 (by kernel_rfl)).trans (hd 10 (by kernel_rfl)).1)
      exact ⟨.bool (now.testBit i != now.testBit nb),by simp [execOp,go_sem,v2,v10];cases now.testBit i <;> cases now.testBit nb <;> rfl,rfl⟩
     | j+12,ho=>simp at ho
    ·intro vs W hW hRR
     have h11:vs 11=.bool (now.testBit i != now.testBit nb):=hRR 11 (by decide)
     refine hK _ _ ?_
     simp only [putPairs,List.setIfInBounds_toArray,List.set_cons_succ,List.set_cons_zero]
     rw [h11]
     have HB3:=hide (below_trans HB.out hW)
     have HX3:=hide (belowRow hW HX.out)
     clear hW hRR h11 d2 dl r2
     generalize now.testBit i=p1 at *
     generalize now.testBit nb=p2 at *
     by_cases hp:p1=p2
     ·have hne:(p1 != p2)=false:=by rw [hp];simp
      have HAn:=hide (show advL (okAt F now) (LL - (t+1)) (t+1)=turnL F turn now from ((HSt.out).trans (if_pos (by rw [hp];simp))).symm)
      rw [hne]
      go_wp2_with (fail)
      go_roundw
      case rel=>exact ⟨t+1,by go_num,by omega,HAn,HB3,HX3⟩
      case measure=>simp [intOf];omega
     ·have hne:(p1 != p2)=true:=by simpa using hp
      have HAn:=hide (show turnL F turn now=t from (HSt.out).trans (if_neg (by simpa using hp)))
      rw [hne]
      go_wp2_with (fail)
      go_ret
      exact ⟨by rw [HAn.out];rfl,HB3.out⟩
   ·obtain rfl:t=LL:=by omega
    have HAn:=hide (show t=turnL F turn now by have:=HA.out;rwa [Nat.sub_self] at this)
    go_wp2_with (fail)
    go_ret
    exact ⟨by rw [← HAn.out];rfl,HB.out⟩
 ·have htz:((turn:Int) == (LL:Int))=false:=by rw [beq_eq_false_iff_ne];omega
  rw [if_neg htl] at HT
  go_wp2_with (fail)
  go_loopw [1] (fun s1 wr=>∃ t:Nat,s1=.int .i64 t∧t≤LL∧Hid (advL (okAt F now) (LL - t) t=turnL F turn now)∧Hid (Below w.heap.size w wr)∧Hid (wr.heap[w.heap.size]?=some (.cells #[.slice fa L fc,.int .u16 X,.slice la LL lc] 107))) (fun s1 _=>LL - (intOf s1).toNat)
  case atStart=>exact ⟨turn,rfl,by omega,hide HT.out.symm,HB0,HX0⟩
  case round =>
   obtain ⟨t,rfl,ht2,HA,HB,HX⟩:=hrel
   clear r2
   have r2:=cell_of_row _ _ 2 _ _ _ HX.out
   by_cases htL:t < LL
   ·have htl2:t < (lastL F).length:=by rw [HLL.out];exact htL
    have hstep:=advL_step (okAt F now) htL
    rw [HOk.out,HA.out] at hstep
    have hi:=HLt.out t htL
    rcases HLC.out with hz | ⟨lb,lo,el,hlc⟩
    ·have:=congrArg List.length hz;rw [List.length_map,HLL.out] at this;simp at this;omega
    subst el
    have dl:=hlc t (by rw [List.length_map];exact htl2)
    rw [show ((lastL F).map fun (i:Nat)=>(i:Int)).getD t 0=(((lastL F).getD t 0:Nat):Int) by simp [List.getD,htl2]] at dl
    have dl:=(HB.out.cell (World.block_lt_of_cell? w _ dl)).trans dl
    generalize (lastL F).getD t 0=i at *
    have hil:i < F.length:=by rw [HL.out];exact hi
    rcases Hcell.out with hz | ⟨b5,o5,e5,hc⟩
    ·rw [hz] at hil;simp at hil
    subst e5
    obtain ⟨-,-,q2,-⟩:=hc i hi
    have d2:=(HB.out.cell (World.block_lt_of_cell? w _ q2)).trans q2
    obtain ⟨a0,a16,b0,b16,-⟩:=HN.out.num i hil
    have hf12:=HN.out.few
    rw [HL.out] at hf12
    unfold bN at hstep
    clear q2 hc hlc
    generalize (F.getD i nd0).b=xb at *
    obtain ⟨nb,rfl⟩:=Int.eq_ofNat_of_zero_le b0
    rw [Int.toNat_natCast] at hstep
    have hiL:(i:Int) < (L:Int):=by omega
    have HSt:=hide hstep
    clear hstep a0 a16 b0
    go_wp2_with (fail)
    rename_i Q' K hK
    refine wp_region_told [(0,23),(1,24),(2,25),(3,26),(4,27),(5,28),(6,29),(7,30),(8,31),(9,32),(10,33),(11,34)] (fun W=>Below wr.heap.size wr W) (fun j v _=>match j with | 0=>v=.int .u16 (now:Nat) | 1=>v=.int .i64 (i:Nat) | 2=>v=.bool (now.testBit i) | 3=>v=.int .u16 (now:Nat) | 4=>v=.pointer (some ⟨w.heap.size,0,none⟩) | 5=>v=.slice (some ⟨b5,o5,none⟩) L fc | 6=>v=.int .i64 (i:Nat) | 7=>v=.pointer (some ⟨b5,o5+i * 4,none⟩) | 8=>v=.pointer (some ⟨b5,o5+i * 4+2,none⟩) | 9=>v=.int .i64 (nb:Nat) | 10=>v=.bool (now.testBit nb) | 11=>v=.bool (now.testBit i != now.testBit nb) | _=>True) (by kernel_rfl) (by kernel_rfl) (by kernel_rfl) (Below.drew (Below.refl _ _)) ?_ ?_
    ·intro j o ho
     match j,ho with
     | 0,ho =>
      obtain rfl:=Option.some.inj ho
      refine stepOk_val fun a W vs hW he hd=>?_
      have e2:a.tmps[2]?.getD undef=.int .u16 (now:Nat):=free_val he 2 (by kernel_rfl)
      exact ⟨.int .u16 (now:Nat),by simp [execOp,go_sem,e2],rfl⟩
     | 1,ho =>
      obtain rfl:=Option.some.inj ho
      refine stepOk_val fun a W vs hW he hd=>?_
      have e7:a.tmps[7]?.getD undef=.int .i64 (i:Nat):=free_val he 7 (by kernel_rfl)
      exact ⟨.int .i64 (i:Nat),by simp [execOp,go_sem,e7],rfl⟩
     | 2,ho =>
      obtain rfl:=Option.some.inj ho
      refine stepOk_call fun a W vs hW he hd=>?_
      have v0:a.tmps[23]?.getD undef=.int .u16 (now:Nat):=(eval_tmp a 23).symm.trans (((hd 0 (by kernel_rfl)).2 23 (by kernel_rfl)).trans (hd 0 (by kernel_rfl)).1)
      have v1:a.tmps[24]?.getD undef=.int .i64 (i:Nat):=(eval_tmp a 24).symm.trans (((hd 1 (by kernel_rfl)).2 24 (by kernel_rfl)).trans (hd 1 (by kernel_rfl)).1)
      refine ⟨162,#[.int .u16 (now:Nat),.int .i64 (i:Nat)],by simp [execOp,go_sem,v0,v1],(tHas now i W hx (by omega)).mono ?_⟩
      rintro e W' ⟨rfl,rfl⟩
      exact ⟨_,rfl,hW,rfl,fun j x h=>h⟩
     | 3,ho =>
      obtain rfl:=Option.some.inj ho
      refine stepOk_val fun a W vs hW he hd=>?_
      have e2:a.tmps[2]?.getD undef=.int .u16 (now:Nat):=free_val he 2 (by kernel_rfl)
      exact ⟨.int .u16 (now:Nat),by simp [execOp,go_sem,e2],rfl⟩
     | 4,ho =>
      obtain rfl:=Option.some.inj ho
      refine stepOk_val fun a W vs hW he hd=>?_
      have e3:a.tmps[3]?.getD undef=.pointer (some ⟨w.heap.size,0,none⟩):=free_val he 3 (by kernel_rfl)
      exact ⟨.pointer (some ⟨w.heap.size,0,none⟩),by simp [execOp,go_sem,e3],rfl⟩
     | 5,ho =>
      obtain rfl:=Option.some.inj ho
      refine stepOk_val fun a W vs hW he hd=>?_
      have v4:a.tmps[27]?.getD undef=.pointer (some ⟨w.heap.size,0,none⟩):=(eval_tmp a 27).symm.trans (((hd 4 (by kernel_rfl)).2 27 (by kernel_rfl)).trans (hd 4 (by kernel_rfl)).1)
      have z0:=cell_of_row W _ 0 _ _ _ (belowRow hW HX.out)
      exact ⟨.slice (some ⟨b5,o5,none⟩) L fc,by simp [execOp,go_sem,v4,z0],rfl⟩
     | 6,ho =>
      obtain rfl:=Option.some.inj ho
      refine stepOk_val fun a W vs hW he hd=>?_
      have e7:a.tmps[7]?.getD undef=.int .i64 (i:Nat):=free_val he 7 (by kernel_rfl)
      exact ⟨.int .i64 (i:Nat),by simp [execOp,go_sem,e7],rfl⟩
     | 7,ho =>
      obtain rfl:=Option.some.inj ho
      refine stepOk_val fun a W vs hW he hd=>?_
      have v5:a.tmps[28]?.getD undef=.slice (some ⟨b5,o5,none⟩) L fc:=(eval_tmp a 28).symm.trans (((hd 5 (by kernel_rfl)).2 28 (by kernel_rfl)).trans (hd 5 (by kernel_rfl)).1)
      have v6:a.tmps[29]?.getD undef=.int .i64 (i:Nat):=(eval_tmp a 29).symm.trans (((hd 6 (by kernel_rfl)).2 29 (by kernel_rfl)).trans (hd 6 (by kernel_rfl)).1)
      exact ⟨.pointer (some ⟨b5,o5+i * 4,none⟩),by simp [execOp,go_sem,v5,v6,hiL],rfl⟩
     | 8,ho =>
      obtain rfl:=Option.some.inj ho
      refine stepOk_val fun a W vs hW he hd=>?_
      have v7:a.tmps[30]?.getD undef=.pointer (some ⟨b5,o5+i * 4,none⟩):=(eval_tmp a 30).symm.trans (((hd 7 (by kernel_rfl)).2 30 (by kernel_rfl)).trans (hd 7 (by kernel_rfl)).1)
      exact ⟨.pointer (some ⟨b5,o5+i * 4+2,none⟩),by simp [execOp,go_sem,v7],rfl⟩
     | 9,ho =>
      obtain rfl:=Option.some.inj ho
      refine stepOk_val fun a W vs hW he hd=>?_
      have v8:a.tmps[31]?.getD undef=.pointer (some ⟨b5,o5+i * 4+2,none⟩):=(eval_tmp a 31).symm.trans (((hd 8 (by kernel_rfl)).2 31 (by kernel_rfl)).trans (hd 8 (by kernel_rfl)).1)
      have z2:=cell_kept d2 hW
      exact ⟨.int .i64 (nb:Nat),by simp [execOp,go_sem,v8,z2],rfl⟩
     | 10,ho =>
      obtain rfl:=Option.some.inj ho
      refine stepOk_call fun a W vs hW he hd=>?_
      have v3:a.tmps[26]?.getD undef=.int .u16 (now:Nat):=(eval_tmp a 26).symm.trans (((hd 3 (by kernel_rfl)).2 26 (by kernel_rfl)).trans (hd 3 (by kernel_rfl)).1)
      have v9:a.tmps[32]?.getD undef=.int .i64 (nb:Nat):=(eval_tmp a 32).symm.trans (((hd 9 (by kernel_rfl)).2 32 (by kernel_rfl)).trans (hd 9 (by kernel_rfl)).1)
      refine ⟨162,#[.int .u16 (now:Nat),.int .i64 (nb:Nat)],by simp [execOp,go_sem,v3,v9],(tHas now nb W hx (by omega)).mono ?_⟩
      rintro e W' ⟨rfl,rfl⟩
      exact ⟨_,rfl,hW,rfl,fun j x h=>h⟩
     | 11,ho =>
      obtain rfl:=Option.some.inj ho
      refine stepOk_val fun a W vs hW he hd=>?_
      have v2:a.tmps[25]?.getD undef=.bool (now.testBit i):=(eval_tmp a 25).symm.trans (((hd 2 (by kernel_rfl)).2 25 (by kernel_rfl)).trans (hd 2 (by kernel_rfl)).1)
      have v10:a.tmps[33]?.getD undef=.bool (now.testBit nb):=(eval_tmp a 33).symm.trans (((hd 10 (by kernel_rfl)).2 33 (by kernel_rfl)).trans (hd 10 (by kernel_rfl)).1)
      exact ⟨.bool (now.testBit i != now.testBit nb),by simp [execOp,go_sem,v2,v10];cases now.testBit i <;> cases now.testBit nb <;> rfl,rfl⟩
     | j+12,ho=>simp at ho
    ·intro vs W hW hRR
     have h11:vs 11=.bool (now.testBit i != now.testBit nb):=hRR 11 (by decide)
     refine hK _ _ ?_
     simp only [putPairs,List.setIfInBounds_toArray,List.set_cons_succ,List.set_cons_zero]
     rw [h11]
     have HB3:=hide (below_trans HB.out hW)
     have HX3:=hide (belowRow hW HX.out)
     clear hW hRR h11 d2 dl r2
     generalize now.testBit i=p1 at *
     generalize now.testBit nb=p2 at *
     by_cases hp:p1=p2
     ·have hne:(p1 != p2)=false:=by rw [hp];simp
      have HAn:=hide (show advL (okAt F now) (LL - (t+1)) (t+1)=turnL F turn now from ((HSt.out).trans (if_pos (by rw [hp];simp))).symm)
      rw [hne]
      go_wp2_with (fail)
      go_roundw
      case rel=>exact ⟨t+1,by go_num,by omega,HAn,HB3,HX3⟩
      case measure=>simp [intOf];omega
     ·have hne:(p1 != p2)=true:=by simpa using hp
      have HAn:=hide (show turnL F turn now=t from (HSt.out).trans (if_neg (by simpa using hp)))
      rw [hne]
      go_wp2_with (fail)
      go_ret
      exact ⟨by rw [HAn.out];rfl,HB3.out⟩
   ·obtain rfl:t=LL:=by omega
    have HAn:=hide (show t=turnL F turn now by have:=HA.out;rwa [Nat.sub_self] at this)
    go_wp2_with (fail)
    go_ret
    exact ⟨by rw [← HAn.out];rfl,HB.out⟩
end Go.Proofs.YtpiacnnifdjlkabGreatDoor
