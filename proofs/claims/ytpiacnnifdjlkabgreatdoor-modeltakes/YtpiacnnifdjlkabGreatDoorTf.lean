import Derived.Test.YtpiacnnifdjlkabGreatDoorEc
import Derived.Test.YtpiacnnifdjlkabGreatDoorYc
import Derived.Deep.DeepFit
set_option maxRecDepth 100000
set_option maxHeartbeats 8000000
namespace Go.Proofs.YtpiacnnifdjlkabGreatDoor
open Go.RowKit Go.Sort
def NodeSl (w:World) (v:Value) (zs:List Nd):Prop:=
 ∃ a cap,v=.slice a zs.length cap∧zs.length≤maxLen∧(zs=[] ∨ ∃ b off,a=some ⟨b,off,none⟩∧∀ i,i < zs.length→w.cell? ⟨b,off+i * 4,none⟩=some (.int .i64 (zs.getD i nd0).k)∧w.cell? ⟨b,off+i * 4+1,none⟩=some (.int .i64 (zs.getD i nd0).a)∧w.cell? ⟨b,off+i * 4+2,none⟩=some (.int .i64 (zs.getD i nd0).b)∧w.cell? ⟨b,off+i * 4+3,none⟩=some (.int .i64 (zs.getD i nd0).n))∧(a=none→cap=0)∧zs.length≤cap
theorem NodeSl.below {w w':World}{v:Value}{zs:List Nd} (h:NodeSl w v zs) (hb:Below w.heap.size w w'):NodeSl w' v zs:=by
 obtain ⟨a,cap,rfl,hm,h,hn⟩:=h
 refine ⟨a,cap,rfl,hm,?_,hn⟩
 rcases h with h | ⟨b,off,rfl,hc⟩
 ·exact Or.inl h
 ·refine Or.inr ⟨b,off,rfl,fun i hi=>?_⟩
  obtain ⟨h1,h2,h3,h4⟩:=hc i hi
  refine ⟨?_,?_,?_,?_⟩
  ·rw [hb.cell (World.block_lt_of_cell? w _ h1)];exact h1
  ·rw [hb.cell (World.block_lt_of_cell? w _ h2)];exact h2
  ·rw [hb.cell (World.block_lt_of_cell? w _ h3)];exact h3
  ·rw [hb.cell (World.block_lt_of_cell? w _ h4)];exact h4
def tmpB (k:Int):Bool:=decide (6≤k∧k≤8)
def cntT (F:List Nd):Nat:=(F.filter fun x=>tmpB x.k).length
theorem cntT_snoc (F:List Nd) (m:Nat) (hm:m < F.length):cntT (F.take (m+1))=cntT (F.take m)+if tmpB (F.getD m nd0).k=true then 1 else 0:=by
 have e:F.take (m+1)=F.take m ++ [F.getD m nd0]:=by
  rw [List.take_succ_eq_append_getElem hm]
  simp [List.getD,hm]
 unfold cntT
 rw [e,List.filter_append,List.length_append]
 generalize F.getD m nd0=x
 cases h:tmpB x.k <;> simp [h]
theorem cntT_le (F:List Nd):cntT F≤F.length:=List.length_filter_le _ _
theorem sgOf_temp (k:Int):((sgOf k).getD sg0).temp=tmpB k:=by
 unfold sgOf tmpB
 by_cases h1:k=1
 ·subst h1;rfl
 by_cases h2:k=2
 ·subst h2;rfl
 by_cases h3:k=3
 ·subst h3;rfl
 by_cases h4:k=4
 ·subst h4;rfl
 by_cases h5:k=5
 ·subst h5;rfl
 by_cases h6:k=6
 ·subst h6;rfl
 by_cases h7:k=7
 ·subst h7;rfl
 by_cases h8:k=8
 ·subst h8;rfl
 simp [h1,h2,h3,h4,h5,h6,h7,h8,sg0];omega
theorem countTemporal_any {w:World}{v:Value}{F:List Nd}{r:Nat} (hv:NodeSl w v F) (hr:SgMap w r) :
  Calls Tryz.prog 96 #[v,.map (some r)] w fun e w'=>e=.returned (.int .i64 (cntT F))∧Below w.heap.size w w':=by
 have HL:Hid (∀ w1,Below w.heap.size w w1→∀ k,_):=fun w1 hb k=>(run_lookup_sign (hr.below hb) k).1
 obtain ⟨a,cap,rfl,hm,hc,-⟩:=hv
 unfold maxLen at hm
 have hfd:∀ (a b c d e:Value) (w:World),(Instr.field 141 (.agg #[a,b,c,d,e]) 3).run Tryz.prog w=.ok d w:=fun _ _ _ _ _ _=>rfl
 go_enter Tryz.func96,Tryz.ntmps96
 go_wp2_with (fail)
 go_loopw [5,10] (fun c i wr=>∃ m:Nat,m≤F.length∧i=.int .i64 m∧c=.int .i64 (cntT (F.take m))∧Below w.heap.size w wr) (fun _ i _=>F.length - (intOf i).toNat)
 case atStart=>exact ⟨0,Nat.zero_le _,rfl,rfl,Below.refl _ _⟩
 case round =>
  obtain ⟨m,hml,rfl,rfl,hbw⟩:=hrel
  by_cases hlt:m < F.length
  ·rcases hc with hc | ⟨b,off,rfl,hc⟩
   ·subst hc;simp at hlt
   obtain ⟨c0,c1,c2,c3⟩:=hc m hlt
   rw [← hbw.cell (World.block_lt_of_cell? w _ c0)] at c0
   rw [← hbw.cell (World.block_lt_of_cell? w _ c1)] at c1
   rw [← hbw.cell (World.block_lt_of_cell? w _ c2)] at c2
   rw [← hbw.cell (World.block_lt_of_cell? w _ c3)] at c3
   have hs:=cntT_snoc F m hlt
   have hl1:=cntT_le (F.take m)
   have hl2:(F.take m).length≤m:=List.length_take_le _ _
   generalize hx:F.getD m nd0=x at *
   have hlk:=HL.out _ (below_trans hbw (below_new wr (Obj.cells #[.int .i64 x.k,.int .i64 x.a,.int .i64 x.b,.int .i64 x.n] 55))) x.k
   have ht:=sgOf_temp x.k
   clear hc hx
   obtain ⟨k,xa,xb,xn⟩:=x
   dsimp only at *
   unfold sgV at hlk
   rw [ht] at hlk
   clear ht
   generalize (sgOf k).getD sg0=s at *
   have Hs:Hid _:=hs
   clear hs
   generalize hct:cntT (F.take m)=c at *
   have Hct:Hid (cntT (F.take m)=c):=hct
   clear hct
   have hbn:=below_trans hbw (below_new wr (Obj.cells #[.int .i64 k,.int .i64 xa,.int .i64 xb,.int .i64 xn] 55))
   have Hbn:Hid _:=hbn
   clear hbn
   cases ht:tmpB k with
   | true =>
    rw [ht] at hlk Hs
    go_wp2_with (fail)
    go_roundw
    case rel=>exact ⟨m+1,by omega,by go_num,by rw [Hs.out];rfl,Hbn.out⟩
    case measure=>simp [intOf];omega
   | false =>
    rw [ht] at hlk Hs
    go_wp2_with (fail)
    go_roundw
    case rel=>exact ⟨m+1,by omega,by go_num,by rw [Hs.out];rfl,Hbn.out⟩
    case measure=>simp [intOf];omega
  ·go_wp2_with (fail)
   go_ret
   exact ⟨congrArg (fun z:Nat=>Ending.returned (.int .i64 (z:Int))) (by rw [List.take_of_length_le (by omega)]),hbw⟩
theorem ret_eq {a b:Int} (h:a=b):Ending.returned (.int .i64 a)=.returned (.int .i64 b):=by rw [h]
def nodeErr (x:Nd) (i:Int):Int:=if 1≤x.k∧x.k≤8 then chkN x i else 7
def chkFrom:List Nd→Nat→Int
 | [],_=>0
 | x :: r,i=>if nodeErr x i=0 then chkFrom r (i+1) else nodeErr x i
def chkF (F:List Nd):Int:=if F.length=0 then 1 else if 12 < F.length ∨ 4 < cntT F then 2 else chkFrom F 0
theorem chkFrom_drop (F:List Nd) (m:Nat) (h:m < F.length):chkFrom (F.drop m) m=if nodeErr (F.getD m nd0) m=0 then chkFrom (F.drop (m+1)) (m+1) else nodeErr (F.getD m nd0) m:=by
 rw [List.drop_eq_getElem_cons h]
 have:F.getD m nd0=F[m]:=by simp [List.getD,h]
 rw [this]
 rfl
theorem chkFrom_end (F:List Nd) (m:Nat) (h:F.length≤m):chkFrom (F.drop m) m=0:=by
 rw [List.drop_of_length_le h];rfl
theorem sgOf_some (k:Int):(sgOf k).isSome=decide (1≤k∧k≤8):=by
 unfold sgOf
 by_cases h1:k=1
 ·subst h1;rfl
 by_cases h2:k=2
 ·subst h2;rfl
 by_cases h3:k=3
 ·subst h3;rfl
 by_cases h4:k=4
 ·subst h4;rfl
 by_cases h5:k=5
 ·subst h5;rfl
 by_cases h6:k=6
 ·subst h6;rfl
 by_cases h7:k=7
 ·subst h7;rfl
 by_cases h8:k=8
 ·subst h8;rfl
 simp [h1,h2,h3,h4,h5,h6,h7,h8];omega
theorem formulaCheck_any {w:World}{v:Value}{F:List Nd} (hv:NodeSl w v F) :
  Calls Tryz.prog 54 #[v] w fun e w'=>e=.returned (.int .i64 (chkF F))∧Below w.heap.size w w':=by
 have HV:Hid _:=hide hv
 obtain ⟨a,cap,rfl,hm,hc,-⟩:=hv
 unfold maxLen at hm
 by_cases h0:F.length=0
 ·have e:chkF F=1:=by simp [chkF,h0]
  rw [e]
  have h8:((F.length:Int) == 0)=true:=by simpa using h0
  clear e h0
  go_enter Tryz.func54,Tryz.ntmps54
  go_wp2_with (fail)
  go_ret
  exact ⟨rfl,(by repeat (first | exact Below.refl _ _ | assumption | refine below_drewN ?_ _ | refine Below.drew ?_ | refine Below.alloc ?_ (by simp <;> omega) _ | refine below_trans ?_ (by assumption)))⟩
 have h8:((F.length:Int) == 0)=false:=by rw [beq_eq_false_iff_ne];omega
 by_cases h12:12 < F.length
 ·have e:chkF F=2:=by simp [chkF,h0,h12]
  rw [e]
  clear e h0
  go_enter Tryz.func54,Tryz.ntmps54
  go_wp2_with (fail)
  refine (signs_any _).mono ?_
  rintro e w1 ⟨r,rfl,hr,-,hb1⟩
  go_wp2_with (fail)
  go_ret
  exact ⟨rfl,hb1⟩
 have hle:F.length≤12:=by omega
 have HC:Hid (∀ w1 r,Below w.heap.size w w1→SgMap w1 r→Calls Tryz.prog 96 #[.slice a F.length cap,.map (some r)] w1 fun e w'=>e=.returned (.int .i64 (cntT F))∧Below w1.heap.size w1 w'):=fun w1 r hb hr=>countTemporal_any (HV.out.below hb) hr
 by_cases h4:4 < cntT F
 ·have e:chkF F=2:=by simp [chkF,h0,h4]
  rw [e]
  have h4':(4:Int) < cntT F:=by omega
  clear e h0 h12 h4
  go_enter Tryz.func54,Tryz.ntmps54
  go_wp2_with (fail)
  refine (signs_any _).mono ?_
  rintro e w1 ⟨r,rfl,hr,-,hb1⟩
  go_wp2_with (fail)
  refine (HC.out _ _ hb1 hr).mono ?_
  rintro e w2 ⟨rfl,hb2⟩
  go_wp2_with (fail)
  go_ret
  exact ⟨rfl,below_trans hb1 hb2⟩
 have e:chkF F=chkFrom F 0:=by simp [chkF,h0,h4,h12]
 have h4':(cntT F:Int)≤4:=by omega
 have E:Hid (chkF F=chkFrom F 0):=e
 clear e h0 h12 h4
 go_enter Tryz.func54,Tryz.ntmps54
 go_wp2_with (fail)
 refine (signs_any _).mono ?_
 rintro e w1 ⟨r,rfl,hr,-,hb1⟩
 have HR:Hid (SgMap w1 r):=hide hr
 clear hr
 go_wp2_with (fail)
 refine (HC.out _ _ hb1 HR.out).mono ?_
 rintro e w2 ⟨rfl,hb2⟩
 have hb:=below_trans hb1 hb2
 have HR2:Hid (SgMap w2 r):=hide (SgMap.below HR.out hb2)
 clear HR hb1 hb2
 go_wp2_with (fail)
 go_loopw [24] (fun i wr=>∃ m:Nat,m≤F.length∧i=.int .i64 m∧chkFrom F 0=chkFrom (F.drop m) m∧Below w2.heap.size w2 wr) (fun i _=>F.length - (intOf i).toNat)
 case atStart=>exact ⟨0,Nat.zero_le _,rfl,rfl,Below.refl _ _⟩
 case round =>
  obtain ⟨m,hml,rfl,hfr,hbw⟩:=hrel
  have Hfr:Hid _:=hfr
  clear hfr
  by_cases hlt:m < F.length
  ·rcases hc with hc | ⟨b,off,rfl,hc⟩
   ·subst hc;simp at hlt
   have hbw0:=below_trans hb hbw
   obtain ⟨c0,c1,c2,c3⟩:=hc m hlt
   rw [← hbw0.cell (World.block_lt_of_cell? w _ c0)] at c0
   rw [← hbw0.cell (World.block_lt_of_cell? w _ c1)] at c1
   rw [← hbw0.cell (World.block_lt_of_cell? w _ c2)] at c2
   rw [← hbw0.cell (World.block_lt_of_cell? w _ c3)] at c3
   have hd:=chkFrom_drop F m hlt
   rw [← Hfr.out] at hd
   have Hd:Hid _:=hd
   clear hd hc Hfr
   generalize F.getD m nd0=x at *
   have hlk:=(run_lookup_sign ((HR2.out.below hbw).below (below_new wr (Obj.cells #[.int .i64 x.k,.int .i64 x.a,.int .i64 x.b,.int .i64 x.n] 55))) x.k).2
   have hsm:=sgOf_some x.k
   have HK:Hid (∀ s w1,sgOf x.k=some s→Calls Tryz.prog 97 #[.agg #[.int .i64 x.k,.int .i64 x.a,.int .i64 x.b,.int .i64 x.n],.int .i64 m,sgV s] w1 fun e w'=>e=.returned (.int .i64 (chkN x m))∧Below w1.heap.size w1 w'):=fun s w1 hs=>checkNode_any x m s hs w1
   cases hs:sgOf x.k with
   | none =>
    rw [hs] at hlk hsm
    have hne:nodeErr x m=7:=by
     unfold nodeErr
     rw [if_neg]
     intro h
     rw [decide_eq_true h] at hsm
     cases hsm
    rw [hne] at Hd
    have hq:chkF F=7:=by rw [E.out,Hd.out];rfl
    have Hq:Hid (7=chkF F):=hq.symm
    clear hsm hs hne Hd hq E HK
    dsimp only [Option.getD_none,Option.isSome_none] at hlk
    unfold sgV sg0 at hlk
    obtain ⟨k,xa,xb,xn⟩:=x
    dsimp only at *
    go_wp2_with (fail)
    go_ret
    exact ⟨ret_eq Hq.out,below_trans hbw0 (by repeat (first | exact Below.refl _ _ | assumption | refine below_drewN ?_ _ | refine Below.drew ?_ | refine Below.alloc ?_ (by simp <;> omega) _ | refine below_trans ?_ (by assumption)))⟩
   | some s =>
    rw [hs] at hlk hsm
    have hne:nodeErr x m=chkN x m:=by
     unfold nodeErr
     rw [if_pos]
     have:decide (1≤x.k∧x.k≤8)=true:=by rw [← hsm];rfl
     simpa using this
    rw [hne] at Hd
    have HK':=hide (fun w1=>HK.out s w1 hs)
    clear hsm hs hne HK
    dsimp only [Option.getD_some,Option.isSome_some] at hlk
    obtain ⟨st,sp,sn,stm,so⟩:=s
    unfold sgV at hlk HK'
    generalize chkN x m=q at *
    obtain ⟨k,xa,xb,xn⟩:=x
    dsimp only at *
    go_wp2_with (fail)
    refine (HK'.out _).mono ?_
    rintro e w3 ⟨rfl,hb3⟩
    have hb4:Below wr.heap.size wr w3:=Below.trans (((Below.refl _ _).alloc (Nat.le_refl _) _).alloc (by simp) _) (hb3.mono (by simp <;> omega))
    clear hb3
    by_cases hq:q=0
    ·have bq:(q != 0)=false:=by simpa using hq
     rw [if_pos hq] at Hd
     clear hq
     go_wp2_with (fail)
     go_roundw
     case rel=>exact ⟨m+1,by omega,by go_num,Hd.out,below_trans hbw hb4⟩
     case measure=>simp [intOf];omega
    ·have bq:(q != 0)=true:=by simpa using hq
     rw [if_neg hq] at Hd
     clear hq
     go_wp2_with (fail)
     go_ret
     exact ⟨ret_eq (by rw [E.out,Hd.out]),below_trans hbw0 hb4⟩
  ·go_wp2_with (fail)
   go_ret
   exact ⟨ret_eq (by rw [E.out,Hfr.out,chkFrom_end F m (by omega)]),below_trans hb hbw⟩
theorem bit_and (x n:Int) (h0:0≤x) (h7:x≤7) (n0:0≤n) (n2:n≤2):(bits BinOp.and IntKind.i64 (x / 2 ^ n.toNat) 1 != 0)=decide (x / 2 ^ n.toNat % 2=1):=by
 have hx:x=0 ∨ x=1 ∨ x=2 ∨ x=3 ∨ x=4 ∨ x=5 ∨ x=6 ∨ x=7:=by omega
 have hn:n=0 ∨ n=1 ∨ n=2:=by omega
 rcases hx with rfl | rfl | rfl | rfl | rfl | rfl | rfl | rfl <;> rcases hn with rfl | rfl | rfl <;> decide +kernel
theorem wrap_u16 (x:Int):IntKind.u16.wrap x=x % 65536:=by
 simp [IntKind.wrap,IntKind.bits,IntKind.signed]
theorem bits_and_u16 (a b:Nat) (ha:a < 65536) (hb:b < 65536):bits .and .u16 (a:Int) (b:Int)=((a &&& b:Nat):Int):=by
 have hx:a &&& b < 2 ^ 16:=Nat.and_lt_two_pow _ (by omega)
 have h1:(BitVec.ofInt 16 (a:Int)).toNat=a:=by
  rw [BitVec.ofInt_natCast,BitVec.toNat_ofNat];exact Nat.mod_eq_of_lt (by omega)
 have h2:(BitVec.ofInt 16 (b:Int)).toNat=b:=by
  rw [BitVec.ofInt_natCast,BitVec.toNat_ofNat];exact Nat.mod_eq_of_lt (by omega)
 show IntKind.u16.wrap ((BitVec.ofInt 16 (a:Int) &&& BitVec.ofInt 16 (b:Int)).toNat:Int)=_
 rw [BitVec.toNat_and,h1,h2,wrap_u16]
 omega
theorem bits_or_u16 (a b:Nat) (ha:a < 65536) (hb:b < 65536):bits .or .u16 (a:Int) (b:Int)=((a ||| b:Nat):Int):=by
 have hx:a ||| b < 2 ^ 16:=Nat.or_lt_two_pow (by omega) (by omega)
 have h1:(BitVec.ofInt 16 (a:Int)).toNat=a:=by
  rw [BitVec.ofInt_natCast,BitVec.toNat_ofNat];exact Nat.mod_eq_of_lt (by omega)
 have h2:(BitVec.ofInt 16 (b:Int)).toNat=b:=by
  rw [BitVec.ofInt_natCast,BitVec.toNat_ofNat];exact Nat.mod_eq_of_lt (by omega)
 show IntKind.u16.wrap ((BitVec.ofInt 16 (a:Int) ||| BitVec.ofInt 16 (b:Int)).toNat:Int)=_
 rw [BitVec.toNat_or,h1,h2,wrap_u16]
 omega
theorem testBit_u16 (x k:Nat) (hx:x < 65536):(bits BinOp.and IntKind.u16 ((x:Int) / 2 ^ k) 1 != 0)=x.testBit k:=by
 have e1:(2:Int) ^ k=((2 ^ k:Nat):Int):=by simp
 have e:((x:Int) / 2 ^ k)=((x / 2 ^ k:Nat):Int):=by rw [e1];exact (Int.natCast_ediv x (2 ^ k)).symm
 have hle:x / 2 ^ k≤x:=Nat.div_le_self _ _
 rw [e,Nat.testBit_eq_decide_div_mod_eq]
 generalize x / 2 ^ k=y at *
 rw [show (1:Int)=((1:Nat):Int) from rfl,bits_and_u16 _ _ (by omega) (by omega),Nat.and_one_is_mod]
 rcases Nat.mod_two_eq_zero_or_one y with h | h <;> rw [h] <;> rfl
theorem orBit_u16 (x k:Nat) (hx:x < 65536) (hk:k < 16):bits BinOp.or IntKind.u16 (x:Int) (IntKind.u16.wrap (2 ^ k))=((addBit x k:Nat):Int):=by
 have e1:(2:Int) ^ k=((2 ^ k:Nat):Int):=by simp
 have hlt:2 ^ k < 2 ^ 16:=Nat.pow_lt_pow_right (by decide) hk
 have e2:IntKind.u16.wrap (2 ^ k)=((2 ^ k:Nat):Int):=by
  rw [wrap_u16,e1]
  generalize 2 ^ k=y at *
  omega
 rw [e2,bits_or_u16 x (2 ^ k) hx (by omega)]
 rfl
theorem tHas (s i:Nat) (w:World) (hs:s < 65536) (hi:i < 16) :
  Calls Tryz.prog 162 #[.int .u16 s,.int .i64 i] w fun e w'=>e=.returned (.bool (s.testBit i))∧w'=w:=by
 have Hr:=hide (testBit_u16 s i hs)
 have h0:0≤(i:Int):=by omega
 go_enter Tryz.func162,Tryz.ntmps162
 go_wp2
 go_ret
 exact ⟨by rw [← Hr.out];rfl,rfl⟩
theorem tWith (s i:Nat) (w:World) (hs:s < 65536) (hi:i < 16) :
  Calls Tryz.prog 113 #[.int .u16 s,.int .i64 i] w fun e w'=>e=.returned (.int .u16 (addBit s i:Nat))∧w'=w:=by
 have Hr:=hide (orBit_u16 s i hs hi)
 have h0:0≤(i:Int):=by omega
 go_enter Tryz.func113,Tryz.ntmps113
 go_wp2
 go_ret
 exact ⟨by rw [← Hr.out];rfl,rfl⟩
theorem bit_nat {c n:Int} (c0:0≤c):decide (c / 2 ^ n.toNat % 2=1)=c.toNat.testBit n.toNat:=by
 obtain ⟨x,rfl⟩:=Int.eq_ofNat_of_zero_le c0
 rw [Nat.testBit_eq_decide_div_mod_eq,Int.toNat_natCast]
 congr 1
 have e1:((x:Int) / 2 ^ n.toNat % 2=1) ↔ (((x / 2 ^ n.toNat % 2:Nat):Int)=((1:Nat):Int)):=by
  rw [Int.natCast_emod,Int.natCast_ediv,Int.natCast_pow];rfl
 rw [e1,Int.ofNat_inj]
theorem tHolds (k:Int) (a b:Nat) (n c:Int) (now:Nat) (nx:Bool) (w:World) (ha:a < 16) (hb:b < 16) (hn:k=2→0≤n∧n≤2) (c0:0≤c) (c7:c≤7) (hs:now < 65536) :
  Calls Tryz.prog 161 #[.agg #[.int .i64 k,.int .i64 a,.int .i64 b,.int .i64 n],.int .i64 c,.int .u16 now,.bool nx] w fun e w'=>e=.returned (.bool (nodeV ⟨k,a,b,n⟩ c (now.testBit a) (now.testBit b) nx))∧Below w.heap.size w w':=by
 have HC:=hide (fun (i:Nat) (hi:i < 16) W=>tHas now i W hs hi)
 have hbW:∀ q,Below w.heap.size w ((w.alloc (Obj.cells #[Value.int .i64 k,.int .i64 a,.int .i64 b,.int .i64 n] 55)).drewN q):=fun q=>below_drewN (by repeat (first | exact Below.refl _ _ | assumption | refine below_drewN ?_ _ | refine Below.drew ?_ | refine Below.alloc ?_ (by simp <;> omega) _ | refine below_trans ?_ (by assumption))) q
 have HV:=hide (show nodeV ⟨k,a,b,n⟩ c (now.testBit a) (now.testBit b) nx=if k=2 then c.toNat.testBit n.toNat else if k=3 then !now.testBit a else if k=4 then now.testBit a && now.testBit b else if k=5 then now.testBit a || now.testBit b else if k=6 then nx else if k=7 then now.testBit b || (now.testBit a && nx) else if k=8 then now.testBit b && (now.testBit a || nx) else true from rfl)
 generalize nodeV ⟨k,a,b,n⟩ c (now.testBit a) (now.testBit b) nx=val at *
 go_enter Tryz.func161,Tryz.ntmps161
 go_wp2_with (fail)
 refine wp_region_quiet_lit (by kernel_rfl) (by kernel_rfl) ?_
 (repeat (go_big_quiet_step (exact Calls.quiet_of_same (HC.out _ (by assumption) _))))
 refine wpQuiet_nil ?_
 intro _ hw';obtain ⟨nq,hw''⟩:=hw';subst hw''
 generalize now.testBit a=va at *
 generalize now.testBit b=vb at *
 have HbW:=hide hbW
 have Hn:=hide hn
 clear hbW hn HC
 by_cases h2:k=2
 ·subst h2
  obtain ⟨n0,n2⟩:=Hn.out rfl
  have HR:=hide ((bit_and c n c0 c7 n0 n2).trans (bit_nat c0))
  have HV2:=HV.out
  rw [if_pos rfl,← HR.out] at HV2
  subst HV2
  clear HV
  go_wp2
  go_ret
  exact ⟨rfl,HbW.out _⟩
 have b2:(k == 2)=false:=by simpa using h2
 have HV:=hide ((show val=_ from HV.out).trans (if_neg h2))
 clear h2 Hn
 by_cases h3:k=3
 ·subst h3
  have HV2:=HV.out
  rw [if_pos rfl] at HV2
  subst HV2
  clear HV
  go_wp2
  go_ret
  exact ⟨rfl,HbW.out _⟩
 have b3:(k == 3)=false:=by simpa using h3
 have HV:=hide ((show val=_ from HV.out).trans (if_neg h3))
 clear h3
 by_cases h4:k=4
 ·subst h4
  have HV2:=HV.out
  rw [if_pos rfl] at HV2
  subst HV2
  clear HV
  cases va
  all_goals
   go_wp2
   go_ret
   exact ⟨by simp,HbW.out _⟩
 have b4:(k == 4)=false:=by simpa using h4
 have HV:=hide ((show val=_ from HV.out).trans (if_neg h4))
 clear h4
 by_cases h5:k=5
 ·subst h5
  have HV2:=HV.out
  rw [if_pos rfl] at HV2
  subst HV2
  clear HV
  cases va
  all_goals
   go_wp2
   go_ret
   exact ⟨by simp,HbW.out _⟩
 have b5:(k == 5)=false:=by simpa using h5
 have HV:=hide ((show val=_ from HV.out).trans (if_neg h5))
 clear h5
 by_cases h6:k=6
 ·subst h6
  have HV2:=HV.out
  rw [if_pos rfl] at HV2
  subst HV2
  clear HV
  go_wp2
  go_ret
  exact ⟨rfl,HbW.out _⟩
 have b6:(k == 6)=false:=by simpa using h6
 have HV:=hide ((show val=_ from HV.out).trans (if_neg h6))
 clear h6
 by_cases h7:k=7
 ·subst h7
  have HV2:=HV.out
  rw [if_pos rfl] at HV2
  subst HV2
  clear HV
  cases vb <;> cases va
  all_goals
   go_wp2
   go_ret
   exact ⟨by simp,HbW.out _⟩
 have b7:(k == 7)=false:=by simpa using h7
 have HV:=hide ((show val=_ from HV.out).trans (if_neg h7))
 clear h7
 by_cases h8:k=8
 ·subst h8
  have HV2:=HV.out
  rw [if_pos rfl] at HV2
  subst HV2
  clear HV
  cases vb <;> cases va
  all_goals
   go_wp2
   go_ret
   exact ⟨by simp,HbW.out _⟩
 have b8:(k == 8)=false:=by simpa using h8
 have HV:=hide ((show val=_ from HV.out).trans (if_neg h8))
 clear h8
 have HV2:=HV.out
 subst HV2
 clear HV
 go_wp2
 go_ret
 exact ⟨rfl,HbW.out _⟩
structure RdOk (F:List Nd):Prop where
 ne:0 < F.length
 few:F.length≤12
 num:∀ i,i < F.length→0≤(F.getD i nd0).a∧(F.getD i nd0).a < 12∧0≤(F.getD i nd0).b∧(F.getD i nd0).b < 12∧((F.getD i nd0).k=2→0≤(F.getD i nd0).n∧(F.getD i nd0).n≤2)
theorem nowN_lt (F:List Nd) (c:Int) (next m:Nat) (hm:m≤16):nowN F c next m < 65536:=
 Nat.lt_of_lt_of_le (Nat.lt_pow_two_of_testBit _ (fun i hi=>nowN_high F c next i m hi)) (Nat.pow_le_pow_right (n:=2) (by decide) hm)
theorem tGood (fv:Value) (X:Nat) (la:Option Addr) (LL lc:Nat) (bg:Bool) (tl tu:Nat) (w:World) :
  Calls Tryz.prog 71 #[.agg #[fv,.int .u16 X,.slice la LL lc],.agg #[.bool bg,.int .u16 tl,.int .i64 tu]] w fun e w'=>e=.returned (.bool (decide (tu=LL)))∧Below w.heap.size w w':=by
 have HD:=hide (show ((tu:Int) == (LL:Int))=decide (tu=LL) by rw [Bool.eq_iff_iff];simp;omega)
 go_enter Tryz.func71,Tryz.ntmps71
 go_wp2
 go_ret
 exact ⟨by rw [← HD.out];rfl,(by repeat (first | exact Below.refl _ _ | assumption | refine below_drewN ?_ _ | refine Below.drew ?_ | refine Below.alloc ?_ (by simp <;> omega) _ | refine below_trans ?_ (by assumption)))⟩
theorem tNow {F:List Nd} (hF:RdOk F) (fv lv:Value) (X next:Nat) (c:Int) (w:World) (hv:NodeSl w fv F) (c0:0≤c) (c7:c≤7) (hx:next < 65536) :
  Calls Tryz.prog 119 #[.agg #[fv,.int .u16 X,lv],.int .i64 c,.int .u16 next] w fun e w'=>e=.returned (.int .u16 (nowL F c next:Nat))∧Below w.heap.size w w':=by
 obtain ⟨fa,fc,rfl,hfm,hcell,-,-⟩:=hv
 unfold maxLen at hfm
 have HN:=hide hF
 have HNow:=hide (show nowL F c next=nowN F c next F.length from rfl)
 have Hcell:=hide hcell
 generalize hL:F.length=L at *
 have HL:=hide hL
 clear hL hF hcell
 go_enter Tryz.func119,Tryz.ntmps119
 go_wp2_with (fail)
 go_loopw [7,13] (fun s7 s13 wr=>∃ m:Nat,s13=.int .i64 m∧m≤L∧s7=.int .u16 (nowN F c next m:Nat)∧Hid (Below w.heap.size w wr)) (fun _ s13 _=>L - (intOf s13).toNat)
 case atStart=>exact ⟨0,rfl,Nat.zero_le _,rfl,hide (by repeat (first | exact Below.refl _ _ | assumption | refine below_drewN ?_ _ | refine Below.drew ?_ | refine Below.alloc ?_ (by simp <;> omega) _ | refine below_trans ?_ (by assumption)))⟩
 case round =>
  obtain ⟨m,rfl,hm,rfl,HB⟩:=hrel
  have hf12:=HN.out.few
  rw [HL.out] at hf12
  have hlt:=nowN_lt F c next m (by omega)
  by_cases hmL:m < L
  ·have hml:m < F.length:=by rw [HL.out];exact hmL
   rcases Hcell.out with hz | ⟨b5,o5,e5,hc⟩
   ·rw [hz] at hml;simp at hml
   subst e5
   obtain ⟨q0,q1,q2,q3⟩:=hc m hmL
   have d0:=(HB.out.cell (World.block_lt_of_cell? w _ q0)).trans q0
   have d1:=(HB.out.cell (World.block_lt_of_cell? w _ q1)).trans q1
   have d2:=(HB.out.cell (World.block_lt_of_cell? w _ q2)).trans q2
   have d3:=(HB.out.cell (World.block_lt_of_cell? w _ q3)).trans q3
   obtain ⟨a0,a16,b0,b16,hn2⟩:=HN.out.num m hml
   have HS:=hide (show nowN F c next (m+1)=if nodeV (F.getD m nd0) c ((nowN F c next m).testBit (aN F m)) ((nowN F c next m).testBit (bN F m)) (next.testBit m)=true then addBit (nowN F c next m) m else nowN F c next m from rfl)
   unfold aN bN at HS
   clear q0 q1 q2 q3 hc
   generalize F.getD m nd0=x at *
   obtain ⟨k,xa,xb,xn⟩:=x
   dsimp only at *
   obtain ⟨na,rfl⟩:=Int.eq_ofNat_of_zero_le a0
   obtain ⟨nb,rfl⟩:=Int.eq_ofNat_of_zero_le b0
   rw [Int.toNat_natCast,Int.toNat_natCast] at HS
   have HSt:=hide (show nodeV ⟨k,na,nb,xn⟩ c ((nowN F c next m).testBit na) ((nowN F c next m).testBit nb) (next.testBit m)=true→nowN F c next (m+1)=addBit (nowN F c next m) m from fun h=>HS.out.trans (if_pos h))
   have HSf:=hide (show nodeV ⟨k,na,nb,xn⟩ c ((nowN F c next m).testBit na) ((nowN F c next m).testBit nb) (next.testBit m)=false→nowN F c next (m+1)=nowN F c next m from fun h=>HS.out.trans (if_neg (fun h2=>by rw [h] at h2;cases h2)))
   clear HS
   generalize hnow:nowN F c next m=now at *
   have hbx:=below_new wr (Obj.cells #[.int .i64 k,.int .i64 (na:Nat),.int .i64 (nb:Nat),.int .i64 xn] 55)
   have hox:=one_new wr (Obj.cells #[.int .i64 k,.int .i64 (na:Nat),.int .i64 (nb:Nat),.int .i64 xn] 55)
   have HB2:=hide (below_trans HB.out hbx)
   have HX:=hide hox
   clear hbx hox hnow
   go_wp2_with (fail)
   rename_i Q' K hK
   generalize wr.alloc (Obj.cells #[.int .i64 k,.int .i64 (na:Nat),.int .i64 (nb:Nat),.int .i64 xn] 55)=w5 at *
   refine wp_region_told [(0,18),(1,19),(2,20),(3,21),(4,22),(5,23),(6,24)] (fun W=>Below w5.heap.size w5 W) (fun j v _=>match j with | 0=>v=.agg #[.int .i64 k,.int .i64 (na:Nat),.int .i64 (nb:Nat),.int .i64 xn] | 1=>v=.int .i64 c | 2=>v=.int .u16 (now:Nat) | 3=>v=.int .u16 (next:Nat) | 4=>v=.int .i64 (m:Nat) | 5=>v=.bool (next.testBit m) | 6=>v=.bool (nodeV ⟨k,na,nb,xn⟩ c (now.testBit na) (now.testBit nb) (next.testBit m)) | _=>True) (by kernel_rfl) (by kernel_rfl) (by kernel_rfl) (Below.drew (Below.refl _ _)) ?_ ?_
   ·intro j o ho
    match j,ho with
    | 0,ho =>
     obtain rfl:=Option.some.inj ho
     refine stepOk_val fun a W vs hW he hd=>?_
     have e9:a.tmps[9]?.getD undef=.pointer (some ⟨wr.heap.size,0,none⟩):=free_val he 9 (by kernel_rfl)
     have hr:=belowRow hW HX.out
     have z0:=cell_of_row W _ 0 _ _ _ hr
     have z1:=cell_of_row W _ 1 _ _ _ hr
     have z2:=cell_of_row W _ 2 _ _ _ hr
     have z3:=cell_of_row W _ 3 _ _ _ hr
     exact ⟨.agg #[.int .i64 k,.int .i64 (na:Nat),.int .i64 (nb:Nat),.int .i64 xn],by simp [execOp,go_sem,e9,z0,z1,z2,z3],rfl⟩
    | 1,ho =>
     obtain rfl:=Option.some.inj ho
     refine stepOk_val fun a W vs hW he hd=>?_
     have e1:a.tmps[1]?.getD undef=.int .i64 c:=free_val he 1 (by kernel_rfl)
     exact ⟨.int .i64 c,by simp [execOp,go_sem,e1],rfl⟩
    | 2,ho =>
     obtain rfl:=Option.some.inj ho
     refine stepOk_val fun a W vs hW he hd=>?_
     have e7:a.tmps[7]?.getD undef=.int .u16 (now:Nat):=free_val he 7 (by kernel_rfl)
     exact ⟨.int .u16 (now:Nat),by simp [execOp,go_sem,e7],rfl⟩
    | 3,ho =>
     obtain rfl:=Option.some.inj ho
     refine stepOk_val fun a W vs hW he hd=>?_
     have e2:a.tmps[2]?.getD undef=.int .u16 (next:Nat):=free_val he 2 (by kernel_rfl)
     exact ⟨.int .u16 (next:Nat),by simp [execOp,go_sem,e2],rfl⟩
    | 4,ho =>
     obtain rfl:=Option.some.inj ho
     refine stepOk_val fun a W vs hW he hd=>?_
     have e8:a.tmps[8]?.getD undef=.int .i64 (m:Nat):=free_val he 8 (by kernel_rfl)
     exact ⟨.int .i64 (m:Nat),by simp [execOp,go_sem,e8],rfl⟩
    | 5,ho =>
     obtain rfl:=Option.some.inj ho
     refine stepOk_call fun a W vs hW he hd=>?_
     have v3:a.tmps[21]?.getD undef=.int .u16 (next:Nat):=(eval_tmp a 21).symm.trans (((hd 3 (by kernel_rfl)).2 21 (by kernel_rfl)).trans (hd 3 (by kernel_rfl)).1)
     have v4:a.tmps[22]?.getD undef=.int .i64 (m:Nat):=(eval_tmp a 22).symm.trans (((hd 4 (by kernel_rfl)).2 22 (by kernel_rfl)).trans (hd 4 (by kernel_rfl)).1)
     refine ⟨162,#[.int .u16 (next:Nat),.int .i64 (m:Nat)],by simp [execOp,go_sem,v3,v4],(tHas next m W hx (by omega)).mono ?_⟩
     rintro e W' ⟨rfl,rfl⟩
     exact ⟨_,rfl,hW,rfl,fun j x h=>h⟩
    | 6,ho =>
     obtain rfl:=Option.some.inj ho
     refine stepOk_call fun a W vs hW he hd=>?_
     have v0:a.tmps[18]?.getD undef=.agg #[.int .i64 k,.int .i64 (na:Nat),.int .i64 (nb:Nat),.int .i64 xn]:=(eval_tmp a 18).symm.trans (((hd 0 (by kernel_rfl)).2 18 (by kernel_rfl)).trans (hd 0 (by kernel_rfl)).1)
     have v1:a.tmps[19]?.getD undef=.int .i64 c:=(eval_tmp a 19).symm.trans (((hd 1 (by kernel_rfl)).2 19 (by kernel_rfl)).trans (hd 1 (by kernel_rfl)).1)
     have v2:a.tmps[20]?.getD undef=.int .u16 (now:Nat):=(eval_tmp a 20).symm.trans (((hd 2 (by kernel_rfl)).2 20 (by kernel_rfl)).trans (hd 2 (by kernel_rfl)).1)
     have v5:a.tmps[23]?.getD undef=.bool (next.testBit m):=(eval_tmp a 23).symm.trans (((hd 5 (by kernel_rfl)).2 23 (by kernel_rfl)).trans (hd 5 (by kernel_rfl)).1)
     refine ⟨161,#[.agg #[.int .i64 k,.int .i64 (na:Nat),.int .i64 (nb:Nat),.int .i64 xn],.int .i64 c,.int .u16 (now:Nat),.bool (next.testBit m)],by simp [execOp,go_sem,v0,v1,v2,v5],(tHolds k na nb xn c now (next.testBit m) W (by omega) (by omega) hn2 c0 c7 hlt).mono ?_⟩
     rintro e W' ⟨rfl,hb⟩
     exact ⟨_,rfl,below_trans hW hb,rfl,fun j x h=>h⟩
    | j+7,ho=>simp at ho
   ·intro vs W hW hRR
    have h6:vs 6=.bool (nodeV ⟨k,na,nb,xn⟩ c (now.testBit na) (now.testBit nb) (next.testBit m)):=hRR 6 (by decide)
    refine hK _ _ ?_
    simp only [putPairs,List.setIfInBounds_toArray,List.set_cons_succ,List.set_cons_zero]
    rw [h6]
    have HB3:=hide (below_trans HB2.out hW)
    clear hW hRR h6
    generalize nodeV ⟨k,na,nb,xn⟩ c (now.testBit na) (now.testBit nb) (next.testBit m)=val at *
    cases val with
    | true =>
     have HS:=hide (HSt.out rfl)
     clear HSt HSf
     go_wp2_with (fail)
     go_fit (tWith now m _ hlt (by omega))
     rintro e W' ⟨rfl,rfl⟩
     go_wp2_with (fail)
     go_roundw
     case rel=>exact ⟨m+1,by go_num,by omega,by rw [HS.out],HB3⟩
     case measure=>simp [intOf];omega
    | false =>
     have HS:=hide (HSf.out rfl)
     clear HSt HSf
     go_wp2_with (fail)
     go_roundw
     case rel=>exact ⟨m+1,by go_num,by omega,by rw [HS.out],HB3⟩
     case measure=>simp [intOf];omega
  ·obtain rfl:m=L:=by omega
   go_wp2_with (fail)
   go_ret
   exact ⟨by rw [HNow.out];rfl,HB.out⟩
end Go.Proofs.YtpiacnnifdjlkabGreatDoor
