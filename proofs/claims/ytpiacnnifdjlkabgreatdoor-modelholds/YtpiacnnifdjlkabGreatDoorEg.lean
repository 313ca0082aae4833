import Derived.Test.YtpiacnnifdjlkabGreatDoorEc
set_option maxRecDepth 100000
set_option maxHeartbeats 8000000
namespace Go.Proofs.YtpiacnnifdjlkabGreatDoor
open Go.RowKit Go.Sort
def NodeSl (w:World) (v:Value) (zs:List Nd):Prop:=
 ∃ a cap,v=.slice a zs.length cap∧zs.length≤maxLen∧(zs=[] ∨ ∃ b off,a=some ⟨b,off,none⟩∧∀ i,i < zs.length→w.cell? ⟨b,off+i * 4,none⟩=some (.int .i64 (zs.getD i nd0).k)∧w.cell? ⟨b,off+i * 4+1,none⟩=some (.int .i64 (zs.getD i nd0).a)∧w.cell? ⟨b,off+i * 4+2,none⟩=some (.int .i64 (zs.getD i nd0).b)∧w.cell? ⟨b,off+i * 4+3,none⟩=some (.int .i64 (zs.getD i nd0).n))∧(a=none→cap=0)∧zs.length≤cap
theorem NodeSl.below {w w':World}{v:Value}{zs:List Nd} (h:NodeSl w v zs) (hb:Below w.heap.size w w'):NodeSl w' v zs:=by
 obtain ⟨a,cap,rfl,hm,h,hn⟩:=h
 refine ⟨a,cap,rfl,hm,?_,hn⟩
 rcases h with h | ⟨b,off,rfl,hc⟩
 ·exact Or.inl h
 ·refine Or.inr ⟨b,off,rfl,fun i hi=>?_⟩
  obtain ⟨h1,h2,h3,h4⟩:=hc i hi
  refine ⟨?_,?_,?_,?_⟩
  ·rw [hb.cell (World.block_lt_of_cell? w _ h1)];exact h1
  ·rw [hb.cell (World.block_lt_of_cell? w _ h2)];exact h2
  ·rw [hb.cell (World.block_lt_of_cell? w _ h3)];exact h3
  ·rw [hb.cell (World.block_lt_of_cell? w _ h4)];exact h4
def tmpB (k:Int):Bool:=decide (6≤k∧k≤8)
def cntT (F:List Nd):Nat:=(F.filter fun x=>tmpB x.k).length
theorem cntT_snoc (F:List Nd) (m:Nat) (hm:m < F.length):cntT (F.take (m+1))=cntT (F.take m)+if tmpB (F.getD m nd0).k=true then 1 else 0:=by
 have e:F.take (m+1)=F.take m ++ [F.getD m nd0]:=by
  rw [List.take_succ_eq_append_getElem hm]
  simp [List.getD,hm]
 unfold cntT
 rw [e,List.filter_append,List.length_append]
 generalize F.getD m nd0=x
 cases h:tmpB x.k <;> simp [h]
theorem cntT_le (F:List Nd):cntT F≤F.length:=List.length_filter_le _ _
theorem sgOf_temp (k:Int):((sgOf k).getD sg0).temp=tmpB k:=by
 unfold sgOf tmpB
 by_cases h1:k=1
 ·subst h1;rfl
 by_cases h2:k=2
 ·subst h2;rfl
 by_cases h3:k=3
 ·subst h3;rfl
 by_cases h4:k=4
 ·subst h4;rfl
 by_cases h5:k=5
 ·subst h5;rfl
 by_cases h6:k=6
 ·subst h6;rfl
 by_cases h7:k=7
 ·subst h7;rfl
 by_cases h8:k=8
 ·subst h8;rfl
 simp [h1,h2,h3,h4,h5,h6,h7,h8,sg0];omega
theorem countTemporal_any {w:World}{v:Value}{F:List Nd}{r:Nat} (hv:NodeSl w v F) (hr:SgMap w r) :
  Calls Tryz.prog 96 #[v,.map (some r)] w fun e w'=>e=.returned (.int .i64 (cntT F))∧Below w.heap.size w w':=by
 have HL:Hid (∀ w1,Below w.heap.size w w1→∀ k,_):=fun w1 hb k=>(run_lookup_sign (hr.below hb) k).1
 obtain ⟨a,cap,rfl,hm,hc,-⟩:=hv
 unfold maxLen at hm
 have hfd:∀ (a b c d e:Value) (w:World),(Instr.field 141 (.agg #[a,b,c,d,e]) 3).run Tryz.prog w=.ok d w:=fun _ _ _ _ _ _=>rfl
 go_enter Tryz.func96,Tryz.ntmps96
 go_wp2_with (fail)
 go_loopw [5,10] (fun c i wr=>∃ m:Nat,m≤F.length∧i=.int .i64 m∧c=.int .i64 (cntT (F.take m))∧Below w.heap.size w wr) (fun _ i _=>F.length - (intOf i).toNat)
 case atStart=>exact ⟨0,Nat.zero_le _,rfl,rfl,Below.refl _ _⟩
 case round =>
  obtain ⟨m,hml,rfl,rfl,hbw⟩:=hrel
  by_cases hlt:m < F.length
  ·rcases hc with hc | ⟨b,off,rfl,hc⟩
   ·subst hc;simp at hlt
   obtain ⟨c0,c1,c2,c3⟩:=hc m hlt
   rw [← hbw.cell (World.block_lt_of_cell? w _ c0)] at c0
   rw [← hbw.cell (World.block_lt_of_cell? w _ c1)] at c1
   rw [← hbw.cell (World.block_lt_of_cell? w _ c2)] at c2
   rw [← hbw.cell (World.block_lt_of_cell? w _ c3)] at c3
   have hs:=cntT_snoc F m hlt
   have hl1:=cntT_le (F.take m)
   have hl2:(F.take m).length≤m:=List.length_take_le _ _
   generalize hx:F.getD m nd0=x at *
   have hlk:=HL.out _ (below_trans hbw (below_new wr (Obj.cells #[.int .i64 x.k,.int .i64 x.a,.int .i64 x.b,.int .i64 x.n] 55))) x.k
   have ht:=sgOf_temp x.k
   clear hc hx
   obtain ⟨k,xa,xb,xn⟩:=x
   dsimp only at *
   unfold sgV at hlk
   rw [ht] at hlk
   clear ht
   generalize (sgOf k).getD sg0=s at *
   have Hs:Hid _:=hs
   clear hs
   generalize hct:cntT (F.take m)=c at *
   have Hct:Hid (cntT (F.take m)=c):=hct
   clear hct
   have hbn:=below_trans hbw (below_new wr (Obj.cells #[.int .i64 k,.int .i64 xa,.int .i64 xb,.int .i64 xn] 55))
   have Hbn:Hid _:=hbn
   clear hbn
   cases ht:tmpB k with
   | true =>
    rw [ht] at hlk Hs
    go_wp2_with (fail)
    go_roundw
    case rel=>exact ⟨m+1,by omega,by go_num,by rw [Hs.out];rfl,Hbn.out⟩
    case measure=>simp [intOf];omega
   | false =>
    rw [ht] at hlk Hs
    go_wp2_with (fail)
    go_roundw
    case rel=>exact ⟨m+1,by omega,by go_num,by rw [Hs.out];rfl,Hbn.out⟩
    case measure=>simp [intOf];omega
  ·go_wp2_with (fail)
   go_ret
   exact ⟨congrArg (fun z:Nat=>Ending.returned (.int .i64 (z:Int))) (by rw [List.take_of_length_le (by omega)]),hbw⟩
theorem ret_eq {a b:Int} (h:a=b):Ending.returned (.int .i64 a)=.returned (.int .i64 b):=by rw [h]
def nodeErr (x:Nd) (i:Int):Int:=if 1≤x.k∧x.k≤8 then chkN x i else 7
def chkFrom:List Nd→Nat→Int
 | [],_=>0
 | x :: r,i=>if nodeErr x i=0 then chkFrom r (i+1) else nodeErr x i
def chkF (F:List Nd):Int:=if F.length=0 then 1 else if 12 < F.length ∨ 4 < cntT F then 2 else chkFrom F 0
theorem chkFrom_drop (F:List Nd) (m:Nat) (h:m < F.length):chkFrom (F.drop m) m=if nodeErr (F.getD m nd0) m=0 then chkFrom (F.drop (m+1)) (m+1) else nodeErr (F.getD m nd0) m:=by
 rw [List.drop_eq_getElem_cons h]
 have:F.getD m nd0=F[m]:=by simp [List.getD,h]
 rw [this]
 rfl
theorem chkFrom_end (F:List Nd) (m:Nat) (h:F.length≤m):chkFrom (F.drop m) m=0:=by
 rw [List.drop_of_length_le h];rfl
theorem sgOf_some (k:Int):(sgOf k).isSome=decide (1≤k∧k≤8):=by
 unfold sgOf
 by_cases h1:k=1
 ·subst h1;rfl
 by_cases h2:k=2
 ·subst h2;rfl
 by_cases h3:k=3
 ·subst h3;rfl
 by_cases h4:k=4
 ·subst h4;rfl
 by_cases h5:k=5
 ·subst h5;rfl
 by_cases h6:k=6
 ·subst h6;rfl
 by_cases h7:k=7
 ·subst h7;rfl
 by_cases h8:k=8
 ·subst h8;rfl
 simp [h1,h2,h3,h4,h5,h6,h7,h8];omega
theorem formulaCheck_any {w:World}{v:Value}{F:List Nd} (hv:NodeSl w v F) :
  Calls Tryz.prog 54 #[v] w fun e w'=>e=.returned (.int .i64 (chkF F))∧Below w.heap.size w w':=by
 have HV:Hid _:=hide hv
 obtain ⟨a,cap,rfl,hm,hc,-⟩:=hv
 unfold maxLen at hm
 by_cases h0:F.length=0
 ·have e:chkF F=1:=by simp [chkF,h0]
  rw [e]
  have h8:((F.length:Int) == 0)=true:=by simpa using h0
  clear e h0
  go_enter Tryz.func54,Tryz.ntmps54
  go_wp2_with (fail)
  go_ret
  exact ⟨rfl,(by repeat (first | exact Below.refl _ _ | assumption | refine below_drewN ?_ _ | refine Below.drew ?_ | refine Below.alloc ?_ (by simp <;> omega) _ | refine below_trans ?_ (by assumption)))⟩
 have h8:((F.length:Int) == 0)=false:=by rw [beq_eq_false_iff_ne];omega
 by_cases h12:12 < F.length
 ·have e:chkF F=2:=by simp [chkF,h0,h12]
  rw [e]
  clear e h0
  go_enter Tryz.func54,Tryz.ntmps54
  go_wp2_with (fail)
  refine (signs_any _).mono ?_
  rintro e w1 ⟨r,rfl,hr,-,hb1⟩
  go_wp2_with (fail)
  go_ret
  exact ⟨rfl,hb1⟩
 have hle:F.length≤12:=by omega
 have HC:Hid (∀ w1 r,Below w.heap.size w w1→SgMap w1 r→Calls Tryz.prog 96 #[.slice a F.length cap,.map (some r)] w1 fun e w'=>e=.returned (.int .i64 (cntT F))∧Below w1.heap.size w1 w'):=fun w1 r hb hr=>countTemporal_any (HV.out.below hb) hr
 by_cases h4:4 < cntT F
 ·have e:chkF F=2:=by simp [chkF,h0,h4]
  rw [e]
  have h4':(4:Int) < cntT F:=by omega
  clear e h0 h12 h4
  go_enter Tryz.func54,Tryz.ntmps54
  go_wp2_with (fail)
  refine (signs_any _).mono ?_
  rintro e w1 ⟨r,rfl,hr,-,hb1⟩
  go_wp2_with (fail)
  refine (HC.out _ _ hb1 hr).mono ?_
  rintro e w2 ⟨rfl,hb2⟩
  go_wp2_with (fail)
  go_ret
  exact ⟨rfl,below_trans hb1 hb2⟩
 have e:chkF F=chkFrom F 0:=by simp [chkF,h0,h4,h12]
 have h4':(cntT F:Int)≤4:=by omega
 have E:Hid (chkF F=chkFrom F 0):=e
 clear e h0 h12 h4
 go_enter Tryz.func54,Tryz.ntmps54
 go_wp2_with (fail)
 refine (signs_any _).mono ?_
 rintro e w1 ⟨r,rfl,hr,-,hb1⟩
 have HR:Hid (SgMap w1 r):=hide hr
 clear hr
 go_wp2_with (fail)
 refine (HC.out _ _ hb1 HR.out).mono ?_
 rintro e w2 ⟨rfl,hb2⟩
 have hb:=below_trans hb1 hb2
 have HR2:Hid (SgMap w2 r):=hide (SgMap.below HR.out hb2)
 clear HR hb1 hb2
 go_wp2_with (fail)
 go_loopw [24] (fun i wr=>∃ m:Nat,m≤F.length∧i=.int .i64 m∧chkFrom F 0=chkFrom (F.drop m) m∧Below w2.heap.size w2 wr) (fun i _=>F.length - (intOf i).toNat)
 case atStart=>exact ⟨0,Nat.zero_le _,rfl,rfl,Below.refl _ _⟩
 case round =>
  obtain ⟨m,hml,rfl,hfr,hbw⟩:=hrel
  have Hfr:Hid _:=hfr
  clear hfr
  by_cases hlt:m < F.length
  ·rcases hc with hc | ⟨b,off,rfl,hc⟩
   ·subst hc;simp at hlt
   have hbw0:=below_trans hb hbw
   obtain ⟨c0,c1,c2,c3⟩:=hc m hlt
   rw [← hbw0.cell (World.block_lt_of_cell? w _ c0)] at c0
   rw [← hbw0.cell (World.block_lt_of_cell? w _ c1)] at c1
   rw [← hbw0.cell (World.block_lt_of_cell? w _ c2)] at c2
   rw [← hbw0.cell (World.block_lt_of_cell? w _ c3)] at c3
   have hd:=chkFrom_drop F m hlt
   rw [← Hfr.out] at hd
   have Hd:Hid _:=hd
   clear hd hc Hfr
   generalize F.getD m nd0=x at *
   have hlk:=(run_lookup_sign ((HR2.out.below hbw).below (below_new wr (Obj.cells #[.int .i64 x.k,.int .i64 x.a,.int .i64 x.b,.int .i64 x.n] 55))) x.k).2
   have hsm:=sgOf_some x.k
   have HK:Hid (∀ s w1,sgOf x.k=some s→Calls Tryz.prog 97 #[.agg #[.int .i64 x.k,.int .i64 x.a,.int .i64 x.b,.int .i64 x.n],.int .i64 m,sgV s] w1 fun e w'=>e=.returned (.int .i64 (chkN x m))∧Below w1.heap.size w1 w'):=fun s w1 hs=>checkNode_any x m s hs w1
   cases hs:sgOf x.k with
   | none =>
    rw [hs] at hlk hsm
    have hne:nodeErr x m=7:=by
     unfold nodeErr
     rw [if_neg]
     intro h
     rw [decide_eq_true h] at hsm
     cases hsm
    rw [hne] at Hd
    have hq:chkF F=7:=by rw [E.out,Hd.out];rfl
    have Hq:Hid (7=chkF F):=hq.symm
    clear hsm hs hne Hd hq E HK
    dsimp only [Option.getD_none,Option.isSome_none] at hlk
    unfold sgV sg0 at hlk
    obtain ⟨k,xa,xb,xn⟩:=x
    dsimp only at *
    go_wp2_with (fail)
    go_ret
    exact ⟨ret_eq Hq.out,below_trans hbw0 (by repeat (first | exact Below.refl _ _ | assumption | refine below_drewN ?_ _ | refine Below.drew ?_ | refine Below.alloc ?_ (by simp <;> omega) _ | refine below_trans ?_ (by assumption)))⟩
   | some s =>
    rw [hs] at hlk hsm
    have hne:nodeErr x m=chkN x m:=by
     unfold nodeErr
     rw [if_pos]
     have:decide (1≤x.k∧x.k≤8)=true:=by rw [← hsm];rfl
     simpa using this
    rw [hne] at Hd
    have HK':=hide (fun w1=>HK.out s w1 hs)
    clear hsm hs hne HK
    dsimp only [Option.getD_some,Option.isSome_some] at hlk
    obtain ⟨st,sp,sn,stm,so⟩:=s
    unfold sgV at hlk HK'
    generalize chkN x m=q at *
    obtain ⟨k,xa,xb,xn⟩:=x
    dsimp only at *
    go_wp2_with (fail)
    refine (HK'.out _).mono ?_
    rintro e w3 ⟨rfl,hb3⟩
    have hb4:Below wr.heap.size wr w3:=Below.trans (((Below.refl _ _).alloc (Nat.le_refl _) _).alloc (by simp) _) (hb3.mono (by simp <;> omega))
    clear hb3
    by_cases hq:q=0
    ·have bq:(q != 0)=false:=by simpa using hq
     rw [if_pos hq] at Hd
     clear hq
     go_wp2_with (fail)
     go_roundw
     case rel=>exact ⟨m+1,by omega,by go_num,Hd.out,below_trans hbw hb4⟩
     case measure=>simp [intOf];omega
    ·have bq:(q != 0)=true:=by simpa using hq
     rw [if_neg hq] at Hd
     clear hq
     go_wp2_with (fail)
     go_ret
     exact ⟨ret_eq (by rw [E.out,Hd.out]),below_trans hbw0 hb4⟩
  ·go_wp2_with (fail)
   go_ret
   exact ⟨ret_eq (by rw [E.out,Hfr.out,chkFrom_end F m (by omega)]),below_trans hb hbw⟩
def btw (a b c:Int):Bool:=decide (b≤a∧a≤c)
def nB (k:Int):Bool:=decide (k=4 ∨ k=5 ∨ k=7 ∨ k=8)
theorem between_b (a b c:Int) (w:World):Calls Tryz.prog 56 #[.int .i64 a,.int .i64 b,.int .i64 c] w fun e w'=>e=.returned (.bool (btw a b c))∧w'=w:=between_any a b c w
theorem ret_bool {a b:Bool} (h:a=b):Ending.returned (.bool a)=.returned (.bool b):=by rw [h]
theorem namesA_any (k:Int) (w:World):Calls Tryz.prog 83 #[.int .i64 k] w fun e w'=>e=.returned (.bool (btw k 3 8))∧w'=w:=by
 go_enter Tryz.func83,Tryz.ntmps83
 go_wp2_with (fail)
 refine (between_b k 3 8 _).mono ?_
 rintro e w' ⟨rfl,rfl⟩
 go_wp2_with (fail)
 go_ret
 exact ⟨rfl,rfl⟩
theorem namesB_any (k:Int) (w:World):Calls Tryz.prog 84 #[.int .i64 k] w fun e w'=>e=.returned (.bool (nB k))∧w'=w:=by
 by_cases h4:k=4
 ·subst h4
  go_enter Tryz.func84,Tryz.ntmps84
  go_wp2_with (fail)
  go_ret
  exact ⟨rfl,rfl⟩
 by_cases h5:k=5
 ·subst h5
  go_enter Tryz.func84,Tryz.ntmps84
  go_wp2_with (fail)
  go_ret
  exact ⟨rfl,rfl⟩
 by_cases h7:k=7
 ·subst h7
  go_enter Tryz.func84,Tryz.ntmps84
  go_wp2_with (fail)
  go_ret
  exact ⟨rfl,rfl⟩
 have b4:(k == 4)=false:=by simpa using h4
 have b5:(k == 5)=false:=by simpa using h5
 have b7:(k == 7)=false:=by simpa using h7
 by_cases h8:k=8
 ·subst h8
  go_enter Tryz.func84,Tryz.ntmps84
  go_wp2_with (fail)
  go_ret
  exact ⟨rfl,rfl⟩
 have b8:(k == 8)=false:=by simpa using h8
 have e:nB k=false:=by simp [nB,h4,h5,h7,h8]
 rw [e]
 clear h4 h5 h7 h8 e
 go_enter Tryz.func84,Tryz.ntmps84
 go_wp2_with (fail)
 go_ret
 exact ⟨rfl,rfl⟩
theorem tooMany_any {w:World}{v:Value}{F:List Nd} (hv:NodeSl w v F) :
  Calls Tryz.prog 82 #[v] w fun e w'=>e=.returned (.bool (decide (12 < F.length ∨ 4 < cntT F)))∧Below w.heap.size w w':=by
 obtain ⟨a,cap,rfl,hm,hc,-⟩:=hv
 unfold maxLen at hm
 go_enter Tryz.func82,Tryz.ntmps82
 go_wp2_with (fail)
 go_loopw [3,4] (fun c i wr=>∃ m:Nat,m≤F.length∧i=.int .i64 m∧c=.int .i64 (cntT (F.take m))∧wr=w) (fun _ i _=>F.length - (intOf i).toNat)
 case atStart=>exact ⟨0,Nat.zero_le _,rfl,rfl,rfl⟩
 case round =>
  obtain ⟨m,hml,rfl,rfl,rfl⟩:=hrel
  by_cases hlt:m < F.length
  ·rcases hc with hc | ⟨b,off,rfl,hc⟩
   ·subst hc;simp at hlt
   obtain ⟨c0,c1,c2,c3⟩:=hc m hlt
   have hs:=cntT_snoc F m hlt
   have hl1:=cntT_le (F.take m)
   have hl2:(F.take m).length≤m:=List.length_take_le _ _
   generalize hx:F.getD m nd0=x at *
   clear hc hx
   obtain ⟨k,xa,xb,xn⟩:=x
   dsimp only at *
   have Hs:Hid _:=hs
   clear hs
   generalize hct:cntT (F.take m)=c at *
   have Hct:Hid (cntT (F.take m)=c):=hct
   clear hct
   have ht':tmpB k=btw k 6 8:=rfl
   have Ht':Hid _:=ht'
   clear ht'
   cases ht:tmpB k with
   | true =>
    rw [ht] at Hs Ht'
    clear ht
    go_wp2_with (fail)
    refine (between_b k 6 8 _).mono ?_
    rintro e w' ⟨rfl,rfl⟩
    rw [← Ht'.out]
    go_wp2_with (fail)
    go_roundw
    case rel=>exact ⟨m+1,by omega,by go_num,by rw [Hs.out];rfl,by first | rfl | trivial⟩
    case measure=>simp [intOf];omega
   | false =>
    rw [ht] at Hs Ht'
    clear ht
    go_wp2_with (fail)
    refine (between_b k 6 8 _).mono ?_
    rintro e w' ⟨rfl,rfl⟩
    rw [← Ht'.out]
    go_wp2_with (fail)
    go_roundw
    case rel=>exact ⟨m+1,by omega,by go_num,by rw [Hs.out];rfl,by first | rfl | trivial⟩
    case measure=>simp [intOf];omega
  ·have hx:F.take m=F:=List.take_of_length_le (by omega)
   have Hx:Hid (cntT (F.take m)=cntT F):=by rw [hx];exact hide rfl
   clear hx
   by_cases h12:12 < F.length
   ·go_wp2_with (fail)
    go_ret
    exact ⟨ret_bool (by simp),Below.refl _ _⟩
   ·have h13:F.length≤12:=by omega
    have Hn:Hid (¬ 12 < F.length):=h12
    clear h12
    go_wp2_with (fail)
    go_ret
    exact ⟨ret_bool (by rw [Hx.out,Bool.eq_iff_iff];have:=Hn.out;simp;omega),Below.refl _ _⟩
theorem nodeWays (x:Nd) (i:Int) :
  (btw x.k 1 8=false∧nodeErr x i=7) ∨
  (btw x.k 1 8=true∧btw x.k 3 8=true∧btw x.a 0 (i - 1)=false∧nodeErr x i=5) ∨
  (btw x.k 1 8=true∧btw x.k 3 8=true∧btw x.a 0 (i - 1)=true∧nB x.k=true∧btw x.b 0 (i - 1)=false∧nodeErr x i=5) ∨
  (btw x.k 1 8=true∧btw x.k 3 8=true∧btw x.a 0 (i - 1)=true∧nB x.k=true∧btw x.b 0 (i - 1)=true∧(x.k == 2)=false∧(x.k != 2)=true∧(x.n != 0)=true∧nodeErr x i=1) ∨
  (btw x.k 1 8=true∧btw x.k 3 8=true∧btw x.a 0 (i - 1)=true∧nB x.k=true∧btw x.b 0 (i - 1)=true∧(x.k == 2)=false∧(x.k != 2)=true∧(x.n != 0)=false∧nodeErr x i=0) ∨
  (btw x.k 1 8=true∧btw x.k 3 8=true∧btw x.a 0 (i - 1)=true∧nB x.k=false∧(x.k == 2)=false∧(x.b != 0)=true∧nodeErr x i=1) ∨
  (btw x.k 1 8=true∧btw x.k 3 8=true∧btw x.a 0 (i - 1)=true∧nB x.k=false∧(x.k == 2)=false∧(x.b != 0)=false∧(x.k != 2)=true∧(x.n != 0)=true∧nodeErr x i=1) ∨
  (btw x.k 1 8=true∧btw x.k 3 8=true∧btw x.a 0 (i - 1)=true∧nB x.k=false∧(x.k == 2)=false∧(x.b != 0)=false∧(x.k != 2)=true∧(x.n != 0)=false∧nodeErr x i=0) ∨
  (btw x.k 1 8=true∧btw x.k 3 8=false∧nB x.k=false∧(x.k == 2)=false∧(x.a != 0)=true∧nodeErr x i=1) ∨
  (btw x.k 1 8=true∧btw x.k 3 8=false∧nB x.k=false∧(x.k == 2)=false∧(x.a != 0)=false∧(x.b != 0)=true∧nodeErr x i=1) ∨
  (btw x.k 1 8=true∧btw x.k 3 8=false∧nB x.k=false∧(x.k == 2)=false∧(x.a != 0)=false∧(x.b != 0)=false∧(x.k != 2)=true∧(x.n != 0)=true∧nodeErr x i=1) ∨
  (btw x.k 1 8=true∧btw x.k 3 8=false∧nB x.k=false∧(x.k == 2)=false∧(x.a != 0)=false∧(x.b != 0)=false∧(x.k != 2)=true∧(x.n != 0)=false∧nodeErr x i=0) ∨
  (btw x.k 1 8=true∧btw x.k 3 8=false∧nB x.k=false∧(x.k == 2)=true∧btw x.n 0 2=false∧nodeErr x i=3) ∨
  (btw x.k 1 8=true∧btw x.k 3 8=false∧nB x.k=false∧(x.k == 2)=true∧btw x.n 0 2=true∧(x.a != 0)=true∧nodeErr x i=1) ∨
  (btw x.k 1 8=true∧btw x.k 3 8=false∧nB x.k=false∧(x.k == 2)=true∧btw x.n 0 2=true∧(x.a != 0)=false∧(x.b != 0)=true∧nodeErr x i=1) ∨
  (btw x.k 1 8=true∧btw x.k 3 8=false∧nB x.k=false∧(x.k == 2)=true∧btw x.n 0 2=true∧(x.a != 0)=false∧(x.b != 0)=false∧(x.k != 2)=false∧nodeErr x i=0):=by
 obtain ⟨k,a,b,n⟩:=x
 simp only [btw,nB,nodeErr,chkN,decide_eq_true_eq,decide_eq_false_iff_not,beq_iff_eq,beq_eq_false_iff_ne,bne_iff_ne,bne_eq_false_iff_eq,ne_eq]
 by_cases h1:1≤k∧k≤8
 ·rw [if_pos h1]
  by_cases hA:3≤k∧k≤8
  ·have h2:¬ k=2:=by omega
   by_cases hDA:0≤a∧a≤i - 1
   ·have hDA':0≤a∧a < i:=by omega
    by_cases hB:k=4 ∨ k=5 ∨ k=7 ∨ k=8
    ·by_cases hDB:0≤b∧b≤i - 1
     ·have hDB':0≤b∧b < i:=by omega
      by_cases hN:n=0 <;> simp [h1,hA,hDA,hDA',hB,hDB,hDB',h2,hN]
     ·have hDB':¬ (0≤b∧b < i):=by omega
      simp [h1,hA,hDA,hDA',hB,hDB,hDB',h2]
    ·by_cases hb:b=0
     ·by_cases hN:n=0 <;> simp [h1,hA,hDA,hDA',hB,h2,hb,hN]
     ·simp [h1,hA,hDA,hDA',hB,h2,hb]
   ·have hDA':¬ (0≤a∧a < i):=by omega
    simp [h1,hA,hDA,hDA',h2]
  ·by_cases h2:k=2
   ·subst h2
    by_cases hDN:0≤n∧n≤2
    ·by_cases ha:a=0
     ·by_cases hb:b=0 <;> simp [hDN,ha,hb]
     ·simp [hDN,ha]
    ·simp [hDN]
   ·have h3:k=1:=by omega
    subst h3
    by_cases ha:a=0
    ·by_cases hb:b=0
     ·by_cases hN:n=0 <;> simp [ha,hb,hN]
     ·simp [ha,hb]
    ·simp [ha]
 ·simp [h1]
theorem checkFormula_loop {w:World}{F:List Nd}{a:Option Addr}{cap:Nat} (hle:F.length≤12) (hv:NodeSl w (.slice a F.length cap) F) (h8:((F.length:Int) == 0)=false) (ht:decide (12 < F.length ∨ 4 < cntT F)=false) (q:Int) (hq:chkFrom F 0=q) :
  Calls Tryz.prog 37 #[.slice a F.length cap] w fun e w'=>e=.returned (.int .i64 q)∧Below w.heap.size w w':=by
 have HT:=hide (tooMany_any hv)
 have HQ:Hid _:=hide hq
 obtain ⟨a',cap',he,hm,hc,-⟩:=hv
 cases he
 unfold maxLen at hm
 clear hq
 go_enter Tryz.func37,Tryz.ntmps37
 go_wp2_with (fail)
 refine HT.out.mono ?_
 rintro e w1 ⟨rfl,hb⟩
 rw [ht]
 clear ht HT
 go_wp2_with (fail)
 go_loopw [3] (fun i wr=>∃ m:Nat,m≤F.length∧i=.int .i64 m∧chkFrom F 0=chkFrom (F.drop m) m∧Below w1.heap.size w1 wr) (fun i _=>F.length - (intOf i).toNat)
 case atStart=>exact ⟨0,Nat.zero_le _,rfl,rfl,Below.refl _ _⟩
 case round =>
  obtain ⟨m,hml,rfl,hfr,hbw⟩:=hrel
  have Hfr:Hid _:=hfr
  clear hfr
  by_cases hlt:m < F.length
  ·rcases hc with hc | ⟨b,off,rfl,hc⟩
   ·subst hc;simp at hlt
   have hbw0:=below_trans hb hbw
   obtain ⟨c0,c1,c2,c3⟩:=hc m hlt
   rw [← hbw0.cell (World.block_lt_of_cell? w _ c0)] at c0
   rw [← hbw0.cell (World.block_lt_of_cell? w _ c1)] at c1
   rw [← hbw0.cell (World.block_lt_of_cell? w _ c2)] at c2
   rw [← hbw0.cell (World.block_lt_of_cell? w _ c3)] at c3
   have hd:=chkFrom_drop F m hlt
   rw [← Hfr.out,HQ.out] at hd
   have Hd:Hid _:=hd
   clear hd hc
   generalize F.getD m nd0=x at *
   have hbn:Below w.heap.size w (wr.alloc (Obj.cells #[.int .i64 x.k,.int .i64 x.a,.int .i64 x.b,.int .i64 x.n] 55)):=below_trans hbw0 (below_new wr _)
   have hbr:Below w1.heap.size w1 (wr.alloc (Obj.cells #[.int .i64 x.k,.int .i64 x.a,.int .i64 x.b,.int .i64 x.n] 55)):=below_trans hbw (below_new wr _)
   have HN:=hide hbn
   have HR:=hide hbr
   clear hbn hbr
   have hways:=nodeWays x m
   obtain ⟨k,xa,xb,xn⟩:=x
   dsimp only at *
   rcases hways with hw | hw | hw | hw | hw | hw | hw | hw | hw | hw | hw | hw | hw | hw | hw | hw
   ·obtain ⟨g0,hne⟩:=hw
    rw [hne] at Hd
    clear hne
    go_wp2_with (first | (go_at_call 56;refine (between_b _ _ _ _).mono ?_;rintro e w' ⟨rfl,rfl⟩) | (go_at_call 83;refine (namesA_any _ _).mono ?_;rintro e w' ⟨rfl,rfl⟩) | (go_at_call 84;refine (namesB_any _ _).mono ?_;rintro e w' ⟨rfl,rfl⟩))
    go_ret
    exact ⟨ret_eq (by rw [Hd.out];rfl),HN.out⟩
   ·obtain ⟨g0,g1,g2,hne⟩:=hw
    rw [hne] at Hd
    clear hne
    go_wp2_with (first | (go_at_call 56;refine (between_b _ _ _ _).mono ?_;rintro e w' ⟨rfl,rfl⟩) | (go_at_call 83;refine (namesA_any _ _).mono ?_;rintro e w' ⟨rfl,rfl⟩) | (go_at_call 84;refine (namesB_any _ _).mono ?_;rintro e w' ⟨rfl,rfl⟩))
    go_ret
    exact ⟨ret_eq (by rw [Hd.out];rfl),HN.out⟩
   ·obtain ⟨g0,g1,g2,g3,g4,hne⟩:=hw
    rw [hne] at Hd
    clear hne
    go_wp2_with (first | (go_at_call 56;refine (between_b _ _ _ _).mono ?_;rintro e w' ⟨rfl,rfl⟩) | (go_at_call 83;refine (namesA_any _ _).mono ?_;rintro e w' ⟨rfl,rfl⟩) | (go_at_call 84;refine (namesB_any _ _).mono ?_;rintro e w' ⟨rfl,rfl⟩))
    go_ret
    exact ⟨ret_eq (by rw [Hd.out];rfl),HN.out⟩
   ·obtain ⟨g0,g1,g2,g3,g4,g5,g6,g7,hne⟩:=hw
    rw [hne] at Hd
    clear hne
    go_wp2_with (first | (go_at_call 56;refine (between_b _ _ _ _).mono ?_;rintro e w' ⟨rfl,rfl⟩) | (go_at_call 83;refine (namesA_any _ _).mono ?_;rintro e w' ⟨rfl,rfl⟩) | (go_at_call 84;refine (namesB_any _ _).mono ?_;rintro e w' ⟨rfl,rfl⟩))
    go_ret
    exact ⟨ret_eq (by rw [Hd.out];rfl),HN.out⟩
   ·obtain ⟨g0,g1,g2,g3,g4,g5,g6,g7,hne⟩:=hw
    rw [hne] at Hd
    clear hne
    go_wp2_with (first | (go_at_call 56;refine (between_b _ _ _ _).mono ?_;rintro e w' ⟨rfl,rfl⟩) | (go_at_call 83;refine (namesA_any _ _).mono ?_;rintro e w' ⟨rfl,rfl⟩) | (go_at_call 84;refine (namesB_any _ _).mono ?_;rintro e w' ⟨rfl,rfl⟩))
    go_roundw
    case rel=>exact ⟨m+1,by omega,by go_num,(by rw [HQ.out,Hd.out];rfl),HR.out⟩
    case measure=>simp [intOf];omega
   ·obtain ⟨g0,g1,g2,g3,g4,g5,hne⟩:=hw
    rw [hne] at Hd
    clear hne
    go_wp2_with (first | (go_at_call 56;refine (between_b _ _ _ _).mono ?_;rintro e w' ⟨rfl,rfl⟩) | (go_at_call 83;refine (namesA_any _ _).mono ?_;rintro e w' ⟨rfl,rfl⟩) | (go_at_call 84;refine (namesB_any _ _).mono ?_;rintro e w' ⟨rfl,rfl⟩))
    go_ret
    exact ⟨ret_eq (by rw [Hd.out];rfl),HN.out⟩
   ·obtain ⟨g0,g1,g2,g3,g4,g5,g6,g7,hne⟩:=hw
    rw [hne] at Hd
    clear hne
    go_wp2_with (first | (go_at_call 56;refine (between_b _ _ _ _).mono ?_;rintro e w' ⟨rfl,rfl⟩) | (go_at_call 83;refine (namesA_any _ _).mono ?_;rintro e w' ⟨rfl,rfl⟩) | (go_at_call 84;refine (namesB_any _ _).mono ?_;rintro e w' ⟨rfl,rfl⟩))
    go_ret
    exact ⟨ret_eq (by rw [Hd.out];rfl),HN.out⟩
   ·obtain ⟨g0,g1,g2,g3,g4,g5,g6,g7,hne⟩:=hw
    rw [hne] at Hd
    clear hne
    go_wp2_with (first | (go_at_call 56;refine (between_b _ _ _ _).mono ?_;rintro e w' ⟨rfl,rfl⟩) | (go_at_call 83;refine (namesA_any _ _).mono ?_;rintro e w' ⟨rfl,rfl⟩) | (go_at_call 84;refine (namesB_any _ _).mono ?_;rintro e w' ⟨rfl,rfl⟩))
    go_roundw
    case rel=>exact ⟨m+1,by omega,by go_num,(by rw [HQ.out,Hd.out];rfl),HR.out⟩
    case measure=>simp [intOf];omega
   ·obtain ⟨g0,g1,g2,g3,g4,hne⟩:=hw
    rw [hne] at Hd
    clear hne
    go_wp2_with (first | (go_at_call 56;refine (between_b _ _ _ _).mono ?_;rintro e w' ⟨rfl,rfl⟩) | (go_at_call 83;refine (namesA_any _ _).mono ?_;rintro e w' ⟨rfl,rfl⟩) | (go_at_call 84;refine (namesB_any _ _).mono ?_;rintro e w' ⟨rfl,rfl⟩))
    go_ret
    exact ⟨ret_eq (by rw [Hd.out];rfl),HN.out⟩
   ·obtain ⟨g0,g1,g2,g3,g4,g5,hne⟩:=hw
    rw [hne] at Hd
    clear hne
    go_wp2_with (first | (go_at_call 56;refine (between_b _ _ _ _).mono ?_;rintro e w' ⟨rfl,rfl⟩) | (go_at_call 83;refine (namesA_any _ _).mono ?_;rintro e w' ⟨rfl,rfl⟩) | (go_at_call 84;refine (namesB_any _ _).mono ?_;rintro e w' ⟨rfl,rfl⟩))
    go_ret
    exact ⟨ret_eq (by rw [Hd.out];rfl),HN.out⟩
   ·obtain ⟨g0,g1,g2,g3,g4,g5,g6,g7,hne⟩:=hw
    rw [hne] at Hd
    clear hne
    go_wp2_with (first | (go_at_call 56;refine (between_b _ _ _ _).mono ?_;rintro e w' ⟨rfl,rfl⟩) | (go_at_call 83;refine (namesA_any _ _).mono ?_;rintro e w' ⟨rfl,rfl⟩) | (go_at_call 84;refine (namesB_any _ _).mono ?_;rintro e w' ⟨rfl,rfl⟩))
    go_ret
    exact ⟨ret_eq (by rw [Hd.out];rfl),HN.out⟩
   ·obtain ⟨g0,g1,g2,g3,g4,g5,g6,g7,hne⟩:=hw
    rw [hne] at Hd
    clear hne
    go_wp2_with (first | (go_at_call 56;refine (between_b _ _ _ _).mono ?_;rintro e w' ⟨rfl,rfl⟩) | (go_at_call 83;refine (namesA_any _ _).mono ?_;rintro e w' ⟨rfl,rfl⟩) | (go_at_call 84;refine (namesB_any _ _).mono ?_;rintro e w' ⟨rfl,rfl⟩))
    go_roundw
    case rel=>exact ⟨m+1,by omega,by go_num,(by rw [HQ.out,Hd.out];rfl),HR.out⟩
    case measure=>simp [intOf];omega
   ·obtain ⟨g0,g1,g2,g3,g4,hne⟩:=hw
    rw [hne] at Hd
    clear hne
    go_wp2_with (first | (go_at_call 56;refine (between_b _ _ _ _).mono ?_;rintro e w' ⟨rfl,rfl⟩) | (go_at_call 83;refine (namesA_any _ _).mono ?_;rintro e w' ⟨rfl,rfl⟩) | (go_at_call 84;refine (namesB_any _ _).mono ?_;rintro e w' ⟨rfl,rfl⟩))
    go_ret
    exact ⟨ret_eq (by rw [Hd.out];rfl),HN.out⟩
   ·obtain ⟨g0,g1,g2,g3,g4,g5,hne⟩:=hw
    rw [hne] at Hd
    clear hne
    go_wp2_with (first | (go_at_call 56;refine (between_b _ _ _ _).mono ?_;rintro e w' ⟨rfl,rfl⟩) | (go_at_call 83;refine (namesA_any _ _).mono ?_;rintro e w' ⟨rfl,rfl⟩) | (go_at_call 84;refine (namesB_any _ _).mono ?_;rintro e w' ⟨rfl,rfl⟩))
    go_ret
    exact ⟨ret_eq (by rw [Hd.out];rfl),HN.out⟩
   ·obtain ⟨g0,g1,g2,g3,g4,g5,g6,hne⟩:=hw
    rw [hne] at Hd
    clear hne
    go_wp2_with (first | (go_at_call 56;refine (between_b _ _ _ _).mono ?_;rintro e w' ⟨rfl,rfl⟩) | (go_at_call 83;refine (namesA_any _ _).mono ?_;rintro e w' ⟨rfl,rfl⟩) | (go_at_call 84;refine (namesB_any _ _).mono ?_;rintro e w' ⟨rfl,rfl⟩))
    go_ret
    exact ⟨ret_eq (by rw [Hd.out];rfl),HN.out⟩
   ·obtain ⟨g0,g1,g2,g3,g4,g5,g6,g7,hne⟩:=hw
    rw [hne] at Hd
    clear hne
    go_wp2_with (first | (go_at_call 56;refine (between_b _ _ _ _).mono ?_;rintro e w' ⟨rfl,rfl⟩) | (go_at_call 83;refine (namesA_any _ _).mono ?_;rintro e w' ⟨rfl,rfl⟩) | (go_at_call 84;refine (namesB_any _ _).mono ?_;rintro e w' ⟨rfl,rfl⟩))
    go_roundw
    case rel=>exact ⟨m+1,by omega,by go_num,(by rw [HQ.out,Hd.out];rfl),HR.out⟩
    case measure=>simp [intOf];omega
  ·go_wp2_with (fail)
   go_ret
   exact ⟨ret_eq (by rw [← HQ.out,Hfr.out,chkFrom_end F m (by omega)]),below_trans hb hbw⟩
theorem checkFormula_any {w:World}{v:Value}{F:List Nd} (hv:NodeSl w v F) :
  Calls Tryz.prog 37 #[v] w fun e w'=>e=.returned (.int .i64 (chkF F))∧Below w.heap.size w w':=by
 have HT:=hide (tooMany_any hv)
 have HV:=hide hv
 obtain ⟨a,cap,rfl,hm,-,-⟩:=hv
 unfold maxLen at hm
 by_cases h0:F.length=0
 ·have e:chkF F=1:=by simp [chkF,h0]
  rw [e]
  have h8:((F.length:Int) == 0)=true:=by simpa using h0
  clear e h0
  go_enter Tryz.func37,Tryz.ntmps37
  go_wp2_with (fail)
  go_ret
  exact ⟨rfl,(by repeat (first | exact Below.refl _ _ | assumption | refine below_drewN ?_ _ | refine Below.drew ?_ | refine Below.alloc ?_ (by simp <;> omega) _ | refine below_trans ?_ (by assumption)))⟩
 have h8:((F.length:Int) == 0)=false:=by rw [beq_eq_false_iff_ne];omega
 by_cases h12:12 < F.length ∨ 4 < cntT F
 ·have e:chkF F=2:=by simp [chkF,h0,h12]
  rw [e]
  have ht:decide (12 < F.length ∨ 4 < cntT F)=true:=by simp [h12]
  clear e h0 h12
  go_enter Tryz.func37,Tryz.ntmps37
  go_wp2_with (fail)
  refine HT.out.mono ?_
  rintro e w1 ⟨rfl,hb⟩
  rw [ht]
  clear ht HT
  go_wp2_with (fail)
  go_ret
  exact ⟨rfl,hb⟩
 have e:chkF F=chkFrom F 0:=by simp only [chkF,h0,h12,if_false]
 exact checkFormula_loop (by omega) HV.out h8 (by simpa using h12) _ e.symm
def RowSl (w:World) (v:Value) (zs:List Bool):Prop:=
 ∃ a cap,v=.slice a zs.length cap∧zs.length≤maxLen∧(zs=[] ∨ ∃ b off,a=some ⟨b,off,none⟩∧∀ i,i < zs.length→w.cell? ⟨b,off+i,none⟩=some (.bool (zs.getD i false)))∧(a=none→cap=0)∧zs.length≤cap
theorem RowSl.below {w w':World}{v:Value}{zs:List Bool} (h:RowSl w v zs) (hb:Below w.heap.size w w'):RowSl w' v zs:=by
 obtain ⟨a,cap,rfl,hm,h,hn⟩:=h
 refine ⟨a,cap,rfl,hm,?_,hn⟩
 rcases h with h | ⟨b,off,rfl,hc⟩
 ·exact Or.inl h
 ·refine Or.inr ⟨b,off,rfl,fun i hi=>?_⟩
  have:=hc i hi
  rw [hb.cell (World.block_lt_of_cell? w _ this)];exact this
theorem RowSl.at {w:World}{v:Value}{zs:List Bool} (h:RowSl w v zs) (i:Nat) (hi:i < zs.length):∃ b off cap,v=.slice (some ⟨b,off,none⟩) zs.length cap∧w.cell? ⟨b,off+i,none⟩=some (.bool (zs.getD i false))∧zs.length≤9223372036854775807:=by
 obtain ⟨a,cap,rfl,hm,h,hn⟩:=h
 rcases h with h | ⟨b,off,rfl,hc⟩
 ·subst h;simp at hi
 ·exact ⟨b,off,cap,rfl,hc i hi,by unfold maxLen at hm;omega⟩
theorem IntSl.at {w:World}{v:Value}{zs:List Int} (h:IntSl w v zs) (i:Nat) (hi:i < zs.length):∃ b off cap,v=.slice (some ⟨b,off,none⟩) zs.length cap∧w.cell? ⟨b,off+i,none⟩=some (.int .i64 (zs.getD i 0))∧zs.length≤9223372036854775807:=by
 obtain ⟨a,cap,rfl,hm,h,hn⟩:=h
 rcases h with h | ⟨b,off,rfl,hc⟩
 ·subst h;simp at hi
 ·exact ⟨b,off,cap,rfl,hc i hi,by unfold maxLen at hm;omega⟩
theorem rule2_any {w:World}{av:Value}{A:List Bool} (i:Nat) (nx:Bool) (pa:Nat) (ha:w.cell? ⟨pa,0,none⟩=some av) (hA:RowSl w av A) (hi:i < A.length) :
  Calls Tryz.prog 166 #[.int .i64 i,.bool nx,.pointer (some ⟨pa,0,none⟩)] w fun e w'=>e=.returned (.bool (!A.getD i false))∧w'=w:=by
 obtain ⟨b,off,cap,rfl,hc,hm⟩:=hA.at i hi
 clear hA
 generalize A.getD i false=x at *
 go_enter Tryz.func166,Tryz.ntmps166
 go_wp2_with (fail)
 go_ret
 exact ⟨rfl,rfl⟩
theorem rule8_any {w:World} (i:Int) (nx:Bool) :
  Calls Tryz.prog 173 #[.int .i64 i,.bool nx] w fun e w'=>e=.returned (.bool true)∧w'=w:=by
 go_enter Tryz.func173,Tryz.ntmps173
 go_wp2_with (fail)
 go_ret
 exact ⟨rfl,rfl⟩
theorem rule3_any {w:World}{av bv:Value}{A B:List Bool} (i:Nat) (nx:Bool) (pa pb:Nat) (ha:w.cell? ⟨pa,0,none⟩=some av) (hA:RowSl w av A) (hi:i < A.length) (hb:w.cell? ⟨pb,0,none⟩=some bv) (hB:RowSl w bv B) (hj:i < B.length) :
  Calls Tryz.prog 167 #[.int .i64 i,.bool nx,.pointer (some ⟨pa,0,none⟩),.pointer (some ⟨pb,0,none⟩)] w fun e w'=>e=.returned (.bool (A.getD i false && B.getD i false))∧w'=w:=by
 obtain ⟨b,off,cap,rfl,hc,hm⟩:=hA.at i hi
 obtain ⟨b',off',cap',rfl,hc',hm'⟩:=hB.at i hj
 clear hA hB
 generalize A.getD i false=x at *
 generalize B.getD i false=y at *
 cases x <;> cases y <;> (
  go_enter Tryz.func167,Tryz.ntmps167
  go_wp2_with (fail)
  go_ret
  exact ⟨by first | rfl | (cases nx <;> rfl),rfl⟩)
theorem rule4_any {w:World}{av bv:Value}{A B:List Bool} (i:Nat) (nx:Bool) (pa pb:Nat) (ha:w.cell? ⟨pa,0,none⟩=some av) (hA:RowSl w av A) (hi:i < A.length) (hb:w.cell? ⟨pb,0,none⟩=some bv) (hB:RowSl w bv B) (hj:i < B.length) :
  Calls Tryz.prog 168 #[.int .i64 i,.bool nx,.pointer (some ⟨pa,0,none⟩),.pointer (some ⟨pb,0,none⟩)] w fun e w'=>e=.returned (.bool (A.getD i false || B.getD i false))∧w'=w:=by
 obtain ⟨b,off,cap,rfl,hc,hm⟩:=hA.at i hi
 obtain ⟨b',off',cap',rfl,hc',hm'⟩:=hB.at i hj
 clear hA hB
 generalize A.getD i false=x at *
 generalize B.getD i false=y at *
 cases x <;> cases y <;> (
  go_enter Tryz.func168,Tryz.ntmps168
  go_wp2_with (fail)
  go_ret
  exact ⟨by first | rfl | (cases nx <;> rfl),rfl⟩)
theorem rule6_any {w:World}{av bv:Value}{A B:List Bool} (i:Nat) (nx:Bool) (pa pb:Nat) (ha:w.cell? ⟨pa,0,none⟩=some av) (hA:RowSl w av A) (hi:i < A.length) (hb:w.cell? ⟨pb,0,none⟩=some bv) (hB:RowSl w bv B) (hj:i < B.length) :
  Calls Tryz.prog 171 #[.int .i64 i,.bool nx,.pointer (some ⟨pb,0,none⟩),.pointer (some ⟨pa,0,none⟩)] w fun e w'=>e=.returned (.bool (B.getD i false || A.getD i false && nx))∧w'=w:=by
 obtain ⟨b,off,cap,rfl,hc,hm⟩:=hA.at i hi
 obtain ⟨b',off',cap',rfl,hc',hm'⟩:=hB.at i hj
 clear hA hB
 generalize A.getD i false=x at *
 generalize B.getD i false=y at *
 cases x <;> cases y <;> (
  go_enter Tryz.func171,Tryz.ntmps171
  go_wp2_with (fail)
  go_ret
  exact ⟨by first | rfl | (cases nx <;> rfl),rfl⟩)
theorem rule7_any {w:World}{av bv:Value}{A B:List Bool} (i:Nat) (nx:Bool) (pa pb:Nat) (ha:w.cell? ⟨pa,0,none⟩=some av) (hA:RowSl w av A) (hi:i < A.length) (hb:w.cell? ⟨pb,0,none⟩=some bv) (hB:RowSl w bv B) (hj:i < B.length) :
  Calls Tryz.prog 172 #[.int .i64 i,.bool nx,.pointer (some ⟨pb,0,none⟩),.pointer (some ⟨pa,0,none⟩)] w fun e w'=>e=.returned (.bool (B.getD i false && (A.getD i false || nx)))∧w'=w:=by
 obtain ⟨b,off,cap,rfl,hc,hm⟩:=hA.at i hi
 obtain ⟨b',off',cap',rfl,hc',hm'⟩:=hB.at i hj
 clear hA hB
 generalize A.getD i false=x at *
 generalize B.getD i false=y at *
 cases x <;> cases y <;> (
  go_enter Tryz.func172,Tryz.ntmps172
  go_wp2_with (fail)
  go_ret
  exact ⟨by first | rfl | (cases nx <;> rfl),rfl⟩)
theorem next_place {w:World}{a:Option Addr}{N c:Nat} (h i:Nat) (rv:Value) (hN:N≤9223372036854775807) (hi:i < N) :
  Calls Tryz.prog 170 #[.agg #[.slice a N c,.int .i64 h,rv],.int .i64 i] w fun e w'=>e=.returned (.int .i64 (if i+1=N then h else i+1:Nat))∧Below w.heap.size w w':=by
 by_cases e:i+1=N
 ·have hb:((i:Int)+1 == N)=true:=by rw [beq_iff_eq];omega
  rw [if_pos e]
  clear e
  go_enter Tryz.func170,Tryz.ntmps170
  go_wp2_with (fail)
  go_ret
  exact ⟨rfl,(by repeat (first | exact Below.refl _ _ | assumption | refine below_drewN ?_ _ | refine Below.drew ?_ | refine Below.alloc ?_ (by simp <;> omega) _ | refine below_trans ?_ (by assumption)))⟩
 ·have hb:((i:Int)+1 == N)=false:=by rw [beq_eq_false_iff_ne];omega
  rw [if_neg e]
  clear e
  go_enter Tryz.func170,Tryz.ntmps170
  go_wp2_with (fail)
  go_ret
  exact ⟨by go_num,(by repeat (first | exact Below.refl _ _ | assumption | refine below_drewN ?_ _ | refine Below.drew ?_ | refine Below.alloc ?_ (by simp <;> omega) _ | refine below_trans ?_ (by assumption)))⟩
theorem bit_and (x n:Int) (h0:0≤x) (h7:x≤7) (n0:0≤n) (n2:n≤2):(bits BinOp.and IntKind.i64 (x / 2 ^ n.toNat) 1 != 0)=decide (x / 2 ^ n.toNat % 2=1):=by
 have hx:x=0 ∨ x=1 ∨ x=2 ∨ x=3 ∨ x=4 ∨ x=5 ∨ x=6 ∨ x=7:=by omega
 have hn:n=0 ∨ n=1 ∨ n=2:=by omega
 rcases hx with rfl | rfl | rfl | rfl | rfl | rfl | rfl | rfl <;> rcases hn with rfl | rfl | rfl <;> decide +kernel
theorem rule1_any {w:World}{lv:Value}{Ls:List Int} (i:Nat) (nx:Bool) (pt pn:Nat) (n:Int) (h0:w.cell? ⟨pt,0,none⟩=some lv) (hL:IntSl w lv Ls) (hi:i < Ls.length) (hx:0≤Ls.getD i 0∧Ls.getD i 0≤7) (hn:0≤n∧n≤2)
  (h3:w.cell? ⟨pn,3,none⟩=some (.int .i64 n)) :
  Calls Tryz.prog 165 #[.int .i64 i,.bool nx,.pointer (some ⟨pt,0,none⟩),.pointer (some ⟨pn,0,none⟩)] w fun e w'=>e=.returned (.bool (decide (Ls.getD i 0 / 2 ^ n.toNat % 2=1)))∧∃ m,w'=w.drewN m:=by
 obtain ⟨b',off,cap,rfl,hc,hm⟩:=hL.at i hi
 clear hL
 generalize Ls.getD i 0=x at *
 obtain ⟨hx0,hx7⟩:=hx
 obtain ⟨hn0,hn2⟩:=hn
 go_enter Tryz.func165,Tryz.ntmps165
 go_wp2_with (fail)
 (refine wp_region_quiet_lit (by kernel_rfl) (by kernel_rfl) ?_;(repeat (go_big_quiet_step (fail)));refine wpQuiet_nil ?_;intro _ hw';obtain ⟨nq,hw''⟩:=hw';subst hw'')
 go_wp2_with (fail)
 go_ret
 exact ⟨ret_bool (bit_and x n hx0 hx7 hn0 hn2),nq,rfl⟩
end Go.Proofs.YtpiacnnifdjlkabGreatDoor
