import Derived.Test.YtpiacnnifdjlkabGreatDoorYc
import Derived.Test.YtpiacnnifdjlkabGreatDoorRa
set_option maxRecDepth 100000
set_option maxHeartbeats 8000000
namespace Go.Proofs.YtpiacnnifdjlkabGreatDoor
open Go.RowKit Go.Sort
theorem model_load {W:World}{b:Nat}{p:Int}{v1 v2 v3:Value} (h:W.heap[b]?=some (.cells #[.int .i64 p,v1,v2,v3] 59)):(Instr.loadAt 59 (.pointer (some ⟨b,0,none⟩))).run Tryz.prog W=.ok (.agg #[.int .i64 p,v1,v2,v3]) W:=by
 have c0:=cell_of_row _ _ 0 _ _ _ h
 have c1:=cell_of_row _ _ 1 _ _ _ h
 have c2:=cell_of_row _ _ 2 _ _ _ h
 have c3:=cell_of_row _ _ 3 _ _ _ h
 simp [go_sem,c0,c1,c2,c3]
theorem wpl_loadM {ops:Array Oper}{rest:List Oper}{o:Oper}{a:Act}{w:World}{Q:Exit→Act→World→Prop}{ty:TypeId}{x:Operand}{p v:Value} (hL:(Instr.loadAt ty p).run Tryz.prog w=.ok v w) (hgd:o.guard=none) (ho:o.op=.load ty x) (hx:a.eval x=p)
  (h:wpList Tryz.prog ops Q rest (a.put o.dst v) w):wpList Tryz.prog ops Q (o :: rest) a w:=
 wpList_plain hgd fun _ hK=>by
  unfold Oper.wp execOp
  simp only [ho,hx,Sem.run_bind,hL,Sem.run_pure,Result.andThen_ok]
  exact hK _ _ h
theorem rowsErr_drop {n:Nat}{rs:List (List Int)}{k:Nat} (hk:k < rs.length):rowsErr n (rs.drop k)=if rs.getD k []=[] then 4 else if (rs.getD k []).any (notSt n) then 5 else rowsErr n (rs.drop (k+1)):=by
 rw [List.drop_eq_getElem_cons hk]
 simp [rowsErr,List.getD,hk]
theorem mCheck_any {w:World}{v:Value}{M:Mdl} (hM:MdV w v M) :
  Calls Tryz.prog 33 #[v] w fun e w'=>e=.returned (.int .i64 (chkM M))∧Below w.heap.size w w':=by
 have HAL:Hid (0≤M.props→M.props≤3→∀ W,Below w.heap.size w W→Calls Tryz.prog 77 #[v] W fun e w'=>e=.returned (.bool (!(M.labels.any (notLab M.props))))∧Below W.heap.size W w'):=hide fun h0 h3 W hb=>areLabels_any (hM.below hb) h0 h3
 have HAS:Hid (∀ W xv xs,Below w.heap.size w W→IntSl W xv xs→Calls Tryz.prog 78 #[v,xv] W fun e w'=>e=.returned (.bool (!(xs.any (notSt M.labels.length))))∧Below W.heap.size W w'):=hide fun W xv xs hb hx=>areStates_any (hM.below hb) hx
 obtain ⟨lv,fv,sv,rfl,h1,h2,h4⟩:=hM
 have HF:=hide h2
 have HR:=hide h4
 obtain ⟨a1,c1,rfl,hm1,-⟩:=h1
 obtain ⟨a2,c2,rfl,hm2,-⟩:=h2
 obtain ⟨a3,c3,rfl,hm3,-⟩:=h4
 have HE:Hid (chkM M=if M.props < 0 ∨ 3 < M.props then 3 else if 12 < M.labels.length then 2 else if M.labels.length=0 ∨ M.steps.length ≠ M.labels.length then 1 else if M.labels.any (notLab M.props) then 3 else if M.first.any (notSt M.labels.length) then 5 else rowsErr M.labels.length M.steps):=hide rfl
 generalize chkM M=cm at *
 generalize hp:M.props=p at *
 generalize M.first.length=l2 at *
 generalize hl3:M.steps.length=l3 at *
 generalize M.labels.length=l1 at *
 have HL3:=hide hl3
 clear hp hl3
 unfold maxLen at hm1 hm2 hm3
 have hN:=one_new w (Obj.cells #[Value.int .i64 p,.slice a1 l1 c1,.slice a2 l2 c2,.slice a3 l3 c3] 59)
 have HN:=hide hN
 have HB:=hide (below_new w (Obj.cells #[Value.int .i64 p,.slice a1 l1 c1,.slice a2 l2 c2,.slice a3 l3 c3] 59))
 have HLd:=hide (model_load hN)
 clear hN
 by_cases g1:p < 0
 ·have HX:Hid (cm=3):=hide (by rw [HE.out,if_pos (by omega)])
  go_enter Tryz.func33,Tryz.ntmps33
  go_wp2
  go_ret
  exact ⟨by rw [HX.out];rfl,HB.out⟩
 by_cases g2:3 < p
 ·have HX:Hid (cm=3):=hide (by rw [HE.out,if_pos (by omega)])
  go_enter Tryz.func33,Tryz.ntmps33
  go_wp2
  go_ret
  exact ⟨by rw [HX.out];rfl,HB.out⟩
 by_cases g3:12 < l1
 ·have HX:Hid (cm=2):=hide (by rw [HE.out,if_neg (by omega),if_pos g3])
  go_enter Tryz.func33,Tryz.ntmps33
  go_wp2
  go_ret
  exact ⟨by rw [HX.out];rfl,HB.out⟩
 by_cases g4:l1=0
 ·have HX:Hid (cm=1):=hide (by rw [HE.out,if_neg (by omega),if_neg g3,if_pos (Or.inl g4)])
  have d4:((l1:Int) == 0)=true:=by simp;omega
  clear g4
  go_enter Tryz.func33,Tryz.ntmps33
  go_wp2
  go_ret
  exact ⟨by rw [HX.out];rfl,HB.out⟩
 have d4:((l1:Int) == 0)=false:=by simp;omega
 by_cases g5:l3=l1
 case neg =>
  have HX:Hid (cm=1):=hide (by rw [HE.out,if_neg (by omega),if_neg g3,if_pos (Or.inr g5)])
  have d5:((l3:Int) != (l1:Int))=true:=by simp;omega
  clear g5
  go_enter Tryz.func33,Tryz.ntmps33
  go_wp2
  go_ret
  exact ⟨by rw [HX.out];rfl,HB.out⟩
 have d5:((l3:Int) != (l1:Int))=false:=by simp;omega
 have HE2:Hid (cm=if M.labels.any (notLab p) then 3 else if M.first.any (notSt l1) then 5 else rowsErr l1 M.steps):=hide (by rw [HE.out,if_neg (by omega),if_neg g3,if_neg (by omega)])
 have hl12:l3≤12:=by omega
 have HA:=hide (HAL.out (by omega) (by omega) _ HB.out)
 clear HE HAL g4 g5
 generalize M.labels.any (notLab p)=bl at *
 go_enter Tryz.func33,Tryz.ntmps33
 go_wp2_with (first | (show wpList _ _ _ (⟨some 30,_,_,_,_,_⟩ :: _) _ _;refine wpl_loadM HLd.out rfl rfl rfl ?_))
 generalize (w.alloc (Obj.cells #[Value.int .i64 p,.slice a1 l1 c1,.slice a2 l2 c2,.slice a3 l3 c3] 59))=W0 at *
 go_fit HA.out
 rintro e w1 ⟨rfl,hb1⟩
 have HB1:=hide (below_trans HB.out hb1)
 have hN1:=belowRow hb1 HN.out
 have HN1:=hide hN1
 have HLd1:=hide (model_load hN1)
 have q2:=cell_of_row _ _ 2 _ _ _ hN1
 clear hb1 HA HN HLd HB hN1
 cases bl with
 | true =>
  have HX:Hid (cm=3):=hide (by rw [HE2.out,if_pos rfl])
  go_wp2
  go_ret
  exact ⟨by rw [HX.out];rfl,HB1.out⟩
 | false =>
  have HE3:Hid (cm=if M.first.any (notSt l1) then 5 else rowsErr l1 M.steps):=hide (by rw [HE2.out,if_neg (by simp)])
  have HA:=hide (HAS.out w1 _ _ HB1.out (HF.out.below HB1.out))
  clear HE2
  generalize M.first.any (notSt l1)=bf at *
  go_wp2_with (first | (show wpList _ _ _ (⟨some 33,_,_,_,_,_⟩ :: _) _ _;refine wpl_loadM HLd1.out rfl rfl rfl ?_))
  go_fit HA.out
  rintro e w2 ⟨rfl,hb2⟩
  have HB2:=hide (below_trans HB1.out hb2)
  have hN2:=belowRow hb2 HN1.out
  have HN2:=hide hN2
  have q3:=cell_of_row _ _ 3 _ _ _ hN2
  clear hb2 HA HN1 HLd1 HB1 q2 hN2
  cases bf with
  | true =>
   have HX:Hid (cm=5):=hide (by rw [HE3.out,if_pos rfl])
   go_wp2
   go_ret
   exact ⟨by rw [HX.out];rfl,HB2.out⟩
  | false =>
   have HE4:Hid (cm=rowsErr l1 (M.steps.drop 0)):=hide (by rw [HE3.out,if_neg (by simp),List.drop_zero])
   clear HE3
   go_wp2_with (fail)
   clear q3
   go_loopw [41] (fun kv wr=>∃ k:Nat,k≤l3∧kv=.int .i64 k∧Hid (cm=rowsErr l1 (M.steps.drop k)∧Below w2.heap.size w2 wr)) (fun kv _=>l3 - (intOf kv).toNat)
   case atStart=>exact ⟨0,by omega,rfl,hide ⟨HE4.out,Below.refl _ _⟩⟩
   case round =>
    obtain ⟨k,hk,rfl,hS⟩:=hrel
    have HBr:=hide (below_trans HB2.out hS.out.2)
    by_cases hlt:k < l3
    ·have hlt':k < M.steps.length:=by rw [HL3.out];exact hlt
     obtain ⟨a',c',e3,-,hrows⟩:=HR.out.below HBr.out
     injection e3 with e1 e2 e4
     subst e1
     subst e4
     obtain ⟨b,off,rfl,hcell⟩:∃ b off,a3=some ⟨b,off,none⟩∧∀ i,i < M.steps.length→∃ rv,wr.cell? ⟨b,off+i,none⟩=some rv∧IntSl wr rv (M.steps.getD i []):=by
      rcases hrows with h | h
      ·rw [h] at hlt';simp at hlt'
      ·exact h
     obtain ⟨rv,d0,hrv⟩:=hcell k hlt'
     have HErr:Hid (cm=if M.steps.getD k []=[] then 4 else if (M.steps.getD k []).any (notSt l1) then 5 else rowsErr l1 (M.steps.drop (k+1))):=hide (by rw [hS.out.1,rowsErr_drop hlt'])
     generalize M.steps.getD k []=row at *
     have HRV:=hide hrv
     obtain ⟨ra,rc,rfl,hrm,-⟩:=hrv
     have HA:=hide (HAS.out wr _ _ HBr.out HRV.out)
     have HLd:=hide (model_load (belowRow hS.out.2 HN2.out))
     clear hcell hrows e2
     by_cases hr0:row=[]
     ·have HX:Hid (cm=4):=hide (by rw [HErr.out,if_pos hr0])
      subst hr0
      go_wp2
      go_ret
      exact ⟨by rw [HX.out];rfl,HBr.out⟩
     ·have d6:((row.length:Int) == 0)=false:=by
       have:=List.length_pos_iff.2 hr0
       simp;omega
      have HErr2:Hid (cm=if row.any (notSt l1) then 5 else rowsErr l1 (M.steps.drop (k+1))):=hide (by rw [HErr.out,if_neg hr0])
      clear hr0 HErr
      generalize row.any (notSt l1)=br at *
      generalize row.length=rl at *
      go_wp2_with (first | (show wpList _ _ _ (⟨some 48,_,_,_,_,_⟩ :: _) _ _;refine wpl_loadM HLd.out rfl rfl rfl ?_))
      go_fit HA.out
      rintro e w3 ⟨rfl,hb3⟩
      have HB3:=hide (below_trans hS.out.2 hb3)
      have HB3':=hide (below_trans HBr.out hb3)
      clear hb3 d0
      cases br with
      | true =>
       have HX:Hid (cm=5):=hide (by rw [HErr2.out,if_pos rfl])
       go_wp2
       go_ret
       exact ⟨by rw [HX.out];rfl,HB3'.out⟩
      | false =>
       have HX:Hid (cm=rowsErr l1 (M.steps.drop (k+1))):=hide (by rw [HErr2.out,if_neg (by simp)])
       go_wp2_with (fail)
       go_roundw
       case rel=>exact ⟨k+1,by omega,by go_num,hide ⟨HX.out,HB3.out⟩⟩
       case measure=>simp [intOf];omega
    ·have HX:Hid (cm=0):=hide (by rw [hS.out.1,List.drop_eq_nil_of_le (by rw [HL3.out];omega)];rfl)
     go_wp2
     go_ret
     exact ⟨by rw [HX.out];rfl,HBr.out⟩
theorem any_taken {α:Type}{f:α→Bool}{xs:List α}{d:α}{k:Nat} (hk:k < xs.length) (h:(xs.take k).any f=false) (hx:f (xs.getD k d)=false):(xs.take (k+1)).any f=false:=by
 rw [List.take_add_one,List.any_append,h,List.getElem?_eq_getElem hk]
 simp [List.getD,hk] at hx
 simp [hx]
theorem any_found {α:Type}{f:α→Bool}{xs:List α}{d:α}{k:Nat} (hk:k < xs.length) (hx:f (xs.getD k d)=true):xs.any f=true:=by
 rw [List.any_eq_true]
 exact ⟨xs.getD k d,by simp [List.getD,hk],hx⟩
def btwB (x hi:Int):Bool:=decide (0≤x∧x≤hi)
theorem btwB_st (x:Int) (n:Nat):notSt n x=!btwB x ((n:Int) - 1):=by
 unfold notSt btwB
 rw [Bool.eq_iff_iff]
 simp only [Bool.or_eq_true,decide_eq_true_eq,Bool.not_eq_true',decide_eq_false_iff_not]
 omega
theorem btwB_lab (x p:Int):notLab p x=!btwB x ((2:Int) ^ p.toNat - 1):=by
 unfold notLab btwB
 generalize (2:Int) ^ p.toNat=m
 rw [Bool.eq_iff_iff]
 simp only [Bool.or_eq_true,decide_eq_true_eq,Bool.not_eq_true',decide_eq_false_iff_not]
 omega
theorem betweenB (a c:Int) (w:World):Calls Tryz.prog 56 #[.int .i64 a,.int .i64 0,.int .i64 c] w fun e w'=>e=.returned (.bool (btwB a c))∧w'=w:=between_any a 0 c w
theorem checkModelR_any {w:World}{v:Value}{M:Mdl} (hM:MdV w v M) :
  Calls Tryz.prog 31 #[v] w fun e w'=>e=.returned (.int .i64 (chkM M))∧Below w.heap.size w w':=by
 obtain ⟨lv,fv,sv,rfl,h1,h2,h4⟩:=hM
 have HLs:=hide h1
 have HF:=hide h2
 have HR:=hide h4
 obtain ⟨a1,c1,rfl,hm1,-⟩:=h1
 obtain ⟨a2,c2,rfl,hm2,-⟩:=h2
 obtain ⟨a3,c3,rfl,hm3,-⟩:=h4
 have HE:Hid (chkM M=if M.props < 0 ∨ 3 < M.props then 3 else if 12 < M.labels.length then 2 else if M.labels.length=0 ∨ M.steps.length ≠ M.labels.length then 1 else if M.labels.any (notLab M.props) then 3 else if M.first.any (notSt M.labels.length) then 5 else rowsErr M.labels.length M.steps):=hide rfl
 generalize chkM M=cm at *
 generalize hp:M.props=p at *
 generalize hl2:M.first.length=l2 at *
 generalize hl3:M.steps.length=l3 at *
 generalize hl1:M.labels.length=l1 at *
 have HL1:=hide hl1
 have HL2:=hide hl2
 have HL3:=hide hl3
 clear hp hl1 hl2 hl3
 unfold maxLen at hm1 hm2 hm3
 have hN:=one_new w (Obj.cells #[Value.int .i64 p,.slice a1 l1 c1,.slice a2 l2 c2,.slice a3 l3 c3] 59)
 have q0:=cell_of_row _ _ 0 _ _ _ hN
 have q1:=cell_of_row _ _ 1 _ _ _ hN
 have q2:=cell_of_row _ _ 2 _ _ _ hN
 have q3:=cell_of_row _ _ 3 _ _ _ hN
 have HB:=hide (below_new w (Obj.cells #[Value.int .i64 p,.slice a1 l1 c1,.slice a2 l2 c2,.slice a3 l3 c3] 59))
 clear hN
 go_enter Tryz.func31,Tryz.ntmps31
 go_wp2_with (fail)
 generalize (w.alloc (Obj.cells #[Value.int .i64 p,.slice a1 l1 c1,.slice a2 l2 c2,.slice a3 l3 c3] 59))=W0 at *
 go_fit (betweenB p 3 W0)
 rintro e W0 ⟨rfl,rfl⟩
 by_cases g1:p < 0 ∨ 3 < p
 ·have HX:Hid (cm=3):=hide (by rw [HE.out,if_pos g1])
  have hd:btwB p 3=false:=by unfold btwB;rw [decide_eq_false];omega
  rw [hd]
  clear g1
  go_wp2
  go_ret
  exact ⟨by rw [HX.out];rfl,HB.out⟩
 have hd:btwB p 3=true:=by unfold btwB;rw [decide_eq_true];omega
 have hp0:0≤p:=by omega
 have hp3:p≤3:=by omega
 rw [hd]
 have HE1:Hid (cm=if 12 < l1 then 2 else if l1=0 ∨ l3 ≠ l1 then 1 else if M.labels.any (notLab p) then 3 else if M.first.any (notSt l1) then 5 else rowsErr l1 M.steps):=hide (by rw [HE.out,if_neg g1])
 clear HE g1
 by_cases g3:12 < l1
 ·have HX:Hid (cm=2):=hide (by rw [HE1.out,if_pos g3])
  go_wp2
  go_ret
  exact ⟨by rw [HX.out];rfl,HB.out⟩
 by_cases g4:l1=0
 ·have HX:Hid (cm=1):=hide (by rw [HE1.out,if_neg g3,if_pos (Or.inl g4)])
  have d4:((l1:Int) == 0)=true:=by simp;omega
  clear g4
  go_wp2
  go_ret
  exact ⟨by rw [HX.out];rfl,HB.out⟩
 have d4:((l1:Int) == 0)=false:=by simp;omega
 by_cases g5:l3=l1
 case neg =>
  have HX:Hid (cm=1):=hide (by rw [HE1.out,if_neg g3,if_pos (Or.inr g5)])
  have d5:((l3:Int) != (l1:Int))=true:=by simp;omega
  clear g5
  go_wp2
  go_ret
  exact ⟨by rw [HX.out];rfl,HB.out⟩
 have d5:((l3:Int) != (l1:Int))=false:=by simp;omega
 have HE2:Hid (cm=if M.labels.any (notLab p) then 3 else if M.first.any (notSt l1) then 5 else rowsErr l1 M.steps):=hide (by rw [HE1.out,if_neg g3,if_neg (by omega)])
 have HG5:=hide g5
 have hl12:l1≤12:=by omega
 clear HE1 g5
 go_wp2_with (fail)
 go_loopw [4,5] (fun s4 s5 wr=>∃ i:Nat,(i:Int)≤p∧s5=.int .i64 i∧s4=.int .i64 ((2 ^ i:Nat):Int)∧wr=W0) (fun _ s5 _=>p.toNat - (intOf s5).toNat)
 case atStart=>exact ⟨0,by omega,rfl,rfl,rfl⟩
 case round =>
  obtain ⟨i,hi,rfl,rfl,rfl⟩:=hrel
  have hpw:2 ^ i≤8:=by
   have h3:i=0 ∨ i=1 ∨ i=2 ∨ i=3:=by omega
   rcases h3 with h3 | h3 | h3 | h3 <;> rw [h3] <;> decide
  by_cases hlt:(i:Int) < p
  ·have hpn:2 ^ (i+1)=2 * 2 ^ i:=by rw [Nat.pow_succ];omega
   have HPn:=hide hpn
   generalize 2 ^ i=m at *
   clear hpn
   go_wp2_with (fail)
   go_roundw
   case rel=>exact ⟨i+1,by omega,by go_num,by rw [HPn.out];go_num,by first | rfl | trivial⟩
   case measure=>simp [intOf];omega
  ·have hip:i=p.toNat:=by omega
   have HMo:Hid ((2:Int) ^ p.toNat=((2 ^ i:Nat):Int)):=hide (by rw [hip];simp)
   generalize 2 ^ i=m at *
   clear hi hip
   go_wp2_with (fail)
   go_loopw [6] (fun s6 w2=>∃ k:Nat,k≤l1∧s6=.int .i64 k∧Hid ((M.labels.take k).any (notLab p)=false)∧w2=wr) (fun s6 _=>l1 - (intOf s6).toNat)
   case atStart=>exact ⟨0,by omega,rfl,hide (by simp),rfl⟩
   case round =>
    obtain ⟨k,hk,rfl,HK,rfl⟩:=hrel
    by_cases hlt:k < l1
    ·obtain ⟨a',c',e3,-,hrows,-⟩:=HLs.out.below HB.out
     injection e3 with e1 e2 e4
     subst e1
     subst e4
     obtain ⟨b,off,rfl,hcell⟩:∃ b off,a1=some ⟨b,off,none⟩∧∀ i,i < M.labels.length→wr.cell? ⟨b,off+i,none⟩=some (.int .i64 (M.labels.getD i 0)):=by
      rcases hrows with h | h
      ·have:=HL1.out;rw [h] at this;simp at this;omega
      ·exact h
     have d0:=hcell k (by rw [HL1.out];exact hlt)
     have HT:Hid (notLab p (M.labels.getD k 0)=!btwB (M.labels.getD k 0) ((m:Int) - 1)):=hide (by rw [btwB_lab,HMo.out])
     have HKn:Hid (notLab p (M.labels.getD k 0)=false→(M.labels.take (k+1)).any (notLab p)=false):=hide fun h=>any_taken (by rw [HL1.out];exact hlt) HK.out h
     have HKf:Hid (notLab p (M.labels.getD k 0)=true→M.labels.any (notLab p)=true):=hide fun h=>any_found (by rw [HL1.out];exact hlt) h
     generalize M.labels.getD k 0=x at *
     clear hcell hrows e2
     go_wp2_with (fail)
     go_fit (betweenB x ((m:Int) - 1) wr)
     rintro e wr ⟨rfl,rfl⟩
     generalize btwB x ((m:Int) - 1)=bb at *
     cases bb with
     | false =>
      have HX:Hid (cm=3):=hide (by rw [HE2.out,if_pos (HKf.out (by rw [HT.out];rfl))])
      go_wp2
      go_ret
      exact ⟨by rw [HX.out];rfl,HB.out⟩
     | true =>
      have HK':=hide (HKn.out (by rw [HT.out];rfl))
      go_wp2
      go_roundw
      case rel=>exact ⟨k+1,by omega,by go_num,HK',by first | rfl | trivial⟩
      case measure=>simp [intOf];omega
    ·have HE3:Hid (cm=if M.first.any (notSt l1) then 5 else rowsErr l1 M.steps):=hide (by
      have h5:=HK.out
      rw [List.take_of_length_le (by rw [HL1.out];omega)] at h5
      rw [HE2.out,if_neg (by rw [h5];simp)])
     clear HE2 HK
     go_wp2_with (fail)
     go_loopw [7] (fun s7 w3=>∃ j:Nat,j≤l2∧s7=.int .i64 j∧Hid ((M.first.take j).any (notSt l1)=false)∧w3=wr) (fun s7 _=>l2 - (intOf s7).toNat)
     case atStart=>exact ⟨0,by omega,rfl,hide (by simp),rfl⟩
     case round =>
      obtain ⟨j,hj,rfl,HK,rfl⟩:=hrel
      by_cases hlt:j < l2
      ·obtain ⟨a',c',e3,-,hrows,-⟩:=HF.out.below HB.out
       injection e3 with e1 e2 e4
       subst e1
       subst e4
       obtain ⟨b,off,rfl,hcell⟩:∃ b off,a2=some ⟨b,off,none⟩∧∀ i,i < M.first.length→wr.cell? ⟨b,off+i,none⟩=some (.int .i64 (M.first.getD i 0)):=by
        rcases hrows with h | h
        ·have:=HL2.out;rw [h] at this;simp at this;omega
        ·exact h
       have d0:=hcell j (by rw [HL2.out];exact hlt)
       have HT:Hid (notSt l1 (M.first.getD j 0)=!btwB (M.first.getD j 0) ((l1:Int) - 1)):=hide (btwB_st _ _)
       have HKn:Hid (notSt l1 (M.first.getD j 0)=false→(M.first.take (j+1)).any (notSt l1)=false):=hide fun h=>any_taken (by rw [HL2.out];exact hlt) HK.out h
       have HKf:Hid (notSt l1 (M.first.getD j 0)=true→M.first.any (notSt l1)=true):=hide fun h=>any_found (by rw [HL2.out];exact hlt) h
       generalize M.first.getD j 0=x at *
       clear hcell hrows e2
       go_wp2_with (fail)
       go_fit (betweenB x ((l1:Int) - 1) wr)
       rintro e wr ⟨rfl,rfl⟩
       generalize btwB x ((l1:Int) - 1)=bb at *
       cases bb with
       | false =>
        have HX:Hid (cm=5):=hide (by rw [HE3.out,if_pos (HKf.out (by rw [HT.out];rfl))])
        go_wp2
        go_ret
        exact ⟨by rw [HX.out];rfl,HB.out⟩
       | true =>
        have HK':=hide (HKn.out (by rw [HT.out];rfl))
        go_wp2
        go_roundw
        case rel=>exact ⟨j+1,by omega,by go_num,HK',by first | rfl | trivial⟩
        case measure=>simp [intOf];omega
      ·have HE4:Hid (cm=rowsErr l1 M.steps):=hide (by
        have h5:=HK.out
        rw [List.take_of_length_le (by rw [HL2.out];omega)] at h5
        rw [HE3.out,if_neg (by rw [h5];simp)])
       clear HE3 HK
       go_wp2_with (fail)
       go_loopw [8] (fun s8 w4=>∃ n:Nat,n≤l1∧s8=.int .i64 n∧Hid (cm=rowsErr l1 (M.steps.drop n))∧w4=wr) (fun s8 _=>l1 - (intOf s8).toNat)
       case atStart=>exact ⟨0,by omega,rfl,HE4,rfl⟩
       case round =>
        obtain ⟨n,hn,rfl,HN,rfl⟩:=hrel
        by_cases hlt:n < l1
        ·have hlt':n < M.steps.length:=by rw [HL3.out,HG5.out];exact hlt
         obtain ⟨a',c',e3,-,hrows⟩:=HR.out.below HB.out
         injection e3 with e1 e2 e4
         subst e1
         subst e4
         obtain ⟨b,off,rfl,hcell⟩:∃ b off,a3=some ⟨b,off,none⟩∧∀ i,i < M.steps.length→∃ rv,wr.cell? ⟨b,off+i,none⟩=some rv∧IntSl wr rv (M.steps.getD i []):=by
          rcases hrows with h | h
          ·rw [h] at hlt';simp at hlt'
          ·exact h
         obtain ⟨rv,d0,hrv⟩:=hcell n hlt'
         have HErr:Hid (cm=if M.steps.getD n []=[] then 4 else if (M.steps.getD n []).any (notSt l1) then 5 else rowsErr l1 (M.steps.drop (n+1))):=hide (by rw [HN.out,rowsErr_drop hlt'])
         have hn3:n < l3:=by rw [← HL3.out];exact hlt'
         generalize M.steps.getD n []=row at *
         have HRV:=hide hrv
         obtain ⟨ra,rc,rfl,hrm,-⟩:=hrv
         unfold maxLen at hrm
         clear hcell hrows e2 hlt'
         by_cases hr0:row=[]
         ·have HX:Hid (cm=4):=hide (by rw [HErr.out,if_pos hr0])
          subst hr0
          go_wp2
          go_ret
          exact ⟨by rw [HX.out];rfl,HB.out⟩
         ·have d6:((row.length:Int) == 0)=false:=by
           have:=List.length_pos_iff.2 hr0
           simp;omega
          have HErr2:Hid (cm=if row.any (notSt l1) then 5 else rowsErr l1 (M.steps.drop (n+1))):=hide (by rw [HErr.out,if_neg hr0])
          generalize hrl:row.length=rl at *
          have HRL:=hide hrl
          clear hr0 HErr hrl
          go_wp2_with (fail)
          go_loopw [9] (fun s9 w5=>∃ t:Nat,t≤rl∧s9=.int .i64 t∧Hid ((row.take t).any (notSt l1)=false)∧w5=wr) (fun s9 _=>rl - (intOf s9).toNat)
          case atStart=>exact ⟨0,by omega,rfl,hide (by simp),rfl⟩
          case round =>
           obtain ⟨t,ht,rfl,HK,rfl⟩:=hrel
           by_cases hltt:t < rl
           ·obtain ⟨a',c',e3,-,hrows,-⟩:=HRV.out
            injection e3 with e1 e2 e4
            subst e1
            subst e4
            obtain ⟨b',off',rfl,hcell⟩:∃ b' off',ra=some ⟨b',off',none⟩∧∀ i,i < row.length→wr.cell? ⟨b',off'+i,none⟩=some (.int .i64 (row.getD i 0)):=by
             rcases hrows with h | h
             ·have:=HRL.out;rw [h] at this;simp at this;omega
             ·exact h
            have d1:=hcell t (by rw [HRL.out];exact hltt)
            have HT:Hid (notSt l1 (row.getD t 0)=!btwB (row.getD t 0) ((l1:Int) - 1)):=hide (btwB_st _ _)
            have HKn:Hid (notSt l1 (row.getD t 0)=false→(row.take (t+1)).any (notSt l1)=false):=hide fun h=>any_taken (by rw [HRL.out];exact hltt) HK.out h
            have HKf:Hid (notSt l1 (row.getD t 0)=true→row.any (notSt l1)=true):=hide fun h=>any_found (by rw [HRL.out];exact hltt) h
            generalize row.getD t 0=x at *
            clear hcell hrows e2
            go_wp2_with (fail)
            go_fit (betweenB x ((l1:Int) - 1) wr)
            rintro e wr ⟨rfl,rfl⟩
            generalize btwB x ((l1:Int) - 1)=bb at *
            cases bb with
            | false =>
             have HX:Hid (cm=5):=hide (by rw [HErr2.out,if_pos (HKf.out (by rw [HT.out];rfl))])
             go_wp2
             go_ret
             exact ⟨by rw [HX.out];rfl,HB.out⟩
            | true =>
             have HK':=hide (HKn.out (by rw [HT.out];rfl))
             go_wp2
             go_roundw
             case rel=>exact ⟨t+1,by omega,by go_num,HK',by first | rfl | trivial⟩
             case measure=>simp [intOf];omega
           ·have HN':Hid (cm=rowsErr l1 (M.steps.drop (n+1))):=hide (by
             have h5:=HK.out
             rw [List.take_of_length_le (by rw [HRL.out];omega)] at h5
             rw [HErr2.out,if_neg (by rw [h5];simp)])
            clear HK
            go_wp2
            go_roundw
            case rel=>exact ⟨n+1,by omega,by go_num,HN',by first | rfl | trivial⟩
            case measure=>simp [intOf];omega
        ·have HX:Hid (cm=0):=hide (by rw [HN.out,List.drop_eq_nil_of_le (by rw [HL3.out,HG5.out];omega)];rfl)
         go_wp2
         go_ret
         exact ⟨by rw [HX.out];rfl,HB.out⟩
end Go.Proofs.YtpiacnnifdjlkabGreatDoor
namespace Go.Proofs.YtpiacnnifdjlkabGreatDoor
structure RightW (A:Aut):Prop where
 n0:0≤A.n
 n3:A.n≤900000
 good:(A.good.length:Int)=A.n
 few:A.steps.length≤1000000000
 ffew:A.first.length≤900000
 m8:A.m≤8
 first:∀ x ∈ A.first,0≤x∧x < A.n
 steps:∀ s ∈ A.steps,0≤s.f∧s.f < A.n∧0≤s.l∧s.l < A.m∧0≤s.t∧s.t < A.n
 sorted:A.steps.Pairwise (fun a b=>a.f≤b.f)
def WayTo (A:Aut) (from_:List Int) (us:List Int) (y:Nat):Prop:=us ≠ []∧(us.length:Int)≤A.n∧∃ x ∈ from_,wayL A us x.toNat y
def NoWay (A:Aut) (from_:List Int) (F:Nat→Bool):Prop:=∀ x ∈ from_,∀ us y,us ≠ []→wayL A us x.toNat y→F y=false
def BackB (A:Aut) (F:Nat→Bool):Prop:=∀ q:Nat,(q:Int) < A.n→(F q=true ↔ A.good.getD q false=true∧∃ us,us ≠ []∧wayL A us q q)
theorem wayL_letters {A:Aut} (h:RightW A):∀ {us:List Int}{x y:Nat},wayL A us x y→∀ c ∈ us,0≤c∧c < A.m
 | [],_,_,_=>fun c hc=>(by cases hc)
 | c :: us,x,y,hw=>by
  obtain ⟨z,⟨s,hs,_,e2,_⟩,h2⟩:=hw
  intro d hd
  rcases List.mem_cons.1 hd with rfl | hd
  ·have:=h.steps s hs;omega
  ·exact wayL_letters h h2 d hd
theorem wayL_end {A:Aut} (h:RightW A):∀ {us:List Int}{x y:Nat},wayL A us x y→(x:Int) < A.n→(y:Int) < A.n
 | [],_,_,hw,hx=>by have e:_=_:=hw;rw [← e];exact hx
 | c :: us,x,y,hw,hx=>by
  obtain ⟨z,⟨s,hs,_,_,e3⟩,h2⟩:=hw
  exact wayL_end h h2 (by have:=h.steps s hs;omega)
theorem none_taken {A:Aut}{F:Nat→Bool} (hA:RightW A) (hF:BackB A F) (h0:∀ x ∈ A.first,F x.toNat=false) (h1:NoWay A A.first F) (u:Nat→Int):¬ TakesU A u:=by
 intro h
 obtain ⟨i,hi,us,vs,g,hu,hg,hv,hw⟩:=way_of_takes h
 have hm:A.first.getD i 0 ∈ A.first:=getD_mem hi
 have hlt:(g:Int) < A.n:=wayL_end hA hu (by have:=hA.first _ hm;omega)
 have hFg:F g=true:=(hF g hlt).2 ⟨hg,vs,List.length_pos_iff.1 hv,hw⟩
 by_cases hn:us=[]
 ·subst hn
  have e:(A.first.getD i 0).toNat=g:=hu
  rw [← e,h0 _ hm] at hFg
  cases hFg
 ·rw [h1 _ hm us g hn hu] at hFg
  cases hFg
theorem some_taken {A:Aut}{us vs:List Int}{g:Nat} (h1:(∃ x ∈ A.first,wayL A us x.toNat g)) (hg:A.good.getD g false=true) (h2:wayL A vs g g) (hv:vs ≠ []):TakesU A (lat us vs):=by
 obtain ⟨x,hx,hw⟩:=h1
 obtain ⟨i,hi,rfl⟩:=List.mem_iff_getElem.1 hx
 exact takes_of_way (i:=i) hi (by rw [show A.first.getD i 0=A.first[i] by simp [List.getD,hi]];exact hw) hg h2 (List.length_pos_iff.2 hv)
def XS (from_:List Int) (ord:List Nat):List Int:=from_ ++ ord.map (fun q:Nat=>(q:Int))
structure LookI (A:Aut) (N:Nat) (F:Nat→Bool) (from_:List Int) (ord:List Nat) (by_:Nat→Stp) (k:Nat) (pre:List Stp):Prop where
 look:Look A N F from_ ord by_ k
 here:∀ s ∈ pre,∃ y ∈ ord,s.t=(y:Nat)
theorem XS_len (from_:List Int) (ord:List Nat):(XS from_ ord).length=from_.length+ord.length:=by simp [XS]
theorem XS_more {from_:List Int}{ord:List Nat}{t k:Nat} (h:k < from_.length+ord.length):(XS from_ (ord ++ [t])).getD k 0=(XS from_ ord).getD k 0:=by
 unfold XS
 rw [List.map_append,← List.append_assoc]
 exact getD_append_left (by simp;omega)
theorem XS_snoc (from_:List Int) (ord:List Nat) (t:Nat):XS from_ (ord ++ [t])=XS from_ ord ++ [(t:Int)]:=by
 unfold XS
 rw [List.map_append,← List.append_assoc]
 rfl
theorem XS_at {from_:List Int}{ord:List Nat}{k:Nat} (h:k < from_.length+ord.length):(XS from_ ord).getD k 0 ∈ from_ ∨ ∃ q ∈ ord,(XS from_ ord).getD k 0=(q:Nat):=by
 have hm:(XS from_ ord).getD k 0 ∈ XS from_ ord:=getD_mem (by rw [XS_len];exact h)
 unfold XS at hm ⊢
 rcases List.mem_append.1 hm with h1 | h1
 ·exact Or.inl h1
 ·obtain ⟨q,hq,e⟩:=List.mem_map.1 h1
  exact Or.inr ⟨q,hq,e.symm⟩
theorem look_nil (A:Aut) (N:Nat) (F:Nat→Bool) (from_:List Int) (by_:Nat→Stp):Look A N F from_ [] by_ 0:=⟨ByOk.nil A from_ by_,fun q h=>(by cases h),fun q h=>(by cases h),fun j h=>absurd h (Nat.not_lt_zero _)⟩
theorem Look.begin_ {A:Aut}{N:Nat}{F:Nat→Bool}{from_:List Int}{ord:List Nat}{by_:Nat→Stp}{k:Nat} (h:Look A N F from_ ord by_ k):LookI A N F from_ ord by_ k []:=⟨h,fun s hs=>(by cases hs)⟩
theorem LookI.skip {A:Aut}{N:Nat}{F:Nat→Bool}{from_:List Int}{ord:List Nat}{by_:Nat→Stp}{k:Nat}{pre:List Stp} (h:LookI A N F from_ ord by_ k pre) {s:Stp}{t:Nat} (ht:s.t=t) (hm:t ∈ ord):LookI A N F from_ ord by_ k (pre ++ [s]):=
 ⟨h.look,fun x hx=>by
  rcases List.mem_append.1 hx with h1 | h1
  ·exact h.here x h1
  ·rw [List.mem_singleton] at h1
   subst h1
   exact ⟨t,hm,ht⟩⟩
theorem LookI.new {A:Aut}{N:Nat}{F:Nat→Bool}{from_:List Int}{ord:List Nat}{by_:Nat→Stp}{k:Nat}{pre:List Stp} (h:LookI A N F from_ ord by_ k pre) (hk:k < from_.length+ord.length) {s:Stp}{t:Nat} (hs:s ∈ A.steps) (ht:s.t=t) (hn:t ∉ ord) (hfx:s.f=(XS from_ ord).getD k 0):ByOk A from_ (ord ++ [t]) (setBy by_ s):=by
 refine h.look.ok.meet hs ht hn ?_
 rw [hfx]
 exact XS_at hk
theorem LookI.meet {A:Aut}{N:Nat}{F:Nat→Bool}{from_:List Int}{ord:List Nat}{by_:Nat→Stp}{k:Nat}{pre:List Stp} (h:LookI A N F from_ ord by_ k pre) (hk:k < from_.length+ord.length) {s:Stp}{t:Nat} (hs:s ∈ A.steps) (ht:s.t=t) (htN:t < N) (hn:t ∉ ord) (hfx:s.f=(XS from_ ord).getD k 0) (hF:F t=false):LookI A N F from_ (ord ++ [t]) (setBy by_ s) k (pre ++ [s]):=by
 refine ⟨⟨h.new hk hs ht hn hfx,fun q hq=>?_,fun q hq=>?_,fun j hj x hx e=>?_⟩,fun x hx=>?_⟩
 ·rcases List.mem_append.1 hq with h1 | h1
  ·exact h.look.range q h1
  ·rw [List.mem_singleton] at h1;omega
 ·rcases List.mem_append.1 hq with h1 | h1
  ·exact h.look.not q h1
  ·rw [List.mem_singleton] at h1;rw [h1];exact hF
 ·have e2:x.f=(XS from_ ord).getD j 0:=by rw [← XS_more (t:=t) (by omega)];exact e
  obtain ⟨y,hy,e3⟩:=h.look.closed j hj x hx e2
  exact ⟨y,List.mem_append_left _ hy,e3⟩
 ·rcases List.mem_append.1 hx with h1 | h1
  ·obtain ⟨y,hy,e3⟩:=h.here x h1
   exact ⟨y,List.mem_append_left _ hy,e3⟩
  ·rw [List.mem_singleton] at h1
   subst h1
   exact ⟨t,List.mem_append_right _ (List.mem_singleton.2 rfl),ht⟩
theorem LookI.done {A:Aut}{N:Nat}{F:Nat→Bool}{from_:List Int}{ord:List Nat}{by_:Nat→Stp}{k:Nat}{pre:List Stp} (h:LookI A N F from_ ord by_ k pre) (hp:∀ s ∈ A.steps,s.f=(XS from_ ord).getD k 0→s ∈ pre):Look A N F from_ ord by_ (k+1):=
 ⟨h.look.ok,h.look.range,h.look.not,fun j hj s hs e=>by
  by_cases ej:j=k
  ·subst ej
   exact h.here s (hp s hs e)
  ·exact h.look.closed j (by omega) s hs e⟩
theorem Look.noWay {A:Aut}{N:Nat}{F:Nat→Bool}{from_:List Int}{ord:List Nat}{by_:Nat→Stp}{k:Nat} (h:Look A N F from_ ord by_ k) (hk:from_.length+ord.length≤k) (h0:∀ x ∈ from_,0≤x):NoWay A from_ F:=
 fun _ hx _ _ hne hw=>h.done hk h0 hx hw hne
end Go.Proofs.YtpiacnnifdjlkabGreatDoor
