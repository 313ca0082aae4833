import Derived.Test.YtpiacnnifdjlkabGreatDoorBk
import Derived.Lib.TrailingZeros
set_option maxRecDepth 100000
set_option maxHeartbeats 8000000
namespace Go.Proofs.YtpiacnnifdjlkabGreatDoor
open Go.RowKit Go.Sort
def prevOf (ss:List Stp) (k:Nat):Option Stp:=if k=0 then none else some (ss.getD (k - 1) stp0)
theorem drop_cons (ss:List Stp) (k:Nat) (h:k < ss.length):ss.drop k=ss.getD k stp0 :: ss.drop (k+1):=by
 rw [List.drop_eq_getElem_cons h]
 simp [List.getD,h]
theorem chk_bad (n m:Int) (ss:List Stp) (k:Nat) (h:k < ss.length) (hb:badS n m (ss.getD k stp0)=true):chkStepsFrom n m (prevOf ss k) (ss.drop k)=5:=by
 rw [drop_cons ss k h]
 unfold chkStepsFrom
 rw [if_pos hb]
theorem chk_first (n m:Int) (ss:List Stp) (h:0 < ss.length) (hb:badS n m (ss.getD 0 stp0)=false):chkStepsFrom n m (prevOf ss 0) (ss.drop 0)=chkStepsFrom n m (prevOf ss 1) (ss.drop 1):=by
 rw [drop_cons ss 0 h,show prevOf ss 1=some (ss.getD 0 stp0) from rfl,show prevOf ss 0=none from rfl]
 rw [chkStepsFrom,if_neg (by rw [hb];simp)]
theorem chk_fall (n m:Int) (ss:List Stp) (k:Nat) (hk:0 < k) (h:k < ss.length) (hb:badS n m (ss.getD k stp0)=false) (ho:0≤ordS (ss.getD (k - 1) stp0) (ss.getD k stp0)):chkStepsFrom n m (prevOf ss k) (ss.drop k)=4:=by
 rw [drop_cons ss k h,show prevOf ss k=some (ss.getD (k - 1) stp0) by simp only [prevOf,if_neg (show ¬ k=0 by omega)]]
 rw [chkStepsFrom,if_neg (by rw [hb];simp)]
 rw [if_pos (decide_eq_true ho)]
theorem chk_rise (n m:Int) (ss:List Stp) (k:Nat) (hk:0 < k) (h:k < ss.length) (hb:badS n m (ss.getD k stp0)=false) (ho:ordS (ss.getD (k - 1) stp0) (ss.getD k stp0) < 0):chkStepsFrom n m (prevOf ss k) (ss.drop k)=chkStepsFrom n m (prevOf ss (k+1)) (ss.drop (k+1)):=by
 rw [drop_cons ss k h,show prevOf ss k=some (ss.getD (k - 1) stp0) by simp only [prevOf,if_neg (show ¬ k=0 by omega)],show prevOf ss (k+1)=some (ss.getD k stp0) by simp only [prevOf,if_neg (show ¬ k+1=0 by omega),Nat.add_sub_cancel]]
 rw [chkStepsFrom,if_neg (by rw [hb];simp)]
 rw [if_neg (by rw [decide_eq_true_iff];omega)]
theorem chk_end (n m:Int) (ss:List Stp) (k:Nat) (h:ss.length≤k):chkStepsFrom n m (prevOf ss k) (ss.drop k)=0:=by
 rw [List.drop_eq_nil_of_le h]
 simp [chkStepsFrom]
theorem checkSteps_any {w:World} (n m:Int) (a1 a2:Option Addr) (l1 l2 c1 c2:Nat) (sv:Value) (ss:List Stp) (hs:StepSl w sv ss) :
  Calls Tryz.prog 91 #[.agg #[.int .i64 n,.int .i64 m,.slice a1 l1 c1,.slice a2 l2 c2,sv]] w fun e w'=>e=.returned (.int .i64 (chkStepsFrom n m none ss))∧Below w.heap.size w w':=by
 obtain ⟨a0,c0,rfl,hm0,hc,-⟩:=hs
 have Hc:=hide hc
 clear hc
 unfold maxLen at hm0
 generalize hq:chkStepsFrom n m none ss=q
 have Hq:Hid (chkStepsFrom n m (prevOf ss 0) (ss.drop 0)=q):=hq
 clear hq
 go_enter Tryz.func91,Tryz.ntmps91
 go_wp2_with (fail)
 generalize hW0:w.alloc (Obj.cells #[Value.int .i64 n,.int .i64 m,.slice a1 l1 c1,.slice a2 l2 c2,.slice a0 ss.length c0] 26)=W0
 have hbW:Below w.heap.size w W0:=by rw [← hW0];exact (by repeat (first | exact Below.refl _ _ | assumption | refine below_drewN ?_ _ | refine Below.drew ?_ | refine Below.alloc ?_ (by simp <;> omega) _ | refine below_trans ?_ (by assumption)))
 have hB:∀ {w':World},Below W0.heap.size W0 w'→w'.cell? ⟨w.heap.size,0,none⟩=some (.int .i64 n)∧w'.cell? ⟨w.heap.size,1,none⟩=some (.int .i64 m)∧w'.cell? ⟨w.heap.size,4,none⟩=some (.slice a0 ss.length c0)∧w.heap.size < w'.heap.size:=by
  intro w' hb
  have hsz:w.heap.size < W0.heap.size:=by rw [← hW0];simp
  refine ⟨?_,?_,?_,Nat.lt_of_lt_of_le hsz hb.size⟩
  ·rw [hb.cell hsz,← hW0];simp
  ·rw [hb.cell hsz,← hW0];simp
  ·rw [hb.cell hsz,← hW0];simp
 clear hW0
 have HB:=hide (fun w'=>@hB w')
 clear hB
 go_loopw [8] (fun i wr=>∃ k:Nat,k≤ss.length∧i=.int .i64 k∧chkStepsFrom n m (prevOf ss k) (ss.drop k)=q∧Below W0.heap.size W0 wr) (fun i _=>ss.length - (intOf i).toNat)
 case atStart=>exact ⟨0,Nat.zero_le _,rfl,Hq.out,Below.refl _ _⟩
 case round =>
  obtain ⟨k,hk,rfl,hqk,hbr⟩:=hrel
  have Hqk:=hide hqk
  clear hqk
  obtain ⟨x0,x1,x4,hlw⟩:=HB.out _ hbr
  by_cases hlt:k < ss.length
  ·obtain ⟨b,off,rfl,hcell⟩:∃ b off,a0=some ⟨b,off,none⟩∧∀ i,i < ss.length→w.cell? ⟨b,off+i * 3,none⟩=some (.int .i64 (ss.getD i stp0).f)∧w.cell? ⟨b,off+i * 3+1,none⟩=some (.int .i64 (ss.getD i stp0).l)∧w.cell? ⟨b,off+i * 3+2,none⟩=some (.int .i64 (ss.getD i stp0).t):=by
    rcases Hc.out with h | h
    ·subst h;simp at hlt
    ·exact h
   have hbR:=below_trans hbW hbr
   obtain ⟨d0,d1,d2⟩:=hcell k hlt
   rw [← hbR.cell (World.block_lt_of_cell? w _ d0)] at d0
   rw [← hbR.cell (World.block_lt_of_cell? w _ d1)] at d1
   rw [← hbR.cell (World.block_lt_of_cell? w _ d2)] at d2
   have Hcell:=hide hcell
   clear hcell
   generalize hs:ss.getD k stp0=s at *
   have Hs:=hide hs
   clear hs
   obtain ⟨sf,sl,st⟩:=s
   dsimp only at d0 d1 d2
   have HW1:=hide (within_any sf n)
   have HW2:=hide (within_any st n)
   have HW3:=hide (within_any sl m)
   generalize hr1:decide (0≤sf∧sf < n)=r1 at HW1
   generalize hr2:decide (0≤st∧st < n)=r2 at HW2
   generalize hr3:decide (0≤sl∧sl < m)=r3 at HW3
   have Hr1:=hide hr1
   have Hr2:=hide hr2
   have Hr3:=hide hr3
   clear hr1 hr2 hr3
   have Hbad:Hid (badS n m (ss.getD k stp0)=(!r1 || !r2 || !r3)):=by
    show badS n m (ss.getD k stp0)=_
    rw [Hs.out]
    simp only [badS,outB,Hr1.out,Hr2.out,Hr3.out]
   go_wp2_with (fail)
   refine (HW1.out _).mono ?_
   rintro e w' ⟨rfl,rfl⟩
   cases r1 with
   | false =>
    go_wp2
    go_ret
    have:q=5:=by rw [← Hqk.out];exact chk_bad n m ss k hlt (by rw [Hbad.out];rfl)
    subst this
    exact ⟨rfl,below_trans hbR (by repeat (first | exact Below.refl _ _ | assumption | refine below_drewN ?_ _ | refine Below.drew ?_ | refine Below.alloc ?_ (by simp <;> omega) _ | refine below_trans ?_ (by assumption)))⟩
   | true =>
    go_wp2_with (fail)
    refine (HW2.out _).mono ?_
    rintro e w' ⟨rfl,rfl⟩
    cases r2 with
    | false =>
     go_wp2
     go_ret
     have:q=5:=by rw [← Hqk.out];exact chk_bad n m ss k hlt (by rw [Hbad.out];rfl)
     subst this
     exact ⟨rfl,below_trans hbR (by repeat (first | exact Below.refl _ _ | assumption | refine below_drewN ?_ _ | refine Below.drew ?_ | refine Below.alloc ?_ (by simp <;> omega) _ | refine below_trans ?_ (by assumption)))⟩
    | true =>
     go_wp2_with (fail)
     refine (HW3.out _).mono ?_
     rintro e w' ⟨rfl,rfl⟩
     cases r3 with
     | false =>
      go_wp2
      go_ret
      have:q=5:=by rw [← Hqk.out];exact chk_bad n m ss k hlt (by rw [Hbad.out];rfl)
      subst this
      exact ⟨rfl,below_trans hbR (by repeat (first | exact Below.refl _ _ | assumption | refine below_drewN ?_ _ | refine Below.drew ?_ | refine Below.alloc ?_ (by simp <;> omega) _ | refine below_trans ?_ (by assumption)))⟩
     | true =>
      by_cases hk0:0 < k
      ·obtain ⟨e0,e1,e2⟩:=Hcell.out (k - 1) (by omega)
       rw [← hbR.cell (World.block_lt_of_cell? w _ e0)] at e0
       rw [← hbR.cell (World.block_lt_of_cell? w _ e1)] at e1
       rw [← hbR.cell (World.block_lt_of_cell? w _ e2)] at e2
       generalize hp:ss.getD (k - 1) stp0=p at e0 e1 e2
       have Hp:=hide hp
       clear hp
       obtain ⟨pf,pl,pt⟩:=p
       dsimp only at e0 e1 e2
       have hbs:=World.block_lt_of_cell? _ _ e0
       generalize hW1:wr.alloc (Obj.cells #[Value.int .i64 sf,.int .i64 sl,.int .i64 st] 88)=W1
       have k0:=cell_regrown (w:=W1) (a:=⟨b,off+(k - 1) * 3,none⟩) (v:=.int .i64 pf) (by rw [← hW1,World.cell?_alloc_past _ _ _ hbs];exact e0)
       have k1:=cell_regrown (w:=W1) (a:=⟨b,off+(k - 1) * 3+1,none⟩) (v:=.int .i64 pl) (by rw [← hW1,World.cell?_alloc_past _ _ _ hbs];exact e1)
       have k2:=cell_regrown (w:=W1) (a:=⟨b,off+(k - 1) * 3+2,none⟩) (v:=.int .i64 pt) (by rw [← hW1,World.cell?_alloc_past _ _ _ hbs];exact e2)
       have k3:=cell_regrown (w:=W1) (a:=⟨wr.heap.size,0,none⟩) (v:=.int .i64 sf) (by rw [← hW1];simp)
       have k4:=cell_regrown (w:=W1) (a:=⟨wr.heap.size,1,none⟩) (v:=.int .i64 sl) (by rw [← hW1];simp)
       have k5:=cell_regrown (w:=W1) (a:=⟨wr.heap.size,2,none⟩) (v:=.int .i64 st) (by rw [← hW1];simp)
       have k6:=cell_regrown (w:=W1) (a:=⟨w.heap.size,4,none⟩) (v:=.slice (some ⟨b,off,none⟩) ss.length c0) (by rw [← hW1,World.cell?_alloc_past _ _ _ hlw];exact x4)
       have hbW1:Below W0.heap.size W0 W1:=by rw [← hW1];exact hbr.alloc hbr.size _
       clear hW1
       have cO:∀ d os,Calls Tryz.prog 116 #[.agg #[.int .i64 pf,.int .i64 pl,.int .i64 pt],.agg #[.int .i64 sf,.int .i64 sl,.int .i64 st]] (grow (redrawn W1 d) os) fun e w''=>e=.returned (.int .i64 (ordS ⟨pf,pl,pt⟩ ⟨sf,sl,st⟩))∧∃ p:Regrown,w''=grow (redrawn W1 p.d) p.os:=fun d os=>Calls.regrown_of (order_any ⟨pf,pl,pt⟩ ⟨sf,sl,st⟩ _)
       generalize ho:ordS ⟨pf,pl,pt⟩ ⟨sf,sl,st⟩=o at cO
       have Ho:=hide ho
       have CO:=hide cO
       clear ho cO d0 d1 d2 e0 e1 e2 x0 x1 x4 HB HW1 HW2 HW3
       by_cases hneg:0≤o
       ·have hd:decide (0≤o)=true:=decide_eq_true hneg
        go_wp2_with (fail)
        refine wp_region_quiet_below (by kernel_rfl) (by kernel_rfl) ?_
        (repeat (go_big_quiet_step (exact CO.out _ _)))
        refine wpQuiet_nil ?_
        intro _ hw'
        obtain ⟨⟨dq,osq⟩,hw''⟩:=hw'
        subst hw''
        have hbq:=below_trans hbW1 (below_regrown W1 dq osq)
        clear k0 k1 k2 k3 k4 k5 k6
        go_wp2
        go_ret
        have:q=4:=by rw [← Hqk.out];exact chk_fall n m ss k hk0 hlt (by rw [Hbad.out];rfl) (by rw [Hs.out,Hp.out,Ho.out];exact hneg)
        subst this
        exact ⟨rfl,below_trans hbW hbq⟩
       ·have hd:decide (0≤o)=false:=decide_eq_false hneg
        go_wp2_with (fail)
        refine wp_region_quiet_below (by kernel_rfl) (by kernel_rfl) ?_
        (repeat (go_big_quiet_step (exact CO.out _ _)))
        refine wpQuiet_nil ?_
        intro _ hw'
        obtain ⟨⟨dq,osq⟩,hw''⟩:=hw'
        subst hw''
        have hbq:=below_trans hbW1 (below_regrown W1 dq osq)
        clear k0 k1 k2 k3 k4 k5 k6
        go_wp2
        go_roundw
        case rel=>exact ⟨k+1,by omega,by go_num,by
         rw [← Hqk.out]
         exact (chk_rise n m ss k hk0 hlt (by rw [Hbad.out];rfl) (by rw [Hs.out,Hp.out,Ho.out];omega)).symm,hbq⟩
        case measure=>simp [intOf];omega
      ·have hd0:decide (0 < k)=false:=by simp;omega
       have Hk0:Hid (k=0):=by show k=0;omega
       go_wp2_with (fail)
       (refine wp_region_quiet_lit (by kernel_rfl) (by kernel_rfl) ?_;(repeat (go_big_quiet_step (fail)));refine wpQuiet_nil ?_;intro _ hw';obtain ⟨nq,hw''⟩:=hw';subst hw'')
       go_wp2
       go_roundw
       case rel=>exact ⟨k+1,by omega,by go_num,by
        rw [← Hqk.out,Hk0.out]
        exact (chk_first n m ss (by omega) (by have:=Hbad.out;rw [Hk0.out] at this;exact this)).symm,below_drewN (hbr.alloc hbr.size _) _⟩
       case measure=>simp [intOf];omega
  ·go_wp2_with (fail)
   go_ret
   have:q=0:=by rw [← Hqk.out];exact chk_end n m ss k (by omega)
   subst this
   exact ⟨rfl,below_trans hbW hbr⟩
theorem autoCheck_any {w:World}{v:Value}{A:Aut} (hv:AutV w v A) :
  Calls Tryz.prog 47 #[v] w fun e w'=>e=.returned (.int .i64 (chkA A))∧Below w.heap.size w w':=by
 obtain ⟨fv,gv,sv,rfl,h1,h2,h3⟩:=hv
 have HF:Hid (∀ w1,Below w.heap.size w w1→Calls Tryz.prog 90 #[.agg #[.int .i64 A.n,.int .i64 A.m,fv,gv,sv]] w1 fun e w'=>e=.returned (.int .i64 (chkFirst A.n A.first))∧Below w1.heap.size w1 w'):=fun w1 hb=>checkFirst_any A.n A.m fv gv sv A.first (h1.below hb)
 obtain ⟨a1,c1,rfl,hm1,-,-⟩:=h1
 obtain ⟨a2,c2,rfl,hm2,-,-⟩:=h2
 have HS:Hid (∀ w1,Below w.heap.size w w1→Calls Tryz.prog 91 #[.agg #[.int .i64 A.n,.int .i64 A.m,.slice a1 A.first.length c1,.slice a2 A.good.length c2,sv]] w1 fun e w'=>e=.returned (.int .i64 (chkStepsFrom A.n A.m none A.steps))∧Below w1.heap.size w1 w'):=fun w1 hb=>checkSteps_any A.n A.m a1 a2 _ _ c1 c2 sv A.steps (h3.below hb)
 obtain ⟨a3,c3,rfl,hm3,-,-⟩:=h3
 unfold maxLen at hm1 hm2 hm3
 generalize hq:chkA A=q
 have Hq:=hide hq
 clear hq
 obtain ⟨n,m,first,good,steps⟩:=A
 dsimp only at *
 generalize hcf:chkFirst n first=cf at HF
 generalize hcs:chkStepsFrom n m none steps=cs at HS
 have Hcf:=hide hcf
 have Hcs:=hide hcs
 clear hcf hcs
 generalize hl1:first.length=L1 at *
 generalize hl2:good.length=L2 at *
 generalize hl3:steps.length=L3 at *
 have Hqq:Hid (q=if n < 1 ∨ 300 < n ∨ m < 1 ∨ 8 < m then 3 else if (L2:Int) ≠ n then 1 else if 6000 < L3 then 2 else if cf ≠ 0 then cf else cs):=by
  show q=_
  rw [← Hq.out,← hl2,← hl3]
  simp only [chkA,Hcf.out,Hcs.out]
 clear hl1 hl2 hl3 Hq Hcf Hcs
 by_cases g1:n < 1
 ·have:q=3:=by rw [Hqq.out,if_pos (Or.inl g1)]
  subst this
  go_enter Tryz.func47,Tryz.ntmps47
  go_wp2
  go_ret
  exact ⟨rfl,(by repeat (first | exact Below.refl _ _ | assumption | refine below_drewN ?_ _ | refine Below.drew ?_ | refine Below.alloc ?_ (by simp <;> omega) _ | refine below_trans ?_ (by assumption)))⟩
 by_cases g2:300 < n
 ·have:q=3:=by rw [Hqq.out,if_pos (Or.inr (Or.inl g2))]
  subst this
  have g1':1≤n:=by omega
  clear g1
  go_enter Tryz.func47,Tryz.ntmps47
  go_wp2
  go_ret
  exact ⟨rfl,(by repeat (first | exact Below.refl _ _ | assumption | refine below_drewN ?_ _ | refine Below.drew ?_ | refine Below.alloc ?_ (by simp <;> omega) _ | refine below_trans ?_ (by assumption)))⟩
 have g1':1≤n:=by omega
 have g2':n≤300:=by omega
 by_cases g3:m < 1
 ·have:q=3:=by rw [Hqq.out,if_pos (Or.inr (Or.inr (Or.inl g3)))]
  subst this
  clear g1 g2
  go_enter Tryz.func47,Tryz.ntmps47
  go_wp2
  go_ret
  exact ⟨rfl,(by repeat (first | exact Below.refl _ _ | assumption | refine below_drewN ?_ _ | refine Below.drew ?_ | refine Below.alloc ?_ (by simp <;> omega) _ | refine below_trans ?_ (by assumption)))⟩
 have g3':1≤m:=by omega
 by_cases g4:8 < m
 ·have:q=3:=by rw [Hqq.out,if_pos (Or.inr (Or.inr (Or.inr g4)))]
  subst this
  clear g1 g2 g3
  go_enter Tryz.func47,Tryz.ntmps47
  go_wp2
  go_ret
  exact ⟨rfl,(by repeat (first | exact Below.refl _ _ | assumption | refine below_drewN ?_ _ | refine Below.drew ?_ | refine Below.alloc ?_ (by simp <;> omega) _ | refine below_trans ?_ (by assumption)))⟩
 have g4':m≤8:=by omega
 have Hq1:Hid (q=if (L2:Int) ≠ n then 1 else if 6000 < L3 then 2 else if cf ≠ 0 then cf else cs):=by
  show q=_
  rw [Hqq.out,if_neg (by omega)]
 clear Hqq g1 g2 g3 g4
 by_cases g5:(L2:Int)=n
 ·have g5':((L2:Int) != n)=false:=by simp [g5]
  have Hq2:Hid (q=if 6000 < L3 then 2 else if cf ≠ 0 then cf else cs):=by
   show q=_
   rw [Hq1.out,if_neg (by simpa using g5)]
  clear Hq1 g5
  by_cases g6:6000 < L3
  ·have:q=2:=by rw [Hq2.out,if_pos g6]
   subst this
   go_enter Tryz.func47,Tryz.ntmps47
   go_wp2
   go_ret
   exact ⟨rfl,(by repeat (first | exact Below.refl _ _ | assumption | refine below_drewN ?_ _ | refine Below.drew ?_ | refine Below.alloc ?_ (by simp <;> omega) _ | refine below_trans ?_ (by assumption)))⟩
  have g6':L3≤6000:=by omega
  have Hq3:Hid (q=if cf ≠ 0 then cf else cs):=by
   show q=_
   rw [Hq2.out,if_neg g6]
  clear Hq2 g6
  by_cases g7:cf=0
  ·have g7':(cf != 0)=false:=by simp [g7]
   have Hq4:Hid (q=cs):=by show q=cs;rw [Hq3.out,if_neg (by simpa using g7)]
   clear Hq3 g7
   go_enter Tryz.func47,Tryz.ntmps47
   go_wp2_with (fail)
   refine (HF.out _ (by repeat (first | exact Below.refl _ _ | assumption | refine below_drewN ?_ _ | refine Below.drew ?_ | refine Below.alloc ?_ (by simp <;> omega) _ | refine below_trans ?_ (by assumption)))).mono ?_
   rintro e w1 ⟨rfl,hb1⟩
   have hbw:Below w.heap.size w w1:=below_trans (by repeat (first | exact Below.refl _ _ | assumption | refine below_drewN ?_ _ | refine Below.drew ?_ | refine Below.alloc ?_ (by simp <;> omega) _ | refine below_trans ?_ (by assumption))) hb1
   have y0:w1.cell? ⟨w.heap.size,0,none⟩=some (.int .i64 n):=by rw [hb1.cell (by simp <;> omega)];simp
   have y1:w1.cell? ⟨w.heap.size,1,none⟩=some (.int .i64 m):=by rw [hb1.cell (by simp <;> omega)];simp
   have y2:w1.cell? ⟨w.heap.size,2,none⟩=some (.slice a1 L1 c1):=by rw [hb1.cell (by simp <;> omega)];simp
   have y3:w1.cell? ⟨w.heap.size,3,none⟩=some (.slice a2 L2 c2):=by rw [hb1.cell (by simp <;> omega)];simp
   have y4:w1.cell? ⟨w.heap.size,4,none⟩=some (.slice a3 L3 c3):=by rw [hb1.cell (by simp <;> omega)];simp
   go_wp2_with (fail)
   refine (HS.out _ hbw).mono ?_
   rintro e w2 ⟨rfl,hb2⟩
   go_wp2
   go_ret
   exact ⟨by rw [Hq4.out];rfl,below_trans hbw hb2⟩
  ·have g7':(cf != 0)=true:=by simp [g7]
   have Hq4:Hid (q=cf):=by show q=cf;rw [Hq3.out,if_pos g7]
   clear Hq3 g7
   go_enter Tryz.func47,Tryz.ntmps47
   go_wp2_with (fail)
   refine (HF.out _ (by repeat (first | exact Below.refl _ _ | assumption | refine below_drewN ?_ _ | refine Below.drew ?_ | refine Below.alloc ?_ (by simp <;> omega) _ | refine below_trans ?_ (by assumption)))).mono ?_
   rintro e w1 ⟨rfl,hb1⟩
   have hbw:Below w.heap.size w w1:=below_trans (by repeat (first | exact Below.refl _ _ | assumption | refine below_drewN ?_ _ | refine Below.drew ?_ | refine Below.alloc ?_ (by simp <;> omega) _ | refine below_trans ?_ (by assumption))) hb1
   go_wp2
   go_ret
   exact ⟨by rw [Hq4.out];rfl,hbw⟩
 ·have g5':((L2:Int) != n)=true:=by simp [g5]
  have:q=1:=by rw [Hq1.out,if_pos g5]
  subst this
  clear Hq1 g5
  go_enter Tryz.func47,Tryz.ntmps47
  go_wp2
  go_ret
  exact ⟨rfl,(by repeat (first | exact Below.refl _ _ | assumption | refine below_drewN ?_ _ | refine Below.drew ?_ | refine Below.alloc ?_ (by simp <;> omega) _ | refine below_trans ?_ (by assumption)))⟩
theorem five_get (B:Nat→Nat) (k:IntKind) (i:Nat) (h:i < 5):(#[Value.int k (B 0),.int k (B 1),.int k (B 2),.int k (B 3),.int k (B 4)]:Array Value)[i]?=some (.int k (B i)):=by
 match i,h with
 | 0,_=>rfl
 | 1,_=>rfl
 | 2,_=>rfl
 | 3,_=>rfl
 | 4,_=>rfl
def inB (B:Nat→Nat) (s:Nat):Bool:=(B (s / 64)).testBit (s % 64)
def addB (B:Nat→Nat) (s:Nat):Nat→Nat:=fun i=>if i=s / 64 then B i ||| 2 ^ (s % 64) else B i
def Words (B:Nat→Nat):Prop:=∀ i,B i < 18446744073709551616
theorem testBit_word (x k:Nat) (hx:x < 18446744073709551616):(bits BinOp.and IntKind.u64 ((x:Int) / 2 ^ k) 1 != 0)=x.testBit k:=by
 have e1:(2:Int) ^ k=((2 ^ k:Nat):Int):=by simp
 have e:((x:Int) / 2 ^ k)=((x / 2 ^ k:Nat):Int):=by rw [e1];exact (Int.natCast_ediv x (2 ^ k)).symm
 have hle:x / 2 ^ k≤x:=Nat.div_le_self _ _
 rw [e,Nat.testBit_eq_decide_div_mod_eq]
 generalize x / 2 ^ k=y at *
 rw [and_one_u64 _ (by omega) (by omega)]
 rcases Nat.mod_two_eq_zero_or_one y with h | h
 ·have h2:(y:Int) % 2=0:=by omega
  rw [h,h2];rfl
 ·have h2:(y:Int) % 2=1:=by omega
  rw [h,h2];rfl
theorem has_any (B:Nat→Nat) (s:Nat) (w:World) (hs:s < 300) (hB:Words B) :
  Calls Tryz.prog 135 #[.agg #[.int .u64 (B 0),.int .u64 (B 1),.int .u64 (B 2),.int .u64 (B 3),.int .u64 (B 4)],.int .i64 s] w fun e w'=>e=.returned (.bool (inB B s))∧Below w.heap.size w w':=by
 have hc:(w.alloc (Obj.cells #[Value.int .u64 (B 0),.int .u64 (B 1),.int .u64 (B 2),.int .u64 (B 3),.int .u64 (B 4)] 188)).cell? ⟨w.heap.size,s / 64,none⟩=some (.int .u64 (B (s / 64))):=by
  rw [World.cell?_alloc_new];exact five_get B .u64 _ (by omega)
 have hb:=hB (s / 64)
 have Hr:=hide (testBit_word (B (s / 64)) (s % 64) hb)
 unfold inB
 generalize B (s / 64)=x at *
 have h0:0≤(s:Int) % 64:=by omega
 have h1:(s:Int) % 64 < 64:=by omega
 clear hB
 go_enter Tryz.func135,Tryz.ntmps135
 go_wp2
 go_ret
 exact ⟨by rw [← Hr.out];rfl,(by repeat (first | exact Below.refl _ _ | assumption | refine below_drewN ?_ _ | refine Below.drew ?_ | refine Below.alloc ?_ (by simp <;> omega) _ | refine below_trans ?_ (by assumption)))⟩
theorem orBit_word (x k:Nat) (hx:x < 18446744073709551616) (hk:k < 64):bits BinOp.or IntKind.u64 (x:Int) (IntKind.u64.wrap (2 ^ k))=((x ||| 2 ^ k:Nat):Int):=by
 have e1:(2:Int) ^ k=((2 ^ k:Nat):Int):=by simp
 have hlt:2 ^ k < 2 ^ 64:=Nat.pow_lt_pow_right (by decide) hk
 have e2:IntKind.u64.wrap (2 ^ k)=((2 ^ k:Nat):Int):=by
  rw [IntKind.wrap_u64,e1]
  generalize 2 ^ k=y at *
  omega
 rw [e2]
 exact bits_or_u64_nat x (2 ^ k) hx (Nat.pow_lt_pow_right (by decide) hk)
theorem addB_words {B:Nat→Nat} (hB:Words B) (s:Nat):Words (addB B s):=by
 intro i
 unfold addB
 split
 ·exact Nat.or_lt_two_pow (n:=64) (hB i) (Nat.pow_lt_pow_right (by decide) (Nat.mod_lt _ (by decide)))
 ·exact hB i
theorem inB_add (B:Nat→Nat) (s t:Nat):inB (addB B s) t=(inB B t || decide (t=s)):=by
 unfold inB addB
 by_cases h:t / 64=s / 64
 ·rw [if_pos h,Nat.testBit_or,Nat.testBit_two_pow]
  congr 1
  by_cases e:t=s
  ·subst e;simp
  ·have:¬ s % 64=t % 64:=by omega
   simp [this,e]
 ·rw [if_neg h]
  have:¬ t=s:=by intro e;subst e;exact h rfl
  simp [this]
theorem with_0 (B:Nat→Nat) (s:Nat) (w:World) (hs:s < 300) (hB:Words B) (hq:s / 64=0) :
  Calls Tryz.prog 128 #[.agg #[.int .u64 (B 0),.int .u64 (B 1),.int .u64 (B 2),.int .u64 (B 3),.int .u64 (B 4)],.int .i64 s] w fun e w'=>e=.returned (.agg #[.int .u64 (addB B s 0),.int .u64 (addB B s 1),.int .u64 (addB B s 2),.int .u64 (addB B s 3),.int .u64 (addB B s 4)])∧Below w.heap.size w w':=by
 have hqi:(s:Int) / 64=0:=by omega
 have h0:0≤(s:Int) % 64:=by omega
 have h1:(s:Int) % 64 < 64:=by omega
 have ho:=orBit_word (B 0) (s % 64) (hB 0) (by omega)
 have Hv:Hid ((Value.agg #[.int .u64 (addB B s 0),.int .u64 (addB B s 1),.int .u64 (addB B s 2),.int .u64 (addB B s 3),.int .u64 (addB B s 4)])=(Value.agg #[.int .u64 (bits BinOp.or IntKind.u64 ((B 0:Nat):Int) (IntKind.u64.wrap (2 ^ (s % 64)))),.int .u64 (B 1),.int .u64 (B 2),.int .u64 (B 3),.int .u64 (B 4)])):=by
  show _=_
  simp [addB,hq,ho]
 rw [Hv.out]
 clear ho
 go_enter Tryz.func128,Tryz.ntmps128
 go_wp2
 go_region
 go_wp2
 exact bodyPost_ret (v:=(Value.agg #[.int .u64 (bits BinOp.or IntKind.u64 ((B 0:Nat):Int) (IntKind.u64.wrap (2 ^ (s % 64)))),.int .u64 (B 1),.int .u64 (B 2),.int .u64 (B 3),.int .u64 (B 4)])) (by simp [results,Tryz.results128,go_sem]) rfl ⟨rfl,(by repeat (first | exact Below.refl _ _ | assumption | refine below_drewN ?_ _ | refine Below.drew ?_ | refine Below.alloc ?_ (by simp <;> omega) _ | refine below_trans ?_ (by assumption)))⟩
theorem with_1 (B:Nat→Nat) (s:Nat) (w:World) (hs:s < 300) (hB:Words B) (hq:s / 64=1) :
  Calls Tryz.prog 128 #[.agg #[.int .u64 (B 0),.int .u64 (B 1),.int .u64 (B 2),.int .u64 (B 3),.int .u64 (B 4)],.int .i64 s] w fun e w'=>e=.returned (.agg #[.int .u64 (addB B s 0),.int .u64 (addB B s 1),.int .u64 (addB B s 2),.int .u64 (addB B s 3),.int .u64 (addB B s 4)])∧Below w.heap.size w w':=by
 have hqi:(s:Int) / 64=1:=by omega
 have h0:0≤(s:Int) % 64:=by omega
 have h1:(s:Int) % 64 < 64:=by omega
 have ho:=orBit_word (B 1) (s % 64) (hB 1) (by omega)
 have Hv:Hid ((Value.agg #[.int .u64 (addB B s 0),.int .u64 (addB B s 1),.int .u64 (addB B s 2),.int .u64 (addB B s 3),.int .u64 (addB B s 4)])=(Value.agg #[.int .u64 (B 0),.int .u64 (bits BinOp.or IntKind.u64 ((B 1:Nat):Int) (IntKind.u64.wrap (2 ^ (s % 64)))),.int .u64 (B 2),.int .u64 (B 3),.int .u64 (B 4)])):=by
  show _=_
  simp [addB,hq,ho]
 rw [Hv.out]
 clear ho
 go_enter Tryz.func128,Tryz.ntmps128
 go_wp2
 go_region
 go_wp2
 exact bodyPost_ret (v:=(Value.agg #[.int .u64 (B 0),.int .u64 (bits BinOp.or IntKind.u64 ((B 1:Nat):Int) (IntKind.u64.wrap (2 ^ (s % 64)))),.int .u64 (B 2),.int .u64 (B 3),.int .u64 (B 4)])) (by simp [results,Tryz.results128,go_sem]) rfl ⟨rfl,(by repeat (first | exact Below.refl _ _ | assumption | refine below_drewN ?_ _ | refine Below.drew ?_ | refine Below.alloc ?_ (by simp <;> omega) _ | refine below_trans ?_ (by assumption)))⟩
theorem with_2 (B:Nat→Nat) (s:Nat) (w:World) (hs:s < 300) (hB:Words B) (hq:s / 64=2) :
  Calls Tryz.prog 128 #[.agg #[.int .u64 (B 0),.int .u64 (B 1),.int .u64 (B 2),.int .u64 (B 3),.int .u64 (B 4)],.int .i64 s] w fun e w'=>e=.returned (.agg #[.int .u64 (addB B s 0),.int .u64 (addB B s 1),.int .u64 (addB B s 2),.int .u64 (addB B s 3),.int .u64 (addB B s 4)])∧Below w.heap.size w w':=by
 have hqi:(s:Int) / 64=2:=by omega
 have h0:0≤(s:Int) % 64:=by omega
 have h1:(s:Int) % 64 < 64:=by omega
 have ho:=orBit_word (B 2) (s % 64) (hB 2) (by omega)
 have Hv:Hid ((Value.agg #[.int .u64 (addB B s 0),.int .u64 (addB B s 1),.int .u64 (addB B s 2),.int .u64 (addB B s 3),.int .u64 (addB B s 4)])=(Value.agg #[.int .u64 (B 0),.int .u64 (B 1),.int .u64 (bits BinOp.or IntKind.u64 ((B 2:Nat):Int) (IntKind.u64.wrap (2 ^ (s % 64)))),.int .u64 (B 3),.int .u64 (B 4)])):=by
  show _=_
  simp [addB,hq,ho]
 rw [Hv.out]
 clear ho
 go_enter Tryz.func128,Tryz.ntmps128
 go_wp2
 go_region
 go_wp2
 exact bodyPost_ret (v:=(Value.agg #[.int .u64 (B 0),.int .u64 (B 1),.int .u64 (bits BinOp.or IntKind.u64 ((B 2:Nat):Int) (IntKind.u64.wrap (2 ^ (s % 64)))),.int .u64 (B 3),.int .u64 (B 4)])) (by simp [results,Tryz.results128,go_sem]) rfl ⟨rfl,(by repeat (first | exact Below.refl _ _ | assumption | refine below_drewN ?_ _ | refine Below.drew ?_ | refine Below.alloc ?_ (by simp <;> omega) _ | refine below_trans ?_ (by assumption)))⟩
theorem with_3 (B:Nat→Nat) (s:Nat) (w:World) (hs:s < 300) (hB:Words B) (hq:s / 64=3) :
  Calls Tryz.prog 128 #[.agg #[.int .u64 (B 0),.int .u64 (B 1),.int .u64 (B 2),.int .u64 (B 3),.int .u64 (B 4)],.int .i64 s] w fun e w'=>e=.returned (.agg #[.int .u64 (addB B s 0),.int .u64 (addB B s 1),.int .u64 (addB B s 2),.int .u64 (addB B s 3),.int .u64 (addB B s 4)])∧Below w.heap.size w w':=by
 have hqi:(s:Int) / 64=3:=by omega
 have h0:0≤(s:Int) % 64:=by omega
 have h1:(s:Int) % 64 < 64:=by omega
 have ho:=orBit_word (B 3) (s % 64) (hB 3) (by omega)
 have Hv:Hid ((Value.agg #[.int .u64 (addB B s 0),.int .u64 (addB B s 1),.int .u64 (addB B s 2),.int .u64 (addB B s 3),.int .u64 (addB B s 4)])=(Value.agg #[.int .u64 (B 0),.int .u64 (B 1),.int .u64 (B 2),.int .u64 (bits BinOp.or IntKind.u64 ((B 3:Nat):Int) (IntKind.u64.wrap (2 ^ (s % 64)))),.int .u64 (B 4)])):=by
  show _=_
  simp [addB,hq,ho]
 rw [Hv.out]
 clear ho
 go_enter Tryz.func128,Tryz.ntmps128
 go_wp2
 go_region
 go_wp2
 exact bodyPost_ret (v:=(Value.agg #[.int .u64 (B 0),.int .u64 (B 1),.int .u64 (B 2),.int .u64 (bits BinOp.or IntKind.u64 ((B 3:Nat):Int) (IntKind.u64.wrap (2 ^ (s % 64)))),.int .u64 (B 4)])) (by simp [results,Tryz.results128,go_sem]) rfl ⟨rfl,(by repeat (first | exact Below.refl _ _ | assumption | refine below_drewN ?_ _ | refine Below.drew ?_ | refine Below.alloc ?_ (by simp <;> omega) _ | refine below_trans ?_ (by assumption)))⟩
theorem with_4 (B:Nat→Nat) (s:Nat) (w:World) (hs:s < 300) (hB:Words B) (hq:s / 64=4) :
  Calls Tryz.prog 128 #[.agg #[.int .u64 (B 0),.int .u64 (B 1),.int .u64 (B 2),.int .u64 (B 3),.int .u64 (B 4)],.int .i64 s] w fun e w'=>e=.returned (.agg #[.int .u64 (addB B s 0),.int .u64 (addB B s 1),.int .u64 (addB B s 2),.int .u64 (addB B s 3),.int .u64 (addB B s 4)])∧Below w.heap.size w w':=by
 have hqi:(s:Int) / 64=4:=by omega
 have h0:0≤(s:Int) % 64:=by omega
 have h1:(s:Int) % 64 < 64:=by omega
 have ho:=orBit_word (B 4) (s % 64) (hB 4) (by omega)
 have Hv:Hid ((Value.agg #[.int .u64 (addB B s 0),.int .u64 (addB B s 1),.int .u64 (addB B s 2),.int .u64 (addB B s 3),.int .u64 (addB B s 4)])=(Value.agg #[.int .u64 (B 0),.int .u64 (B 1),.int .u64 (B 2),.int .u64 (B 3),.int .u64 (bits BinOp.or IntKind.u64 ((B 4:Nat):Int) (IntKind.u64.wrap (2 ^ (s % 64))))])):=by
  show _=_
  simp [addB,hq,ho]
 rw [Hv.out]
 clear ho
 go_enter Tryz.func128,Tryz.ntmps128
 go_wp2
 go_region
 go_wp2
 exact bodyPost_ret (v:=(Value.agg #[.int .u64 (B 0),.int .u64 (B 1),.int .u64 (B 2),.int .u64 (B 3),.int .u64 (bits BinOp.or IntKind.u64 ((B 4:Nat):Int) (IntKind.u64.wrap (2 ^ (s % 64))))])) (by simp [results,Tryz.results128,go_sem]) rfl ⟨rfl,(by repeat (first | exact Below.refl _ _ | assumption | refine below_drewN ?_ _ | refine Below.drew ?_ | refine Below.alloc ?_ (by simp <;> omega) _ | refine below_trans ?_ (by assumption)))⟩
theorem with_any (B:Nat→Nat) (s:Nat) (w:World) (hs:s < 300) (hB:Words B) :
  Calls Tryz.prog 128 #[.agg #[.int .u64 (B 0),.int .u64 (B 1),.int .u64 (B 2),.int .u64 (B 3),.int .u64 (B 4)],.int .i64 s] w fun e w'=>e=.returned (.agg #[.int .u64 (addB B s 0),.int .u64 (addB B s 1),.int .u64 (addB B s 2),.int .u64 (addB B s 3),.int .u64 (addB B s 4)])∧Below w.heap.size w w':=by
 by_cases h0:s / 64=0
 ·exact with_0 B s w hs hB h0
 by_cases h1:s / 64=1
 ·exact with_1 B s w hs hB h1
 by_cases h2:s / 64=2
 ·exact with_2 B s w hs hB h2
 by_cases h3:s / 64=3
 ·exact with_3 B s w hs hB h3
 ·exact with_4 B s w hs hB (by omega)
def Tab (w:World):Prop:=∀ i,i < 64→w.cell? ⟨2,i,none⟩=some (.int .u8 (Lib.deBruijn64tab.getD i 0:Nat))
theorem Tab.below {w w':World} (h:Tab w) (hb:Below w.heap.size w w'):Tab w':=fun i hi=>by
 have:=h i hi
 rw [hb.cell (World.block_lt_of_cell? w _ this)];exact this
theorem cast_quo (y c m d:Nat):(y:Int) * (c:Int) % (m:Int) / (d:Int)=((y * c % m / d:Nat):Int):=by push_cast;rfl
theorem quo_range (x:Int):0≤IntKind.u64.wrap x / 288230376151711744∧IntKind.u64.wrap x / 288230376151711744 < 64:=by
 rw [IntKind.wrap_u64];omega
theorem tz_index (x:Nat) (h0:x ≠ 0) (hx:x < 18446744073709551616) :
  (IntKind.u64.wrap (bits BinOp.and IntKind.u64 (x:Int) (IntKind.u64.wrap (-(x:Int))) * 285870213051353865) / 288230376151711744).toNat < 64 ∧
  Lib.deBruijn64tab.getD (IntKind.u64.wrap (bits BinOp.and IntKind.u64 (x:Int) (IntKind.u64.wrap (-(x:Int))) * 285870213051353865) / 288230376151711744).toNat 0=Lib.ctz 64 x:=by
 obtain ⟨h1,h2⟩:=Lib.lowest_bit 64 x h0 hx
 have e1:IntKind.u64.wrap (-(x:Int))=((2 ^ 64 - x:Nat):Int):=by rw [IntKind.wrap_u64];omega
 have e2:bits BinOp.and IntKind.u64 (x:Int) ((2 ^ 64 - x:Nat):Int)=((2 ^ Lib.ctz 64 x:Nat):Int):=by
  rw [bits_and_u64_nat x (2 ^ 64 - x) hx (by omega),h1]
 rw [e1,e2,IntKind.wrap_u64]
 have e3:(((2 ^ Lib.ctz 64 x:Nat):Int) * 285870213051353865 % 18446744073709551616 / 288230376151711744).toNat=2 ^ Lib.ctz 64 x * 285870213051353865 % 18446744073709551616 / 288230376151711744:=by
  generalize 2 ^ Lib.ctz 64 x=y
  have e4:(y:Int) * 285870213051353865 % 18446744073709551616 / 288230376151711744=((y * 285870213051353865 % 18446744073709551616 / 288230376151711744:Nat):Int):=cast_quo y 285870213051353865 18446744073709551616 288230376151711744
  rw [e4,Int.toNat_natCast]
 rw [e3]
 exact Lib.deBruijn64_at _ h2
theorem tz_any (x:Nat) (w:World) (h0:((x:Int) == 0)=false) (hx:x < 18446744073709551616) (ht:Tab w) :
  Calls Tryz.prog 233 #[.int .u64 x] w fun e w'=>e=.returned (.int .i64 (Lib.ctz 64 x:Nat))∧w'=w:=by
 obtain ⟨h1,h2⟩:=tz_index x (by intro e;subst e;simp at h0) hx
 have hc:=ht _ h1
 rw [h2] at hc
 have hlt:Lib.ctz 64 x < 64:=(Lib.lowest_bit 64 x (by intro e;subst e;simp at h0) hx).2
 generalize Lib.ctz 64 x=z at *
 obtain ⟨q0,q1⟩:=quo_range (bits BinOp.and IntKind.u64 (x:Int) (IntKind.u64.wrap (-(x:Int))) * 285870213051353865)
 clear h1 h2 ht
 go_enter Tryz.func233,Tryz.ntmps233
 go_wp2
 go_ret
 exact ⟨rfl,rfl⟩
def lessW (x y:Nat):Nat:=x &&& (18446744073709551615 - y)
theorem andNot_word (x y:Nat) (hx:x < 18446744073709551616) (hy:y < 18446744073709551616):bits BinOp.andNot IntKind.u64 (x:Int) (y:Int)=((lessW x y:Nat):Int):=u64_andNot_nat x y hx hy
theorem lessW_lt (x y:Nat) (hx:x < 18446744073709551616):lessW x y < 18446744073709551616:=
 Nat.lt_of_le_of_lt Nat.and_le_left hx
theorem lessW_bit (x y c:Nat) (hy:y < 18446744073709551616) (hc:c < 64):(lessW x y).testBit c=(x.testBit c && !y.testBit c):=by
 unfold lessW
 rw [Nat.testBit_and,show 18446744073709551615 - y=2 ^ 64 - (y+1) by omega,Nat.testBit_two_pow_sub_succ hy]
 simp [hc]
theorem ctz_bit (z:Nat) (h0:z ≠ 0) (hz:z < 18446744073709551616):z.testBit (Lib.ctz 64 z)=true∧Lib.ctz 64 z < 64:=by
 obtain ⟨h1,h2⟩:=Lib.lowest_bit 64 z h0 hz
 refine ⟨?_,h2⟩
 have:(z &&& (2 ^ 64 - z)).testBit (Lib.ctz 64 z)=true:=by rw [h1];simp
 rw [Nat.testBit_and,Bool.and_eq_true] at this
 exact this.1
theorem index_five0 (x0 x1 x2 x3 x4:Value) (w:World):(Instr.index 186 (.agg #[x0,x1,x2,x3,x4]) (.int .i64 0)).run Tryz.prog w=.ok x0 w:=by kernel_rfl
theorem index_five1 (x0 x1 x2 x3 x4:Value) (w:World):(Instr.index 186 (.agg #[x0,x1,x2,x3,x4]) (.int .i64 1)).run Tryz.prog w=.ok x1 w:=by kernel_rfl
theorem index_five2 (x0 x1 x2 x3 x4:Value) (w:World):(Instr.index 186 (.agg #[x0,x1,x2,x3,x4]) (.int .i64 2)).run Tryz.prog w=.ok x2 w:=by kernel_rfl
theorem index_five3 (x0 x1 x2 x3 x4:Value) (w:World):(Instr.index 186 (.agg #[x0,x1,x2,x3,x4]) (.int .i64 3)).run Tryz.prog w=.ok x3 w:=by kernel_rfl
theorem index_five4 (x0 x1 x2 x3 x4:Value) (w:World):(Instr.index 186 (.agg #[x0,x1,x2,x3,x4]) (.int .i64 4)).run Tryz.prog w=.ok x4 w:=by kernel_rfl
theorem index_five (B:Nat→Nat) (k:Nat) (hk:k < 5) (w:World):(Instr.index 186 (.agg #[.int .u64 (B 0),.int .u64 (B 1),.int .u64 (B 2),.int .u64 (B 3),.int .u64 (B 4)]) (.int .i64 k)).run Tryz.prog w=.ok (.int .u64 (B k)) w:=by
 have h:k=0 ∨ k=1 ∨ k=2 ∨ k=3 ∨ k=4:=by omega
 rcases h with rfl | rfl | rfl | rfl | rfl
 ·exact index_five0 _ _ _ _ _ w
 ·exact index_five1 _ _ _ _ _ w
 ·exact index_five2 _ _ _ _ _ w
 ·exact index_five3 _ _ _ _ _ w
 ·exact index_five4 _ _ _ _ _ w
def woutGo (B C:Nat→Nat):Nat→Nat→Nat × Bool
 | 0,_=>(0,false)
 | fuel+1,k=>if lessW (B k) (C k)=0 then woutGo B C fuel (k+1) else (64 * k+Lib.ctz 64 (lessW (B k) (C k)),true)
def wout (B C:Nat→Nat):Nat × Bool:=woutGo B C 5 0
theorem woutGo_spec {B C:Nat→Nat} (hB:Words B) (hC:Words C):∀ (fuel k:Nat),k+fuel=5 →
  ((woutGo B C fuel k).2=true→(woutGo B C fuel k).1 < 320∧inB B (woutGo B C fuel k).1=true∧inB C (woutGo B C fuel k).1=false) ∧
  ((woutGo B C fuel k).2=false→(woutGo B C fuel k).1=0∧∀ t,k≤t / 64→t < 320→inB B t=true→inB C t=true)
 | 0,k,h=>⟨(fun e=>by cases e),fun _=>⟨rfl,fun t h1 h2 _=>by omega⟩⟩
 | fuel+1,k,h=>by
  by_cases h0:lessW (B k) (C k)=0
  ·have e:woutGo B C (fuel+1) k=woutGo B C fuel (k+1):=by rw [woutGo,if_pos h0]
   rw [e]
   obtain ⟨g1,g2⟩:=woutGo_spec hB hC fuel (k+1) (by omega)
   refine ⟨g1,fun hf=>⟨(g2 hf).1,fun t h1 h2 h3=>?_⟩⟩
   by_cases hk:t / 64=k
   ·have hbit:=lessW_bit (B k) (C k) (t % 64) (hC k) (Nat.mod_lt _ (by decide))
    unfold inB at h3 ⊢
    rw [hk] at h3 ⊢
    rw [h0,h3] at hbit
    simpa using hbit
   ·exact (g2 hf).2 t (by omega) h2 h3
  ·have e:woutGo B C (fuel+1) k=(64 * k+Lib.ctz 64 (lessW (B k) (C k)),true):=by rw [woutGo,if_neg h0]
   rw [e]
   obtain ⟨b1,b2⟩:=ctz_bit _ h0 (lessW_lt (B k) (C k) (hB k))
   generalize Lib.ctz 64 (lessW (B k) (C k))=c at *
   refine ⟨fun _=>?_,fun e=>by cases e⟩
   rw [lessW_bit _ _ _ (hC k) b2,Bool.and_eq_true,Bool.not_eq_true'] at b1
   have e1:(64 * k+c) / 64=k:=by omega
   have e2:(64 * k+c) % 64=c:=by omega
   refine ⟨by show 64 * k+c < 320;omega,?_,?_⟩
   ·unfold inB;rw [e1,e2];exact b1.1
   ·unfold inB;rw [e1,e2];exact b1.2
theorem without_any (B C:Nat→Nat) (w:World) (hB:Words B) (hC:Words C) (ht:Tab w) :
  Calls Tryz.prog 209 #[.agg #[.int .u64 (B 0),.int .u64 (B 1),.int .u64 (B 2),.int .u64 (B 3),.int .u64 (B 4)],.agg #[.int .u64 (C 0),.int .u64 (C 1),.int .u64 (C 2),.int .u64 (C 3),.int .u64 (C 4)]] w fun e w'=>e=.returned (.tuple #[.int .i64 (wout B C).1,.bool (wout B C).2])∧Below w.heap.size w w':=by
 have HB:=hide hB
 have HC:=hide hC
 have HT:=hide ht
 clear hB hC ht
 generalize hgo:wout B C=q
 have Hgo:Hid (woutGo B C (5 - 0) 0=q):=hgo
 clear hgo
 go_enter Tryz.func209,Tryz.ntmps209
 go_wp2
 generalize hW0:(w.alloc (Obj.cells #[Value.int .u64 (B 0),.int .u64 (B 1),.int .u64 (B 2),.int .u64 (B 3),.int .u64 (B 4)] 188)).alloc (Obj.cells #[Value.int .u64 (C 0),.int .u64 (C 1),.int .u64 (C 2),.int .u64 (C 3),.int .u64 (C 4)] 188)=W0
 have hbW:Below w.heap.size w W0:=by rw [← hW0];exact (by repeat (first | exact Below.refl _ _ | assumption | refine below_drewN ?_ _ | refine Below.drew ?_ | refine Below.alloc ?_ (by simp <;> omega) _ | refine below_trans ?_ (by assumption)))
 have HcC:Hid (∀ k,k < 5→W0.cell? ⟨w.heap.size+1,k,none⟩=some (.int .u64 (C k))):=fun k hk=>by
  rw [← hW0,World.cell?_alloc2_new];exact five_get C .u64 k hk
 clear hW0
 go_loopw [11] (fun i wr=>∃ k:Nat,k≤5∧i=.int .i64 k∧woutGo B C (5 - k) k=q∧wr=W0) (fun i _=>5 - (intOf i).toNat)
 case atStart=>exact ⟨0,Nat.zero_le _,rfl,Hgo.out,rfl⟩
 case round =>
  obtain ⟨k,hk,rfl,htk,rfl⟩:=hrel
  have Htk:=hide htk
  clear htk
  by_cases hlt:k < 5
  ·have hix:=index_five B k hlt
   have hcC:=HcC.out k hlt
   have hand:=andNot_word (B k) (C k) (HB.out k) (HC.out k)
   have Hst:Hid (q=if lessW (B k) (C k)=0 then woutGo B C (5 - (k+1)) (k+1) else (64 * k+Lib.ctz 64 (lessW (B k) (C k)),true)):=by
    show q=_
    rw [← Htk.out,show 5 - k=(5 - (k+1))+1 by omega,woutGo]
   generalize hz:lessW (B k) (C k)=z at hand Hst
   have hzl:z < 18446744073709551616:=by rw [← hz];exact lessW_lt _ _ (HB.out k)
   clear hz
   generalize hBk:B k=x at hix hand
   generalize hCk:C k=y at hcC hand
   clear hBk hCk
   by_cases h0:z=0
   ·have hb:((z:Int) != 0)=false:=by rw [bne_eq_false_iff_eq];omega
    have H0:=hide h0
    clear h0
    go_wp2
    go_roundw
    case rel=>exact ⟨k+1,by omega,by go_num,by rw [Hst.out,if_pos H0.out],by first | rfl | trivial⟩
    case measure=>simp [intOf];omega
   ·have hb:((z:Int) != 0)=true:=by rw [bne_iff_ne];omega
    have Hq:Hid (q=(64 * k+Lib.ctz 64 z,true)):=by show q=_;rw [Hst.out,if_neg h0]
    have HZ:=hide (tz_any z _ (by rw [beq_eq_false_iff_ne];omega) hzl (HT.out.below hbW))
    have hcl:Lib.ctz 64 z < 64:=(ctz_bit z h0 hzl).2
    clear h0 Hst
    generalize hcc:Lib.ctz 64 z=c at *
    clear hcc
    go_wp2_with (fail)
    refine Calls.mono HZ.out ?_
    rintro e w' ⟨rfl,rfl⟩
    go_wp2
    go_ret2
    exact ⟨by rw [Hq.out];rfl,hbW⟩
  ·go_wp2
   go_ret2
   have hq:q=(0,false):=by
    have e:5 - k=0:=by omega
    rw [← Htk.out,e];rfl
   exact ⟨by rw [hq];rfl,hbW⟩
end Go.Proofs.YtpiacnnifdjlkabGreatDoor
