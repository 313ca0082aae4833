import Derived.Test.YtpiacnnifdjlkabGreatDoorCh
import Derived.Test.YtpiacnnifdjlkabGreatDoorCards
import Derived.Test.YtpiacnnifdjlkabGreatDoorTie
import Derived.WalkKit
import Derived.ProofKit
import Derived.OpenShut
import Derived.Carry
import Derived.Deep.DeepHandedRow
import Derived.Lib.LaidTab
import Derived.Lib.SmallJoins
import Derived.Deep.RegionWith
import Derived.Deep.LoopGhost
import Derived.Deep.Grids
import Derived.Deep.Strs
set_option maxRecDepth 100000
set_option maxHeartbeats 8000000
namespace Go.Proofs.YtpiacnnifdjlkabGreatDoor
open Go.ChangeShapes Go.WideShapes Go.ChangeAt Go.RowKit Go.Deep
theorem laidOut:laidOutB Tryz.prog=true:=by kernel_rfl
theorem own:ownKnob Tryz.prog.godebug=none:=by kernel_rfl
theorem cellsInt:Tryz.prog.cellsOf 3=1:=by kernel_rfl
theorem gTab64:Tryz.prog.globalNamed "math/bits.deBruijn64tab"=some 2:=by kernel_rfl
def tab64:List Int:=Lib.deBruijn64tab.map (fun n:Nat=>(n:Int))
theorem intSl_of_trod {H:Type}{enc:TypeId × Value→H}{W:World}{n:Nat}{u:Value}{y:DataW H × List MemPlace} (h:DataW.trod enc Tryz.prog W 0 (fun _=>true) true n 22 [u]=some y) :
  ∃ zs,IntSl W u zs∧∀ z ∈ zs,(Lit.int .i64 z).wf=true:=by
 rcases open_ints Tryz.underlying22 Tryz.underlying3 cellsInt h with ⟨hcs,_⟩ | ⟨a,len,cap,zs,hcs,_,hl,hm,hz,_,hcell,hwz⟩
 ·simp only [List.cons.injEq,and_true] at hcs
  subst hcs
  exact ⟨[],intSl_nil W,fun z hz=>by cases hz⟩
 ·simp only [List.cons.injEq,and_true] at hcs
  subst hcs
  have hz':zs.length=cap:=hz
  have hlen:(zs.take len).length=len:=by rw [List.length_take];omega
  refine ⟨zs.take len,⟨some a,cap,by rw [hlen],by rw [hlen];omega,?_,fun e=>(by cases e),by rw [hlen];exact hl⟩,fun z hz2=>hwz z (List.mem_of_mem_take hz2)⟩
  by_cases h0:len=0
  ·left
   rw [h0]
   rfl
  ·right
   obtain ⟨b,off,spot⟩:=a
   have c0:=hcell 0 (by omega)
   have hs:spot=none:=by
    simp only [Addr.add,if_true,World.cell?] at c0
    split at c0
    ·cases spot with
     | none=>rfl
     | some s=>simp at c0
    ·cases c0
   subst hs
   refine ⟨b,off,rfl,fun i hi=>?_⟩
   rw [hlen] at hi
   have ci:=hcell i (by omega)
   rw [add_none] at ci
   rw [ci]
   congr 2
   simp [List.getD,hi]
theorem lasso_of_trod {H:Type}{enc:TypeId × Value→H}{W:World}{r:Reach}{b0:Nat}{v:Value}{d:DataW H}{p:List MemPlace} (hv:Value.okWide Tryz.prog W r b0 28 v) (h:DataW.Trod enc Tryz.prog W 0 (fun _=>true) true 28 v d p) :
  ∃ hv lv hs ls,v=.agg #[hv,lv]∧IntSl W hv hs∧IntSl W lv ls:=by
 obtain ⟨v0,v1,y0,y1,n,rfl,_,_,t0,t1⟩:=Go.Joins.open_agg2 Tryz.underlying28 (by kernel_rfl) (by kernel_rfl) hv h
 obtain ⟨hs,i0,_⟩:=intSl_of_trod t0
 obtain ⟨ls,i1,_⟩:=intSl_of_trod t1
 exact ⟨v0,v1,hs,ls,rfl,i0,i1⟩
theorem tab_of_is {W:World} (h:Lib.TabIs Tryz.prog W "math/bits.deBruijn64tab" .u8 tab64):Tab W:=by
 intro i hi
 have:=h.cell gTab64 i (by simpa [tab64,Lib.deBruijn64tab] using hi)
 rw [this]
 congr 2
 unfold tab64
 rw [List.getD_eq_getElem?_getD,List.getElem?_map,List.getD_eq_getElem?_getD]
 have:i < Lib.deBruijn64tab.length:=hi
 rw [List.getElem?_eq_getElem this]
 rfl
end Go.Proofs.YtpiacnnifdjlkabGreatDoor
namespace Go.Proofs.YtpiacnnifdjlkabGreatDoor
open Go.RowKit Go.Sort
def falses (c:Nat):Array Value:=Array.replicate c (.bool false)
theorem boolInfo:Tryz.prog.info? 4=some Tryz.t4:=by kernel_rfl
theorem make_bools (c:Nat) (h:c≤1000000) (w:World):(Instr.makeSlice 23 (.int .i64 c) (.int .i64 c)).run Tryz.prog w=.ok (.slice (some ⟨w.heap.size,0,none⟩) c c) (w.alloc (.cells (falses c) 4)):=by
 have hz:Tryz.t4.zero=some (.bool false):=by kernel_rfl
 have hb:Tryz.t4.bytes=1:=by kernel_rfl
 have hs:Tryz.t4.size=1:=by kernel_rfl
 rw [run_make w 23 4 Tryz.t4 (.bool false) Tryz.underlying23 boolInfo hz .i64 .i64 c c (by omega) (by omega) (by rw [hb];omega) (by omega)]
 have e:madeCells (Value.cells (.bool false)) (c * 1)=falses c:=by
  apply Array.ext
  ·simp [size_madeCells,falses]
  ·intro i h1 h2
   simp [madeCells,falses,Value.cells,Nat.mod_one]
 rw [hs,Int.toNat_natCast,e]
structure BR (W:World) (g N:Nat) (f:Nat→Bool):Prop where
 cell:∀ i,i < N→W.cell? ⟨g,i,none⟩=some (.bool (f i))
 soft:∀ o,W.frozen? ⟨g,o,none⟩=false
 lt:g < W.heap.size
theorem BR.of_block {W W':World}{g N:Nat}{f:Nat→Bool} (h:BR W g N f) (hb:W'.heap[g]?=W.heap[g]?):BR W' g N f:=
 ⟨fun i hi=>(World.cell?_of_block (a:=⟨g,i,none⟩) hb).trans (h.cell i hi),fun o=>(World.frozen?_of_block (a:=⟨g,o,none⟩) hb).trans (h.soft o),by
  have:=h.lt
  have h2:W.heap[g]?=some W.heap[g]:=by simp [this]
  rw [h2] at hb
  exact (Array.getElem?_eq_some_iff.1 hb).1⟩
theorem BR.old {W W':World}{g N:Nat}{f:Nat→Bool} (h:BR W g N f) (hb:Below W.heap.size W W'):BR W' g N f:=h.of_block (hb.block g h.lt)
theorem BR.new {W:World}{g N:Nat} (h:W.heap[g]?=some (.cells (falses N) 4)):BR W g N (fun _=>false):=
 ⟨fun i hi=>by rw [cell_of_row W g i _ _ _ h];simp [falses,hi],fun o=>by simp [World.frozen?,h],(Array.getElem?_eq_some_iff.1 h).1⟩
theorem BR.set {W:World}{g N:Nat}{f:Nat→Bool} (h:BR W g N f) (t:Nat) (ht:t < N):BR (W.setCell ⟨g,t,none⟩ (.bool true)) g N (fun i=>f i || decide (i=t)):=by
 refine ⟨fun i hi=>?_,fun o=>by rw [World.frozen?_setCell];exact h.soft o,by simpa [World.setCell] using h.lt⟩
 by_cases e:i=t
 ·subst e
  rw [World.cell?_setCell_same _ _ _ (h.cell i hi)]
  simp
 ·rw [World.cell?_setCell_other _ _ _ _ (fun e'=>e (congrArg Addr.off e').symm),h.cell i hi]
  simp [e]
theorem BR.far {W:World}{g g' N:Nat}{f:Nat→Bool} (h:BR W g N f) (o:Nat) (v:Value) (hne:g ≠ g'):BR (W.setCell ⟨g',o,none⟩ v) g N f:=h.of_block (heap_setCell_other W _ _ g hne)
theorem BR.congr {W:World}{g N:Nat}{f f':Nat→Bool} (h:BR W g N f) (e:∀ i,i < N→f i=f' i):BR W g N f':=⟨fun i hi=>by rw [h.cell i hi,e i hi],h.soft,h.lt⟩
theorem less_any (a b:Stp) (w:World) :
  Calls Tryz.prog 57 #[.agg #[.int .i64 a.f,.int .i64 a.l,.int .i64 a.t],.agg #[.int .i64 b.f,.int .i64 b.l,.int .i64 b.t]] w fun e w'=>e=.returned (.bool (decide (ordS a b < 0)))∧Below w.heap.size w w':=by
 obtain ⟨af,al,at_⟩:=a
 obtain ⟨bf,bl,bt⟩:=b
 generalize hr:decide (ordS ⟨af,al,at_⟩ ⟨bf,bl,bt⟩ < 0)=r
 have hv:r=if af ≠ bf then decide (af < bf) else if al ≠ bl then decide (al < bl) else decide (at_ < bt):=by
  rw [← hr]
  unfold ordS orI cmpI
  dsimp only
  by_cases h1:af=bf
  ·subst h1
   by_cases h2:al=bl
   ·subst h2
    by_cases h3:at_ < bt
    ·simp [h3]
    ·by_cases h4:bt < at_ <;> simp [h3,h4]
   ·by_cases h3:al < bl
    ·simp [h2,h3]
    ·have h4:bl < al:=by omega
     simp [h2,h3,h4]
  ·by_cases h3:af < bf
   ·simp [h1,h3]
   ·have h4:bf < af:=by omega
    simp [h1,h3,h4]
 clear hr
 by_cases h1:af=bf
 ·subst h1
  by_cases h2:al=bl
  ·subst h2
   have hv2:r=decide (at_ < bt):=by rw [hv];simp
   subst hv2
   clear hv
   have e1:(af != af)=false:=by simp
   have e2:(al != al)=false:=by simp
   go_enter Tryz.func57,Tryz.ntmps57
   go_wp2
   go_ret
   exact ⟨rfl,(by repeat (first | exact Below.refl _ _ | assumption | refine below_drewN ?_ _ | refine Below.drew ?_ | refine Below.alloc ?_ (by simp <;> omega) _ | refine below_trans ?_ (by assumption)))⟩
  ·have hv2:r=decide (al < bl):=by rw [hv];simp [h2]
   subst hv2
   clear hv
   have e1:(af != af)=false:=by simp
   have e2:(al != bl)=true:=by simp [h2]
   clear h2
   go_enter Tryz.func57,Tryz.ntmps57
   go_wp2
   go_ret
   exact ⟨rfl,(by repeat (first | exact Below.refl _ _ | assumption | refine below_drewN ?_ _ | refine Below.drew ?_ | refine Below.alloc ?_ (by simp <;> omega) _ | refine below_trans ?_ (by assumption)))⟩
 ·have hv2:r=decide (af < bf):=by rw [hv];simp [h1]
  subst hv2
  clear hv
  have e1:(af != bf)=true:=by simp [h1]
  clear h1
  go_enter Tryz.func57,Tryz.ntmps57
  go_wp2
  go_ret
  exact ⟨rfl,(by repeat (first | exact Below.refl _ _ | assumption | refine below_drewN ?_ _ | refine Below.drew ?_ | refine Below.alloc ?_ (by simp <;> omega) _ | refine below_trans ?_ (by assumption)))⟩
theorem between_below (a b c:Int) (w:World):Calls Tryz.prog 56 #[.int .i64 a,.int .i64 b,.int .i64 c] w fun e w'=>e=.returned (.bool (decide (b≤a∧a≤c)))∧Below w.heap.size w w':=
 (between_any a b c w).mono fun e w' ⟨he,hw⟩=>⟨he,by rw [hw];exact Below.refl _ _⟩
theorem checkAutoR_any {w:World}{v:Value}{A:Aut} (hv:AutV w v A) :
  Calls Tryz.prog 14 #[v] w fun e w'=>e=.returned (.int .i64 (chkA A))∧Below w.heap.size w w':=by
 obtain ⟨fv,gv,sv,rfl,h1,h2,h3⟩:=hv
 obtain ⟨a1,c1,rfl,hm1,hc1,-⟩:=h1
 obtain ⟨a2,c2,rfl,hm2,-⟩:=h2
 obtain ⟨a3,c3,rfl,hm3,hc3,-⟩:=h3
 unfold maxLen at hm1 hm2 hm3
 generalize hq:chkA A=q
 have Hq:=hide hq
 clear hq
 obtain ⟨n,m,first,good,steps⟩:=A
 dsimp only at *
 have Hc1:=hide hc1
 have Hc3:=hide hc3
 clear hc1 hc3
 generalize hl1:first.length=L1 at *
 generalize hl2:good.length=L2 at *
 generalize hl3:steps.length=L3 at *
 have HL1:=hide hl1
 have HL3:=hide hl3
 have Hqq:Hid (q=if n < 1 ∨ 300 < n ∨ m < 1 ∨ 8 < m then 3 else if (L2:Int) ≠ n then 1 else if 6000 < L3 then 2 else if chkFirst n first ≠ 0 then chkFirst n first else chkStepsFrom n m none steps):=by
  show q=_
  rw [← Hq.out,← hl2,← hl3]
  rfl
 clear hl1 hl2 hl3 Hq
 by_cases g1:1≤n∧n≤300
 ·have e1:decide (1≤n∧n≤300)=true:=decide_eq_true g1
  by_cases g2:1≤m∧m≤8
  ·have e2:decide (1≤m∧m≤8)=true:=decide_eq_true g2
   have Hq2:Hid (q=if (L2:Int) ≠ n then 1 else if 6000 < L3 then 2 else if chkFirst n first ≠ 0 then chkFirst n first else chkStepsFrom n m none steps):=by
    show q=_
    rw [Hqq.out,if_neg (by omega)]
   clear Hqq
   by_cases g3:(L2:Int)=n
   ·have e3:((L2:Int) != n)=false:=by simp [g3]
    by_cases g4:6000 < L3
    ·have:q=2:=by rw [Hq2.out,if_neg (by omega),if_pos g4]
     subst this
     clear g3
     go_enter Tryz.func14,Tryz.ntmps14
     go_wp2_with (go_at_call 56;refine (between_any _ _ _ _).mono ?_;rintro e w' ⟨rfl,rfl⟩)
     go_ret
     exact ⟨rfl,(by repeat (first | exact Below.refl _ _ | assumption | refine below_drewN ?_ _ | refine Below.drew ?_ | refine Below.alloc ?_ (by simp <;> omega) _ | refine below_trans ?_ (by assumption)))⟩
    ·have Hq3:Hid (q=if chkFirst n first ≠ 0 then chkFirst n first else chkStepsFrom n m none steps):=by
      show q=_
      rw [Hq2.out,if_neg (by omega),if_neg g4]
     clear Hq2 g3
     go_enter Tryz.func14,Tryz.ntmps14
     go_wp2_with (go_at_call 56;refine (between_any _ _ _ _).mono ?_;rintro e w' ⟨rfl,rfl⟩)
     generalize hW0:w.alloc (Obj.cells #[Value.int .i64 n,.int .i64 m,.slice a1 L1 c1,.slice a2 L2 c2,.slice a3 L3 c3] 26)=W0
     have hbW:Below w.heap.size w W0:=by rw [← hW0];exact (by repeat (first | exact Below.refl _ _ | assumption | refine below_drewN ?_ _ | refine Below.drew ?_ | refine Below.alloc ?_ (by simp <;> omega) _ | refine below_trans ?_ (by assumption)))
     have hB:∀ {w':World},Below W0.heap.size W0 w'→w'.cell? ⟨w.heap.size,0,none⟩=some (.int .i64 n)∧w'.cell? ⟨w.heap.size,1,none⟩=some (.int .i64 m)∧w'.cell? ⟨w.heap.size,2,none⟩=some (.slice a1 L1 c1)∧w'.cell? ⟨w.heap.size,4,none⟩=some (.slice a3 L3 c3)∧w.heap.size < w'.heap.size:=by
      intro w' hb
      have hsz:w.heap.size < W0.heap.size:=by rw [← hW0];simp
      refine ⟨?_,?_,?_,?_,Nat.lt_of_lt_of_le hsz hb.size⟩
      ·rw [hb.cell hsz,← hW0];simp
      ·rw [hb.cell hsz,← hW0];simp
      ·rw [hb.cell hsz,← hW0];simp
      ·rw [hb.cell hsz,← hW0];simp
     clear hW0
     have HB:=hide (fun w'=>@hB w')
     clear hB
     go_loopw [3] (fun s3 wr=>∃ i:Nat,s3=.int .i64 i∧i≤L1∧(∀ j,j < i→outB n (first.getD j 0)=false)∧Below W0.heap.size W0 wr) (fun s3 _=>L1 - (intOf s3).toNat)
     case atStart=>exact ⟨0,rfl,Nat.zero_le _,(fun j hj=>by omega),Below.refl _ _⟩
     case round =>
      obtain ⟨i,rfl,hi,hin,hbr⟩:=hrel
      have Hin:=hide hin
      clear hin
      obtain ⟨x0,x1,x2,x4,hlw⟩:=HB.out _ hbr
      have hbR:=below_trans hbW hbr
      by_cases hlt:i < L1
      ·have hls:i < first.length:=by rw [HL1.out];exact hlt
       obtain ⟨b,off,rfl,hcell⟩:∃ b off,a1=some ⟨b,off,none⟩∧∀ i,i < L1→w.cell? ⟨b,off+i,none⟩=some (.int .i64 (first.getD i 0)):=by
        rcases Hc1.out with h | h
        ·rw [h] at hls;simp at hls
        ·exact h
       have d0:=hcell i hlt
       have d0:=(hbR.cell (World.block_lt_of_cell? w _ d0)).trans d0
       clear hcell
       generalize hx:first.getD i 0=x at *
       have Hx:=hide hx
       clear hx
       have CB:=hide (fun d os=>Calls.regrown_of (between_below x 0 (n - 1) (grow (redrawn wr d) os)))
       generalize hr:decide (0≤x∧x≤n - 1)=r at CB
       have Hr:=hide hr
       clear hr
       have k0:=cell_regrown x0
       have k2:=cell_regrown x2
       have j0:=cell_regrown d0
       go_wp2_with (fail)
       refine wp_region_quiet_below (by kernel_rfl) (by kernel_rfl) ?_
       (repeat (go_big_quiet_step (exact CB.out _ _)))
       refine wpQuiet_nil ?_
       intro _ hw'
       obtain ⟨⟨dq,osq⟩,hw''⟩:=hw'
       subst hw''
       have HBq:=hide (below_trans hbr (below_regrown wr dq osq))
       have HBw:=hide (below_trans hbR (below_regrown wr dq osq))
       clear k0 k2 j0 CB
       dsimp only
       generalize grow (redrawn wr dq) osq=wq at HBq HBw ⊢
       cases r
       ·have:q=5:=by
         have hany:first.any (outB n)=true:=by
          rw [List.any_eq_true]
          refine ⟨x,?_,?_⟩
          ·rw [← Hx.out];simp [List.getD,hls]
          ·have h:=of_decide_eq_false Hr.out
           simp [outB]
           omega
         have hcf:chkFirst n first=5:=by unfold chkFirst;rw [hany];rfl
         rw [Hq3.out,hcf];rfl
        subst this
        go_wp2
        go_ret
        exact ⟨rfl,HBw.out⟩
       ·go_wp2
        go_roundw
        case rel =>
         refine ⟨i+1,by go_num,by omega,fun j hj=>?_,HBq.out⟩
         by_cases e:j=i
         ·rw [e,Hx.out]
          have h:=of_decide_eq_true Hr.out
          simp [outB]
          omega
         ·exact Hin.out j (by omega)
        case measure=>simp [intOf];omega
      ·obtain rfl:L1=i:=by omega
       have hany:first.any (outB n)=false:=by
        rw [List.any_eq_false]
        intro x hx
        obtain ⟨j,hj,rfl⟩:=List.mem_iff_getElem.1 hx
        have:=Hin.out j (by rw [← HL1.out];exact hj)
        rw [show first.getD j 0=first[j] by simp [List.getD,hj]] at this
        rw [this];simp
       have Hany:=hide hany
       clear hany Hin hi hlt
       go_wp2_with (fail)
       go_loopw [4] (fun s4 wr=>∃ k:Nat,(1≤k∧(k≤L1 ∨ k=1))∧s4=.int .i64 k∧(∀ j,j+1 < k→first.getD j 0 < first.getD (j+1) 0)∧Below W0.heap.size W0 wr) (fun s4 _=>L1 - (intOf s4).toNat)
       case atStart=>exact ⟨1,⟨Nat.le_refl _,Or.inr rfl⟩,rfl,(fun j hj=>by omega),hbr⟩
       case round =>
        obtain ⟨k,⟨hk1,hk2⟩,rfl,htk,hbr⟩:=hrel
        have Htk:=hide htk
        clear htk x0 x1 x2 x4 hlw hbR
        obtain ⟨x0,x1,x2,x4,hlw⟩:=HB.out _ hbr
        have hbR:=below_trans hbW hbr
        by_cases hlt:k < L1
        ·have hls:k < first.length:=by rw [HL1.out];exact hlt
         obtain ⟨b,off,rfl,hcell⟩:∃ b off,a1=some ⟨b,off,none⟩∧∀ i,i < L1→w.cell? ⟨b,off+i,none⟩=some (.int .i64 (first.getD i 0)):=by
          rcases Hc1.out with h | h
          ·rw [h] at hls;simp at hls
          ·exact h
         have d0:=hcell k hlt
         have d0:=(hbR.cell (World.block_lt_of_cell? w _ d0)).trans d0
         have d1:=hcell (k - 1) (by omega)
         have d1:=(hbR.cell (World.block_lt_of_cell? w _ d1)).trans d1
         clear hcell
         generalize hx:first.getD k 0=x at *
         generalize hy:first.getD (k - 1) 0=y at *
         have Hx:=hide hx
         have Hy:=hide hy
         clear hx hy hk2
         have k2:=cell_regrown x2
         have j0:=cell_regrown d0
         have j1:=cell_regrown d1
         generalize hr:decide (x≤y)=r
         have Hr:=hide hr
         go_wp2_with (fail)
         refine wp_region_quiet_below (by kernel_rfl) (by kernel_rfl) ?_
         (repeat (go_big_quiet_step (fail)))
         refine wpQuiet_nil ?_
         intro _ hw'
         obtain ⟨⟨dq,osq⟩,hw''⟩:=hw'
         subst hw''
         have HBq:=hide (below_trans hbr (below_regrown wr dq osq))
         have HBw:=hide (below_trans hbR (below_regrown wr dq osq))
         clear k2 j0 j1
         dsimp only
         generalize grow (redrawn wr dq) osq=wq at HBq HBw ⊢
         cases r
         ·go_wp2
          go_roundw
          case rel =>
           refine ⟨k+1,⟨by omega,Or.inl (by omega)⟩,by go_num,(fun j hj=>?_),HBq.out⟩
           by_cases e:j+1=k
           ·have e':j=k - 1:=by omega
            have h:=of_decide_eq_false Hr.out
            rw [e,Hx.out,e',Hy.out];omega
           ·exact Htk.out j (by omega)
          case measure=>simp [intOf];omega
         ·have:q=4:=by
           have h:=of_decide_eq_true Hr.out
           have hfb:=fallsB_true (fs:=first) (k:=k - 1) (by rw [HL1.out];omega) (by rw [show k - 1+1=k by omega,Hx.out,Hy.out];exact h)
           have hcf:chkFirst n first=4:=by unfold chkFirst;rw [Hany.out,hfb];rfl
           rw [Hq3.out,hcf];rfl
          subst this
          go_wp2
          go_ret
          exact ⟨rfl,HBw.out⟩
        ·have hcf:chkFirst n first=0:=by
          have hfb:=fallsB_false (fs:=first) (fun j hj=>Htk.out j (by rw [HL1.out] at hj;omega))
          unfold chkFirst;rw [Hany.out,hfb];rfl
         have Hq4:Hid (chkStepsFrom n m (prevOf steps 0) (steps.drop 0)=q):=by
          show _=q
          rw [Hq3.out,hcf];rfl
         clear Hq3 hcf Htk hk1 hk2
         go_wp2_with (fail)
         clear hlt
         go_loopw [5] (fun s5 wr=>∃ k:Nat,k≤L3∧s5=.int .i64 k∧chkStepsFrom n m (prevOf steps k) (steps.drop k)=q∧Below W0.heap.size W0 wr) (fun s5 _=>L3 - (intOf s5).toNat)
         case atStart=>exact ⟨0,Nat.zero_le _,rfl,Hq4.out,hbr⟩
         case round =>
          obtain ⟨k,hk,rfl,hqk,hbr⟩:=hrel
          have Hqk:=hide hqk
          clear hqk x0 x1 x2 x4 hlw hbR
          obtain ⟨x0,x1,x2,x4,hlw⟩:=HB.out _ hbr
          have hbR:=below_trans hbW hbr
          by_cases hlt:k < L3
          ·have hls:k < steps.length:=by rw [HL3.out];exact hlt
           obtain ⟨b,off,rfl,hcell⟩:∃ b off,a3=some ⟨b,off,none⟩∧∀ i,i < L3→w.cell? ⟨b,off+i * 3,none⟩=some (.int .i64 (steps.getD i stp0).f)∧w.cell? ⟨b,off+i * 3+1,none⟩=some (.int .i64 (steps.getD i stp0).l)∧w.cell? ⟨b,off+i * 3+2,none⟩=some (.int .i64 (steps.getD i stp0).t):=by
            rcases Hc3.out with h | h
            ·rw [h] at hls;simp at hls
            ·exact h
           obtain ⟨d0,d1,d2⟩:=hcell k hlt
           have hb0:b < w.heap.size:=World.block_lt_of_cell? w _ d0
           have d0:=(hbR.cell (p:=⟨b,_,none⟩) hb0).trans d0
           have d1:=(hbR.cell (p:=⟨b,_,none⟩) hb0).trans d1
           have d2:=(hbR.cell (p:=⟨b,_,none⟩) hb0).trans d2
           have Hcell:=hide hcell
           clear hcell
           generalize hs:steps.getD k stp0=s at *
           have Hs:=hide hs
           clear hs
           obtain ⟨sf,sl,st⟩:=s
           dsimp only at d0 d1 d2
           have hbr2:b < wr.heap.size:=Nat.lt_of_lt_of_le hb0 hbR.size
           have HW1:=hide (between_any sf 0 (n - 1))
           have HW2:=hide (between_any st 0 (n - 1))
           have HW3:=hide (between_any sl 0 (m - 1))
           generalize hr1:decide (0≤sf∧sf≤n - 1)=r1 at HW1
           generalize hr2:decide (0≤st∧st≤n - 1)=r2 at HW2
           generalize hr3:decide (0≤sl∧sl≤m - 1)=r3 at HW3
           have Hbad:Hid (badS n m (steps.getD k stp0)=(!r1 || !r2 || !r3)):=by
            show badS n m (steps.getD k stp0)=_
            rw [Hs.out,← hr1,← hr2,← hr3]
            unfold badS outB
            dsimp only
            congr 1
            ·congr 1
             ·congr 1;rw [decide_eq_decide];omega
             ·congr 1;rw [decide_eq_decide];omega
            ·congr 1;rw [decide_eq_decide];omega
           clear hr1 hr2 hr3
           have hbn:=below_new wr (Obj.cells #[Value.int .i64 sf,.int .i64 sl,.int .i64 st] 88)
           have HBn:=hide (below_trans hbr hbn)
           have HBnw:=hide (below_trans hbR hbn)
           have HX:=hide (HB.out _ HBn.out)
           clear hbn
           cases r1
           ·have:q=5:=by rw [← Hqk.out];exact chk_bad n m steps k hls (by rw [Hbad.out];rfl)
            subst this
            go_wp2_with (go_at_call 56;refine (HW1.out _).mono ?_;rintro e w' ⟨rfl,rfl⟩)
            go_ret
            exact ⟨rfl,HBnw.out⟩
           ·cases r2
            ·have:q=5:=by rw [← Hqk.out];exact chk_bad n m steps k hls (by rw [Hbad.out];rfl)
             subst this
             go_wp2_with (fail)
             refine (HW1.out _).mono ?_
             rintro e w' ⟨rfl,rfl⟩
             go_wp2_with (fail)
             refine (HW2.out _).mono ?_
             rintro e w' ⟨rfl,rfl⟩
             go_wp2
             go_ret
             exact ⟨rfl,HBnw.out⟩
            ·cases r3
             ·have:q=5:=by rw [← Hqk.out];exact chk_bad n m steps k hls (by rw [Hbad.out];rfl)
              subst this
              go_wp2_with (fail)
              refine (HW1.out _).mono ?_
              rintro e w' ⟨rfl,rfl⟩
              go_wp2_with (fail)
              refine (HW2.out _).mono ?_
              rintro e w' ⟨rfl,rfl⟩
              go_wp2_with (fail)
              refine (HW3.out _).mono ?_
              rintro e w' ⟨rfl,rfl⟩
              go_wp2
              go_ret
              exact ⟨rfl,HBnw.out⟩
             ·have hgood:badS n m (steps.getD k stp0)=false:=by rw [Hbad.out];rfl
              have Hgood:=hide hgood
              clear hgood Hbad
              go_wp2_with (fail)
              refine (HW1.out _).mono ?_
              rintro e w' ⟨rfl,rfl⟩
              go_wp2_with (fail)
              refine (HW2.out _).mono ?_
              rintro e w' ⟨rfl,rfl⟩
              go_wp2_with (fail)
              refine (HW3.out _).mono ?_
              rintro e w' ⟨rfl,rfl⟩
              clear HW1 HW2 HW3
              have q0:(wr.alloc (Obj.cells #[Value.int .i64 sf,.int .i64 sl,.int .i64 st] 88)).heap[wr.heap.size]?=some (Obj.cells #[Value.int .i64 sf,.int .i64 sl,.int .i64 st] 88):=one_new _ _
              have hd0:=(HBnw.out.cell (p:=⟨b,off+(k - 1) * 3,none⟩) hb0)
              have hd1:=(HBnw.out.cell (p:=⟨b,off+(k - 1) * 3+1,none⟩) hb0)
              have hd2:=(HBnw.out.cell (p:=⟨b,off+(k - 1) * 3+2,none⟩) hb0)
              clear d0 d1 d2 x0 x1 x2 x4
              obtain ⟨x0,x1,x2,x4,_⟩:=HX.out
              go_wp2_with (fail)
              generalize hW2:wr.alloc (Obj.cells #[Value.int .i64 sf,.int .i64 sl,.int .i64 st] 88)=W2 at *
              have HBnW:=hide (HBnw.out)
              have k4:=cell_regrown x4
              have i0:=cell_regrown (cell_of_row W2 _ 0 _ _ _ q0)
              have i1:=cell_regrown (cell_of_row W2 _ 1 _ _ _ q0)
              have i2:=cell_regrown (cell_of_row W2 _ 2 _ _ _ q0)
              clear hW2 q0 x0 x1 x2 x4 HX
              by_cases hk0:0 < k
              ·have hd:decide ((0:Int) < (k:Int))=true:=by simpa using hk0
               obtain ⟨u0,u1,u2'⟩:=Hcell.out (k - 1) (by omega)
               rw [u0] at hd0
               rw [u1] at hd1
               rw [u2'] at hd2
               clear u0 u1 u2'
               generalize hs':steps.getD (k - 1) stp0=s' at *
               have Hs':=hide hs'
               clear hs'
               obtain ⟨pf,pl,pt⟩:=s'
               dsimp only at hd0 hd1 hd2
               have j0:=cell_regrown hd0
               have j1:=cell_regrown hd1
               have j2:=cell_regrown hd2
               have CL:=hide (fun d os=>Calls.regrown_of (less_any ⟨pf,pl,pt⟩ ⟨sf,sl,st⟩ (grow (redrawn W2 d) os)))
               dsimp only at CL
               generalize hr:decide (ordS ⟨pf,pl,pt⟩ ⟨sf,sl,st⟩ < 0)=r at CL
               have Hr:=hide hr
               clear hr hd0 hd1 hd2
               refine wp_region_quiet_below (by kernel_rfl) (by kernel_rfl) ?_
               (repeat (go_big_quiet_step (exact CL.out _ _)))
               refine wpQuiet_nil ?_
               intro _ hw'
               obtain ⟨⟨dq,osq⟩,hw''⟩:=hw'
               subst hw''
               have HBq:=hide (below_trans HBn.out (below_regrown W2 dq osq))
               have HBw:=hide (below_trans HBnW.out (below_regrown W2 dq osq))
               clear k4 i0 i1 i2 j0 j1 j2 CL
               dsimp only
               generalize grow (redrawn W2 dq) osq=wq at HBq HBw ⊢
               cases r
               ·have:q=4:=by
                 rw [← Hqk.out]
                 refine chk_fall n m steps k hk0 hls Hgood.out ?_
                 rw [Hs.out,Hs'.out]
                 have:=of_decide_eq_false Hr.out
                 omega
                subst this
                go_wp2
                go_ret
                exact ⟨rfl,HBw.out⟩
               ·go_wp2
                go_roundw
                case rel =>
                 refine ⟨k+1,by omega,by go_num,?_,HBq.out⟩
                 rw [← Hqk.out]
                 refine (chk_rise n m steps k hk0 hls Hgood.out ?_).symm
                 rw [Hs.out,Hs'.out]
                 exact of_decide_eq_true Hr.out
                case measure=>simp [intOf];omega
              ·obtain rfl:k=0:=by omega
               clear hd0 hd1 hd2
               refine wp_region_quiet_below (by kernel_rfl) (by kernel_rfl) ?_
               (repeat (go_big_quiet_step (fail)))
               refine wpQuiet_nil ?_
               intro _ hw'
               obtain ⟨⟨dq,osq⟩,hw''⟩:=hw'
               subst hw''
               have HBq:=hide (below_trans HBn.out (below_regrown W2 dq osq))
               clear k4 i0 i1 i2
               dsimp only
               generalize grow (redrawn W2 dq) osq=wq at HBq ⊢
               go_wp2
               go_roundw
               case rel =>
                refine ⟨0+1,by omega,by go_num,?_,HBq.out⟩
                rw [← Hqk.out]
                exact (chk_first n m steps hls Hgood.out).symm
               case measure=>simp [intOf];omega
          ·obtain rfl:L3=k:=by omega
           have:q=0:=by rw [← Hqk.out];exact chk_end n m steps L3 (by rw [HL3.out];exact Nat.le_refl _)
           subst this
           go_wp2
           go_ret
           exact ⟨rfl,hbR⟩
   ·have e3:((L2:Int) != n)=true:=by simp [g3]
    have:q=1:=by rw [Hq2.out,if_pos g3]
    subst this
    clear g3
    go_enter Tryz.func14,Tryz.ntmps14
    go_wp2_with (go_at_call 56;refine (between_any _ _ _ _).mono ?_;rintro e w' ⟨rfl,rfl⟩)
    go_ret
    exact ⟨rfl,(by repeat (first | exact Below.refl _ _ | assumption | refine below_drewN ?_ _ | refine Below.drew ?_ | refine Below.alloc ?_ (by simp <;> omega) _ | refine below_trans ?_ (by assumption)))⟩
  ·have e2:decide (1≤m∧m≤8)=false:=decide_eq_false g2
   have:q=3:=by rw [Hqq.out,if_pos (by omega)]
   subst this
   clear g2
   go_enter Tryz.func14,Tryz.ntmps14
   go_wp2_with (go_at_call 56;refine (between_any _ _ _ _).mono ?_;rintro e w' ⟨rfl,rfl⟩)
   go_ret
   exact ⟨rfl,(by repeat (first | exact Below.refl _ _ | assumption | refine below_drewN ?_ _ | refine Below.drew ?_ | refine Below.alloc ?_ (by simp <;> omega) _ | refine below_trans ?_ (by assumption)))⟩
 ·have e1:decide (1≤n∧n≤300)=false:=decide_eq_false g1
  have:q=3:=by rw [Hqq.out,if_pos (by omega)]
  subst this
  clear g1
  go_enter Tryz.func14,Tryz.ntmps14
  go_wp2_with (go_at_call 56;refine (between_any _ _ _ _).mono ?_;rintro e w' ⟨rfl,rfl⟩)
  go_ret
  exact ⟨rfl,(by repeat (first | exact Below.refl _ _ | assumption | refine below_drewN ?_ _ | refine Below.drew ?_ | refine Below.alloc ?_ (by simp <;> omega) _ | refine below_trans ?_ (by assumption)))⟩
end Go.Proofs.YtpiacnnifdjlkabGreatDoor
namespace Go.Proofs.YtpiacnnifdjlkabGreatDoor
def nxt (hs ls:List Int) (p:Nat):Nat:=if p+1=hs.length+ls.length then hs.length else p+1
def pl (hs ls:List Int) (p:Nat):Nat→Nat
 | 0=>p
 | k+1=>nxt hs ls (pl hs ls p k)
theorem pl_loop (hs ls:List Int) (hL:0 < ls.length):∀ k,pl hs ls hs.length k=hs.length+k % ls.length:=by
 intro k
 induction k with
 | zero=>simp [pl]
 | succ k ih =>
  have hm:k % ls.length < ls.length:=Nat.mod_lt _ hL
  show nxt hs ls (pl hs ls hs.length k)=_
  rw [ih]
  unfold nxt
  rw [Nat.add_mod k 1]
  by_cases e:hs.length+k % ls.length+1=hs.length+ls.length
  ·rw [if_pos e]
   by_cases h1:ls.length=1
   ·rw [h1];omega
   ·rw [Nat.mod_eq_of_lt (show 1 < ls.length by omega),show k % ls.length+1=ls.length by omega,Nat.mod_self];omega
  ·rw [if_neg e]
   have h1:1 < ls.length:=by omega
   rw [Nat.mod_eq_of_lt h1,Nat.mod_eq_of_lt (show k % ls.length+1 < ls.length by omega)]
   omega
theorem pl_head (hs ls:List Int) (hL:0 < ls.length):∀ k,k≤hs.length→pl hs ls 0 k=k:=by
 intro k
 induction k with
 | zero=>intro _;rfl
 | succ k ih =>
  intro hk
  show nxt hs ls (pl hs ls 0 k)=_
  rw [ih (by omega)]
  unfold nxt
  rw [if_neg (by omega)]
theorem pl_add (hs ls:List Int) (p m:Nat):∀ n,pl hs ls p (m+n)=pl hs ls (pl hs ls p m) n:=by
 intro n
 induction n with
 | zero=>rfl
 | succ n ih =>
  show nxt hs ls (pl hs ls p (m+n))=nxt hs ls (pl hs ls (pl hs ls p m) n)
  rw [ih]
def pathU (A:Aut) (u:Nat→Int):Nat→Nat→Nat→Nat→Prop
 | 0,_,q,q'=>q=q'
 | n+1,t,q,q'=>∃ z:Nat,(∃ s ∈ A.steps,s.f=q∧s.l=u t∧s.t=z)∧pathU A u n (t+1) z q'
def TakesU (A:Aut) (u:Nat→Int):Prop:=
 ∃ i,i < A.first.length∧∃ n q m,pathU A u n 0 (A.first.getD i 0).toNat q∧A.good.getD q false=true∧0 < m∧∀ j,pathU A u m (n+j * m) q q
theorem pathU_trans {A:Aut}{u:Nat→Int}:∀ {n m t q q' q'':Nat},pathU A u n t q q'→pathU A u m (t+n) q' q''→pathU A u (n+m) t q q''
 | 0,m,t,q,q',q'',h,k=>by
  have h:q=q':=h
  subst h
  rw [Nat.zero_add]
  exact k
 | n+1,m,t,q,q',q'',h,k=>by
  obtain ⟨z,hz,h⟩:=h
  rw [Nat.succ_add]
  exact ⟨z,hz,pathU_trans h (by rw [show t+1+n=t+(n+1) by omega];exact k)⟩
section
variable {A:Aut}{hs ls:List Int}
theorem pl_far (hL:0 < ls.length) {t:Nat} (h:hs.length≤t):pl hs ls 0 t=hs.length+(t - hs.length) % ls.length:=by
 rw [show t=hs.length+(t - hs.length) by omega,pl_add,pl_head hs ls hL _ (Nat.le_refl _),pl_loop hs ls hL,show hs.length+(t - hs.length) - hs.length=t - hs.length by omega]
theorem lat_pl (hL:0 < ls.length) (t:Nat):lat hs ls (pl hs ls 0 t)=lat hs ls t:=by
 by_cases h:t < hs.length
 ·rw [pl_head hs ls hL t (by omega)]
 ·rw [pl_far hL (by omega)]
  unfold lat
  rw [if_neg (by omega),if_neg h,Nat.add_sub_cancel_left,Nat.mod_mod]
theorem goN_pathU (hL:0 < ls.length):∀ (n t q:Nat) (y:Spot),goN (EdgeA A hs ls) n (pl hs ls 0 t,q) y ↔ y.1=pl hs ls 0 (t+n)∧pathU A (lat hs ls) n t q y.2
 | 0,t,q,y=>by
  constructor
  ·intro h
   have h:(pl hs ls 0 t,q)=y:=h
   subst h
   exact ⟨rfl,rfl⟩
  ·rintro ⟨h1,h2⟩
   exact Prod.ext h1.symm h2
 | n+1,t,q,y=>by
  constructor
  ·rintro ⟨z,⟨h1,s,hs',e1,e2,e3⟩,h⟩
   have hz:z=(pl hs ls 0 (t+1),z.2):=Prod.ext h1 rfl
   rw [hz] at h
   obtain ⟨k1,k2⟩:=(goN_pathU hL n (t+1) z.2 y).1 h
   refine ⟨by rw [k1];congr 1;omega,z.2,⟨s,hs',e1,?_,e3⟩,k2⟩
   rw [e2]
   exact lat_pl hL t
  ·rintro ⟨h1,z,⟨s,hs',e1,e2,e3⟩,h⟩
   refine ⟨(pl hs ls 0 (t+1),z),⟨rfl,s,hs',e1,?_,e3⟩,(goN_pathU hL n (t+1) z y).2 ⟨by rw [h1];congr 1;omega,h⟩⟩
   rw [e2]
   exact (lat_pl hL t).symm
theorem pathU_times {u:Nat→Int}{n m q:Nat} (h:∀ j,pathU A u m (n+j * m) q q) (j0:Nat):∀ k,pathU A u (k * m) (n+j0 * m) q q
 | 0=>by rw [Nat.zero_mul];rfl
 | k+1=>by
  rw [Nat.succ_mul]
  refine pathU_trans (pathU_times h j0 k) ?_
  have:=h (j0+k)
  rw [Nat.add_mul] at this
  rw [Nat.add_assoc]
  exact this
theorem takes_word (hL:0 < ls.length):TakesA A hs ls ↔ TakesU A (lat hs ls):=by
 constructor
 ·rintro ⟨i,hi,z,⟨n,hn⟩,hg,m,hm⟩
  have hn':goN (EdgeA A hs ls) n (pl hs ls 0 0,(A.first.getD i 0).toNat) z:=hn
  obtain ⟨k1,k2⟩:=(goN_pathU hL n 0 _ z).1 hn'
  rw [Nat.zero_add] at k1
  refine ⟨i,hi,n,z.2,m+1,k2,hg,Nat.succ_pos _,?_⟩
  have hp:∀ j,pl hs ls 0 (n+j * (m+1))=z.1:=by
   intro j
   induction j with
   | zero=>rw [Nat.zero_mul,Nat.add_zero,k1]
   | succ j ih =>
    have hz:z=(pl hs ls 0 (n+j * (m+1)),z.2):=Prod.ext ih.symm rfl
    have hm':=hm
    rw [show goN (EdgeA A hs ls) (m+1) z z ↔ goN (EdgeA A hs ls) (m+1) (pl hs ls 0 (n+j * (m+1)),z.2) z by rw [← hz]] at hm'
    have:=((goN_pathU hL (m+1) _ z.2 z).1 hm').1
    rw [Nat.succ_mul,← Nat.add_assoc]
    exact this.symm
  intro j
  have hz:z=(pl hs ls 0 (n+j * (m+1)),z.2):=Prod.ext (hp j).symm rfl
  have hm':=hm
  rw [show goN (EdgeA A hs ls) (m+1) z z ↔ goN (EdgeA A hs ls) (m+1) (pl hs ls 0 (n+j * (m+1)),z.2) z by rw [← hz]] at hm'
  exact ((goN_pathU hL (m+1) _ z.2 z).1 hm').2
 ·rintro ⟨i,hi,n,q,m,hn,hg,hm,hc⟩
  have h1:=pathU_trans hn (by rw [Nat.zero_add];have:=pathU_times hc 0 hs.length;rwa [Nat.zero_mul,Nat.add_zero] at this)
  have h2:=pathU_times hc hs.length ls.length
  have hT:hs.length≤n+hs.length * m:=Nat.le_trans (Nat.le_mul_of_pos_right _ hm) (Nat.le_add_left _ _)
  have hback:pl hs ls 0 (n+hs.length * m+ls.length * m)=pl hs ls 0 (n+hs.length * m):=by
   rw [pl_far hL (by omega),pl_far hL hT,show n+hs.length * m+ls.length * m - hs.length=n+hs.length * m - hs.length+ls.length * m by omega,Nat.add_mul_mod_self_left]
  refine ⟨i,hi,(pl hs ls 0 (n+hs.length * m),q),⟨n+hs.length * m,(goN_pathU hL _ 0 _ _).2 ⟨by rw [Nat.zero_add],h1⟩⟩,hg,ls.length * m - 1,?_⟩
  have hpos:0 < ls.length * m:=Nat.mul_pos hL hm
  rw [show ls.length * m - 1+1=ls.length * m by omega]
  exact (goN_pathU hL _ _ q _).2 ⟨hback.symm,h2⟩
end
end Go.Proofs.YtpiacnnifdjlkabGreatDoor
namespace Go.Proofs.YtpiacnnifdjlkabGreatDoor
open Go.ChangeShapes Go.WideShapes Go.ChangeAt Go.RowKit Go.Deep
theorem plain_addr {W:World}{a:Addr}{v:Value} (h:W.cell? (a.add 0)=some v):∃ b off,a=⟨b,off,none⟩:=by
 obtain ⟨b,off,spot⟩:=a
 simp only [Addr.add,if_true,World.cell?] at h
 split at h
 ·cases spot with
  | none=>exact ⟨b,off,rfl⟩
  | some s=>simp at h
 ·cases h
theorem one_int {H:Type}{enc:TypeId × Value→H}{W:World}{n:Nat}{c:Value}{y:DataW H × List MemPlace} (h:DataW.trod enc Tryz.prog W 0 (fun _=>true) true n 3 [c]=some y):∃ z,c=.int .i64 z∧(Lit.int .i64 z).wf=true:=by
 obtain ⟨z,hc,_,hw⟩:=DataW.trod_int Tryz.underlying3 h
 simp only [List.cons.injEq,and_true] at hc
 exact ⟨z,hc,hw⟩
end Go.Proofs.YtpiacnnifdjlkabGreatDoor
namespace Go.Proofs.YtpiacnnifdjlkabGreatDoor
open Go.RowKit Go.Sort
attribute [local go_sem] Oper.semAt_some
structure KX (m:Nat) (X:List Nat) (W W':World):Prop where
 os:W'.os=W.os
 tape:W'.tape=W.tape
 output:W'.output=W.output
 size:W.heap.size≤W'.heap.size
 block:∀ k,k < m→k ∉ X→W'.heap[k]?=W.heap[k]?
theorem KX.refl (m:Nat) (X:List Nat) (W:World):KX m X W W:=⟨rfl,rfl,rfl,Nat.le_refl _,fun _ _ _=>rfl⟩
theorem KX.trans {m:Nat}{X:List Nat}{A B C:World} (h:KX m X A B) (k:KX m X B C):KX m X A C:=
 ⟨k.os.trans h.os,k.tape.trans h.tape,k.output.trans h.output,Nat.le_trans h.size k.size,fun i hi hn=>(k.block i hi hn).trans (h.block i hi hn)⟩
theorem KX.of_below {m:Nat}{X:List Nat}{W W':World} (h:Below W.heap.size W W') (hm:m≤W.heap.size):KX m X W W':=⟨h.os,h.tape,h.output,h.size,fun k hk _=>h.block k (by omega)⟩
theorem KX.mono {m m':Nat}{X X':List Nat}{W W':World} (h:KX m X W W') (hm:m'≤m) (hX:∀ x ∈ X,x ∈ X' ∨ m'≤x):KX m' X' W W':=
 ⟨h.os,h.tape,h.output,h.size,fun k hk hn=>h.block k (by omega) (fun hx=>by rcases hX k hx with h | h;exact hn h;omega)⟩
theorem owns_slice {w:World}{base:Nat}{e:TypeId}{size:Nat}{v:Value}{n:Nat}{xs:List Value} (h:w.ownsRow base e size v (n+1) xs):∃ g cap,v=.slice (some ⟨g,0,none⟩) (n+1) cap∧base≤g:=by
 rcases h.2 with ⟨_,h0⟩ | ⟨g,cap,cur,rfl,hb,_⟩
 ·omega
 ·exact ⟨g,cap,rfl,hb⟩
theorem wpList_append_int (w:World) {ops:Array Oper}{rest:List Oper}{o:Oper}{a:Act}{Q:Exit→Act→World→Prop} (hgd:o.guard=none) (s x:Operand)
  (ho:o.op=.call { callee:=.builtin .append,args:=#[s,x],argTypes:=#[22,22] }) (base n:Nat) (v:Value) (xs:List Value) (hs:a.eval s=v)
  (hown:w.ownsRow base 3 1 v n xs) (B c:Nat) (z:Int) (hx:a.eval x=.slice (some ⟨B,0,none⟩) 1 c) (hc:1≤c) (h0:w.cell? ⟨B,0,none⟩=some (.int .i64 z)) (hn:n≤900000) (hbase:base≤w.heap.size)
  (h:∀ g' cap' w',w'.ownsRow base 3 1 (.slice (some ⟨g',0,none⟩) (n+1) cap') (n+1) (xs ++ [.int .i64 z])→w.grownBy w' v.ownBlock→(v.ownBlock=some g' ∨ g'=w.heap.size)→base≤g'→wpList Tryz.prog ops Q rest (a.put o.dst (.slice (some ⟨g',0,none⟩) (n+1) cap')) w'):wpList Tryz.prog ops Q (o :: rest) a w:=by
 have hz:IntSl w (.slice (some ⟨B,0,none⟩) 1 c) [z]:=⟨_,_,rfl,by simp [maxLen],Or.inr ⟨B,0,rfl,fun i hi=>by
  have:i=0:=by simpa using hi
  subst this
  exact h0⟩,fun e=>(by cases e),by simpa using hc⟩
 obtain ⟨v',w',hr,h2,h3,h4⟩:=run_append_sl w o.type base v n xs hown _ [z] hz (by simp;omega) hbase
 have h2':w'.ownsRow base 3 1 v' (n+1) (xs ++ [.int .i64 z]):=h2
 obtain ⟨g',cap',rfl,hb⟩:=owns_slice h2'
 refine wpList_plain hgd fun K hK=>?_
 unfold Oper.wp execOp
 simp only [ho,resolve,invoke,builtin,Sem.run_bind,Sem.run_pure,Result.andThen_ok,List.map_toArray,List.map_cons,List.map_nil,hs,hx,hr]
 refine hK _ _ (h g' cap' w' h2' h3 ?_ hb)
 rcases h4 with h4 | h4
 ·left;rw [← h4];rfl
 ·right;simpa [Value.ownBlock] using h4
theorem owns_kept {w w':World}{base:Nat}{e:TypeId}{size:Nat}{v:Value}{n:Nat}{xs:List Value} (h:w.ownsRow base e size v n xs) (hk:∀ r,v.ownBlock=some r→w'.heap[r]?=w.heap[r]?):w'.ownsRow base e size v n xs:=by
 refine ⟨h.1,?_⟩
 rcases h.2 with h2 | ⟨g,cap,cur,rfl,hb,hg,r⟩
 ·exact .inl h2
 ·exact .inr ⟨g,cap,cur,rfl,hb,by rw [hk g rfl];exact hg,r⟩
end Go.Proofs.YtpiacnnifdjlkabGreatDoor
