import Derived.Test.YtpiacnnifdjlkabGreatDoorBy
import Derived.RangeFuncNested
import Derived.RangeFuncBound
import Derived.RangeFuncCalls
import Derived.RangeFuncLeaves
import Derived.OwnWalkIn
import Derived.TacticsInMore
import Derived.LoopNIn
import Derived.LoopIn
import Derived.OrdersIn
import Derived.Deep.DeepCutAuto
import Derived.Deep.LoopGhost
import Derived.Shelf.Abstract
import Derived.Deep.RegionWith
set_option maxRecDepth 100000
set_option maxHeartbeats 8000000
namespace Go.Proofs.YtpiacnnifdjlkabGreatDoor
open Go.RowKit Go.Sort
theorem fromCmp_any (s:Stp) (st:Int) (w:World) :
  Calls Tryz.prog 152 #[.agg #[.int .i64 s.f,.int .i64 s.l,.int .i64 s.t],.int .i64 st] w fun e w'=>e=.returned (.int .i64 (cmpI s.f st))∧Below w.heap.size w w':=by
 have HC:=hide (fun w1=>compare_any s.f st w1)
 generalize cmpI s.f st=c at *
 go_enter Tryz.func152,Tryz.ntmps152
 go_wp2_with (fail)
 refine (HC.out _).mono ?_
 rintro e w1 ⟨rfl,rfl⟩
 go_wp2
 go_ret
 exact ⟨rfl,(by repeat (first | exact Below.refl _ _ | assumption | refine below_drewN ?_ _ | refine Below.drew ?_ | refine Below.alloc ?_ (by simp <;> omega) _ | refine below_trans ?_ (by assumption)))⟩
theorem bsf_go (ss:List Stp) (b off cap:Nat) (st:Int) (w:World) (hlen:ss.length≤1000000000)
  (hc:∀ i,i < ss.length→w.cell? ⟨b,off+i * 3,none⟩=some (.int .i64 (ss.getD i stp0).f)∧w.cell? ⟨b,off+i * 3+1,none⟩=some (.int .i64 (ss.getD i stp0).l)∧w.cell? ⟨b,off+i * 3+2,none⟩=some (.int .i64 (ss.getD i stp0).t))
  (hmono:∀ i j,i≤j→j < ss.length→(ss.getD i stp0).f≤(ss.getD j stp0).f) :
  Calls Tryz.prog 151 #[.slice (some ⟨b,off,none⟩) ss.length cap,.int .i64 st,.func (.func 152) #[] #[]] w fun e w' =>
   ∃ (k:Nat) (q:Bool),e=.returned (.tuple #[.int .i64 k,.bool q])∧k≤ss.length∧(∀ j,j < k→(ss.getD j stp0).f < st)∧(∀ j,k≤j→j < ss.length→st≤(ss.getD j stp0).f)∧Below w.heap.size w w':=by
 have Hc:=hide hc
 have Hm:=hide hmono
 clear hc hmono
 go_enter Tryz.func151,Tryz.ntmps151
 go_wp2_with (fail)
 go_loopw [9,10] (fun iv jv wr=>∃ i j:Nat,iv=.int .i64 i∧jv=.int .i64 j∧i≤j∧j≤ss.length∧(∀ k,k < i→(ss.getD k stp0).f < st)∧(∀ k,j≤k→k < ss.length→st≤(ss.getD k stp0).f)∧Below w.heap.size w wr) (fun iv jv _=>(intOf jv).toNat - (intOf iv).toNat)
 case atStart=>exact ⟨0,ss.length,rfl,rfl,Nat.zero_le _,Nat.le_refl _,(fun k hk=>by omega),(fun k h1 h2=>by omega),(by repeat (first | exact Below.refl _ _ | assumption | refine below_drewN ?_ _ | refine Below.drew ?_ | refine Below.alloc ?_ (by simp <;> omega) _ | refine below_trans ?_ (by assumption)))⟩
 case round =>
  obtain ⟨i,j,rfl,rfl,hij,hj,hlo,hhi,hb⟩:=hrel
  have Hlo:=hide hlo
  have Hhi:=hide hhi
  clear hlo hhi
  by_cases hlt:i < j
  ·have hmid:(i+j) / 2 < ss.length:=by omega
   obtain ⟨d0,d1,d2⟩:=Hc.out ((i+j) / 2) hmid
   rw [← hb.cell (World.block_lt_of_cell? w _ d0)] at d0
   rw [← hb.cell (World.block_lt_of_cell? w _ d1)] at d1
   rw [← hb.cell (World.block_lt_of_cell? w _ d2)] at d2
   generalize hs:ss.getD ((i+j) / 2) stp0=s at *
   have Hs:=hide hs
   clear hs
   have HC:=hide (fun w1=>fromCmp_any s st w1)
   generalize hcm:cmpI s.f st=c at HC
   have Hcm:=hide hcm
   clear hcm
   go_wp2_with (fail)
   refine (HC.out _).mono ?_
   rintro e w1 ⟨rfl,hb1⟩
   have hb2:=below_trans hb hb1
   by_cases hneg:c < 0
   ·have hd:decide (c < 0)=true:=decide_eq_true hneg
    clear d0 d1 d2 hb1
    go_wp2
    go_roundw
    case rel =>
     refine ⟨(i+j) / 2+1,j,by simp only [Value.int.injEq];exact ⟨trivial,by omega⟩,rfl,by omega,hj,fun k hk=>?_,Hhi.out,hb2⟩
     have h1:s.f < st:=by have:=Hcm.out;unfold cmpI at this;split at this <;> first | omega | (split at this <;> omega)
     have h2:=Hm.out k ((i+j) / 2) (by omega) hmid
     rw [Hs.out] at h2
     omega
    case measure=>simp [intOf];omega
   ·have hd:decide (c < 0)=false:=decide_eq_false hneg
    clear d0 d1 d2 hb1
    go_wp2
    go_roundw
    case rel =>
     refine ⟨i,(i+j) / 2,rfl,by simp only [Value.int.injEq];exact ⟨trivial,by omega⟩,by omega,by omega,Hlo.out,fun k h1 h2=>?_,hb2⟩
     have h3:st≤s.f:=by have:=Hcm.out;unfold cmpI at this;split at this <;> first | omega | (split at this <;> omega)
     have h4:=Hm.out ((i+j) / 2) k h1 h2
     rw [Hs.out] at h4
     omega
    case measure=>simp [intOf];omega
  ·have hij2:i=j:=by omega
   subst hij2
   have Hend:=hide (And.intro hj (And.intro Hlo.out Hhi.out))
   by_cases hin:i < ss.length
   ·obtain ⟨d0,d1,d2⟩:=Hc.out i hin
    rw [← hb.cell (World.block_lt_of_cell? w _ d0)] at d0
    rw [← hb.cell (World.block_lt_of_cell? w _ d1)] at d1
    rw [← hb.cell (World.block_lt_of_cell? w _ d2)] at d2
    generalize hs:ss.getD i stp0=s at *
    clear hs
    have HC:=hide (fun w1=>fromCmp_any s st w1)
    generalize hcm:cmpI s.f st=c at HC
    clear hcm
    go_wp2_with (fail)
    refine (HC.out _).mono ?_
    rintro e w1 ⟨rfl,hb1⟩
    have hb2:=below_trans hb hb1
    clear d0 d1 d2 hb1
    go_wp2
    go_ret2
    obtain ⟨q1,q2,q3⟩:=Hend.out
    exact ⟨i,_,rfl,q1,q2,q3,hb2⟩
   ·go_wp2_with (fail)
    go_ret2
    obtain ⟨q1,q2,q3⟩:=Hend.out
    exact ⟨i,_,rfl,q1,q2,q3,hb⟩
theorem bsf_zero (a:Option Addr) (cap:Nat) (st:Int) (fv:Value) (w:World) :
  Calls Tryz.prog 151 #[.slice a 0 cap,.int .i64 st,fv] w fun e w'=>e=.returned (.tuple #[.int .i64 0,.bool false])∧w'=w:=by
 go_enter Tryz.func151,Tryz.ntmps151
 go_wp2
 refine wp_loop_rounds 1 ?_;rw [rounds_succ]
 go_wp2
 go_ret2
 exact ⟨rfl,rfl⟩
section
variable {P:Program}{l n:Nat}{C:World→Prop}{md:Region.Mode}{ops:Array Oper}{oL:Oper}{Q':Exit→Act→World→Prop}{Qa:Act→Prop}
def notDefer:Op→Bool
 | .defer _=>false
 | _=>true
end
attribute [local go_sem] Oper.semAt_some
def GS (st:Int) (N:Nat) (x:Stp):Prop:=x.f=st∧0≤x.l∧x.l < 8∧0≤x.t∧x.t < N
theorem from_any (n m:Int) (fv gv sv:Value) (st:Int) (w:World) :
  Calls Tryz.prog 99 #[.agg #[.int .i64 n,.int .i64 m,fv,gv,sv],.int .i64 st] w fun e w'=>e=.returned (.func (.func 150) #[] #[.pointer (some ⟨w.heap.size,0,none⟩),.pointer (some ⟨w.heap.size+1,0,none⟩)])∧w'=(w.alloc (.cells #[.int .i64 n,.int .i64 m,fv,gv,sv] 26)).alloc (.cells #[.int .i64 st] 3):=by
 go_enter Tryz.func99,Tryz.ntmps99
 go_wp2
 go_ret
 exact ⟨rfl,rfl⟩
theorem stp_getD (ss:List Stp) (k:Nat) (h:k < ss.length):ss.getD k stp0=ss[k]:=by simp [List.getD,h]
theorem from_filter (ss:List Stp) (st:Int) (k i:Nat) (hlo:∀ j,j < k→(ss.getD j stp0).f < st) (hall:∀ j,k≤j→j < k+i→(ss.getD j stp0).f=st) (hhi:∀ j,k+i≤j→j < ss.length→(ss.getD j stp0).f ≠ st) (hk:k+i≤ss.length) :
  ss.filter (fun x=>decide (x.f=st))=(ss.drop k).take i:=by
 have e:ss=ss.take k ++ ((ss.drop k).take i ++ ss.drop (k+i)):=by
  rw [← List.drop_drop,List.take_append_drop,List.take_append_drop]
 have h1:(ss.take k).filter (fun x=>decide (x.f=st))=[]:=by
  rw [List.filter_eq_nil_iff]
  intro x hx
  obtain ⟨j,hj,rfl⟩:=List.mem_iff_getElem.1 hx
  have hj':j < k:=by simp at hj;omega
  have:=hlo j hj'
  rw [stp_getD _ _ (by omega)] at this
  rw [List.getElem_take]
  simp;omega
 have h2:((ss.drop k).take i).filter (fun x=>decide (x.f=st))=(ss.drop k).take i:=by
  rw [List.filter_eq_self]
  intro x hx
  obtain ⟨j,hj,rfl⟩:=List.mem_iff_getElem.1 hx
  have hj':j < i:=by simp at hj;omega
  have:=hall (k+j) (by omega) (by omega)
  rw [stp_getD _ _ (by omega)] at this
  rw [List.getElem_take,List.getElem_drop]
  simp [this]
 have h3:(ss.drop (k+i)).filter (fun x=>decide (x.f=st))=[]:=by
  rw [List.filter_eq_nil_iff]
  intro x hx
  obtain ⟨j,hj,rfl⟩:=List.mem_iff_getElem.1 hx
  have hj':k+i+j < ss.length:=by simp at hj;omega
  have:=hhi (k+i+j) (by omega) hj'
  rw [stp_getD _ _ hj'] at this
  rw [List.getElem_drop]
  simp [this]
 conv=>lhs;rw [e]
 rw [List.filter_append,List.filter_append,h1,h2,h3]
 simp
theorem take_snoc_getD (ss:List Stp) (k i:Nat) (h:k+i < ss.length):(ss.drop k).take (i+1)=(ss.drop k).take i ++ [ss.getD (k+i) stp0]:=by
 rw [List.take_add_one,List.getElem?_drop,List.getElem?_eq_getElem h,stp_getD _ _ h]
 rfl
attribute [local go_sem] Oper.semAt_some
theorem heap_setCell_row {W:World}{b:Nat}{cs:Array Value}{t:TypeId} (i:Nat) (v:Value) (h:W.heap[b]?=some (.cells cs t)):(W.setCell ⟨b,i,none⟩ v).heap[b]?=some (.cells (cs.setIfInBounds i v) t):=by
 simp only [World.setCell,Array.getElem?_modify,if_true,h]
 rfl
theorem heap_setCell_other (W:World) (a:Addr) (v:Value) (k:Nat) (h:k ≠ a.block):(W.setCell a v).heap[k]?=W.heap[k]?:=by
 simp only [World.setCell,Array.getElem?_modify]
 rw [if_neg (fun e=>h e.symm)]
def marksOf (Ds:List Nat):List Deferred:=Ds.map fun D=>{ target:=.collected D,args:=#[] }
def Marks (W:World) (lo:Nat) (Ds:List Nat):Prop:=Ds.Nodup∧∀ D ∈ Ds,lo≤D∧W.heap[D]?=some (.deferred (some []))
structure Shut (lo:Nat) (W W':World):Prop where
 os:W'.os=W.os
 tape:W'.tape=W.tape
 output:W'.output=W.output
 size:W.heap.size≤W'.heap.size
 low:∀ k,k < lo→W'.heap[k]?=W.heap[k]?
 cells:∀ (k:Nat) (o:Obj),W.heap[k]?=some o→o.isCells=true→W'.heap[k]?=some o
theorem heap_putObj_other (W:World) (b:Nat) (o:Obj) (k:Nat) (h:k ≠ b):(W.putObj b o).heap[k]?=W.heap[k]?:=by
 simp only [World.putObj,Array.getElem?_setIfInBounds]
 rw [if_neg (fun e=>h e.symm)]
theorem leaves_marks {F:Fence}{n:Nat}{P:Program}{fn:Func}{tmps:Array Value}{R:Ending→World→Prop} (lo:Nat):∀ (Ds:List Nat) (W:World),Marks W lo Ds →
  (∀ W',Shut lo W W'→LeavesIn F n P fn tmps R [] .returning W')→LeavesInM F n P fn tmps R (marksOf Ds) .returning W:=by
 intro Ds
 induction Ds with
 | nil=>exact fun W _ h=>h W ⟨rfl,rfl,rfl,Nat.le_refl _,fun _ _=>rfl,fun _ _ h _=>h⟩
 | cons D Ds ih =>
  rintro W ⟨hn,hall⟩ h
  obtain ⟨hlo,hD⟩:=hall D (by simp)
  have hn':=List.nodup_cons.1 hn
  refine ⟨by simp,.inl ⟨D,_,rfl,run_takeDeferred hD,ih _ ⟨hn'.2,fun E hE=>?_⟩ fun W' hS=>h W' ⟨hS.os,hS.tape,hS.output,?_,fun k hk=>?_,fun k o hk ho=>?_⟩⟩⟩
  ·obtain ⟨h1,h2⟩:=hall E (List.mem_cons_of_mem _ hE)
   refine ⟨h1,?_⟩
   rw [heap_putObj_other _ _ _ _ (fun e=>hn'.1 (by rw [← e];exact hE))]
   exact h2
  ·refine Nat.le_trans ?_ hS.size
   simp [World.putObj]
  ·rw [hS.low k hk,heap_putObj_other _ _ _ _ (by omega)]
  ·refine hS.cells k o ?_ ho
   rw [heap_putObj_other]
   ·exact hk
   ·rintro rfl
    rw [hD] at hk
    cases hk
    cases ho
theorem Marks.cons {W:World}{lo D:Nat}{Ds:List Nat} (h:Marks W lo Ds) (hlo:lo≤D) (hD:W.heap[D]?=some (.deferred (some []))) (hne:D ∉ Ds):Marks W lo (D :: Ds):=
 ⟨List.nodup_cons.2 ⟨hne,h.1⟩,fun E hE=>by
  rcases List.mem_cons.1 hE with rfl | hE
  ·exact ⟨hlo,hD⟩
  ·exact h.2 E hE⟩
theorem fromZero_in {N:Nat}{a:Option Addr}{cap:Nat} (hcap:a=none→cap=0) (n l B1 B2:Nat) (st:Int) (J:List { x:Stp // GS st N x }→World→Prop)
  (W:World) (hB1:W.cell? ⟨B1,4,none⟩=some (.slice a 0 cap)) (hB2:W.cell? ⟨B2,0,none⟩=some (.int .i64 st)) (h0:J [] W) :
  CallsIn Fence.wide n Tryz.prog 150 #[.func (.yield l) #[] #[],.pointer (some ⟨B1,0,none⟩),.pointer (some ⟨B2,0,none⟩)] W fun e W'=>(∃ v,e=.returned v)∧J [] W':=by
 have HS:=hide (bsf_zero a cap st (.func (.func 152) #[] #[]) W)
 refine callsIn_of_wp Tryz.func150 rfl trivial ?_ rfl
 simp only [Tryz.ntmps150,List.size_toArray,List.length_cons,List.length_nil,Nat.reduceAdd,Nat.reduceSub,Array.replicate_succ,Array.replicate_zero,List.push_toArray,List.append_toArray,List.nil_append,List.cons_append]
 have H0:=hide h0
 clear h0
 gi_wp2_with (fail)
 refine ⟨trivial,fun h=>by simp [Fence.wide] at h,(callsIn_wide.2 HS.out).mono ?_⟩
 rintro e w1 ⟨rfl,rfl⟩
 cases a with
 | none =>
  obtain rfl:=hcap rfl
  gi_wp2_with (fail)
  all_goals
   refine wpIn_loop_rounds 1 ?_
   rw [roundsIn_succ]
   gi_wp2
   go_end0
   exact ⟨⟨_,rfl⟩,H0.out⟩
 | some ad =>
  by_cases hc0:cap=0
  ·subst hc0
   gi_wp2_with (fail)
   all_goals
    refine wpIn_loop_rounds 1 ?_
    rw [roundsIn_succ]
    gi_wp2
    go_end0
    exact ⟨⟨_,rfl⟩,H0.out⟩
  ·have hc1:¬ 0=cap:=fun e=>hc0 e.symm
   gi_wp2_with (fail)
   all_goals
    refine wpIn_loop_rounds 1 ?_
    rw [roundsIn_succ]
    gi_wp2
    go_end0
    exact ⟨⟨_,rfl⟩,H0.out⟩
attribute [local go_sem] Oper.semAt_some
theorem three_alloc (w:World) (a b c:Obj):(((w.alloc a).alloc b).alloc c).heap[w.heap.size]?=some a∧(((w.alloc a).alloc b).alloc c).heap[w.heap.size+1]?=some b∧(((w.alloc a).alloc b).alloc c).heap[w.heap.size+1+1]?=some c:=by
 refine ⟨?_,?_,?_⟩
 ·rw [heap_alloc_old _ _ (by simp;omega),heap_alloc_old _ _ (by simp)]
  exact heap_alloc_new w a
 ·rw [heap_alloc_old _ _ (by simp)]
  have:=heap_alloc_new (w.alloc a) b
  rwa [World.size_alloc] at this
 ·have:=heap_alloc_new ((w.alloc a).alloc b) c
  rwa [World.size_alloc,World.size_alloc] at this
theorem ordS_le {a b:Stp} (h:ordS a b < 0):a.f≤b.f:=by
 unfold ordS orI cmpI at h
 by_cases h1:a.f < b.f
 ·omega
 ·by_cases h2:b.f < a.f
  ·simp [h1,h2] at h
  ·omega
theorem steps_right (n m:Int):∀ (ss:List Stp) (p:Option Stp),chkStepsFrom n m p ss=0→(∀ s ∈ ss,badS n m s=false)∧ss.Pairwise (fun a b=>a.f≤b.f)∧(∀ q,p=some q→∀ s ∈ ss,q.f≤s.f)
 | [],_,_=>⟨fun s h=>(by cases h),List.Pairwise.nil,fun q _ s h=>(by cases h)⟩
 | s :: r,p,h=>by
  unfold chkStepsFrom at h
  cases hb:badS n m s with
  | true=>rw [hb] at h;simp at h
  | false =>
   rw [hb] at h
   cases p with
   | none =>
    obtain ⟨h1,h2,h3⟩:=steps_right n m r (some s) (by simpa using h)
    refine ⟨fun x hx=>?_,List.Pairwise.cons (fun x hx=>h3 s rfl x hx) h2,fun q e=>by cases e⟩
    rcases List.mem_cons.1 hx with rfl | hx
    ·exact hb
    ·exact h1 x hx
   | some q =>
    by_cases ho:0≤ordS q s
    ·simp [ho] at h
    ·obtain ⟨h1,h2,h3⟩:=steps_right n m r (some s) (by simpa [ho] using h)
     have hq:q.f≤s.f:=ordS_le (by omega)
     refine ⟨fun x hx=>?_,List.Pairwise.cons (fun x hx=>h3 s rfl x hx) h2,fun q' e x hx=>?_⟩
     ·rcases List.mem_cons.1 hx with rfl | hx
      ·exact hb
      ·exact h1 x hx
     ·cases e
      rcases List.mem_cons.1 hx with rfl | hx
      ·exact hq
      ·have:=h3 s rfl x hx
       omega
structure Right (A:Aut):Prop where
 n1:1≤A.n
 n3:A.n≤300
 m1:1≤A.m
 m8:A.m≤8
 good:(A.good.length:Int)=A.n
 few:A.steps.length≤6000
 first:∀ x ∈ A.first,0≤x∧x < A.n
 steps:∀ s ∈ A.steps,0≤s.f∧s.f < A.n∧0≤s.l∧s.l < A.m∧0≤s.t∧s.t < A.n
 sorted:A.steps.Pairwise (fun a b=>a.f≤b.f)
theorem outB_false {n x:Int} (h:outB n x=false):0≤x∧x < n:=by
 simpa [outB] using h
theorem right_of {A:Aut} (h:chkA A=0):Right A:=by
 unfold chkA at h
 by_cases h1:A.n < 1 ∨ 300 < A.n ∨ A.m < 1 ∨ 8 < A.m
 ·rw [if_pos h1] at h;omega
 rw [if_neg h1] at h
 by_cases h2:(A.good.length:Int) ≠ A.n
 ·rw [if_pos h2] at h;omega
 rw [if_neg h2] at h
 by_cases h3:6000 < A.steps.length
 ·rw [if_pos h3] at h;omega
 rw [if_neg h3] at h
 by_cases h4:chkFirst A.n A.first ≠ 0
 ·rw [if_pos h4] at h;omega
 rw [if_neg h4] at h
 have h4':chkFirst A.n A.first=0:=by omega
 unfold chkFirst at h4'
 have h5:A.first.any (outB A.n)=false:=by
  cases hb:A.first.any (outB A.n) with
  | false=>rfl
  | true=>rw [hb] at h4';simp at h4'
 obtain ⟨g1,g2,_⟩:=steps_right A.n A.m A.steps none h
 refine ⟨by omega,by omega,by omega,by omega,by omega,by omega,fun x hx=>?_,fun s hs=>?_,g2⟩
 ·rw [List.any_eq_false] at h5
  exact outB_false (by simpa using h5 x hx)
 ·have:=g1 s hs
  unfold badS at this
  rw [Bool.or_eq_false_iff,Bool.or_eq_false_iff] at this
  have q1:=outB_false this.1.1
  have q2:=outB_false this.1.2
  have q3:=outB_false this.2
  omega
def EdgeA (A:Aut) (hs ls:List Int) (x y:Spot):Prop:=
 y.1=(if x.1+1=hs.length+ls.length then hs.length else x.1+1)∧∃ s ∈ A.steps,s.f=x.2∧s.l=lat hs ls x.1∧s.t=y.2
def TakesA (A:Aut) (hs ls:List Int):Prop:=
 ∃ i,i < A.first.length∧∃ z,Leads (EdgeA A hs ls) (0,(A.first.getD i 0).toNat) z∧A.good.getD z.2 false=true∧LeadsOn (EdgeA A hs ls) z z
theorem mono_getD {ss:List Stp} (h:ss.Pairwise (fun a b=>a.f≤b.f)) (i j:Nat) (hij:i≤j) (hj:j < ss.length):(ss.getD i stp0).f≤(ss.getD j stp0).f:=by
 rw [stp_getD _ _ hj,stp_getD _ _ (by omega)]
 rcases Nat.lt_or_eq_of_le hij with hlt | rfl
 ·exact List.pairwise_iff_getElem.1 h i j (by omega) hj hlt
 ·omega
theorem intSl_nil (w:World):IntSl w (.slice none 0 0) []:=⟨none,0,rfl,by simp [maxLen],Or.inl rfl,fun _=>rfl,by simp⟩
section
variable {P:Program}{Q:Exit→Act→World→Prop}
def ordersOf (md:Region.Mode) (ops:Array Oper):Nat→Array Bool→List (List Nat)
 | 0,_=>[[]]
 | f+1,listed=>match Region.ready md ops listed with
  | []=>[[]]
  | r=>r.flatMap fun i=>(ordersOf md ops f (listed.setIfInBounds i true)).map (i :: ·)
theorem lin_mem (md:Region.Mode) (ops:Array Oper):∀ (fuel t:Nat) (listed:Array Bool),Region.linearise.go md ops fuel t listed [] ∈ ordersOf md ops fuel listed:=by
 intro fuel
 induction fuel with
 | zero=>intro t listed;simp [Region.linearise.go,ordersOf]
 | succ fuel ih =>
  intro t listed
  simp only [Region.linearise.go]
  change (match (Region.ready md ops listed)[t % (Region.ready md ops listed).length]? with
   | some i=>Region.linearise.go md ops fuel (t / (Region.ready md ops listed).length) (listed.setIfInBounds i true) [i]
   | none=>[].reverse) ∈ _
  unfold ordersOf
  cases hi:(Region.ready md ops listed)[t % (Region.ready md ops listed).length]? with
  | none =>
   have hnil:Region.ready md ops listed=[]:=by
    cases hr:Region.ready md ops listed with
    | nil=>rfl
    | cons x xs =>
     rw [hr] at hi
     have hlt:t % (x :: xs).length < (x :: xs).length:=Nat.mod_lt _ (by simp)
     simp at hi
     simp at hlt
     omega
   rw [hnil]
   simp
  | some i =>
   have hm:=List.mem_of_getElem? hi
   simp only []
   rw [linearise_go_acc,List.reverse_singleton,List.singleton_append]
   cases hr:Region.ready md ops listed with
   | nil=>rw [hr] at hm;cases hm
   | cons x xs =>
    rw [hr] at hm
    simp only []
    exact List.mem_flatMap.2 ⟨i,hm,List.mem_map.2 ⟨_,ih _ _,rfl⟩⟩
theorem wpOps_list (ops:Array Oper):∀ (l:List Nat),wpOps P ops Q l=wpList P ops Q (l.filterMap (ops[·]?))
 | []=>by funext a w;simp [wpOps,wpList]
 | i :: l=>by
  funext a w
  cases h:ops[i]? with
  | none=>simp only [wpOps,h,wpOps_list ops l,List.filterMap_cons]
  | some o=>simp only [wpOps,h,wpOps_list ops l,List.filterMap_cons,wpList]
theorem wp_region_orders {id:Nat}{a:Act}{w:World}{ops:List Oper} (L:List (List Nat)) (hm:P.follows .mixedOrders=true) (hL:ordersOf .any ops.toArray ops.length (Array.replicate ops.length false)=L)
  (h:∀ o ∈ L,wpList P ops.toArray Q (o.filterMap (ops[·]?)) a w.drew):(Code.region id ops.toArray true).wp P Q a w:=by
 refine wp_region_draw fun t=>?_
 have hsch:Region.schedule (P.follows .mixedOrders) ops.toArray t=Region.linearise.go .any ops.toArray ops.length t (Array.replicate ops.length false) []:=by
  simp only [Region.schedule,hm,Bool.true_or,if_true]
  rfl
 rw [hsch,wpOps_list]
 have:=h _ (hL ▸ lin_mem .any ops.toArray ops.length t _)
 simpa using this
end
theorem belowRow {w w':World} (h:Below w.heap.size w w') {b:Nat}{o:Obj} (hb:w.heap[b]?=some o):w'.heap[b]?=some o:=(h.block b (Array.getElem?_eq_some_iff.1 hb).1).trans hb
theorem one_new (w:World) (o:Obj):(w.alloc o).heap[w.heap.size]?=some o:=heap_alloc_new w o
end Go.Proofs.YtpiacnnifdjlkabGreatDoor
