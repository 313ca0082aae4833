import Derived.Test.YtpiacnnifdjlkabGreatDoorPd
import Derived.Test.YtpiacnnifdjlkabGreatDoorVa
set_option maxRecDepth 100000
set_option maxHeartbeats 8000000
namespace Go.Proofs.YtpiacnnifdjlkabGreatDoor
open Go.RowKit Go.Sort
attribute [local go_sem] Oper.semAt_some
theorem boolSl_cell {w:World}{v:Value}{zs:List Bool} (h:BoolSl w v zs) {i:Nat} (hi:i < zs.length):∃ b off cap,v=.slice (some ⟨b,off,none⟩) zs.length cap∧w.cell? ⟨b,off+i,none⟩=some (.bool (zs.getD i false)):=by
 obtain ⟨a,cap,rfl,_,hz,_⟩:=h
 rcases hz with rfl | ⟨b,off,rfl,hc⟩
 ·simp at hi
 ·exact ⟨b,off,cap,rfl,hc i hi⟩
theorem pairGood {w:World}{A:Aut}{n m:Int}{fsv gsv ssv:Value}{bA:Nat} (x:Pair) (hbA:w.heap[bA]?=some (.cells #[.int .i64 n,.int .i64 m,fsv,gsv,ssv] 26)) (hG:BoolSl w gsv A.good) (hx:x.1 < A.good.length) :
  Calls Tryz.prog 103 #[prV x,.pointer (some ⟨bA,0,none⟩)] w fun e w'=>e=.returned (.bool (pGood A x))∧Below w.heap.size w w':=by
 obtain ⟨x1,x2,x3⟩:=x
 dsimp only at hx
 have hlt:=(Array.getElem?_eq_some_iff.1 hbA).1
 obtain ⟨b,off,cap,rfl,hc⟩:=boolSl_cell hG hx
 have c3:=cell_of_row _ _ 3 _ _ _ hbA
 have hbl:b < w.heap.size:=World.block_lt_of_cell? w _ hc
 have hp:pGood A (x1,x2,x3)=(!x3 && A.good.getD x1 false):=rfl
 rw [hp]
 show Calls Tryz.prog 103 #[.agg #[.int .i64 (x1:Nat),.int .i64 (x2:Nat),.bool x3],.pointer (some ⟨bA,0,none⟩)] w _
 generalize A.good.getD x1 false=g at *
 clear hG hbA hp
 cases x3
 ·go_enter Tryz.func103,Tryz.ntmps103
  go_wp2
  go_ret
  exact ⟨by simp,(by repeat (first | exact Below.refl _ _ | assumption | refine below_drewN ?_ _ | refine Below.drew ?_ | refine Below.alloc ?_ (by simp <;> omega) _ | refine below_trans ?_ (by assumption)))⟩
 ·clear hc c3
  go_enter Tryz.func103,Tryz.ntmps103
  go_wp2
  go_ret
  exact ⟨by simp,(by repeat (first | exact Below.refl _ _ | assumption | refine below_drewN ?_ _ | refine Below.drew ?_ | refine Below.alloc ?_ (by simp <;> omega) _ | refine below_trans ?_ (by assumption)))⟩
theorem pairAfter {w:World}{A B:Aut}{n m n' m':Int}{fsv gsv ssv fsv' gsv' ssv':Value}{bA bB bGd:Nat} (x:Pair) (hbA:w.heap[bA]?=some (.cells #[.int .i64 n,.int .i64 m,fsv,gsv,ssv] 26)) (hbB:w.heap[bB]?=some (.cells #[.int .i64 n',.int .i64 m',fsv',gsv',ssv'] 26))
  (hbG:w.heap[bGd]?=some (.cells #[.func (.func 103) #[] #[.pointer (some ⟨bA,0,none⟩)]] 154)) (hGA:BoolSl w gsv A.good) (hGB:BoolSl w gsv' B.good) (hx:x.1 < A.good.length) (hy:x.2.1 < B.good.length) :
  Calls Tryz.prog 105 #[prV x,.pointer (some ⟨bGd,0,none⟩),.pointer (some ⟨bB,0,none⟩),.pointer (some ⟨bA,0,none⟩)] w fun e w'=>∃ wb,e=.returned (.func (.func 106) #[] #[.pointer (some ⟨bA,0,none⟩),.pointer (some ⟨w.heap.size,0,none⟩),.pointer (some ⟨bB,0,none⟩),.pointer (some ⟨wb,0,none⟩)])∧Below w.heap.size w w'∧w'.heap[w.heap.size]?=some (.cells #[.int .i64 (x.1:Nat),.int .i64 (x.2.1:Nat),.bool x.2.2] 153)∧w'.heap[wb]?=some (.cells #[.bool (pWait A B x)] 4)∧w.heap.size < wb:=by
 obtain ⟨x1,x2,x3⟩:=x
 dsimp only at hx hy ⊢
 have hmf:∀ (fn:Fn) (first cap:Array Value) (w:World),(Instr.makeFunc fn first cap).run Tryz.prog w=.ok (.func fn first cap) w:=fun _ _ _ _=>rfl
 have hltA:=(Array.getElem?_eq_some_iff.1 hbA).1
 have hltB:=(Array.getElem?_eq_some_iff.1 hbB).1
 have hltG:=(Array.getElem?_eq_some_iff.1 hbG).1
 have hb0:=below_new w (Obj.cells #[.int .i64 (x1:Nat),.int .i64 (x2:Nat),.bool x3] 153)
 have ho0:=one_new w (Obj.cells #[.int .i64 (x1:Nat),.int .i64 (x2:Nat),.bool x3] 153)
 have g0:=cell_of_row _ _ 0 _ _ _ (belowRow hb0 hbG)
 have HGo:=hide (pairGood (A:=A) (x1,x2,x3) (belowRow hb0 hbA) (hGA.below hb0) hx)
 obtain ⟨b,off,cap,rfl,hc⟩:=boolSl_cell hGB hy
 have HB0:=hide hb0
 have HO0:=hide ho0
 have HbB:=hide hbB
 have Hc:=hide hc
 have hpw:pWait A B (x1,x2,x3)=(pGood A (x1,x2,x3) || (x3 && !(B.good.getD x2 false))):=rfl
 rw [hpw]
 have e0:prV (x1,x2,x3)=.agg #[.int .i64 (x1:Nat),.int .i64 (x2:Nat),.bool x3]:=rfl
 rw [e0] at HGo ⊢
 generalize pGood A (x1,x2,x3)=g at *
 generalize B.good.getD x2 false=h at *
 have hbl:b < w.heap.size:=World.block_lt_of_cell? w _ Hc.out
 clear hb0 ho0 hbA hbB hbG hGA hGB hc hpw e0
 go_enter Tryz.func105,Tryz.ntmps105
 go_wp2_with (fail)
 refine HGo.out.mono ?_
 rintro e w1 ⟨rfl,hb1⟩
 have hbb:=below_trans HB0.out hb1
 have ho1:=belowRow hb1 HO0.out
 have p1:=cell_of_row _ _ 1 _ _ _ ho1
 have p2:=cell_of_row _ _ 2 _ _ _ ho1
 have q3:=cell_of_row _ _ 3 _ _ _ (belowRow hbb HbB.out)
 have qc:=(hbb.cell (p:=⟨b,off+x2,none⟩) hbl).trans Hc.out
 have hsz:w.heap.size < w1.heap.size:=(Array.getElem?_eq_some_iff.1 ho1).1
 have HBB:=hide hbb
 have HO1:=hide ho1
 clear hb1 hbb ho1 g0
 cases g
 ·cases x3
  ·clear qc q3
   go_wp2
   go_ret
   exact ⟨w1.heap.size,rfl,below_trans HBB.out (below_new _ _),belowRow (below_new _ _) HO1.out,by simpa using one_new w1 _,hsz⟩
  ·go_wp2
   go_ret
   exact ⟨w1.heap.size,rfl,below_trans HBB.out (below_new _ _),belowRow (below_new _ _) HO1.out,by simpa using one_new w1 _,hsz⟩
 ·clear qc q3 p2
  go_wp2
  go_ret
  exact ⟨w1.heap.size,rfl,below_trans HBB.out (below_new _ _),belowRow (below_new _ _) HO1.out,by simpa using one_new w1 _,hsz⟩
attribute [local go_sem] Oper.semAt_some
def rowQ (A B:Aut) (x:Pair) (s:Stp) (ts:List Stp):List (Int × Pair):=(ts.filter fun t=>decide (s.l=t.l)).map fun t=>(s.l,⟨s.t.toNat,t.t.toNat,pWait A B x⟩)
def rowsQ (A B:Aut) (x:Pair) (ss:List Stp):List (Int × Pair):=ss.flatMap fun s=>rowQ A B x s (B.steps.filter fun t=>decide (t.f=(x.2.1:Int)))
theorem rowsQ_all (A B:Aut) (x:Pair):rowsQ A B x (A.steps.filter fun s=>decide (s.f=(x.1:Int)))=pAfter A B x:=rfl
theorem rowsQ_snoc (A B:Aut) (x:Pair) (ss:List Stp) (s:Stp):rowsQ A B x (ss ++ [s])=rowsQ A B x ss ++ rowQ A B x s (B.steps.filter fun t=>decide (t.f=(x.2.1:Int))):=by
 unfold rowsQ
 rw [List.flatMap_append]
 simp
theorem rowQ_yes {A B:Aut}{x:Pair}{s t:Stp}{ts:List Stp} (h:s.l=t.l):rowQ A B x s (ts ++ [t])=rowQ A B x s ts ++ [(s.l,⟨s.t.toNat,t.t.toNat,pWait A B x⟩)]:=by
 unfold rowQ
 rw [List.filter_append,List.map_append]
 simp [h]
theorem rowQ_no {A B:Aut}{x:Pair}{s t:Stp}{ts:List Stp} (h:¬ s.l=t.l):rowQ A B x s (ts ++ [t])=rowQ A B x s ts:=by
 unfold rowQ
 rw [List.filter_append,List.map_append]
 simp [h]
structure PI {α:Type} (l:Nat) (S:World→Nat→Prop) (J:List α→World→Prop) (val:α→Int × Pair) (W:World) (had:List (Int × Pair)) (most:Nat) (A:World):Prop where
 has:∃ pre:List α,pre.map val=had∧pre.length≤most∧J pre A
 ko:KO l S W A
 by_:A.heap[W.heap.size]?=some (.cells #[.func (.yield l) #[] #[]] 158)
 not:¬ S A W.heap.size
theorem PI.ki {α:Type}{l m s:Nat}{S:World→Nat→Prop}{J:List α→World→Prop}{val:α→Int × Pair}{W A B:World}{had:List (Int × Pair)}{most:Nat} (h:PI l S J val W had most A) (hJ:∀ pre A B,J pre A→W.heap.size≤A.heap.size→KI W.heap.size S A B→J pre B) (hD:Det m S) (hm:m≤W.heap.size) (hs:W.heap.size+1≤s) (hk:KI s (withL S l) A B):PI l S J val W had most B:=by
 have hd:=(hk.ofWithL (Nat.le_refl _)).det hD (Nat.le_trans hm h.ko.size)
 obtain ⟨pre,h1,h2,h3⟩:=h.has
 exact ⟨⟨pre,h1,h2,hJ pre A B h3 h.ko.size (hk.ofWithL (by omega))⟩,h.ko.thenKI hD (Nat.le_trans hm h.ko.size) (by omega) hk,hk.keep _ _ h.by_ (Or.inl (by omega)),fun hS=>h.not ((hd _).1 hS)⟩
theorem PI.below {α:Type}{l m:Nat}{S:World→Nat→Prop}{J:List α→World→Prop}{val:α→Int × Pair}{W A B:World}{had:List (Int × Pair)}{most:Nat} (h:PI l S J val W had most A) (hJ:∀ pre A B,J pre A→W.heap.size≤A.heap.size→KI W.heap.size S A B→J pre B) (hD:Det m S) (hm:m≤W.heap.size) (hb:Below A.heap.size A B):PI l S J val W had most B:=
 h.ki hJ hD hm (s:=A.heap.size) (by have:=(Array.getElem?_eq_some_iff.1 h.by_).1;omega) (KI.of_below hb)
theorem PI.in_ {α:Type}{l:Nat}{S:World→Nat→Prop}{J:List α→World→Prop}{val:α→Int × Pair}{W A:World}{had:List (Int × Pair)}{most:Nat} (h:PI l S J val W had most A) (hSw:∀ k,S W k→k < W.heap.size):∀ k,S A k→k < A.heap.size:=fun k hk=>by
 have h1:=h.ko.size
 rcases h.ko.own k hk with h2 | h2
 ·have:=hSw k h2;omega
 ·exact h2.2
theorem KE.thenKI {s m:Nat}{S:World→Nat→Prop}{A B C:World} (h:KE S A B) (hD:Det m S) (hm:m≤B.heap.size) (hs:A.heap.size≤s) (hk:KI s S B C):KE S A C:=
 ⟨hk.os.trans h.os,hk.tape.trans h.tape,hk.output.trans h.output,Nat.le_trans h.size hk.size,fun k o ho hn=>hk.keep k o (h.keep k o ho hn) (Or.inl (Nat.lt_of_lt_of_le (Array.getElem?_eq_some_iff.1 ho).1 hs)),fun k hS=>(h.own k ((hk.det hD hm k).1 hS)).imp id (fun h2=>⟨h2.1,Nat.lt_of_lt_of_le h2.2 hk.size⟩)⟩
def PairC (bA bP bB bW:Nat) (aA aB:Option Addr) (sA sB:List Stp) (k:Nat):Prop:=k=bA ∨ k=bP ∨ k=bB ∨ k=bW ∨ (sA ≠ []∧∃ b off,aA=some ⟨b,off,none⟩∧k=b) ∨ (sB ≠ []∧∃ b off,aB=some ⟨b,off,none⟩∧k=b)
theorem StepSl.ko {l:Nat}{S:World→Nat→Prop}{W W':World}{v:Value}{zs:List Stp} (h:StepSl W v zs) (hk:KO l S W W') (hb:∀ b off k c,v=.slice (some ⟨b,off,none⟩) k c→zs ≠ []→b ≠ l∧¬ S W b):StepSl W' v zs:=by
 obtain ⟨a,cap,rfl,hm,hz,hn⟩:=h
 refine ⟨a,cap,rfl,hm,?_,hn⟩
 by_cases h0:zs=[]
 ·exact Or.inl h0
 ·rcases hz with h | ⟨b,off,rfl,hc⟩
  ·exact absurd h h0
  ·obtain ⟨hl,hS⟩:=hb b off _ _ rfl h0
   exact Or.inr ⟨b,off,rfl,fun i hi=>⟨hk.cell (hc i hi).1 hl hS,hk.cell (hc i hi).2.1 hl hS,hk.cell (hc i hi).2.2 hl hS⟩⟩
theorem pairSeq {A B:Aut} (x:Pair) (NA NB:Nat) {bA bP bB bW:Nat}{nA mA nB mB:Int}{fA gA fB gB:Value}{aA aB:Option Addr}{cA cB:Nat} (w0:World)
  (hbA:w0.heap[bA]?=some (.cells #[.int .i64 nA,.int .i64 mA,fA,gA,.slice aA A.steps.length cA] 26)) (hbB:w0.heap[bB]?=some (.cells #[.int .i64 nB,.int .i64 mB,fB,gB,.slice aB B.steps.length cB] 26))
  (hbP:w0.heap[bP]?=some (.cells #[.int .i64 (x.1:Nat),.int .i64 (x.2.1:Nat),.bool x.2.2] 153)) (hbW:w0.heap[bW]?=some (.cells #[.bool (pWait A B x)] 4))
  (hSA:StepSl w0 (.slice aA A.steps.length cA) A.steps) (hSB:StepSl w0 (.slice aB B.steps.length cB) B.steps) (hlA:A.steps.length≤1000000) (hlB:B.steps.length≤1000000) (hmA:∀ i j,i≤j→j < A.steps.length→(A.steps.getD i stp0).f≤(A.steps.getD j stp0).f) (hmB:∀ i j,i≤j→j < B.steps.length→(B.steps.getD i stp0).f≤(B.steps.getD j stp0).f)
  (hgA:∀ s ∈ A.steps,0≤s.l∧s.l < 8∧0≤s.t∧s.t < NA) (hgB:∀ s ∈ B.steps,0≤s.l∧s.l < 8∧0≤s.t∧s.t < NB) (N:Nat) (hN:A.steps.length * B.steps.length≤N) :
  SeqO 19 Tryz.prog 106 #[.pointer (some ⟨bA,0,none⟩),.pointer (some ⟨bP,0,none⟩),.pointer (some ⟨bB,0,none⟩),.pointer (some ⟨bW,0,none⟩)] (fun p:{ p:Int × Pair // p ∈ pAfter A B x }=>#[.int .i64 p.1.1,prV p.1.2]) (PairC bA bP bB bW aA aB A.steps B.steps) (fun xs=>xs.map (·.1)=pAfter A B x) N w0:=by
 intro l S m J Jx W hb0 hD hm hC hl0 hlW hSl hSw hJ hJx hY h0
 show CallsIn Fence.wide 19 Tryz.prog 106 #[.func (.yield l) #[] #[],.pointer (some ⟨bA,0,none⟩),.pointer (some ⟨bP,0,none⟩),.pointer (some ⟨bB,0,none⟩),.pointer (some ⟨bW,0,none⟩)] W _
 have hlw:∀ (k:Nat) (o:Obj),w0.heap[k]?=some o→k ≠ l:=fun k o ho=>by have:=(Array.getElem?_eq_some_iff.1 ho).1;omega
 have HWA:=hide (belowRow hb0 hbA)
 have HWB:=hide (belowRow hb0 hbB)
 have HWP:=hide (belowRow hb0 hbP)
 have HWW:=hide (belowRow hb0 hbW)
 have HSA:=hide (hSA.below hb0)
 have HSB:=hide (hSB.below hb0)
 have HnA:=hide (And.intro (hlw _ _ hbA) (hC bA (Or.inl rfl)))
 have HnP:=hide (And.intro (hlw _ _ hbP) (hC bP (Or.inr (Or.inl rfl))))
 have HnB:=hide (And.intro (hlw _ _ hbB) (hC bB (Or.inr (Or.inr (Or.inl rfl)))))
 have HnW:=hide (And.intro (hlw _ _ hbW) (hC bW (Or.inr (Or.inr (Or.inr (Or.inl rfl))))))
 have HrA:=hide (show ∀ b off k c,Value.slice aA A.steps.length cA=.slice (some ⟨b,off,none⟩) k c→A.steps ≠ []→b < w0.heap.size∧b ≠ l∧¬ S W b from fun b off k c e hne=>by
  have h1:b < w0.heap.size:=by
   obtain ⟨a',cap',e2,_,hz,_⟩:=hSA
   rcases hz with h0 | ⟨b',off',e3,hcc⟩
   ·exact absurd h0 hne
   ·rw [e2,e3] at e
    cases e
    exact World.block_lt_of_cell? w0 _ (hcc 0 (List.length_pos_iff.2 hne)).1
  injection e with e1 _ _
  exact ⟨h1,by omega,hC b (Or.inr (Or.inr (Or.inr (Or.inr (Or.inl ⟨hne,b,off,e1,rfl⟩)))))⟩)
 have HrB:=hide (show ∀ b off k c,Value.slice aB B.steps.length cB=.slice (some ⟨b,off,none⟩) k c→B.steps ≠ []→b < w0.heap.size∧b ≠ l∧¬ S W b from fun b off k c e hne=>by
  have h1:b < w0.heap.size:=by
   obtain ⟨a',cap',e2,_,hz,_⟩:=hSB
   rcases hz with h0 | ⟨b',off',e3,hcc⟩
   ·exact absurd h0 hne
   ·rw [e2,e3] at e
    cases e
    exact World.block_lt_of_cell? w0 _ (hcc 0 (List.length_pos_iff.2 hne)).1
  injection e with e1 _ _
  exact ⟨h1,by omega,hC b (Or.inr (Or.inr (Or.inr (Or.inr (Or.inr ⟨hne,b,off,e1,rfl⟩)))))⟩)
 have HJ:=hide hJ
 have HJx:=hide hJx
 have HY:=hide hY
 have HDt:=hide hD
 have HSw:=hide hSw
 have HSlo:=hide hSl
 have hww:=hb0.size
 have HA0:=hide (show PI l S J (·.1) W (rowsQ A B x []) (0 * B.steps.length) (W.alloc (Obj.cells #[.func (.yield l) #[] #[]] 158)) from
  ⟨⟨[],rfl,Nat.zero_le _,hJ [] W _ h0 (Nat.le_refl _) (KI.of_below (below_new _ _))⟩,KO.of_below hD hm (below_new _ _),one_new _ _,fun hS=>by
   have:=hSw _ (((KI.of_below (s:=0) (S:=S) (below_new W (Obj.cells #[.func (.yield l) #[] #[]] 158))).det hD hm _).1 hS)
   omega⟩)
 have hbn:=below_new W (Obj.cells #[.func (.yield l) #[] #[]] 158)
 have a0:=cell_of_row _ _ 0 _ _ _ (belowRow hbn HWA.out)
 have a1:=cell_of_row _ _ 1 _ _ _ (belowRow hbn HWA.out)
 have a2:=cell_of_row _ _ 2 _ _ _ (belowRow hbn HWA.out)
 have a3:=cell_of_row _ _ 3 _ _ _ (belowRow hbn HWA.out)
 have a4:=cell_of_row _ _ 4 _ _ _ (belowRow hbn HWA.out)
 have p0:=cell_of_row _ _ 0 _ _ _ (belowRow hbn HWP.out)
 have HSm:=hide (And.intro hlA (And.intro hlB (And.intro hmA (And.intro hmB (And.intro hgA hgB)))))
 clear hbA hbB hbP hbW hSA hSB hJ hJx hY hSw hSl hC hD h0 hlA hlB hmA hmB hgA hgB hlw hbn
 refine callsIn_of_wp_marks Tryz.func106 rfl trivial ?_ rfl
 simp only [Tryz.ntmps106,List.size_toArray,List.length_cons,List.length_nil,Nat.reduceAdd,Nat.reduceSub,Array.replicate_succ,Array.replicate_zero,List.push_toArray,List.append_toArray,List.nil_append,List.cons_append]
 refine wpIn_wide.2 ?_
 go_wp2_with (fail)
 refine (from_any _ _ _ _ _ _ _).mono ?_
 rintro e W2 ⟨rfl,hW2⟩
 have hs1:(W.alloc (Obj.cells #[.func (.yield l) #[] #[]] 158)).heap.size=W.heap.size+1:=by simp
 rw [hs1]
 have hbY:=below_new W (Obj.cells #[.func (.yield l) #[] #[]] 158)
 have hbb1:=below_new (W.alloc (Obj.cells #[.func (.yield l) #[] #[]] 158)) (Obj.cells #[Value.int .i64 nA,.int .i64 mA,fA,gA,.slice aA A.steps.length cA] 26)
 have hbb2:=below_new ((W.alloc (Obj.cells #[.func (.yield l) #[] #[]] 158)).alloc (Obj.cells #[Value.int .i64 nA,.int .i64 mA,fA,gA,.slice aA A.steps.length cA] 26)) (Obj.cells #[Value.int .i64 (x.1:Nat)] 3)
 have hq1:=belowRow hbb2 (one_new (W.alloc (Obj.cells #[.func (.yield l) #[] #[]] 158)) (Obj.cells #[Value.int .i64 nA,.int .i64 mA,fA,gA,.slice aA A.steps.length cA] 26))
 have hq2:=one_new ((W.alloc (Obj.cells #[.func (.yield l) #[] #[]] 158)).alloc (Obj.cells #[Value.int .i64 nA,.int .i64 mA,fA,gA,.slice aA A.steps.length cA] 26)) (Obj.cells #[Value.int .i64 (x.1:Nat)] 3)
 rw [show ((W.alloc (Obj.cells #[.func (.yield l) #[] #[]] 158)).alloc (Obj.cells #[Value.int .i64 nA,.int .i64 mA,fA,gA,.slice aA A.steps.length cA] 26)).heap.size=W.heap.size+1+1 by simp] at hq2
 rw [hs1] at hq1
 have hb12:=below_trans hbb1 hbb2
 rw [← hW2] at hq1 hq2 hb12
 have HA2:=hide (HA0.out.below HJ.out HDt.out hm hb12)
 have hbW2:Below W.heap.size W W2:=below_trans hbY hb12
 have HW2:=hide hbW2
 have hS2:∀ k,S W2 k→k < W.heap.size:=fun k hk=>HSw.out k (((KI.of_below (s:=0) (S:=S) hbW2).det HDt.out hm k).1 hk)
 have HS2:=hide hS2
 have hz2:W.heap.size+1+1 < W2.heap.size:=(Array.getElem?_eq_some_iff.1 hq2).1
 have hsq:=fromSeqO 18 (W.heap.size+1) (W.heap.size+1+1) NA (x.1:Int) W2 (cell_of_row _ _ 4 _ _ _ hq1) (cell_of_row _ _ 0 _ _ _ hq2) (HSA.out.below hbW2) (by have:=HSm.out.1;omega) HSm.out.2.2.1 (fun s hs hf=>by have:=HSm.out.2.2.2.2.1 s hs;exact ⟨hf,by omega,by omega,by omega,by omega⟩)
 clear a0 a1 a2 a3 a4 p0 hW2 hs1 hbY hbb1 hbb2 hb12 HA0 hq1 hq2 hbW2
 go_wp2_with (fail)
 refine wpIn_wide.1 (range_own (n:=19) (w0:=W2) (gf:=150) (lb:=#[.pointer (some ⟨W.heap.size+1,0,none⟩),.pointer (some ⟨W.heap.size+1+1,0,none⟩)]) rfl (enters_of Tryz.func150 (by kernel_rfl) rfl) hsq (withL S l) m (det_withL HDt.out) (by omega) ?hC (fun k h=>by rcases h with h | h;have:=hS2 k h;omega;omega) (Below.refl _ _) (fun _=>rfl)
  (fun pre A1=>PI l S J (·.1) W (rowsQ A B x (pre.map (·.1))) (pre.length * B.steps.length) A1) (fun q pre A1=>q=.ret∧(∃ pre',Jx pre' A1)∧m≤A1.heap.size∧W.heap.size≤A1.heap.size) ?hI ?hIx ?start
  (fun y a' A1=>∃ Bx,W.heap.size < Bx∧Bx ≠ l∧A1.heap[Bx]?=some (.cells #[.int .i64 y.1.f,.int .i64 y.1.l,.int .i64 y.1.t] 88)∧¬ withL S l A1 Bx∧a'={ tmps:=#[.func (.yield l) #[] #[],.pointer (some ⟨bA,0,none⟩),.pointer (some ⟨bP,0,none⟩),.pointer (some ⟨bB,0,none⟩),.pointer (some ⟨bW,0,none⟩),.pointer (some ⟨W.heap.size,0,none⟩),.pointer (some ⟨Bx,0,none⟩),undef,.agg #[.int .i64 nA,.int .i64 mA,fA,gA,.slice aA A.steps.length cA],.pointer (some ⟨bP,0,none⟩),.int .i64 (x.1:Nat),.func (.func 150) #[] #[.pointer (some ⟨W.heap.size+1,0,none⟩),.pointer (some ⟨W.heap.size+1+1,0,none⟩)],.agg #[.int .i64 y.1.f,.int .i64 y.1.l,.int .i64 y.1.t],undef,undef,undef,undef,undef,undef,undef,undef,undef,undef,undef,undef,undef,undef,undef,undef,undef,undef,undef,undef,undef,undef,undef],defers:=[] }) ?hAx ?assign ?body ?done ?stop)
 case hC =>
  rintro k hk hS
  rcases hk with rfl | rfl | ⟨hne,b,off,e,rfl⟩
  ·rcases hS with h | h
   ·have:=hS2 _ h;omega
   ·omega
  ·rcases hS with h | h
   ·have:=hS2 _ h;omega
   ·omega
  ·obtain ⟨h1,h2,h3⟩:=HrA.out k off _ _ (by rw [e]) hne
   rcases hS with h | h
   ·exact h3 (((KI.of_below (s:=0) (S:=S) HW2.out).det HDt.out hm k).1 h)
   ·exact h2 h
 case hI =>
  rintro pre A1 B1 h1 hA hk
  exact h1.ki HJ.out HDt.out hm (s:=W2.heap.size) (by omega) hk
 case hIx =>
  rintro q pre A1 B1 ⟨h1,⟨pre',h2⟩,h5,h6⟩ hA hk
  have hsz:=hk.size
  exact ⟨h1,⟨pre',HJx.out pre' A1 B1 h2 h6 (hk.ofWithL (by omega))⟩,by omega,by omega⟩
 case start=>exact HA2.out
 case hAx =>
  rintro l1 y a' A1 o rr hl hiff ⟨Bx,h0,h1,h2,h3,h4⟩
  exact ⟨Bx,h0,h1,(World.putObj_heap_other (fun e=>by rw [e,hl] at h2;cases h2)).trans h2,fun h=>h3 ((hiff Bx).1 h),h4⟩
 case assign =>
  rintro l1 pre ⟨⟨sf,sl,st⟩,hy⟩ A1 K' hi hsz hK'
  have HK':=hide hK'
  have HI':=hide hi
  clear hK' hi hsq
  gi_wp2
  have hbn:=below_new A1 (Obj.cells #[Value.int .i64 sf,.int .i64 sl,.int .i64 st] 88)
  have hin:=HI'.out.in_ HSw.out
  exact HK'.out _ _ hbn ⟨A1.heap.size,by omega,by omega,one_new A1 _,fun h=>by
   rcases h with h | h
   ·have:=hin _ (((KI.of_below (s:=0) (S:=S) hbn).det HDt.out (by have:=HI'.out.ko.size;omega) _).1 h)
    omega
   ·omega,rfl⟩
 case body =>
  rintro l1 pre ⟨⟨sf,sl,st⟩,hsg⟩ a' A1 hl1 hlr hnl1 hsz h1 ⟨Bx,hBx0,hBxl,hbx,hnBx,rfl⟩ hlen
  obtain ⟨sn,hsn⟩:=Int.eq_ofNat_of_zero_le hsg.2.2.2.2.1
  dsimp only at hbx hsn
  subst hsn
  have hsm:=hsg.1
  have hgs:=hsg.2
  have hbA1:=h1.ko.keep bB _ HWB.out HnB.out.1 HnB.out.2
  have hpA1:=h1.ko.keep bP _ HWP.out HnP.out.1 HnP.out.2
  have b0:=cell_of_row _ _ 0 _ _ _ hbA1
  have b1:=cell_of_row _ _ 1 _ _ _ hbA1
  have b2:=cell_of_row _ _ 2 _ _ _ hbA1
  have b3:=cell_of_row _ _ 3 _ _ _ hbA1
  have b4:=cell_of_row _ _ 4 _ _ _ hbA1
  have p1:=cell_of_row _ _ 1 _ _ _ hpA1
  generalize hQ2:postE (withL S l) _ _ (pre ++ [_]) A1=Q2
  have HQn:=hide (show ∀ (a:Act) (W':World),KE (withL S l) A1 W'→PI l S J (·.1) W (rowsQ A B x (pre.map (·.1)) ++ rowQ A B x (⟨sf,sl,(sn:Nat)⟩:Stp) (B.steps.filter fun t=>decide (t.f=(x.2.1:Int)))) (pre.length * B.steps.length+B.steps.length) W'→Q2 .normal a W' by
   intro a W' k1 k2
   rw [← hQ2]
   refine ⟨k1,?_⟩
   show PI l S J (·.1) W (rowsQ A B x ((pre ++ [(⟨(⟨sf,sl,(sn:Nat)⟩:Stp),hsg⟩:{ s:Stp // s ∈ A.steps∧GS (x.1:Int) NA s })]).map (·.1))) ((pre ++ [(⟨(⟨sf,sl,(sn:Nat)⟩:Stp),hsg⟩:{ s:Stp // s ∈ A.steps∧GS (x.1:Int) NA s })]).length * B.steps.length) W'
   rw [List.map_append,List.length_append,List.length_singleton,Nat.add_mul,Nat.one_mul]
   show PI l S J (·.1) W (rowsQ A B x (pre.map (·.1) ++ [(⟨sf,sl,(sn:Nat)⟩:Stp)])) _ W'
   rw [rowsQ_snoc]
   exact k2)
  have HQr:=hide (show ∀ (a:Act) (W':World),KE (withL S l) A1 W'→(∃ pre',Jx pre' W')→Q2 .ret a W' by
   intro a W' k1 k2
   rw [← hQ2]
   have:=k1.size
   have:=h1.ko.size
   exact ⟨k1,rfl,k2,by omega,by omega⟩)
  have HI:=hide h1
  have HBx:=hide hbx
  have hWA:=h1.ko.size
  have hin:=h1.in_ HSw.out
  have Hin:=hide hin
  have HSB1:=hide (HSB.out.ko h1.ko (fun b off k c e hne=>(HrB.out b off k c e hne).2))
  clear hQ2 h1 hbx hbA1 hpA1 hsq hin
  gi_wp2_with (fail)
  refine ⟨trivial,(CallsIn.inRound l1 (callsIn_wide.2 (from_any _ _ _ _ _ _ _))).mono ?_⟩
  rintro e A2 ⟨rfl,hA2⟩
  have hbb1:=below_new A1 (Obj.cells #[Value.int .i64 nB,.int .i64 mB,fB,gB,.slice aB B.steps.length cB] 26)
  have hbb2:=below_new (A1.alloc (Obj.cells #[Value.int .i64 nB,.int .i64 mB,fB,gB,.slice aB B.steps.length cB] 26)) (Obj.cells #[Value.int .i64 (x.2.1:Nat)] 3)
  have hq1:=belowRow hbb2 (one_new A1 (Obj.cells #[Value.int .i64 nB,.int .i64 mB,fB,gB,.slice aB B.steps.length cB] 26))
  have hq2:=one_new (A1.alloc (Obj.cells #[Value.int .i64 nB,.int .i64 mB,fB,gB,.slice aB B.steps.length cB] 26)) (Obj.cells #[Value.int .i64 (x.2.1:Nat)] 3)
  rw [show (A1.alloc (Obj.cells #[Value.int .i64 nB,.int .i64 mB,fB,gB,.slice aB B.steps.length cB] 26)).heap.size=A1.heap.size+1 by simp] at hq2
  have hb12:=below_trans hbb1 hbb2
  rw [← hA2] at hq1 hq2 hb12
  have HI2:=hide (HI.out.below HJ.out HDt.out hm hb12)
  have hiff2:∀ k,S A2 k ↔ S A1 k:=(KI.of_below (s:=0) (S:=S) hb12).det HDt.out (by omega)
  have hS3:∀ k,S A2 k→k < A1.heap.size:=fun k hk=>Hin.out k ((hiff2 k).1 hk)
  have hz3:A1.heap.size+1 < A2.heap.size:=(Array.getElem?_eq_some_iff.1 hq2).1
  have HB2:=hide hb12
  have HBx2:=hide (belowRow hb12 HBx.out)
  have hnBx2:¬ withL S l A2 Bx:=fun h=>hnBx (h.imp (hiff2 Bx).1 id)
  have hBxA:Bx < A1.heap.size:=(Array.getElem?_eq_some_iff.1 HBx.out).1
  have hlr2:∃ r,A2.heap[l1]?=some (.loop r):=by
   obtain ⟨r,hr⟩:=hlr
   exact ⟨r,belowRow hb12 hr⟩
  have hsq:=fromSeqO (19 - 1 - 1 - 1) A1.heap.size (A1.heap.size+1) NB (x.2.1:Int) A2 (cell_of_row _ _ 4 _ _ _ hq1) (cell_of_row _ _ 0 _ _ _ hq2) (HSB1.out.below hb12) (by have:=HSm.out.2.1;omega) HSm.out.2.2.2.1 (fun s hs hf=>by have:=HSm.out.2.2.2.2.2 s hs;exact ⟨hf,by omega,by omega,by omega,by omega⟩)
  have HW3:=hide (show KE (withL S l) A1 A2 from KE.of_below (det_withL HDt.out) (by omega) hb12)
  have hA1A2:=hb12.size
  clear b0 b1 b2 b3 b4 p1 hA2 hbb1 hbb2 hq1 hq2 hb12 HI HBx hlr
  gi_wp2_with (fail)
  refine range_own_in (n:=19 - 1 - 1) (w0:=A2) hlr2 (gf:=150) (lb:=#[.pointer (some ⟨A1.heap.size,0,none⟩),.pointer (some ⟨A1.heap.size+1,0,none⟩)]) rfl (enters_of Tryz.func150 (by kernel_rfl) rfl) hsq (withL S l) m (det_withL HDt.out) (by omega) ?hC2 (fun k h=>by rcases h with h | h;have:=hS3 k h;omega;omega) (Below.refl _ _) (fun _=>rfl)
   (fun pre2 A3=>PI l S J (·.1) W (rowsQ A B x (pre.map (·.1)) ++ rowQ A B x (⟨sf,sl,(sn:Nat)⟩:Stp) (pre2.map (·.1))) (pre.length * B.steps.length+pre2.length) A3∧A3.heap[Bx]?=some (.cells #[.int .i64 sf,.int .i64 sl,.int .i64 (sn:Nat)] 88)∧¬ withL S l A3 Bx∧KE (withL S l) A1 A3)
   (fun q pre2 A3=>q=.ret∧(∃ pre',Jx pre' A3)∧KE (withL S l) A1 A3) ?hI2 ?hIx2 ?start2
   (fun y a' A3=>∃ By,A3.heap[By]?=some (.cells #[.int .i64 y.1.f,.int .i64 y.1.l,.int .i64 y.1.t] 88)∧a'={ tmps:=#[.func (.yield l) #[] #[],.pointer (some ⟨bA,0,none⟩),.pointer (some ⟨bP,0,none⟩),.pointer (some ⟨bB,0,none⟩),.pointer (some ⟨bW,0,none⟩),.pointer (some ⟨W.heap.size,0,none⟩),.pointer (some ⟨Bx,0,none⟩),.pointer (some ⟨By,0,none⟩),.agg #[.int .i64 nA,.int .i64 mA,fA,gA,.slice aA A.steps.length cA],.pointer (some ⟨bP,0,none⟩),.int .i64 (x.1:Nat),.func (.func 150) #[] #[.pointer (some ⟨W.heap.size+1,0,none⟩),.pointer (some ⟨W.heap.size+1+1,0,none⟩)],.agg #[.int .i64 sf,.int .i64 sl,.int .i64 (sn:Nat)],.agg #[.int .i64 nB,.int .i64 mB,fB,gB,.slice aB B.steps.length cB],.pointer (some ⟨bP,1,none⟩),.int .i64 (x.2.1:Nat),.func (.func 150) #[] #[.pointer (some ⟨A1.heap.size,0,none⟩),.pointer (some ⟨A1.heap.size+1,0,none⟩)],.agg #[.int .i64 y.1.f,.int .i64 y.1.l,.int .i64 y.1.t],undef,undef,undef,undef,undef,undef,undef,undef,undef,undef,undef,undef,undef,undef,undef,undef,undef,undef],defers:=[] }) ?hAx2 ?assign2 ?body2 ?done2 ?stop2
  case hC2 =>
   rintro k hk hS
   rcases hk with rfl | rfl | ⟨hne,b,off,e,rfl⟩
   ·rcases hS with h | h
    ·have:=hS3 _ h;omega
    ·omega
   ·rcases hS with h | h
    ·have:=hS3 _ h;omega
    ·omega
   ·obtain ⟨g1,g2,g3⟩:=HrB.out k off _ _ (by rw [e]) hne
    rcases hS with h | h
    ·rcases HI2.out.ko.own k h with h4 | h4
     ·exact g3 h4
     ·omega
    ·exact g2 h
  case hI2 =>
   rintro pre2 A3 B3 ⟨g1,g2,g3,g4⟩ hA hk
   have hd:=hk.det (det_withL HDt.out) (by omega)
   exact ⟨g1.ki HJ.out HDt.out hm (s:=A2.heap.size) (by omega) hk,hk.keep _ _ g2 (Or.inl (by omega)),fun h=>g3 ((hd _).1 h),g4.thenKI (det_withL HDt.out) (by omega) (by omega) hk⟩
  case hIx2 =>
   rintro q pre2 A3 B3 ⟨g1,⟨pre',g2⟩,g3⟩ hA hk
   exact ⟨g1,⟨pre',HJx.out pre' A3 B3 g2 (by omega) (hk.ofWithL (by omega))⟩,g3.thenKI (det_withL HDt.out) (by omega) (by omega) hk⟩
  case start2 =>
   refine ⟨?_,HBx2.out,hnBx2,HW3.out⟩
   have:=HI2.out
   simpa [rowQ] using this
  case hAx2 =>
   rintro l2 y a' A3 o rr hl hiff ⟨By,g1,g2⟩
   exact ⟨By,(World.putObj_heap_other (fun e=>by rw [e,hl] at g1;cases g1)).trans g1,g2⟩
  case assign2 =>
   rintro l2 pre2 ⟨⟨tf,tl,tt⟩,hy⟩ A3 K' hi hsz2 hK'
   have HK':=hide hK'
   clear hK' hi hsq
   gi_wp2
   exact HK'.out _ _ (below_new _ _) ⟨A3.heap.size,one_new A3 _,rfl⟩
  case body2 =>
   rintro l2 pre2 ⟨⟨tf,tl,tt⟩,htg⟩ a' A3 hl2 hlr3 hnl2 hsz3 ⟨g1,g2,g3,g4⟩ ⟨By,hby,rfl⟩ hlen2
   obtain ⟨tn,htn⟩:=Int.eq_ofNat_of_zero_le htg.2.2.2.2.1
   dsimp only at hby htn
   subst htn
   have x1:=cell_of_row _ _ 1 _ _ _ g2
   have x2:=cell_of_row _ _ 2 _ _ _ g2
   have y1:=cell_of_row _ _ 1 _ _ _ hby
   have y2:=cell_of_row _ _ 2 _ _ _ hby
   have z0:=cell_of_row _ _ 0 _ _ _ g1.by_
   have hw3:=g1.ko.keep bW _ HWW.out HnW.out.1 HnW.out.2
   have w0':=cell_of_row _ _ 0 _ _ _ hw3
   generalize hQ3:postE (withL S l) _ _ (pre2 ++ [_]) A3=Q3
   have HQn3:=hide (show ∀ (a:Act) (W':World),KE (withL S l) A3 W'→PI l S J (·.1) W (rowsQ A B x (pre.map (·.1)) ++ rowQ A B x (⟨sf,sl,(sn:Nat)⟩:Stp) (pre2.map (·.1) ++ [(⟨tf,tl,(tn:Nat)⟩:Stp)])) (pre.length * B.steps.length+pre2.length+1) W'→W'.heap[Bx]?=some (.cells #[.int .i64 sf,.int .i64 sl,.int .i64 (sn:Nat)] 88)→¬ withL S l W' Bx→Q3 .normal a W' by
    intro a W' k1 k2 k3 k4
    rw [← hQ3]
    refine ⟨k1,?_,k3,k4,g4.trans k1⟩
    show PI l S J (·.1) W (rowsQ A B x (pre.map (·.1)) ++ rowQ A B x (⟨sf,sl,(sn:Nat)⟩:Stp) ((pre2 ++ [(⟨(⟨tf,tl,(tn:Nat)⟩:Stp),htg⟩:{ s:Stp // s ∈ B.steps∧GS (x.2.1:Int) NB s })]).map (·.1))) (pre.length * B.steps.length+(pre2 ++ [(⟨(⟨tf,tl,(tn:Nat)⟩:Stp),htg⟩:{ s:Stp // s ∈ B.steps∧GS (x.2.1:Int) NB s })]).length) W'
    rw [List.map_append,List.length_append,List.length_singleton,← Nat.add_assoc]
    exact k2)
   have HQr3:=hide (show ∀ (a:Act) (W':World),KE (withL S l) A3 W'→(∃ pre',Jx pre' W')→Q3 .ret a W' by
    intro a W' k1 k2
    rw [← hQ3]
    exact ⟨k1,rfl,k2,g4.trans k1⟩)
   have HI3:=hide (And.intro g1 (And.intro g2 g3))
   have hWA3:=g1.ko.size
   clear hQ3 g1 g2 g3 g4 hby hw3 hsq
   by_cases hlet:sl=tl
   ·have hmem:((sl,(sn,tn,pWait A B x)):Int × Pair) ∈ pAfter A B x:=pAfter_mem.2 ⟨(⟨sf,sl,(sn:Nat)⟩:Stp),hsm,(⟨tf,tl,(tn:Nat)⟩:Stp),htg.1,hgs.1,htg.2.1,rfl,hlet.symm,by simp⟩
    obtain ⟨pre',q1,q2,q3⟩:=HI3.out.1.has
    have hltN:pre'.length < N:=by
     have h5:(pre.length+1) * B.steps.length≤A.steps.length * B.steps.length:=Nat.mul_le_mul_right _ hlen
     rw [Nat.add_mul,Nat.one_mul] at h5
     omega
    obtain ⟨fn,tmps,assign,body,hy,hR⟩:=HY.out pre' ⟨(sl,(sn,tn,pWait A B x)),hmem⟩ A3 q3 hltN (by omega)
    dsimp only at hy
    have e0:prV (sn,tn,pWait A B x)=.agg #[.int .i64 (sn:Nat),.int .i64 (tn:Nat),.bool (pWait A B x)]:=rfl
    rw [e0] at hy
    have HR:=hide hR
    have Hq:=hide q1
    have hbe:(sl == tl)=true:=by simp [hlet]
    have Hlet:=hide hlet
    clear hR q1 q3 e0 hlet
    gi_wp2_with (fail)
    have HR2:RoundIn (Fence.wide.inRound l2) 14 Tryz.prog l fn tmps assign body A3 _:=round_wide HR.out
    refine HR2.mono ?_
    rintro e A4 (⟨rfl,hJ4,hko4⟩ | ⟨rfl,hJx4,hko4⟩)
    ·have hnS3:¬ S A3 Bx:=fun h=>HI3.out.2.2 (Or.inl h)
     have HK4:=hide hko4.withL
     have HP4:=hide (show PI l S J (·.1) W (rowsQ A B x (pre.map (·.1)) ++ rowQ A B x (⟨sf,sl,(sn:Nat)⟩:Stp) (pre2.map (·.1) ++ [(⟨tf,tl,(tn:Nat)⟩:Stp)])) (pre.length * B.steps.length+pre2.length+1) A4 from by
      rw [rowQ_yes Hlet.out,← List.append_assoc]
      refine ⟨⟨pre' ++ [⟨(sl,(sn,tn,pWait A B x)),hmem⟩],?_,by rw [List.length_append,List.length_singleton];omega,hJ4⟩,HI3.out.1.ko.trans hko4,hko4.keep _ _ HI3.out.1.by_ (by omega) HI3.out.1.not,hko4.not_own (Array.getElem?_eq_some_iff.1 HI3.out.1.by_).1 HI3.out.1.not⟩
      rw [List.map_append,Hq.out]
      simp)
     have HB4:=hide (hko4.keep _ _ HI3.out.2.1 hBxl hnS3)
     have hnB4:¬ withL S l A4 Bx:=fun h=>by
      rcases h with h | h
      ·exact hko4.not_own (Array.getElem?_eq_some_iff.1 HI3.out.2.1).1 hnS3 h
      ·exact hBxl h
     clear hJ4 hko4 hy
     gi_wp2
     exact HQn3.out _ _ HK4.out HP4.out HB4.out hnB4
    ·have HK4:=hide hko4.withL
     have HJ4:=hide hJx4
     clear hJx4 hko4 hy
     gi_wp2
     exact HQr3.out _ _ HK4.out ⟨_,HJ4.out⟩
   ·have hbe:(sl == tl)=false:=by simp [hlet]
    gi_wp2
    repeat (refine ⟨fun _ h=>(by cases h),?_⟩;gi_wp2)
    refine HQn3.out _ _ (KE.refl _ _) ?_ HI3.out.2.1 HI3.out.2.2
    rw [rowQ_no hlet]
    obtain ⟨pre',q1,q2,q3⟩:=HI3.out.1.has
    exact ⟨⟨pre',q1,by omega,q3⟩,HI3.out.1.ko,HI3.out.1.by_,HI3.out.1.not⟩
  case done2 =>
   rintro zs A3 hzs ⟨g1,g2,g3,g4⟩
   rw [hzs] at g1
   have HG:=hide (And.intro g1 g4)
   have hzl:zs.length≤B.steps.length:=by
    have:=congrArg List.length hzs
    rw [List.length_map] at this
    rw [this]
    exact List.length_filter_le _ _
   clear g1 g2 g3 g4 hzs hsq
   gi_wp2
   obtain ⟨g1,g4⟩:=HG.out
   refine HQn.out _ _ g4 ?_
   obtain ⟨pre',q1,q2,q3⟩:=g1.has
   exact ⟨⟨pre',q1,by omega,q3⟩,g1.ko,g1.by_,g1.not⟩
  case stop2 =>
   rintro q pre2 A3 ⟨rfl,g2,g3⟩
   have HG:=hide (And.intro g2 g3)
   clear g2 g3 hsq
   gi_wp2
   exact HQr.out _ _ HG.out.2 HG.out.1
 case done =>
  rintro D zs A1 hD hzs h1 hdef hnS
  have HH:=hide (And.intro h1 (And.intro hdef hzs))
  have HnS:=hide hnS
  clear h1 hdef hzs hnS hsq
  go_wp2
  have hmk:Marks A1 (W.heap.size+1) [D]:=⟨by simp,fun E hE=>by
   rw [List.mem_singleton] at hE
   subst hE
   exact ⟨by omega,HH.out.2.1⟩⟩
  refine leaves_marksX (W.heap.size+1) [D] _ hmk ?_
  intro W' hSh
  obtain ⟨pre,g1,g2,g3⟩:=HH.out.1.has
  refine ⟨_,results_none rfl _ _ _,⟨_,rfl⟩,.inl ⟨pre,?_,HJ.out pre _ _ g3 HH.out.1.ko.size (hSh.ki (fun E hE=>?_))⟩⟩
  ·rw [g1,HH.out.2.2];rfl
  ·rw [List.mem_singleton] at hE
   subst hE
   exact ⟨by omega,fun h=>HnS.out (Or.inl h)⟩
 case stop =>
  rintro D q pre A1 hD ⟨rfl,⟨pre',h2⟩,h5,h6⟩ hdef hnS
  have HH:=hide (And.intro h2 (And.intro hdef h6))
  have HnS:=hide hnS
  clear h2 hdef hnS hsq
  refine wpIn_wide.2 ?_
  go_wp2
  have hmk:Marks A1 (W.heap.size+1) [D]:=⟨by simp,fun E hE=>by
   rw [List.mem_singleton] at hE
   subst hE
   exact ⟨by omega,HH.out.2.1⟩⟩
  refine leaves_marksX (W.heap.size+1) [D] _ hmk ?_
  intro W' hSh
  refine ⟨_,results_none rfl _ _ _,⟨_,rfl⟩,.inr ⟨pre',HJx.out pre' _ _ HH.out.1 HH.out.2.2 (hSh.ki (fun E hE=>?_))⟩⟩
  rw [List.mem_singleton] at hE
  subst hE
  exact ⟨by omega,fun h=>HnS.out (Or.inl h)⟩
end Go.Proofs.YtpiacnnifdjlkabGreatDoor
