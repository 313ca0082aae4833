import Derived.Test.YtpiacnnifdjlkabGreatDoorCx
import Derived.Deep.DeepFit
set_option maxRecDepth 100000
set_option maxHeartbeats 8000000
namespace Go.Proofs.YtpiacnnifdjlkabGreatDoor
open Go.RowKit Go.Sort
structure KR (base:Nat) (r:Option Nat) (w0 w:World):Prop where
 below:Below base w0 w
 size:w0.heap.size≤w.heap.size
 keep:∀ b,b < w0.heap.size→some b ≠ r→w.heap[b]?=w0.heap[b]?
theorem KR.refl (base:Nat) (r:Option Nat) (w:World):KR base r w w:=⟨Below.refl _ _,Nat.le_refl _,fun _ _ _=>rfl⟩
theorem KR.grown {base:Nat}{r:Option Nat}{w0 w w':World} (h:KR base r w0 w) (hg:w.grownBy w' r) (hb:base≤w0.heap.size) (hr:∀ k,r=some k→base≤k):KR base r w0 w':=
 ⟨h.below.grown hg (Nat.le_trans hb h.size) hr,Nat.le_trans h.size hg.size,fun b h1 h2=>(hg.block b (Nat.lt_of_lt_of_le h1 h.size) h2).trans (h.keep b h1 h2)⟩
theorem KR.block {base:Nat}{r:Option Nat}{w0 w:World} (h:KR base r w0 w) {b:Nat}{o:Obj} (hc:w0.heap[b]?=some o) (hne:some b ≠ r):w.heap[b]?=some o:=
 (h.keep b (Array.getElem?_eq_some_iff.1 hc).1 hne).trans hc
theorem el_new (cs:Array Value) (t:TypeId):∀ (w:World) j u,cs.toList[j]?=some u→(w.alloc (.cells cs t)).cell? ⟨w.heap.size,j,none⟩=some u:=fun w j u hu=>by
 rw [cell_of_row _ _ j _ _ _ (one_new w (.cells cs t))]
 simpa using hu
section
variable {ops:Array Oper}{Q:Exit→Act→World→Prop}{R:Nat→Value→World→Prop}{a0:Act}{i:Nat}{o:Oper}
end
section
variable {ops:Array Oper}{Q:Exit→Act→World→Prop}{a0:Act}
theorem sizeInts:∀ w,(sizeOf 22).run Tryz.prog w=.ok 1 w:=by intro w;simp [go_sem]
theorem sizeBools:∀ w,(sizeOf 23).run Tryz.prog w=.ok 1 w:=by intro w;simp [go_sem]
theorem sizeSteps:∀ w,(sizeOf 24).run Tryz.prog w=.ok 1 w:=by intro w;simp [go_sem]
end
def stepCells (ss:List Stp):List Value:=ss.flatMap fun s=>[.int .i64 s.f,.int .i64 s.l,.int .i64 s.t]
theorem stepCells_len (ss:List Stp):(stepCells ss).length=ss.length * 3:=by
 induction ss with
 | nil=>rfl
 | cons s ss ih=>simp [stepCells] at ih ⊢;omega
theorem stepCells_snoc (ss:List Stp) (s:Stp):stepCells (ss ++ [s])=stepCells ss ++ [.int .i64 s.f,.int .i64 s.l,.int .i64 s.t]:=by simp [stepCells]
theorem stepCells_get (ss:List Stp):∀ i,i < ss.length→(stepCells ss)[i * 3]?=some (.int .i64 (ss.getD i stp0).f)∧(stepCells ss)[i * 3+1]?=some (.int .i64 (ss.getD i stp0).l)∧(stepCells ss)[i * 3+2]?=some (.int .i64 (ss.getD i stp0).t):=by
 induction ss with
 | nil=>intro i hi;simp at hi
 | cons s ss ih =>
  intro i hi
  have e:stepCells (s :: ss)=.int .i64 s.f :: .int .i64 s.l :: .int .i64 s.t :: stepCells ss:=by simp [stepCells]
  rw [e]
  cases i with
  | zero=>simp
  | succ i =>
   have:=ih i (by simpa using hi)
   rw [show (i+1) * 3=i * 3+1+1+1 by omega]
   simpa using this
theorem boolSl_of_owns {w:World}{base:Nat}{v:Value}{zs:List Bool}{n:Nat} (h:w.ownsRow base 4 1 v n (zs.map .bool)):BoolSl w v zs:=by
 obtain ⟨hl,h⟩:=h
 have hn:zs.length=n:=by simpa using hl
 rcases h with ⟨rfl,h0⟩ | ⟨g,cap,cur,rfl,hb,hg,h1,h2,hs,ht⟩
 ·obtain rfl:zs=[]:=List.eq_nil_of_length_eq_zero (by omega)
  exact boolSl_nil w
 ·subst hn
  refine ⟨_,cap,rfl,by omega,Or.inr ⟨g,0,rfl,fun i hi=>?_⟩,(fun e=>by cases e),h1⟩
  have hc:=cell_of_row w g (0+i) _ _ _ hg
  rw [hc,Nat.zero_add]
  have:cur.toList[i]?=some (.bool (zs.getD i false)):=by
   have h3:(cur.toList.take (zs.length * 1))[i]?=some (.bool (zs.getD i false)):=by rw [ht];simp [List.getD,hi]
   rw [List.getElem?_take] at h3
   split at h3
   ·exact h3
   ·cases h3
  simpa using this
theorem stepSl_of_owns {w:World}{base:Nat}{v:Value}{zs:List Stp}{n:Nat} (h:w.ownsRow base 88 3 v n (stepCells zs)):StepSl w v zs:=by
 obtain ⟨hl,h⟩:=h
 have hn:zs.length=n:=by rw [stepCells_len] at hl;omega
 rcases h with ⟨rfl,h0⟩ | ⟨g,cap,cur,rfl,hb,hg,h1,h2,hs,ht⟩
 ·obtain rfl:zs=[]:=List.eq_nil_of_length_eq_zero (by omega)
  exact stepSl_nil w
 ·subst hn
  have hc:∀ k u,(stepCells zs)[k]?=some u→w.cell? ⟨g,0+k,none⟩=some u:=fun k u hu=>by
   rw [cell_of_row w g (0+k) _ _ _ hg,Nat.zero_add]
   rw [← ht,List.getElem?_take] at hu
   split at hu
   ·simpa using hu
   ·cases hu
  refine ⟨_,cap,rfl,by omega,Or.inr ⟨g,0,rfl,fun i hi=>?_⟩,(fun e=>by cases e),h1⟩
  obtain ⟨k1,k2,k3⟩:=stepCells_get zs i hi
  exact ⟨hc _ _ k1,hc _ _ k2,hc _ _ k3⟩
structure RA (w:World) (base pb:Nat) (fv gv sv:Value) (A:Aut):Prop where
 box:w.heap[pb]?=some (.cells #[.int .i64 A.n,.int .i64 A.m,fv,gv,sv] 26)
 f:w.ownsRow base 3 1 fv A.first.length (A.first.map (.int .i64))
 g:w.ownsRow base 4 1 gv A.good.length (A.good.map .bool)
 s:w.ownsRow base 88 3 sv A.steps.length (stepCells A.steps)
 hb:base≤pb
theorem row_apart {w:World}{base e sz n pb:Nat}{v:Value}{xs:List Value}{c:Array Value}{t:TypeId} (h:w.ownsRow base e sz v n xs) (hp:w.heap[pb]?=some (.cells c t)) (hne:e ≠ t):∀ r,v.ownBlock=some r→r ≠ pb:=by
 intro r hr e1
 obtain ⟨c',fz,hc⟩:=owns_cells h r hr
 rw [e1,hp] at hc
 injection hc with hc
 injection hc with _ h2
 exact hne h2.symm
theorem box_set {w:World}{pb:Nat}{c:Array Value}{t:TypeId} (h:w.heap[pb]?=some (.cells c t)) (k:Nat) (v:Value):(w.setCell ⟨pb,k,none⟩ v).heap[pb]?=some (.cells (c.setIfInBounds k v) t):=by
 rw [setCell_eq_setRow w pb k c t _ v h]
 exact setRow_heap w pb c _ t _ h
theorem owns_set {w:World}{base e sz n pb:Nat}{v:Value}{xs:List Value}{c:Array Value}{t:TypeId} (h:w.ownsRow base e sz v n xs) (hp:w.heap[pb]?=some (.cells c t)) (hne:e ≠ t) (k:Nat) (u:Value):(w.setCell ⟨pb,k,none⟩ u).ownsRow base e sz v n xs:=
 owns_kept h fun r hr=>heap_setCell_other w _ _ r (row_apart h hp hne r hr)
theorem below_set {base:Nat}{w w':World} (h:Below base w w') {pb:Nat} (hb:base≤pb) (k:Nat) (u:Value):Below base w (w'.setCell ⟨pb,k,none⟩ u):=h.setCell hb u
theorem RA.below {w w':World}{base pb:Nat}{fv gv sv:Value}{A:Aut} (h:RA w base pb fv gv sv A) (hb:Below w.heap.size w w'):RA w' base pb fv gv sv A:=
 ⟨(hb.block pb (Array.getElem?_eq_some_iff.1 h.box).1).trans h.box,owns_below h.f hb,owns_below h.g hb,owns_below h.s hb,h.hb⟩
theorem RA.hb0 {w:World}{base pb:Nat}{fv gv sv:Value}{A:Aut} (h:RA w base pb fv gv sv A):base≤w.heap.size:=Nat.le_trans h.hb (Nat.le_of_lt (Array.getElem?_eq_some_iff.1 h.box).1)
theorem rows_far {w:World}{base base' e e' sz sz' n n':Nat}{v v':Value}{xs xs':List Value} (h:w.ownsRow base e sz v n xs) (h':w.ownsRow base' e' sz' v' n' xs') (hne:e ≠ e'):∀ r,v.ownBlock=some r→some r ≠ v'.ownBlock:=fun _ hr e=>rows_apart h h' hne hr e.symm
theorem KR.owns {base:Nat}{r:Option Nat}{w0 w:World} (h:KR base r w0 w) {base' e sz n:Nat}{v:Value}{xs:List Value} (ho:w0.ownsRow base' e sz v n xs) (hne:∀ k,v.ownBlock=some k→some k ≠ r):w.ownsRow base' e sz v n xs:=
 owns_kept ho fun k hk=>h.keep k (ho.lt k hk).2 (hne k hk)
theorem RA.apart {w:World}{base pb:Nat}{fv gv sv:Value}{A:Aut} (h:RA w base pb fv gv sv A):some pb ≠ fv.ownBlock∧some pb ≠ gv.ownBlock∧some pb ≠ sv.ownBlock:=
 ⟨fun e=>row_apart h.f h.box (by decide) pb e.symm rfl,fun e=>row_apart h.g h.box (by decide) pb e.symm rfl,fun e=>row_apart h.s h.box (by decide) pb e.symm rfl⟩
theorem RA.appFirst {w W:World}{base pb:Nat}{fv gv sv v':Value}{A:Aut}{z:Int} (h:RA w base pb fv gv sv A) (hk:KR base fv.ownBlock w W) (hn:W.ownsRow base 3 1 v' (A.first.length+1) (A.first.map (.int .i64) ++ [.int .i64 z])):RA (W.setCell ⟨pb,2,none⟩ v') base pb v' gv sv { A with first:=A.first ++ [z] }:=by
 have hb:=hk.block h.box h.apart.1
 refine ⟨box_set hb 2 v',?_,owns_set (hk.owns h.g (rows_far h.g h.f (by decide))) hb (by decide) _ _,owns_set (hk.owns h.s (rows_far h.s h.f (by decide))) hb (by decide) _ _,h.hb⟩
 have:=owns_set hn hb (by decide) 2 v'
 simpa using this
theorem RA.appGood {w W:World}{base pb:Nat}{fv gv sv v':Value}{A:Aut}{z:Bool} (h:RA w base pb fv gv sv A) (hk:KR base gv.ownBlock w W) (hn:W.ownsRow base 4 1 v' (A.good.length+1) (A.good.map .bool ++ [.bool z])):RA (W.setCell ⟨pb,3,none⟩ v') base pb fv v' sv { A with good:=A.good ++ [z] }:=by
 have hb:=hk.block h.box h.apart.2.1
 refine ⟨box_set hb 3 v',owns_set (hk.owns h.f (rows_far h.f h.g (by decide))) hb (by decide) _ _,?_,owns_set (hk.owns h.s (rows_far h.s h.g (by decide))) hb (by decide) _ _,h.hb⟩
 have:=owns_set hn hb (by decide) 3 v'
 simpa using this
theorem RA.appStep {w W:World}{base pb:Nat}{fv gv sv v':Value}{A:Aut}{z:Stp} (h:RA w base pb fv gv sv A) (hk:KR base sv.ownBlock w W) (hn:W.ownsRow base 88 3 v' (A.steps.length+1) (stepCells A.steps ++ [.int .i64 z.f,.int .i64 z.l,.int .i64 z.t])):RA (W.setCell ⟨pb,4,none⟩ v') base pb fv gv v' { A with steps:=A.steps ++ [z] }:=by
 have hb:=hk.block h.box h.apart.2.2
 refine ⟨box_set hb 4 v',owns_set (hk.owns h.f (rows_far h.f h.s (by decide))) hb (by decide) _ _,owns_set (hk.owns h.g (rows_far h.g h.s (by decide))) hb (by decide) _ _,?_,h.hb⟩
 have:=owns_set hn hb (by decide) 4 v'
 simpa [stepCells_snoc] using this
end Go.Proofs.YtpiacnnifdjlkabGreatDoor
namespace Go.Proofs.YtpiacnnifdjlkabGreatDoor
open Go.RowKit
theorem retB {a b:Bool} (h:a=b):Ending.returned (.bool a)=.returned (.bool b):=by rw [h]
theorem aLab_any {w:World}{pb:Nat}{p:Int} (x:Int) (h0:0≤p) (h3:p≤3) (hc:w.cell? ⟨pb,0,none⟩=some (.int .i64 p)) :
  Calls Tryz.prog 126 #[.int .i64 x,.pointer (some ⟨pb,0,none⟩)] w fun e w'=>e=.returned (.bool (notLab p x))∧w'=w:=by
 have hp:p=0 ∨ p=1 ∨ p=2 ∨ p=3:=by omega
 by_cases hx:x < 0
 ·have e:notLab p x=true:=by simp [notLab,hx]
  rw [e]
  clear hp e
  go_enter Tryz.func126,Tryz.ntmps126
  go_wp2
  go_ret
  exact ⟨rfl,rfl⟩
 ·have hx0:0≤x:=by omega
  rcases hp with rfl | rfl | rfl | rfl
  all_goals
   go_enter Tryz.func126,Tryz.ntmps126
   go_wp2
   go_ret
   refine ⟨retB ?_,rfl⟩
   rw [Bool.eq_iff_iff]
   simp [notLab]
   omega
theorem aSt_any {w:World}{pb:Nat}{a:Option Addr}{n c:Nat} (x:Int) (hc:w.cell? ⟨pb,1,none⟩=some (.slice a n c)) :
  Calls Tryz.prog 127 #[.int .i64 x,.pointer (some ⟨pb,0,none⟩)] w fun e w'=>e=.returned (.bool (notSt n x))∧w'=w:=by
 by_cases hx:x < 0
 ·have e:notSt n x=true:=by simp [notSt,hx]
  rw [e]
  go_enter Tryz.func127,Tryz.ntmps127
  go_wp2
  go_ret
  exact ⟨rfl,rfl⟩
 ·by_cases hn:(n:Int)≤x
  ·have e:notSt n x=true:=by simp [notSt,hn]
   rw [e]
   go_enter Tryz.func127,Tryz.ntmps127
   go_wp2
   go_ret
   exact ⟨by simp,rfl⟩
  ·have e:notSt n x=false:=by simp [notSt];omega
   have hd:x < (n:Int):=by omega
   rw [e]
   go_enter Tryz.func127,Tryz.ntmps127
   go_wp2
   go_ret
   exact ⟨by simp;try omega,rfl⟩
theorem areLabels_any {w:World}{v:Value}{M:Mdl} (hM:MdV w v M) (h0:0≤M.props) (h3:M.props≤3) :
  Calls Tryz.prog 77 #[v] w fun e w'=>e=.returned (.bool (!(M.labels.any (notLab M.props))))∧Below w.heap.size w w':=by
 obtain ⟨lv,fv,sv,rfl,h1,h2,h4⟩:=hM
 have HL:=hide h1
 obtain ⟨a1,c1,rfl,-⟩:=h1
 obtain ⟨a2,c2,rfl,-⟩:=h2
 obtain ⟨a3,c3,rfl,-⟩:=h4
 have HP:=hide (And.intro h0 h3)
 generalize hp:M.props=p at *
 clear h0 h3 hp
 generalize M.first.length=l2 at *
 generalize M.steps.length=l3 at *
 generalize M.labels.length=l1 at *
 have hN:=one_new w (Obj.cells #[Value.int .i64 p,.slice a1 l1 c1,.slice a2 l2 c2,.slice a3 l3 c3] 59)
 have hb:=below_new w (Obj.cells #[Value.int .i64 p,.slice a1 l1 c1,.slice a2 l2 c2,.slice a3 l3 c3] 59)
 have HC:Hid (Calls Tryz.prog 93 #[.slice a1 l1 c1,.func (.func 126) #[] #[.pointer (some ⟨w.heap.size,0,none⟩)]] (w.alloc (Obj.cells #[Value.int .i64 p,.slice a1 l1 c1,.slice a2 l2 c2,.slice a3 l3 c3] 59)) fun e w'=>e=.returned (.bool (M.labels.any (notLab p)))∧Below (w.alloc (Obj.cells #[Value.int .i64 p,.slice a1 l1 c1,.slice a2 l2 c2,.slice a3 l3 c3] 59)).heap.size (w.alloc (Obj.cells #[Value.int .i64 p,.slice a1 l1 c1,.slice a2 l2 c2,.slice a3 l3 c3] 59)) w'):=hide
  (containsFunc_any 126 _ (notLab p) (HL.out.below hb) Tryz.call126 fun i _ w2 hw2 =>
   (aLab_any _ HP.out.1 HP.out.2 (cell_of_row _ _ 0 _ _ _ (belowRow hw2 hN))).mono fun e w' ⟨he,hw⟩=>⟨he,by rw [hw];exact Below.refl _ _⟩)
 have HB:=hide hb
 have hmf:∀ (fn:Fn) (first cap:Array Value) (w:World),(Instr.makeFunc fn first cap).run Tryz.prog w=.ok (.func fn first cap) w:=fun _ _ _ _=>rfl
 clear hN hb
 generalize M.labels.any (notLab p)=b at *
 go_enter Tryz.func77,Tryz.ntmps77
 go_wp2_with (fail)
 go_fit HC.out
 rintro e w1 ⟨rfl,hb1⟩
 have HB1:=hide (below_trans HB.out hb1)
 clear hb1
 go_wp2_with (fail)
 go_ret
 exact ⟨rfl,HB1.out⟩
theorem areStates_any {w:World}{v xv:Value}{M:Mdl}{xs:List Int} (hM:MdV w v M) (hx:IntSl w xv xs) :
  Calls Tryz.prog 78 #[v,xv] w fun e w'=>e=.returned (.bool (!(xs.any (notSt M.labels.length))))∧Below w.heap.size w w':=by
 obtain ⟨lv,fv,sv,rfl,h1,h2,h4⟩:=hM
 have HL:=hide hx
 obtain ⟨a1,c1,rfl,-⟩:=h1
 obtain ⟨a2,c2,rfl,-⟩:=h2
 obtain ⟨a3,c3,rfl,-⟩:=h4
 obtain ⟨a4,c4,rfl,-⟩:=hx
 generalize M.props=p at *
 generalize M.first.length=l2 at *
 generalize M.steps.length=l3 at *
 generalize M.labels.length=l1 at *
 generalize xs.length=l4 at *
 have hN:=one_new w (Obj.cells #[Value.int .i64 p,.slice a1 l1 c1,.slice a2 l2 c2,.slice a3 l3 c3] 59)
 have hb:=below_new w (Obj.cells #[Value.int .i64 p,.slice a1 l1 c1,.slice a2 l2 c2,.slice a3 l3 c3] 59)
 have HC:Hid (Calls Tryz.prog 93 #[.slice a4 l4 c4,.func (.func 127) #[] #[.pointer (some ⟨w.heap.size,0,none⟩)]] (w.alloc (Obj.cells #[Value.int .i64 p,.slice a1 l1 c1,.slice a2 l2 c2,.slice a3 l3 c3] 59)) fun e w'=>e=.returned (.bool (xs.any (notSt l1)))∧Below (w.alloc (Obj.cells #[Value.int .i64 p,.slice a1 l1 c1,.slice a2 l2 c2,.slice a3 l3 c3] 59)).heap.size (w.alloc (Obj.cells #[Value.int .i64 p,.slice a1 l1 c1,.slice a2 l2 c2,.slice a3 l3 c3] 59)) w'):=hide
  (containsFunc_any 127 _ (notSt l1) (HL.out.below hb) Tryz.call127 fun i _ w2 hw2 =>
   (aSt_any _ (cell_of_row _ _ 1 _ _ _ (belowRow hw2 hN))).mono fun e w' ⟨he,hw⟩=>⟨he,by rw [hw];exact Below.refl _ _⟩)
 have HB:=hide hb
 have hmf:∀ (fn:Fn) (first cap:Array Value) (w:World),(Instr.makeFunc fn first cap).run Tryz.prog w=.ok (.func fn first cap) w:=fun _ _ _ _=>rfl
 clear hN hb
 generalize xs.any (notSt l1)=b at *
 go_enter Tryz.func78,Tryz.ntmps78
 go_wp2_with (fail)
 go_fit HC.out
 rintro e w1 ⟨rfl,hb1⟩
 have HB1:=hide (below_trans HB.out hb1)
 clear hb1
 go_wp2_with (fail)
 go_ret
 exact ⟨rfl,HB1.out⟩
end Go.Proofs.YtpiacnnifdjlkabGreatDoor
namespace Go.Proofs.YtpiacnnifdjlkabGreatDoor
open Go.RowKit Go.Sort
theorem model_load {W:World}{b:Nat}{p:Int}{v1 v2 v3:Value} (h:W.heap[b]?=some (.cells #[.int .i64 p,v1,v2,v3] 59)):(Instr.loadAt 59 (.pointer (some ⟨b,0,none⟩))).run Tryz.prog W=.ok (.agg #[.int .i64 p,v1,v2,v3]) W:=by
 have c0:=cell_of_row _ _ 0 _ _ _ h
 have c1:=cell_of_row _ _ 1 _ _ _ h
 have c2:=cell_of_row _ _ 2 _ _ _ h
 have c3:=cell_of_row _ _ 3 _ _ _ h
 simp [go_sem,c0,c1,c2,c3]
theorem wpl_loadM {ops:Array Oper}{rest:List Oper}{o:Oper}{a:Act}{w:World}{Q:Exit→Act→World→Prop}{ty:TypeId}{x:Operand}{p v:Value} (hL:(Instr.loadAt ty p).run Tryz.prog w=.ok v w) (hgd:o.guard=none) (ho:o.op=.load ty x) (hx:a.eval x=p)
  (h:wpList Tryz.prog ops Q rest (a.put o.dst v) w):wpList Tryz.prog ops Q (o :: rest) a w:=
 wpList_plain hgd fun _ hK=>by
  unfold Oper.wp execOp
  simp only [ho,hx,Sem.run_bind,hL,Sem.run_pure,Result.andThen_ok]
  exact hK _ _ h
theorem rowsErr_drop {n:Nat}{rs:List (List Int)}{k:Nat} (hk:k < rs.length):rowsErr n (rs.drop k)=if rs.getD k []=[] then 4 else if (rs.getD k []).any (notSt n) then 5 else rowsErr n (rs.drop (k+1)):=by
 rw [List.drop_eq_getElem_cons hk]
 simp [rowsErr,List.getD,hk]
theorem mCheck_any {w:World}{v:Value}{M:Mdl} (hM:MdV w v M) :
  Calls Tryz.prog 33 #[v] w fun e w'=>e=.returned (.int .i64 (chkM M))∧Below w.heap.size w w':=by
 have HAL:Hid (0≤M.props→M.props≤3→∀ W,Below w.heap.size w W→Calls Tryz.prog 77 #[v] W fun e w'=>e=.returned (.bool (!(M.labels.any (notLab M.props))))∧Below W.heap.size W w'):=hide fun h0 h3 W hb=>areLabels_any (hM.below hb) h0 h3
 have HAS:Hid (∀ W xv xs,Below w.heap.size w W→IntSl W xv xs→Calls Tryz.prog 78 #[v,xv] W fun e w'=>e=.returned (.bool (!(xs.any (notSt M.labels.length))))∧Below W.heap.size W w'):=hide fun W xv xs hb hx=>areStates_any (hM.below hb) hx
 obtain ⟨lv,fv,sv,rfl,h1,h2,h4⟩:=hM
 have HF:=hide h2
 have HR:=hide h4
 obtain ⟨a1,c1,rfl,hm1,-⟩:=h1
 obtain ⟨a2,c2,rfl,hm2,-⟩:=h2
 obtain ⟨a3,c3,rfl,hm3,-⟩:=h4
 have HE:Hid (chkM M=if M.props < 0 ∨ 3 < M.props then 3 else if 12 < M.labels.length then 2 else if M.labels.length=0 ∨ M.steps.length ≠ M.labels.length then 1 else if M.labels.any (notLab M.props) then 3 else if M.first.any (notSt M.labels.length) then 5 else rowsErr M.labels.length M.steps):=hide rfl
 generalize chkM M=cm at *
 generalize hp:M.props=p at *
 generalize M.first.length=l2 at *
 generalize hl3:M.steps.length=l3 at *
 generalize M.labels.length=l1 at *
 have HL3:=hide hl3
 clear hp hl3
 unfold maxLen at hm1 hm2 hm3
 have hN:=one_new w (Obj.cells #[Value.int .i64 p,.slice a1 l1 c1,.slice a2 l2 c2,.slice a3 l3 c3] 59)
 have HN:=hide hN
 have HB:=hide (below_new w (Obj.cells #[Value.int .i64 p,.slice a1 l1 c1,.slice a2 l2 c2,.slice a3 l3 c3] 59))
 have HLd:=hide (model_load hN)
 clear hN
 by_cases g1:p < 0
 ·have HX:Hid (cm=3):=hide (by rw [HE.out,if_pos (by omega)])
  go_enter Tryz.func33,Tryz.ntmps33
  go_wp2
  go_ret
  exact ⟨by rw [HX.out];rfl,HB.out⟩
 by_cases g2:3 < p
 ·have HX:Hid (cm=3):=hide (by rw [HE.out,if_pos (by omega)])
  go_enter Tryz.func33,Tryz.ntmps33
  go_wp2
  go_ret
  exact ⟨by rw [HX.out];rfl,HB.out⟩
 by_cases g3:12 < l1
 ·have HX:Hid (cm=2):=hide (by rw [HE.out,if_neg (by omega),if_pos g3])
  go_enter Tryz.func33,Tryz.ntmps33
  go_wp2
  go_ret
  exact ⟨by rw [HX.out];rfl,HB.out⟩
 by_cases g4:l1=0
 ·have HX:Hid (cm=1):=hide (by rw [HE.out,if_neg (by omega),if_neg g3,if_pos (Or.inl g4)])
  have d4:((l1:Int) == 0)=true:=by simp;omega
  clear g4
  go_enter Tryz.func33,Tryz.ntmps33
  go_wp2
  go_ret
  exact ⟨by rw [HX.out];rfl,HB.out⟩
 have d4:((l1:Int) == 0)=false:=by simp;omega
 by_cases g5:l3=l1
 case neg =>
  have HX:Hid (cm=1):=hide (by rw [HE.out,if_neg (by omega),if_neg g3,if_pos (Or.inr g5)])
  have d5:((l3:Int) != (l1:Int))=true:=by simp;omega
  clear g5
  go_enter Tryz.func33,Tryz.ntmps33
  go_wp2
  go_ret
  exact ⟨by rw [HX.out];rfl,HB.out⟩
 have d5:((l3:Int) != (l1:Int))=false:=by simp;omega
 have HE2:Hid (cm=if M.labels.any (notLab p) then 3 else if M.first.any (notSt l1) then 5 else rowsErr l1 M.steps):=hide (by rw [HE.out,if_neg (by omega),if_neg g3,if_neg (by omega)])
 have hl12:l3≤12:=by omega
 have HA:=hide (HAL.out (by omega) (by omega) _ HB.out)
 clear HE HAL g4 g5
 generalize M.labels.any (notLab p)=bl at *
 go_enter Tryz.func33,Tryz.ntmps33
 go_wp2_with (first | (show wpList _ _ _ (⟨some 30,_,_,_,_,_⟩ :: _) _ _;refine wpl_loadM HLd.out rfl rfl rfl ?_))
 generalize (w.alloc (Obj.cells #[Value.int .i64 p,.slice a1 l1 c1,.slice a2 l2 c2,.slice a3 l3 c3] 59))=W0 at *
 go_fit HA.out
 rintro e w1 ⟨rfl,hb1⟩
 have HB1:=hide (below_trans HB.out hb1)
 have hN1:=belowRow hb1 HN.out
 have HN1:=hide hN1
 have HLd1:=hide (model_load hN1)
 have q2:=cell_of_row _ _ 2 _ _ _ hN1
 clear hb1 HA HN HLd HB hN1
 cases bl with
 | true =>
  have HX:Hid (cm=3):=hide (by rw [HE2.out,if_pos rfl])
  go_wp2
  go_ret
  exact ⟨by rw [HX.out];rfl,HB1.out⟩
 | false =>
  have HE3:Hid (cm=if M.first.any (notSt l1) then 5 else rowsErr l1 M.steps):=hide (by rw [HE2.out,if_neg (by simp)])
  have HA:=hide (HAS.out w1 _ _ HB1.out (HF.out.below HB1.out))
  clear HE2
  generalize M.first.any (notSt l1)=bf at *
  go_wp2_with (first | (show wpList _ _ _ (⟨some 33,_,_,_,_,_⟩ :: _) _ _;refine wpl_loadM HLd1.out rfl rfl rfl ?_))
  go_fit HA.out
  rintro e w2 ⟨rfl,hb2⟩
  have HB2:=hide (below_trans HB1.out hb2)
  have hN2:=belowRow hb2 HN1.out
  have HN2:=hide hN2
  have q3:=cell_of_row _ _ 3 _ _ _ hN2
  clear hb2 HA HN1 HLd1 HB1 q2 hN2
  cases bf with
  | true =>
   have HX:Hid (cm=5):=hide (by rw [HE3.out,if_pos rfl])
   go_wp2
   go_ret
   exact ⟨by rw [HX.out];rfl,HB2.out⟩
  | false =>
   have HE4:Hid (cm=rowsErr l1 (M.steps.drop 0)):=hide (by rw [HE3.out,if_neg (by simp),List.drop_zero])
   clear HE3
   go_wp2_with (fail)
   clear q3
   go_loopw [41] (fun kv wr=>∃ k:Nat,k≤l3∧kv=.int .i64 k∧Hid (cm=rowsErr l1 (M.steps.drop k)∧Below w2.heap.size w2 wr)) (fun kv _=>l3 - (intOf kv).toNat)
   case atStart=>exact ⟨0,by omega,rfl,hide ⟨HE4.out,Below.refl _ _⟩⟩
   case round =>
    obtain ⟨k,hk,rfl,hS⟩:=hrel
    have HBr:=hide (below_trans HB2.out hS.out.2)
    by_cases hlt:k < l3
    ·have hlt':k < M.steps.length:=by rw [HL3.out];exact hlt
     obtain ⟨a',c',e3,-,hrows⟩:=HR.out.below HBr.out
     injection e3 with e1 e2 e4
     subst e1
     subst e4
     obtain ⟨b,off,rfl,hcell⟩:∃ b off,a3=some ⟨b,off,none⟩∧∀ i,i < M.steps.length→∃ rv,wr.cell? ⟨b,off+i,none⟩=some rv∧IntSl wr rv (M.steps.getD i []):=by
      rcases hrows with h | h
      ·rw [h] at hlt';simp at hlt'
      ·exact h
     obtain ⟨rv,d0,hrv⟩:=hcell k hlt'
     have HErr:Hid (cm=if M.steps.getD k []=[] then 4 else if (M.steps.getD k []).any (notSt l1) then 5 else rowsErr l1 (M.steps.drop (k+1))):=hide (by rw [hS.out.1,rowsErr_drop hlt'])
     generalize M.steps.getD k []=row at *
     have HRV:=hide hrv
     obtain ⟨ra,rc,rfl,hrm,-⟩:=hrv
     have HA:=hide (HAS.out wr _ _ HBr.out HRV.out)
     have HLd:=hide (model_load (belowRow hS.out.2 HN2.out))
     clear hcell hrows e2
     by_cases hr0:row=[]
     ·have HX:Hid (cm=4):=hide (by rw [HErr.out,if_pos hr0])
      subst hr0
      go_wp2
      go_ret
      exact ⟨by rw [HX.out];rfl,HBr.out⟩
     ·have d6:((row.length:Int) == 0)=false:=by
       have:=List.length_pos_iff.2 hr0
       simp;omega
      have HErr2:Hid (cm=if row.any (notSt l1) then 5 else rowsErr l1 (M.steps.drop (k+1))):=hide (by rw [HErr.out,if_neg hr0])
      clear hr0 HErr
      generalize row.any (notSt l1)=br at *
      generalize row.length=rl at *
      go_wp2_with (first | (show wpList _ _ _ (⟨some 48,_,_,_,_,_⟩ :: _) _ _;refine wpl_loadM HLd.out rfl rfl rfl ?_))
      go_fit HA.out
      rintro e w3 ⟨rfl,hb3⟩
      have HB3:=hide (below_trans hS.out.2 hb3)
      have HB3':=hide (below_trans HBr.out hb3)
      clear hb3 d0
      cases br with
      | true =>
       have HX:Hid (cm=5):=hide (by rw [HErr2.out,if_pos rfl])
       go_wp2
       go_ret
       exact ⟨by rw [HX.out];rfl,HB3'.out⟩
      | false =>
       have HX:Hid (cm=rowsErr l1 (M.steps.drop (k+1))):=hide (by rw [HErr2.out,if_neg (by simp)])
       go_wp2_with (fail)
       go_roundw
       case rel=>exact ⟨k+1,by omega,by go_num,hide ⟨HX.out,HB3.out⟩⟩
       case measure=>simp [intOf];omega
    ·have HX:Hid (cm=0):=hide (by rw [hS.out.1,List.drop_eq_nil_of_le (by rw [HL3.out];omega)];rfl)
     go_wp2
     go_ret
     exact ⟨by rw [HX.out];rfl,HBr.out⟩
theorem any_taken {α:Type}{f:α→Bool}{xs:List α}{d:α}{k:Nat} (hk:k < xs.length) (h:(xs.take k).any f=false) (hx:f (xs.getD k d)=false):(xs.take (k+1)).any f=false:=by
 rw [List.take_add_one,List.any_append,h,List.getElem?_eq_getElem hk]
 simp [List.getD,hk] at hx
 simp [hx]
theorem any_found {α:Type}{f:α→Bool}{xs:List α}{d:α}{k:Nat} (hk:k < xs.length) (hx:f (xs.getD k d)=true):xs.any f=true:=by
 rw [List.any_eq_true]
 exact ⟨xs.getD k d,by simp [List.getD,hk],hx⟩
def btwB (x hi:Int):Bool:=decide (0≤x∧x≤hi)
theorem btwB_st (x:Int) (n:Nat):notSt n x=!btwB x ((n:Int) - 1):=by
 unfold notSt btwB
 rw [Bool.eq_iff_iff]
 simp only [Bool.or_eq_true,decide_eq_true_eq,Bool.not_eq_true',decide_eq_false_iff_not]
 omega
theorem btwB_lab (x p:Int):notLab p x=!btwB x ((2:Int) ^ p.toNat - 1):=by
 unfold notLab btwB
 generalize (2:Int) ^ p.toNat=m
 rw [Bool.eq_iff_iff]
 simp only [Bool.or_eq_true,decide_eq_true_eq,Bool.not_eq_true',decide_eq_false_iff_not]
 omega
theorem betweenB (a c:Int) (w:World):Calls Tryz.prog 56 #[.int .i64 a,.int .i64 0,.int .i64 c] w fun e w'=>e=.returned (.bool (btwB a c))∧w'=w:=between_any a 0 c w
theorem checkModelR_any {w:World}{v:Value}{M:Mdl} (hM:MdV w v M) :
  Calls Tryz.prog 31 #[v] w fun e w'=>e=.returned (.int .i64 (chkM M))∧Below w.heap.size w w':=by
 obtain ⟨lv,fv,sv,rfl,h1,h2,h4⟩:=hM
 have HLs:=hide h1
 have HF:=hide h2
 have HR:=hide h4
 obtain ⟨a1,c1,rfl,hm1,-⟩:=h1
 obtain ⟨a2,c2,rfl,hm2,-⟩:=h2
 obtain ⟨a3,c3,rfl,hm3,-⟩:=h4
 have HE:Hid (chkM M=if M.props < 0 ∨ 3 < M.props then 3 else if 12 < M.labels.length then 2 else if M.labels.length=0 ∨ M.steps.length ≠ M.labels.length then 1 else if M.labels.any (notLab M.props) then 3 else if M.first.any (notSt M.labels.length) then 5 else rowsErr M.labels.length M.steps):=hide rfl
 generalize chkM M=cm at *
 generalize hp:M.props=p at *
 generalize hl2:M.first.length=l2 at *
 generalize hl3:M.steps.length=l3 at *
 generalize hl1:M.labels.length=l1 at *
 have HL1:=hide hl1
 have HL2:=hide hl2
 have HL3:=hide hl3
 clear hp hl1 hl2 hl3
 unfold maxLen at hm1 hm2 hm3
 have hN:=one_new w (Obj.cells #[Value.int .i64 p,.slice a1 l1 c1,.slice a2 l2 c2,.slice a3 l3 c3] 59)
 have q0:=cell_of_row _ _ 0 _ _ _ hN
 have q1:=cell_of_row _ _ 1 _ _ _ hN
 have q2:=cell_of_row _ _ 2 _ _ _ hN
 have q3:=cell_of_row _ _ 3 _ _ _ hN
 have HB:=hide (below_new w (Obj.cells #[Value.int .i64 p,.slice a1 l1 c1,.slice a2 l2 c2,.slice a3 l3 c3] 59))
 clear hN
 go_enter Tryz.func31,Tryz.ntmps31
 go_wp2_with (fail)
 generalize (w.alloc (Obj.cells #[Value.int .i64 p,.slice a1 l1 c1,.slice a2 l2 c2,.slice a3 l3 c3] 59))=W0 at *
 go_fit (betweenB p 3 W0)
 rintro e W0 ⟨rfl,rfl⟩
 by_cases g1:p < 0 ∨ 3 < p
 ·have HX:Hid (cm=3):=hide (by rw [HE.out,if_pos g1])
  have hd:btwB p 3=false:=by unfold btwB;rw [decide_eq_false];omega
  rw [hd]
  clear g1
  go_wp2
  go_ret
  exact ⟨by rw [HX.out];rfl,HB.out⟩
 have hd:btwB p 3=true:=by unfold btwB;rw [decide_eq_true];omega
 have hp0:0≤p:=by omega
 have hp3:p≤3:=by omega
 rw [hd]
 have HE1:Hid (cm=if 12 < l1 then 2 else if l1=0 ∨ l3 ≠ l1 then 1 else if M.labels.any (notLab p) then 3 else if M.first.any (notSt l1) then 5 else rowsErr l1 M.steps):=hide (by rw [HE.out,if_neg g1])
 clear HE g1
 by_cases g3:12 < l1
 ·have HX:Hid (cm=2):=hide (by rw [HE1.out,if_pos g3])
  go_wp2
  go_ret
  exact ⟨by rw [HX.out];rfl,HB.out⟩
 by_cases g4:l1=0
 ·have HX:Hid (cm=1):=hide (by rw [HE1.out,if_neg g3,if_pos (Or.inl g4)])
  have d4:((l1:Int) == 0)=true:=by simp;omega
  clear g4
  go_wp2
  go_ret
  exact ⟨by rw [HX.out];rfl,HB.out⟩
 have d4:((l1:Int) == 0)=false:=by simp;omega
 by_cases g5:l3=l1
 case neg =>
  have HX:Hid (cm=1):=hide (by rw [HE1.out,if_neg g3,if_pos (Or.inr g5)])
  have d5:((l3:Int) != (l1:Int))=true:=by simp;omega
  clear g5
  go_wp2
  go_ret
  exact ⟨by rw [HX.out];rfl,HB.out⟩
 have d5:((l3:Int) != (l1:Int))=false:=by simp;omega
 have HE2:Hid (cm=if M.labels.any (notLab p) then 3 else if M.first.any (notSt l1) then 5 else rowsErr l1 M.steps):=hide (by rw [HE1.out,if_neg g3,if_neg (by omega)])
 have HG5:=hide g5
 have hl12:l1≤12:=by omega
 clear HE1 g5
 go_wp2_with (fail)
 go_loopw [4,5] (fun s4 s5 wr=>∃ i:Nat,(i:Int)≤p∧s5=.int .i64 i∧s4=.int .i64 ((2 ^ i:Nat):Int)∧wr=W0) (fun _ s5 _=>p.toNat - (intOf s5).toNat)
 case atStart=>exact ⟨0,by omega,rfl,rfl,rfl⟩
 case round =>
  obtain ⟨i,hi,rfl,rfl,rfl⟩:=hrel
  have hpw:2 ^ i≤8:=by
   have h3:i=0 ∨ i=1 ∨ i=2 ∨ i=3:=by omega
   rcases h3 with h3 | h3 | h3 | h3 <;> rw [h3] <;> decide
  by_cases hlt:(i:Int) < p
  ·have hpn:2 ^ (i+1)=2 * 2 ^ i:=by rw [Nat.pow_succ];omega
   have HPn:=hide hpn
   generalize 2 ^ i=m at *
   clear hpn
   go_wp2_with (fail)
   go_roundw
   case rel=>exact ⟨i+1,by omega,by go_num,by rw [HPn.out];go_num,by first | rfl | trivial⟩
   case measure=>simp [intOf];omega
  ·have hip:i=p.toNat:=by omega
   have HMo:Hid ((2:Int) ^ p.toNat=((2 ^ i:Nat):Int)):=hide (by rw [hip];simp)
   generalize 2 ^ i=m at *
   clear hi hip
   go_wp2_with (fail)
   go_loopw [6] (fun s6 w2=>∃ k:Nat,k≤l1∧s6=.int .i64 k∧Hid ((M.labels.take k).any (notLab p)=false)∧w2=wr) (fun s6 _=>l1 - (intOf s6).toNat)
   case atStart=>exact ⟨0,by omega,rfl,hide (by simp),rfl⟩
   case round =>
    obtain ⟨k,hk,rfl,HK,rfl⟩:=hrel
    by_cases hlt:k < l1
    ·obtain ⟨a',c',e3,-,hrows,-⟩:=HLs.out.below HB.out
     injection e3 with e1 e2 e4
     subst e1
     subst e4
     obtain ⟨b,off,rfl,hcell⟩:∃ b off,a1=some ⟨b,off,none⟩∧∀ i,i < M.labels.length→wr.cell? ⟨b,off+i,none⟩=some (.int .i64 (M.labels.getD i 0)):=by
      rcases hrows with h | h
      ·have:=HL1.out;rw [h] at this;simp at this;omega
      ·exact h
     have d0:=hcell k (by rw [HL1.out];exact hlt)
     have HT:Hid (notLab p (M.labels.getD k 0)=!btwB (M.labels.getD k 0) ((m:Int) - 1)):=hide (by rw [btwB_lab,HMo.out])
     have HKn:Hid (notLab p (M.labels.getD k 0)=false→(M.labels.take (k+1)).any (notLab p)=false):=hide fun h=>any_taken (by rw [HL1.out];exact hlt) HK.out h
     have HKf:Hid (notLab p (M.labels.getD k 0)=true→M.labels.any (notLab p)=true):=hide fun h=>any_found (by rw [HL1.out];exact hlt) h
     generalize M.labels.getD k 0=x at *
     clear hcell hrows e2
     go_wp2_with (fail)
     go_fit (betweenB x ((m:Int) - 1) wr)
     rintro e wr ⟨rfl,rfl⟩
     generalize btwB x ((m:Int) - 1)=bb at *
     cases bb with
     | false =>
      have HX:Hid (cm=3):=hide (by rw [HE2.out,if_pos (HKf.out (by rw [HT.out];rfl))])
      go_wp2
      go_ret
      exact ⟨by rw [HX.out];rfl,HB.out⟩
     | true =>
      have HK':=hide (HKn.out (by rw [HT.out];rfl))
      go_wp2
      go_roundw
      case rel=>exact ⟨k+1,by omega,by go_num,HK',by first | rfl | trivial⟩
      case measure=>simp [intOf];omega
    ·have HE3:Hid (cm=if M.first.any (notSt l1) then 5 else rowsErr l1 M.steps):=hide (by
      have h5:=HK.out
      rw [List.take_of_length_le (by rw [HL1.out];omega)] at h5
      rw [HE2.out,if_neg (by rw [h5];simp)])
     clear HE2 HK
     go_wp2_with (fail)
     go_loopw [7] (fun s7 w3=>∃ j:Nat,j≤l2∧s7=.int .i64 j∧Hid ((M.first.take j).any (notSt l1)=false)∧w3=wr) (fun s7 _=>l2 - (intOf s7).toNat)
     case atStart=>exact ⟨0,by omega,rfl,hide (by simp),rfl⟩
     case round =>
      obtain ⟨j,hj,rfl,HK,rfl⟩:=hrel
      by_cases hlt:j < l2
      ·obtain ⟨a',c',e3,-,hrows,-⟩:=HF.out.below HB.out
       injection e3 with e1 e2 e4
       subst e1
       subst e4
       obtain ⟨b,off,rfl,hcell⟩:∃ b off,a2=some ⟨b,off,none⟩∧∀ i,i < M.first.length→wr.cell? ⟨b,off+i,none⟩=some (.int .i64 (M.first.getD i 0)):=by
        rcases hrows with h | h
        ·have:=HL2.out;rw [h] at this;simp at this;omega
        ·exact h
       have d0:=hcell j (by rw [HL2.out];exact hlt)
       have HT:Hid (notSt l1 (M.first.getD j 0)=!btwB (M.first.getD j 0) ((l1:Int) - 1)):=hide (btwB_st _ _)
       have HKn:Hid (notSt l1 (M.first.getD j 0)=false→(M.first.take (j+1)).any (notSt l1)=false):=hide fun h=>any_taken (by rw [HL2.out];exact hlt) HK.out h
       have HKf:Hid (notSt l1 (M.first.getD j 0)=true→M.first.any (notSt l1)=true):=hide fun h=>any_found (by rw [HL2.out];exact hlt) h
       generalize M.first.getD j 0=x at *
       clear hcell hrows e2
       go_wp2_with (fail)
       go_fit (betweenB x ((l1:Int) - 1) wr)
       rintro e wr ⟨rfl,rfl⟩
       generalize btwB x ((l1:Int) - 1)=bb at *
       cases bb with
       | false =>
        have HX:Hid (cm=5):=hide (by rw [HE3.out,if_pos (HKf.out (by rw [HT.out];rfl))])
        go_wp2
        go_ret
        exact ⟨by rw [HX.out];rfl,HB.out⟩
       | true =>
        have HK':=hide (HKn.out (by rw [HT.out];rfl))
        go_wp2
        go_roundw
        case rel=>exact ⟨j+1,by omega,by go_num,HK',by first | rfl | trivial⟩
        case measure=>simp [intOf];omega
      ·have HE4:Hid (cm=rowsErr l1 M.steps):=hide (by
        have h5:=HK.out
        rw [List.take_of_length_le (by rw [HL2.out];omega)] at h5
        rw [HE3.out,if_neg (by rw [h5];simp)])
       clear HE3 HK
       go_wp2_with (fail)
       go_loopw [8] (fun s8 w4=>∃ n:Nat,n≤l1∧s8=.int .i64 n∧Hid (cm=rowsErr l1 (M.steps.drop n))∧w4=wr) (fun s8 _=>l1 - (intOf s8).toNat)
       case atStart=>exact ⟨0,by omega,rfl,HE4,rfl⟩
       case round =>
        obtain ⟨n,hn,rfl,HN,rfl⟩:=hrel
        by_cases hlt:n < l1
        ·have hlt':n < M.steps.length:=by rw [HL3.out,HG5.out];exact hlt
         obtain ⟨a',c',e3,-,hrows⟩:=HR.out.below HB.out
         injection e3 with e1 e2 e4
         subst e1
         subst e4
         obtain ⟨b,off,rfl,hcell⟩:∃ b off,a3=some ⟨b,off,none⟩∧∀ i,i < M.steps.length→∃ rv,wr.cell? ⟨b,off+i,none⟩=some rv∧IntSl wr rv (M.steps.getD i []):=by
          rcases hrows with h | h
          ·rw [h] at hlt';simp at hlt'
          ·exact h
         obtain ⟨rv,d0,hrv⟩:=hcell n hlt'
         have HErr:Hid (cm=if M.steps.getD n []=[] then 4 else if (M.steps.getD n []).any (notSt l1) then 5 else rowsErr l1 (M.steps.drop (n+1))):=hide (by rw [HN.out,rowsErr_drop hlt'])
         have hn3:n < l3:=by rw [← HL3.out];exact hlt'
         generalize M.steps.getD n []=row at *
         have HRV:=hide hrv
         obtain ⟨ra,rc,rfl,hrm,-⟩:=hrv
         unfold maxLen at hrm
         clear hcell hrows e2 hlt'
         by_cases hr0:row=[]
         ·have HX:Hid (cm=4):=hide (by rw [HErr.out,if_pos hr0])
          subst hr0
          go_wp2
          go_ret
          exact ⟨by rw [HX.out];rfl,HB.out⟩
         ·have d6:((row.length:Int) == 0)=false:=by
           have:=List.length_pos_iff.2 hr0
           simp;omega
          have HErr2:Hid (cm=if row.any (notSt l1) then 5 else rowsErr l1 (M.steps.drop (n+1))):=hide (by rw [HErr.out,if_neg hr0])
          generalize hrl:row.length=rl at *
          have HRL:=hide hrl
          clear hr0 HErr hrl
          go_wp2_with (fail)
          go_loopw [9] (fun s9 w5=>∃ t:Nat,t≤rl∧s9=.int .i64 t∧Hid ((row.take t).any (notSt l1)=false)∧w5=wr) (fun s9 _=>rl - (intOf s9).toNat)
          case atStart=>exact ⟨0,by omega,rfl,hide (by simp),rfl⟩
          case round =>
           obtain ⟨t,ht,rfl,HK,rfl⟩:=hrel
           by_cases hltt:t < rl
           ·obtain ⟨a',c',e3,-,hrows,-⟩:=HRV.out
            injection e3 with e1 e2 e4
            subst e1
            subst e4
            obtain ⟨b',off',rfl,hcell⟩:∃ b' off',ra=some ⟨b',off',none⟩∧∀ i,i < row.length→wr.cell? ⟨b',off'+i,none⟩=some (.int .i64 (row.getD i 0)):=by
             rcases hrows with h | h
             ·have:=HRL.out;rw [h] at this;simp at this;omega
             ·exact h
            have d1:=hcell t (by rw [HRL.out];exact hltt)
            have HT:Hid (notSt l1 (row.getD t 0)=!btwB (row.getD t 0) ((l1:Int) - 1)):=hide (btwB_st _ _)
            have HKn:Hid (notSt l1 (row.getD t 0)=false→(row.take (t+1)).any (notSt l1)=false):=hide fun h=>any_taken (by rw [HRL.out];exact hltt) HK.out h
            have HKf:Hid (notSt l1 (row.getD t 0)=true→row.any (notSt l1)=true):=hide fun h=>any_found (by rw [HRL.out];exact hltt) h
            generalize row.getD t 0=x at *
            clear hcell hrows e2
            go_wp2_with (fail)
            go_fit (betweenB x ((l1:Int) - 1) wr)
            rintro e wr ⟨rfl,rfl⟩
            generalize btwB x ((l1:Int) - 1)=bb at *
            cases bb with
            | false =>
             have HX:Hid (cm=5):=hide (by rw [HErr2.out,if_pos (HKf.out (by rw [HT.out];rfl))])
             go_wp2
             go_ret
             exact ⟨by rw [HX.out];rfl,HB.out⟩
            | true =>
             have HK':=hide (HKn.out (by rw [HT.out];rfl))
             go_wp2
             go_roundw
             case rel=>exact ⟨t+1,by omega,by go_num,HK',by first | rfl | trivial⟩
             case measure=>simp [intOf];omega
           ·have HN':Hid (cm=rowsErr l1 (M.steps.drop (n+1))):=hide (by
             have h5:=HK.out
             rw [List.take_of_length_le (by rw [HRL.out];omega)] at h5
             rw [HErr2.out,if_neg (by rw [h5];simp)])
            clear HK
            go_wp2
            go_roundw
            case rel=>exact ⟨n+1,by omega,by go_num,HN',by first | rfl | trivial⟩
            case measure=>simp [intOf];omega
        ·have HX:Hid (cm=0):=hide (by rw [HN.out,List.drop_eq_nil_of_le (by rw [HL3.out,HG5.out];omega)];rfl)
         go_wp2
         go_ret
         exact ⟨by rw [HX.out];rfl,HB.out⟩
end Go.Proofs.YtpiacnnifdjlkabGreatDoor
