import Derived.Test.YtpiacnnifdjlkabGreatDoorCh
import Derived.Test.YtpiacnnifdjlkabGreatDoorCards
import Derived.Test.YtpiacnnifdjlkabGreatDoorTie
import Derived.WalkKit
import Derived.ProofKit
import Derived.OpenShut
import Derived.Carry
import Derived.Deep.DeepHandedRow
import Derived.Lib.LaidTab
import Derived.Lib.SmallJoins
import Derived.Deep.RegionWith
import Derived.Deep.LoopGhost
import Derived.Deep.Grids
import Derived.Deep.Strs
import Derived.Shelf.Abstract
set_option maxRecDepth 100000
set_option maxHeartbeats 8000000
namespace Go.Proofs.YtpiacnnifdjlkabGreatDoor
open Go.ChangeShapes Go.WideShapes Go.ChangeAt Go.RowKit Go.Deep
theorem laidOut:laidOutB Tryz.prog=true:=by kernel_rfl
theorem own:ownKnob Tryz.prog.godebug=none:=by kernel_rfl
theorem cellsInt:Tryz.prog.cellsOf 3=1:=by kernel_rfl
theorem intSl_of_trod {H:Type}{enc:TypeId × Value→H}{W:World}{n:Nat}{u:Value}{y:DataW H × List MemPlace} (h:DataW.trod enc Tryz.prog W 0 (fun _=>true) true n 22 [u]=some y) :
  ∃ zs,IntSl W u zs∧∀ z ∈ zs,(Lit.int .i64 z).wf=true:=by
 rcases open_ints Tryz.underlying22 Tryz.underlying3 cellsInt h with ⟨hcs,_⟩ | ⟨a,len,cap,zs,hcs,_,hl,hm,hz,_,hcell,hwz⟩
 ·simp only [List.cons.injEq,and_true] at hcs
  subst hcs
  exact ⟨[],intSl_nil W,fun z hz=>by cases hz⟩
 ·simp only [List.cons.injEq,and_true] at hcs
  subst hcs
  have hz':zs.length=cap:=hz
  have hlen:(zs.take len).length=len:=by rw [List.length_take];omega
  refine ⟨zs.take len,⟨some a,cap,by rw [hlen],by rw [hlen];omega,?_,fun e=>(by cases e),by rw [hlen];exact hl⟩,fun z hz2=>hwz z (List.mem_of_mem_take hz2)⟩
  by_cases h0:len=0
  ·left
   rw [h0]
   rfl
  ·right
   obtain ⟨b,off,spot⟩:=a
   have c0:=hcell 0 (by omega)
   have hs:spot=none:=by
    simp only [Addr.add,if_true,World.cell?] at c0
    split at c0
    ·cases spot with
     | none=>rfl
     | some s=>simp at c0
    ·cases c0
   subst hs
   refine ⟨b,off,rfl,fun i hi=>?_⟩
   rw [hlen] at hi
   have ci:=hcell i (by omega)
   rw [add_none] at ci
   rw [ci]
   congr 2
   simp [List.getD,hi]
theorem lasso_of_trod {H:Type}{enc:TypeId × Value→H}{W:World}{r:Reach}{b0:Nat}{v:Value}{d:DataW H}{p:List MemPlace} (hv:Value.okWide Tryz.prog W r b0 28 v) (h:DataW.Trod enc Tryz.prog W 0 (fun _=>true) true 28 v d p) :
  ∃ hv lv hs ls,v=.agg #[hv,lv]∧IntSl W hv hs∧IntSl W lv ls:=by
 obtain ⟨v0,v1,y0,y1,n,rfl,_,_,t0,t1⟩:=Go.Joins.open_agg2 Tryz.underlying28 (by kernel_rfl) (by kernel_rfl) hv h
 obtain ⟨hs,i0,_⟩:=intSl_of_trod t0
 obtain ⟨ls,i1,_⟩:=intSl_of_trod t1
 exact ⟨v0,v1,hs,ls,rfl,i0,i1⟩
end Go.Proofs.YtpiacnnifdjlkabGreatDoor
namespace Go.Proofs.YtpiacnnifdjlkabGreatDoor
open Go.RowKit Go.Sort
def falses (c:Nat):Array Value:=Array.replicate c (.bool false)
theorem boolInfo:Tryz.prog.info? 4=some Tryz.t4:=by kernel_rfl
theorem make_bools (c:Nat) (h:c≤1000000) (w:World):(Instr.makeSlice 23 (.int .i64 c) (.int .i64 c)).run Tryz.prog w=.ok (.slice (some ⟨w.heap.size,0,none⟩) c c) (w.alloc (.cells (falses c) 4)):=by
 have hz:Tryz.t4.zero=some (.bool false):=by kernel_rfl
 have hb:Tryz.t4.bytes=1:=by kernel_rfl
 have hs:Tryz.t4.size=1:=by kernel_rfl
 rw [run_make w 23 4 Tryz.t4 (.bool false) Tryz.underlying23 boolInfo hz .i64 .i64 c c (by omega) (by omega) (by rw [hb];omega) (by omega)]
 have e:madeCells (Value.cells (.bool false)) (c * 1)=falses c:=by
  apply Array.ext
  ·simp [size_madeCells,falses]
  ·intro i h1 h2
   simp [madeCells,falses,Value.cells,Nat.mod_one]
 rw [hs,Int.toNat_natCast,e]
structure BR (W:World) (g N:Nat) (f:Nat→Bool):Prop where
 cell:∀ i,i < N→W.cell? ⟨g,i,none⟩=some (.bool (f i))
 soft:∀ o,W.frozen? ⟨g,o,none⟩=false
 lt:g < W.heap.size
theorem BR.of_block {W W':World}{g N:Nat}{f:Nat→Bool} (h:BR W g N f) (hb:W'.heap[g]?=W.heap[g]?):BR W' g N f:=
 ⟨fun i hi=>(World.cell?_of_block (a:=⟨g,i,none⟩) hb).trans (h.cell i hi),fun o=>(World.frozen?_of_block (a:=⟨g,o,none⟩) hb).trans (h.soft o),by
  have:=h.lt
  have h2:W.heap[g]?=some W.heap[g]:=by simp [this]
  rw [h2] at hb
  exact (Array.getElem?_eq_some_iff.1 hb).1⟩
theorem BR.old {W W':World}{g N:Nat}{f:Nat→Bool} (h:BR W g N f) (hb:Below W.heap.size W W'):BR W' g N f:=h.of_block (hb.block g h.lt)
theorem BR.new {W:World}{g N:Nat} (h:W.heap[g]?=some (.cells (falses N) 4)):BR W g N (fun _=>false):=
 ⟨fun i hi=>by rw [cell_of_row W g i _ _ _ h];simp [falses,hi],fun o=>by simp [World.frozen?,h],(Array.getElem?_eq_some_iff.1 h).1⟩
theorem BR.set {W:World}{g N:Nat}{f:Nat→Bool} (h:BR W g N f) (t:Nat) (ht:t < N):BR (W.setCell ⟨g,t,none⟩ (.bool true)) g N (fun i=>f i || decide (i=t)):=by
 refine ⟨fun i hi=>?_,fun o=>by rw [World.frozen?_setCell];exact h.soft o,by simpa [World.setCell] using h.lt⟩
 by_cases e:i=t
 ·subst e
  rw [World.cell?_setCell_same _ _ _ (h.cell i hi)]
  simp
 ·rw [World.cell?_setCell_other _ _ _ _ (fun e'=>e (congrArg Addr.off e').symm),h.cell i hi]
  simp [e]
theorem BR.far {W:World}{g g' N:Nat}{f:Nat→Bool} (h:BR W g N f) (o:Nat) (v:Value) (hne:g ≠ g'):BR (W.setCell ⟨g',o,none⟩ v) g N f:=h.of_block (heap_setCell_other W _ _ g hne)
theorem BR.congr {W:World}{g N:Nat}{f f':Nat→Bool} (h:BR W g N f) (e:∀ i,i < N→f i=f' i):BR W g N f':=⟨fun i hi=>by rw [h.cell i hi,e i hi],h.soft,h.lt⟩
end Go.Proofs.YtpiacnnifdjlkabGreatDoor
namespace Go.Proofs.YtpiacnnifdjlkabGreatDoor
def nxt (hs ls:List Int) (p:Nat):Nat:=if p+1=hs.length+ls.length then hs.length else p+1
def pl (hs ls:List Int) (p:Nat):Nat→Nat
 | 0=>p
 | k+1=>nxt hs ls (pl hs ls p k)
theorem pl_loop (hs ls:List Int) (hL:0 < ls.length):∀ k,pl hs ls hs.length k=hs.length+k % ls.length:=by
 intro k
 induction k with
 | zero=>simp [pl]
 | succ k ih =>
  have hm:k % ls.length < ls.length:=Nat.mod_lt _ hL
  show nxt hs ls (pl hs ls hs.length k)=_
  rw [ih]
  unfold nxt
  rw [Nat.add_mod k 1]
  by_cases e:hs.length+k % ls.length+1=hs.length+ls.length
  ·rw [if_pos e]
   by_cases h1:ls.length=1
   ·rw [h1];omega
   ·rw [Nat.mod_eq_of_lt (show 1 < ls.length by omega),show k % ls.length+1=ls.length by omega,Nat.mod_self];omega
  ·rw [if_neg e]
   have h1:1 < ls.length:=by omega
   rw [Nat.mod_eq_of_lt h1,Nat.mod_eq_of_lt (show k % ls.length+1 < ls.length by omega)]
   omega
theorem pl_head (hs ls:List Int) (hL:0 < ls.length):∀ k,k≤hs.length→pl hs ls 0 k=k:=by
 intro k
 induction k with
 | zero=>intro _;rfl
 | succ k ih =>
  intro hk
  show nxt hs ls (pl hs ls 0 k)=_
  rw [ih (by omega)]
  unfold nxt
  rw [if_neg (by omega)]
theorem pl_add (hs ls:List Int) (p m:Nat):∀ n,pl hs ls p (m+n)=pl hs ls (pl hs ls p m) n:=by
 intro n
 induction n with
 | zero=>rfl
 | succ n ih =>
  show nxt hs ls (pl hs ls p (m+n))=nxt hs ls (pl hs ls (pl hs ls p m) n)
  rw [ih]
def pathU (A:Aut) (u:Nat→Int):Nat→Nat→Nat→Nat→Prop
 | 0,_,q,q'=>q=q'
 | n+1,t,q,q'=>∃ z:Nat,(∃ s ∈ A.steps,s.f=q∧s.l=u t∧s.t=z)∧pathU A u n (t+1) z q'
def TakesU (A:Aut) (u:Nat→Int):Prop:=
 ∃ i,i < A.first.length∧∃ n q m,pathU A u n 0 (A.first.getD i 0).toNat q∧A.good.getD q false=true∧0 < m∧∀ j,pathU A u m (n+j * m) q q
theorem pathU_trans {A:Aut}{u:Nat→Int}:∀ {n m t q q' q'':Nat},pathU A u n t q q'→pathU A u m (t+n) q' q''→pathU A u (n+m) t q q''
 | 0,m,t,q,q',q'',h,k=>by
  have h:q=q':=h
  subst h
  rw [Nat.zero_add]
  exact k
 | n+1,m,t,q,q',q'',h,k=>by
  obtain ⟨z,hz,h⟩:=h
  rw [Nat.succ_add]
  exact ⟨z,hz,pathU_trans h (by rw [show t+1+n=t+(n+1) by omega];exact k)⟩
section
variable {A:Aut}{hs ls:List Int}
theorem pl_far (hL:0 < ls.length) {t:Nat} (h:hs.length≤t):pl hs ls 0 t=hs.length+(t - hs.length) % ls.length:=by
 rw [show t=hs.length+(t - hs.length) by omega,pl_add,pl_head hs ls hL _ (Nat.le_refl _),pl_loop hs ls hL,show hs.length+(t - hs.length) - hs.length=t - hs.length by omega]
theorem lat_pl (hL:0 < ls.length) (t:Nat):lat hs ls (pl hs ls 0 t)=lat hs ls t:=by
 by_cases h:t < hs.length
 ·rw [pl_head hs ls hL t (by omega)]
 ·rw [pl_far hL (by omega)]
  unfold lat
  rw [if_neg (by omega),if_neg h,Nat.add_sub_cancel_left,Nat.mod_mod]
theorem goN_pathU (hL:0 < ls.length):∀ (n t q:Nat) (y:Spot),goN (EdgeA A hs ls) n (pl hs ls 0 t,q) y ↔ y.1=pl hs ls 0 (t+n)∧pathU A (lat hs ls) n t q y.2
 | 0,t,q,y=>by
  constructor
  ·intro h
   have h:(pl hs ls 0 t,q)=y:=h
   subst h
   exact ⟨rfl,rfl⟩
  ·rintro ⟨h1,h2⟩
   exact Prod.ext h1.symm h2
 | n+1,t,q,y=>by
  constructor
  ·rintro ⟨z,⟨h1,s,hs',e1,e2,e3⟩,h⟩
   have hz:z=(pl hs ls 0 (t+1),z.2):=Prod.ext h1 rfl
   rw [hz] at h
   obtain ⟨k1,k2⟩:=(goN_pathU hL n (t+1) z.2 y).1 h
   refine ⟨by rw [k1];congr 1;omega,z.2,⟨s,hs',e1,?_,e3⟩,k2⟩
   rw [e2]
   exact lat_pl hL t
  ·rintro ⟨h1,z,⟨s,hs',e1,e2,e3⟩,h⟩
   refine ⟨(pl hs ls 0 (t+1),z),⟨rfl,s,hs',e1,?_,e3⟩,(goN_pathU hL n (t+1) z y).2 ⟨by rw [h1];congr 1;omega,h⟩⟩
   rw [e2]
   exact (lat_pl hL t).symm
theorem pathU_times {u:Nat→Int}{n m q:Nat} (h:∀ j,pathU A u m (n+j * m) q q) (j0:Nat):∀ k,pathU A u (k * m) (n+j0 * m) q q
 | 0=>by rw [Nat.zero_mul];rfl
 | k+1=>by
  rw [Nat.succ_mul]
  refine pathU_trans (pathU_times h j0 k) ?_
  have:=h (j0+k)
  rw [Nat.add_mul] at this
  rw [Nat.add_assoc]
  exact this
theorem takes_word (hL:0 < ls.length):TakesA A hs ls ↔ TakesU A (lat hs ls):=by
 constructor
 ·rintro ⟨i,hi,z,⟨n,hn⟩,hg,m,hm⟩
  have hn':goN (EdgeA A hs ls) n (pl hs ls 0 0,(A.first.getD i 0).toNat) z:=hn
  obtain ⟨k1,k2⟩:=(goN_pathU hL n 0 _ z).1 hn'
  rw [Nat.zero_add] at k1
  refine ⟨i,hi,n,z.2,m+1,k2,hg,Nat.succ_pos _,?_⟩
  have hp:∀ j,pl hs ls 0 (n+j * (m+1))=z.1:=by
   intro j
   induction j with
   | zero=>rw [Nat.zero_mul,Nat.add_zero,k1]
   | succ j ih =>
    have hz:z=(pl hs ls 0 (n+j * (m+1)),z.2):=Prod.ext ih.symm rfl
    have hm':=hm
    rw [show goN (EdgeA A hs ls) (m+1) z z ↔ goN (EdgeA A hs ls) (m+1) (pl hs ls 0 (n+j * (m+1)),z.2) z by rw [← hz]] at hm'
    have:=((goN_pathU hL (m+1) _ z.2 z).1 hm').1
    rw [Nat.succ_mul,← Nat.add_assoc]
    exact this.symm
  intro j
  have hz:z=(pl hs ls 0 (n+j * (m+1)),z.2):=Prod.ext (hp j).symm rfl
  have hm':=hm
  rw [show goN (EdgeA A hs ls) (m+1) z z ↔ goN (EdgeA A hs ls) (m+1) (pl hs ls 0 (n+j * (m+1)),z.2) z by rw [← hz]] at hm'
  exact ((goN_pathU hL (m+1) _ z.2 z).1 hm').2
 ·rintro ⟨i,hi,n,q,m,hn,hg,hm,hc⟩
  have h1:=pathU_trans hn (by rw [Nat.zero_add];have:=pathU_times hc 0 hs.length;rwa [Nat.zero_mul,Nat.add_zero] at this)
  have h2:=pathU_times hc hs.length ls.length
  have hT:hs.length≤n+hs.length * m:=Nat.le_trans (Nat.le_mul_of_pos_right _ hm) (Nat.le_add_left _ _)
  have hback:pl hs ls 0 (n+hs.length * m+ls.length * m)=pl hs ls 0 (n+hs.length * m):=by
   rw [pl_far hL (by omega),pl_far hL hT,show n+hs.length * m+ls.length * m - hs.length=n+hs.length * m - hs.length+ls.length * m by omega,Nat.add_mul_mod_self_left]
  refine ⟨i,hi,(pl hs ls 0 (n+hs.length * m),q),⟨n+hs.length * m,(goN_pathU hL _ 0 _ _).2 ⟨by rw [Nat.zero_add],h1⟩⟩,hg,ls.length * m - 1,?_⟩
  have hpos:0 < ls.length * m:=Nat.mul_pos hL hm
  rw [show ls.length * m - 1+1=ls.length * m by omega]
  exact (goN_pathU hL _ _ q _).2 ⟨hback.symm,h2⟩
end
end Go.Proofs.YtpiacnnifdjlkabGreatDoor
namespace Go.Proofs.YtpiacnnifdjlkabGreatDoor
open Go.ChangeShapes Go.WideShapes Go.ChangeAt Go.RowKit Go.Deep
theorem plain_addr {W:World}{a:Addr}{v:Value} (h:W.cell? (a.add 0)=some v):∃ b off,a=⟨b,off,none⟩:=by
 obtain ⟨b,off,spot⟩:=a
 simp only [Addr.add,if_true,World.cell?] at h
 split at h
 ·cases spot with
  | none=>exact ⟨b,off,rfl⟩
  | some s=>simp at h
 ·cases h
theorem one_int {H:Type}{enc:TypeId × Value→H}{W:World}{n:Nat}{c:Value}{y:DataW H × List MemPlace} (h:DataW.trod enc Tryz.prog W 0 (fun _=>true) true n 3 [c]=some y):∃ z,c=.int .i64 z∧(Lit.int .i64 z).wf=true:=by
 obtain ⟨z,hc,_,hw⟩:=DataW.trod_int Tryz.underlying3 h
 simp only [List.cons.injEq,and_true] at hc
 exact ⟨z,hc,hw⟩
end Go.Proofs.YtpiacnnifdjlkabGreatDoor
namespace Go.Proofs.YtpiacnnifdjlkabGreatDoor
open Go.RowKit Go.Sort
attribute [local go_sem] Oper.semAt_some
structure KX (m:Nat) (X:List Nat) (W W':World):Prop where
 os:W'.os=W.os
 tape:W'.tape=W.tape
 output:W'.output=W.output
 size:W.heap.size≤W'.heap.size
 block:∀ k,k < m→k ∉ X→W'.heap[k]?=W.heap[k]?
theorem KX.refl (m:Nat) (X:List Nat) (W:World):KX m X W W:=⟨rfl,rfl,rfl,Nat.le_refl _,fun _ _ _=>rfl⟩
theorem KX.trans {m:Nat}{X:List Nat}{A B C:World} (h:KX m X A B) (k:KX m X B C):KX m X A C:=
 ⟨k.os.trans h.os,k.tape.trans h.tape,k.output.trans h.output,Nat.le_trans h.size k.size,fun i hi hn=>(k.block i hi hn).trans (h.block i hi hn)⟩
theorem KX.of_below {m:Nat}{X:List Nat}{W W':World} (h:Below W.heap.size W W') (hm:m≤W.heap.size):KX m X W W':=⟨h.os,h.tape,h.output,h.size,fun k hk _=>h.block k (by omega)⟩
theorem KX.mono {m m':Nat}{X X':List Nat}{W W':World} (h:KX m X W W') (hm:m'≤m) (hX:∀ x ∈ X,x ∈ X' ∨ m'≤x):KX m' X' W W':=
 ⟨h.os,h.tape,h.output,h.size,fun k hk hn=>h.block k (by omega) (fun hx=>by rcases hX k hx with h | h;exact hn h;omega)⟩
theorem owns_slice {w:World}{base:Nat}{e:TypeId}{size:Nat}{v:Value}{n:Nat}{xs:List Value} (h:w.ownsRow base e size v (n+1) xs):∃ g cap,v=.slice (some ⟨g,0,none⟩) (n+1) cap∧base≤g:=by
 rcases h.2 with ⟨_,h0⟩ | ⟨g,cap,cur,rfl,hb,_⟩
 ·omega
 ·exact ⟨g,cap,rfl,hb⟩
theorem wpList_append_int (w:World) {ops:Array Oper}{rest:List Oper}{o:Oper}{a:Act}{Q:Exit→Act→World→Prop} (hgd:o.guard=none) (s x:Operand)
  (ho:o.op=.call { callee:=.builtin .append,args:=#[s,x],argTypes:=#[22,22] }) (base n:Nat) (v:Value) (xs:List Value) (hs:a.eval s=v)
  (hown:w.ownsRow base 3 1 v n xs) (B c:Nat) (z:Int) (hx:a.eval x=.slice (some ⟨B,0,none⟩) 1 c) (hc:1≤c) (h0:w.cell? ⟨B,0,none⟩=some (.int .i64 z)) (hn:n≤900000) (hbase:base≤w.heap.size)
  (h:∀ g' cap' w',w'.ownsRow base 3 1 (.slice (some ⟨g',0,none⟩) (n+1) cap') (n+1) (xs ++ [.int .i64 z])→w.grownBy w' v.ownBlock→(v.ownBlock=some g' ∨ g'=w.heap.size)→base≤g'→wpList Tryz.prog ops Q rest (a.put o.dst (.slice (some ⟨g',0,none⟩) (n+1) cap')) w'):wpList Tryz.prog ops Q (o :: rest) a w:=by
 have hz:IntSl w (.slice (some ⟨B,0,none⟩) 1 c) [z]:=⟨_,_,rfl,by simp [maxLen],Or.inr ⟨B,0,rfl,fun i hi=>by
  have:i=0:=by simpa using hi
  subst this
  exact h0⟩,fun e=>(by cases e),by simpa using hc⟩
 obtain ⟨v',w',hr,h2,h3,h4⟩:=run_append_sl w o.type base v n xs hown _ [z] hz (by simp;omega) hbase
 have h2':w'.ownsRow base 3 1 v' (n+1) (xs ++ [.int .i64 z]):=h2
 obtain ⟨g',cap',rfl,hb⟩:=owns_slice h2'
 refine wpList_plain hgd fun K hK=>?_
 unfold Oper.wp execOp
 simp only [ho,resolve,invoke,builtin,Sem.run_bind,Sem.run_pure,Result.andThen_ok,List.map_toArray,List.map_cons,List.map_nil,hs,hx,hr]
 refine hK _ _ (h g' cap' w' h2' h3 ?_ hb)
 rcases h4 with h4 | h4
 ·left;rw [← h4];rfl
 ·right;simpa [Value.ownBlock] using h4
theorem owns_kept {w w':World}{base:Nat}{e:TypeId}{size:Nat}{v:Value}{n:Nat}{xs:List Value} (h:w.ownsRow base e size v n xs) (hk:∀ r,v.ownBlock=some r→w'.heap[r]?=w.heap[r]?):w'.ownsRow base e size v n xs:=by
 refine ⟨h.1,?_⟩
 rcases h.2 with h2 | ⟨g,cap,cur,rfl,hb,hg,r⟩
 ·exact .inl h2
 ·exact .inr ⟨g,cap,cur,rfl,hb,by rw [hk g rfl];exact hg,r⟩
end Go.Proofs.YtpiacnnifdjlkabGreatDoor
namespace Go.Proofs.YtpiacnnifdjlkabGreatDoor
def wayL (A:Aut):List Int→Nat→Nat→Prop
 | [],q,q'=>q=q'
 | c :: cs,q,q'=>∃ z:Nat,(∃ s ∈ A.steps,s.f=q∧s.l=c∧s.t=z)∧wayL A cs z q'
theorem wayL_append {A:Aut}:∀ {us vs:List Int}{x y z:Nat},wayL A us x y→wayL A vs y z→wayL A (us ++ vs) x z
 | [],vs,x,y,z,h,k=>by have e:x=y:=h;subst e;exact k
 | c :: us,vs,x,y,z,h,k=>by
  obtain ⟨u,h1,h2⟩:=h
  exact ⟨u,h1,wayL_append h2 k⟩
theorem wayL_one {A:Aut}{s:Stp} (hs:s ∈ A.steps) {x y:Nat} (hx:s.f=x) (hy:s.t=y):wayL A [s.l] x y:=⟨y,⟨s,hs,hx,rfl,hy⟩,rfl⟩
theorem pathU_of_way {A:Aut}{u:Nat→Int}:∀ {us:List Int}{t x y:Nat},wayL A us x y→(∀ j,j < us.length→u (t+j)=us.getD j 0)→pathU A u us.length t x y
 | [],t,x,y,h,_=>h
 | c :: us,t,x,y,h,k=>by
  obtain ⟨z,⟨s,hs,e1,e2,e3⟩,h2⟩:=h
  refine ⟨z,⟨s,hs,e1,?_,e3⟩,pathU_of_way h2 (fun j hj=>?_)⟩
  ·have:=k 0 (by simp)
   simp at this
   rw [this];exact e2
  ·have:=k (j+1) (by simp;omega)
   simp only [List.getD_cons_succ] at this
   rw [← this]
   congr 1
   omega
theorem way_of_pathU {A:Aut}{u:Nat→Int}:∀ {n t x y:Nat},pathU A u n t x y→∃ us:List Int,us.length=n∧wayL A us x y
 | 0,_,_,_,h=>⟨[],rfl,h⟩
 | n+1,t,x,y,h=>by
  obtain ⟨z,⟨s,hs,e1,e2,e3⟩,h2⟩:=h
  obtain ⟨us,hl,hw⟩:=way_of_pathU h2
  exact ⟨s.l :: us,by simp [hl],z,⟨s,hs,e1,rfl,e3⟩,hw⟩
theorem lat_front {hs ls:List Int}{j:Nat} (h:j < hs.length):lat hs ls j=hs.getD j 0:=by unfold lat;rw [if_pos h]
theorem lat_round {hs ls:List Int}{i j:Nat} (h:j < ls.length):lat hs ls (hs.length+i * ls.length+j)=ls.getD j 0:=by
 unfold lat
 rw [if_neg (by omega),show hs.length+i * ls.length+j - hs.length=j+i * ls.length by omega,Nat.add_mul_mod_self_right,Nat.mod_eq_of_lt h]
theorem takes_of_way {A:Aut}{hs ls:List Int}{i g:Nat} (hi:i < A.first.length) (h1:wayL A hs (A.first.getD i 0).toNat g) (hg:A.good.getD g false=true) (h2:wayL A ls g g) (hL:0 < ls.length):TakesU A (lat hs ls):=
 ⟨i,hi,hs.length,g,ls.length,pathU_of_way h1 (fun j hj=>by rw [Nat.zero_add];exact lat_front hj),hg,hL,fun k=>pathU_of_way h2 (fun j hj=>lat_round hj)⟩
theorem way_of_takes {A:Aut}{u:Nat→Int} (h:TakesU A u):∃ i,i < A.first.length∧∃ us vs g,wayL A us (A.first.getD i 0).toNat g∧A.good.getD g false=true∧0 < vs.length∧wayL A vs g g:=by
 obtain ⟨i,hi,n,q,m,h1,hg,hm,hc⟩:=h
 obtain ⟨us,_,hu⟩:=way_of_pathU h1
 obtain ⟨vs,hl,hv⟩:=way_of_pathU (hc 0)
 exact ⟨i,hi,us,vs,q,hu,hg,by omega,hv⟩
theorem way_closed {A:Aut}{P:Nat→Prop}{Q:Nat→Prop} (hP:∀ x,P x→∀ s ∈ A.steps,s.f=(x:Nat)→∃ y:Nat,s.t=y∧Q y) (hQ:∀ x,Q x→P x):∀ {us:List Int}{x y:Nat},P x→wayL A us x y→us ≠ []→Q y
 | [],_,_,_,_,h=>absurd rfl h
 | [c],x,y,hx,h,_=>by
  obtain ⟨z,⟨s,hs,e1,_,e3⟩,h2⟩:=h
  have e:z=y:=h2
  subst e
  obtain ⟨y',e,hq⟩:=hP x hx s hs e1
  have:z=y':=by omega
  rw [this];exact hq
 | c :: d :: us,x,y,hx,h,_=>by
  obtain ⟨z,⟨s,hs,e1,_,e3⟩,h2⟩:=h
  obtain ⟨y',e,hq⟩:=hP x hx s hs e1
  have:z=y':=by omega
  rw [← this] at hq
  exact way_closed hP hQ (hQ _ hq) h2 (by simp)
structure ByOk (A:Aut) (from_:List Int) (ord:List Nat) (by_:Nat→Stp):Prop where
 nodup:ord.Nodup
 step:∀ i,i < ord.length→by_ (ord.getD i 0) ∈ A.steps∧(by_ (ord.getD i 0)).t=(ord.getD i 0:Nat)
 ahead:∀ i,i < ord.length→(by_ (ord.getD i 0)).f ∈ from_ ∨ ∃ j,j < i∧(by_ (ord.getD i 0)).f=(ord.getD j 0:Nat)
theorem getD_append_left {α:Type}{xs ys:List α}{d:α}{i:Nat} (h:i < xs.length):(xs ++ ys).getD i d=xs.getD i d:=by simp [List.getD,List.getElem?_append_left h]
theorem getD_append_last {α:Type}{xs:List α}{y d:α}:(xs ++ [y]).getD xs.length d=y:=by simp [List.getD]
theorem getD_mem {α:Type}{xs:List α}{d:α}{i:Nat} (h:i < xs.length):xs.getD i d ∈ xs:=by simp [List.getD,h]
def setBy (by_:Nat→Stp) (s:Stp):Nat→Stp:=fun i=>if (i:Int)=s.t then s else by_ i
theorem ByOk.meet {A:Aut}{from_:List Int}{ord:List Nat}{by_:Nat→Stp} (h:ByOk A from_ ord by_) {s:Stp}{t:Nat} (hs:s ∈ A.steps) (ht:s.t=t) (hn:t ∉ ord) (hf:s.f ∈ from_ ∨ ∃ q ∈ ord,s.f=(q:Nat)):ByOk A from_ (ord ++ [t]) (setBy by_ s):=by
 have hold:∀ i,i < ord.length→setBy by_ s ((ord ++ [t]).getD i 0)=by_ (ord.getD i 0):=fun i hi=>by
  rw [getD_append_left hi]
  unfold setBy
  rw [if_neg]
  intro e
  have:ord.getD i 0=t:=by omega
  exact hn (by rw [← this];exact getD_mem hi)
 have hnew:setBy by_ s ((ord ++ [t]).getD ord.length 0)=s:=by
  rw [getD_append_last]
  unfold setBy
  rw [if_pos ht.symm]
 refine ⟨?_,fun i hi=>?_,fun i hi=>?_⟩
 ·rw [List.nodup_append]
  refine ⟨h.nodup,by simp,fun a ha b hb=>?_⟩
  rw [List.mem_singleton] at hb
  subst hb
  exact fun e=>hn (by rw [← e];exact ha)
 ·rw [List.length_append,List.length_singleton] at hi
  by_cases e:i=ord.length
  ·subst e
   rw [hnew,getD_append_last]
   exact ⟨hs,ht⟩
  ·rw [hold i (by omega),getD_append_left (by omega)]
   exact h.step i (by omega)
 ·rw [List.length_append,List.length_singleton] at hi
  by_cases e:i=ord.length
  ·subst e
   rw [hnew]
   rcases hf with hf | ⟨q,hq,hf⟩
   ·exact Or.inl hf
   ·obtain ⟨j,hj,rfl⟩:=List.mem_iff_getElem.1 hq
    refine Or.inr ⟨j,hj,?_⟩
    rw [getD_append_left hj,hf]
    simp [List.getD,hj]
  ·rw [hold i (by omega)]
   rcases h.ahead i (by omega) with h1 | ⟨j,hj,h1⟩
   ·exact Or.inl h1
   ·exact Or.inr ⟨j,hj,by rw [getD_append_left (by omega)];exact h1⟩
theorem ByOk.nil (A:Aut) (from_:List Int) (by_:Nat→Stp):ByOk A from_ [] by_:=⟨List.nodup_nil,fun _ h=>absurd h (Nat.not_lt_zero _),fun _ h=>absurd h (Nat.not_lt_zero _)⟩
def BackAt (A:Aut) (from_:List Int) (ord:List Nat) (end_:Nat) (us:List Int) (q:Int):Prop:=
 us ≠ []∧us.length≤ord.length∧0≤q∧wayL A us.reverse q.toNat end_∧(q ∈ from_ ∨ ∃ i,i < ord.length∧q=(ord.getD i 0:Nat)∧us.length+i < ord.length)
theorem back_begin {A:Aut}{from_:List Int}{ord:List Nat}{by_:Nat→Stp} (hA:∀ s ∈ A.steps,0≤s.f) (h:ByOk A from_ ord by_) {e:Nat} (he:e ∈ ord):BackAt A from_ ord e [(by_ e).l] (by_ e).f:=by
 obtain ⟨i,hi,rfl⟩:=List.mem_iff_getElem.1 he
 have hg:ord.getD i 0=ord[i]:=by simp [List.getD,hi]
 obtain ⟨h1,h2⟩:=h.step i hi
 have h3:=h.ahead i hi
 rw [hg] at h1 h2 h3
 have h0:=hA _ h1
 refine ⟨by simp,by simp;omega,h0,wayL_one h1 (by omega) h2,?_⟩
 rcases h3 with h3 | ⟨j,hj,h3⟩
 ·exact Or.inl h3
 ·exact Or.inr ⟨j,by omega,h3,by simp;omega⟩
theorem back_on {A:Aut}{from_:List Int}{ord:List Nat}{by_:Nat→Stp} (hA:∀ s ∈ A.steps,0≤s.f) (h:ByOk A from_ ord by_) {e:Nat}{us:List Int}{q:Int} (hb:BackAt A from_ ord e us q) (hq:q ∉ from_):q.toNat ∈ ord∧us.length < ord.length∧BackAt A from_ ord e (us ++ [(by_ q.toNat).l]) (by_ q.toNat).f:=by
 obtain ⟨_,hl,h0,hw,hor⟩:=hb
 rcases hor with hor | ⟨i,hi,rfl,hlt⟩
 ·exact absurd hor hq
 rw [Int.toNat_natCast] at hw ⊢
 obtain ⟨h1,h2⟩:=h.step i hi
 have h3:=h.ahead i hi
 have h4:=hA _ h1
 refine ⟨getD_mem hi,by omega,by simp,by simp;omega,h4,?_,?_⟩
 ·rw [List.reverse_append]
  exact wayL_append (wayL_one h1 (by omega) h2) hw
 ·rcases h3 with h3 | ⟨j,hj,h3⟩
  ·exact Or.inl h3
  ·exact Or.inr ⟨j,by omega,h3,by simp;omega⟩
theorem back_done {A:Aut}{from_:List Int}{ord:List Nat}{e:Nat}{us:List Int}{q:Int} (hb:BackAt A from_ ord e us q) (hq:q ∈ from_):us.reverse ≠ []∧us.reverse.length≤ord.length∧∃ x ∈ from_,wayL A us.reverse x.toNat e:=
 ⟨by simpa using hb.1,by rw [List.length_reverse];exact hb.2.1,q,hq,hb.2.2.2.1⟩
structure Look (A:Aut) (N:Nat) (F:Nat→Bool) (from_:List Int) (ord:List Nat) (by_:Nat→Stp) (k:Nat):Prop where
 ok:ByOk A from_ ord by_
 range:∀ q ∈ ord,q < N
 not:∀ q ∈ ord,F q=false
 closed:∀ j,j < k→∀ s ∈ A.steps,s.f=(from_ ++ ord.map (fun q:Nat=>(q:Int))).getD j 0→∃ y ∈ ord,s.t=(y:Nat)
theorem nodup_le:∀ (N:Nat) (l:List Nat),l.Nodup→(∀ q ∈ l,q < N)→l.length≤N
 | 0,l,_,h=>by
  cases l with
  | nil=>exact Nat.le_refl _
  | cons a l=>exact absurd (h a (by simp)) (Nat.not_lt_zero _)
 | N+1,l,hn,h=>by
  have h1:=nodup_le N (l.erase N) (hn.erase N) (fun q hq=>by
   have hm:=(List.Nodup.mem_erase_iff hn).1 hq
   have:=h q hm.2
   omega)
  have:=List.length_erase (a:=N) (l:=l)
  split at this <;> omega
theorem Look.few {A:Aut}{N:Nat}{F:Nat→Bool}{from_:List Int}{ord:List Nat}{by_:Nat→Stp}{k:Nat} (h:Look A N F from_ ord by_ k):ord.length≤N:=by
 exact nodup_le N ord h.ok.nodup h.range
theorem Look.done {A:Aut}{N:Nat}{F:Nat→Bool}{from_:List Int}{ord:List Nat}{by_:Nat→Stp}{k:Nat} (h:Look A N F from_ ord by_ k) (hk:from_.length+ord.length≤k) (h0:∀ x ∈ from_,0≤x) {x:Int} (hx:x ∈ from_) {us:List Int}{y:Nat} (hw:wayL A us x.toNat y) (hne:us ≠ []):F y=false:=by
 refine h.not y (way_closed (P:=fun z:Nat=>(z:Int) ∈ from_ ++ ord.map (fun q:Nat=>(q:Int))) (Q:=fun z=>z ∈ ord) ?_ ?_ ?_ hw hne)
 ·intro z hz s hs e
  obtain ⟨j,hj,hjz⟩:=List.mem_iff_getElem.1 hz
  obtain ⟨y,hy,e2⟩:=h.closed j (by simp at hj;omega) s hs (by rw [e,← hjz];simp only [List.getD,List.getElem?_eq_getElem hj,Option.getD_some])
  exact ⟨y,e2,hy⟩
 ·intro z hz
  exact List.mem_append_right _ (List.mem_map.2 ⟨z,hz,rfl⟩)
 ·refine List.mem_append_left _ ?_
  have:=h0 x hx
  rw [show ((x.toNat:Nat):Int)=x by omega]
  exact hx
def stepU (A:Aut) (x:Nat) (c:Int) (y:Nat):Prop:=∃ s ∈ A.steps,s.f=x∧s.l=c∧s.t=y
def TakesI (A:Aut) (u:Nat→Int):Prop:=
 ∃ r:Nat→Nat,(∃ i,i < A.first.length∧(A.first.getD i 0).toNat=r 0)∧(∀ t,stepU A (r t) (u t) (r (t+1)))∧∀ t,∃ k,t≤k∧A.good.getD (r k) false=true
theorem pathU_fun {A:Aut}{u:Nat→Int}:∀ {n t x y:Nat},pathU A u n t x y→∃ f:Nat→Nat,f 0=x∧f n=y∧∀ j,j < n→stepU A (f j) (u (t+j)) (f (j+1))
 | 0,t,x,y,h=>⟨fun _=>x,rfl,h,fun j hj=>absurd hj (Nat.not_lt_zero _)⟩
 | n+1,t,x,y,h=>by
  obtain ⟨z,hz,h2⟩:=h
  obtain ⟨f,f0,fn,hf⟩:=pathU_fun h2
  refine ⟨fun j=>if j=0 then x else f (j - 1),rfl,by simpa using fn,fun j hj=>?_⟩
  dsimp only
  by_cases e:j=0
  ·subst e
   simp only [if_true,Nat.add_zero,Nat.zero_add,Nat.add_one_ne_zero,if_false,Nat.sub_self,f0]
   exact hz
  ·have:=hf (j - 1) (by omega)
   rw [if_neg e,if_neg (by omega),show j+1 - 1=j - 1+1 by omega,show t+j=t+1+(j - 1) by omega]
   exact this
theorem pathU_of_fun {A:Aut}{u:Nat→Int}{f:Nat→Nat}:∀ {n t:Nat},(∀ j,j < n→stepU A (f (t+j)) (u (t+j)) (f (t+j+1)))→pathU A u n t (f t) (f (t+n))
 | 0,t,_=>rfl
 | n+1,t,h=>by
  refine ⟨f (t+1),h 0 (by omega),?_⟩
  have:=pathU_of_fun (f:=f) (u:=u) (A:=A) (n:=n) (t:=t+1) (fun j hj=>by have:=h (j+1) (by omega);rwa [show t+(j+1)=t+1+j by omega] at this)
  rwa [show t+1+n=t+(n+1) by omega] at this
theorem takesI_of {A:Aut}{u:Nat→Int} (h:TakesU A u):TakesI A u:=by
 obtain ⟨i,hi,n,q,m,h1,hg,hm,hc⟩:=h
 obtain ⟨f,f0,fn,hf⟩:=pathU_fun h1
 have hex:=fun j=>pathU_fun (hc j)
 obtain ⟨g,hgg⟩:∃ g:Nat→Nat→Nat,∀ j,g j 0=q∧g j m=q∧∀ i,i < m→stepU A (g j i) (u (n+j * m+i)) (g j (i+1)):=⟨fun j=>Classical.choose (hex j),fun j=>Classical.choose_spec (hex j)⟩
 have hg0':∀ j,g j 0=q:=fun j=>(hgg j).1
 have hgm':∀ j,g j m=q:=fun j=>(hgg j).2.1
 have hgs':∀ j i,i < m→stepU A (g j i) (u (n+j * m+i)) (g j (i+1)):=fun j=>(hgg j).2.2
 refine ⟨fun t=>if t < n then f t else g ((t - n) / m) ((t - n) % m),⟨i,hi,?_⟩,fun t=>?_,fun t=>?_⟩
 ·by_cases h0:0 < n
  ·simp only [h0,if_true,f0]
  ·have:n=0:=by omega
   subst this
   simp only [Nat.lt_irrefl,if_false,Nat.sub_self,Nat.zero_div,Nat.zero_mod,hg0']
   rw [← fn,f0]
 ·dsimp only
  by_cases ht:t < n
  ·rw [if_pos ht]
   have h2:=hf t ht
   rw [Nat.zero_add] at h2
   by_cases ht1:t+1 < n
   ·rw [if_pos ht1];exact h2
   ·rw [if_neg ht1,show t+1 - n=0 by omega,Nat.zero_div,Nat.zero_mod,hg0']
    rw [show t+1=n by omega,fn] at h2
    exact h2
  ·rw [if_neg ht,if_neg (by omega),show t+1 - n=t - n+1 by omega]
   have hd:=Nat.div_add_mod (t - n) m
   have hl:=Nat.mod_lt (t - n) hm
   have h2:=hgs' ((t - n) / m) ((t - n) % m) hl
   rw [show n+(t - n) / m * m+(t - n) % m=t by rw [Nat.mul_comm];omega] at h2
   by_cases e:(t - n) % m+1=m
   ·have e1:(t - n+1) % m=0:=by
     rw [Nat.add_mod]
     by_cases h1:m=1
     ·subst h1;exact Nat.mod_one _
     ·rw [Nat.mod_eq_of_lt (show 1 < m by omega),e,Nat.mod_self]
    rw [e,hgm'] at h2
    rw [e1,hg0']
    exact h2
   ·have e1:(t - n+1) % m=(t - n) % m+1:=by
     rw [Nat.add_mod,Nat.mod_eq_of_lt (show 1 < m by omega),Nat.mod_eq_of_lt (by omega)]
    have e2:(t - n+1) / m=(t - n) / m:=by
     have h3:=Nat.div_add_mod (t - n+1) m
     rw [e1] at h3
     have h4:m * ((t - n+1) / m)=m * ((t - n) / m):=by omega
     exact Nat.eq_of_mul_eq_mul_left hm h4
    rw [e1,e2]
    exact h2
 ·refine ⟨n+t * m,Nat.le_trans (Nat.le_mul_of_pos_right t hm) (Nat.le_add_left _ _),?_⟩
  dsimp only
  rw [if_neg (by omega),Nat.add_sub_cancel_left,Nat.mul_mod_left,hg0']
  exact hg
theorem two_alike {M:Nat} (c:Nat→Nat) (h:∀ i,c i < M):∃ i j,i < j∧c i=c j:=by
 refine Classical.byContradiction fun hn=>?_
 have hinj:∀ i j,c i=c j→i=j:=fun i j e=>by
  rcases Nat.lt_trichotomy i j with h1 | h1 | h1
  ·exact absurd ⟨i,j,h1,e⟩ hn
  ·exact h1
  ·exact absurd ⟨j,i,h1,e.symm⟩ hn
 have h1:=nodup_le M ((List.range (M+1)).map c) (by
  rw [List.Nodup,List.pairwise_map]
  exact List.Pairwise.imp (fun hne e=>hne (hinj _ _ e)) (List.nodup_range (n:=M+1))) (fun q hq=>by
  obtain ⟨i,_,rfl⟩:=List.mem_map.1 hq
  exact h i)
 simp at h1
 omega
theorem lat_period {hs ls:List Int}{t:Nat} (ht:hs.length≤t) (k:Nat):lat hs ls (t+k * ls.length)=lat hs ls t:=by
 unfold lat
 rw [if_neg (by omega),if_neg (by omega),show t+k * ls.length - hs.length=t - hs.length+k * ls.length by omega,Nat.add_mul_mod_self_right]
theorem takesU_of {A:Aut}{hs ls:List Int}{N:Nat} (hL:0 < ls.length) (hN:∀ s ∈ A.steps,s.t < N) (h:TakesI A (lat hs ls)):TakesU A (lat hs ls):=by
 obtain ⟨r,⟨i,hi,h0⟩,hr,hg⟩:=h
 have hnext:=fun t=>hg t
 let nx:Nat→Nat:=fun t=>Classical.choose (hnext t)
 have hnx:∀ t,t≤nx t∧A.good.getD (r (nx t)) false=true:=fun t=>Classical.choose_spec (hnext t)
 let T:Nat→Nat:=fun k=>Nat.rec (nx (hs.length+1)) (fun _ t=>nx (t+1)) k
 have hT1:∀ k,T k < T (k+1):=fun k=>(hnx (T k+1)).1
 have hTm:∀ i j,i < j→T i < T j:=by
  intro i j hij
  induction j with
  | zero=>omega
  | succ j ih =>
   have:=hT1 j
   by_cases e:i=j
   ·subst e;exact this
   ·have:=ih (by omega);omega
 have hTg:∀ k,A.good.getD (r (T k)) false=true:=fun k=>by
  cases k with
  | zero=>exact (hnx (hs.length+1)).2
  | succ k=>exact (hnx (T k+1)).2
 have hT0:∀ k,hs.length+1≤T k:=fun k=>by
  have h1:hs.length+1≤T 0:=(hnx (hs.length+1)).1
  by_cases e:k=0
  ·subst e;exact h1
  ·have:=hTm 0 k (by omega);omega
 have hrN:∀ t,0 < t→r t < N:=fun t ht=>by
  obtain ⟨s,hs',_,_,e⟩:=hr (t - 1)
  have:=hN s hs'
  rw [show t - 1+1=t by omega] at e
  omega
 obtain ⟨a,b,hab,e⟩:=two_alike (M:=N * ls.length) (fun k=>r (T k) * ls.length+T k % ls.length) (fun k=>by
  have h1:=hrN (T k) (by have:=hT0 k;omega)
  have h2:=Nat.mod_lt (T k) hL
  have h3:(r (T k)+1) * ls.length≤N * ls.length:=Nat.mul_le_mul_right _ h1
  rw [Nat.succ_mul] at h3
  show r (T k) * ls.length+T k % ls.length < N * ls.length
  omega)
 have e1:r (T a)=r (T b):=by
  have h1:(r (T a) * ls.length+T a % ls.length) / ls.length=(r (T b) * ls.length+T b % ls.length) / ls.length:=congrArg (· / ls.length) e
  rw [Nat.mul_comm,Nat.mul_add_div hL,Nat.mul_comm,Nat.mul_add_div hL,Nat.div_eq_of_lt (Nat.mod_lt _ hL),Nat.div_eq_of_lt (Nat.mod_lt _ hL)] at h1
  omega
 have e2:T a % ls.length=T b % ls.length:=by
  have h1:r (T a) * ls.length+T a % ls.length=r (T b) * ls.length+T b % ls.length:=e
  rw [e1] at h1
  omega
 have hlt:=hTm a b hab
 have hTa:=hT0 a
 obtain ⟨p,hp⟩:∃ p,T b - T a=p * ls.length:=by
  refine ⟨(T b - T a) / ls.length,?_⟩
  have h1:(T b - T a) % ls.length=0:=by
   have h2:=Nat.div_add_mod (T a) ls.length
   have h3:=Nat.div_add_mod (T b) ls.length
   have h4:T b - T a=ls.length * (T b / ls.length) - ls.length * (T a / ls.length):=by omega
   rw [h4,← Nat.mul_sub,Nat.mul_mod_right]
  have:=Nat.div_add_mod (T b - T a) ls.length
  rw [h1,Nat.add_zero,Nat.mul_comm] at this
  exact this.symm
 refine ⟨i,hi,T a,r (T a),T b - T a,?_,hTg a,by omega,fun j=>?_⟩
 ·have:=pathU_of_fun (f:=r) (u:=lat hs ls) (A:=A) (n:=T a) (t:=0) (fun j _=>by rw [Nat.zero_add];exact hr j)
  rw [Nat.zero_add] at this
  rw [h0]
  exact this
 ·have hsh:∀ j,j < T b - T a→stepU A (r (T a+j)) (lat hs ls (T a+j)) (r (T a+j+1)):=fun j _=>hr (T a+j)
  have h1:=pathU_of_fun (f:=fun x=>r (x - (T a+j * (T b - T a))+T a)) (u:=lat hs ls) (A:=A) (n:=T b - T a) (t:=T a+j * (T b - T a)) (fun k hk=>by
   have h2:=hr (T a+k)
   rw [show T a+j * (T b - T a)+k - (T a+j * (T b - T a))+T a=T a+k by omega,show T a+j * (T b - T a)+k+1 - (T a+j * (T b - T a))+T a=T a+k+1 by omega]
   have h3:=lat_period (hs:=hs) (ls:=ls) (t:=T a+k) (by omega) (j * p)
   rw [show T a+j * (T b - T a)+k=T a+k+j * p * ls.length by rw [hp,Nat.mul_assoc];omega,h3]
   exact h2)
  simp only [Nat.sub_self,Nat.zero_add] at h1
  rw [show T a+j * (T b - T a)+(T b - T a) - (T a+j * (T b - T a))+T a=T b by omega,← e1] at h1
  exact h1
theorem takes_inf {A:Aut}{hs ls:List Int}{N:Nat} (hL:0 < ls.length) (hN:∀ s ∈ A.steps,s.t < N):TakesU A (lat hs ls) ↔ TakesI A (lat hs ls):=⟨takesI_of,takesU_of hL hN⟩
structure Mdl where
 props:Int
 labels:List Int
 first:List Int
 steps:List (List Int)
def mLab (m:Mdl) (q:Nat):Int:=m.labels.getD q 0
def mRow (m:Mdl) (q:Nat):List Int:=m.steps.getD q []
structure MRight (m:Mdl):Prop where
 p0:0≤m.props
 p3:m.props≤3
 n1:1≤m.labels.length
 n12:m.labels.length≤12
 rows:m.steps.length=m.labels.length
 lab:∀ x ∈ m.labels,0≤x∧x < 8
 first:∀ x ∈ m.first,0≤x∧x < m.labels.length
 step:∀ r ∈ m.steps,r ≠ []∧∀ x ∈ r,0≤x∧x < m.labels.length
structure WordsOf (m:Mdl) (A:Aut):Prop where
 n:A.n=m.labels.length
 m_:A.m=8
 good:A.good=List.replicate m.labels.length true
 first:∀ x,x ∈ A.first ↔ x ∈ m.first
 steps:∀ s,s ∈ A.steps ↔ ∃ q:Nat,q < m.labels.length∧s.f=q∧s.l=mLab m q∧s.t ∈ mRow m q
def reachM (m:Mdl) (u:Nat→Int):Nat→Nat→Prop
 | 0,q=>(q:Int) ∈ m.first
 | t+1,q=>∃ p,p < m.labels.length∧reachM m u t p∧mLab m p=u t∧(q:Int) ∈ mRow m p
def goesM (m:Mdl) (u:Nat→Int) (N:Nat):Prop:=∀ t,t < N→∃ p,p < m.labels.length∧reachM m u t p∧mLab m p=u t
theorem MRight.row {m:Mdl} (h:MRight m) {q:Nat} (hq:q < m.labels.length):mRow m q ≠ []∧∀ x ∈ mRow m q,0≤x∧x < m.labels.length:=by
 have:mRow m q ∈ m.steps:=getD_mem (by rw [h.rows];exact hq)
 exact h.step _ this
theorem reach_fun {m:Mdl}{u:Nat→Int}:∀ {t p:Nat},reachM m u t p→∃ f:Nat→Nat,(f 0:Int) ∈ m.first∧f t=p∧∀ j,j < t→f j < m.labels.length∧mLab m (f j)=u j∧(f (j+1):Int) ∈ mRow m (f j)
 | 0,p,h=>⟨fun _=>p,h,rfl,fun j hj=>absurd hj (Nat.not_lt_zero _)⟩
 | t+1,p,⟨p',hp',h,hl,hr⟩=>by
  obtain ⟨f,f0,ft,hf⟩:=reach_fun h
  refine ⟨fun j=>if j≤t then f j else p,by simpa using f0,by simp;omega,fun j hj=>?_⟩
  dsimp only
  rw [if_pos (by omega:j≤t)]
  by_cases e:j=t
  ·subst e
   rw [if_neg (by omega),ft]
   exact ⟨hp',hl,hr⟩
  ·rw [if_pos (by omega)]
   exact hf j (by omega)
theorem pigeonM {N n:Nat}{c:Nat→Nat} (h:∀ k,k≤n→c k < N) (hn:N≤n):∃ a b,a < b∧b≤n∧c a=c b:=by
 refine Classical.byContradiction fun hno=>?_
 have hnd:((List.range (n+1)).map c).Nodup:=by
  rw [List.Nodup,List.pairwise_map]
  refine List.Pairwise.imp_of_mem (R:=fun a b=>a < b) ?_ List.pairwise_lt_range
  intro a b ha hb hab e
  exact hno ⟨a,b,hab,by have:=List.mem_range.1 hb;omega,e⟩
 have:=nodup_le N _ hnd (fun q hq=>by
  obtain ⟨k,hk,rfl⟩:=List.mem_map.1 hq
  exact h k (by have:=List.mem_range.1 hk;omega))
 simp at this
 omega
theorem WordsOf.step {m:Mdl}{A:Aut} (hA:WordsOf m A) {x y:Nat}{c:Int}:stepU A x c y ↔ x < m.labels.length∧mLab m x=c∧(y:Int) ∈ mRow m x:=by
 constructor
 ·rintro ⟨s,hs,e1,e2,e3⟩
  obtain ⟨q,hq,k1,k2,k3⟩:=(hA.steps s).1 hs
  have:q=x:=by omega
  subst this
  exact ⟨hq,by rw [← e2,k2],by rw [← e3];exact k3⟩
 ·rintro ⟨h1,h2,h3⟩
  exact ⟨⟨x,c,y⟩,(hA.steps _).2 ⟨x,h1,rfl,h2.symm,h3⟩,rfl,rfl,rfl⟩
theorem takes_goes {m:Mdl}{A:Aut}{u:Nat→Int} (hm:MRight m) (hA:WordsOf m A) (h:TakesI A u) (N:Nat):goesM m u N:=by
 obtain ⟨r,⟨i,hi,e⟩,hr,_⟩:=h
 have hre:∀ t,reachM m u t (r t):=by
  intro t
  induction t with
  | zero =>
   show (r 0:Int) ∈ m.first
   have h1:A.first.getD i 0 ∈ m.first:=(hA.first _).1 (getD_mem hi)
   have:=hm.first _ h1
   rw [← e,Int.toNat_of_nonneg this.1]
   exact h1
  | succ t ih =>
   obtain ⟨h1,h2,h3⟩:=hA.step.1 (hr t)
   exact ⟨r t,h1,ih,h2,h3⟩
 intro t _
 obtain ⟨h1,h2,_⟩:=hA.step.1 (hr t)
 exact ⟨r t,h1,hre t,h2⟩
theorem goes_takes {m:Mdl}{A:Aut}{hs ls:List Int} (hA:WordsOf m A) (hL:0 < ls.length) (h:goesM m (lat hs ls) (hs.length+(m.labels.length+1) * ls.length)):TakesU A (lat hs ls):=by
 have hN:hs.length+m.labels.length * ls.length < hs.length+(m.labels.length+1) * ls.length:=by rw [Nat.add_mul];omega
 obtain ⟨p,hp,hr,hl⟩:=h _ hN
 obtain ⟨f,f0,ft,hf⟩:=reach_fun hr
 have hlt:∀ j,j≤hs.length+m.labels.length * ls.length→f j < m.labels.length:=fun j hj=>by
  by_cases e:j=hs.length+m.labels.length * ls.length
  ·rw [e,ft];exact hp
  ·exact (hf j (by omega)).1
 have hk:∀ k,k≤m.labels.length→hs.length+k * ls.length≤hs.length+m.labels.length * ls.length:=fun k hk=>Nat.add_le_add_left (Nat.mul_le_mul_right _ hk) _
 obtain ⟨a,b,hab,hb,e⟩:=pigeonM (N:=m.labels.length) (n:=m.labels.length) (c:=fun k=>f (hs.length+k * ls.length)) (fun k h=>hlt _ (hk k h)) (Nat.le_refl _)
 have hs':∀ j,j < hs.length+m.labels.length * ls.length→stepU A (f j) (lat hs ls j) (f (j+1)):=fun j hj=>hA.step.2 (hf j hj)
 have hfst:∃ i,i < A.first.length∧A.first.getD i 0=(f 0:Int):=by
  obtain ⟨i,hi,e⟩:=List.getElem_of_mem ((hA.first _).2 f0)
  exact ⟨i,hi,by simp [List.getD,hi,e]⟩
 obtain ⟨i,hi,ei⟩:=hfst
 have hmul:(b - a) * ls.length+a * ls.length=b * ls.length:=by rw [← Nat.add_mul];congr 1;omega
 have hpos:0 < (b - a) * ls.length:=Nat.mul_pos (by omega) hL
 have hbl:=hk b hb
 refine ⟨i,hi,hs.length+a * ls.length,f (hs.length+a * ls.length),(b - a) * ls.length,?_,?_,hpos,fun j=>?_⟩
 ·have:=pathU_of_fun (f:=f) (u:=lat hs ls) (A:=A) (n:=hs.length+a * ls.length) (t:=0) (fun j hj=>by rw [Nat.zero_add];exact hs' j (by omega))
  rw [Nat.zero_add] at this
  rw [ei]
  exact this
 ·rw [hA.good]
  have:=hlt (hs.length+a * ls.length) (by omega)
  simp [List.getD,this]
 ·have:=pathU_of_fun (f:=fun t=>f (t - j * ((b - a) * ls.length))) (u:=lat hs ls) (A:=A) (n:=(b - a) * ls.length) (t:=hs.length+a * ls.length+j * ((b - a) * ls.length)) (fun i hi=>by
   rw [show hs.length+a * ls.length+j * ((b - a) * ls.length)+i - j * ((b - a) * ls.length)=hs.length+a * ls.length+i by omega,
    show hs.length+a * ls.length+j * ((b - a) * ls.length)+i+1 - j * ((b - a) * ls.length)=hs.length+a * ls.length+i+1 by omega,
    show hs.length+a * ls.length+j * ((b - a) * ls.length)+i=(hs.length+a * ls.length+i)+(j * (b - a)) * ls.length by rw [Nat.mul_assoc];omega,
    lat_period (by omega)]
   exact hs' _ (by omega))
  rw [show hs.length+a * ls.length+j * ((b - a) * ls.length) - j * ((b - a) * ls.length)=hs.length+a * ls.length by omega,
   show hs.length+a * ls.length+j * ((b - a) * ls.length)+(b - a) * ls.length - j * ((b - a) * ls.length)=hs.length+b * ls.length by omega] at this
  have e':f (hs.length+a * ls.length)=f (hs.length+b * ls.length):=e
  rw [← e'] at this
  exact this
theorem goes_iff {m:Mdl}{A:Aut}{hs ls:List Int} (hm:MRight m) (hA:WordsOf m A) (hL:0 < ls.length):goesM m (lat hs ls) (hs.length+(m.labels.length+1) * ls.length) ↔ TakesU A (lat hs ls):=
 ⟨goes_takes hA hL,fun h=>takes_goes hm hA (takesI_of h) _⟩
end Go.Proofs.YtpiacnnifdjlkabGreatDoor
