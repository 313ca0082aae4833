import Derived.Test.YtpiacnnifdjlkabGreatDoorRh
import Derived.Test.YtpiacnnifdjlkabGreatDoorVa
import Derived.Test.YtpiacnnifdjlkabGreatDoorCx
set_option maxRecDepth 100000
set_option maxHeartbeats 8000000
namespace Go.Proofs.YtpiacnnifdjlkabGreatDoor
open Go.RowKit Go.Sort
attribute [local go_sem] Oper.semAt_some
def zeroS (c:Nat):Array Value:=Array.replicate c (.int .i64 0)
theorem stepZero:Tryz.t88.zero=some (.agg #[.int .i64 0,.int .i64 0,.int .i64 0]):=by kernel_rfl
theorem stepBytes:Tryz.t88.bytes=24:=by kernel_rfl
theorem stepSize:Tryz.t88.size=3:=by kernel_rfl
theorem stepZCells:Value.cells (.agg #[.int .i64 0,.int .i64 0,.int .i64 0])=Array.replicate 3 (.int .i64 0):=by kernel_rfl
theorem make_steps (c:Nat) (h:c≤1000000) (w:World):(Instr.makeSlice 24 (.int .i64 c) (.int .i64 c)).run Tryz.prog w=.ok (.slice (some ⟨w.heap.size,0,none⟩) c c) (w.alloc (.cells (zeroS (c * 3)) 88)):=by
 rw [run_make w 24 88 Tryz.t88 (.agg #[.int .i64 0,.int .i64 0,.int .i64 0]) Tryz.underlying24 stepInfo stepZero .i64 .i64 c c (by omega) (by omega) (by rw [stepBytes];omega) (by omega)]
 have e:madeCells (Value.cells (.agg #[.int .i64 0,.int .i64 0,.int .i64 0])) (c * 3)=zeroS (c * 3):=by
  rw [stepZCells]
  apply Array.ext
  ·simp [size_madeCells,zeroS]
  ·intro i h1 h2
   have:i % 3 < 3:=Nat.mod_lt _ (by decide)
   simp [madeCells,zeroS,this]
 rw [stepSize,Int.toNat_natCast,e]
theorem BY.new {W:World}{g N:Nat} (h:W.heap[g]?=some (.cells (zeroS (N * 3)) 88)):BY W g N (fun _=>⟨0,0,0⟩):=
 ⟨fun i hi=>⟨by rw [cell_of_row W g _ _ _ _ h];unfold zeroS;rw [Array.getElem?_replicate,if_pos (by omega)],by rw [cell_of_row W g _ _ _ _ h];unfold zeroS;rw [Array.getElem?_replicate,if_pos (by omega)],by rw [cell_of_row W g _ _ _ _ h];unfold zeroS;rw [Array.getElem?_replicate,if_pos (by omega)]⟩,fun o=>by simp [World.frozen?,h],(Array.getElem?_eq_some_iff.1 h).1⟩
def putStep (W:World) (g t:Nat) (s:Stp):World:=((W.setCell ⟨g,t * 3,none⟩ (.int .i64 s.f)).setCell ⟨g,t * 3+1,none⟩ (.int .i64 s.l)).setCell ⟨g,t * 3+2,none⟩ (.int .i64 s.t)
theorem putStep_other (W:World) {g k:Nat} (t:Nat) (s:Stp) (h:k ≠ g):(putStep W g t s).heap[k]?=W.heap[k]?:=by
 unfold putStep
 rw [heap_setCell_other _ _ _ _ h,heap_setCell_other _ _ _ _ h,heap_setCell_other _ _ _ _ h]
theorem putStep_size (W:World) (g t:Nat) (s:Stp):(putStep W g t s).heap.size=W.heap.size:=by simp [putStep,World.setCell]
theorem BY.put {W:World}{g N t:Nat}{by_:Nat→Stp} (h:BY W g N by_) {s:Stp} (ht:s.t=(t:Nat)) (hN:t < N):BY (putStep W g t s) g N (setBy by_ s):=by
 obtain ⟨d0,d1,d2⟩:=h.cell t hN
 have hs:∀ (W:World) (a:Nat) (v:Value) (b:Nat) (u:Value),a ≠ b→W.cell? ⟨g,b,none⟩=some u→(W.setCell ⟨g,a,none⟩ v).cell? ⟨g,b,none⟩=some u:=fun W a v b u hne hu=>by
  rw [World.cell?_setCell_other _ _ _ _ (by simp <;> omega)]
  exact hu
 have hn:∀ (W:World) (a:Nat) (v u:Value),W.cell? ⟨g,a,none⟩=some u→(W.setCell ⟨g,a,none⟩ v).cell? ⟨g,a,none⟩=some v:=fun W a v u hu=>World.cell?_setCell_same _ _ _ hu
 refine ⟨fun i hi=>?_,fun o=>?_,by rw [putStep_size];exact h.lt⟩
 ·by_cases e:i=t
  ·subst e
   have es:setBy by_ s i=s:=by unfold setBy;rw [if_pos ht.symm]
   rw [es]
   unfold putStep
   refine ⟨hs _ _ _ _ _ (by omega) (hs _ _ _ _ _ (by omega) (hn _ _ _ _ d0)),hs _ _ _ _ _ (by omega) (hn _ _ _ _ (hs _ _ _ _ _ (by omega) d1)),hn _ _ _ _ (hs _ _ _ _ _ (by omega) (hs _ _ _ _ _ (by omega) d2))⟩
  ·have es:setBy by_ s i=by_ i:=by unfold setBy;rw [if_neg];omega
   rw [es]
   obtain ⟨c0,c1,c2⟩:=h.cell i hi
   unfold putStep
   exact ⟨hs _ _ _ _ _ (by omega) (hs _ _ _ _ _ (by omega) (hs _ _ _ _ _ (by omega) c0)),hs _ _ _ _ _ (by omega) (hs _ _ _ _ _ (by omega) (hs _ _ _ _ _ (by omega) c1)),hs _ _ _ _ _ (by omega) (hs _ _ _ _ _ (by omega) (hs _ _ _ _ _ (by omega) c2))⟩
 ·unfold putStep
  simp only [World.frozen?_setCell]
  exact h.soft o
theorem wpListIn_append_int {F:Fence}{k:Nat} (w:World) {ops:Array Oper}{rest:List Oper}{o:Oper}{a:Act}{Q:Exit→Act→World→Prop} (hgd:o.guard=none) (s x:Operand)
  (ho:o.op=.call { callee:=.builtin .append,args:=#[s,x],argTypes:=#[22,22] }) (base n:Nat) (v:Value) (xs:List Value) (hs:a.eval s=v)
  (hown:w.ownsRow base 3 1 v n xs) (B c:Nat) (z:Int) (hx:a.eval x=.slice (some ⟨B,0,none⟩) 1 c) (hc:1≤c) (h0:w.cell? ⟨B,0,none⟩=some (.int .i64 z)) (hn:n≤900000) (hbase:base≤w.heap.size)
  (h:∀ g' cap' w',w'.ownsRow base 3 1 (.slice (some ⟨g',0,none⟩) (n+1) cap') (n+1) (xs ++ [.int .i64 z])→w.grownBy w' v.ownBlock→(v.ownBlock=some g' ∨ g'=w.heap.size)→base≤g'→wpListIn F k Tryz.prog ops Q rest (a.put o.dst (.slice (some ⟨g',0,none⟩) (n+1) cap')) w'):wpListIn F k Tryz.prog ops Q (o :: rest) a w:=by
 have hz:IntSl w (.slice (some ⟨B,0,none⟩) 1 c) [z]:=⟨_,_,rfl,by simp [maxLen],Or.inr ⟨B,0,rfl,fun i hi=>by
  have:i=0:=by simpa using hi
  subst this
  exact h0⟩,fun e=>(by cases e),by simpa using hc⟩
 obtain ⟨v',w',hr,h2,h3,h4⟩:=run_append_sl w o.type base v n xs hown _ [z] hz (by simp;omega) hbase
 have h2':w'.ownsRow base 3 1 v' (n+1) (xs ++ [.int .i64 z]):=h2
 obtain ⟨g',cap',rfl,hb⟩:=owns_slice h2'
 refine wpListIn_plain hgd fun K hK=>?_
 unfold Oper.wpIn
 refine ⟨?_,?_⟩
 ·simp [Oper.about,ho,resolve,Target.leads,Sem.run_pure]
 ·rw [Oper.semAt_plain F _ _ (by rw [ho];intro c hc';cases hc')]
  simp only [execOp,ho,resolve,invoke,builtin,Sem.run_bind,Sem.run_pure,Result.andThen_ok,List.map_toArray,List.map_cons,List.map_nil,hs,hx,hr]
  refine hK _ _ (h g' cap' w' h2' h3 ?_ hb)
  rcases h4 with h4 | h4
  ·left;rw [← h4];rfl
  ·right;simpa [Value.ownBlock] using h4
def SY (Y:List Nat):World→Nat→Prop:=ownOf (Y.map fun y=>(y,0)) Y
def SWay (Y:List Nat) (bR bK gM gB BT:Nat):World→Nat→Prop:=ownOf ((BT,0) :: (bR,0) :: Y.map fun y=>(y,0)) (bR :: bK :: gM :: gB :: BT :: Y)
theorem sy_way {Y:List Nat}{bR bK gM gB BT:Nat}{W:World}{k:Nat} (h:SY Y W k):SWay Y bR bK gM gB BT W k:=by
 rcases h with h | ⟨p,hp,v,hv,hr⟩
 ·exact Or.inl (by simp [h])
 ·exact Or.inr ⟨p,List.mem_cons_of_mem _ (List.mem_cons_of_mem _ hp),v,hv,hr⟩
theorem way_parts {Y:List Nat}{bR bK gM gB BT:Nat}{W:World}{k:Nat} (h:SWay Y bR bK gM gB BT W k):k=bR ∨ k=bK ∨ k=gM ∨ k=gB ∨ k=BT ∨ (∃ v,W.cell? ⟨BT,0,none⟩=some v∧v.ownBlock=some k) ∨ (∃ v,W.cell? ⟨bR,0,none⟩=some v∧v.ownBlock=some k) ∨ SY Y W k:=by
 rcases h with h | ⟨p,hp,v,hv,hr⟩
 ·simp only [List.mem_cons] at h
  rcases h with h | h | h | h | h | h
  ·exact Or.inl h
  ·exact Or.inr (Or.inl h)
  ·exact Or.inr (Or.inr (Or.inl h))
  ·exact Or.inr (Or.inr (Or.inr (Or.inl h)))
  ·exact Or.inr (Or.inr (Or.inr (Or.inr (Or.inl h))))
  ·exact Or.inr (Or.inr (Or.inr (Or.inr (Or.inr (Or.inr (Or.inr (Or.inl h)))))))
 ·rw [List.mem_cons,List.mem_cons] at hp
  rcases hp with rfl | rfl | hp
  ·exact Or.inr (Or.inr (Or.inr (Or.inr (Or.inr (Or.inl ⟨v,hv,hr⟩)))))
  ·exact Or.inr (Or.inr (Or.inr (Or.inr (Or.inr (Or.inr (Or.inl ⟨v,hv,hr⟩))))))
  ·exact Or.inr (Or.inr (Or.inr (Or.inr (Or.inr (Or.inr (Or.inr (Or.inr ⟨p,hp,v,hv,hr⟩)))))))
theorem way_T {Y:List Nat}{bR bK gM gB BT:Nat}{W:World}{k:Nat}{v:Value} (hv:W.cell? ⟨BT,0,none⟩=some v) (hr:v.ownBlock=some k):SWay Y bR bK gM gB BT W k:=Or.inr ⟨(BT,0),by simp,v,hv,hr⟩
theorem way_R {Y:List Nat}{bR bK gM gB BT:Nat}{W:World}{k:Nat}{v:Value} (hv:W.cell? ⟨bR,0,none⟩=some v) (hr:v.ownBlock=some k):SWay Y bR bK gM gB BT W k:=Or.inr ⟨(bR,0),by simp,v,hv,hr⟩
theorem det_SY {Y:List Nat}{m:Nat} (hY:∀ k ∈ Y,k < m):Det m (SY Y):=det_ownOf (fun p hp=>by
 obtain ⟨y,hy,rfl⟩:=List.mem_map.1 hp
 exact hy) hY
theorem det_SWay {Y:List Nat}{bR bK gM gB BT m:Nat} (hY:∀ k ∈ Y,k < m) (h:bR < m∧bK < m∧gM < m∧gB < m∧BT < m):Det m (SWay Y bR bK gM gB BT):=det_ownOf (fun p hp=>by
 rw [List.mem_cons,List.mem_cons] at hp
 rcases hp with rfl | rfl | hp
 ·simp
 ·simp
 ·obtain ⟨y,hy,rfl⟩:=List.mem_map.1 hp
  simp [hy]) (fun k hk=>by
 simp only [List.mem_cons] at hk
 rcases hk with h | h | h | h | h | h
 all_goals first | omega | exact hY k h)
theorem sy_same {Y:List Nat}{W B:World} (h:∀ y ∈ Y,B.heap[y]?=W.heap[y]?) (k:Nat):SY Y B k ↔ SY Y W k:=by
 have hc:∀ p ∈ Y.map (fun y=>(y,0)),B.cell? ⟨p.1,p.2,none⟩=W.cell? ⟨p.1,p.2,none⟩:=fun p hp=>by
  obtain ⟨y,hy,rfl⟩:=List.mem_map.1 hp
  exact cell_same (h y hy)
 constructor
 ·rintro (h | ⟨p,hp,v,hv,hr⟩)
  ·exact Or.inl h
  ·exact Or.inr ⟨p,hp,v,by rw [← hc p hp];exact hv,hr⟩
 ·rintro (h | ⟨p,hp,v,hv,hr⟩)
  ·exact Or.inl h
  ·exact Or.inr ⟨p,hp,v,by rw [hc p hp];exact hv,hr⟩
structure WM (w:World) (Y:List Nat) (n m:Int) (fsv gsv ssv frv fnv:Value) (N bA bF bG bR bK gM bM gB bB base BT:Nat) (f:Nat→Bool) (by_:Nat→Stp) (xs:List Int) (W:World):Prop where
 hA:W.heap[bA]?=some (.cells #[.int .i64 n,.int .i64 m,fsv,gsv,ssv] 26)
 hF:W.heap[bF]?=some (.cells #[frv] 22)
 hG:W.heap[bG]?=some (.cells #[fnv] 128)
 hR:W.heap[bR]?=some (.cells #[.slice none 0 0] 22)
 hK:W.heap[bK]?=some (.cells #[.bool false] 4)
 hr:BR W gM N f
 hM:W.heap[bM]?=some (.cells #[.slice (some ⟨gM,0,none⟩) N N] 23)
 hS:BY W gB N by_
 hB:W.heap[bB]?=some (.cells #[.slice (some ⟨gB,0,none⟩) N N] 24)
 hT:∃ tv,W.heap[BT]?=some (.cells #[tv] 22)∧W.ownsRow base 3 1 tv xs.length (xs.map (.int .i64))∧∀ k,tv.ownBlock=some k→¬ SY Y W k
 lt:w.heap.size≤bA∧bA < bF∧bF < bG∧bG < bR∧bR < bK∧bK < gM∧gM < bM∧bM < gB∧gB < bB∧bB < base∧base≤BT∧BT < W.heap.size
 ke:KE (SY Y) w W
 yo:∀ k,SY Y W k→SY Y w k ∨ BT < k
 yw:∀ y ∈ Y,y < w.heap.size
 yb:∀ y ∈ Y,∃ lv,W.heap[y]?=some (.cells #[lv] 22)
section
variable {w:World}{Y:List Nat}{n m:Int}{fsv gsv ssv frv fnv:Value}{N bA bF bG bR bK gM bM gB bB base BT:Nat}{f:Nat→Bool}{by_:Nat→Stp}{xs:List Int}{W:World}
theorem WM.free (h:WM w Y n m fsv gsv ssv frv fnv N bA bF bG bR bK gM bM gB bB base BT f by_ xs W) (hYl:∀ k,SY Y w k→k < w.heap.size) {k:Nat} (h1:w.heap.size≤k) (h2:k≤BT):¬ SY Y W k:=fun hs=>by
 rcases h.yo k hs with h3 | h3
 ·have:=hYl k h3;omega
 ·omega
theorem WM.sy_lt (h:WM w Y n m fsv gsv ssv frv fnv N bA bF bG bR bK gM bM gB bB base BT f by_ xs W) (hYl:∀ k,SY Y w k→k < w.heap.size) {k:Nat} (hs:SY Y W k):k < W.heap.size:=by
 have:=h.ke.size
 rcases h.ke.own k hs with h3 | h3
 ·have:=hYl k h3;omega
 ·exact h3.2
theorem keep_eq {W B:World}{k:Nat} (hlt:k < W.heap.size) (h:∀ o,W.heap[k]?=some o→B.heap[k]?=some o):B.heap[k]?=W.heap[k]?:=by
 have ho:W.heap[k]?=some W.heap[k]:=Array.getElem?_eq_getElem hlt
 exact (h _ ho).trans ho.symm
theorem WM.ki {s d:Nat}{B:World} (h:WM w Y n m fsv gsv ssv frv fnv N bA bF bG bR bK gM bM gB bB base BT f by_ xs W) (hD:Det d (SY Y)) (hd:d≤W.heap.size) (hs:BT < s) (hk:KI s (SWay Y bR bK gM gB BT) W B):WM w Y n m fsv gsv ssv frv fnv N bA bF bG bR bK gM bM gB bB base BT f by_ xs B:=by
 have hl:=h.lt
 have hsz:=hk.size
 have hki:KI s (SY Y) W B:=⟨hk.os,hk.tape,hk.output,hk.size,fun k o ho hor=>hk.keep k o ho (hor.imp id sy_way)⟩
 have hsy:=hki.det hD hd
 obtain ⟨tv,t1,t2,t3⟩:=h.hT
 have tc:=cell_of_row W BT 0 _ _ _ t1
 refine ⟨hk.keep _ _ h.hA (Or.inl (by omega)),hk.keep _ _ h.hF (Or.inl (by omega)),hk.keep _ _ h.hG (Or.inl (by omega)),hk.keep _ _ h.hR (Or.inl (by omega)),hk.keep _ _ h.hK (Or.inl (by omega)),h.hr.of_block (keep_eq h.hr.lt fun o ho=>hk.keep _ _ ho (Or.inl (by omega))),hk.keep _ _ h.hM (Or.inl (by omega)),h.hS.of_block (keep_eq h.hS.lt fun o ho=>hk.keep _ _ ho (Or.inl (by omega))),hk.keep _ _ h.hB (Or.inl (by omega)),⟨tv,hk.keep _ _ t1 (Or.inl hs),owns_kept t2 (fun r hr=>keep_eq (t2.lt r hr).2 fun o ho=>hk.keep _ _ ho (Or.inr (way_T tc hr))),fun k e hS=>t3 k e ((hsy k).1 hS)⟩,by omega,⟨hk.os.trans h.ke.os,hk.tape.trans h.ke.tape,hk.output.trans h.ke.output,Nat.le_trans h.ke.size hk.size,fun k o ho hn=>hk.keep k o (h.ke.keep k o ho hn) (Or.inl (by have:=(Array.getElem?_eq_some_iff.1 ho).1;omega)),fun k hS=>(h.ke.own k ((hsy k).1 hS)).imp id (fun h2=>⟨h2.1,by omega⟩)⟩,fun k hS=>h.yo k ((hsy k).1 hS),h.yw,fun y hy=>by
  obtain ⟨lv,hlv⟩:=h.yb y hy
  exact ⟨lv,hk.keep _ _ hlv (Or.inl (by have:=h.yw y hy;omega))⟩⟩
theorem WM.below {d:Nat}{B:World} (h:WM w Y n m fsv gsv ssv frv fnv N bA bF bG bR bK gM bM gB bB base BT f by_ xs W) (hD:Det d (SY Y)) (hd:d≤W.heap.size) (hb:Below W.heap.size W B):WM w Y n m fsv gsv ssv frv fnv N bA bF bG bR bK gM bM gB bB base BT f by_ xs B:=
 h.ki hD hd (s:=W.heap.size) (by have:=h.lt;omega) (KI.of_below hb)
theorem WM.found {B:World} (h:WM w Y n m fsv gsv ssv frv fnv N bA bF bG bR bK gM bM gB bB base BT f by_ xs W) (hYl:∀ k,SY Y w k→k < w.heap.size) (hk:KE (SY Y) W B) (hyb:∀ y ∈ Y,∃ lv,B.heap[y]?=some (.cells #[lv] 22)):WM w Y n m fsv gsv ssv frv fnv N bA bF bG bR bK gM bM gB bB base BT f by_ xs B:=by
 have hl:=h.lt
 have hsz:=hk.size
 have hf:∀ k,w.heap.size≤k→k≤BT→¬ SY Y W k:=fun k h1 h2=>h.free hYl h1 h2
 obtain ⟨tv,t1,t2,t3⟩:=h.hT
 refine ⟨hk.keep _ _ h.hA (hf _ (by omega) (by omega)),hk.keep _ _ h.hF (hf _ (by omega) (by omega)),hk.keep _ _ h.hG (hf _ (by omega) (by omega)),hk.keep _ _ h.hR (hf _ (by omega) (by omega)),hk.keep _ _ h.hK (hf _ (by omega) (by omega)),h.hr.of_block (keep_eq h.hr.lt fun o ho=>hk.keep _ _ ho (hf _ (by omega) (by omega))),hk.keep _ _ h.hM (hf _ (by omega) (by omega)),h.hS.of_block (keep_eq h.hS.lt fun o ho=>hk.keep _ _ ho (hf _ (by omega) (by omega))),hk.keep _ _ h.hB (hf _ (by omega) (by omega)),⟨tv,hk.keep _ _ t1 (hf _ (by omega) (by omega)),owns_kept t2 (fun r hr=>keep_eq (t2.lt r hr).2 fun o ho=>hk.keep _ _ ho (t3 r hr)),fun k e hS=>?_⟩,by omega,h.ke.trans hk,fun k hS=>?_,h.yw,hyb⟩
 ·rcases hk.own k hS with h1 | h1
  ·exact t3 k e h1
  ·have:=(t2.lt k e).2;omega
 ·rcases hk.own k hS with h1 | h1
  ·exact h.yo k h1
  ·exact Or.inr (by omega)
theorem WM.put {B:World}{f':Nat→Bool}{by':Nat→Stp} (h:WM w Y n m fsv gsv ssv frv fnv N bA bF bG bR bK gM bM gB bB base BT f by_ xs W) (hY:∀ k ∈ Y,k < w.heap.size) (hos:B.os=W.os) (htp:B.tape=W.tape) (hop:B.output=W.output) (hsz:B.heap.size=W.heap.size) (ho:∀ k,k ≠ gM→k ≠ gB→B.heap[k]?=W.heap[k]?) (hr:BR B gM N f') (hS:BY B gB N by'):WM w Y n m fsv gsv ssv frv fnv N bA bF bG bR bK gM bM gB bB base BT f' by' xs B:=by
 have hl:=h.lt
 have hsy:∀ k,SY Y B k ↔ SY Y W k:=sy_same fun y hy=>ho y (by have:=hY y hy;omega) (by have:=hY y hy;omega)
 obtain ⟨tv,t1,t2,t3⟩:=h.hT
 have e:∀ k,k ≠ gM→k ≠ gB→∀ o,W.heap[k]?=some o→B.heap[k]?=some o:=fun k h1 h2 o h3=>(ho k h1 h2).trans h3
 refine ⟨e _ (by omega) (by omega) _ h.hA,e _ (by omega) (by omega) _ h.hF,e _ (by omega) (by omega) _ h.hG,e _ (by omega) (by omega) _ h.hR,e _ (by omega) (by omega) _ h.hK,hr,e _ (by omega) (by omega) _ h.hM,hS,e _ (by omega) (by omega) _ h.hB,⟨tv,e _ (by omega) (by omega) _ t1,owns_kept t2 (fun r hr=>ho r (by have:=(t2.lt r hr).1;omega) (by have:=(t2.lt r hr).1;omega)),fun k e hS=>t3 k e ((hsy k).1 hS)⟩,by omega,⟨hos.trans h.ke.os,htp.trans h.ke.tape,hop.trans h.ke.output,by have:=h.ke.size;omega,fun k o hk hn=>e k (by have:=(Array.getElem?_eq_some_iff.1 hk).1;omega) (by have:=(Array.getElem?_eq_some_iff.1 hk).1;omega) _ (h.ke.keep k o hk hn),fun k hS=>(h.ke.own k ((hsy k).1 hS)).imp id (fun h2=>⟨h2.1,by omega⟩)⟩,fun k hS=>h.yo k ((hsy k).1 hS),h.yw,fun y hy=>by
  obtain ⟨lv,hlv⟩:=h.yb y hy
  exact ⟨lv,e y (by have:=hY y hy;omega) (by have:=hY y hy;omega) _ hlv⟩⟩
theorem way_put_ke {B:World} (h:WM w Y n m fsv gsv ssv frv fnv N bA bF bG bR bK gM bM gB bB base BT f by_ xs W) (hY:∀ k ∈ Y,k < w.heap.size) (hos:B.os=W.os) (htp:B.tape=W.tape) (hop:B.output=W.output) (hsz:B.heap.size=W.heap.size) (ho:∀ k,k ≠ gM→k ≠ gB→B.heap[k]?=W.heap[k]?):KE (SWay Y bR bK gM gB BT) W B:=by
 have hl:=h.lt
 have hc:∀ p ∈ (BT,0) :: (bR,0) :: Y.map (fun y=>(y,0)),B.cell? ⟨p.1,p.2,none⟩=W.cell? ⟨p.1,p.2,none⟩:=fun p hp=>by
  rw [List.mem_cons,List.mem_cons] at hp
  rcases hp with rfl | rfl | hp
  ·exact cell_same (ho _ (by dsimp only;omega) (by dsimp only;omega))
  ·exact cell_same (ho _ (by dsimp only;omega) (by dsimp only;omega))
  ·obtain ⟨y,hy,rfl⟩:=List.mem_map.1 hp
   have:=hY y hy
   exact cell_same (ho _ (by dsimp only;omega) (by dsimp only;omega))
 refine ⟨hos,htp,hop,by omega,fun k o hk hn=>(ho k (fun e=>hn (Or.inl (by simp [e]))) (fun e=>hn (Or.inl (by simp [e])))).trans hk,fun k hS=>Or.inl ?_⟩
 rcases hS with h1 | ⟨p,hp,v,hv,hr⟩
 ·exact Or.inl h1
 ·exact Or.inr ⟨p,hp,v,by rw [← hc p hp];exact hv,hr⟩
theorem way_found_ke {B:World} (h:WM w Y n m fsv gsv ssv frv fnv N bA bF bG bR bK gM bM gB bB base BT f by_ xs W) (hYl:∀ k,SY Y w k→k < w.heap.size) (hk:KE (SY Y) W B):KE (SWay Y bR bK gM gB BT) W B:=by
 have hl:=h.lt
 refine KE.more hk (fun k hk=>by simp [hk]) (fun p hp=>List.mem_cons_of_mem _ (List.mem_cons_of_mem _ hp)) (fun p hp=>?_)
 rw [List.mem_cons,List.mem_cons] at hp
 rcases hp with rfl | rfl | hp
 ·exact Or.inr ⟨by dsimp only;omega,h.free hYl (by dsimp only;omega) (by dsimp only;omega)⟩
 ·exact Or.inr ⟨by dsimp only;omega,h.free hYl (by dsimp only;omega) (by dsimp only;omega)⟩
 ·exact Or.inl hp
theorem WM.way_lt (h:WM w Y n m fsv gsv ssv frv fnv N bA bF bG bR bK gM bM gB bB base BT f by_ xs W) (hYl:∀ k,SY Y w k→k < w.heap.size) {k:Nat} (hS:SWay Y bR bK gM gB BT W k):k < W.heap.size:=by
 have hl:=h.lt
 obtain ⟨tv,t1,t2,t3⟩:=h.hT
 rcases way_parts hS with h1 | h1 | h1 | h1 | h1 | ⟨v,hv,hvr⟩ | ⟨v,hv,hvr⟩ | h1
 ·omega
 ·omega
 ·omega
 ·omega
 ·omega
 ·rw [cell_of_row _ BT 0 _ _ _ t1] at hv
  have ev:v=tv:=by simpa using hv.symm
  subst ev
  exact (t2.lt k hvr).2
 ·rw [cell_of_row _ bR 0 _ _ _ h.hR] at hv
  have ev:v=.slice none 0 0:=by simpa using hv.symm
  subst ev
  cases hvr
 ·exact h.sy_lt hYl h1
theorem WM.way_not (h:WM w Y n m fsv gsv ssv frv fnv N bA bF bG bR bK gM bM gB bB base BT f by_ xs W) {k:Nat} (hk:k < w.heap.size) (hn:¬ SY Y w k):¬ SWay Y bR bK gM gB BT W k:=fun hS=>by
 have hl:=h.lt
 obtain ⟨tv,t1,t2,t3⟩:=h.hT
 rcases way_parts hS with h1 | h1 | h1 | h1 | h1 | ⟨v,hv,hvr⟩ | ⟨v,hv,hvr⟩ | h1
 ·omega
 ·omega
 ·omega
 ·omega
 ·omega
 ·rw [cell_of_row _ BT 0 _ _ _ t1] at hv
  have ev:v=tv:=by simpa using hv.symm
  subst ev
  have:=(t2.lt k hvr).1
  omega
 ·rw [cell_of_row _ bR 0 _ _ _ h.hR] at hv
  have ev:v=.slice none 0 0:=by simpa using hv.symm
  subst ev
  cases hvr
 ·rcases h.ke.own k h1 with h2 | h2
  ·exact hn h2
  ·omega
theorem WM.app {W8:World}{tv:Value}{g8 cap8:Nat}{z:Int} (h:WM w Y n m fsv gsv ssv frv fnv N bA bF bG bR bK gM bM gB bB base BT f by_ xs W) (hY:∀ k ∈ Y,k < w.heap.size) (hYl:∀ k,SY Y w k→k < w.heap.size) (ht:W.heap[BT]?=some (.cells #[tv] 22)) (hg:W.grownBy W8 tv.ownBlock) (hown:W8.ownsRow base 3 1 (.slice (some ⟨g8,0,none⟩) (xs.length+1) cap8) (xs.length+1) (xs.map (.int .i64) ++ [.int .i64 z])) (hor:tv.ownBlock=some g8 ∨ g8=W.heap.size) :
  WM w Y n m fsv gsv ssv frv fnv N bA bF bG bR bK gM bM gB bB base BT f by_ (xs ++ [z]) (W8.setCell ⟨BT,0,none⟩ (.slice (some ⟨g8,0,none⟩) (xs.length+1) cap8))∧KE (SWay Y bR bK gM gB BT) W (W8.setCell ⟨BT,0,none⟩ (.slice (some ⟨g8,0,none⟩) (xs.length+1) cap8)):=by
 have hl:=h.lt
 obtain ⟨tv',t1,t2,t3⟩:=h.hT
 have etv:tv'=tv:=by
  rw [ht] at t1
  injection t1 with e1
  injection e1 with e2
  have:=congrArg (fun a=>a[0]?) e2
  simpa using this.symm
 subst etv
 have hrow:∀ r,tv'.ownBlock=some r→base≤r∧r ≠ BT:=fun r hr=>⟨(t2.lt r hr).1,fun e=>by
  obtain ⟨c',fz,hc⟩:=owns_cells t2 r hr
  rw [e,ht] at hc
  injection hc with hc
  injection hc with _ hc2
  exact absurd hc2 (by decide)⟩
 have hsz8:=hg.size
 have hk8:∀ k,k < W.heap.size→(∀ r,tv'.ownBlock=some r→k ≠ r)→k ≠ BT→(W8.setCell ⟨BT,0,none⟩ (.slice (some ⟨g8,0,none⟩) (xs.length+1) cap8)).heap[k]?=W.heap[k]?:=fun k h1 h2 h3=>by
  rw [heap_setCell_other _ _ _ _ h3]
  exact hg.block k h1 (fun e=>h2 k e.symm rfl)
 have hlow:∀ k,k < base→(W8.setCell ⟨BT,0,none⟩ (.slice (some ⟨g8,0,none⟩) (xs.length+1) cap8)).heap[k]?=W.heap[k]?:=fun k hk=>hk8 k (by omega) (fun r hr e=>by have:=(hrow r hr).1;omega) (by omega)
 have hbt8:W8.heap[BT]?=some (.cells #[tv'] 22):=(hg.block BT (by omega) (fun e=>(hrow BT e.symm).2 rfl)).trans ht
 have hsy:∀ k,SY Y (W8.setCell ⟨BT,0,none⟩ (.slice (some ⟨g8,0,none⟩) (xs.length+1) cap8)) k ↔ SY Y W k:=sy_same fun y hy=>hlow y (by have:=hY y hy;omega)
 have hg8:¬ SY Y W g8:=by
  rcases hor with h1 | h1
  ·exact t3 g8 h1
  ·intro hS
   have:=h.sy_lt hYl hS
   omega
 have hne8:g8 ≠ BT:=by
  rcases hor with h1 | h1
  ·exact (hrow g8 h1).2
  ·omega
 have e:∀ k,k < base→∀ o,W.heap[k]?=some o→(W8.setCell ⟨BT,0,none⟩ (.slice (some ⟨g8,0,none⟩) (xs.length+1) cap8)).heap[k]?=some o:=fun k h1 o h3=>(hlow k h1).trans h3
 have hsz9:(W8.setCell ⟨BT,0,none⟩ (.slice (some ⟨g8,0,none⟩) (xs.length+1) cap8)).heap.size=W8.heap.size:=by simp [World.setCell]
 have hTn:=heap_setCell_row 0 (.slice (some ⟨g8,0,none⟩) (xs.length+1) cap8) hbt8
 refine ⟨⟨e _ (by omega) _ h.hA,e _ (by omega) _ h.hF,e _ (by omega) _ h.hG,e _ (by omega) _ h.hR,e _ (by omega) _ h.hK,h.hr.of_block (hlow _ (by omega)),e _ (by omega) _ h.hM,h.hS.of_block (hlow _ (by omega)),e _ (by omega) _ h.hB,⟨.slice (some ⟨g8,0,none⟩) (xs.length+1) cap8,hTn,?_,fun k ek hS=>?_⟩,by omega,⟨hg.os.trans h.ke.os,hg.tape.trans h.ke.tape,hg.output.trans h.ke.output,by have:=h.ke.size;omega,fun k o hk hn=>e k (by have:=(Array.getElem?_eq_some_iff.1 hk).1;omega) _ (h.ke.keep k o hk hn),fun k hS=>(h.ke.own k ((hsy k).1 hS)).imp id (fun h2=>⟨h2.1,by omega⟩)⟩,fun k hS=>h.yo k ((hsy k).1 hS),h.yw,fun y hy=>by
  obtain ⟨lv,hlv⟩:=h.yb y hy
  exact ⟨lv,e y (by have:=hY y hy;omega) _ hlv⟩⟩,⟨hg.os,hg.tape,hg.output,by omega,fun k o hk hn=>?_,fun k hS=>?_⟩⟩
 ·have:=owns_kept (w':=W8.setCell ⟨BT,0,none⟩ (.slice (some ⟨g8,0,none⟩) (xs.length+1) cap8)) hown (fun r hr=>heap_setCell_other _ _ _ _ (by
   have er:r=g8:=by simpa [Value.ownBlock] using hr.symm
   rw [er];exact hne8))
  simpa using this
 ·have ek':k=g8:=by simpa [Value.ownBlock] using ek.symm
  subst ek'
  exact hg8 ((hsy k).1 hS)
 ·have hlt:=(Array.getElem?_eq_some_iff.1 hk).1
  refine (hk8 k hlt (fun r hr er=>?_) (fun eb=>hn (Or.inl (by simp [eb])))).trans hk
  subst er
  exact hn (way_T (cell_of_row W BT 0 _ _ _ ht) hr)
 ·rcases way_parts hS with h1 | h1 | h1 | h1 | h1 | ⟨v,hv,hvr⟩ | ⟨v,hv,hvr⟩ | h1
  ·exact Or.inl (Or.inl (by simp [h1]))
  ·exact Or.inl (Or.inl (by simp [h1]))
  ·exact Or.inl (Or.inl (by simp [h1]))
  ·exact Or.inl (Or.inl (by simp [h1]))
  ·exact Or.inl (Or.inl (by simp [h1]))
  ·rw [cell_of_row _ BT 0 _ _ _ hTn] at hv
   have ev:v=.slice (some ⟨g8,0,none⟩) (xs.length+1) cap8:=by simpa using hv.symm
   subst ev
   have ek':k=g8:=by simpa [Value.ownBlock] using hvr.symm
   subst ek'
   rcases hor with h2 | h2
   ·exact Or.inl (way_T (cell_of_row W BT 0 _ _ _ ht) h2)
   ·refine Or.inr ⟨by omega,?_⟩
    have:=(hown.lt k rfl).2
    omega
  ·exact Or.inl (way_R (by rw [← cell_same (hlow bR (by omega))];exact hv) hvr)
  ·exact Or.inl (sy_way ((hsy k).1 h1))
end
theorem StepSl.of_block {W W':World}{v:Value}{zs:List Stp} (h:StepSl W v zs) (hb:∀ b off k c,v=.slice (some ⟨b,off,none⟩) k c→zs ≠ []→W'.heap[b]?=W.heap[b]?):StepSl W' v zs:=by
 obtain ⟨a,cap,rfl,hm,hz,hn⟩:=h
 refine ⟨a,cap,rfl,hm,?_,hn⟩
 by_cases h0:zs=[]
 ·exact Or.inl h0
 ·rcases hz with h | ⟨b,off,rfl,hc⟩
  ·exact absurd h h0
  ·have e:=hb b off _ _ rfl h0
   exact Or.inr ⟨b,off,rfl,fun i hi=>⟨(World.cell?_of_block (a:=⟨b,_,none⟩) e).trans (hc i hi).1,(World.cell?_of_block (a:=⟨b,_,none⟩) e).trans (hc i hi).2.1,(World.cell?_of_block (a:=⟨b,_,none⟩) e).trans (hc i hi).2.2⟩⟩
theorem StepSl.ke {S:World→Nat→Prop}{W W':World}{v:Value}{zs:List Stp} (h:StepSl W v zs) (hk:KE S W W') (hb:∀ b off k c,v=.slice (some ⟨b,off,none⟩) k c→zs ≠ []→¬ S W b):StepSl W' v zs:=
 h.of_block fun b off k c e hne=>keep_eq (by
  obtain ⟨a,cap,e2,_,hz,_⟩:=h
  rcases hz with h0 | ⟨b',off',e3,hc⟩
  ·exact absurd h0 hne
  ·rw [e2,e3] at e
   cases e
   exact World.block_lt_of_cell? W _ (hc 0 (List.length_pos_iff.2 hne)).1) fun o ho=>hk.keep b o ho (hb b off k c e hne)
theorem IntSl.ke {S:World→Nat→Prop}{W W':World}{v:Value}{zs:List Int} (h:IntSl W v zs) (hk:KE S W W') (hb:∀ b off k c,v=.slice (some ⟨b,off,none⟩) k c→zs ≠ []→¬ S W b):IntSl W' v zs:=
 h.of_block fun b off k c e hne=>keep_eq (by
  obtain ⟨a,cap,e2,_,hz,_⟩:=h
  rcases hz with h0 | ⟨b',off',e3,hc⟩
  ·exact absurd h0 hne
  ·rw [e2,e3] at e
   cases e
   exact World.block_lt_of_cell? W _ (hc 0 (List.length_pos_iff.2 hne))) fun o ho=>hk.keep b o ho (hb b off k c e hne)
structure WayRes (A:Aut) (from_:List Int) (F:Nat→Bool) (P:Nat→World→Prop) (Y:List Nat) (w:World) (bR bK:Nat) (W:World):Prop where
 out:∃ v us y,W.heap[bR]?=some (.cells #[v] 22)∧W.heap[bK]?=some (.cells #[.bool true] 4)∧KE (SY Y) w W∧IntSl W v us∧(∀ b off k c,v=.slice (some ⟨b,off,none⟩) k c→w.heap.size≤b)∧WayTo A from_ us y∧(y:Int) < A.n∧F y=true∧P y W∧∀ k,SY Y W k→k ∈ Y ∨ w.heap.size≤k
theorem WayRes.ki {A:Aut}{from_:List Int}{F:Nat→Bool}{P:Nat→World→Prop}{Y:List Nat}{w W B:World}{bR bK gM gB BT s:Nat} (h:WayRes A from_ F P Y w bR bK W) (hP:∀ x W W',P x W→(∀ (k:Nat) (o:Obj),SY Y W k→o.isCells=true→W.heap[k]?=some o→W'.heap[k]?=some o)→P x W') (hY:∀ k ∈ Y,k < w.heap.size) (hs:bR < s∧bK < s∧w.heap.size≤s) (hk:KI s (SWay Y bR bK gM gB BT) W B):WayRes A from_ F P Y w bR bK B:=by
 obtain ⟨v,us,y,h1,h2,h3,h4,h5,h6,h7,h8,h9,h10⟩:=h.out
 have hki:KI s (SY Y) W B:=⟨hk.os,hk.tape,hk.output,hk.size,fun k o ho hor=>hk.keep k o ho (hor.imp id sy_way)⟩
 have hsy:=hki.det (det_SY hY) h3.size
 have hvc:=cell_of_row W bR 0 _ _ _ h1
 have hsz:=hk.size
 have hlt:∀ b off k c,v=.slice (some ⟨b,off,none⟩) k c→us ≠ []→b < W.heap.size:=fun b off k c e hne=>by
  obtain ⟨a,cap,e2,_,hz,_⟩:=h4
  rcases hz with h0 | ⟨b',off',e3,hc⟩
  ·exact absurd h0 hne
  ·rw [e2,e3] at e
   cases e
   exact World.block_lt_of_cell? W _ (hc 0 (List.length_pos_iff.2 hne))
 refine ⟨v,us,y,hk.keep _ _ h1 (Or.inl hs.1),hk.keep _ _ h2 (Or.inl hs.2.1),⟨hk.os.trans h3.os,hk.tape.trans h3.tape,hk.output.trans h3.output,Nat.le_trans h3.size hk.size,fun k o ho hn=>hk.keep k o (h3.keep k o ho hn) (Or.inl (by have:=(Array.getElem?_eq_some_iff.1 ho).1;omega)),fun k hS=>(h3.own k ((hsy k).1 hS)).imp id (fun h=>⟨h.1,by omega⟩)⟩,h4.of_block (fun b off k c e hne=>keep_eq (hlt b off k c e hne) fun o ho=>hk.keep b o ho (Or.inr (way_R hvc (by rw [e];rfl)))),h5,h6,h7,h8,hP y W B h9 (fun k o hS _ ho=>hk.keep k o ho (Or.inr (sy_way hS))),fun k hS=>h10 k ((hsy k).1 hS)⟩
theorem marks_kept {A W:World}{lo:Nat}{Ds:List Nat} (h:Marks A lo Ds) (hk:∀ D,lo≤D→(∀ c t fr,A.heap[D]? ≠ some (.cells c t fr))→D < A.heap.size→W.heap[D]?=A.heap[D]?):Marks W lo Ds:=
 ⟨h.1,fun D hD=>⟨(h.2 D hD).1,(hk D (h.2 D hD).1 (fun c t fr e=>by rw [(h.2 D hD).2] at e;cases e) (Array.getElem?_eq_some_iff.1 (h.2 D hD).2).1).trans (h.2 D hD).2⟩⟩
theorem WM.answer {w:World}{Y:List Nat}{n m:Int}{fsv gsv ssv frv fnv:Value}{N bA bF bG bR bK gM bM gB bB base BT:Nat}{f:Nat→Bool}{by_:Nat→Stp}{xs:List Int}{W:World}{A:Aut}{from_:List Int}{F:Nat→Bool}{P:Nat→World→Prop}{v:Value}{us:List Int}{y c0:Nat} (h:WM w Y n m fsv gsv ssv frv fnv N bA bF bG bR bK gM bM gB bB base BT f by_ xs W) (hY:∀ k ∈ Y,k < w.heap.size) (hYl:∀ k,SY Y w k→k < w.heap.size) (hP:∀ x W W',P x W→(∀ (k:Nat) (o:Obj),SY Y W k→o.isCells=true→W.heap[k]?=some o→W'.heap[k]?=some o)→P x W')
  (hv:IntSl W v us) (hvb:∀ b off k c,v=.slice (some ⟨b,off,none⟩) k c→c0≤b∧b < W.heap.size) (hc0:BT < c0) (hw:WayTo A from_ us y) (hyn:(y:Int) < A.n) (hF:F y=true) (hp:P y W) (hyk:∀ k,SY Y W k→k ∈ Y ∨ w.heap.size≤k) {C:World} (hC:C.heap.size≤c0) (hCW:KE (SWay Y bR bK gM gB BT) C W) :
  WayRes A from_ F P Y w bR bK ((W.setCell ⟨bR,0,none⟩ v).setCell ⟨bK,0,none⟩ (.bool true))∧KE (SWay Y bR bK gM gB BT) C ((W.setCell ⟨bR,0,none⟩ v).setCell ⟨bK,0,none⟩ (.bool true)):=by
 have hl:=h.lt
 have hne:bR ≠ bK:=by omega
 have hcw:=hCW.size
 have hoth:∀ k,k ≠ bR→k ≠ bK→((W.setCell ⟨bR,0,none⟩ v).setCell ⟨bK,0,none⟩ (.bool true)).heap[k]?=W.heap[k]?:=fun k h1 h2=>by rw [heap_setCell_other _ _ _ _ h2,heap_setCell_other _ _ _ _ h1]
 have hr:=heap_setCell_row 0 v h.hR
 have hk:=(heap_setCell_other W ⟨bR,0,none⟩ v bK (Ne.symm hne)).trans h.hK
 have hk2:=heap_setCell_row 0 (.bool true) hk
 have hr2:=(heap_setCell_other (W.setCell ⟨bR,0,none⟩ v) ⟨bK,0,none⟩ (.bool true) bR hne).trans hr
 have hsz:((W.setCell ⟨bR,0,none⟩ v).setCell ⟨bK,0,none⟩ (.bool true)).heap.size=W.heap.size:=by simp [World.setCell]
 have hsy:∀ k,SY Y ((W.setCell ⟨bR,0,none⟩ v).setCell ⟨bK,0,none⟩ (.bool true)) k ↔ SY Y W k:=sy_same fun y hy=>hoth y (by have:=hY y hy;omega) (by have:=hY y hy;omega)
 have hvc:=cell_of_row _ _ 0 _ _ _ hr2
 refine ⟨⟨v,us,y,by simpa using hr2,by simpa using hk2,⟨h.ke.os,h.ke.tape,h.ke.output,by rw [hsz];exact h.ke.size,fun k o ho hn=>(hoth k (by have:=(Array.getElem?_eq_some_iff.1 ho).1;omega) (by have:=(Array.getElem?_eq_some_iff.1 ho).1;omega)).trans (h.ke.keep k o ho hn),fun k hS=>(h.ke.own k ((hsy k).1 hS)).imp id (fun h2=>⟨h2.1,by omega⟩)⟩,hv.of_block (fun b off k c e _=>hoth b (by have:=(hvb b off k c e).1;omega) (by have:=(hvb b off k c e).1;omega)),fun b off k c e=>by have:=(hvb b off k c e).1;omega,hw,hyn,hF,hP y W _ hp (fun k o hS _ ho=>(hoth k (fun e=>h.free hYl (k:=k) (by omega) (by omega) hS) (fun e=>h.free hYl (k:=k) (by omega) (by omega) hS)).trans ho),fun k hS=>hyk k ((hsy k).1 hS)⟩,⟨hCW.os,hCW.tape,hCW.output,by omega,fun k o ho hn=>(hoth k (fun e=>hn (Or.inl (by simp [e]))) (fun e=>hn (Or.inl (by simp [e])))).trans (hCW.keep k o ho hn),fun k hS=>?_⟩⟩
 rcases way_parts hS with h1 | h1 | h1 | h1 | h1 | ⟨u,hu,hur⟩ | ⟨u,hu,hur⟩ | h1
 ·exact Or.inl (Or.inl (by simp [h1]))
 ·exact Or.inl (Or.inl (by simp [h1]))
 ·exact Or.inl (Or.inl (by simp [h1]))
 ·exact Or.inl (Or.inl (by simp [h1]))
 ·exact Or.inl (Or.inl (by simp [h1]))
 ·have:=hCW.own k (way_T (by rw [← cell_same (hoth BT (by omega) (by omega))];exact hu) hur)
  exact this.imp id (fun h2=>⟨h2.1,by omega⟩)
 ·rw [hvc] at hu
  have eu:u=v:=by simpa using hu.symm
  subst eu
  have hb:∀ b off kk c,u=.slice (some ⟨b,off,none⟩) kk c→b=k:=fun b off kk c e=>by
   rw [e] at hur
   simpa [Value.ownBlock] using hur
  obtain ⟨a,cap,e2,_,hz,_⟩:=hv
  obtain ⟨b,off,sp,e3⟩:∃ b off sp,a=some ⟨b,off,sp⟩:=by
   cases a with
   | none=>rw [e2] at hur;cases hur
   | some a=>exact ⟨a.block,a.off,a.spot,rfl⟩
  rcases hz with h0 | ⟨b',off',e4,hc⟩
  ·exact absurd h0 hw.1
  ·rw [e4] at e2
   have:=hvb b' off' _ _ e2
   have:=hb b' off' _ _ e2
   exact Or.inr ⟨by omega,by omega⟩
 ·exact (hCW.own k (sy_way ((hsy k).1 h1))).imp id (fun h2=>⟨h2.1,by omega⟩)
def atD (W:World) (d:Nat):World:={ W with drawn:=d }
def VW (A B C:World):Nat→World→Prop
 | 0,W=>∃ d,W=atD A d
 | 1,W=>∃ d,W=atD B d
 | _,W=>∃ d,W=atD C d
theorem nine_alloc (w:World) (o0 o1 o2 o3 o4 o5 o6 o7 o8:Obj) (W:World) (hW:W=(((((((((w.alloc o0).alloc o1).alloc o2).alloc o3).alloc o4).alloc o5).alloc o6).alloc o7).alloc o8)) :
  W.heap[w.heap.size]?=some o0∧W.heap[w.heap.size+1]?=some o1∧W.heap[w.heap.size+1+1]?=some o2∧W.heap[w.heap.size+1+1+1]?=some o3∧W.heap[w.heap.size+1+1+1+1]?=some o4∧W.heap[w.heap.size+1+1+1+1+1]?=some o5∧W.heap[w.heap.size+1+1+1+1+1+1]?=some o6∧W.heap[w.heap.size+1+1+1+1+1+1+1]?=some o7∧W.heap[w.heap.size+1+1+1+1+1+1+1+1]?=some o8∧Below w.heap.size w W∧W.heap.size=w.heap.size+9:=by
 have b0:=below_new w o0
 have n0:=one_new w o0
 have b1:=below_new (w.alloc o0) o1
 have n1:=one_new (w.alloc o0) o1
 rw [show (w.alloc o0).heap.size=w.heap.size+1 by simp] at n1
 have b2:=below_new ((w.alloc o0).alloc o1) o2
 have n2:=one_new ((w.alloc o0).alloc o1) o2
 rw [show ((w.alloc o0).alloc o1).heap.size=w.heap.size+1+1 by simp] at n2
 have b3:=below_new (((w.alloc o0).alloc o1).alloc o2) o3
 have n3:=one_new (((w.alloc o0).alloc o1).alloc o2) o3
 rw [show (((w.alloc o0).alloc o1).alloc o2).heap.size=w.heap.size+1+1+1 by simp] at n3
 have b4:=below_new ((((w.alloc o0).alloc o1).alloc o2).alloc o3) o4
 have n4:=one_new ((((w.alloc o0).alloc o1).alloc o2).alloc o3) o4
 rw [show ((((w.alloc o0).alloc o1).alloc o2).alloc o3).heap.size=w.heap.size+1+1+1+1 by simp] at n4
 have b5:=below_new (((((w.alloc o0).alloc o1).alloc o2).alloc o3).alloc o4) o5
 have n5:=one_new (((((w.alloc o0).alloc o1).alloc o2).alloc o3).alloc o4) o5
 rw [show (((((w.alloc o0).alloc o1).alloc o2).alloc o3).alloc o4).heap.size=w.heap.size+1+1+1+1+1 by simp] at n5
 have b6:=below_new ((((((w.alloc o0).alloc o1).alloc o2).alloc o3).alloc o4).alloc o5) o6
 have n6:=one_new ((((((w.alloc o0).alloc o1).alloc o2).alloc o3).alloc o4).alloc o5) o6
 rw [show ((((((w.alloc o0).alloc o1).alloc o2).alloc o3).alloc o4).alloc o5).heap.size=w.heap.size+1+1+1+1+1+1 by simp] at n6
 have b7:=below_new (((((((w.alloc o0).alloc o1).alloc o2).alloc o3).alloc o4).alloc o5).alloc o6) o7
 have n7:=one_new (((((((w.alloc o0).alloc o1).alloc o2).alloc o3).alloc o4).alloc o5).alloc o6) o7
 rw [show (((((((w.alloc o0).alloc o1).alloc o2).alloc o3).alloc o4).alloc o5).alloc o6).heap.size=w.heap.size+1+1+1+1+1+1+1 by simp] at n7
 have b8:=below_new ((((((((w.alloc o0).alloc o1).alloc o2).alloc o3).alloc o4).alloc o5).alloc o6).alloc o7) o8
 have n8:=one_new ((((((((w.alloc o0).alloc o1).alloc o2).alloc o3).alloc o4).alloc o5).alloc o6).alloc o7) o8
 rw [show ((((((((w.alloc o0).alloc o1).alloc o2).alloc o3).alloc o4).alloc o5).alloc o6).alloc o7).heap.size=w.heap.size+1+1+1+1+1+1+1+1 by simp] at n8
 rw [hW]
 refine ⟨belowRow b8 (belowRow b7 (belowRow b6 (belowRow b5 (belowRow b4 (belowRow b3 (belowRow b2 (belowRow b1 (n0)))))))),belowRow b8 (belowRow b7 (belowRow b6 (belowRow b5 (belowRow b4 (belowRow b3 (belowRow b2 (n1))))))),belowRow b8 (belowRow b7 (belowRow b6 (belowRow b5 (belowRow b4 (belowRow b3 (n2)))))),belowRow b8 (belowRow b7 (belowRow b6 (belowRow b5 (belowRow b4 (n3))))),belowRow b8 (belowRow b7 (belowRow b6 (belowRow b5 (n4)))),belowRow b8 (belowRow b7 (belowRow b6 (n5))),belowRow b8 (belowRow b7 (n6)),belowRow b8 (n7),n8,below_trans (below_trans (below_trans (below_trans (below_trans (below_trans (below_trans (below_trans (b0) b1) b2) b3) b4) b5) b6) b7) b8,by simp⟩
end Go.Proofs.YtpiacnnifdjlkabGreatDoor
