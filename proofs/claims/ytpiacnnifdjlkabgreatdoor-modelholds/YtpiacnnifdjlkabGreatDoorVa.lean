import Derived.Test.YtpiacnnifdjlkabGreatDoorRh
import Derived.Test.YtpiacnnifdjlkabGreatDoorCh
import Derived.Test.YtpiacnnifdjlkabGreatDoorYa
set_option maxRecDepth 100000
set_option maxHeartbeats 8000000
namespace Go.Proofs.YtpiacnnifdjlkabGreatDoor
open Go.RowKit
structure KE (S:World→Nat→Prop) (W W':World):Prop where
 os:W'.os=W.os
 tape:W'.tape=W.tape
 output:W'.output=W.output
 size:W.heap.size≤W'.heap.size
 keep:∀ (k:Nat) (o:Obj),W.heap[k]?=some o→¬ S W k→W'.heap[k]?=some o
 own:∀ k,S W' k→S W k ∨ (W.heap.size≤k∧k < W'.heap.size)
structure KO (l:Nat) (S:World→Nat→Prop) (W W':World):Prop where
 os:W'.os=W.os
 tape:W'.tape=W.tape
 output:W'.output=W.output
 size:W.heap.size≤W'.heap.size
 keep:∀ (k:Nat) (o:Obj),W.heap[k]?=some o→k ≠ l→¬ S W k→W'.heap[k]?=some o
 own:∀ k,S W' k→S W k ∨ (W.heap.size≤k∧k < W'.heap.size)
structure KI (s:Nat) (S:World→Nat→Prop) (W W':World):Prop where
 os:W'.os=W.os
 tape:W'.tape=W.tape
 output:W'.output=W.output
 size:W.heap.size≤W'.heap.size
 keep:∀ (k:Nat) (o:Obj),W.heap[k]?=some o→k < s ∨ S W k→W'.heap[k]?=some o
def Det (m:Nat) (S:World→Nat→Prop):Prop:=
 ∀ W W':World,m≤W.heap.size→W.heap.size≤W'.heap.size→(∀ (k:Nat) (o:Obj),W.heap[k]?=some o→S W k→W'.heap[k]?=some o)→∀ k,S W' k ↔ S W k
theorem KE.refl (S:World→Nat→Prop) (W:World):KE S W W:=⟨rfl,rfl,rfl,Nat.le_refl _,fun _ _ h _=>h,fun _ h=>Or.inl h⟩
theorem KE.trans {S:World→Nat→Prop}{A B C:World} (h:KE S A B) (k:KE S B C):KE S A C:=
 ⟨k.os.trans h.os,k.tape.trans h.tape,k.output.trans h.output,Nat.le_trans h.size k.size,fun i o hi hn=>k.keep i o (h.keep i o hi hn) (fun hs=>by
  rcases h.own i hs with h1 | h1
  ·exact hn h1
  ·have:=(Array.getElem?_eq_some_iff.1 hi).1;omega),fun i hs=>by
  rcases k.own i hs with h1 | h1
  ·exact (h.own i h1).imp id (fun h2=>⟨h2.1,Nat.lt_of_lt_of_le h2.2 k.size⟩)
  ·exact Or.inr ⟨Nat.le_trans h.size h1.1,h1.2⟩⟩
theorem KO.refl (l:Nat) (S:World→Nat→Prop) (W:World):KO l S W W:=⟨rfl,rfl,rfl,Nat.le_refl _,fun _ _ h _ _=>h,fun _ h=>Or.inl h⟩
theorem KO.trans {l:Nat}{S:World→Nat→Prop}{A B C:World} (h:KO l S A B) (k:KO l S B C):KO l S A C:=
 ⟨k.os.trans h.os,k.tape.trans h.tape,k.output.trans h.output,Nat.le_trans h.size k.size,fun i o hi hl hn=>k.keep i o (h.keep i o hi hl hn) hl (fun hs=>by
  rcases h.own i hs with h1 | h1
  ·exact hn h1
  ·have:=(Array.getElem?_eq_some_iff.1 hi).1;omega),fun i hs=>by
  rcases k.own i hs with h1 | h1
  ·exact (h.own i h1).imp id (fun h2=>⟨h2.1,Nat.lt_of_lt_of_le h2.2 k.size⟩)
  ·exact Or.inr ⟨Nat.le_trans h.size h1.1,h1.2⟩⟩
theorem KE.ko {l:Nat}{S:World→Nat→Prop}{A B:World} (h:KE S A B):KO l S A B:=⟨h.os,h.tape,h.output,h.size,fun k o hk _ hn=>h.keep k o hk hn,h.own⟩
theorem KI.det {s m:Nat}{S:World→Nat→Prop}{A B:World} (h:KI s S A B) (hD:Det m S) (hm:m≤A.heap.size):∀ k,S B k ↔ S A k:=hD A B hm h.size (fun k o hk hs=>h.keep k o hk (Or.inr hs))
theorem KI.of_below {s:Nat}{S:World→Nat→Prop}{A B:World} (h:Below A.heap.size A B):KI s S A B:=⟨h.os,h.tape,h.output,h.size,fun k _ hk _=>(h.block k (Array.getElem?_eq_some_iff.1 hk).1).trans hk⟩
theorem KI.mono {s s':Nat}{S:World→Nat→Prop}{A B:World} (h:KI s S A B) (hs:s'≤s):KI s' S A B:=⟨h.os,h.tape,h.output,h.size,fun k o hk hor=>h.keep k o hk (hor.imp (fun h1=>Nat.lt_of_lt_of_le h1 hs) id)⟩
theorem KI.put {s:Nat}{S:World→Nat→Prop}{A:World}{l:Nat} (o:Obj) (hl:s≤l) (hS:¬ S A l):KI s S A (A.putObj l o):=
 ⟨rfl,rfl,rfl,by simp,fun k _ hk hor=>(World.putObj_heap_other (fun e=>by subst e;rcases hor with h | h;exact absurd h (by omega);exact hS h)).trans hk⟩
theorem KO.of_below {l m:Nat}{S:World→Nat→Prop}{A B:World} (hD:Det m S) (hm:m≤A.heap.size) (h:Below A.heap.size A B):KO l S A B:=
 ⟨h.os,h.tape,h.output,h.size,fun k _ hk _ _=>(h.block k (Array.getElem?_eq_some_iff.1 hk).1).trans hk,fun k hs=>Or.inl (((KI.of_below (s:=0) h).det hD hm k).1 hs)⟩
theorem KE.of_below {m:Nat}{S:World→Nat→Prop}{A B:World} (hD:Det m S) (hm:m≤A.heap.size) (h:Below A.heap.size A B):KE S A B:=
 ⟨h.os,h.tape,h.output,h.size,fun k _ hk _=>(h.block k (Array.getElem?_eq_some_iff.1 hk).1).trans hk,fun k hs=>Or.inl (((KI.of_below (s:=0) h).det hD hm k).1 hs)⟩
theorem KO.put {l m:Nat}{S:World→Nat→Prop}{A:World} (hD:Det m S) (hm:m≤A.heap.size) (o:Obj) (hS:¬ S A l):KO l S A (A.putObj l o):=
 ⟨rfl,rfl,rfl,by simp,fun k _ hk hne _=>(World.putObj_heap_other hne).trans hk,fun k hs=>Or.inl (((KI.put (s:=0) o (Nat.zero_le _) hS).det hD hm k).1 hs)⟩
theorem KO.not_own {l:Nat}{S:World→Nat→Prop}{A B:World} (h:KO l S A B) {k:Nat} (hk:k < A.heap.size) (hn:¬ S A k):¬ S B k:=fun hs=>by
 rcases h.own k hs with h1 | h1
 ·exact hn h1
 ·omega
theorem KE.not_own {S:World→Nat→Prop}{A B:World} (h:KE S A B) {k:Nat} (hk:k < A.heap.size) (hn:¬ S A k):¬ S B k:=fun hs=>by
 rcases h.own k hs with h1 | h1
 ·exact hn h1
 ·omega
def SeqO {α:Type} (n:Nat) (P:Program) (gf:Nat) (lb:Array Value) (encs:α→Array Value) (C:Nat→Prop) (Done:List α→Prop) (N:Nat) (w0:World):Prop:=
 ∀ (l:Nat) (S:World→Nat→Prop) (m:Nat) (J Jx:List α→World→Prop) (W:World),Below w0.heap.size w0 W→Det m S→m≤W.heap.size→(∀ k,C k→¬ S W k)→w0.heap.size≤l→l < W.heap.size→¬ S W l→(∀ k,S W k→k < W.heap.size) →
  (∀ pre A B,J pre A→W.heap.size≤A.heap.size→KI W.heap.size S A B→J pre B)→(∀ pre A B,Jx pre A→W.heap.size≤A.heap.size→KI W.heap.size S A B→Jx pre B) →
  (∀ pre x A,J pre A→pre.length < N→W.heap.size≤A.heap.size→YieldAt Fence.wide (n - 1) P l (encs x) A fun e B=>(e=.returned (.bool true)∧J (pre ++ [x]) B∧KO l S A B) ∨ (e=.returned (.bool false)∧Jx (pre ++ [x]) B∧KO l S A B)) →
  J [] W→CallsIn Fence.wide n P gf (#[.func (.yield l) #[] #[]] ++ lb) W fun e W'=>(∃ v,e=.returned v)∧((∃ xs,Done xs∧J xs W') ∨ ∃ pre,Jx pre W')
def postE {α:Type} (S:World→Nat→Prop) (I:List α→World→Prop) (Ix:Code→List α→World→Prop) (xs:List α) (W:World):Exit→Act→World→Prop
 | .normal,_,W'=>KE S W W'∧I xs W'
 | .ret,_,W'=>KE S W W'∧Ix .ret xs W'
 | .exit id,_,W'=>KE S W W'∧Ix (.exit id) xs W'
 | .goto t,_,W'=>KE S W W'∧Ix (.goto t) xs W'
 | .panic _,_,_=>False
 | .outgrown,_,_=>False
section
variable {P:Program}{n:Nat}
theorem round_own {α:Type}{l m s:Nat}{S:World→Nat→Prop}{rec:LoopState→Option Code→Loop}{fn:FuncId}{tmps:Array Value}{ps:Array Tmp}{assign body:Code}{df:Nat} (hrec:rec=fun st pe=>{ state:=st,pending:=pe,fn,tmps,params:=ps,assign,body,defers:=df }) {encs:α→Array Value} (hps:∀ x,(encs x).size=ps.size)
  (hD:Det m S) (I:List α→World→Prop) (Ix:Code→List α→World→Prop) (hs:s≤l) (hI:∀ pre A B,I pre A→s≤A.heap.size→KI s S A B→I pre B) (hIx:∀ c pre A B,Ix c pre A→s≤A.heap.size→KI s S A B→Ix c pre B)
  (Ax:α→Act→World→Prop) (hAx:∀ x a' A o r,A.heap[l]?=some (.loop r)→(∀ k,S (A.putObj l o) k ↔ S A k)→Ax x a' A→Ax x a' (A.putObj l o)) {pre:List α}{x:α}{W:World} (hi:I pre W) (hsz:s≤W.heap.size) (hmW:m≤W.heap.size) (hl:W.heap[l]?=some (.loop (rec .ready none))) (hSl:¬ S W l)
  (hassign:∀ K:Act→World→Prop,(∀ a' B,Below W.heap.size W B→Ax x a' B→K a' B)→assign.wpIn (Fence.wide.inRound l) n P (Exit.then K (fun _ _ _=>False)) { tmps:=(ps.zip (encs x)).foldl (fun t (p,v)=>t.setIfInBounds p v) tmps,defers:=[] } W)
  (hbody:∀ a' A,(∃ r,A.heap[l]?=some (.loop r))→¬ S A l→W.heap.size≤A.heap.size→I pre A→Ax x a' A→body.wpIn (Fence.wide.inRound l) n P (postE S I Ix (pre ++ [x]) A) a' A) :
  YieldAt Fence.wide n P l (encs x) W fun e B=>(e=.returned (.bool true)∧(I (pre ++ [x]) B∧B.heap[l]?=some (.loop (rec .ready none)))∧KO l S W B) ∨ (e=.returned (.bool false)∧(∃ c,Ix c (pre ++ [x]) B∧B.heap[l]?=some (.loop (rec .done (some c))))∧KO l S W B):=by
 have hy:=run_yield (P:=P) (args:=encs x) hl (by rw [hrec];exact hps x)
 rw [hrec] at hy
 refine ⟨fn,_,assign,body,hy,roundIn_of_wpIn trivial (hassign _ ?_)⟩
 intro a' A hbA hax
 have hlA:A.heap[l]?=some (.loop (rec .ready none)):=(hbA.block l (Array.getElem?_eq_some_iff.1 hl).1).trans hl
 have hlt:l < A.heap.size:=(Array.getElem?_eq_some_iff.1 hlA).1
 have hkiA:KI s S W A:=KI.of_below hbA
 have hSA:¬ S A l:=fun h=>hSl ((hkiA.det hD hmW l).1 h)
 refine ⟨_,run_beginRound hlA (by rw [hrec]),?_⟩
 have hl2:(A.putObj l (.loop { rec .ready none with state:=.busy })).heap[l]?=some (.loop { rec .ready none with state:=.busy }):=World.putObj_heap_same hlt
 have hmA:m≤A.heap.size:=Nat.le_trans hmW hbA.size
 have hki2:KI s S A (A.putObj l (.loop { rec .ready none with state:=.busy })):=KI.put _ hs hSA
 have hS2:¬ S (A.putObj l (.loop { rec .ready none with state:=.busy })) l:=fun h=>hSA ((hki2.det hD hmA l).1 h)
 have hko2:KO l S W (A.putObj l (.loop { rec .ready none with state:=.busy })):=(KO.of_below hD hmW hbA).trans (KO.put hD hmA _ hSA)
 refine wpIn_mono (hbody a' _ ⟨_,hl2⟩ hS2 (by rw [World.putObj_size];exact hbA.size) (hI pre _ _ (hI pre _ _ hi hsz hkiA) (Nat.le_trans hsz hbA.size) hki2) (hAx x a' A _ _ hlA (hki2.det hD hmA) hax)) ?_
 have fin:∀ (jump:Option Code) (B:World),KE S (A.putObj l (.loop { rec .ready none with state:=.busy })) B →
   (Instr.endRound l jump).run P B=.ok (.bool jump.isNone) (B.putObj l (.loop (rec (if jump.isNone then .ready else .done) jump))) ∧
   (B.putObj l (.loop (rec (if jump.isNone then .ready else .done) jump))).heap[l]?=some (.loop (rec (if jump.isNone then .ready else .done) jump)) ∧
   KI s S B (B.putObj l (.loop (rec (if jump.isNone then .ready else .done) jump)))∧s≤B.heap.size∧KO l S W (B.putObj l (.loop (rec (if jump.isNone then .ready else .done) jump))):=fun jump B hk=>by
  have hl3:=hk.keep l _ hl2 hS2
  have hSB:=hk.not_own (Array.getElem?_eq_some_iff.1 hl2).1 hS2
  have h4:=run_endRound (P:=P) jump hl3
  have hsB:A.heap.size≤B.heap.size:=by have:=hk.size;rwa [World.putObj_size] at this
  rw [hrec] at h4 ⊢
  exact ⟨h4,World.putObj_heap_same (Array.getElem?_eq_some_iff.1 hl3).1,KI.put _ hs hSB,Nat.le_trans hsz (Nat.le_trans hbA.size hsB),by rw [hrec] at hko2 hk;exact (hko2.trans hk.ko).trans (KO.put hD (Nat.le_trans hmA hsB) _ hSB)⟩
 rintro e a3 B hp
 cases e with
 | normal =>
  obtain ⟨hr,hl4,hki,hsB,hko⟩:=fin none B hp.1
  exact ⟨_,_,hr,Or.inl ⟨rfl,⟨hI _ _ _ hp.2 hsB hki,hl4⟩,hko⟩⟩
 | ret =>
  obtain ⟨hr,hl4,hki,hsB,hko⟩:=fin (some .ret) B hp.1
  exact ⟨_,_,hr,Or.inr ⟨rfl,⟨.ret,hIx _ _ _ _ hp.2 hsB hki,hl4⟩,hko⟩⟩
 | exit id =>
  obtain ⟨hr,hl4,hki,hsB,hko⟩:=fin (some (.exit id)) B hp.1
  exact ⟨_,_,hr,Or.inr ⟨rfl,⟨.exit id,hIx _ _ _ _ hp.2 hsB hki,hl4⟩,hko⟩⟩
 | goto t =>
  obtain ⟨hr,hl4,hki,hsB,hko⟩:=fin (some (.goto t)) B hp.1
  exact ⟨_,_,hr,Or.inr ⟨rfl,⟨.goto t,hIx _ _ _ _ hp.2 hsB hki,hl4⟩,hko⟩⟩
 | panic ch=>exact hp.elim
 | outgrown=>exact hp.elim
theorem range_own {α:Type}{g:Operand}{ps:Array Tmp}{assign body:Code}{Q:Exit→Act→World→Prop}{a:Act}{w:World}{gf:Nat}{lb:Array Value} (hg:a.eval g=.func (.func gf) #[] lb) (eg:∀ args w,(callFunc gf args).run P w=.ok (.enter gf args) w)
  {encs:α→Array Value}{C:Nat→Prop}{Done:List α→Prop}{N:Nat}{w0:World} (hseq:SeqO (n - 1) P gf lb encs C Done N w0) (S:World→Nat→Prop) (m:Nat) (hD:Det m S) (hm:m≤w.heap.size) (hC:∀ k,C k→¬ S w k) (hSw:∀ k,S w k→k < w.heap.size) (hb0:Below w0.heap.size w0 w) (hps:∀ x,(encs x).size=ps.size)
  (I:List α→World→Prop) (Ix:Code→List α→World→Prop) (hI:∀ pre A B,I pre A→w.heap.size≤A.heap.size→KI w.heap.size S A B→I pre B) (hIx:∀ c pre A B,Ix c pre A→w.heap.size≤A.heap.size→KI w.heap.size S A B→Ix c pre B) (h0:I [] w)
  (Ax:α→Act→World→Prop) (hAx:∀ l x a' A o r,A.heap[l]?=some (.loop r)→(∀ k,S (A.putObj l o) k ↔ S A k)→Ax x a' A→Ax x a' (A.putObj l o))
  (hassign:∀ (l:Nat) (pre:List α) (x:α) (A:World) (K:Act→World→Prop),I pre A→w.heap.size+2≤A.heap.size→(∀ a' B,Below A.heap.size A B→Ax x a' B→K a' B)→assign.wpIn (Fence.wide.inRound l) (n - 1 - 1) P (Exit.then K (fun _ _ _=>False)) { tmps:=(ps.zip (encs x)).foldl (fun t (p,v)=>t.setIfInBounds p v) a.tmps,defers:=[] } A)
  (hbody:∀ (l:Nat) (pre:List α) (x:α) (a':Act) (A:World),w.heap.size≤l→(∃ r,A.heap[l]?=some (.loop r))→¬ S A l→w.heap.size+2≤A.heap.size→I pre A→Ax x a' A→pre.length < N→body.wpIn (Fence.wide.inRound l) (n - 1 - 1) P (postE S I Ix (pre ++ [x]) A) a' A)
  (hdone:∀ (D:Nat) (xs:List α) (W:World),w.heap.size≤D→Done xs→I xs W→W.heap[D]?=some (.deferred (some []))→¬ S W D→Q .normal { a with defers:={ target:=.collected D,args:=#[] } :: a.defers } W)
  (hstop:∀ (D:Nat) (c:Code) (pre:List α) (W:World),w.heap.size≤D→Ix c pre W→W.heap[D]?=some (.deferred (some []))→¬ S W D→c.wpIn Fence.wide n P Q { a with defers:={ target:=.collected D,args:=#[] } :: a.defers } W) :
  (Code.rangeFunc g ps assign body).wpIn Fence.wide n P Q a w:=by
 refine wpIn_rangeFunc ?_
 intro fn _
 obtain ⟨rec,hrec⟩:∃ rec:LoopState→Option Code→Loop,rec=fun st pe=>{ state:=st,pending:=pe,fn,tmps:=a.tmps,params:=ps,assign,body,defers:=w.heap.size }:=⟨_,rfl⟩
 obtain ⟨W1,hW1⟩:∃ W1,(w.alloc (.deferred (some []))).alloc (.loop (rec .ready none))=W1:=⟨_,rfl⟩
 have hbW:Below w.heap.size w W1:=by rw [← hW1];exact ((Below.refl _ w).alloc (Nat.le_refl _) _).alloc (by simp) _
 have hsz:W1.heap.size=w.heap.size+2:=by rw [← hW1];simp
 have hL1:W1.heap[w.heap.size+1]?=some (.loop (rec .ready none)):=by
  rw [← hW1];have:=World.alloc_heap_new (w.alloc (.deferred (some []))) (.loop (rec .ready none));rwa [World.size_alloc] at this
 have hK1:W1.heap[w.heap.size]?=some (.deferred (some [])):=by
  rw [← hW1];exact (Below.heap_alloc _ _ _ (by simp)).trans (World.alloc_heap_new w _)
 have hki1:KI w.heap.size S w W1:=KI.of_below hbW
 have hS1:∀ k,S W1 k ↔ S w k:=hki1.det hD hm
 have hnl:¬ S W1 (w.heap.size+1):=fun h=>by have:=hSw _ ((hS1 _).1 h);omega
 have hnd:¬ S W1 w.heap.size:=fun h=>by have:=hSw _ ((hS1 _).1 h);omega
 refine ⟨w.heap.size+1,[{ target:=.collected w.heap.size,args:=#[] }],W1,{ target:=.fn (.func gf) lb,args:=#[.func (.yield (w.heap.size+1)) #[] #[]] },W1,gf,
  #[.func (.yield (w.heap.size+1)) #[] #[]] ++ lb,W1,?_,?_,fun _ _=>trivial,?_,fun h=>by simp [Fence.wide] at h,?_⟩
 ·rw [← hW1,hrec];exact run_enterLoop_outer _ _ _ _ _
 ·simp only [resolve,hg]
  simp [go_sem]
 ·simp [invoke,go_sem,eg]
 ·refine (hseq (w.heap.size+1) S m
   (fun pre W=>(I pre W∧W.heap[w.heap.size+1]?=some (.loop (rec .ready none)))∧W.heap[w.heap.size]?=some (.deferred (some []))∧¬ S W w.heap.size∧¬ S W (w.heap.size+1))
   (fun pre W=>(∃ c,Ix c pre W∧W.heap[w.heap.size+1]?=some (.loop (rec .done (some c))))∧W.heap[w.heap.size]?=some (.deferred (some []))∧¬ S W w.heap.size∧¬ S W (w.heap.size+1))
   W1 (hb0.trans (hbW.mono hb0.size)) hD (by omega) (fun k hk h=>hC k hk ((hS1 k).1 h)) (by have:=hb0.size;omega) (by omega) hnl (fun k h=>by have:=hSw k ((hS1 k).1 h);omega) ?_ ?_ ?_ ⟨⟨hI [] _ _ h0 (Nat.le_refl _) hki1,hL1⟩,hK1,hnd,hnl⟩).mono ?_
  ·rintro pre A B ⟨⟨h1,h2⟩,h3,h4,h5⟩ hA hk
   have hd:=hk.det hD (by omega)
   exact ⟨⟨hI pre A B h1 (by omega) (hk.mono (by omega)),hk.keep _ _ h2 (Or.inl (by omega))⟩,hk.keep _ _ h3 (Or.inl (by omega)),fun h=>h4 ((hd _).1 h),fun h=>h5 ((hd _).1 h)⟩
  ·rintro pre A B ⟨⟨c,h1,h2⟩,h3,h4,h5⟩ hA hk
   have hd:=hk.det hD (by omega)
   exact ⟨⟨c,hIx c pre A B h1 (by omega) (hk.mono (by omega)),hk.keep _ _ h2 (Or.inl (by omega))⟩,hk.keep _ _ h3 (Or.inl (by omega)),fun h=>h4 ((hd _).1 h),fun h=>h5 ((hd _).1 h)⟩
  ·rintro pre x A ⟨⟨h1,h2⟩,h3,h4,h5⟩ hlen hA
   have hr:=round_own (P:=P) (n:=n - 1 - 1) hrec hps hD I Ix (by omega:w.heap.size≤w.heap.size+1) hI hIx Ax (fun x a' A o r=>hAx _ x a' A o r) (pre:=pre) (x:=x) h1 (by omega) (by omega) h2 h5 (fun K hK=>hassign _ pre x A K h1 (by omega) hK) (fun a' A' hl' hS' hsA hi' hax'=>hbody _ pre x a' A' (by omega) hl' hS' (by omega) hi' hax' hlen)
   obtain ⟨fn',tm',as',bo',e1,e2⟩:=hr
   refine ⟨fn',tm',as',bo',e1,e2.mono ?_⟩
   rintro e B (⟨rfl,⟨k1,k2⟩,k3⟩ | ⟨rfl,k1,k3⟩)
   ·exact Or.inl ⟨rfl,⟨⟨k1,k2⟩,k3.keep _ _ h3 (by omega) h4,k3.not_own (by omega) h4,k3.not_own (by omega) h5⟩,k3⟩
   ·exact Or.inr ⟨rfl,⟨k1,k3.keep _ _ h3 (by omega) h4,k3.not_own (by omega) h4,k3.not_own (by omega) h5⟩,k3⟩
  ·rintro e W2 ⟨⟨v,rfl⟩,(⟨xs,hS,⟨hi,hl⟩,hk,hn1,hn2⟩ | ⟨pre,⟨c,hi,hl⟩,hk,hn1,hn2⟩)⟩
   ·have hlt:=(Array.getElem?_eq_some_iff.1 hl).1
    have hki:KI w.heap.size S W2 (W2.putObj (w.heap.size+1) (.loop { rec .ready none with state:=.exhausted })):=KI.put _ (by omega) hn2
    refine ⟨none,_,by have:=run_endLoop (P:=P) hl (by rw [hrec];simp);rw [hrec] at this ⊢;exact this,hdone _ xs _ (Nat.le_refl _) hS (hI _ _ _ hi (by omega) hki) ((World.putObj_heap_other (by omega)).trans hk) (fun h=>hn1 ((hki.det hD (by omega) _).1 h))⟩
   ·have hlt:=(Array.getElem?_eq_some_iff.1 hl).1
    have hki:KI w.heap.size S W2 (W2.putObj (w.heap.size+1) (.loop { rec .done (some c) with state:=.exhausted })):=KI.put _ (by omega) hn2
    refine ⟨some c,_,by have:=run_endLoop (P:=P) hl (by rw [hrec];simp);rw [hrec] at this ⊢;exact this,hstop _ c pre _ (Nat.le_refl _) (hIx _ _ _ _ hi (by omega) hki) ((World.putObj_heap_other (by omega)).trans hk) (fun h=>hn1 ((hki.det hD (by omega) _).1 h))⟩
theorem range_own_in {α:Type}{g:Operand}{ps:Array Tmp}{assign body:Code}{Q:Exit→Act→World→Prop}{a:Act}{w:World}{l0:Nat} (hl0:∃ r,w.heap[l0]?=some (.loop r)) {gf:Nat}{lb:Array Value} (hg:a.eval g=.func (.func gf) #[] lb) (eg:∀ args w,(callFunc gf args).run P w=.ok (.enter gf args) w)
  {encs:α→Array Value}{C:Nat→Prop}{Done:List α→Prop}{N:Nat}{w0:World} (hseq:SeqO (n - 1) P gf lb encs C Done N w0) (S:World→Nat→Prop) (m:Nat) (hD:Det m S) (hm:m≤w.heap.size) (hC:∀ k,C k→¬ S w k) (hSw:∀ k,S w k→k < w.heap.size) (hb0:Below w0.heap.size w0 w) (hps:∀ x,(encs x).size=ps.size)
  (I:List α→World→Prop) (Ix:Code→List α→World→Prop) (hI:∀ pre A B,I pre A→w.heap.size≤A.heap.size→KI w.heap.size S A B→I pre B) (hIx:∀ c pre A B,Ix c pre A→w.heap.size≤A.heap.size→KI w.heap.size S A B→Ix c pre B) (h0:I [] w)
  (Ax:α→Act→World→Prop) (hAx:∀ l x a' A o r,A.heap[l]?=some (.loop r)→(∀ k,S (A.putObj l o) k ↔ S A k)→Ax x a' A→Ax x a' (A.putObj l o))
  (hassign:∀ (l:Nat) (pre:List α) (x:α) (A:World) (K:Act→World→Prop),I pre A→w.heap.size+1≤A.heap.size→(∀ a' B,Below A.heap.size A B→Ax x a' B→K a' B)→assign.wpIn (Fence.wide.inRound l) (n - 1 - 1) P (Exit.then K (fun _ _ _=>False)) { tmps:=(ps.zip (encs x)).foldl (fun t (p,v)=>t.setIfInBounds p v) a.tmps,defers:=[] } A)
  (hbody:∀ (l:Nat) (pre:List α) (x:α) (a':Act) (A:World),w.heap.size≤l→(∃ r,A.heap[l]?=some (.loop r))→¬ S A l→w.heap.size+1≤A.heap.size→I pre A→Ax x a' A→pre.length < N→body.wpIn (Fence.wide.inRound l) (n - 1 - 1) P (postE S I Ix (pre ++ [x]) A) a' A)
  (hdone:∀ (xs:List α) (W:World),Done xs→I xs W→Q .normal a W)
  (hstop:∀ (c:Code) (pre:List α) (W:World),Ix c pre W→c.wpIn (Fence.wide.inRound l0) n P Q a W) :
  (Code.rangeFunc g ps assign body).wpIn (Fence.wide.inRound l0) n P Q a w:=by
 refine wpIn_rangeFunc ?_
 intro fn _
 obtain ⟨r0,hl0⟩:=hl0
 obtain ⟨rec,hrec⟩:∃ rec:LoopState→Option Code→Loop,rec=fun st pe=>{ state:=st,pending:=pe,fn,tmps:=a.tmps,params:=ps,assign,body,defers:=r0.defers }:=⟨_,rfl⟩
 obtain ⟨W1,hW1⟩:∃ W1,w.alloc (.loop (rec .ready none))=W1:=⟨_,rfl⟩
 have hbW:Below w.heap.size w W1:=by rw [← hW1];exact (Below.refl _ w).alloc (Nat.le_refl _) _
 have hsz:W1.heap.size=w.heap.size+1:=by rw [← hW1];simp
 have hL1:W1.heap[w.heap.size]?=some (.loop (rec .ready none)):=by rw [← hW1];exact World.alloc_heap_new w _
 have hki1:KI w.heap.size S w W1:=KI.of_below hbW
 have hS1:∀ k,S W1 k ↔ S w k:=hki1.det hD hm
 have hnl:¬ S W1 w.heap.size:=fun h=>by have:=hSw _ ((hS1 _).1 h);omega
 refine ⟨w.heap.size,[],W1,{ target:=.fn (.func gf) lb,args:=#[.func (.yield w.heap.size) #[] #[]] },W1,gf,
  #[.func (.yield w.heap.size) #[] #[]] ++ lb,W1,?_,?_,fun _ _=>trivial,?_,fun h=>by simp [Fence.wide] at h,?_⟩
 ·rw [← hW1,hrec];exact run_enterLoop_inner hl0 _ _ _ _ _
 ·simp only [resolve,hg]
  simp [go_sem]
 ·simp [invoke,go_sem,eg]
 ·refine CallsIn.inRound l0 ((hseq w.heap.size S m
   (fun pre W=>(I pre W∧W.heap[w.heap.size]?=some (.loop (rec .ready none)))∧¬ S W w.heap.size)
   (fun pre W=>(∃ c,Ix c pre W∧W.heap[w.heap.size]?=some (.loop (rec .done (some c))))∧¬ S W w.heap.size)
   W1 (hb0.trans (hbW.mono hb0.size)) hD (by omega) (fun k hk h=>hC k hk ((hS1 k).1 h)) (by have:=hb0.size;omega) (by omega) hnl (fun k h=>by have:=hSw k ((hS1 k).1 h);omega) ?_ ?_ ?_ ⟨⟨hI [] _ _ h0 (Nat.le_refl _) hki1,hL1⟩,hnl⟩).mono ?_)
  ·rintro pre A B ⟨⟨h1,h2⟩,h5⟩ hA hk
   have hd:=hk.det hD (by omega)
   exact ⟨⟨hI pre A B h1 (by omega) (hk.mono (by omega)),hk.keep _ _ h2 (Or.inl (by omega))⟩,fun h=>h5 ((hd _).1 h)⟩
  ·rintro pre A B ⟨⟨c,h1,h2⟩,h5⟩ hA hk
   have hd:=hk.det hD (by omega)
   exact ⟨⟨c,hIx c pre A B h1 (by omega) (hk.mono (by omega)),hk.keep _ _ h2 (Or.inl (by omega))⟩,fun h=>h5 ((hd _).1 h)⟩
  ·rintro pre x A ⟨⟨h1,h2⟩,h5⟩ hlen hA
   have hr:=round_own (P:=P) (n:=n - 1 - 1) hrec hps hD I Ix (Nat.le_refl w.heap.size) hI hIx Ax (fun x a' A o r=>hAx _ x a' A o r) (pre:=pre) (x:=x) h1 (by omega) (by omega) h2 h5 (fun K hK=>hassign _ pre x A K h1 (by omega) hK) (fun a' A' hl' hS' hsA hi' hax'=>hbody _ pre x a' A' (Nat.le_refl _) hl' hS' (by omega) hi' hax' hlen)
   obtain ⟨fn',tm',as',bo',e1,e2⟩:=hr
   refine ⟨fn',tm',as',bo',e1,e2.mono ?_⟩
   rintro e B (⟨rfl,⟨k1,k2⟩,k3⟩ | ⟨rfl,k1,k3⟩)
   ·exact Or.inl ⟨rfl,⟨⟨k1,k2⟩,k3.not_own (by omega) h5⟩,k3⟩
   ·exact Or.inr ⟨rfl,⟨k1,k3.not_own (by omega) h5⟩,k3⟩
  ·rintro e W2 ⟨⟨v,rfl⟩,(⟨xs,hS,⟨hi,hl⟩,hn2⟩ | ⟨pre,⟨c,hi,hl⟩,hn2⟩)⟩
   ·have hlt:=(Array.getElem?_eq_some_iff.1 hl).1
    have hki:KI w.heap.size S W2 (W2.putObj w.heap.size (.loop { rec .ready none with state:=.exhausted })):=KI.put _ (Nat.le_refl _) hn2
    refine ⟨none,_,by have:=run_endLoop (P:=P) hl (by rw [hrec];simp);rw [hrec] at this ⊢;exact this,hdone xs _ hS (hI _ _ _ hi (by omega) hki)⟩
   ·have hlt:=(Array.getElem?_eq_some_iff.1 hl).1
    have hki:KI w.heap.size S W2 (W2.putObj w.heap.size (.loop { rec .done (some c) with state:=.exhausted })):=KI.put _ (Nat.le_refl _) hn2
    refine ⟨some c,_,by have:=run_endLoop (P:=P) hl (by rw [hrec];simp);rw [hrec] at this ⊢;exact this,hstop c pre _ (hIx _ _ _ _ hi (by omega) hki)⟩
end
def ownOf (bs:List (Nat × Nat)) (X:List Nat) (W:World) (k:Nat):Prop:=k ∈ X ∨ ∃ p ∈ bs,∃ v,W.cell? ⟨p.1,p.2,none⟩=some v∧v.ownBlock=some k
theorem cell_same {W W':World}{b o:Nat} (h:W'.heap[b]?=W.heap[b]?):W'.cell? ⟨b,o,none⟩=W.cell? ⟨b,o,none⟩:=World.cell?_of_block (w:=W) (a:=⟨b,o,none⟩) h
theorem det_ownOf {bs:List (Nat × Nat)}{X:List Nat}{m:Nat} (hb:∀ p ∈ bs,p.1 ∈ X) (hX:∀ k ∈ X,k < m):Det m (ownOf bs X):=by
 intro W W' hm _ hk k
 have hc:∀ p ∈ bs,W'.cell? ⟨p.1,p.2,none⟩=W.cell? ⟨p.1,p.2,none⟩:=fun p hp=>by
  have hlt:p.1 < W.heap.size:=Nat.lt_of_lt_of_le (hX _ (hb p hp)) hm
  have ho:W.heap[p.1]?=some W.heap[p.1]:=Array.getElem?_eq_getElem hlt
  exact cell_same ((hk p.1 _ ho (Or.inl (hb p hp))).trans ho.symm)
 constructor
 ·rintro (h | ⟨p,hp,v,hv,hr⟩)
  ·exact Or.inl h
  ·exact Or.inr ⟨p,hp,v,by rw [← hc p hp];exact hv,hr⟩
 ·rintro (h | ⟨p,hp,v,hv,hr⟩)
  ·exact Or.inl h
  ·exact Or.inr ⟨p,hp,v,by rw [hc p hp];exact hv,hr⟩
theorem KE.more {bs bs':List (Nat × Nat)}{X X':List Nat}{W W':World} (h:KE (ownOf bs X) W W') (hX:∀ k ∈ X,k ∈ X') (hb:∀ p ∈ bs,p ∈ bs') (hn:∀ p ∈ bs',p ∈ bs ∨ (p.1 < W.heap.size∧¬ ownOf bs X W p.1)):KE (ownOf bs' X') W W':=by
 have hsub:∀ k,ownOf bs X W k→ownOf bs' X' W k:=fun k hk=>by
  rcases hk with h1 | ⟨p,hp,v,hv,hr⟩
  ·exact Or.inl (hX k h1)
  ·exact Or.inr ⟨p,hb p hp,v,hv,hr⟩
 refine ⟨h.os,h.tape,h.output,h.size,fun k o hk hs=>h.keep k o hk (fun h1=>hs (hsub k h1)),fun k hs=>?_⟩
 rcases hs with h1 | ⟨p,hp,v,hv,hr⟩
 ·exact Or.inl (Or.inl h1)
 ·rcases hn p hp with h1 | ⟨h1,h2⟩
  ·rcases h.own k (Or.inr ⟨p,h1,v,hv,hr⟩) with h3 | h3
   ·exact Or.inl (hsub k h3)
   ·exact Or.inr h3
  ·have ho:W.heap[p.1]?=some W.heap[p.1]:=Array.getElem?_eq_getElem h1
   have:=cell_same (o:=p.2) ((h.keep p.1 _ ho h2).trans ho.symm)
   exact Or.inl (Or.inr ⟨p,hp,v,by rw [← this];exact hv,hr⟩)
end Go.Proofs.YtpiacnnifdjlkabGreatDoor
namespace Go.Proofs.YtpiacnnifdjlkabGreatDoor
open Go.RowKit Go.Sort
def withL (S:World→Nat→Prop) (l:Nat) (W:World) (k:Nat):Prop:=S W k ∨ k=l
theorem det_withL {m l:Nat}{S:World→Nat→Prop} (h:Det m S):Det m (withL S l):=by
 intro W W' hm hs hk k
 have:=h W W' hm hs (fun k o ho hS=>hk k o ho (Or.inl hS)) k
 unfold withL
 rw [this]
theorem KO.withL {l:Nat}{S:World→Nat→Prop}{A B:World} (h:KO l S A B):KE (withL S l) A B:=
 ⟨h.os,h.tape,h.output,h.size,fun k o hk hn=>h.keep k o hk (fun e=>hn (Or.inr e)) (fun hs=>hn (Or.inl hs)),fun k hk=>by
  rcases hk with hk | hk
  ·rcases h.own k hk with h1 | h1
   ·exact Or.inl (Or.inl h1)
   ·exact Or.inr h1
  ·exact Or.inl (Or.inr hk)⟩
theorem KI.ofWithL {s s' l:Nat}{S:World→Nat→Prop}{A B:World} (h:KI s (Go.Proofs.YtpiacnnifdjlkabGreatDoor.withL S l) A B) (hs:s'≤s):KI s' S A B:=
 ⟨h.os,h.tape,h.output,h.size,fun k o hk hor=>h.keep k o hk (hor.imp (fun h1=>Nat.lt_of_lt_of_le h1 hs) Or.inl)⟩
theorem KO.thenKI {s l m:Nat}{S:World→Nat→Prop}{W A B:World} (h:KO l S W A) (hD:Det m S) (hm:m≤A.heap.size) (hs:W.heap.size≤s) (hk:KI s (Go.Proofs.YtpiacnnifdjlkabGreatDoor.withL S l) A B):KO l S W B:=
 ⟨hk.os.trans h.os,hk.tape.trans h.tape,hk.output.trans h.output,Nat.le_trans h.size hk.size,fun k o ho hl hn=>hk.keep k o (h.keep k o ho hl hn) (Or.inl (Nat.lt_of_lt_of_le (Array.getElem?_eq_some_iff.1 ho).1 hs)),fun k hS=>(h.own k (((hk.ofWithL (Nat.le_refl _)).det hD hm k).1 hS)).imp id (fun h2=>⟨h2.1,Nat.lt_of_lt_of_le h2.2 hk.size⟩)⟩
theorem KO.cell {l:Nat}{S:World→Nat→Prop}{W W':World} (h:KO l S W W') {b o:Nat}{v:Value} (hc:W.cell? ⟨b,o,none⟩=some v) (hl:b ≠ l) (hn:¬ S W b):W'.cell? ⟨b,o,none⟩=some v:=by
 have hlt:=World.block_lt_of_cell? W _ hc
 have ho:W.heap[b]?=some W.heap[b]:=Array.getElem?_eq_getElem hlt
 rw [cell_same ((h.keep b _ ho hl hn).trans ho.symm)]
 exact hc
structure ShutX (Ds:List Nat) (W W':World):Prop where
 os:W'.os=W.os
 tape:W'.tape=W.tape
 output:W'.output=W.output
 size:W.heap.size≤W'.heap.size
 other:∀ k,k ∉ Ds→W'.heap[k]?=W.heap[k]?
theorem leaves_marksX {F:Fence}{n:Nat}{P:Program}{fn:Func}{tmps:Array Value}{R:Ending→World→Prop} (lo:Nat):∀ (Ds:List Nat) (W:World),Marks W lo Ds →
  (∀ W',ShutX Ds W W'→LeavesIn F n P fn tmps R [] .returning W')→LeavesInM F n P fn tmps R (marksOf Ds) .returning W:=by
 intro Ds
 induction Ds with
 | nil=>exact fun W _ h=>h W ⟨rfl,rfl,rfl,Nat.le_refl _,fun _ _=>rfl⟩
 | cons D Ds ih =>
  rintro W ⟨hn,hall⟩ h
  obtain ⟨hlo,hD⟩:=hall D (by simp)
  have hn':=List.nodup_cons.1 hn
  refine ⟨by simp,.inl ⟨D,_,rfl,run_takeDeferred hD,ih _ ⟨hn'.2,fun E hE=>?_⟩ fun W' hS=>h W' ⟨hS.os,hS.tape,hS.output,?_,fun k hk=>?_⟩⟩⟩
  ·obtain ⟨h1,h2⟩:=hall E (List.mem_cons_of_mem _ hE)
   refine ⟨h1,?_⟩
   rw [heap_putObj_other _ _ _ _ (fun e=>hn'.1 (by rw [← e];exact hE))]
   exact h2
  ·refine Nat.le_trans ?_ hS.size
   simp [World.putObj]
  ·rw [List.mem_cons,not_or] at hk
   rw [hS.other k hk.2,heap_putObj_other _ _ _ _ hk.1]
theorem ShutX.ki {Ds:List Nat}{s:Nat}{S:World→Nat→Prop}{W W':World} (h:ShutX Ds W W') (h1:∀ D ∈ Ds,s≤D∧¬ S W D):KI s S W W':=
 ⟨h.os,h.tape,h.output,h.size,fun k o hk hor=>(h.other k (fun hm=>by
  rcases hor with h2 | h2
  ·have:=(h1 k hm).1;omega
  ·exact (h1 k hm).2 h2)).trans hk⟩
attribute [local go_sem] Oper.semAt_some
theorem fromOneO_in {ss:List Stp}{b off cap:Nat} (n l B1 B2 m:Nat) (S:World→Nat→Prop) (N:Nat) (st:Int) (J Jx:List { x:Stp // x ∈ ss∧GS st N x }→World→Prop) (W:World)
  (hY:∀ (pre:List { x:Stp // x ∈ ss∧GS st N x }) (x:{ x:Stp // x ∈ ss∧GS st N x }) (W1:World),J pre W1→pre.length < ss.length→W.heap.size≤W1.heap.size→YieldAt Fence.wide (n - 1) Tryz.prog l #[.agg #[.int .i64 x.1.f,.int .i64 x.1.l,.int .i64 x.1.t]] W1 fun e W' =>
   (e=.returned (.bool true)∧J (pre ++ [x]) W'∧KO l S W1 W') ∨ (e=.returned (.bool false)∧Jx (pre ++ [x]) W'∧KO l S W1 W'))
  (hD:Det m S) (hJ:∀ pre A B,J pre A→W.heap.size≤A.heap.size→KI W.heap.size S A B→J pre B) (hm:m≤W.heap.size) (hB1:W.cell? ⟨B1,4,none⟩=some (.slice (some ⟨b,off,none⟩) ss.length cap)) (hB2:W.cell? ⟨B2,0,none⟩=some (.int .i64 st)) (hb2:B2 ≠ l∧¬ S W B2) (hbs:b ≠ l∧¬ S W b)
  (hlen:ss.length≤1000000000) (hcap:ss.length≤cap) (hc:∀ i,i < ss.length→W.cell? ⟨b,off+i * 3,none⟩=some (.int .i64 (ss.getD i stp0).f)∧W.cell? ⟨b,off+i * 3+1,none⟩=some (.int .i64 (ss.getD i stp0).l)∧W.cell? ⟨b,off+i * 3+2,none⟩=some (.int .i64 (ss.getD i stp0).t))
  (hmono:∀ i j,i≤j→j < ss.length→(ss.getD i stp0).f≤(ss.getD j stp0).f) (hgs:∀ x,x ∈ ss→x.f=st→GS st N x) (h0:J [] W) :
  CallsIn Fence.wide n Tryz.prog 150 #[.func (.yield l) #[] #[],.pointer (some ⟨B1,0,none⟩),.pointer (some ⟨B2,0,none⟩)] W fun e W'=>(∃ v,e=.returned v) ∧
   ((∃ xs,(xs.map (·.1))=ss.filter (fun x=>decide (x.f=st))∧J xs W') ∨ (∃ pre,Jx pre W')):=by
 have HS:=hide (bsf_go ss b off cap st W (by omega) hc hmono)
 refine callsIn_of_wp Tryz.func150 rfl trivial ?_ rfl
 simp only [Tryz.ntmps150,List.size_toArray,List.length_cons,List.length_nil,Nat.reduceAdd,Nat.reduceSub,Array.replicate_succ,Array.replicate_zero,List.push_toArray,List.append_toArray,List.nil_append,List.cons_append]
 have Hc:=hide hc
 have HY:=hide hY
 have Hgs:=hide hgs
 have HJ:=hide hJ
 clear hc hY hgs hJ
 gi_wp2_with (fail)
 refine ⟨trivial,fun h=>by simp [Fence.wide] at h,(callsIn_wide.2 HS.out).mono ?_⟩
 rintro e w1 ⟨k0,q0,rfl,hk0,hlo,hhi,hb1⟩
 have Hlo:=hide hlo
 have Hhi:=hide hhi
 clear hlo hhi
 have x1:w1.cell? ⟨B1,4,none⟩=some (.slice (some ⟨b,off,none⟩) ss.length cap):=(hb1.cell (World.block_lt_of_cell? W _ hB1)).trans hB1
 have hK1:KO l S W w1:=KO.of_below hD hm hb1
 have hJ1:J [] w1:=HJ.out [] W w1 h0 (Nat.le_refl _) (KI.of_below hb1)
 have HJ1:=hide hJ1
 clear hJ1 h0 HS
 have Hmo:=hide hmono
 clear hmono
 by_cases hkl:k0 < ss.length
 ·have hne:¬ cap=k0:=by omega
  have hne2:¬ k0=cap:=by omega
  have hle0:k0≤cap:=by omega
  gi_wp2_with (fail)
  gi_loopw [20] (fun iv wr=>∃ i:Nat,iv=.int .i64 i∧k0+i≤ss.length∧(∃ pre,pre.map (·.1)=(ss.drop k0).take i∧J pre wr)∧(∀ j,k0≤j→j < k0+i→(ss.getD j stp0).f=st)∧KO l S W wr) (fun iv _=>ss.length - k0 - (intOf iv).toNat)
  case atStart=>exact ⟨0,rfl,by omega,⟨[],by simp,HJ1.out⟩,(fun j h1 h2=>by omega),hK1⟩
  case round =>
   obtain ⟨i,rfl,hi,⟨pre,hpre,hJp⟩,hall,hK⟩:=hrel
   have Hpre:=hide hpre
   have HJp:=hide hJp
   have Hall:=hide hall
   clear hpre hJp hall
   by_cases hil:k0+i < ss.length
   ·have hil2:i < ss.length - k0:=by omega
    obtain ⟨d0,d1,d2⟩:=Hc.out (k0+i) hil
    have ea:off+(k0+i) * 3=off+k0 * 3+i * 3:=by omega
    rw [ea] at d0 d1 d2
    replace d0:=hK.cell d0 hbs.1 hbs.2
    replace d1:=hK.cell d1 hbs.1 hbs.2
    replace d2:=hK.cell d2 hbs.1 hbs.2
    have y2:wr.cell? ⟨B2,0,none⟩=some (.int .i64 st):=hK.cell hB2 hb2.1 hb2.2
    generalize hx:ss.getD (k0+i) stp0=x at *
    have Hx:=hide hx
    clear hx
    have hxm:x ∈ ss:=by
     rw [← Hx.out,stp_getD _ _ hil]
     exact List.getElem_mem _
    have Hxm:=hide hxm
    clear hxm
    have hlb:B2 < wr.heap.size:=World.block_lt_of_cell? _ _ y2
    by_cases hfs:x.f=st
    ·have hd:(x.f != st)=false:=by simp [hfs]
     have Hfs:=hide hfs
     clear hfs
     have hlt':pre.length < ss.length:=by
      have:=congrArg List.length Hpre.out
      simp at this
      omega
     have hJa:J pre (wr.alloc (Obj.cells #[Value.int .i64 x.f,.int .i64 x.l,.int .i64 x.t] 88)):=HJ.out pre wr _ HJp.out hK.size (KI.of_below (below_new wr _))
     obtain ⟨fn,tmps,assign,body,hy,hR⟩:=HY.out pre ⟨x,Hxm.out,Hgs.out x Hxm.out Hfs.out⟩ _ hJa hlt' (by have:=hK.size;simp;omega)
     dsimp only at hy
     have HR:=hide hR
     clear hR
     gi_wp2_with (fail)
     refine ⟨fun h=>by simp [Fence.wide] at h,HR.out.mono ?_⟩
     rintro e W3 (⟨rfl,hJ3,hk3⟩ | ⟨rfl,hJx3,-⟩)
     ·have HJ3:=hide hJ3
      clear hJ3
      have hk4:KO l S W W3:=(hK.trans (KO.of_below hD (Nat.le_trans hm hK.size) (below_new wr _))).trans hk3
      gi_wp2
      go_roundw
      case rel =>
       refine ⟨i+1,by go_num,by omega,⟨pre ++ [⟨x,Hxm.out,Hgs.out x Hxm.out Hfs.out⟩],?_,HJ3.out⟩,fun j h1 h2=>?_,hk4⟩
       ·rw [take_snoc_getD ss k0 i hil,Hx.out,List.map_append,Hpre.out]
        rfl
       ·by_cases hj:j=k0+i
        ·subst hj;rw [Hx.out];exact Hfs.out
        ·exact Hall.out j h1 (by omega)
      case measure=>simp [intOf];omega
     ·have HJx3:=hide hJx3
      clear hJx3
      gi_wp2
      refine bodyPost_ret (results_none rfl _ _ _) rfl ?_
      exact ⟨⟨_,rfl⟩,.inr ⟨_,HJx3.out⟩⟩
    ·have hd:(x.f != st)=true:=by simp [hfs]
     have Hfs:=hide hfs
     clear hfs
     gi_wp2
     refine ⟨fun _ h=>(by cases h),?_⟩
     gi_wp2
     refine bodyPost_ret (results_none rfl _ _ _) rfl ?_
     refine ⟨⟨_,rfl⟩,.inl ⟨pre,?_,HJ.out pre wr _ HJp.out hK.size (KI.of_below (below_new wr _))⟩⟩
     rw [Hpre.out]
     refine (from_filter ss st k0 i Hlo.out Hall.out (fun j h1 h2=>?_) hi).symm
     have h3:=Hmo.out (k0+i) j h1 h2
     have h4:=Hhi.out (k0+i) (by omega) hil
     rw [Hx.out] at h3 h4
     have h5:x.f ≠ st:=Hfs.out
     omega
   ·gi_wp2
    go_end0
    refine ⟨⟨_,rfl⟩,.inl ⟨pre,?_,HJp.out⟩⟩
    rw [Hpre.out]
    exact (from_filter ss st k0 i Hlo.out Hall.out (fun j h1 h2=>by omega) hi).symm
 ·have hke:k0=ss.length:=by omega
  subst hke
  have hfin:([]:List { x:Stp // x ∈ ss∧GS st N x }).map (·.1)=ss.filter (fun x=>decide (x.f=st)):=by
   rw [from_filter ss st ss.length 0 Hlo.out (fun j h1 h2=>by omega) (fun j h1 h2=>by omega) (by omega)]
   simp
  have Hfin:=hide hfin
  clear hfin
  gi_wp2_with (fail)
  all_goals
   refine wpIn_loop_rounds 1 ?_
   rw [roundsIn_succ]
   gi_wp2
   go_end0
   exact ⟨⟨_,rfl⟩,.inl ⟨[],Hfin.out,HJ1.out⟩⟩
def FromC (B1 B2:Nat) (a:Option Addr) (ss:List Stp) (k:Nat):Prop:=k=B1 ∨ k=B2 ∨ (ss ≠ []∧∃ b off,a=some ⟨b,off,none⟩∧k=b)
theorem fromSeqO {ss:List Stp}{a:Option Addr}{cap:Nat} (n B1 B2:Nat) (N:Nat) (st:Int) (w0:World) (hB1:w0.cell? ⟨B1,4,none⟩=some (.slice a ss.length cap)) (hB2:w0.cell? ⟨B2,0,none⟩=some (.int .i64 st))
  (hS:StepSl w0 (.slice a ss.length cap) ss) (hlen:ss.length≤1000000000)
  (hmono:∀ i j,i≤j→j < ss.length→(ss.getD i stp0).f≤(ss.getD j stp0).f) (hgs:∀ x,x ∈ ss→x.f=st→GS st N x) :
  SeqO n Tryz.prog 150 #[.pointer (some ⟨B1,0,none⟩),.pointer (some ⟨B2,0,none⟩)] (fun x:{ x:Stp // x ∈ ss∧GS st N x }=>#[.agg #[.int .i64 x.1.f,.int .i64 x.1.l,.int .i64 x.1.t]]) (FromC B1 B2 a ss)
   (fun xs=>xs.map (·.1)=ss.filter (fun x=>decide (x.f=st))) ss.length w0:=by
 intro l S m J Jx W hb hD hm hC hl0 hlW hSl hSW hJ hJx hY h0
 have hx1:=(hb.cell (World.block_lt_of_cell? w0 _ hB1)).trans hB1
 have hx2:=(hb.cell (World.block_lt_of_cell? w0 _ hB2)).trans hB2
 have hl2:B2 ≠ l:=by have:=World.block_lt_of_cell? w0 _ hB2;dsimp only at this;omega
 have hSw:=hS
 have hS':=hS.below hb
 obtain ⟨a',cap',e,_,hz,hn,hcap⟩:=hS'
 cases e
 show CallsIn Fence.wide n Tryz.prog 150 #[.func (.yield l) #[] #[],.pointer (some ⟨B1,0,none⟩),.pointer (some ⟨B2,0,none⟩)] W _
 by_cases hnil:ss=[]
 ·subst hnil
  refine (fromZero_in (N:=N) hn n l B1 B2 st (fun _ W=>J [] W) W hx1 hx2 h0).mono ?_
  rintro e W' ⟨hv,hj⟩
  exact ⟨hv,.inl ⟨[],rfl,hj⟩⟩
 ·rcases hz with rfl | ⟨b,off,rfl,hc⟩
  ·exact absurd rfl hnil
  ·have hbl:b < w0.heap.size:=by
    obtain ⟨a',cap',e,_,hz,_⟩:=hSw
    cases e
    rcases hz with rfl | ⟨b',off',e,hc'⟩
    ·exact absurd rfl hnil
    ·cases e
     exact World.block_lt_of_cell? w0 _ (hc' 0 (List.length_pos_iff.2 hnil)).1
   refine (fromOneO_in n l B1 B2 m S N st J Jx W (fun pre x W1 h1 h2 h3=>hY pre x W1 h1 h2 h3) hD hJ hm hx1 hx2 ⟨hl2,hC B2 (.inr (.inl rfl))⟩ ⟨by omega,hC b (.inr (.inr ⟨hnil,b,off,rfl,rfl⟩))⟩ hlen hcap hc hmono hgs h0).mono ?_
   rintro e W' ⟨hv,h⟩
   exact ⟨hv,h⟩
end Go.Proofs.YtpiacnnifdjlkabGreatDoor
