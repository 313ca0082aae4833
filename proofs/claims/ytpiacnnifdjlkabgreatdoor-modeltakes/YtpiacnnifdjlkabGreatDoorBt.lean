import Derived.Test.YtpiacnnifdjlkabGreatDoorBo
import Derived.MapKept
import Derived.Deep.LoopGhost
set_option maxRecDepth 100000
set_option maxHeartbeats 8000000
namespace Go.Proofs.YtpiacnnifdjlkabGreatDoor
open Go.RowKit Go.Sort Go.MapKept
structure Fr (R:List Nat) (w w':World):Prop where
 os:w'.os=w.os
 tape:w'.tape=w.tape
 output:w'.output=w.output
 size:w.heap.size≤w'.heap.size
 block:∀ k,k < w.heap.size→k ∉ R→w'.heap[k]?=w.heap[k]?
theorem Fr.refl (R:List Nat) (w:World):Fr R w w:=⟨rfl,rfl,rfl,Nat.le_refl _,fun _ _ _=>rfl⟩
theorem Fr.trans {R:List Nat}{a b c:World} (h:Fr R a b) (k:Fr R b c):Fr R a c:=
 ⟨k.os.trans h.os,k.tape.trans h.tape,k.output.trans h.output,Nat.le_trans h.size k.size,fun i hi hn=>(k.block i (Nat.lt_of_lt_of_le hi h.size) hn).trans (h.block i hi hn)⟩
theorem Fr.of_below {R:List Nat}{w w':World} (h:Below w.heap.size w w'):Fr R w w':=⟨h.os,h.tape,h.output,h.size,fun k hk _=>h.block k hk⟩
theorem Fr.mono {R R':List Nat}{w w':World} (h:Fr R w w') (hs:∀ k,k ∈ R→k ∈ R'):Fr R' w w':=
 ⟨h.os,h.tape,h.output,h.size,fun k hk hn=>h.block k hk (fun hm=>hn (hs k hm))⟩
theorem Fr.cell {R:List Nat}{w w':World} (h:Fr R w w') {p:Addr} (hp:p.block < w.heap.size) (hn:p.block ∉ R):w'.cell? p=w.cell? p:=World.cell?_of_block (w:=w) (h.block p.block hp hn)
def stV (B:Nat→Nat):Value:=.agg #[.int .u64 (B 0),.int .u64 (B 1),.int .u64 (B 2),.int .u64 (B 3),.int .u64 (B 4)]
def MetAt (w:World) (r:Nat) (M:Nat→Nat→Nat):Prop:=
 (∀ p,Words (M p))∧∃ es clock,w.heap[r]?=some (.map es clock)∧(∀ e ∈ es.toList,∃ q:Nat,e.key=.int .i64 q∧e.val=stV (M q)) ∧
  (∀ q:Nat,(∀ e ∈ es.toList,e.key ≠ .int .i64 q)→M q=fun _=>0)∧(es.toList.map (·.key)).Nodup
theorem MetAt.lt {w:World}{r:Nat}{M:Nat→Nat→Nat} (h:MetAt w r M):r < w.heap.size:=by
 obtain ⟨_,es,clock,hr,_⟩:=h
 exact (Array.getElem?_eq_some_iff.1 hr).1
theorem MetAt.keep {w w':World}{r:Nat}{M:Nat→Nat→Nat} (h:MetAt w r M) (hb:w'.heap[r]?=w.heap[r]?):MetAt w' r M:=by
 obtain ⟨hw,es,clock,hr,h2⟩:=h
 exact ⟨hw,es,clock,by rw [hb];exact hr,h2⟩
theorem MetAt.fr {w w':World}{r:Nat}{M:Nat→Nat→Nat}{R:List Nat} (h:MetAt w r M) (hb:Fr R w w') (hn:r ∉ R):MetAt w' r M:=h.keep (hb.block r h.lt hn)
theorem MetAt.below {w w':World}{r:Nat}{M:Nat→Nat→Nat} (h:MetAt w r M) (hb:Below w.heap.size w w'):MetAt w' r M:=h.keep (hb.block r h.lt)
theorem find_spec (p:Nat):∀ (l:List MapEntry) (i:Nat),(∀ e ∈ l,∃ q:Nat,e.key=.int .i64 q) →
  (Instr.findNow (.int .i64) (.int .i64 p) l i=some none∧∀ e ∈ l,e.key ≠ .int .i64 p) ∨
  ∃ j e,l[j]?=some e∧e.key=.int .i64 p∧Instr.findNow (.int .i64) (.int .i64 p) l i=some (some (i+j,e.val))
 | [],i,_=>Or.inl ⟨rfl,by simp⟩
 | e :: l,i,h=>by
  obtain ⟨q,hq⟩:=h e (by simp)
  by_cases hpq:p=q
  ·right
   subst hpq
   exact ⟨0,e,rfl,hq,by simp [Instr.findNow,Instr.sameNow,hq]⟩
  ·have hne:((p:Int) == (q:Int))=false:=by rw [beq_eq_false_iff_ne];omega
   have hstep:Instr.findNow (.int .i64) (.int .i64 p) (e :: l) i=Instr.findNow (.int .i64) (.int .i64 p) l (i+1):=by
    simp [Instr.findNow,Instr.sameNow,hq,hne]
   rcases find_spec p l (i+1) (fun x hx=>h x (by simp [hx])) with ⟨h1,h2⟩ | ⟨j,x,h1,h2,h3⟩
   ·left
    refine ⟨by rw [hstep,h1],fun x hx=>?_⟩
    rcases List.mem_cons.1 hx with rfl | hx
    ·rw [hq];intro e;simp at e;omega
    ·exact h2 x hx
   ·right
    exact ⟨j+1,x,by simpa using h1,h2,by rw [hstep,h3];simp;omega⟩
theorem isKey_int (p:Int):IsKey (.int .i64) (.int .i64 p):=by simp [IsKey]
theorem run_lookup_met {w:World}{r:Nat}{M:Nat→Nat→Nat} (h:MetAt w r M) (p:Nat):(Instr.lookup 192 (.map (some r)) (.int .i64 p) false).run Tryz.prog w=.ok (stV (M p)) w:=by
 obtain ⟨hw,es,clock,hr,hes,hno,hnd⟩:=h
 have hk:=run_checkKey (P:=Tryz.prog) (w:=w) Tryz.underlying3 (isKey_int p) es.isEmpty 9999
 rcases find_spec p es.toList 0 (fun e he=>let ⟨q,hq,_⟩:=hes e he;⟨q,hq⟩) with ⟨h1,h2⟩ | ⟨j,e,h1,h2,h3⟩
 ·have hf:=run_findKey (P:=Tryz.prog) (w:=w) Tryz.underlying3 h1
  have hM:M p=fun _=>0:=hno p h2
  have hz:stV (M p)=.agg #[.int .u64 0,.int .u64 0,.int .u64 0,.int .u64 0,.int .u64 0]:=by rw [hM];rfl
  rw [hz]
  simp [Instr.lookup,run_underlying Tryz.underlying192,Go.MapKept.run_getObj_map hr,hk,hf]
 ·have hf:=run_findKey (P:=Tryz.prog) (w:=w) Tryz.underlying3 h3
  have hv:e.val=stV (M p):=by
   obtain ⟨q,hq,hv⟩:=hes e (List.mem_of_getElem? h1)
   rw [h2] at hq
   have:p=q:=by simp at hq;omega
   subst this
   exact hv
  rw [hv] at hf
  simp [Instr.lookup,run_underlying Tryz.underlying192,Go.MapKept.run_getObj_map hr,hk,hf]
def updM (M:Nat→Nat→Nat) (p:Nat) (B:Nat→Nat):Nat→Nat→Nat:=fun q=>if q=p then B else M q
theorem run_update_met {w:World}{r:Nat}{M:Nat→Nat→Nat} (h:MetAt w r M) (p:Nat) (B:Nat→Nat) (hB:Words B) :
  ∃ w',(Instr.mapUpdate 192 (.map (some r)) (.int .i64 p) (stV B)).run Tryz.prog w=.ok () w'∧MetAt w' r (updM M p B)∧Fr [r] w w':=by
 obtain ⟨hw,es,clock,hr,hes,hno,hnd⟩:=h
 have hd:=Tryz.underlying3
 have hk:=isKey_int p
 have hfr:∀ o,Fr [r] w { w with heap:=w.heap.setIfInBounds r o }:=fun o =>
  ⟨rfl,rfl,rfl,by simp,fun k _ hn=>(heap_set (o':=o) hr).2 k (by simpa using hn)⟩
 have hwm:∀ q,Words (updM M p B q):=fun q=>by
  unfold updM
  split
  ·exact hB
  ·exact hw q
 rcases find_spec p es.toList 0 (fun e he=>let ⟨q,hq,_⟩:=hes e he;⟨q,hq⟩) with ⟨h1,h2⟩ | ⟨j,e,h1,h2,h3⟩
 ·refine ⟨{ w with heap:=w.heap.setIfInBounds r (.map (es.push { key:=.int .i64 p,val:=stV B,born:=clock }) (clock+1)) },?_,⟨hwm,_,_,(heap_set hr).1,?_,?_,?_⟩,hfr _⟩
  ·simp [Instr.mapUpdate,run_underlying Tryz.underlying192,Go.MapKept.run_getObj_map hr,Go.MapKept.run_checkKey hd hk,Go.MapKept.run_findKey hd h1,Go.MapKept.run_setObj_map _ hr,Result.andThen]
  ·intro x hx
   simp only [Array.toList_push,List.mem_append,List.mem_singleton] at hx
   rcases hx with hx | rfl
   ·obtain ⟨q,hq,hv⟩:=hes x hx
    refine ⟨q,hq,?_⟩
    have:¬ q=p:=by intro e;subst e;exact h2 x hx hq
    unfold updM;rw [if_neg this];exact hv
   ·exact ⟨p,rfl,by unfold updM;rw [if_pos rfl]⟩
  ·intro q hq
   have hqp:¬ q=p:=by
    intro e;subst e
    exact hq { key:=.int .i64 q,val:=stV B,born:=clock } (by simp) rfl
   unfold updM;rw [if_neg hqp]
   exact hno q fun x hx=>hq x (by simp [Array.toList_push,hx])
  ·rw [Array.toList_push,List.map_append,List.nodup_append]
   refine ⟨hnd,by simp,?_⟩
   intro a ha b hb
   simp at hb
   subst hb
   obtain ⟨x,hx,rfl⟩:=List.mem_map.1 ha
   exact h2 x hx
 ·have hj:es[j]?=some e:=by simpa using h1
  have hjl:j < es.size:=(Array.getElem?_eq_some_iff.1 hj).1
  refine ⟨{ w with heap:=w.heap.setIfInBounds r (.map (es.modify j fun e=>{ e with key:=.int .i64 p,val:=stV B }) clock) },?_,⟨hwm,_,_,(heap_set hr).1,?_,?_,?_⟩,hfr _⟩
  ·rw [Nat.zero_add] at h3
   simp [Instr.mapUpdate,run_underlying Tryz.underlying192,Go.MapKept.run_getObj_map hr,Go.MapKept.run_checkKey hd hk,Go.MapKept.run_findKey hd h3,hj,h2,Go.MapKept.run_keyThatStays hk,Go.MapKept.run_setObj_map _ hr,Result.andThen]
  ·intro x hx
   obtain ⟨i,hi⟩:=List.mem_iff_getElem?.1 hx
   rw [Array.getElem?_toList,Array.getElem?_modify] at hi
   by_cases hij:j=i
   ·subst hij
    rw [if_pos rfl,hj] at hi
    simp at hi
    subst hi
    exact ⟨p,rfl,by unfold updM;rw [if_pos rfl]⟩
   ·rw [if_neg hij] at hi
    have hxm:x ∈ es.toList:=by rw [Array.mem_toList_iff];exact Array.mem_of_getElem? hi
    obtain ⟨q,hq,hv⟩:=hes x hxm
    refine ⟨q,hq,?_⟩
    have hqp:¬ q=p:=by
     intro e;subst e
     have a1:(es.toList.map (·.key))[j]?=some (.int .i64 q):=by simp [hj,h2]
     have a2:(es.toList.map (·.key))[i]?=some (.int .i64 q):=by simp [hi,hq]
     exact hij ((List.getElem?_inj (by simpa using hjl) hnd).1 (a1.trans a2.symm))
    unfold updM;rw [if_neg hqp];exact hv
  ·intro q hq
   have hkeys:=Go.MapKept.modify_keys (es:=es) j (fun e=>{ e with key:=.int .i64 p,val:=stV B }) (fun e' he'=>by rw [hj] at he';cases he';exact h2.symm)
   have hall:∀ x ∈ es.toList,x.key ≠ .int .i64 q:=by
    intro x hx e1
    have:x.key ∈ (es.modify j fun e=>{ e with key:=.int .i64 p,val:=stV B }).toList.map (·.key):=by rw [hkeys];exact List.mem_map.2 ⟨x,hx,rfl⟩
    obtain ⟨y,hy,e2⟩:=List.mem_map.1 this
    exact hq y hy (e2.trans e1)
   have hqp:¬ q=p:=by
    intro e1;subst e1
    exact hall e (List.mem_of_getElem? h1) h2
   unfold updM;rw [if_neg hqp]
   exact hno q hall
  ·rw [Go.MapKept.modify_keys (es:=es) j (fun e=>{ e with key:=.int .i64 p,val:=stV B }) (fun e' he'=>by rw [hj] at he';cases he';exact h2.symm)]
   exact hnd
end Go.Proofs.YtpiacnnifdjlkabGreatDoor
namespace Go.Proofs.YtpiacnnifdjlkabGreatDoor
abbrev Spot:=Nat × Nat
def goN (E:Spot→Spot→Prop):Nat→Spot→Spot→Prop
 | 0,x,y=>x=y
 | n+1,x,y=>∃ z,E x z∧goN E n z y
def Leads (E:Spot→Spot→Prop) (x y:Spot):Prop:=∃ n,goN E n x y
def LeadsOn (E:Spot→Spot→Prop) (x y:Spot):Prop:=∃ n,goN E (n+1) x y
section
variable {E:Spot→Spot→Prop}
theorem goN_trans {m n:Nat}{x y z:Spot} (h:goN E m x y) (k:goN E n y z):goN E (m+n) x z:=by
 induction m generalizing x with
 | zero=>rw [Nat.zero_add];have e:x=y:=h;rw [e];exact k
 | succ m ih =>
  obtain ⟨u,h1,h2⟩:=h
  rw [Nat.succ_add]
  exact ⟨u,h1,ih h2⟩
theorem Leads.refl (x:Spot):Leads E x x:=⟨0,rfl⟩
theorem Leads.trans {x y z:Spot} (h:Leads E x y) (k:Leads E y z):Leads E x z:=let ⟨m,h⟩:=h;let ⟨n,k⟩:=k;⟨m+n,goN_trans h k⟩
theorem Leads.one {x y:Spot} (h:E x y):Leads E x y:=⟨1,y,h,rfl⟩
theorem LeadsOn.one {x y:Spot} (h:E x y):LeadsOn E x y:=⟨0,y,h,rfl⟩
theorem LeadsOn.trans_right {x y z:Spot} (h:LeadsOn E x y) (k:Leads E y z):LeadsOn E x z:=by
 obtain ⟨m,h⟩:=h
 obtain ⟨n,k⟩:=k
 have:=goN_trans h k
 rw [Nat.succ_add] at this
 exact ⟨m+n,this⟩
theorem LeadsOn.trans_left {x y z:Spot} (h:Leads E x y) (k:LeadsOn E y z):LeadsOn E x z:=by
 obtain ⟨m,h⟩:=h
 obtain ⟨n,k⟩:=k
 have:=goN_trans h k
 exact ⟨m+n,this⟩
theorem closed_leads {S:Spot→Prop} (hc:∀ x y,S x→E x y→S y) {x y:Spot} (h:Leads E x y) (hx:S x):S y:=by
 obtain ⟨n,h⟩:=h
 induction n generalizing x with
 | zero=>have e:x=y:=h;rw [← e];exact hx
 | succ n ih =>
  obtain ⟨z,h1,h2⟩:=h
  exact ih (hc x z hx h1) h2
theorem leaves {S:Spot→Prop}{x y:Spot} (h:Leads E x y) (hx:S x) (hy:¬ S y):∃ u v,Leads E x u∧S u∧E u v∧¬ S v∧Leads E v y:=by
 obtain ⟨n,h⟩:=h
 induction n generalizing x with
 | zero=>have e:x=y:=h;rw [← e] at hy;exact absurd hx hy
 | succ n ih =>
  obtain ⟨z,h1,h2⟩:=h
  by_cases hz:S z
  ·obtain ⟨u,v,a,b,c,d,e⟩:=ih hz h2
   exact ⟨u,v,(Leads.one h1).trans a,b,c,d,e⟩
  ·exact ⟨x,z,Leads.refl x,hx,h1,hz,n,h2⟩
def Path (E:Spot→Spot→Prop):List Spot→Prop
 | []=>True
 | [_]=>True
 | x :: y :: r=>E y x∧Path E (y :: r)
theorem path_leads {x y:Spot}{r:List Spot} (h:Path E (x :: r)) (hy:y ∈ x :: r):Leads E y x:=by
 induction r generalizing x with
 | nil =>
  have:y=x:=by simpa using hy
  rw [this];exact Leads.refl x
 | cons z r ih =>
  rcases List.mem_cons.1 hy with rfl | hy
  ·exact Leads.refl _
  ·exact (ih h.2 hy).trans (Leads.one h.1)
structure Dfs (E:Spot→Spot→Prop) (seen done:Spot→Prop) (path:List Spot):Prop where
 onPath:∀ x,x ∈ path→seen x∧¬ done x
 split:∀ x,seen x→done x ∨ x ∈ path
 sub:∀ x,done x→seen x
 closed:∀ x y,done x→E x y→seen y
 chain:Path E path
 nodup:List.Nodup path
 back:∀ x,done x→(∃ y,¬ done y∧Leads E x y)→LeadsOn E x x
theorem Dfs.push {seen done:Spot→Prop}{x y:Spot}{r:List Spot} (h:Dfs E seen done (x :: r)) (he:E x y) (hy:¬ seen y) :
  Dfs E (fun z=>seen z ∨ z=y) done (y :: x :: r):=by
 refine ⟨?_,?_,fun z hz=>Or.inl (h.sub z hz),fun a b ha hb=>Or.inl (h.closed a b ha hb),⟨he,h.chain⟩,?_,h.back⟩
 ·intro z hz
  rcases List.mem_cons.1 hz with rfl | hz
  ·exact ⟨Or.inr rfl,fun hd=>hy (h.sub _ hd)⟩
  ·exact ⟨Or.inl (h.onPath z hz).1,(h.onPath z hz).2⟩
 ·intro z hz
  rcases hz with hz | rfl
  ·rcases h.split z hz with h1 | h1
   ·exact Or.inl h1
   ·exact Or.inr (List.mem_cons_of_mem _ h1)
  ·exact Or.inr (by simp)
 ·rw [List.nodup_cons]
  exact ⟨fun hm=>hy (h.onPath y hm).1,h.nodup⟩
theorem Dfs.pop {seen done:Spot→Prop}{x:Spot}{r:List Spot} (h:Dfs E seen done (x :: r)) (hall:∀ y,E x y→seen y) :
  Dfs E seen (fun z=>done z ∨ z=x) r:=by
 have hnd:=h.nodup
 rw [List.nodup_cons] at hnd
 have hpath:Path E r:=by
  cases r with
  | nil=>trivial
  | cons y r=>exact h.chain.2
 have hclosed:∀ a b,(done a ∨ a=x)→E a b→seen b:=by
  intro a b ha hb
  rcases ha with ha | rfl
  ·exact h.closed a b ha hb
  ·exact hall b hb
 refine ⟨?_,?_,?_,hclosed,hpath,hnd.2,?_⟩
 ·intro z hz
  refine ⟨(h.onPath z (List.mem_cons_of_mem _ hz)).1,?_⟩
  rintro (hd | rfl)
  ·exact (h.onPath z (List.mem_cons_of_mem _ hz)).2 hd
  ·exact hnd.1 hz
 ·intro z hz
  rcases h.split z hz with h1 | h1
  ·exact Or.inl (Or.inl h1)
  ·rcases List.mem_cons.1 h1 with rfl | h1
   ·exact Or.inl (Or.inr rfl)
   ·exact Or.inr h1
 ·rintro z (hz | rfl)
  ·exact h.sub z hz
  ·exact (h.onPath z (by simp)).1
 ·rintro z hz ⟨y,hy,hl⟩
  rcases hz with hz | rfl
  ·exact h.back z hz ⟨y,fun hd=>hy (Or.inl hd),hl⟩
  ·obtain ⟨u,v,h1,h2,h3,h4,_⟩:=leaves (S:=fun a=>done a ∨ a=z) hl (Or.inr rfl) hy
   have hs:=hclosed u v h2 h3
   rcases h.split v hs with hd | hm
   ·exact absurd (Or.inl hd) h4
   ·have hv:v ∈ r:=by
     rcases List.mem_cons.1 hm with rfl | hm
     ·exact absurd (Or.inr rfl) h4
     ·exact hm
    exact (LeadsOn.trans_left h1 (LeadsOn.one h3)).trans_right (path_leads h.chain (List.mem_cons_of_mem _ hv))
theorem Dfs.begin_ {seen done:Spot→Prop}{x:Spot} (h:Dfs E seen done []) (hx:¬ seen x):Dfs E (fun z=>seen z ∨ z=x) done [x]:=by
 refine ⟨?_,?_,fun z hz=>Or.inl (h.sub z hz),fun a b ha hb=>Or.inl (h.closed a b ha hb),trivial,by simp,h.back⟩
 ·intro z hz
  have:z=x:=by simpa using hz
  subst this
  exact ⟨Or.inr rfl,fun hd=>hx (h.sub _ hd)⟩
 ·intro z hz
  rcases hz with hz | rfl
  ·rcases h.split z hz with h1 | h1
   ·exact Or.inl h1
   ·cases h1
  ·exact Or.inr (by simp)
theorem Dfs.whole {seen done:Spot→Prop} (h:Dfs E seen done []) (x:Spot):seen x ↔ done x:=
 ⟨fun hs=>(h.split x hs).resolve_right (by simp),h.sub x⟩
theorem no_circle {good:Spot→Prop}{seen done:Spot→Prop}{r:List Spot}{seed:Spot}{I I':Spot→Prop}
  (h:Dfs E seen done (seed :: r)) (hI:∀ x,I x→∃ s,done s∧good s∧Leads E s x) (hno:∀ s,done s→good s→¬ LeadsOn E s s)
  (hI':∀ x y,I' x→E x y→I' y) (hs:I' seed) (hnew:∀ x,I' x→¬ I x→¬ E x seed):¬ LeadsOn E seed seed:=by
 intro hc
 have hnot:∀ x,Leads E x seed→¬ I x:=by
  intro x hx hIx
  obtain ⟨s,hd,hg,hl⟩:=hI x hIx
  exact hno s hd hg (h.back s hd ⟨seed,(h.onPath seed (by simp)).2,hl.trans hx⟩)
 have key:∀ n x,I' x→goN E (n+1) x seed→False:=by
  intro n
  induction n with
  | zero =>
   rintro x hx ⟨z,h1,h2⟩
   have e:z=seed:=h2
   rw [e] at h1
   exact hnew x hx (hnot x (Leads.one h1)) h1
  | succ n ih =>
   rintro x hx ⟨z,h1,h2⟩
   exact ih z (hI' x z hx h1) h2
 obtain ⟨n,hn⟩:=hc
 exact key n seed hs hn
end
end Go.Proofs.YtpiacnnifdjlkabGreatDoor
namespace Go.Proofs.YtpiacnnifdjlkabGreatDoor
open Go.RowKit Go.Sort
structure Rn where
 n:Int
 m:Int
 a1:Option Addr
 l1:Nat
 c1:Nat
 a2:Option Addr
 l2:Nat
 c2:Nat
 a3:Option Addr
 l3:Nat
 c3:Nat
 a4:Option Addr
 c4:Nat
 a5:Option Addr
 c5:Nat
 g:Nat
 N:Nat
 hs:List Int
 ls:List Int
def rnV (R:Rn):Value:=.agg #[.int .i64 R.n,.int .i64 R.m,.slice R.a1 R.l1 R.c1,.slice R.a2 R.l2 R.c2,.slice R.a3 R.l3 R.c3,.slice R.a4 R.hs.length R.c4,.slice R.a5 R.ls.length R.c5,.slice (some ⟨R.g,0,none⟩) R.N R.N]
structure RnOk (w:World) (R:Rn) (D:Nat→Nat→Nat→Nat):Prop where
 head:IntSl w (.slice R.a4 R.hs.length R.c4) R.hs
 loop:IntSl w (.slice R.a5 R.ls.length R.c5) R.ls
 hlen:R.hs.length≤4000
 llen:R.ls.length≤4000
 lpos:R.ls ≠ []
 few:R.N≤300
 letter:∀ p,0≤lat R.hs R.ls p∧lat R.hs R.ls p < 8
 cell:∀ s l i,s < R.N→l < 8→i < 5→w.cell? ⟨R.g,s * 40+l * 5+i,none⟩=some (.int .u64 (D s l i))
 words:∀ s l,Words (D s l)
 into:∀ s l t,inB (D s l) t=true→t < R.N
theorem RnOk.below {w w':World}{R:Rn}{D:Nat→Nat→Nat→Nat} (h:RnOk w R D) (hb:Below w.heap.size w w'):RnOk w' R D:=
 ⟨h.head.below hb,h.loop.below hb,h.hlen,h.llen,h.lpos,h.few,h.letter,fun s l i hs hl hi=>by
  have:=h.cell s l i hs hl hi
  rw [hb.cell (World.block_lt_of_cell? w _ this)];exact this,h.words,h.into⟩
theorem cell_first3 (w:World) (ca:Array Value) (ta:TypeId) (ob oc:Obj) (i:Nat):(((w.alloc (.cells ca ta)).alloc ob).alloc oc).cell? ⟨w.heap.size,i,none⟩=ca[i]?:=by
 rw [World.cell?_alloc_past _ _ _ (by simp;omega)]
 exact World.cell?_alloc2_first ca ta ob i
theorem cell_mid3 (w:World) (oa:Obj) (cb:Array Value) (tb:TypeId) (oc:Obj) (i:Nat):(((w.alloc oa).alloc (.cells cb tb)).alloc oc).cell? ⟨w.heap.size+1,i,none⟩=cb[i]?:=by
 rw [World.cell?_alloc_past _ _ _ (by simp)]
 exact World.cell?_alloc2_new oa cb tb i
def nextOf (R:Rn) (p:Nat):Nat:=if p+1=R.hs.length+R.ls.length then R.hs.length else p+1
theorem next_any (R:Rn) (p:Nat) (w:World) (h1:R.hs.length≤4000) (h2:R.ls.length≤4000) (hp:p≤100000) :
  Calls Tryz.prog 133 #[rnV R,.int .i64 p] w fun e w'=>e=.returned (.int .i64 (nextOf R p:Nat))∧Below w.heap.size w w':=by
 unfold rnV
 by_cases h:p+1=R.hs.length+R.ls.length
 ·have hb:((p:Int)+1 == (R.hs.length:Int)+(R.ls.length:Int))=true:=by rw [beq_iff_eq];omega
  rw [show nextOf R p=R.hs.length by simp [nextOf,h]]
  clear h
  go_enter Tryz.func133,Tryz.ntmps133
  go_wp2
  go_ret
  exact ⟨rfl,(by repeat (first | exact Below.refl _ _ | assumption | refine below_drewN ?_ _ | refine Below.drew ?_ | refine Below.alloc ?_ (by simp <;> omega) _ | refine below_trans ?_ (by assumption)))⟩
 ·have hb:((p:Int)+1 == (R.hs.length:Int)+(R.ls.length:Int))=false:=by rw [beq_eq_false_iff_ne];omega
  rw [show nextOf R p=p+1 by simp [nextOf,h]]
  clear h
  go_enter Tryz.func133,Tryz.ntmps133
  go_wp2
  go_ret
  exact ⟨rfl,(by repeat (first | exact Below.refl _ _ | assumption | refine below_drewN ?_ _ | refine Below.drew ?_ | refine Below.alloc ?_ (by simp <;> omega) _ | refine below_trans ?_ (by assumption)))⟩
theorem after_any (R:Rn) (D:Nat→Nat→Nat→Nat) (p s:Nat) (w:World) (hR:RnOk w R D) (hp:p≤100000) (hs:s < R.N) :
  Calls Tryz.prog 134 #[rnV R,.agg #[.int .i64 p,.int .i64 s]] w fun e w'=>e=.returned (stV (D s (lat R.hs R.ls p).toNat))∧Below w.heap.size w w':=by
 have HL:Hid (∀ w1,Below w.heap.size w w1→w.heap.size+3≤w1.heap.size→Calls Tryz.prog 65 #[.agg #[.slice R.a4 R.hs.length R.c4,.slice R.a5 R.ls.length R.c5],.int .i64 p] w1 fun e w'=>e=.returned (.int .i64 (lat R.hs R.ls p))∧Below w1.heap.size w1 w'∧(∀ b o,b < w.heap.size+3→w'.cell? ⟨b,o,none⟩=w1.cell? ⟨b,o,none⟩)∧(∀ b o,b < w.heap.size+3→w'.frozen? ⟨b,o,none⟩=w1.frozen? ⟨b,o,none⟩)):=
  fun w1 hb hsz=>(letterAt_any (hR.head.below hb) (hR.loop.below hb) p (by omega) (by omega) hR.lpos).mono fun e w' ⟨he,hb'⟩=>⟨by simpa using he,hb',fun b o h=>hb'.cell (p:=⟨b,o,none⟩) (Nat.lt_of_lt_of_le h hsz),fun b o h=>hb'.frozen (p:=⟨b,o,none⟩) (Nat.lt_of_lt_of_le h hsz)⟩
 obtain ⟨h0,h8⟩:=hR.letter p
 generalize hx:lat R.hs R.ls p=x at *
 obtain ⟨l,rfl⟩:=Int.eq_ofNat_of_zero_le h0
 have hl:l < 8:=by omega
 rw [Int.toNat_natCast]
 have d0:=hR.cell s l 0 hs hl (by decide)
 have d1:=hR.cell s l 1 hs hl (by decide)
 have d2:=hR.cell s l 2 hs hl (by decide)
 have d3:=hR.cell s l 3 hs hl (by decide)
 have d4:=hR.cell s l 4 hs hl (by decide)
 rw [Nat.add_zero] at d0
 have hg:=World.block_lt_of_cell? w _ d0
 have hfew:=hR.few
 clear hR hx
 generalize D s l=B at *
 unfold rnV stV
 go_enter Tryz.func134,Tryz.ntmps134
 go_wp2_with (fail)
 generalize hW0:((w.alloc (Obj.cells #[Value.int .i64 R.n,.int .i64 R.m,.slice R.a1 R.l1 R.c1,.slice R.a2 R.l2 R.c2,.slice R.a3 R.l3 R.c3,.slice R.a4 R.hs.length R.c4,.slice R.a5 R.ls.length R.c5,.slice (some ⟨R.g,0,none⟩) R.N R.N] 125)).alloc (Obj.cells #[Value.int .i64 p,.int .i64 s] 195)).alloc (Obj.cells #[Value.int .u64 0,.int .u64 0,.int .u64 0,.int .u64 0,.int .u64 0] 188)=W0
 have hbW:Below w.heap.size w W0:=by rw [← hW0];exact (by repeat (first | exact Below.refl _ _ | assumption | refine below_drewN ?_ _ | refine Below.drew ?_ | refine Below.alloc ?_ (by simp <;> omega) _ | refine below_trans ?_ (by assumption)))
 have hW3:w.heap.size+3≤W0.heap.size:=by rw [← hW0];simp
 have hold:∀ b o,b < w.heap.size→W0.cell? ⟨b,o,none⟩=w.cell? ⟨b,o,none⟩:=fun b o h=>hbW.cell (p:=⟨b,o,none⟩) h
 rw [← hold _ _ hg] at d0 d1 d2 d3 d4
 have x5:W0.cell? ⟨w.heap.size,5,none⟩=some (.slice R.a4 R.hs.length R.c4):=by rw [← hW0];exact cell_first3 _ _ _ _ _ _
 have x6:W0.cell? ⟨w.heap.size,6,none⟩=some (.slice R.a5 R.ls.length R.c5):=by rw [← hW0];exact cell_first3 _ _ _ _ _ _
 have x7:W0.cell? ⟨w.heap.size,7,none⟩=some (.slice (some ⟨R.g,0,none⟩) R.N R.N):=by rw [← hW0];exact cell_first3 _ _ _ _ _ _
 have y0:W0.cell? ⟨w.heap.size+1,0,none⟩=some (.int .i64 p):=by rw [← hW0];exact cell_mid3 _ _ _ _ _ _
 have y1:W0.cell? ⟨w.heap.size+1,1,none⟩=some (.int .i64 s):=by rw [← hW0];exact cell_mid3 _ _ _ _ _ _
 have z0:∀ i,i < 5→W0.cell? ⟨w.heap.size+1+1,i,none⟩=some (.int .u64 0):=fun i hi=>by
  have h:=cell_three w (Obj.cells #[Value.int .i64 R.n,.int .i64 R.m,.slice R.a1 R.l1 R.c1,.slice R.a2 R.l2 R.c2,.slice R.a3 R.l3 R.c3,.slice R.a4 R.hs.length R.c4,.slice R.a5 R.ls.length R.c5,.slice (some ⟨R.g,0,none⟩) R.N R.N] 125) (Obj.cells #[Value.int .i64 p,.int .i64 s] 195) #[Value.int .u64 0,.int .u64 0,.int .u64 0,.int .u64 0,.int .u64 0] 188 i
  rw [hW0] at h
  exact h.trans (five_get (fun _=>0) .u64 i hi)
 have f0:∀ i,W0.frozen? ⟨w.heap.size+1+1,i,none⟩=false:=fun i=>by
  rw [← hW0]
  have h:=World.frozen?_alloc_new ((w.alloc (Obj.cells #[Value.int .i64 R.n,.int .i64 R.m,.slice R.a1 R.l1 R.c1,.slice R.a2 R.l2 R.c2,.slice R.a3 R.l3 R.c3,.slice R.a4 R.hs.length R.c4,.slice R.a5 R.ls.length R.c5,.slice (some ⟨R.g,0,none⟩) R.N R.N] 125)).alloc (Obj.cells #[Value.int .i64 p,.int .i64 s] 195)) #[Value.int .u64 0,.int .u64 0,.int .u64 0,.int .u64 0,.int .u64 0] 188 i
  rw [World.size_alloc,World.size_alloc] at h
  exact h
 have z00:=z0 0 (by decide)
 have z01:=z0 1 (by decide)
 have z02:=z0 2 (by decide)
 have z03:=z0 3 (by decide)
 have z04:=z0 4 (by decide)
 have hg3:R.g < w.heap.size+3:=by omega
 have n1:¬ w.heap.size+1+1=w.heap.size:=by omega
 have n2:¬ w.heap.size=w.heap.size+1+1:=by omega
 have n3:¬ w.heap.size+1+1=w.heap.size+1:=by omega
 have n4:¬ w.heap.size+1+1=R.g:=by omega
 have n5:¬ R.g=w.heap.size+1+1:=by omega
 have hp3:(0:Int)≤s:=by omega
 have hN:(s:Int) < R.N:=by omega
 have hq3:(l:Int) < 8:=by omega
 clear hW0 hold z0
 go_region_held3 (fun w'=>w'.cell? ⟨w.heap.size,5,none⟩=some (.slice R.a4 R.hs.length R.c4)∧w'.cell? ⟨w.heap.size,6,none⟩=some (.slice R.a5 R.ls.length R.c5)∧w'.cell? ⟨w.heap.size,7,none⟩=some (.slice (some ⟨R.g,0,none⟩) R.N R.N)∧w'.cell? ⟨w.heap.size+1,0,none⟩=some (.int .i64 p)∧w'.cell? ⟨w.heap.size+1,1,none⟩=some (.int .i64 s)∧w'.cell? ⟨R.g,s * 40+l * 5,none⟩=some (.int .u64 (B 0))∧w'.cell? ⟨R.g,s * 40+l * 5+1,none⟩=some (.int .u64 (B 1))∧w'.cell? ⟨R.g,s * 40+l * 5+2,none⟩=some (.int .u64 (B 2))∧w'.cell? ⟨R.g,s * 40+l * 5+3,none⟩=some (.int .u64 (B 3))∧w'.cell? ⟨R.g,s * 40+l * 5+4,none⟩=some (.int .u64 (B 4))) (go_keep) (first | (go_at_call 65;refine (HL.out _ ?_ ?_).mono ?_;exact Below.drew hbW;exact hW3;rintro e w3 ⟨rfl,hb3,hc3,hf3⟩))
 have w30:w3.cell? ⟨w.heap.size+1+1,0,none⟩=some (.int .u64 0):=(hc3 _ _ (by omega)).trans z00
 have w31:w3.cell? ⟨w.heap.size+1+1,1,none⟩=some (.int .u64 0):=(hc3 _ _ (by omega)).trans z01
 have w32:w3.cell? ⟨w.heap.size+1+1,2,none⟩=some (.int .u64 0):=(hc3 _ _ (by omega)).trans z02
 have w33:w3.cell? ⟨w.heap.size+1+1,3,none⟩=some (.int .u64 0):=(hc3 _ _ (by omega)).trans z03
 have w34:w3.cell? ⟨w.heap.size+1+1,4,none⟩=some (.int .u64 0):=(hc3 _ _ (by omega)).trans z04
 have hb4:Below w.heap.size w w3:=below_trans (Below.drew hbW) hb3
 clear hc3 hf3
 go_wp2
 refine bodyPost_ret (v:=.agg #[.int .u64 (B 0),.int .u64 (B 1),.int .u64 (B 2),.int .u64 (B 3),.int .u64 (B 4)]) (by simp [results,Tryz.results134,go_sem,w30,w31,w32,w33,w34]) rfl ⟨rfl,?_⟩
 exact ((((hb4.setCell (by simp;omega) _).setCell (by simp;omega) _).setCell (by simp;omega) _).setCell (by simp;omega) _).setCell (by simp;omega) _
theorem metHas_any {w:World}{r:Nat}{M:Nat→Nat→Nat} (h:MetAt w r M) (p s:Nat) (hs:s < 300) :
  Calls Tryz.prog 177 #[.map (some r),.agg #[.int .i64 p,.int .i64 s]] w fun e w'=>e=.returned (.bool (inB (M p) s))∧Below w.heap.size w w':=by
 have hlk:=run_lookup_met (h.below (below_new w (Obj.cells #[Value.int .i64 p,.int .i64 s] 195))) p
 have HH:=hide (fun w1=>has_any (M p) s w1 hs (h.1 p))
 unfold stV at hlk
 generalize inB (M p) s=b at *
 clear h
 generalize M p=B at *
 go_enter Tryz.func177,Tryz.ntmps177
 go_wp2_with (fail)
 refine (HH.out _).mono ?_
 rintro e w1 ⟨rfl,hb1⟩
 go_wp2
 go_ret
 exact ⟨rfl,below_trans (by repeat (first | exact Below.refl _ _ | assumption | refine below_drewN ?_ _ | refine Below.drew ?_ | refine Below.alloc ?_ (by simp <;> omega) _ | refine below_trans ?_ (by assumption))) hb1⟩
def addM (M:Nat→Nat→Nat) (p s:Nat):Nat→Nat→Nat:=updM M p (addB (M p) s)
theorem metAdd_any {w:World}{r:Nat}{M:Nat→Nat→Nat} (h:MetAt w r M) (p s:Nat) (hs:s < 300) :
  Calls Tryz.prog 178 #[.map (some r),.agg #[.int .i64 p,.int .i64 s]] w fun e w'=>e=.returned (.tuple #[])∧MetAt w' r (addM M p s)∧Fr [r] w w':=by
 have hlk:=run_lookup_met (h.below (Below.drew (below_new w (Obj.cells #[Value.int .i64 p,.int .i64 s] 195)))) p
 have HH:=hide (fun w1=>with_any (M p) s w1 hs (h.1 p))
 have Hh:=hide h
 clear h
 unfold stV at hlk
 have Hw:Hid (Words (addB (M p) s)):=addB_words (Hh.out.1 p) s
 unfold addM
 generalize addB (M p) s=C at *
 generalize hB:M p=B at *
 clear hB
 go_enter Tryz.func178,Tryz.ntmps178
 go_wp2_with (fail)
 go_region_law (first | (refine step_call rfl 128 [.tmp 10,.tmp 12] _ rfl Tryz.call128 ?_;refine (HH.out _).mono ?_;rintro e w3 ⟨rfl,hb3⟩;refine ⟨_,rfl,?_⟩;have hb3':=below_trans (Below.drew (below_new w (Obj.cells #[Value.int .i64 p,.int .i64 s] 195))) hb3;have y3:w3.cell? ⟨w.heap.size,0,none⟩=some (.int .i64 p):=(hb3.cell (p:=⟨w.heap.size,0,none⟩) (show w.heap.size < (w.alloc (Obj.cells #[Value.int .i64 p,.int .i64 s] 195)).heap.size by simp)).trans (World.cell?_alloc_new w _ _ 0);obtain ⟨w4,hup,hm4,hf4⟩:=run_update_met (Hh.out.below hb3') p C Hw.out;unfold stV at hup))
 all_goals
  go_wp2
  go_end0
  exact ⟨rfl,hm4,(Fr.of_below hb3').trans hf4⟩
theorem inM_add (M:Nat→Nat→Nat) (p s q t:Nat):inB (addM M p s q) t=(inB (M q) t || decide (q=p∧t=s)):=by
 unfold addM updM
 by_cases h:q=p
 ·subst h
  rw [if_pos rfl,inB_add]
  simp
 ·rw [if_neg h]
  simp [h]
theorem unmet_any {w:World}{r:Nat}{M:Nat→Nat→Nat} (R:Rn) (D:Nat→Nat→Nat→Nat) (p s:Nat) (hR:RnOk w R D) (hM:MetAt w r M) (ht:Tab w) (hp:p≤100000) (hs:s < R.N) :
  Calls Tryz.prog 179 #[rnV R,.agg #[.int .i64 p,.int .i64 s],.map (some r)] w fun e w'=>e=.returned (.tuple #[.agg #[.int .i64 (nextOf R p:Nat),.int .i64 (wout (D s (lat R.hs R.ls p).toNat) (M (nextOf R p))).1],.bool (wout (D s (lat R.hs R.ls p).toNat) (M (nextOf R p))).2])∧Below w.heap.size w w':=by
 have HN:=hide (fun w1=>next_any R p w1 hR.hlen hR.llen hp)
 have HA:Hid (∀ w1,Below w.heap.size w w1→Calls Tryz.prog 134 #[rnV R,.agg #[.int .i64 p,.int .i64 s]] w1 fun e w'=>e=.returned (stV (D s (lat R.hs R.ls p).toNat))∧Below w1.heap.size w1 w'):=fun w1 hb=>after_any R D p s w1 (hR.below hb) hp hs
 have HW:Hid (∀ w1,Below w.heap.size w w1→Calls Tryz.prog 209 #[stV (D s (lat R.hs R.ls p).toNat),stV (M (nextOf R p))] w1 fun e w'=>e=.returned (.tuple #[.int .i64 (wout (D s (lat R.hs R.ls p).toNat) (M (nextOf R p))).1,.bool (wout (D s (lat R.hs R.ls p).toNat) (M (nextOf R p))).2])∧Below w1.heap.size w1 w'):=fun w1 hb=>without_any _ _ w1 (hR.words _ _) (hM.1 _) (ht.below hb)
 have HK:Hid (∀ w1,Below w.heap.size w w1→(Instr.lookup 192 (.map (some r)) (.int .i64 (nextOf R p:Nat)) false).run Tryz.prog w1=.ok (stV (M (nextOf R p))) w1):=fun w1 hb=>run_lookup_met (hM.below hb) _
 clear hR hM ht
 generalize wout (D s (lat R.hs R.ls p).toNat) (M (nextOf R p))=q at *
 generalize D s (lat R.hs R.ls p).toNat=B at *
 generalize M (nextOf R p)=C at *
 generalize nextOf R p=p' at *
 obtain ⟨t,b⟩:=q
 dsimp only at *
 unfold rnV at *
 unfold stV at HA HW HK
 go_enter Tryz.func179,Tryz.ntmps179
 go_wp2_with (fail)
 refine (HN.out _).mono ?_
 rintro e w1 ⟨rfl,hb1⟩
 have hbw:Below w.heap.size w w1:=below_trans (by repeat (first | exact Below.refl _ _ | assumption | refine below_drewN ?_ _ | refine Below.drew ?_ | refine Below.alloc ?_ (by simp <;> omega) _ | refine below_trans ?_ (by assumption))) hb1
 have hs1:w.heap.size+3≤w1.heap.size:=by have:=hb1.size;simpa using this
 have r0:∀ i,i < 8→w1.cell? ⟨w.heap.size,i,none⟩=(#[Value.int .i64 R.n,.int .i64 R.m,.slice R.a1 R.l1 R.c1,.slice R.a2 R.l2 R.c2,.slice R.a3 R.l3 R.c3,.slice R.a4 R.hs.length R.c4,.slice R.a5 R.ls.length R.c5,.slice (some ⟨R.g,0,none⟩) R.N R.N]:Array Value)[i]?:=fun i _=>by
  rw [hb1.cell (by simp <;> omega)];exact cell_first3 _ _ _ _ _ _
 have s0:∀ i,i < 2→w1.cell? ⟨w.heap.size+1,i,none⟩=(#[Value.int .i64 p,.int .i64 s]:Array Value)[i]?:=fun i _=>by
  rw [hb1.cell (by simp <;> omega)];exact cell_mid3 _ _ _ _ _ _
 have k0:=cell_regrown (r0 0 (by decide))
 have k1:=cell_regrown (r0 1 (by decide))
 have k2:=cell_regrown (r0 2 (by decide))
 have k3:=cell_regrown (r0 3 (by decide))
 have k4:=cell_regrown (r0 4 (by decide))
 have k5:=cell_regrown (r0 5 (by decide))
 have k6:=cell_regrown (r0 6 (by decide))
 have k7:=cell_regrown (r0 7 (by decide))
 have j0:=cell_regrown (s0 0 (by decide))
 have j1:=cell_regrown (s0 1 (by decide))
 have hlk:∀ d os,(Instr.lookup 192 (.map (some r)) (.int .i64 p') false).run Tryz.prog (grow (redrawn w1 d) os)=.ok (.agg #[.int .u64 (C 0),.int .u64 (C 1),.int .u64 (C 2),.int .u64 (C 3),.int .u64 (C 4)]) (grow (redrawn w1 d) os):=fun d os=>HK.out _ (below_trans hbw (below_regrown w1 d os))
 have CA:=hide (fun d os=>Calls.regrown_of (HA.out (grow (redrawn w1 d) os) (below_trans hbw (below_regrown w1 d os))))
 have CW:=hide (fun d os=>Calls.regrown_of (HW.out (grow (redrawn w1 d) os) (below_trans hbw (below_regrown w1 d os))))
 have q0:w1.cell? ⟨w.heap.size+1+1,0,none⟩=some (.int .i64 0):=by
  rw [hb1.cell (by simp)]
  exact (cell_three w _ _ #[Value.int .i64 0,.int .i64 0] 195 0)
 have q1:w1.cell? ⟨w.heap.size+1+1,1,none⟩=some (.int .i64 0):=by
  rw [hb1.cell (by simp)]
  exact (cell_three w _ _ #[Value.int .i64 0,.int .i64 0] 195 1)
 have fz:∀ i,w1.frozen? ⟨w.heap.size+1+1,i,none⟩=false:=fun i=>by
  rw [hb1.frozen (by simp)]
  have h:=World.frozen?_alloc_new ((w.alloc (Obj.cells #[Value.int .i64 R.n,.int .i64 R.m,.slice R.a1 R.l1 R.c1,.slice R.a2 R.l2 R.c2,.slice R.a3 R.l3 R.c3,.slice R.a4 R.hs.length R.c4,.slice R.a5 R.ls.length R.c5,.slice (some ⟨R.g,0,none⟩) R.N R.N] 125)).alloc (Obj.cells #[Value.int .i64 p,.int .i64 s] 195)) #[Value.int .i64 0,.int .i64 0] 195 i
  rw [World.size_alloc,World.size_alloc] at h
  exact h
 clear r0 s0
 go_wp2_with (fail)
 refine wp_region_quiet_below (by kernel_rfl) (by kernel_rfl) ?_
 (repeat (go_big_quiet_step (first | exact CA.out _ _ | exact CW.out _ _)))
 refine wpQuiet_nil ?_
 intro _ hw'
 obtain ⟨⟨dq,osq⟩,hw''⟩:=hw'
 subst hw''
 have hbq:=below_regrown w1 dq osq
 clear k0 k1 k2 k3 k4 k5 k6 k7 j0 j1 hlk CA CW
 dsimp only at hbq ⊢
 generalize hwq:grow (redrawn w1 dq) osq=wq at hbq ⊢
 clear hwq
 have v0:wq.cell? ⟨w.heap.size+1+1,0,none⟩=some (.int .i64 0):=by rw [hbq.cell (by simp;omega)];exact q0
 have v1:wq.cell? ⟨w.heap.size+1+1,1,none⟩=some (.int .i64 0):=by rw [hbq.cell (by simp;omega)];exact q1
 have f0:wq.frozen? ⟨w.heap.size+1+1,0,none⟩=false:=by rw [hbq.frozen (by simp;omega)];exact fz 0
 have f1:wq.frozen? ⟨w.heap.size+1+1,1,none⟩=false:=by rw [hbq.frozen (by simp;omega)];exact fz 1
 have hbf:=below_trans hbw hbq
 clear fz q0 q1
 go_wp2
 exact bodyPost_ret (v:=.tuple #[.agg #[.int .i64 p',.int .i64 t],.bool b]) (by simp [results,Tryz.results179,go_sem,v0,v1]) rfl ⟨rfl,(hbf.setCell (by simp;omega) _).setCell (by simp;omega) _⟩
def Edge (R:Rn) (D:Nat→Nat→Nat→Nat) (x y:Spot):Prop:=y.1=nextOf R x.1∧inB (D x.2 (lat R.hs R.ls x.1).toNat) y.2=true
def inM (M:Nat→Nat→Nat) (x:Spot):Prop:=inB (M x.1) x.2=true
def InR (R:Rn) (x:Spot):Prop:=x.1 < R.hs.length+R.ls.length∧x.2 < R.N
theorem inM_addM (M:Nat→Nat→Nat) (p s:Nat):inM (addM M p s)=fun z=>inM M z ∨ z=(p,s):=by
 funext z
 apply propext
 unfold inM
 rw [inM_add]
 obtain ⟨q,t⟩:=z
 simp
theorem next_lt (R:Rn) (p:Nat) (hl:R.ls ≠ []) (hp:p < R.hs.length+R.ls.length):nextOf R p < R.hs.length+R.ls.length:=by
 have:=List.length_pos_iff.2 hl
 unfold nextOf
 split <;> omega
def unmetOf (R:Rn) (M:Nat→Nat→Nat):Nat:=(List.range ((R.hs.length+R.ls.length) * R.N)).countP fun i=>!inB (M (i / R.N)) (i % R.N)
theorem countP_lt {p q:Nat→Bool}:∀ (l:List Nat),(∀ i,q i=true→p i=true)→∀ k,k ∈ l→p k=true→q k=false→l.countP q+1≤l.countP p
 | [],_,k,hk,_,_=>by cases hk
 | a :: l,h,k,hk,hp,hq=>by
  have hle:l.countP q≤l.countP p:=List.countP_mono_left fun i _ hi=>h i hi
  rw [List.countP_cons,List.countP_cons]
  rcases List.mem_cons.1 hk with rfl | hk
  ·rw [hp,hq];simp;exact hle
  ·have ih:=countP_lt l h k hk hp hq
   by_cases hqa:q a=true
   ·rw [hqa,h a hqa];simp;omega
   ·rw [Bool.not_eq_true] at hqa
    rw [hqa];simp;split <;> omega
theorem unmet_add (R:Rn) (M:Nat→Nat→Nat) (x:Spot) (hx:InR R x) (hn:¬ inM M x):unmetOf R (addM M x.1 x.2)+1≤unmetOf R M:=by
 obtain ⟨p,s⟩:=x
 obtain ⟨h1,h2⟩:=hx
 dsimp only at h1 h2
 unfold unmetOf
 have e1:(p * R.N+s) / R.N=p:=by
  rw [Nat.mul_comm,Nat.mul_add_div (by omega),Nat.div_eq_of_lt h2,Nat.add_zero]
 have e2:(p * R.N+s) % R.N=s:=by
  rw [Nat.mul_comm,Nat.mul_add_mod,Nat.mod_eq_of_lt h2]
 refine countP_lt _ (fun i hi=>?_) (p * R.N+s) ?_ ?_ ?_
 ·rw [inM_add] at hi
  simp at hi
  simp [hi.1]
 ·rw [List.mem_range]
  calc p * R.N+s < p * R.N+R.N:=by omega
   _=(p+1) * R.N:=by rw [Nat.succ_mul]
   _≤(R.hs.length+R.ls.length) * R.N:=Nat.mul_le_mul_right _ (by omega)
 ·rw [e1,e2]
  unfold inM at hn
  simpa using hn
 ·rw [e1,e2,inM_add]
  simp
theorem unmet_le (R:Rn) (M:Nat→Nat→Nat) (h1:R.hs.length≤4000) (h2:R.ls.length≤4000) (h3:R.N≤300):unmetOf R M≤2400000:=by
 unfold unmetOf
 have h:=List.countP_le_length (p:=fun i=>!inB (M (i / R.N)) (i % R.N)) (l:=List.range ((R.hs.length+R.ls.length) * R.N))
 rw [List.length_range] at h
 have:(R.hs.length+R.ls.length) * R.N≤8000 * 300:=Nat.mul_le_mul (by omega) h3
 omega
def flat:List Spot→List Value
 | []=>[]
 | x :: r=>flat r ++ [.int .i64 x.1,.int .i64 x.2]
theorem flat_length (l:List Spot):(flat l).length=l.length * 2:=by
 induction l with
 | nil=>rfl
 | cons x r ih=>simp [flat,ih];omega
theorem spotInfo:Tryz.prog.info? 195=some Tryz.t195:=by kernel_rfl
theorem Fr.owns {RR:List Nat}{w w':World}{base:Nat}{e:TypeId}{size:Nat}{v:Value}{n:Nat}{xs:List Value} (h:w.ownsRow base e size v n xs) (hf:Fr RR w w') (hR:∀ k,k ∈ RR→k < base):w'.ownsRow base e size v n xs:=by
 refine ⟨h.1,?_⟩
 rcases h.2 with h2 | ⟨g,cap,cur,hv,hg,hh,r⟩
 ·exact Or.inl h2
 ·refine Or.inr ⟨g,cap,cur,hv,hg,?_,r⟩
  rw [hf.block g (Array.getElem?_eq_some_iff.1 hh).1 (fun hm=>by have:=hR g hm;omega)]
  exact hh
theorem path_last {w:World}{base g cap:Nat}{x:Spot}{r:List Spot} (h:w.ownsRow base 195 2 (.slice (some ⟨g,0,none⟩) (r.length+1) cap) (r.length+1) (flat (x :: r))) :
  w.cell? ⟨g,r.length * 2,none⟩=some (.int .i64 x.1)∧w.cell? ⟨g,r.length * 2+1,none⟩=some (.int .i64 x.2):=by
 have e:=flat_length r
 constructor
 ·have:=h.cells (g:=g) rfl (r.length * 2) (.int .i64 x.1) (by simp [flat,← e])
  rwa [add_none,Nat.zero_add] at this
 ·have:=h.cells (g:=g) rfl (r.length * 2+1) (.int .i64 x.2) (by simp only [flat];rw [List.getElem?_append_right (by omega),e];simp)
  rwa [add_none,Nat.zero_add] at this
end Go.Proofs.YtpiacnnifdjlkabGreatDoor
