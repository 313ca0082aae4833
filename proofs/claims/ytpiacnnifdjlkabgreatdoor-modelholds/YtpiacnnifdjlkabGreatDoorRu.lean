import Derived.Test.YtpiacnnifdjlkabGreatDoorLc
import Derived.Test.YtpiacnnifdjlkabGreatDoorYm
import Derived.MapKept
import Derived.Laws.StructEq
set_option maxRecDepth 100000
set_option maxHeartbeats 8000000
namespace Go.Proofs.YtpiacnnifdjlkabGreatDoor
def addN {ν:Type} [DecidableEq ν] (met:List ν) (x:ν):List ν:=if x ∈ met then met else met ++ [x]
section
variable {ν:Type} [DecidableEq ν]
theorem addN_mem {met:List ν}{x y:ν}:y ∈ addN met x ↔ y ∈ met ∨ y=x:=by
 unfold addN
 split
 ·rename_i h
  constructor
  ·exact Or.inl
  ·rintro (h1 | rfl)
   ·exact h1
   ·exact h
 ·simp
theorem addN_num {met:List ν}{x y:ν} (h:y ∈ met):numOf (addN met x) y=numOf met y:=by
 unfold addN
 split
 ·rfl
 ·exact numOf_append _ h
theorem addN_nodup {met:List ν}{x:ν} (h:met.Nodup):(addN met x).Nodup:=by
 unfold addN
 split
 ·exact h
 ·rename_i hx
  rw [List.nodup_append]
  refine ⟨h,by simp,fun a ha b hb=>?_⟩
  rw [List.mem_singleton] at hb
  subst hb
  exact fun e=>hx (by rw [← e];exact ha)
theorem addN_get {met:List ν}{x y:ν}{i:Nat} (h:met[i]?=some y):(addN met x)[i]?=some y:=by
 unfold addN
 split
 ·exact h
 ·rw [List.getElem?_append_left (List.getElem?_eq_some_iff.1 h).1]
  exact h
theorem addN_take {met:List ν}{x:ν}{i:Nat} (h:i≤met.length):(addN met x).take i=met.take i:=by
 unfold addN
 split
 ·rfl
 ·rw [List.take_append_of_le_length h]
theorem addN_len {met:List ν}{x:ν}:met.length≤(addN met x).length:=by
 unfold addN
 split
 ·exact Nat.le_refl _
 ·simp
structure First (first:List ν) (i:Nat) (met:List ν) (fs:List Int):Prop where
 nodup:met.Nodup
 all:∀ x,x ∈ met ↔ x ∈ first.take i
 fs:fs=(first.take i).map (fun x=>(numOf met x:Int))
theorem First.nil (first:List ν):First first 0 [] []:=⟨List.nodup_nil,by simp,by simp⟩
theorem First.next {first:List ν}{i:Nat}{met:List ν}{fs:List Int} (h:First first i met fs) {x:ν} (hx:first[i]?=some x):First first (i+1) (addN met x) (fs ++ [(numOf (addN met x) x:Int)]):=by
 have e:first.take (i+1)=first.take i ++ [x]:=by
  rw [List.take_add_one,hx];rfl
 refine ⟨addN_nodup h.nodup,fun y=>?_,?_⟩
 ·rw [addN_mem,h.all,e,List.mem_append,List.mem_singleton]
 ·rw [e,List.map_append,h.fs]
  congr 1
  refine List.map_congr_left fun y hy=>?_
  rw [addN_num ((h.all y).2 hy)]
theorem nodup_sub {l k:List ν} (hn:l.Nodup) (h:∀ x ∈ l,x ∈ k):l.length≤k.length:=
 have h1:=nodup_le k.length (l.map (numOf k)) (by
  rw [List.Nodup,List.pairwise_map]
  exact List.Pairwise.imp_of_mem (fun {a b} ha hb hne e=>hne (numOf_inj (h a ha) (h b hb) e)) hn) (fun q hq=>by
  obtain ⟨x,hx,rfl⟩:=List.mem_map.1 hq
  exact numOf_lt (h x hx))
 by rwa [List.length_map] at h1
theorem First.few {first:List ν}{i:Nat}{met:List ν}{fs:List Int} (h:First first i met fs) (hi:i≤first.length):met.length≤first.length:=by
 have:=nodup_sub h.nodup (fun x hx=>(h.all x).1 hx)
 rw [List.length_take] at this
 omega
theorem First.fslen {first:List ν}{i:Nat}{met:List ν}{fs:List Int} (h:First first i met fs):fs.length≤i:=by
 rw [h.fs,List.length_map]
 exact List.length_take_le _ _
structure Grow (first:List ν) (G:ν→Bool) (S:ν→List (Int × ν)) (i:Nat) (pre:List (Int × ν)) (met:List ν) (ss:List Stp):Prop where
 nodup:met.Nodup
 first_met:∀ x ∈ first,x ∈ met
 least:∀ P:ν→Prop,(∀ x ∈ first,P x)→(∀ x,P x→∀ p ∈ S x,P p.2)→(∀ p ∈ pre,∃ x,met[i]?=some x∧p ∈ S x)→∀ x ∈ met,P x
 le:i≤met.length
 targets:∀ j,j < i→∀ x,met[j]?=some x→∀ p ∈ S x,p.2 ∈ met
 now:∀ p ∈ pre,p.2 ∈ met
 steps:∀ s,s ∈ ss ↔ (∃ j x c y,j < i∧met[j]?=some x∧(c,y) ∈ S x∧s=⟨(j:Nat),c,(numOf met y:Nat)⟩) ∨ ∃ c y,(c,y) ∈ pre∧s=⟨(i:Nat),c,(numOf met y:Nat)⟩
 apart:(∀ x,(S x).Nodup)→pre.Nodup→ss.Nodup
theorem Grow.begin_ {first:List ν}{G:ν→Bool}{S:ν→List (Int × ν)}{met:List ν}{fs:List Int} (h:First first first.length met fs):Grow first G S 0 [] met []:=by
 have hm:∀ x,x ∈ met ↔ x ∈ first:=fun x=>by rw [h.all,List.take_length]
 exact ⟨h.nodup,fun x hx=>(hm x).2 hx,fun P h1 _ _ x hx=>h1 x ((hm x).1 hx),Nat.zero_le _,fun j hj=>absurd hj (Nat.not_lt_zero _),fun p hp=>absurd hp (List.not_mem_nil),fun s=>by simp,fun _ _=>List.nodup_nil⟩
theorem Grow.step {first:List ν}{G:ν→Bool}{S:ν→List (Int × ν)}{i:Nat}{pre:List (Int × ν)}{met:List ν}{ss:List Stp} (h:Grow first G S i pre met ss) {x:ν} (hx:met[i]?=some x) {c:Int}{y:ν} (hp:(c,y) ∈ S x):Grow first G S i (pre ++ [(c,y)]) (addN met y) (ss ++ [⟨(i:Nat),c,(numOf (addN met y) y:Nat)⟩]):=by
 have hi:i < met.length:=(List.getElem?_eq_some_iff.1 hx).1
 have hold:∀ {j:Nat}{z:ν},j < i→((addN met y)[j]?=some z ↔ met[j]?=some z):=fun {j z} hj=>by
  have h1:=addN_take (x:=y) h.le
  have h2:((addN met y).take i)[j]?=(met.take i)[j]?:=by rw [h1]
  rw [List.getElem?_take_of_lt hj,List.getElem?_take_of_lt hj] at h2
  rw [h2]
 refine ⟨addN_nodup h.nodup,fun z hz=>addN_mem.2 (Or.inl (h.first_met z hz)),fun P h1 h2 h3 z hz=>?_,Nat.le_trans h.le addN_len,fun j hj z hz p hp=>addN_mem.2 (Or.inl (h.targets j hj z ((hold hj).1 hz) p hp)),fun p hp=>?_,fun s=>?_,fun hS hn=>?_⟩
 ·have h4:∀ p ∈ pre,∃ x,met[i]?=some x∧p ∈ S x:=fun p hp=>by
   obtain ⟨x',hx',hm'⟩:=h3 p (List.mem_append_left _ hp)
   rw [addN_get hx] at hx'
   obtain rfl:=Option.some.inj hx'
   exact ⟨x,hx,hm'⟩
  have h5:=h.least P h1 h2 h4
  rcases addN_mem.1 hz with h6 | rfl
  ·exact h5 z h6
  ·exact h2 x (h5 x (List.mem_of_getElem? hx)) _ hp
 ·rcases List.mem_append.1 hp with h1 | h1
  ·exact addN_mem.2 (Or.inl (h.now p h1))
  ·rw [List.mem_singleton] at h1
   subst h1
   exact addN_mem.2 (Or.inr rfl)
 ·rw [List.mem_append,List.mem_singleton,h.steps s]
  constructor
  ·rintro ((⟨j,z,c',y',hj,hz,hm,rfl⟩ | ⟨c',y',hm,rfl⟩) | rfl)
   ·exact Or.inl ⟨j,z,c',y',hj,(hold hj).2 hz,hm,by rw [addN_num (h.targets j hj z hz _ hm)]⟩
   ·exact Or.inr ⟨c',y',List.mem_append_left _ hm,by rw [addN_num (h.now _ hm)]⟩
   ·exact Or.inr ⟨c,y,by simp,rfl⟩
  ·rintro (⟨j,z,c',y',hj,hz,hm,rfl⟩ | ⟨c',y',hm,rfl⟩)
   ·exact Or.inl (Or.inl ⟨j,z,c',y',hj,(hold hj).1 hz,hm,by rw [addN_num (h.targets j hj z ((hold hj).1 hz) _ hm)]⟩)
   ·rcases List.mem_append.1 hm with h1 | h1
    ·exact Or.inl (Or.inr ⟨c',y',h1,by rw [addN_num (h.now _ h1)]⟩)
    ·rw [List.mem_singleton] at h1
     injection h1 with h2 h3
     subst h2 h3
     exact Or.inr rfl
 ·rw [List.nodup_append] at hn ⊢
  refine ⟨h.apart hS hn.1,by simp,fun a ha b hb e=>?_⟩
  rw [List.mem_singleton] at hb
  subst hb
  subst e
  rcases (h.steps _).1 ha with ⟨j,z,c',y',hj,hz,hm,e⟩ | ⟨c',y',hm,e⟩
  ·injection e with e1 _ _
   have:i=j:=Int.ofNat.inj e1
   omega
  ·injection e with _ e2 e3
   have e4:numOf (addN met y) y=numOf met y':=Int.ofNat.inj e3
   have e5:y=y':=by
    rw [← addN_num (x:=y) (h.now _ hm)] at e4
    exact numOf_inj (addN_mem.2 (Or.inr rfl)) (addN_mem.2 (Or.inl (h.now _ hm))) e4
   subst e5
   subst e2
   exact hn.2.2 _ hm _ (by simp) rfl
theorem Grow.next {first:List ν}{G:ν→Bool}{S:ν→List (Int × ν)}{i:Nat}{met:List ν}{ss:List Stp}{x:ν} (hx:met[i]?=some x) (h:Grow first G S i (S x) met ss):Grow first G S (i+1) [] met ss:=by
 have hi:i < met.length:=(List.getElem?_eq_some_iff.1 hx).1
 refine ⟨h.nodup,h.first_met,fun P h1 h2 _=>h.least P h1 h2 (fun p hp=>⟨x,hx,hp⟩),hi,fun j hj z hz p hp=>?_,fun p hp=>absurd hp (List.not_mem_nil),fun s=>?_,fun hS _=>h.apart hS (hS x)⟩
 ·by_cases e:j=i
  ·subst e
   rw [hx] at hz
   obtain rfl:=Option.some.inj hz
   exact h.now p hp
  ·exact h.targets j (by omega) z hz p hp
 ·rw [h.steps s]
  constructor
  ·rintro (⟨j,z,c',y',hj,hz,hm,rfl⟩ | ⟨c',y',hm,rfl⟩)
   ·exact Or.inl ⟨j,z,c',y',by omega,hz,hm,rfl⟩
   ·exact Or.inl ⟨i,x,c',y',by omega,hx,hm,rfl⟩
  ·rintro (⟨j,z,c',y',hj,hz,hm,rfl⟩ | ⟨c',y',hm,rfl⟩)
   ·by_cases e:j=i
    ·subst e
     rw [hx] at hz
     obtain rfl:=Option.some.inj hz
     exact Or.inr ⟨c',y',hm,rfl⟩
    ·exact Or.inl ⟨j,z,c',y',by omega,hz,hm,rfl⟩
   ·cases hm
theorem Grow.done {first:List ν}{G:ν→Bool}{S:ν→List (Int × ν)}{met:List ν}{ss ss':List Stp}{c:Int} (h:Grow first G S met.length [] met ss) (hp:ss'.Perm ss):OfNodes first G S met ⟨((if met=[] then [false] else met.map G:List Bool).length:Nat),c,first.map (fun x=>(numOf met x:Int)),if met=[] then [false] else met.map G,ss'⟩:=by
 refine ⟨h.nodup,h.first_met,fun P h1 h2=>h.least P h1 h2 (fun p hp=>absurd hp (List.not_mem_nil)),fun x hx p hp=>?_,rfl,rfl,rfl,fun s=>?_⟩
 ·obtain ⟨j,e⟩:=List.mem_iff_getElem?.1 hx
  exact h.targets j (List.getElem?_eq_some_iff.1 e).1 x e p hp
 ·show s ∈ ss' ↔ _
  rw [hp.mem_iff,h.steps s]
  constructor
  ·rintro (⟨j,z,c',y',hj,hz,hm,rfl⟩ | ⟨c',y',hm,rfl⟩)
   ·exact ⟨j,z,c',y',hz,hm,rfl⟩
   ·cases hm
  ·rintro ⟨j,z,c',y',hz,hm,rfl⟩
   exact Or.inl ⟨j,z,c',y',(List.getElem?_eq_some_iff.1 hz).1,hz,hm,rfl⟩
end
end Go.Proofs.YtpiacnnifdjlkabGreatDoor
namespace Go.Proofs.YtpiacnnifdjlkabGreatDoor
open Go.RowKit Go.Sort Go.MapKept
def prEnc (x:Pair):List Value:=[.int .i64 (x.1:Nat),.int .i64 (x.2.1:Nat),.bool x.2.2]
abbrev prV (x:Pair):Value:=.agg (prEnc x).toArray
theorem prEnc_len (x:Pair):(prEnc x).length=3:=rfl
theorem prEnc_one (x:Pair):∀ v ∈ prEnc x,v.oneCell'=true:=by
 intro v hv
 simp only [prEnc,List.mem_cons,List.not_mem_nil,or_false] at hv
 rcases hv with rfl | rfl | rfl <;> rfl
theorem prStruct:Tryz.prog.underlying 153=some (.struct (Tryz.prog.fieldsOf 153)):=by kernel_rfl
theorem prEq (x y:Pair) (w:World):(Op.equal 153 (prV x) (prV y)).run Tryz.prog w=.ok (decide (x=y)) w:=by
 have hp:Tryz.prog.stoodInHeld 153=false:=by kernel_rfl
 obtain ⟨x1,x2,x3⟩:=x
 obtain ⟨y1,y2,y3⟩:=y
 unfold Op.equal Op.maxDepth
 rw [show (10000:Nat)=9999+1 from rfl,run_equalIn_struct w 9999 153 _ _ prStruct hp]
 simp only [Program.fieldsOf,Tryz.underlying153,prEnc]
 go_simp
 by_cases h1:x1=y1 <;> by_cases h2:x2=y2 <;> by_cases h3:x3=y3 <;> simp [h1,h2,h3] <;> omega
theorem prKey (x:Pair) (e:Bool) (w:World):(Instr.checkKey e 10000 153 (prV x)).run Tryz.prog w=.ok () w:=by
 obtain ⟨x1,x2,x3⟩:=x
 rw [show (10000:Nat)=9998+1+1 from rfl]
 generalize 9998=d
 unfold Instr.checkKey
 simp only [Sem.run_bind,run_underlying Tryz.underlying153,Result.andThen_ok]
 rw [← Array.forIn_toList]
 simp [Instr.checkKey,go_sem,prEnc]
theorem prFind (x:Pair) (w:World):∀ (l:List MapEntry) (ms:List Pair) (i:Nat),l.length=ms.length→(∀ (j:Nat) (y:Pair),ms[j]?=some y→∃ e,l[j]?=some e∧e.key=prV y∧e.val=.int .i64 ((i+j:Nat))) →
  (Instr.findAsking 153 (prV x) l i).run Tryz.prog w=.ok (if x ∈ ms then some (i+numOf ms x,.int .i64 ((i+numOf ms x:Nat))) else none) w
 | [],[],i,_,_=>by simp [Instr.findAsking]
 | [],_ :: _,_,h,_=>by simp at h
 | _ :: _,[],_,h,_=>by simp at h
 | e :: l,y :: ms,i,hl,h=>by
  obtain ⟨e',he,hk,hv⟩:=h 0 y rfl
  obtain rfl:e=e':=by simpa using he
  have ih:=prFind x w l ms (i+1) (by simpa using hl) (fun j z hz=>by
   obtain ⟨e2,h1,h2,h3⟩:=h (j+1) z hz
   exact ⟨e2,h1,h2,by rw [h3];congr 2;omega⟩)
  unfold Instr.findAsking
  simp only [Sem.run_bind,hk,prEq,Result.andThen_ok]
  by_cases hxy:x=y
  ·rw [decide_eq_true hxy,if_pos rfl,if_pos (by rw [hxy];simp),hv]
   have:numOf (y :: ms) x=0:=by unfold numOf;rw [if_pos hxy]
   rw [this]
   rfl
  ·rw [decide_eq_false hxy,if_neg (by simp),ih]
   have hm:x ∈ y :: ms ↔ x ∈ ms:=by simp [hxy]
   by_cases hx:x ∈ ms
   ·rw [if_pos hx,if_pos (hm.2 hx)]
    have:numOf (y :: ms) x=numOf ms x+1:=by show (if x=y then 0 else numOf ms x+1)=_;rw [if_neg hxy]
    rw [this,show i+1+numOf ms x=i+(numOf ms x+1) by omega]
   ·rw [if_neg hx,if_neg (fun h'=>hx (hm.1 h'))]
theorem prFindKey (x:Pair) (w:World) (l:List MapEntry) (ms:List Pair) (hl:l.length=ms.length) (h:∀ (j:Nat) (y:Pair),ms[j]?=some y→∃ e,l[j]?=some e∧e.key=prV y∧e.val=.int .i64 (j:Nat)) :
  (Instr.findKey 153 (prV x) l).run Tryz.prog w=.ok (if x ∈ ms then some (numOf ms x,.int .i64 (numOf ms x:Nat)) else none) w:=by
 have h1:=prFind x w l ms 0 hl (fun j y hy=>by rw [Nat.zero_add];exact h j y hy)
 rw [Nat.zero_add] at h1
 rw [← h1]
 unfold Instr.findKey
 simp only [Sem.run_bind,run_underlying Tryz.underlying153,Result.andThen_ok]
 cases l with
 | nil=>simp [Instr.findNow,Instr.findAsking]
 | cons e l=>simp [Instr.findNow,Instr.sameNow]
def prMap (w:World) (r:Nat) (met:List Pair):Prop:=
 ∃ es clock,w.heap[r]?=some (.map es clock)∧es.size=met.length∧∀ (i:Nat) (x:Pair),met[i]?=some x→∃ e,es[i]?=some e∧e.key=prV x∧e.val=.int .i64 (i:Nat)
theorem prMap.lt {w:World}{r:Nat}{met:List Pair} (h:prMap w r met):r < w.heap.size:=by
 obtain ⟨es,clock,hr,_⟩:=h
 exact (Array.getElem?_eq_some_iff.1 hr).1
theorem prMap.keep {w w':World}{r:Nat}{met:List Pair} (h:prMap w r met) (hb:∀ o,w.heap[r]?=some o→w'.heap[r]?=some o):prMap w' r met:=by
 obtain ⟨es,clock,hr,h2⟩:=h
 exact ⟨es,clock,hb _ hr,h2⟩
theorem prMap.not_cells {w:World}{r:Nat}{met:List Pair} (h:prMap w r met):∃ o:Obj,w.heap[r]?=some o∧o.isCells=false:=by
 obtain ⟨es,clock,hr,_⟩:=h
 exact ⟨_,hr,rfl⟩
theorem prLookup {w:World}{r:Nat}{met:List Pair} (h:prMap w r met) (x:Pair):(Instr.lookup 221 (.map (some r)) (prV x) true).run Tryz.prog w=.ok (.tuple #[.int .i64 ((if x ∈ met then numOf met x else 0:Nat)),.bool (decide (x ∈ met))]) w:=by
 obtain ⟨es,clock,hr,hl,hes⟩:=h
 have hf:=prFindKey x w es.toList met (by simpa using hl) (fun j y hy=>by obtain ⟨e,h1,h2⟩:=hes j y hy;exact ⟨e,by simpa using h1,h2⟩)
 have hk:=prKey x es.isEmpty w
 unfold Instr.lookup
 simp only [Sem.run_bind,run_underlying Tryz.underlying221,Result.andThen_ok,Go.MapKept.run_getObj_map hr,Sem.run_pure,hk,hf]
 by_cases hx:x ∈ met
 ·simp [hx]
 ·simp [hx,go_sem]
theorem prUpdate {w:World}{r:Nat}{met:List Pair} (h:prMap w r met) (x:Pair) (hx:x ∉ met):∃ o,(Instr.mapUpdate 221 (.map (some r)) (prV x) (.int .i64 (met.length:Nat))).run Tryz.prog w=.ok () (w.putObj r o)∧prMap (w.putObj r o) r (met ++ [x]):=by
 obtain ⟨es,clock,hr,hl,hes⟩:=h
 have hf:=prFindKey x w es.toList met (by simpa using hl) (fun j y hy=>by obtain ⟨e,h1,h2⟩:=hes j y hy;exact ⟨e,by simpa using h1,h2⟩)
 have hk:=prKey x false w
 rw [if_neg hx] at hf
 refine ⟨.map (es.push { key:=prV x,val:=.int .i64 (met.length:Nat),born:=clock }) (clock+1),?_,_,_,World.putObj_heap_same (Array.getElem?_eq_some_iff.1 hr).1,by simp [hl],fun i y hy=>?_⟩
 ·unfold Instr.mapUpdate
  simp only [Sem.run_bind,run_underlying Tryz.underlying221,Result.andThen_ok,Go.MapKept.run_getObj_map hr,hk,hf,Go.MapKept.run_setObj_map _ hr]
  rfl
 ·by_cases hi:i < met.length
  ·rw [List.getElem?_append_left hi] at hy
   obtain ⟨e,h1,h2⟩:=hes i y hy
   exact ⟨e,by rw [Array.getElem?_push,if_neg (by omega)];exact h1,h2⟩
  ·rw [List.getElem?_append_right (by omega)] at hy
   have hi2:i=met.length:=by
    have:=(List.getElem?_eq_some_iff.1 hy).1
    simp at this
    omega
   subst hi2
   rw [Nat.sub_self] at hy
   obtain rfl:x=y:=by simpa using hy
   refine ⟨{ key:=prV x,val:=.int .i64 (met.length:Nat),born:=clock },?_,rfl,rfl⟩
   rw [show met.length=es.size from hl.symm]
   exact Array.getElem?_push_size
theorem prInfo:Tryz.prog.info? 153=some Tryz.t153:=by kernel_rfl
theorem prEl:ElT 151 153 3 24:=⟨Tryz.underlying151,⟨_,.agg #[.int .i64 0,.int .i64 0,.bool false],prInfo,by kernel_rfl,rfl,by kernel_rfl,by kernel_rfl⟩,by decide,by decide⟩
structure prMN (W:World) (base BN BT r:Nat) (met:List Pair):Prop where
 bn:W.heap[BN]?=some (.cells #[.map (some r)] 221)
 bt:∃ v,W.heap[BT]?=some (.cells #[v] 151)∧W.ownsRow base 153 3 v met.length (met.flatMap prEnc)
 mp:prMap W r met
 lo:base≤BN∧base≤BT∧base≤r∧base≤W.heap.size
abbrev prS (BT r:Nat):World→Nat→Prop:=ownOf [(BT,0)] [r,BT]
abbrev prAdd (met:List Pair) (x:Pair):List Pair:=addN met x
theorem prMN.apart {W:World}{base BN BT r:Nat}{met:List Pair} (h:prMN W base BN BT r met):BN ≠ BT∧BN ≠ r∧BT ≠ r:=by
 obtain ⟨v,hv,_⟩:=h.bt
 obtain ⟨o,ho,hc⟩:=h.mp.not_cells
 refine ⟨fun e=>?_,fun e=>?_,fun e=>?_⟩
 ·have:=h.bn
  rw [e,hv] at this
  injection this with this
  injection this with _ h2
  exact absurd h2 (by decide)
 ·have:=h.bn
  rw [e,ho] at this
  injection this with this
  subst this
  cases hc
 ·rw [e,ho] at hv
  injection hv with hv
  subst hv
  cases hc
theorem prMN.below {W W':World}{base BN BT r:Nat}{met:List Pair} (h:prMN W base BN BT r met) (hb:Below W.heap.size W W'):prMN W' base BN BT r met:=by
 obtain ⟨v,hv,ho⟩:=h.bt
 exact ⟨belowRow hb h.bn,⟨v,belowRow hb hv,owns_below ho hb⟩,h.mp.keep (fun o ho=>belowRow hb ho),⟨h.lo.1,h.lo.2.1,h.lo.2.2.1,Nat.le_trans h.lo.2.2.2 hb.size⟩⟩
theorem prMN.keep {W W':World}{base BN BT r:Nat}{met:List Pair} (h:prMN W base BN BT r met) (hs:W.heap.size≤W'.heap.size) (hk:∀ k o,W.heap[k]?=some o→k=BN ∨ prS BT r W k→W'.heap[k]?=some o):prMN W' base BN BT r met:=by
 obtain ⟨v,hv,ho⟩:=h.bt
 refine ⟨hk _ _ h.bn (Or.inl rfl),⟨v,hk _ _ hv (Or.inr (Or.inl (by simp))),owns_kept ho (fun q hq=>?_)⟩,h.mp.keep (fun o ho=>hk _ _ ho (Or.inr (Or.inl (by simp)))),⟨h.lo.1,h.lo.2.1,h.lo.2.2.1,Nat.le_trans h.lo.2.2.2 hs⟩⟩
 have hlt:=(ho.lt q hq).2
 have hq':W.heap[q]?=some W.heap[q]:=Array.getElem?_eq_getElem hlt
 rw [hk q _ hq' (Or.inr (Or.inr ⟨(BT,0),by simp,v,cell_of_row W BT 0 _ _ _ hv,hq⟩)),hq']
theorem prRow_one {v u:Value}{W:World}{BT:Nat} (hv:W.heap[BT]?=some (.cells #[v] 151)) (hu:W.cell? ⟨BT,0,none⟩=some u):u=v:=by
 rw [cell_of_row W BT 0 _ _ _ hv] at hu
 exact (by simpa using hu:v=u).symm
theorem prMN_add {W w8:World}{base BN BT r g8 cap8:Nat}{met:List Pair}{x:Pair}{v:Value} (hbt:W.heap[BT]?=some (.cells #[v] 151)) (hbn:W.heap[BN]?=some (.cells #[.map (some r)] 221)) (hmp:prMap W r (met ++ [x])) (hown:W.ownsRow base 153 3 v met.length (met.flatMap prEnc)) (hgr:W.grownBy w8 v.ownBlock) (hown8:w8.ownsRow base 153 3 (.slice (some ⟨g8,0,none⟩) (met.length+1) cap8) (met.length+1) (met.flatMap prEnc ++ prEnc x)) (hor:v.ownBlock=some g8 ∨ g8=W.heap.size) (lo:base≤BN∧base≤BT∧base≤r∧base≤W.heap.size) :
  prMN (w8.setCell ⟨BT,0,none⟩ (.slice (some ⟨g8,0,none⟩) (met.length+1) cap8)) base BN BT r (met ++ [x])∧KE (prS BT r) W (w8.setCell ⟨BT,0,none⟩ (.slice (some ⟨g8,0,none⟩) (met.length+1) cap8)):=by
 have hb1:some BT ≠ v.ownBlock:=fun e=>row_apart hown hbt (by decide) BT e.symm rfl
 have hb2:some BN ≠ v.ownBlock:=fun e=>row_apart hown hbn (by decide) BN e.symm rfl
 obtain ⟨o,hro,hrc⟩:=hmp.not_cells
 have hb3:some r ≠ v.ownBlock:=fun e=>by
  obtain ⟨c',fz,hc⟩:=owns_cells hown r e.symm
  rw [hro] at hc
  injection hc with hc
  subst hc
  cases hrc
 have l1:=(Array.getElem?_eq_some_iff.1 hbt).1
 have l2:=(Array.getElem?_eq_some_iff.1 hbn).1
 have l3:=hmp.lt
 have n12:BN ≠ BT:=fun e=>by
  rw [e,hbt] at hbn
  injection hbn with hbn
  injection hbn with _ h2
  exact absurd h2 (by decide)
 have n13:r ≠ BT:=fun e=>by
  rw [e,hbt] at hro
  injection hro with hro
  subst hro
  cases hrc
 have hbt8:=(hgr.block BT l1 hb1).trans hbt
 have hset:=box_set hbt8 0 (.slice (some ⟨g8,0,none⟩) (met.length+1) cap8)
 have hset':(w8.setCell ⟨BT,0,none⟩ (.slice (some ⟨g8,0,none⟩) (met.length+1) cap8)).heap[BT]?=some (.cells #[.slice (some ⟨g8,0,none⟩) (met.length+1) cap8] 151):=hset
 have hsz:(w8.setCell ⟨BT,0,none⟩ (.slice (some ⟨g8,0,none⟩) (met.length+1) cap8)).heap.size=w8.heap.size:=by simp [World.setCell]
 refine ⟨⟨?_,⟨_,hset',?_⟩,?_,⟨lo.1,lo.2.1,lo.2.2.1,by rw [hsz];exact Nat.le_trans lo.2.2.2 hgr.size⟩⟩,⟨hgr.os,hgr.tape,hgr.output,by rw [hsz];exact hgr.size,fun k o hk hs=>?_,fun k hs=>?_⟩⟩
 ·rw [heap_setCell_other _ _ _ _ n12,hgr.block BN l2 hb2]
  exact hbn
 ·have h3:=owns_set hown8 hbt8 (by decide) 0 (.slice (some ⟨g8,0,none⟩) (met.length+1) cap8)
  rw [List.length_append,List.flatMap_append]
  simpa using h3
 ·exact hmp.keep (fun o ho=>by rw [heap_setCell_other _ _ _ _ n13,hgr.block r l3 hb3];exact ho)
 ·have k1:k ≠ BT:=fun e=>hs (Or.inl (by simp [e]))
  have k2:some k ≠ v.ownBlock:=fun e=>hs (Or.inr ⟨(BT,0),by simp,v,cell_of_row W BT 0 _ _ _ hbt,e.symm⟩)
  rw [heap_setCell_other _ _ _ _ k1,hgr.block k (Array.getElem?_eq_some_iff.1 hk).1 k2]
  exact hk
 ·rcases hs with h1 | ⟨p,hp,u,hu,hr⟩
  ·exact Or.inl (Or.inl h1)
  ·have ep:p=(BT,0):=by simpa using hp
   subst ep
   have eu:=prRow_one hset' hu
   subst eu
   have ek:g8=k:=by simpa [Value.ownBlock] using hr
   subst ek
   rcases hor with h1 | h1
   ·exact Or.inl (Or.inr ⟨(BT,0),by simp,v,cell_of_row W BT 0 _ _ _ hbt,h1⟩)
   ·exact Or.inr ⟨by omega,by
     have h9:=(hown8.lt g8 rfl).2
     have h8:(w8.setCell ⟨BT,0,none⟩ (.slice (some ⟨g8,0,none⟩) (met.length+1) cap8)).heap.size=w8.heap.size:=by simp [World.setCell]
     omega⟩
theorem prMeet {w:World}{base BN BT r:Nat}{met:List Pair} (x:Pair) (h:prMN w base BN BT r met) (hlen:met.length≤900000) :
  Calls Tryz.prog 155 #[prV x,.pointer (some ⟨BN,0,none⟩),.pointer (some ⟨BT,0,none⟩)] w fun e w'=>e=.returned (.int .i64 (numOf (prAdd met x) x:Nat))∧prMN w' base BN BT r (prAdd met x)∧KE (prS BT r) w w':=by
 have HM:=hide h
 have hap:=h.apart
 obtain ⟨v,ebt,hown⟩:=h.bt
 obtain ⟨x1,x2,x3⟩:=x
 have hbn:=below_new w (Obj.cells #[.int .i64 (x1:Nat),.int .i64 (x2:Nat),.bool x3] 153)
 have hD:Det w.heap.size (prS BT r):=det_ownOf (by simp) (by
  intro k hk
  simp at hk
  rcases hk with rfl | rfl
  ·exact h.mp.lt
  ·exact (Array.getElem?_eq_some_iff.1 ebt).1)
 have hlk:=prLookup (h.mp.keep (fun o ho=>belowRow hbn ho)) (x1,x2,x3)
 have hM1:=h.below hbn
 have hbox:=one_new w (Obj.cells #[.int .i64 (x1:Nat),.int .i64 (x2:Nat),.bool x3] 153)
 have b0:=cell_of_row _ BN 0 _ _ _ hM1.bn
 have t0:=cell_of_row _ BT 0 _ _ _ (belowRow hbn ebt)
 have n1:BN < w.heap.size:=(Array.getElem?_eq_some_iff.1 h.bn).1
 have n2:BT < w.heap.size:=(Array.getElem?_eq_some_iff.1 ebt).1
 have HK1:=hide (KE.of_below hD (Nat.le_refl _) hbn)
 obtain ⟨ad,cp,rfl⟩:=owns_form hown
 unfold prV prEnc at hlk
 by_cases hx:(x1,x2,x3) ∈ met
 ·have e1:prAdd met (x1,x2,x3)=met:=by unfold prAdd addN;rw [if_pos hx]
  rw [e1]
  rw [if_pos hx,decide_eq_true hx] at hlk
  have HM1:=hide hM1
  clear h hown ebt hM1 hx hbn hbox e1 hD
  generalize numOf met (x1,x2,x3)=nm at *
  show Calls Tryz.prog 155 #[.agg #[.int .i64 (x1:Nat),.int .i64 (x2:Nat),.bool x3],.pointer (some ⟨BN,0,none⟩),.pointer (some ⟨BT,0,none⟩)] w _
  go_enter Tryz.func155,Tryz.ntmps155
  go_wp2
  go_ret
  exact ⟨rfl,HM1.out,HK1.out⟩
 ·have e1:prAdd met (x1,x2,x3)=met ++ [(x1,x2,x3)]:=by unfold prAdd addN;rw [if_neg hx]
  rw [e1,numOf_last hx]
  rw [if_neg hx,decide_eq_false hx] at hlk
  obtain ⟨o,hup,hmp⟩:=prUpdate hM1.mp (x1,x2,x3) hx
  unfold prV prEnc at hup
  have hne:∀ k,k ≠ r→((w.alloc (Obj.cells #[.int .i64 (x1:Nat),.int .i64 (x2:Nat),.bool x3] 153)).putObj r o).heap[k]?=(w.alloc (Obj.cells #[.int .i64 (x1:Nat),.int .i64 (x2:Nat),.bool x3] 153)).heap[k]?:=fun k hk=>World.putObj_heap_other hk
  have hs2:((w.alloc (Obj.cells #[.int .i64 (x1:Nat),.int .i64 (x2:Nat),.bool x3] 153)).putObj r o).heap.size=w.heap.size+1:=by simp
  have hrlt:r < w.heap.size:=h.mp.lt
  have hbt2:=(hne BT (by omega)).trans (belowRow hbn ebt)
  have hbn2:=(hne BN (by omega)).trans hM1.bn
  have hbox2:=(hne w.heap.size (by omega)).trans hbox
  have hown1:=owns_below hown hbn
  have hown2:((w.alloc (Obj.cells #[.int .i64 (x1:Nat),.int .i64 (x2:Nat),.bool x3] 153)).putObj r o).ownsRow base 153 3 (.slice ad met.length cp) met.length (met.flatMap prEnc):=owns_kept hown1 (fun q hq=>hne q (fun e=>by
   obtain ⟨c',fz,hc⟩:=owns_cells hown1 q hq
   obtain ⟨o2,ho2,hcc⟩:=hM1.mp.not_cells
   rw [e,ho2] at hc
   injection hc with hc
   subst hc
   cases hcc))
  have hK2:KE (prS BT r) w ((w.alloc (Obj.cells #[.int .i64 (x1:Nat),.int .i64 (x2:Nat),.bool x3] 153)).putObj r o):=by
   refine HK1.out.trans ⟨rfl,rfl,rfl,by simp,fun k o' hk hs=>(hne k (fun e=>hs (Or.inl (by simp [e])))).trans hk,fun k hs=>Or.inl ?_⟩
   rcases hs with h1 | ⟨p,hp,u,hu,hr⟩
   ·exact Or.inl h1
   ·have ep:p=(BT,0):=by simpa using hp
    subst ep
    exact Or.inr ⟨(BT,0),by simp,u,by rw [← cell_same (hne BT (by omega))];exact hu,hr⟩
  have q0:=cell_of_row _ BT 0 _ _ _ hbt2
  have c0:=cell_of_row _ w.heap.size 0 _ _ _ hbox2
  have c1:=cell_of_row _ w.heap.size 1 _ _ _ hbox2
  have c2:=cell_of_row _ w.heap.size 2 _ _ _ hbox2
  generalize hW2:(w.alloc (Obj.cells #[.int .i64 (x1:Nat),.int .i64 (x2:Nat),.bool x3] 153)).putObj r o=W2 at *
  have hnw:=one_new W2 (Obj.cells #[.int .i64 (x1:Nat),.int .i64 (x2:Nat),.bool x3] 153)
  have hbn3:=below_new W2 (Obj.cells #[.int .i64 (x1:Nat),.int .i64 (x2:Nat),.bool x3] 153)
  have HoW:=hide (owns_below hown2 hbn3)
  have HbW:=hide (show base≤(W2.alloc (Obj.cells #[.int .i64 (x1:Nat),.int .i64 (x2:Nat),.bool x3] 153)).heap.size by simp;have:=h.lo.2.2.2;omega)
  have HnW:=hide hnw
  have HK2:=hide hK2
  have HB2:=hide (And.intro hbt2 (And.intro hbn2 (And.intro hmp hbn3)))
  have Hown2:=hide hown2
  have hn2:BT < W2.heap.size:=by omega
  have Hs2:=hide hs2
  have hn3:w.heap.size < W2.heap.size:=by omega
  clear hs2 h hown ebt hM1 hx hbn hbox e1 hD hown1 hown2 hK2 hbt2 hbn2 hmp hbn3 hnw hne hbox2 hW2
  show Calls Tryz.prog 155 #[.agg #[.int .i64 (x1:Nat),.int .i64 (x2:Nat),.bool x3],.pointer (some ⟨BN,0,none⟩),.pointer (some ⟨BT,0,none⟩)] w _
  go_enter Tryz.func155,Tryz.ntmps155
  go_wp2_with (at_builtin;refine wpList_append_one _ rfl (.tmp 20) (.tmp 22) 151 153 3 24 rfl prEl base _ _ _ rfl HoW.out W2.heap.size 1 (prEnc (x1,x2,x3)) rfl rfl (fun j u hu=>(cell_of_row _ W2.heap.size j _ _ _ HnW.out).trans (by simpa [prEnc] using hu)) (prEnc_one _) hlen HbW.out ?_;intro g8 cap8 w8 hown8 hgrow8 hor8 hbase8;have hbt8:=(hgrow8.block BT (by simp;omega) (fun e=>row_apart Hown2.out HB2.out.1 (by decide) BT e.symm rfl)).trans (belowRow HB2.out.2.2.2 HB2.out.1);have z0:=cell_of_row w8 BT 0 _ _ _ hbt8;have zf:∀ o,w8.frozen? ⟨BT,o,none⟩=false:=(fun o=>by simp [World.frozen?,hbt8]);have Hown8:=hide hown8;have Hgrow8:=hide hgrow8;have Hor8:=hide hor8;have Hbt8:=hide hbt8;clear hown8 hgrow8 hor8 hbt8)
  go_ret
  have hK3:=KE.of_below (S:=prS BT r) (m:=W2.heap.size) (det_ownOf (by simp) (by
   intro k hk
   simp at hk
   rcases hk with rfl | rfl
   ·exact HB2.out.2.2.1.lt
   ·exact hn2)) (Nat.le_refl _) HB2.out.2.2.2
  have hlo:=HM.out.lo
  obtain ⟨h1,h2⟩:=prMN_add (belowRow HB2.out.2.2.2 HB2.out.1) (belowRow HB2.out.2.2.2 HB2.out.2.1) (HB2.out.2.2.1.keep (fun o ho=>belowRow HB2.out.2.2.2 ho)) HoW.out Hgrow8.out Hown8.out Hor8.out ⟨hlo.1,hlo.2.1,hlo.2.2.1,HbW.out⟩
  exact ⟨rfl,h1,(HK2.out.trans hK3).trans h2⟩
end Go.Proofs.YtpiacnnifdjlkabGreatDoor
namespace Go.Proofs.YtpiacnnifdjlkabGreatDoor
open Go.RowKit Go.Sort
def RC (Rp:Nat→Value→Prop) (jB jX:Nat) (Mid:World→Prop) (base e sz n pb:Nat) (ob:Obj) (sv:Value) (news ys:List Value) (j:Nat) (v:Value) (w:World):Prop:=
 Rp j v∧(j=jB→w.heap[pb]?=some ob→∃ B c,v=.slice (some ⟨B,0,none⟩) 1 c∧some B ≠ sv.ownBlock∧∀ q u,news[q]?=some u→w.cell? ⟨B,q,none⟩=some u) ∧
 (j=jX→w.heap[pb]?=some ob→∃ g cap,v=.slice (some ⟨g,0,none⟩) (n+1) cap∧∃ w1,Mid w1∧KR base sv.ownBlock w1 w∧w.ownsRow base e sz v (n+1) ys∧(sv.ownBlock=some g ∨ w1.heap.size≤g))
def VC (Pre Mid:World→Prop) (base e sz n pb k:Nat) (sv:Value) (ys:List Value):Nat→World→Prop
 | 0,w=>Pre w
 | 1,w=>Mid w
 | 2,w=>∃ w1,Mid w1∧KR base sv.ownBlock w1 w
 | _,w=>∃ w1 w2 g cap,Mid w1∧KR base sv.ownBlock w1 w2∧w2.ownsRow base e sz (.slice (some ⟨g,0,none⟩) (n+1) cap) (n+1) ys∧(sv.ownBlock=some g ∨ w1.heap.size≤g)∧w=w2.setCell ⟨pb,k,none⟩ (.slice (some ⟨g,0,none⟩) (n+1) cap)
theorem KR.of_below {base:Nat}{r:Option Nat}{w0 w w':World} (h:KR base r w0 w) (hb:base≤w0.heap.size) (hw:Below w.heap.size w w'):KR base r w0 w':=
 ⟨h.below.trans (hw.mono (Nat.le_trans hb h.size)),Nat.le_trans h.size hw.size,fun b h1 h2=>(hw.block b (Nat.lt_of_lt_of_le h1 h.size)).trans (h.keep b h1 h2)⟩
theorem not_row {W:World}{base e sz n:Nat}{v:Value}{xs:List Value} (h:W.ownsRow base e sz v n xs) {k:Nat}{o:Obj} (hk:W.heap[k]?=some o) (hc:o.isCells=false):some k ≠ v.ownBlock:=fun e1=>by
 obtain ⟨c',fz,hc'⟩:=owns_cells h k e1.symm
 rw [hk] at hc'
 injection hc' with hc'
 subst hc'
 cases hc
section
variable {ops:Array Oper}{Q:Exit→Act→World→Prop}{a0:Act}
theorem region_callapp {lr:Option Nat}{nn id:Nat}{w0:World} (jC jB jX jS jA:Nat) (c1 c2:List Nat) (ds:List (Nat × Tmp)) (Rp:Nat→Value→Prop) (Pre Mid:World→Prop) {base t e sz by_ n:Nat}{sv:Value}{xs:List Value} (news:List Value) (hT:ElT t e sz by_) (hn:n≤1000000000) (hnl:news.length=sz) (h1:∀ u ∈ news,u.oneCell'=true)
  (hds:dstList ops (List.range ops.size)=ds) (hm:Tryz.prog.follows .mixedOrders=true) (h:orderlyG ops a0.tmps.size=true) (hng:(ops.all fun o=>o.guard.isNone)=true) (hxo:jC < ops.size∧jX < ops.size∧jS < ops.size) (hnx:[jC,jX,jS].Nodup) (hph:phasesOk ops [jC,jX,jS] [c1,c2]=true) (hBn:jB ≠ jC∧jB ≠ jX∧jB ≠ jS) (hneed:needsB ops jB jC=true∧needsB ops jX jC=true∧needsB ops jX jB=true) (hlast:(List.range ops.size).all (fun i=>i == jS || needsB ops jS i)=true)
  (hMs:∀ W W',Mid W→Below W.heap.size W W'→Mid W') {pb k:Nat}{cs:Array Value}{tb:TypeId} (hM:∀ W,Mid W→W.ownsRow base e sz sv n xs∧W.heap[pb]?=some (.cells cs tb)∧base≤W.heap.size) (hne:e ≠ tb) (hk:cs[k]?=some sv) (h0:Pre { w0 with drawn:=w0.drawn+1 })
  (hcall:∀ o,ops[jC]?=some o→∀ (a:Act) (w:World) (vs:Nat→Value),Pre w→(∀ t,free ops jC t=true→a.eval (.tmp t)=a0.eval (.tmp t))→(∀ j,dep o j=true→Rp j (vs j)∧∀ d,dstAt ops j=some d→a.eval (.tmp d)=vs j)→∃ f args,(execOp a.eval o).run Tryz.prog w=.ok (.enter f args) w∧Calls Tryz.prog f args w fun e' w'=>∃ v,e'=.returned v∧Rp jC v∧Mid w')
  (obj:Obj) (c:Nat) (hnews:∀ (w:World) j u,news[j]?=some u→(w.alloc obj).cell? ⟨w.heap.size,j,none⟩=some u) (tB:Rp jB=fun _=>True) (tX:Rp jX=fun _=>True) (tS:Rp jS=fun _=>True)
  (hel:∀ o,ops[jB]?=some o→∀ (a:Act) (w:World) (vs:Nat→Value),(∀ t,free ops jB t=true→a.eval (.tmp t)=a0.eval (.tmp t))→(∀ j,dep o j=true→Rp j (vs j)∧∀ d,dstAt ops j=some d→a.eval (.tmp d)=vs j)→(execOp a.eval o).run Tryz.prog w=.ok (.value (.slice (some ⟨w.heap.size,0,none⟩) 1 c)) (w.alloc obj))
  (oX:Oper) (hoX:ops[jX]?=some oX) (ks kx:Nat) (jL:Nat) (hopX:oX.op=.call { callee:=.builtin .append,args:=#[.tmp ks,.tmp kx],argTypes:=#[t,t] }) (hdX:dep oX jL=true∧dstAt ops jL=some ks∧dep oX jB=true∧dstAt ops jB=some kx) (hL:∀ v,Rp jL v→v=sv)
  (hpure:∀ i o,ops[i]?=some o→i ≠ jC→i ≠ jB→i ≠ jX→i ≠ jS→∀ (a:Act) (w:World) (vs:Nat→Value),(Pre w ∨ needsB ops jC i=false∧(Mid w ∨ ∃ w1,Mid w1∧KR base sv.ownBlock w1 w))→(∀ t,free ops i t=true→a.eval (.tmp t)=a0.eval (.tmp t))→(∀ j,dep o j=true→Rp j (vs j)∧∀ d,dstAt ops j=some d→a.eval (.tmp d)=vs j)→∃ v,(execOp a.eval o).run Tryz.prog w=.ok (.value v) w∧Rp i v)
  (oS:Oper) (hoS:ops[jS]?=some oS) {tS':TypeId}{ka kv:Nat} (hopS:oS.op=.store tS' (.tmp ka) (.tmp kv)) (hszS:∀ w,(sizeOf tS').run Tryz.prog w=.ok 1 w) (hdS:dep oS jA=true∧dstAt ops jA=some ka∧dep oS jX=true∧dstAt ops jX=some kv) (hA:∀ v,Rp jA v→v=.pointer (some ⟨pb,k,none⟩))
  (hend:∀ (vs:Nat→Value) (w1 w2:World) (g cap:Nat),Mid w1→KR base sv.ownBlock w1 w2→(∀ i,i < ops.size→Rp i (vs i))→w2.ownsRow base e sz (.slice (some ⟨g,0,none⟩) (n+1) cap) (n+1) (xs ++ news)→(sv.ownBlock=some g ∨ w1.heap.size≤g)→Q .normal { a0 with tmps:=putPairs vs ds a0.tmps } (w2.setCell ⟨pb,k,none⟩ (.slice (some ⟨g,0,none⟩) (n+1) cap))) :
  (Code.region id ops true).wpIn (fenceAt lr) nn Tryz.prog Q a0 w0:=by
 have hdeps:∀ {o:Oper}{vs:Nat→Value}{a:Act}{w:World},(∀ j,dep o j=true→RC Rp jB jX Mid base e sz n pb (.cells cs tb) sv news (xs ++ news) j (vs j) w∧∀ d,dstAt ops j=some d→a.eval (.tmp d)=vs j)→∀ j,dep o j=true→Rp j (vs j)∧∀ d,dstAt ops j=some d→a.eval (.tmp d)=vs j:=fun hd j hj=>⟨(hd j hj).1.1,(hd j hj).2⟩
 have hst:∀ {w w':World}{j:Nat}{x:Value},w.heap[pb]?=some (.cells cs tb)→RC Rp jB jX Mid base e sz n pb (.cells cs tb) sv news (xs ++ news) j x w→Below w.heap.size w w'→RC Rp jB jX Mid base e sz n pb (.cells cs tb) sv news (xs ++ news) j x w':=fun {w w' j x} hbx hr hb=>by
  refine ⟨hr.1,fun e1 _=>?_,fun e1 _=>?_⟩
  ·obtain ⟨B,c',e2,hB,hc⟩:=hr.2.1 e1 hbx
   exact ⟨B,c',e2,hB,fun q u hu=>(hb.cell (p:=⟨B,q,none⟩) (World.block_lt_of_cell? w _ (hc q u hu))).trans (hc q u hu)⟩
  ·obtain ⟨g,cap,e2,w1,m1,kr,ho,hor⟩:=hr.2.2 e1 hbx
   exact ⟨g,cap,e2,w1,m1,kr.of_below (hM w1 m1).2.2 hb,owns_below ho hb,hor⟩
 refine region_phases0 ds (VC Pre Mid base e sz n pb k sv (xs ++ news)) (RC Rp jB jX Mid base e sz n pb (.cells cs tb) sv news (xs ++ news)) hds hm h hng [jC,jX,jS] [c1,c2] rfl (fun x hx=>by simp at hx;rcases hx with rfl | rfl | rfl;exact hxo.1;exact hxo.2.1;exact hxo.2.2) hnx hph h0 ?_ ?_ ?_
 ·intro i o ho hi kk hkk hn1 hn2
  have hi':i ≠ jC∧i ≠ jX∧i ≠ jS:=by
   simp at hi
   exact ⟨hi.1,hi.2.1,hi.2.2⟩
  have hk3:kk ≠ 3:=fun e3=>by
   have h4:=hn1 2 (by omega)
   have h5:=List.all_eq_true.1 hlast i (List.mem_range.2 (Array.getElem?_eq_some_iff.1 ho).1)
   rw [Bool.or_eq_true] at h5
   have h4':needsB ops jS i=false:=h4
   rcases h5 with h5 | h5
   ·exact hi'.2.2 (by simpa using h5)
   ·rw [h4'] at h5;cases h5
  by_cases hiB:i=jB
  ·have hk1:kk=1:=by
    have h4:=hn2 0 (by simp) (by rw [hiB];exact hneed.1)
    have h5:¬ 1 < kk:=fun h6=>by
     have h7:=hn1 1 h6
     have h7':needsB ops jX i=false:=h7
     rw [hiB,hneed.2.2] at h7'
     cases h7'
    omega
   subst hk1
   intro a w vs hV he hd
   have hV':Mid w:=hV
   have hown:=(hM w hV').1
   have hb:=below_new w obj
   refine Goes.value (hel o (by rw [← hiB];exact ho) a w vs (by rw [← hiB];exact he) (hdeps hd)) ⟨hMs _ _ hV' hb,?_,fun j x hj _ hr=>hst (hM w hV').2.1 hr hb⟩
   refine ⟨by rw [hiB,tB];trivial,fun _ _=>⟨w.heap.size,c,rfl,fun e1=>?_,hnews w⟩,fun e1=>absurd (hiB.symm.trans e1) hBn.2.1⟩
   have:=(hown.lt w.heap.size e1.symm).2
   omega
  ·intro a w vs hV he hd
   have hany:Pre w ∨ needsB ops jC i=false∧(Mid w ∨ ∃ w1,Mid w1∧KR base sv.ownBlock w1 w):=by
    have hk2:kk≤3:=hkk
    match kk,hV,hk3,hk2,hn1 with
    | 0,hV,_,_,_=>exact Or.inl hV
    | 1,hV,_,_,hn1=>exact Or.inr ⟨hn1 0 (by omega),Or.inl hV⟩
    | 2,hV,_,_,hn1=>exact Or.inr ⟨hn1 0 (by omega),Or.inr hV⟩
    | 3,_,h3,_,_=>exact absurd rfl h3
   obtain ⟨v,hr,hv⟩:=hpure i o ho hi'.1 hiB hi'.2.1 hi'.2.2 a w vs hany he (hdeps hd)
   exact Goes.value hr ⟨hV,⟨hv,fun e1=>absurd e1 hiB,fun e1=>absurd e1 hi'.2.1⟩,fun _ _ _ _ hr=>hr⟩
 ·intro kk o hkk ho
  have hkk':kk < 3:=hkk
  match kk,hkk',ho with
  | 0,_,ho =>
   intro a w vs hV he hd
   obtain ⟨f,args,hr,hc⟩:=hcall o ho a w vs hV he (hdeps hd)
   refine Or.inr (Or.inl ⟨f,args,hr,hc.mono ?_⟩)
   rintro e' w' ⟨v,rfl,hv,hm'⟩
   refine ⟨v,rfl,hm',⟨hv,fun e1=>absurd e1.symm hBn.1,fun e1=>?_⟩,fun j x hj hnd hr=>⟨hr.1,fun e1=>?_,fun e1=>?_⟩⟩
   ·have:=hneed.2.1
    have e2:jC=jX:=e1
    have h3:=hnx
    simp at h3
    exact absurd e2 h3.1.1
   ·have hnd':needsB ops j jC=false:=hnd
    rw [e1,hneed.1] at hnd'
    cases hnd'
   ·have hnd':needsB ops j jC=false:=hnd
    rw [e1,hneed.2.1] at hnd'
    cases hnd'
  | 1,_,ho =>
   intro a w vs hV he hd
   have ho':ops[jX]?=some o:=ho
   obtain rfl:=Option.some.inj (ho'.symm.trans hoX)
   have hV':Mid w:=hV
   obtain ⟨hown,hbx,hbs⟩:=hM w hV'
   have e1:a.eval (.tmp ks)=sv:=by rw [(hd jL hdX.1).2 ks hdX.2.1];exact hL _ (hd jL hdX.1).1.1
   obtain ⟨B,c',e2,hB,hc⟩:=(hd jB hdX.2.2.1).1.2.1 rfl hbx
   have e3:a.eval (.tmp kx)=.slice (some ⟨B,0,none⟩) 1 c':=by rw [(hd jB hdX.2.2.1).2 kx hdX.2.2.2];exact e2
   obtain ⟨g',cap',w',hr,h2,h3,h4,h5⟩:=run_append_big w o.type t e base n sz by_ hT sv xs hown B c' news hnl hc h1 hn hbs
   have hkr:KR base sv.ownBlock w w':=(KR.refl base sv.ownBlock w).grown h3 hbs (fun q hq=>(hown.lt q hq).1)
   refine Goes.value (v:=.slice (some ⟨g',0,none⟩) (n+1) cap') (w':=w') ?_ ⟨⟨w,hV',hkr⟩,⟨?_,fun e4=>?_,fun _ _=>⟨g',cap',rfl,w,hV',hkr,h2,h4.imp (fun h=>h) (fun e5=>by omega)⟩⟩,fun j x hj hnd hr=>⟨hr.1,fun e4 _=>?_,fun e4=>absurd e4 hj⟩⟩
   ·unfold execOp
    simp only [hopX,resolve,invoke,builtin,Sem.run_bind,Sem.run_pure,Result.andThen_ok,List.map_toArray,List.map_cons,List.map_nil,e1,e3,hr]
   ·show Rp jX _
    rw [tX];trivial
   ·exact absurd e4.symm hBn.2.1
   ·obtain ⟨B',c'',e5,hB',hc'⟩:=hr.2.1 e4 hbx
    exact ⟨B',c'',e5,hB',fun q u hu=>h3.cell (hc' q u hu) hB'⟩
  | 2,_,ho =>
   intro a w vs hV he hd
   have ho':ops[jS]?=some o:=ho
   obtain rfl:=Option.some.inj (ho'.symm.trans hoS)
   obtain ⟨w1',m1',kr'⟩:=hV
   have hpb:some pb ≠ sv.ownBlock:=fun e2=>row_apart (hM w1' m1').1 (hM w1' m1').2.1 hne pb e2.symm rfl
   have hbx':=kr'.block (hM w1' m1').2.1 hpb
   obtain ⟨g,cap,e1,w1,m1,kr,hown',hor⟩:=(hd jX hdS.2.2.1).1.2.2 rfl hbx'
   have ea:a.eval (.tmp ka)=.pointer (some ⟨pb,k,none⟩):=by rw [(hd jA hdS.1).2 ka hdS.2.1];exact hA _ (hd jA hdS.1).1.1
   have ev:a.eval (.tmp kv)=.slice (some ⟨g,0,none⟩) (n+1) cap:=by rw [(hd jX hdS.2.2.1).2 kv hdS.2.2.2];exact e1
   have ea':a.tmps[ka]?.getD undef=.pointer (some ⟨pb,k,none⟩):=by rw [← eval_tmp];exact ea
   have ev':a.tmps[kv]?.getD undef=.slice (some ⟨g,0,none⟩) (n+1) cap:=by rw [← eval_tmp];exact ev
   have hcell:w.cell? ⟨pb,k,none⟩=some sv:=by rw [cell_of_row _ _ k _ _ _ hbx'];exact hk
   have hfz:=frozen_of_row _ _ k _ _ hbx'
   rw [e1] at hown'
   have hnew:(w.setCell ⟨pb,k,none⟩ (.slice (some ⟨g,0,none⟩) (n+1) cap)).heap[pb]? ≠ some (.cells cs tb):=fun e2=>by
    rw [box_set hbx' k (.slice (some ⟨g,0,none⟩) (n+1) cap)] at e2
    injection e2 with e2
    injection e2 with e3
    have hlt:=(Array.getElem?_eq_some_iff.1 hk).1
    have e4:=congrArg (fun q=>q[k]?) e3
    simp only [Array.getElem?_setIfInBounds,if_pos hlt,if_true,hk] at e4
    obtain ⟨ad,cp,e5⟩:=owns_form (hM w1' m1').1
    rw [e5] at e4
    injection e4 with e4
    injection e4 with _ e6
    omega
   have hrun:∃ v,((execOp a.eval o).run Tryz.prog w=.ok (.value v) (w.setCell ⟨pb,k,none⟩ (.slice (some ⟨g,0,none⟩) (n+1) cap)) ∨ ((execOp a.eval o).run Tryz.prog w=.ok .skip (w.setCell ⟨pb,k,none⟩ (.slice (some ⟨g,0,none⟩) (n+1) cap))∧v=undef)):=by
    refine ⟨undef,Or.inr ⟨?_,rfl⟩⟩
    unfold execOp
    simp [hopS,go_sem,ea',ev',hszS,hcell,hfz]
   obtain ⟨v,hrun⟩:=hrun
   refine Or.inl ⟨v,_,hrun,⟨w1,w,g,cap,m1,kr,hown',hor,rfl⟩,⟨by show Rp jS _;rw [tS];trivial,fun e4=>absurd e4.symm hBn.2.2,fun e4=>?_⟩,fun j x hj hnd hr=>⟨hr.1,fun e4 e5=>absurd e5 hnew,fun e4 e5=>absurd e5 hnew⟩⟩
   have h3:=hnx
   simp at h3
   exact absurd e4.symm h3.2
 ·rintro vs w ⟨w1,w2,g,cap,m1,kr,ho,hor,rfl⟩ hR
  exact hend vs w1 w2 g cap m1 kr (fun i hi=>(hR i hi).1) ho hor
end
end Go.Proofs.YtpiacnnifdjlkabGreatDoor
