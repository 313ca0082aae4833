import Derived.Test.YtpiacnnifdjlkabGreatDoorYa
import Derived.Shelf.Slices.Reverse
import Derived.Lib.SliceRun
import Derived.Sort.OwnSortedInts
import Derived.Ground.NamesProg
import Derived.Test.YtpiacnnifdjlkabGreatDoorCx
import Derived.Test.YtpiacnnifdjlkabGreatDoorCh
set_option maxRecDepth 100000
set_option maxHeartbeats 8000000
namespace Go.Proofs.YtpiacnnifdjlkabGreatDoor
structure RightW (A:Aut):Prop where
 n0:0≤A.n
 n3:A.n≤900000
 good:(A.good.length:Int)=A.n
 few:A.steps.length≤1000000000
 ffew:A.first.length≤900000
 m8:A.m≤8
 first:∀ x ∈ A.first,0≤x∧x < A.n
 steps:∀ s ∈ A.steps,0≤s.f∧s.f < A.n∧0≤s.l∧s.l < A.m∧0≤s.t∧s.t < A.n
 sorted:A.steps.Pairwise (fun a b=>a.f≤b.f)
def WayTo (A:Aut) (from_:List Int) (us:List Int) (y:Nat):Prop:=us ≠ []∧(us.length:Int)≤A.n∧∃ x ∈ from_,wayL A us x.toNat y
def NoWay (A:Aut) (from_:List Int) (F:Nat→Bool):Prop:=∀ x ∈ from_,∀ us y,us ≠ []→wayL A us x.toNat y→F y=false
def BackB (A:Aut) (F:Nat→Bool):Prop:=∀ q:Nat,(q:Int) < A.n→(F q=true ↔ A.good.getD q false=true∧∃ us,us ≠ []∧wayL A us q q)
theorem wayL_letters {A:Aut} (h:RightW A):∀ {us:List Int}{x y:Nat},wayL A us x y→∀ c ∈ us,0≤c∧c < A.m
 | [],_,_,_=>fun c hc=>(by cases hc)
 | c :: us,x,y,hw=>by
  obtain ⟨z,⟨s,hs,_,e2,_⟩,h2⟩:=hw
  intro d hd
  rcases List.mem_cons.1 hd with rfl | hd
  ·have:=h.steps s hs;omega
  ·exact wayL_letters h h2 d hd
theorem wayL_end {A:Aut} (h:RightW A):∀ {us:List Int}{x y:Nat},wayL A us x y→(x:Int) < A.n→(y:Int) < A.n
 | [],_,_,hw,hx=>by have e:_=_:=hw;rw [← e];exact hx
 | c :: us,x,y,hw,hx=>by
  obtain ⟨z,⟨s,hs,_,_,e3⟩,h2⟩:=hw
  exact wayL_end h h2 (by have:=h.steps s hs;omega)
theorem none_taken {A:Aut}{F:Nat→Bool} (hA:RightW A) (hF:BackB A F) (h0:∀ x ∈ A.first,F x.toNat=false) (h1:NoWay A A.first F) (u:Nat→Int):¬ TakesU A u:=by
 intro h
 obtain ⟨i,hi,us,vs,g,hu,hg,hv,hw⟩:=way_of_takes h
 have hm:A.first.getD i 0 ∈ A.first:=getD_mem hi
 have hlt:(g:Int) < A.n:=wayL_end hA hu (by have:=hA.first _ hm;omega)
 have hFg:F g=true:=(hF g hlt).2 ⟨hg,vs,List.length_pos_iff.1 hv,hw⟩
 by_cases hn:us=[]
 ·subst hn
  have e:(A.first.getD i 0).toNat=g:=hu
  rw [← e,h0 _ hm] at hFg
  cases hFg
 ·rw [h1 _ hm us g hn hu] at hFg
  cases hFg
theorem some_taken {A:Aut}{us vs:List Int}{g:Nat} (h1:(∃ x ∈ A.first,wayL A us x.toNat g)) (hg:A.good.getD g false=true) (h2:wayL A vs g g) (hv:vs ≠ []):TakesU A (lat us vs):=by
 obtain ⟨x,hx,hw⟩:=h1
 obtain ⟨i,hi,rfl⟩:=List.mem_iff_getElem.1 hx
 exact takes_of_way (i:=i) hi (by rw [show A.first.getD i 0=A.first[i] by simp [List.getD,hi]];exact hw) hg h2 (List.length_pos_iff.2 hv)
def XS (from_:List Int) (ord:List Nat):List Int:=from_ ++ ord.map (fun q:Nat=>(q:Int))
structure LookI (A:Aut) (N:Nat) (F:Nat→Bool) (from_:List Int) (ord:List Nat) (by_:Nat→Stp) (k:Nat) (pre:List Stp):Prop where
 look:Look A N F from_ ord by_ k
 here:∀ s ∈ pre,∃ y ∈ ord,s.t=(y:Nat)
theorem XS_len (from_:List Int) (ord:List Nat):(XS from_ ord).length=from_.length+ord.length:=by simp [XS]
theorem XS_more {from_:List Int}{ord:List Nat}{t k:Nat} (h:k < from_.length+ord.length):(XS from_ (ord ++ [t])).getD k 0=(XS from_ ord).getD k 0:=by
 unfold XS
 rw [List.map_append,← List.append_assoc]
 exact getD_append_left (by simp;omega)
theorem XS_snoc (from_:List Int) (ord:List Nat) (t:Nat):XS from_ (ord ++ [t])=XS from_ ord ++ [(t:Int)]:=by
 unfold XS
 rw [List.map_append,← List.append_assoc]
 rfl
theorem XS_at {from_:List Int}{ord:List Nat}{k:Nat} (h:k < from_.length+ord.length):(XS from_ ord).getD k 0 ∈ from_ ∨ ∃ q ∈ ord,(XS from_ ord).getD k 0=(q:Nat):=by
 have hm:(XS from_ ord).getD k 0 ∈ XS from_ ord:=getD_mem (by rw [XS_len];exact h)
 unfold XS at hm ⊢
 rcases List.mem_append.1 hm with h1 | h1
 ·exact Or.inl h1
 ·obtain ⟨q,hq,e⟩:=List.mem_map.1 h1
  exact Or.inr ⟨q,hq,e.symm⟩
theorem look_nil (A:Aut) (N:Nat) (F:Nat→Bool) (from_:List Int) (by_:Nat→Stp):Look A N F from_ [] by_ 0:=⟨ByOk.nil A from_ by_,fun q h=>(by cases h),fun q h=>(by cases h),fun j h=>absurd h (Nat.not_lt_zero _)⟩
theorem Look.begin_ {A:Aut}{N:Nat}{F:Nat→Bool}{from_:List Int}{ord:List Nat}{by_:Nat→Stp}{k:Nat} (h:Look A N F from_ ord by_ k):LookI A N F from_ ord by_ k []:=⟨h,fun s hs=>(by cases hs)⟩
theorem LookI.skip {A:Aut}{N:Nat}{F:Nat→Bool}{from_:List Int}{ord:List Nat}{by_:Nat→Stp}{k:Nat}{pre:List Stp} (h:LookI A N F from_ ord by_ k pre) {s:Stp}{t:Nat} (ht:s.t=t) (hm:t ∈ ord):LookI A N F from_ ord by_ k (pre ++ [s]):=
 ⟨h.look,fun x hx=>by
  rcases List.mem_append.1 hx with h1 | h1
  ·exact h.here x h1
  ·rw [List.mem_singleton] at h1
   subst h1
   exact ⟨t,hm,ht⟩⟩
theorem LookI.new {A:Aut}{N:Nat}{F:Nat→Bool}{from_:List Int}{ord:List Nat}{by_:Nat→Stp}{k:Nat}{pre:List Stp} (h:LookI A N F from_ ord by_ k pre) (hk:k < from_.length+ord.length) {s:Stp}{t:Nat} (hs:s ∈ A.steps) (ht:s.t=t) (hn:t ∉ ord) (hfx:s.f=(XS from_ ord).getD k 0):ByOk A from_ (ord ++ [t]) (setBy by_ s):=by
 refine h.look.ok.meet hs ht hn ?_
 rw [hfx]
 exact XS_at hk
theorem LookI.meet {A:Aut}{N:Nat}{F:Nat→Bool}{from_:List Int}{ord:List Nat}{by_:Nat→Stp}{k:Nat}{pre:List Stp} (h:LookI A N F from_ ord by_ k pre) (hk:k < from_.length+ord.length) {s:Stp}{t:Nat} (hs:s ∈ A.steps) (ht:s.t=t) (htN:t < N) (hn:t ∉ ord) (hfx:s.f=(XS from_ ord).getD k 0) (hF:F t=false):LookI A N F from_ (ord ++ [t]) (setBy by_ s) k (pre ++ [s]):=by
 refine ⟨⟨h.new hk hs ht hn hfx,fun q hq=>?_,fun q hq=>?_,fun j hj x hx e=>?_⟩,fun x hx=>?_⟩
 ·rcases List.mem_append.1 hq with h1 | h1
  ·exact h.look.range q h1
  ·rw [List.mem_singleton] at h1;omega
 ·rcases List.mem_append.1 hq with h1 | h1
  ·exact h.look.not q h1
  ·rw [List.mem_singleton] at h1;rw [h1];exact hF
 ·have e2:x.f=(XS from_ ord).getD j 0:=by rw [← XS_more (t:=t) (by omega)];exact e
  obtain ⟨y,hy,e3⟩:=h.look.closed j hj x hx e2
  exact ⟨y,List.mem_append_left _ hy,e3⟩
 ·rcases List.mem_append.1 hx with h1 | h1
  ·obtain ⟨y,hy,e3⟩:=h.here x h1
   exact ⟨y,List.mem_append_left _ hy,e3⟩
  ·rw [List.mem_singleton] at h1
   subst h1
   exact ⟨t,List.mem_append_right _ (List.mem_singleton.2 rfl),ht⟩
theorem LookI.done {A:Aut}{N:Nat}{F:Nat→Bool}{from_:List Int}{ord:List Nat}{by_:Nat→Stp}{k:Nat}{pre:List Stp} (h:LookI A N F from_ ord by_ k pre) (hp:∀ s ∈ A.steps,s.f=(XS from_ ord).getD k 0→s ∈ pre):Look A N F from_ ord by_ (k+1):=
 ⟨h.look.ok,h.look.range,h.look.not,fun j hj s hs e=>by
  by_cases ej:j=k
  ·subst ej
   exact h.here s (hp s hs e)
  ·exact h.look.closed j (by omega) s hs e⟩
theorem Look.noWay {A:Aut}{N:Nat}{F:Nat→Bool}{from_:List Int}{ord:List Nat}{by_:Nat→Stp}{k:Nat} (h:Look A N F from_ ord by_ k) (hk:from_.length+ord.length≤k) (h0:∀ x ∈ from_,0≤x):NoWay A from_ F:=
 fun _ hx _ _ hne hw=>h.done hk h0 hx hw hne
end Go.Proofs.YtpiacnnifdjlkabGreatDoor
namespace Go.Proofs
open Go.Shelf
def YtpiacnnifdjlkabGreatDoor.laysReverse_ren:Go.Shelf.Ren:=⟨fun | 112=>195 | n=>n,fun | 28=>22 | 3=>3 | 4=>4 | 0=>0 | n=>n,fun | n=>n⟩
theorem YtpiacnnifdjlkabGreatDoor.laysReverse:Go.Proofs.Lays.n112 Tryz.prog YtpiacnnifdjlkabGreatDoor.laysReverse_ren:={
 mixed:=by kernel_rfl
 f112:=Tryz.func195.trans (congrArg some (by kernel_rfl))
 t0:=Tryz.underlying0
 a0:=Tryz.isAgg0
 z0:=Tryz.sizeOf0
 v0:=Tryz.zeroValue0
 t3:=Tryz.underlying3
 a3:=Tryz.isAgg3
 z3:=Tryz.sizeOf3
 v3:=Tryz.zeroValue3
 t4:=Tryz.underlying4
 a4:=Tryz.isAgg4
 z4:=Tryz.sizeOf4
 v4:=Tryz.zeroValue4
 t28:=Tryz.underlying22
 a28:=Tryz.isAgg22
 z28:=Tryz.sizeOf22
 v28:=Tryz.zeroValue22 }
end Go.Proofs
namespace Go.Proofs.YtpiacnnifdjlkabGreatDoor
open Go.RowKit Go.Sort Go.Shelf
theorem reverse_any {w:World}{base g cap:Nat}{us:List Int} (hown:w.ownsRow base 3 1 (.slice (some ⟨g,0,none⟩) us.length cap) us.length (us.map (.int .i64))) :
  Calls Tryz.prog 195 #[.slice (some ⟨g,0,none⟩) us.length cap] w fun e w'=>e=.returned (.tuple #[])∧w'.ownsRow base 3 1 (.slice (some ⟨g,0,none⟩) us.length cap) us.length (us.reverse.map (.int .i64))∧w.grownBy w' (some g):=by
 rcases hown.2 with ⟨e,_⟩ | ⟨g',cap',cur,e,hb,hg,hnc,hcm,hcs,htake⟩
 ·cases e
 ·cases e
  have hH:Holds (Value.int .i64) w g 0 us.toArray:=by
   intro j hj
   have hj':j < us.length:=by simpa using hj
   refine ⟨?_,by simp [World.frozen?,hg]⟩
   have:=hown.cells (g:=g) rfl j (.int .i64 us[j]) (by simp [hj'])
   rw [add_none] at this
   rw [this]
   simp [hj']
  refine (Any.slices_Reverse_int laysReverse g 0 cap us w hH (by unfold maxLen at hcm;omega)).mono ?_
  rintro e w' ⟨rfl,n,rfl⟩
  have e1:Go.Sort.putRow (Value.int .i64) (Sort.ahead w n) g 0 us.reverse.toArray=grow (Go.Sort.putRow (Value.int .i64) (Sort.ahead w n) g 0 us.reverse.toArray) #[]:=(grow_empty _).symm
  rw [e1]
  exact ⟨rfl,ownsRow_sortedI (by simp) hb hg hnc hcm hcs,grownBy_sortedI _⟩
theorem index_go (b off cap:Nat) (zs:List Int) (x:Int) (w:World) (hm:zs.length≤maxLen) (hx:∀ i,i < zs.length→w.cell? ⟨b,off+i,none⟩=some (.int .i64 (zs.getD i 0))) :
  Calls Tryz.prog 225 #[.slice (some ⟨b,off,none⟩) zs.length cap,.int .i64 x] w fun e w'=>∃ r:Int,e=.returned (.int .i64 r)∧(0≤r ↔ x ∈ zs)∧w'=w:=by
 unfold maxLen at hm
 have Hx:=hide hx
 clear hx
 go_enter Tryz.func225,Tryz.ntmps225
 go_wp2
 go_loopw [8] (fun i wr=>∃ k:Nat,k≤zs.length∧i=.int .i64 k∧Hid (∀ j,j < k→zs.getD j 0 ≠ x)∧Hid (wr=w)) (fun i _=>zs.length - (intOf i).toNat)
 case atStart=>exact ⟨0,Nat.zero_le _,rfl,hide fun j hj=>by omega,hide rfl⟩
 case round =>
  obtain ⟨k,hk,rfl,Hk,Hw⟩:=hrel
  by_cases hlt:k < zs.length
  ·have hc:=Hx.out k hlt
   rw [← Hw.out] at hc
   have hmem:zs.getD k 0 ∈ zs:=by simp [List.getD,hlt]
   generalize hz:zs.getD k 0=z at hc hmem
   have Hz:=hide (And.intro hz hmem)
   clear hz hmem
   by_cases he:x=z
   ·have hb:(x == z)=true:=by simp [he]
    have He:=hide he
    clear he
    go_wp2
    go_ret
    exact ⟨(k:Int),rfl,⟨fun _=>by rw [He.out];exact Hz.out.2,fun _=>by omega⟩,Hw.out⟩
   ·have hb:(x == z)=false:=by simp [he]
    have He:=hide he
    clear he
    go_wp2
    go_roundw
    case rel=>exact ⟨k+1,by omega,by go_num,hide fun j hj=>by
     by_cases e:j=k
     ·rw [e,Hz.out.1];exact fun h=>He.out h.symm
     ·exact Hk.out j (by omega),Hw⟩
    case measure=>simp [intOf];omega
  ·go_wp2
   go_ret
   refine ⟨-1,rfl,⟨fun h=>by omega,fun h=>?_⟩,Hw.out⟩
   obtain ⟨j,hj,hjx⟩:=List.mem_iff_getElem.1 h
   exact absurd (show zs.getD j 0=x by simp [List.getD,hj,hjx]) (Hk.out j (by omega))
theorem index_zero (a:Option Addr) (cap:Nat) (x:Int) (w:World) :
  Calls Tryz.prog 225 #[.slice a 0 cap,.int .i64 x] w fun e w'=>e=.returned (.int .i64 (-1))∧w'=w:=by
 go_enter Tryz.func225,Tryz.ntmps225
 go_wp2
 refine wp_loop_rounds 1 ?_;rw [rounds_succ]
 go_wp2
 go_ret
 exact ⟨rfl,rfl⟩
theorem contains_any {v:Value}{zs:List Int}{w:World} (x:Int) (hv:IntSl w v zs) :
  Calls Tryz.prog 194 #[v,.int .i64 x] w fun e w'=>e=.returned (.bool (decide (x ∈ zs)))∧w'=w:=by
 have H:Calls Tryz.prog 225 #[v,.int .i64 x] w fun e w'=>∃ r:Int,e=.returned (.int .i64 r)∧(0≤r ↔ x ∈ zs)∧w'=w:=by
  obtain ⟨a,cap,rfl,hm,h,hn,hn2⟩:=hv
  rcases h with rfl | ⟨b,off,rfl,hc⟩
  ·refine (index_zero a cap x w).mono ?_
   rintro e w' ⟨rfl,rfl⟩
   exact ⟨-1,rfl,by simp,rfl⟩
  ·exact index_go b off cap zs x w hm hc
 have HH:=hide H
 clear H hv
 go_enter Tryz.func194,Tryz.ntmps194
 go_wp2_with (fail)
 refine Calls.mono HH.out ?_
 rintro e w1 ⟨r,rfl,hr,rfl⟩
 have Hr:=hide hr
 clear hr
 go_wp2
 go_ret
 exact ⟨by rw [show decide (0≤r)=decide (x ∈ zs) from decide_eq_decide.2 Hr.out];rfl,rfl⟩
theorem wpList_append_slice (w:World) {ops:Array Oper}{rest:List Oper}{o:Oper}{a:Act}{Q:Exit→Act→World→Prop} (hgd:o.guard=none) (s x:Operand)
  (ho:o.op=.call { callee:=.builtin .append,args:=#[s,x],argTypes:=#[22,22] }) (base n:Nat) (v:Value) (xs:List Value) (hs:a.eval s=v)
  (hown:w.ownsRow base 3 1 v n xs) (sv:Value) (zs:List Int) (hx:a.eval x=sv) (hz:IntSl w sv zs) (hn:n+zs.length≤1000000) (hbase:base≤w.heap.size)
  (h:∀ v' w',w'.ownsRow base 3 1 v' (n+zs.length) (xs ++ zs.map (.int .i64))→w.grownBy w' v.ownBlock→wpList Tryz.prog ops Q rest (a.put o.dst v') w'):wpList Tryz.prog ops Q (o :: rest) a w:=by
 obtain ⟨v',w',hr,h2,h3,h4⟩:=run_append_sl w o.type base v n xs hown _ zs hz hn hbase
 refine wpList_plain hgd fun K hK=>?_
 unfold Oper.wp execOp
 simp only [ho,resolve,invoke,builtin,Sem.run_bind,Sem.run_pure,Result.andThen_ok,List.map_toArray,List.map_cons,List.map_nil,hs,hx,hr]
 exact hK _ _ (h v' w' h2 h3)
theorem clone_any {v:Value}{zs:List Int}{w:World} (hv:IntSl w v zs) (hl:zs.length≤900000) :
  Calls Tryz.prog 100 #[v] w fun e w'=>∃ v',e=.returned v'∧w'.ownsRow w.heap.size 3 1 v' zs.length (zs.map (.int .i64))∧Below w.heap.size w w':=by
 have q22:∀ (w:World) (a:Option Addr) (n c n' c':Nat),(binOp .eql 22 (.slice a n c) (.slice none n' c')).run Tryz.prog w=.ok (.bool a.isNone) w:=fun w a n c n' c'=>Lib.run_eql_slice_nil w _ _ a n c n' c' Tryz.underlying22
 have HV:=hide hv
 obtain ⟨a,cap,rfl,hm,hz,hn,hn2⟩:=hv
 cases a with
 | none =>
  have h0:zs=[]:=by
   rcases hz with h | ⟨b,off,h,_⟩
   ·exact h
   ·cases h
  have hc0:=hn rfl
  subst h0 hc0
  clear hz hn hn2 hm hl
  go_enter Tryz.func100,Tryz.ntmps100
  go_wp2
  go_ret
  exact ⟨_,rfl,World.ownsRow_nil _ _ _ _,Below.refl _ _⟩
 | some a =>
  have hb1:=below_new w (Obj.cells #[] 3 (0,0))
  have HO:=hide (owns_empty (base:=w.heap.size) (one_new w (Obj.cells #[] 3 (0,0))) (Nat.le_refl _))
  have HS:=hide (HV.out.below hb1)
  have HB:=hide hb1
  have hsz:w.heap.size≤(w.alloc (Obj.cells #[] 3 (0,0))).heap.size:=by simp
  clear hz hn hn2 hm hb1
  go_enter Tryz.func100,Tryz.ntmps100
  go_wp2_with (at_builtin;refine wpList_append_slice _ rfl (.tmp 5) (.tmp 6) rfl w.heap.size 0 _ [] rfl HO.out _ zs rfl HS.out (by omega) hsz ?_;intro v8 w8 hown8 hgrow8;have Hown8:=hide hown8;have Hgrow8:=hide hgrow8;clear hown8 hgrow8)
  go_ret
  have hbb:Below w.heap.size w w8:=HB.out.trans ((Below.refl w.heap.size _).grown Hgrow8.out hsz (fun k hk=>by have:=(HO.out.lt k hk).1;omega))
  exact ⟨_,rfl,by have:=Hown8.out;simpa using this,hbb⟩
theorem IntSl.of_block {W W':World}{v:Value}{zs:List Int} (h:IntSl W v zs) (hb:∀ b off k c,v=.slice (some ⟨b,off,none⟩) k c→zs ≠ []→W'.heap[b]?=W.heap[b]?):IntSl W' v zs:=by
 obtain ⟨a,cap,rfl,hm,hz,hn⟩:=h
 refine ⟨a,cap,rfl,hm,?_,hn⟩
 by_cases h0:zs=[]
 ·exact Or.inl h0
 ·rcases hz with h | ⟨b,off,rfl,hc⟩
  ·exact absurd h h0
  ·exact Or.inr ⟨b,off,rfl,fun i hi=>(World.cell?_of_block (a:=⟨b,off+i,none⟩) (hb b off _ _ rfl h0)).trans (hc i hi)⟩
def lenV:Value→Nat
 | .slice _ n _=>n
 | _=>0
structure BY (W:World) (g N:Nat) (by_:Nat→Stp):Prop where
 cell:∀ i,i < N→W.cell? ⟨g,i * 3,none⟩=some (.int .i64 (by_ i).f)∧W.cell? ⟨g,i * 3+1,none⟩=some (.int .i64 (by_ i).l)∧W.cell? ⟨g,i * 3+2,none⟩=some (.int .i64 (by_ i).t)
 soft:∀ o,W.frozen? ⟨g,o,none⟩=false
 lt:g < W.heap.size
theorem BY.of_block {W W':World}{g N:Nat}{by_:Nat→Stp} (h:BY W g N by_) (hb:W'.heap[g]?=W.heap[g]?):BY W' g N by_:=
 ⟨fun i hi=>⟨(World.cell?_of_block (a:=⟨g,i * 3,none⟩) hb).trans (h.cell i hi).1,(World.cell?_of_block (a:=⟨g,i * 3+1,none⟩) hb).trans (h.cell i hi).2.1,(World.cell?_of_block (a:=⟨g,i * 3+2,none⟩) hb).trans (h.cell i hi).2.2⟩,fun o=>(World.frozen?_of_block (a:=⟨g,o,none⟩) hb).trans (h.soft o),by
  have:=h.lt
  have h2:W.heap[g]?=some W.heap[g]:=by simp [this]
  rw [h2] at hb
  exact (Array.getElem?_eq_some_iff.1 hb).1⟩
theorem BY.old {W W':World}{g N:Nat}{by_:Nat→Stp} (h:BY W g N by_) (hb:Below W.heap.size W W'):BY W' g N by_:=h.of_block (hb.block g h.lt)
theorem owns_one {w:World}{base g:Nat}{z:Int} (h:w.heap[g]?=some (.cells #[.int .i64 z] 3 (0,0))) (hb:base≤g):w.ownsRow base 3 1 (.slice (some ⟨g,0,none⟩) 1 1) 1 [.int .i64 z]:=
 ⟨rfl,.inr ⟨g,1,#[.int .i64 z],rfl,hb,h,Nat.le_refl _,by simp [maxLen],rfl,rfl⟩⟩
theorem backWay_any {w:World}{g N end_:Nat}{fv:Value}{A:Aut}{from_:List Int}{ord:List Nat}{by_:Nat→Stp} (hby:BY w g N by_) (hf:IntSl w fv from_) (hA:∀ s ∈ A.steps,0≤s.f) (hok:ByOk A from_ ord by_) (hr:∀ q ∈ ord,q < N) (hN:N≤900000) (hol:ord.length≤N) (he:end_ ∈ ord) :
  Calls Tryz.prog 156 #[.slice (some ⟨g,0,none⟩) N N,fv,.int .i64 (end_:Nat)] w fun e w'=>∃ v us,e=.returned v∧IntSl w' v us∧(∀ b off k c,v=.slice (some ⟨b,off,none⟩) k c→w.heap.size≤b)∧us ≠ []∧us.length≤ord.length∧(∃ x ∈ from_,wayL A us x.toNat end_)∧Below w.heap.size w w':=by
 have HF:=hide hf
 have hen:=hr _ he
 have HB0:=hide (back_begin hA hok he)
 have HOn:=hide (fun us q (hb:BackAt A from_ ord end_ us q) (hq:q ∉ from_)=>back_on hA hok hb hq)
 have HDone:=hide (fun us q (hb:BackAt A from_ ord end_ us q) (hq:q ∈ from_)=>back_done hb hq)
 have HR:=hide hr
 have HBY:=hide hby
 obtain ⟨d0,d1,d2⟩:=hby.cell end_ hen
 obtain ⟨fa,fc,rfl,-⟩:=hf
 clear hok he hr hA
 have hb1:=below_new w (Obj.cells #[Value.int .i64 (by_ end_).l] 3 (0,0))
 have HO:=hide (owns_one (base:=w.heap.size) (one_new w (Obj.cells #[Value.int .i64 (by_ end_).l] 3 (0,0))) (Nat.le_refl _))
 have Hb1:=hide hb1
 have HB:=HB0.out
 have hgl0:g < w.heap.size:=hby.lt
 clear hb1 hby
 generalize by_ end_=s at *
 go_enter Tryz.func156,Tryz.ntmps156
 go_wp2_with (fail)
 clear d0 d1 d2
 go_loopw [7,8] (fun s7 s8 wr=>∃ (us:List Int) (q:Int),s8=.int .i64 q∧Hid (wr.ownsRow w.heap.size 3 1 s7 us.length (us.map (.int .i64)))∧Hid (BackAt A from_ ord end_ us q)∧Hid (Below w.heap.size w wr)) (fun s7 _ _=>ord.length - lenV s7)
 case atStart=>exact ⟨[s.l],s.f,rfl,HO,hide HB,Hb1⟩
 case round =>
  obtain ⟨us,q,rfl,HOw,HBk,Hbw⟩:=hrel
  obtain ⟨qn,rfl⟩:=Int.eq_ofNat_of_zero_le HBk.out.2.2.1
  obtain ⟨ad,cp,rfl⟩:=owns_form HOw.out
  go_wp2_with (fail)
  refine (contains_any (qn:Int) (HF.out.below Hbw.out)).mono ?_
  rintro e w1 ⟨rfl,hw1⟩
  subst hw1
  by_cases hq:(qn:Int) ∈ from_
  ·have hd:decide ((qn:Int) ∈ from_)=true:=decide_eq_true hq
   have HD:=hide (HDone.out us _ HBk.out hq)
   have hul:=HBk.out.2.1
   have hu1:0 < us.length:=List.length_pos_iff.2 HBk.out.1
   clear hq
   rw [hd]
   obtain ⟨g9,hg9⟩:∃ g9,ad=some ⟨g9,0,none⟩:=by
    rcases HOw.out.2 with ⟨e,h0⟩ | ⟨g',cap',cur,e,hb,_⟩
    ·omega
    ·cases e;exact ⟨g',rfl⟩
   subst hg9
   have HRv:=hide (reverse_any HOw.out)
   go_wp2_with (fail)
   refine HRv.out.mono ?_
   rintro e w2 ⟨rfl,hown2,hgr2⟩
   have Hown2:=hide hown2
   have Hgr2:=hide hgr2
   clear hown2 hgr2
   go_wp2
   go_ret
   refine ⟨_,us.reverse,rfl,?_,?_,HD.out.1,HD.out.2.1,HD.out.2.2,?_⟩
   ·exact intSl_of_owns Hown2.out
   ·intro b off k c e
    injection e with e1 _ _
    injection e1 with e2
    injection e2 with e3 _ _
    rw [← e3]
    exact (HOw.out.lt g9 rfl).1
   ·exact Hbw.out.trans ((Below.refl w.heap.size _).grown Hgr2.out Hbw.out.size (fun k hk=>(HOw.out.lt k hk).1))
  ·have hd:decide ((qn:Int) ∈ from_)=false:=decide_eq_false hq
   obtain ⟨hm,hlt,hnx⟩:=HOn.out us _ HBk.out hq
   rw [Int.toNat_natCast] at hm hnx
   have hqN:=HR.out _ hm
   have hgw:g < w.heap.size:=HBY.out.lt
   obtain ⟨d0,d1,d2⟩:=(HBY.out.of_block (Hbw.out.block g hgw)).cell qn hqN
   have HNx:=hide hnx
   have hsz:=Hbw.out.size
   generalize by_ qn=s2 at *
   have hb2:=below_new w1 (Obj.cells #[Value.int .i64 s2.l] 3 (0,0))
   have HownW:=hide (owns_kept HOw.out (fun r hr=>hb2.block r (HOw.out.lt r hr).2))
   have hn2:=one_new w1 (Obj.cells #[Value.int .i64 s2.l] 3 (0,0))
   have Hc0:=hide (cell_of_row _ _ 0 _ _ _ hn2)
   have HszW:=hide (show w.heap.size≤(w1.alloc (Obj.cells #[Value.int .i64 s2.l] 3 (0,0))).heap.size by simp;omega)
   have Hb2:=hide (Hbw.out.trans (hb2.mono hsz))
   have hul:us.length≤900000:=by omega
   have Hd0:=hide ((hb2.cell (p:=⟨g,qn * 3,none⟩) (by show g < w1.heap.size;omega)).trans d0)
   clear hq hm hnx hb2 hn2
   rw [hd]
   go_wp2_with (at_builtin;refine wpList_append_int _ rfl (.tmp 29) (.tmp 35) rfl w.heap.size us.length _ (us.map (.int .i64)) rfl HownW.out w1.heap.size 1 s2.l rfl (by decide) Hc0.out hul HszW.out ?_;intro g8 cap8 w8 hown8 hgrow8 hor8 hbase8;have z0:w8.cell? ⟨g,qn * 3,none⟩=some (.int .i64 s2.f):=(hgrow8.cell Hd0.out (fun e=>by have:=(HownW.out.lt g e.symm).1;omega));have Hown8:=hide hown8;have Hbl8:=hide (Hb2.out.trans ((Below.refl w.heap.size _).grown hgrow8 HszW.out (fun k hk=>(HownW.out.lt k hk).1)));clear hown8 hgrow8 hor8 hbase8)
   go_roundw
   case rel=>exact ⟨us ++ [s2.l],s2.f,rfl,hide (by simpa using Hown8.out),HNx,Hbl8⟩
   case measure=>simp [lenV];omega
end Go.Proofs.YtpiacnnifdjlkabGreatDoor
namespace Go.Proofs.YtpiacnnifdjlkabGreatDoor
def chainGo (ops:Array Oper) (x:Nat):Nat→List Nat→Bool
 | y,[]=>(match ops[y]? with | some o=>dep o x | none=>false)
 | y,z :: l=>(match ops[y]? with | some o=>dep o z | none=>false) && chainGo ops x z l
def chainOk (ops:Array Oper) (y x:Nat) (l:List Nat):Bool:=decide (y ≠ x) && chainGo ops x y l
section
variable {P:Program}{ops:Array Oper}{Q:Exit→Act→World→Prop}{W:World→Prop}{V2:Bool→Bool→World→Prop}{R:Nat→Value→World→Prop}{a0:Act}
theorem chain_go {listed:Array Bool} (hcl:∀ (j:Nat) (oj:Oper),ops[j]?=some oj→listed[j]?=some true→∀ k,dep oj k=true→listed[k]?=some true) {x:Nat}:∀ (l:List Nat) {y:Nat},chainGo ops x y l=true→(∀ k,(∃ o,ops[y]?=some o∧dep o k=true)→listed[k]?=some true)→listed[x]?=some true
 | [],y,h,hr=>by
  unfold chainGo at h
  cases ho:ops[y]? with
  | none=>rw [ho] at h;cases h
  | some o=>rw [ho] at h;exact hr x ⟨o,ho,h⟩
 | z :: l,y,h,hr=>by
  unfold chainGo at h
  rw [Bool.and_eq_true] at h
  cases ho:ops[y]? with
  | none=>rw [ho] at h;cases h.1
  | some o =>
   rw [ho] at h
   have hz:=hr z ⟨o,ho,h.1⟩
   exact chain_go hcl l h.2 (fun k hk=>by obtain ⟨oz,hoz,hk⟩:=hk;exact hcl z oz hoz hz k hk)
theorem chain_ready {listed:Array Bool} (hcl:∀ (j:Nat) (oj:Oper),ops[j]?=some oj→listed[j]?=some true→∀ k,dep oj k=true→listed[k]?=some true) {x i:Nat} (l:List Nat) (h:chainOk ops i x l=true) (hr:∀ k,(∃ o,ops[i]?=some o∧dep o k=true)→listed[k]?=some true):listed[x]?=some true:=by
 unfold chainOk at h
 rw [Bool.and_eq_true] at h
 exact chain_go hcl l h.2 hr
theorem chain_done {listed:Array Bool} (hcl:∀ (j:Nat) (oj:Oper),ops[j]?=some oj→listed[j]?=some true→∀ k,dep oj k=true→listed[k]?=some true) {y x:Nat} (l:List Nat) (h:chainOk ops y x l=true) (hy:listed[y]?=some true):listed[x]?=some true:=
 chain_ready hcl l h (fun k hk=>by obtain ⟨o,ho,hk⟩:=hk;exact hcl y o ho hy k hk)
end
end Go.Proofs.YtpiacnnifdjlkabGreatDoor
