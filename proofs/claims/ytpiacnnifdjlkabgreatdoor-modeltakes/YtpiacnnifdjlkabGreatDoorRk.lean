import Derived.Test.YtpiacnnifdjlkabGreatDoorVb
import Derived.Test.YtpiacnnifdjlkabGreatDoorCt
import Derived.Shelf.Slices.Reverse
import Derived.Lib.SliceRun
import Derived.Sort.OwnSortedInts
import Derived.Ground.NamesProg
import Derived.Test.YtpiacnnifdjlkabGreatDoorYc
import Derived.Test.YtpiacnnifdjlkabGreatDoorCa
set_option maxRecDepth 100000
set_option maxHeartbeats 8000000
namespace Go.Proofs
open Go.Shelf
def YtpiacnnifdjlkabGreatDoor.laysReverse_ren:Go.Shelf.Ren:=⟨fun | 112=>195 | n=>n,fun | 28=>22 | 3=>3 | 4=>4 | 0=>0 | n=>n,fun | n=>n⟩
theorem YtpiacnnifdjlkabGreatDoor.laysReverse:Go.Proofs.Lays.n112 Tryz.prog YtpiacnnifdjlkabGreatDoor.laysReverse_ren:={
 mixed:=by kernel_rfl
 f112:=Tryz.func195.trans (congrArg some (by kernel_rfl))
 t0:=Tryz.underlying0
 a0:=Tryz.isAgg0
 z0:=Tryz.sizeOf0
 v0:=Tryz.zeroValue0
 t3:=Tryz.underlying3
 a3:=Tryz.isAgg3
 z3:=Tryz.sizeOf3
 v3:=Tryz.zeroValue3
 t4:=Tryz.underlying4
 a4:=Tryz.isAgg4
 z4:=Tryz.sizeOf4
 v4:=Tryz.zeroValue4
 t28:=Tryz.underlying22
 a28:=Tryz.isAgg22
 z28:=Tryz.sizeOf22
 v28:=Tryz.zeroValue22 }
end Go.Proofs
namespace Go.Proofs.YtpiacnnifdjlkabGreatDoor
open Go.RowKit Go.Sort Go.Shelf
theorem reverse_any {w:World}{base g cap:Nat}{us:List Int} (hown:w.ownsRow base 3 1 (.slice (some ⟨g,0,none⟩) us.length cap) us.length (us.map (.int .i64))) :
  Calls Tryz.prog 195 #[.slice (some ⟨g,0,none⟩) us.length cap] w fun e w'=>e=.returned (.tuple #[])∧w'.ownsRow base 3 1 (.slice (some ⟨g,0,none⟩) us.length cap) us.length (us.reverse.map (.int .i64))∧w.grownBy w' (some g):=by
 rcases hown.2 with ⟨e,_⟩ | ⟨g',cap',cur,e,hb,hg,hnc,hcm,hcs,htake⟩
 ·cases e
 ·cases e
  have hH:Holds (Value.int .i64) w g 0 us.toArray:=by
   intro j hj
   have hj':j < us.length:=by simpa using hj
   refine ⟨?_,by simp [World.frozen?,hg]⟩
   have:=hown.cells (g:=g) rfl j (.int .i64 us[j]) (by simp [hj'])
   rw [add_none] at this
   rw [this]
   simp [hj']
  refine (Any.slices_Reverse_int laysReverse g 0 cap us w hH (by unfold maxLen at hcm;omega)).mono ?_
  rintro e w' ⟨rfl,n,rfl⟩
  have e1:Go.Sort.putRow (Value.int .i64) (Sort.ahead w n) g 0 us.reverse.toArray=grow (Go.Sort.putRow (Value.int .i64) (Sort.ahead w n) g 0 us.reverse.toArray) #[]:=(grow_empty _).symm
  rw [e1]
  exact ⟨rfl,ownsRow_sortedI (by simp) hb hg hnc hcm hcs,grownBy_sortedI _⟩
theorem index_go (b off cap:Nat) (zs:List Int) (x:Int) (w:World) (hm:zs.length≤maxLen) (hx:∀ i,i < zs.length→w.cell? ⟨b,off+i,none⟩=some (.int .i64 (zs.getD i 0))) :
  Calls Tryz.prog 225 #[.slice (some ⟨b,off,none⟩) zs.length cap,.int .i64 x] w fun e w'=>∃ r:Int,e=.returned (.int .i64 r)∧(0≤r ↔ x ∈ zs)∧w'=w:=by
 unfold maxLen at hm
 have Hx:=hide hx
 clear hx
 go_enter Tryz.func225,Tryz.ntmps225
 go_wp2
 go_loopw [8] (fun i wr=>∃ k:Nat,k≤zs.length∧i=.int .i64 k∧Hid (∀ j,j < k→zs.getD j 0 ≠ x)∧Hid (wr=w)) (fun i _=>zs.length - (intOf i).toNat)
 case atStart=>exact ⟨0,Nat.zero_le _,rfl,hide fun j hj=>by omega,hide rfl⟩
 case round =>
  obtain ⟨k,hk,rfl,Hk,Hw⟩:=hrel
  by_cases hlt:k < zs.length
  ·have hc:=Hx.out k hlt
   rw [← Hw.out] at hc
   have hmem:zs.getD k 0 ∈ zs:=by simp [List.getD,hlt]
   generalize hz:zs.getD k 0=z at hc hmem
   have Hz:=hide (And.intro hz hmem)
   clear hz hmem
   by_cases he:x=z
   ·have hb:(x == z)=true:=by simp [he]
    have He:=hide he
    clear he
    go_wp2
    go_ret
    exact ⟨(k:Int),rfl,⟨fun _=>by rw [He.out];exact Hz.out.2,fun _=>by omega⟩,Hw.out⟩
   ·have hb:(x == z)=false:=by simp [he]
    have He:=hide he
    clear he
    go_wp2
    go_roundw
    case rel=>exact ⟨k+1,by omega,by go_num,hide fun j hj=>by
     by_cases e:j=k
     ·rw [e,Hz.out.1];exact fun h=>He.out h.symm
     ·exact Hk.out j (by omega),Hw⟩
    case measure=>simp [intOf];omega
  ·go_wp2
   go_ret
   refine ⟨-1,rfl,⟨fun h=>by omega,fun h=>?_⟩,Hw.out⟩
   obtain ⟨j,hj,hjx⟩:=List.mem_iff_getElem.1 h
   exact absurd (show zs.getD j 0=x by simp [List.getD,hj,hjx]) (Hk.out j (by omega))
theorem index_zero (a:Option Addr) (cap:Nat) (x:Int) (w:World) :
  Calls Tryz.prog 225 #[.slice a 0 cap,.int .i64 x] w fun e w'=>e=.returned (.int .i64 (-1))∧w'=w:=by
 go_enter Tryz.func225,Tryz.ntmps225
 go_wp2
 refine wp_loop_rounds 1 ?_;rw [rounds_succ]
 go_wp2
 go_ret
 exact ⟨rfl,rfl⟩
theorem contains_any {v:Value}{zs:List Int}{w:World} (x:Int) (hv:IntSl w v zs) :
  Calls Tryz.prog 194 #[v,.int .i64 x] w fun e w'=>e=.returned (.bool (decide (x ∈ zs)))∧w'=w:=by
 have H:Calls Tryz.prog 225 #[v,.int .i64 x] w fun e w'=>∃ r:Int,e=.returned (.int .i64 r)∧(0≤r ↔ x ∈ zs)∧w'=w:=by
  obtain ⟨a,cap,rfl,hm,h,hn,hn2⟩:=hv
  rcases h with rfl | ⟨b,off,rfl,hc⟩
  ·refine (index_zero a cap x w).mono ?_
   rintro e w' ⟨rfl,rfl⟩
   exact ⟨-1,rfl,by simp,rfl⟩
  ·exact index_go b off cap zs x w hm hc
 have HH:=hide H
 clear H hv
 go_enter Tryz.func194,Tryz.ntmps194
 go_wp2_with (fail)
 refine Calls.mono HH.out ?_
 rintro e w1 ⟨r,rfl,hr,rfl⟩
 have Hr:=hide hr
 clear hr
 go_wp2
 go_ret
 exact ⟨by rw [show decide (0≤r)=decide (x ∈ zs) from decide_eq_decide.2 Hr.out];rfl,rfl⟩
theorem wpList_append_slice (w:World) {ops:Array Oper}{rest:List Oper}{o:Oper}{a:Act}{Q:Exit→Act→World→Prop} (hgd:o.guard=none) (s x:Operand)
  (ho:o.op=.call { callee:=.builtin .append,args:=#[s,x],argTypes:=#[22,22] }) (base n:Nat) (v:Value) (xs:List Value) (hs:a.eval s=v)
  (hown:w.ownsRow base 3 1 v n xs) (sv:Value) (zs:List Int) (hx:a.eval x=sv) (hz:IntSl w sv zs) (hn:n+zs.length≤1000000) (hbase:base≤w.heap.size)
  (h:∀ v' w',w'.ownsRow base 3 1 v' (n+zs.length) (xs ++ zs.map (.int .i64))→w.grownBy w' v.ownBlock→wpList Tryz.prog ops Q rest (a.put o.dst v') w'):wpList Tryz.prog ops Q (o :: rest) a w:=by
 obtain ⟨v',w',hr,h2,h3,h4⟩:=run_append_sl w o.type base v n xs hown _ zs hz hn hbase
 refine wpList_plain hgd fun K hK=>?_
 unfold Oper.wp execOp
 simp only [ho,resolve,invoke,builtin,Sem.run_bind,Sem.run_pure,Result.andThen_ok,List.map_toArray,List.map_cons,List.map_nil,hs,hx,hr]
 exact hK _ _ (h v' w' h2 h3)
theorem clone_any {v:Value}{zs:List Int}{w:World} (hv:IntSl w v zs) (hl:zs.length≤900000) :
  Calls Tryz.prog 100 #[v] w fun e w'=>∃ v',e=.returned v'∧w'.ownsRow w.heap.size 3 1 v' zs.length (zs.map (.int .i64))∧Below w.heap.size w w':=by
 have q22:∀ (w:World) (a:Option Addr) (n c n' c':Nat),(binOp .eql 22 (.slice a n c) (.slice none n' c')).run Tryz.prog w=.ok (.bool a.isNone) w:=fun w a n c n' c'=>Lib.run_eql_slice_nil w _ _ a n c n' c' Tryz.underlying22
 have HV:=hide hv
 obtain ⟨a,cap,rfl,hm,hz,hn,hn2⟩:=hv
 cases a with
 | none =>
  have h0:zs=[]:=by
   rcases hz with h | ⟨b,off,h,_⟩
   ·exact h
   ·cases h
  have hc0:=hn rfl
  subst h0 hc0
  clear hz hn hn2 hm hl
  go_enter Tryz.func100,Tryz.ntmps100
  go_wp2
  go_ret
  exact ⟨_,rfl,World.ownsRow_nil _ _ _ _,Below.refl _ _⟩
 | some a =>
  have hb1:=below_new w (Obj.cells #[] 3 (0,0))
  have HO:=hide (owns_empty (base:=w.heap.size) (one_new w (Obj.cells #[] 3 (0,0))) (Nat.le_refl _))
  have HS:=hide (HV.out.below hb1)
  have HB:=hide hb1
  have hsz:w.heap.size≤(w.alloc (Obj.cells #[] 3 (0,0))).heap.size:=by simp
  clear hz hn hn2 hm hb1
  go_enter Tryz.func100,Tryz.ntmps100
  go_wp2_with (at_builtin;refine wpList_append_slice _ rfl (.tmp 5) (.tmp 6) rfl w.heap.size 0 _ [] rfl HO.out _ zs rfl HS.out (by omega) hsz ?_;intro v8 w8 hown8 hgrow8;have Hown8:=hide hown8;have Hgrow8:=hide hgrow8;clear hown8 hgrow8)
  go_ret
  have hbb:Below w.heap.size w w8:=HB.out.trans ((Below.refl w.heap.size _).grown Hgrow8.out hsz (fun k hk=>by have:=(HO.out.lt k hk).1;omega))
  exact ⟨_,rfl,by have:=Hown8.out;simpa using this,hbb⟩
theorem IntSl.of_block {W W':World}{v:Value}{zs:List Int} (h:IntSl W v zs) (hb:∀ b off k c,v=.slice (some ⟨b,off,none⟩) k c→zs ≠ []→W'.heap[b]?=W.heap[b]?):IntSl W' v zs:=by
 obtain ⟨a,cap,rfl,hm,hz,hn⟩:=h
 refine ⟨a,cap,rfl,hm,?_,hn⟩
 by_cases h0:zs=[]
 ·exact Or.inl h0
 ·rcases hz with h | ⟨b,off,rfl,hc⟩
  ·exact absurd h h0
  ·exact Or.inr ⟨b,off,rfl,fun i hi=>(World.cell?_of_block (a:=⟨b,off+i,none⟩) (hb b off _ _ rfl h0)).trans (hc i hi)⟩
def lenV:Value→Nat
 | .slice _ n _=>n
 | _=>0
structure BY (W:World) (g N:Nat) (by_:Nat→Stp):Prop where
 cell:∀ i,i < N→W.cell? ⟨g,i * 3,none⟩=some (.int .i64 (by_ i).f)∧W.cell? ⟨g,i * 3+1,none⟩=some (.int .i64 (by_ i).l)∧W.cell? ⟨g,i * 3+2,none⟩=some (.int .i64 (by_ i).t)
 soft:∀ o,W.frozen? ⟨g,o,none⟩=false
 lt:g < W.heap.size
theorem BY.of_block {W W':World}{g N:Nat}{by_:Nat→Stp} (h:BY W g N by_) (hb:W'.heap[g]?=W.heap[g]?):BY W' g N by_:=
 ⟨fun i hi=>⟨(World.cell?_of_block (a:=⟨g,i * 3,none⟩) hb).trans (h.cell i hi).1,(World.cell?_of_block (a:=⟨g,i * 3+1,none⟩) hb).trans (h.cell i hi).2.1,(World.cell?_of_block (a:=⟨g,i * 3+2,none⟩) hb).trans (h.cell i hi).2.2⟩,fun o=>(World.frozen?_of_block (a:=⟨g,o,none⟩) hb).trans (h.soft o),by
  have:=h.lt
  have h2:W.heap[g]?=some W.heap[g]:=by simp [this]
  rw [h2] at hb
  exact (Array.getElem?_eq_some_iff.1 hb).1⟩
theorem BY.old {W W':World}{g N:Nat}{by_:Nat→Stp} (h:BY W g N by_) (hb:Below W.heap.size W W'):BY W' g N by_:=h.of_block (hb.block g h.lt)
theorem owns_one {w:World}{base g:Nat}{z:Int} (h:w.heap[g]?=some (.cells #[.int .i64 z] 3 (0,0))) (hb:base≤g):w.ownsRow base 3 1 (.slice (some ⟨g,0,none⟩) 1 1) 1 [.int .i64 z]:=
 ⟨rfl,.inr ⟨g,1,#[.int .i64 z],rfl,hb,h,Nat.le_refl _,by simp [maxLen],rfl,rfl⟩⟩
theorem backWay_any {w:World}{g N end_:Nat}{fv:Value}{A:Aut}{from_:List Int}{ord:List Nat}{by_:Nat→Stp} (hby:BY w g N by_) (hf:IntSl w fv from_) (hA:∀ s ∈ A.steps,0≤s.f) (hok:ByOk A from_ ord by_) (hr:∀ q ∈ ord,q < N) (hN:N≤900000) (hol:ord.length≤N) (he:end_ ∈ ord) :
  Calls Tryz.prog 156 #[.slice (some ⟨g,0,none⟩) N N,fv,.int .i64 (end_:Nat)] w fun e w'=>∃ v us,e=.returned v∧IntSl w' v us∧(∀ b off k c,v=.slice (some ⟨b,off,none⟩) k c→w.heap.size≤b)∧us ≠ []∧us.length≤ord.length∧(∃ x ∈ from_,wayL A us x.toNat end_)∧Below w.heap.size w w':=by
 have HF:=hide hf
 have hen:=hr _ he
 have HB0:=hide (back_begin hA hok he)
 have HOn:=hide (fun us q (hb:BackAt A from_ ord end_ us q) (hq:q ∉ from_)=>back_on hA hok hb hq)
 have HDone:=hide (fun us q (hb:BackAt A from_ ord end_ us q) (hq:q ∈ from_)=>back_done hb hq)
 have HR:=hide hr
 have HBY:=hide hby
 obtain ⟨d0,d1,d2⟩:=hby.cell end_ hen
 obtain ⟨fa,fc,rfl,-⟩:=hf
 clear hok he hr hA
 have hb1:=below_new w (Obj.cells #[Value.int .i64 (by_ end_).l] 3 (0,0))
 have HO:=hide (owns_one (base:=w.heap.size) (one_new w (Obj.cells #[Value.int .i64 (by_ end_).l] 3 (0,0))) (Nat.le_refl _))
 have Hb1:=hide hb1
 have HB:=HB0.out
 have hgl0:g < w.heap.size:=hby.lt
 clear hb1 hby
 generalize by_ end_=s at *
 go_enter Tryz.func156,Tryz.ntmps156
 go_wp2_with (fail)
 clear d0 d1 d2
 go_loopw [7,8] (fun s7 s8 wr=>∃ (us:List Int) (q:Int),s8=.int .i64 q∧Hid (wr.ownsRow w.heap.size 3 1 s7 us.length (us.map (.int .i64)))∧Hid (BackAt A from_ ord end_ us q)∧Hid (Below w.heap.size w wr)) (fun s7 _ _=>ord.length - lenV s7)
 case atStart=>exact ⟨[s.l],s.f,rfl,HO,hide HB,Hb1⟩
 case round =>
  obtain ⟨us,q,rfl,HOw,HBk,Hbw⟩:=hrel
  obtain ⟨qn,rfl⟩:=Int.eq_ofNat_of_zero_le HBk.out.2.2.1
  obtain ⟨ad,cp,rfl⟩:=owns_form HOw.out
  go_wp2_with (fail)
  refine (contains_any (qn:Int) (HF.out.below Hbw.out)).mono ?_
  rintro e w1 ⟨rfl,hw1⟩
  subst hw1
  by_cases hq:(qn:Int) ∈ from_
  ·have hd:decide ((qn:Int) ∈ from_)=true:=decide_eq_true hq
   have HD:=hide (HDone.out us _ HBk.out hq)
   have hul:=HBk.out.2.1
   have hu1:0 < us.length:=List.length_pos_iff.2 HBk.out.1
   clear hq
   rw [hd]
   obtain ⟨g9,hg9⟩:∃ g9,ad=some ⟨g9,0,none⟩:=by
    rcases HOw.out.2 with ⟨e,h0⟩ | ⟨g',cap',cur,e,hb,_⟩
    ·omega
    ·cases e;exact ⟨g',rfl⟩
   subst hg9
   have HRv:=hide (reverse_any HOw.out)
   go_wp2_with (fail)
   refine HRv.out.mono ?_
   rintro e w2 ⟨rfl,hown2,hgr2⟩
   have Hown2:=hide hown2
   have Hgr2:=hide hgr2
   clear hown2 hgr2
   go_wp2
   go_ret
   refine ⟨_,us.reverse,rfl,?_,?_,HD.out.1,HD.out.2.1,HD.out.2.2,?_⟩
   ·exact intSl_of_owns Hown2.out
   ·intro b off k c e
    injection e with e1 _ _
    injection e1 with e2
    injection e2 with e3 _ _
    rw [← e3]
    exact (HOw.out.lt g9 rfl).1
   ·exact Hbw.out.trans ((Below.refl w.heap.size _).grown Hgr2.out Hbw.out.size (fun k hk=>(HOw.out.lt k hk).1))
  ·have hd:decide ((qn:Int) ∈ from_)=false:=decide_eq_false hq
   obtain ⟨hm,hlt,hnx⟩:=HOn.out us _ HBk.out hq
   rw [Int.toNat_natCast] at hm hnx
   have hqN:=HR.out _ hm
   have hgw:g < w.heap.size:=HBY.out.lt
   obtain ⟨d0,d1,d2⟩:=(HBY.out.of_block (Hbw.out.block g hgw)).cell qn hqN
   have HNx:=hide hnx
   have hsz:=Hbw.out.size
   generalize by_ qn=s2 at *
   have hb2:=below_new w1 (Obj.cells #[Value.int .i64 s2.l] 3 (0,0))
   have HownW:=hide (owns_kept HOw.out (fun r hr=>hb2.block r (HOw.out.lt r hr).2))
   have hn2:=one_new w1 (Obj.cells #[Value.int .i64 s2.l] 3 (0,0))
   have Hc0:=hide (cell_of_row _ _ 0 _ _ _ hn2)
   have HszW:=hide (show w.heap.size≤(w1.alloc (Obj.cells #[Value.int .i64 s2.l] 3 (0,0))).heap.size by simp;omega)
   have Hb2:=hide (Hbw.out.trans (hb2.mono hsz))
   have hul:us.length≤900000:=by omega
   have Hd0:=hide ((hb2.cell (p:=⟨g,qn * 3,none⟩) (by show g < w1.heap.size;omega)).trans d0)
   clear hq hm hnx hb2 hn2
   rw [hd]
   go_wp2_with (at_builtin;refine wpList_append_int _ rfl (.tmp 29) (.tmp 35) rfl w.heap.size us.length _ (us.map (.int .i64)) rfl HownW.out w1.heap.size 1 s2.l rfl (by decide) Hc0.out hul HszW.out ?_;intro g8 cap8 w8 hown8 hgrow8 hor8 hbase8;have z0:w8.cell? ⟨g,qn * 3,none⟩=some (.int .i64 s2.f):=(hgrow8.cell Hd0.out (fun e=>by have:=(HownW.out.lt g e.symm).1;omega));have Hown8:=hide hown8;have Hbl8:=hide (Hb2.out.trans ((Below.refl w.heap.size _).grown hgrow8 HszW.out (fun k hk=>(HownW.out.lt k hk).1)));clear hown8 hgrow8 hor8 hbase8)
   go_roundw
   case rel=>exact ⟨us ++ [s2.l],s2.f,rfl,hide (by simpa using Hown8.out),HNx,Hbl8⟩
   case measure=>simp [lenV];omega
end Go.Proofs.YtpiacnnifdjlkabGreatDoor
namespace Go.Proofs.YtpiacnnifdjlkabGreatDoor
def chainGo (ops:Array Oper) (x:Nat):Nat→List Nat→Bool
 | y,[]=>(match ops[y]? with | some o=>dep o x | none=>false)
 | y,z :: l=>(match ops[y]? with | some o=>dep o z | none=>false) && chainGo ops x z l
def chainOk (ops:Array Oper) (y x:Nat) (l:List Nat):Bool:=decide (y ≠ x) && chainGo ops x y l
section
variable {P:Program}{ops:Array Oper}{Q:Exit→Act→World→Prop}{W:World→Prop}{V2:Bool→Bool→World→Prop}{R:Nat→Value→World→Prop}{a0:Act}
theorem chain_go {listed:Array Bool} (hcl:∀ (j:Nat) (oj:Oper),ops[j]?=some oj→listed[j]?=some true→∀ k,dep oj k=true→listed[k]?=some true) {x:Nat}:∀ (l:List Nat) {y:Nat},chainGo ops x y l=true→(∀ k,(∃ o,ops[y]?=some o∧dep o k=true)→listed[k]?=some true)→listed[x]?=some true
 | [],y,h,hr=>by
  unfold chainGo at h
  cases ho:ops[y]? with
  | none=>rw [ho] at h;cases h
  | some o=>rw [ho] at h;exact hr x ⟨o,ho,h⟩
 | z :: l,y,h,hr=>by
  unfold chainGo at h
  rw [Bool.and_eq_true] at h
  cases ho:ops[y]? with
  | none=>rw [ho] at h;cases h.1
  | some o =>
   rw [ho] at h
   have hz:=hr z ⟨o,ho,h.1⟩
   exact chain_go hcl l h.2 (fun k hk=>by obtain ⟨oz,hoz,hk⟩:=hk;exact hcl z oz hoz hz k hk)
theorem chain_ready {listed:Array Bool} (hcl:∀ (j:Nat) (oj:Oper),ops[j]?=some oj→listed[j]?=some true→∀ k,dep oj k=true→listed[k]?=some true) {x i:Nat} (l:List Nat) (h:chainOk ops i x l=true) (hr:∀ k,(∃ o,ops[i]?=some o∧dep o k=true)→listed[k]?=some true):listed[x]?=some true:=by
 unfold chainOk at h
 rw [Bool.and_eq_true] at h
 exact chain_go hcl l h.2 hr
theorem chain_done {listed:Array Bool} (hcl:∀ (j:Nat) (oj:Oper),ops[j]?=some oj→listed[j]?=some true→∀ k,dep oj k=true→listed[k]?=some true) {y x:Nat} (l:List Nat) (h:chainOk ops y x l=true) (hy:listed[y]?=some true):listed[x]?=some true:=
 chain_ready hcl l h (fun k hk=>by obtain ⟨o,ho,hk⟩:=hk;exact hcl y o ho hy k hk)
end
end Go.Proofs.YtpiacnnifdjlkabGreatDoor
namespace Go.Proofs.YtpiacnnifdjlkabGreatDoor
open Go.RowKit
structure KE (S:World→Nat→Prop) (W W':World):Prop where
 os:W'.os=W.os
 tape:W'.tape=W.tape
 output:W'.output=W.output
 size:W.heap.size≤W'.heap.size
 keep:∀ (k:Nat) (o:Obj),W.heap[k]?=some o→¬ S W k→W'.heap[k]?=some o
 own:∀ k,S W' k→S W k ∨ (W.heap.size≤k∧k < W'.heap.size)
structure KO (l:Nat) (S:World→Nat→Prop) (W W':World):Prop where
 os:W'.os=W.os
 tape:W'.tape=W.tape
 output:W'.output=W.output
 size:W.heap.size≤W'.heap.size
 keep:∀ (k:Nat) (o:Obj),W.heap[k]?=some o→k ≠ l→¬ S W k→W'.heap[k]?=some o
 own:∀ k,S W' k→S W k ∨ (W.heap.size≤k∧k < W'.heap.size)
structure KI (s:Nat) (S:World→Nat→Prop) (W W':World):Prop where
 os:W'.os=W.os
 tape:W'.tape=W.tape
 output:W'.output=W.output
 size:W.heap.size≤W'.heap.size
 keep:∀ (k:Nat) (o:Obj),W.heap[k]?=some o→k < s ∨ S W k→W'.heap[k]?=some o
def Det (m:Nat) (S:World→Nat→Prop):Prop:=
 ∀ W W':World,m≤W.heap.size→W.heap.size≤W'.heap.size→(∀ (k:Nat) (o:Obj),W.heap[k]?=some o→S W k→W'.heap[k]?=some o)→∀ k,S W' k ↔ S W k
theorem KE.refl (S:World→Nat→Prop) (W:World):KE S W W:=⟨rfl,rfl,rfl,Nat.le_refl _,fun _ _ h _=>h,fun _ h=>Or.inl h⟩
theorem KE.trans {S:World→Nat→Prop}{A B C:World} (h:KE S A B) (k:KE S B C):KE S A C:=
 ⟨k.os.trans h.os,k.tape.trans h.tape,k.output.trans h.output,Nat.le_trans h.size k.size,fun i o hi hn=>k.keep i o (h.keep i o hi hn) (fun hs=>by
  rcases h.own i hs with h1 | h1
  ·exact hn h1
  ·have:=(Array.getElem?_eq_some_iff.1 hi).1;omega),fun i hs=>by
  rcases k.own i hs with h1 | h1
  ·exact (h.own i h1).imp id (fun h2=>⟨h2.1,Nat.lt_of_lt_of_le h2.2 k.size⟩)
  ·exact Or.inr ⟨Nat.le_trans h.size h1.1,h1.2⟩⟩
theorem KO.refl (l:Nat) (S:World→Nat→Prop) (W:World):KO l S W W:=⟨rfl,rfl,rfl,Nat.le_refl _,fun _ _ h _ _=>h,fun _ h=>Or.inl h⟩
theorem KO.trans {l:Nat}{S:World→Nat→Prop}{A B C:World} (h:KO l S A B) (k:KO l S B C):KO l S A C:=
 ⟨k.os.trans h.os,k.tape.trans h.tape,k.output.trans h.output,Nat.le_trans h.size k.size,fun i o hi hl hn=>k.keep i o (h.keep i o hi hl hn) hl (fun hs=>by
  rcases h.own i hs with h1 | h1
  ·exact hn h1
  ·have:=(Array.getElem?_eq_some_iff.1 hi).1;omega),fun i hs=>by
  rcases k.own i hs with h1 | h1
  ·exact (h.own i h1).imp id (fun h2=>⟨h2.1,Nat.lt_of_lt_of_le h2.2 k.size⟩)
  ·exact Or.inr ⟨Nat.le_trans h.size h1.1,h1.2⟩⟩
theorem KE.ko {l:Nat}{S:World→Nat→Prop}{A B:World} (h:KE S A B):KO l S A B:=⟨h.os,h.tape,h.output,h.size,fun k o hk _ hn=>h.keep k o hk hn,h.own⟩
theorem KI.det {s m:Nat}{S:World→Nat→Prop}{A B:World} (h:KI s S A B) (hD:Det m S) (hm:m≤A.heap.size):∀ k,S B k ↔ S A k:=hD A B hm h.size (fun k o hk hs=>h.keep k o hk (Or.inr hs))
theorem KI.of_below {s:Nat}{S:World→Nat→Prop}{A B:World} (h:Below A.heap.size A B):KI s S A B:=⟨h.os,h.tape,h.output,h.size,fun k _ hk _=>(h.block k (Array.getElem?_eq_some_iff.1 hk).1).trans hk⟩
theorem KI.mono {s s':Nat}{S:World→Nat→Prop}{A B:World} (h:KI s S A B) (hs:s'≤s):KI s' S A B:=⟨h.os,h.tape,h.output,h.size,fun k o hk hor=>h.keep k o hk (hor.imp (fun h1=>Nat.lt_of_lt_of_le h1 hs) id)⟩
theorem KI.put {s:Nat}{S:World→Nat→Prop}{A:World}{l:Nat} (o:Obj) (hl:s≤l) (hS:¬ S A l):KI s S A (A.putObj l o):=
 ⟨rfl,rfl,rfl,by simp,fun k _ hk hor=>(World.putObj_heap_other (fun e=>by subst e;rcases hor with h | h;exact absurd h (by omega);exact hS h)).trans hk⟩
theorem KO.of_below {l m:Nat}{S:World→Nat→Prop}{A B:World} (hD:Det m S) (hm:m≤A.heap.size) (h:Below A.heap.size A B):KO l S A B:=
 ⟨h.os,h.tape,h.output,h.size,fun k _ hk _ _=>(h.block k (Array.getElem?_eq_some_iff.1 hk).1).trans hk,fun k hs=>Or.inl (((KI.of_below (s:=0) h).det hD hm k).1 hs)⟩
theorem KE.of_below {m:Nat}{S:World→Nat→Prop}{A B:World} (hD:Det m S) (hm:m≤A.heap.size) (h:Below A.heap.size A B):KE S A B:=
 ⟨h.os,h.tape,h.output,h.size,fun k _ hk _=>(h.block k (Array.getElem?_eq_some_iff.1 hk).1).trans hk,fun k hs=>Or.inl (((KI.of_below (s:=0) h).det hD hm k).1 hs)⟩
theorem KO.put {l m:Nat}{S:World→Nat→Prop}{A:World} (hD:Det m S) (hm:m≤A.heap.size) (o:Obj) (hS:¬ S A l):KO l S A (A.putObj l o):=
 ⟨rfl,rfl,rfl,by simp,fun k _ hk hne _=>(World.putObj_heap_other hne).trans hk,fun k hs=>Or.inl (((KI.put (s:=0) o (Nat.zero_le _) hS).det hD hm k).1 hs)⟩
theorem KO.not_own {l:Nat}{S:World→Nat→Prop}{A B:World} (h:KO l S A B) {k:Nat} (hk:k < A.heap.size) (hn:¬ S A k):¬ S B k:=fun hs=>by
 rcases h.own k hs with h1 | h1
 ·exact hn h1
 ·omega
theorem KE.not_own {S:World→Nat→Prop}{A B:World} (h:KE S A B) {k:Nat} (hk:k < A.heap.size) (hn:¬ S A k):¬ S B k:=fun hs=>by
 rcases h.own k hs with h1 | h1
 ·exact hn h1
 ·omega
def SeqO {α:Type} (n:Nat) (P:Program) (gf:Nat) (lb:Array Value) (encs:α→Array Value) (C:Nat→Prop) (Done:List α→Prop) (N:Nat) (w0:World):Prop:=
 ∀ (l:Nat) (S:World→Nat→Prop) (m:Nat) (J Jx:List α→World→Prop) (W:World),Below w0.heap.size w0 W→Det m S→m≤W.heap.size→(∀ k,C k→¬ S W k)→w0.heap.size≤l→l < W.heap.size→¬ S W l→(∀ k,S W k→k < W.heap.size) →
  (∀ pre A B,J pre A→W.heap.size≤A.heap.size→KI W.heap.size S A B→J pre B)→(∀ pre A B,Jx pre A→W.heap.size≤A.heap.size→KI W.heap.size S A B→Jx pre B) →
  (∀ pre x A,J pre A→pre.length < N→W.heap.size≤A.heap.size→YieldAt Fence.wide (n - 1) P l (encs x) A fun e B=>(e=.returned (.bool true)∧J (pre ++ [x]) B∧KO l S A B) ∨ (e=.returned (.bool false)∧Jx (pre ++ [x]) B∧KO l S A B)) →
  J [] W→CallsIn Fence.wide n P gf (#[.func (.yield l) #[] #[]] ++ lb) W fun e W'=>(∃ v,e=.returned v)∧((∃ xs,Done xs∧J xs W') ∨ ∃ pre,Jx pre W')
def postE {α:Type} (S:World→Nat→Prop) (I:List α→World→Prop) (Ix:Code→List α→World→Prop) (xs:List α) (W:World):Exit→Act→World→Prop
 | .normal,_,W'=>KE S W W'∧I xs W'
 | .ret,_,W'=>KE S W W'∧Ix .ret xs W'
 | .exit id,_,W'=>KE S W W'∧Ix (.exit id) xs W'
 | .goto t,_,W'=>KE S W W'∧Ix (.goto t) xs W'
 | .panic _,_,_=>False
 | .outgrown,_,_=>False
section
variable {P:Program}{n:Nat}
theorem round_own {α:Type}{l m s:Nat}{S:World→Nat→Prop}{rec:LoopState→Option Code→Loop}{fn:FuncId}{tmps:Array Value}{ps:Array Tmp}{assign body:Code}{df:Nat} (hrec:rec=fun st pe=>{ state:=st,pending:=pe,fn,tmps,params:=ps,assign,body,defers:=df }) {encs:α→Array Value} (hps:∀ x,(encs x).size=ps.size)
  (hD:Det m S) (I:List α→World→Prop) (Ix:Code→List α→World→Prop) (hs:s≤l) (hI:∀ pre A B,I pre A→s≤A.heap.size→KI s S A B→I pre B) (hIx:∀ c pre A B,Ix c pre A→s≤A.heap.size→KI s S A B→Ix c pre B)
  (Ax:α→Act→World→Prop) (hAx:∀ x a' A o r,A.heap[l]?=some (.loop r)→(∀ k,S (A.putObj l o) k ↔ S A k)→Ax x a' A→Ax x a' (A.putObj l o)) {pre:List α}{x:α}{W:World} (hi:I pre W) (hsz:s≤W.heap.size) (hmW:m≤W.heap.size) (hl:W.heap[l]?=some (.loop (rec .ready none))) (hSl:¬ S W l)
  (hassign:∀ K:Act→World→Prop,(∀ a' B,Below W.heap.size W B→Ax x a' B→K a' B)→assign.wpIn (Fence.wide.inRound l) n P (Exit.then K (fun _ _ _=>False)) { tmps:=(ps.zip (encs x)).foldl (fun t (p,v)=>t.setIfInBounds p v) tmps,defers:=[] } W)
  (hbody:∀ a' A,(∃ r,A.heap[l]?=some (.loop r))→¬ S A l→W.heap.size≤A.heap.size→I pre A→Ax x a' A→body.wpIn (Fence.wide.inRound l) n P (postE S I Ix (pre ++ [x]) A) a' A) :
  YieldAt Fence.wide n P l (encs x) W fun e B=>(e=.returned (.bool true)∧(I (pre ++ [x]) B∧B.heap[l]?=some (.loop (rec .ready none)))∧KO l S W B) ∨ (e=.returned (.bool false)∧(∃ c,Ix c (pre ++ [x]) B∧B.heap[l]?=some (.loop (rec .done (some c))))∧KO l S W B):=by
 have hy:=run_yield (P:=P) (args:=encs x) hl (by rw [hrec];exact hps x)
 rw [hrec] at hy
 refine ⟨fn,_,assign,body,hy,roundIn_of_wpIn trivial (hassign _ ?_)⟩
 intro a' A hbA hax
 have hlA:A.heap[l]?=some (.loop (rec .ready none)):=(hbA.block l (Array.getElem?_eq_some_iff.1 hl).1).trans hl
 have hlt:l < A.heap.size:=(Array.getElem?_eq_some_iff.1 hlA).1
 have hkiA:KI s S W A:=KI.of_below hbA
 have hSA:¬ S A l:=fun h=>hSl ((hkiA.det hD hmW l).1 h)
 refine ⟨_,run_beginRound hlA (by rw [hrec]),?_⟩
 have hl2:(A.putObj l (.loop { rec .ready none with state:=.busy })).heap[l]?=some (.loop { rec .ready none with state:=.busy }):=World.putObj_heap_same hlt
 have hmA:m≤A.heap.size:=Nat.le_trans hmW hbA.size
 have hki2:KI s S A (A.putObj l (.loop { rec .ready none with state:=.busy })):=KI.put _ hs hSA
 have hS2:¬ S (A.putObj l (.loop { rec .ready none with state:=.busy })) l:=fun h=>hSA ((hki2.det hD hmA l).1 h)
 have hko2:KO l S W (A.putObj l (.loop { rec .ready none with state:=.busy })):=(KO.of_below hD hmW hbA).trans (KO.put hD hmA _ hSA)
 refine wpIn_mono (hbody a' _ ⟨_,hl2⟩ hS2 (by rw [World.putObj_size];exact hbA.size) (hI pre _ _ (hI pre _ _ hi hsz hkiA) (Nat.le_trans hsz hbA.size) hki2) (hAx x a' A _ _ hlA (hki2.det hD hmA) hax)) ?_
 have fin:∀ (jump:Option Code) (B:World),KE S (A.putObj l (.loop { rec .ready none with state:=.busy })) B →
   (Instr.endRound l jump).run P B=.ok (.bool jump.isNone) (B.putObj l (.loop (rec (if jump.isNone then .ready else .done) jump))) ∧
   (B.putObj l (.loop (rec (if jump.isNone then .ready else .done) jump))).heap[l]?=some (.loop (rec (if jump.isNone then .ready else .done) jump)) ∧
   KI s S B (B.putObj l (.loop (rec (if jump.isNone then .ready else .done) jump)))∧s≤B.heap.size∧KO l S W (B.putObj l (.loop (rec (if jump.isNone then .ready else .done) jump))):=fun jump B hk=>by
  have hl3:=hk.keep l _ hl2 hS2
  have hSB:=hk.not_own (Array.getElem?_eq_some_iff.1 hl2).1 hS2
  have h4:=run_endRound (P:=P) jump hl3
  have hsB:A.heap.size≤B.heap.size:=by have:=hk.size;rwa [World.putObj_size] at this
  rw [hrec] at h4 ⊢
  exact ⟨h4,World.putObj_heap_same (Array.getElem?_eq_some_iff.1 hl3).1,KI.put _ hs hSB,Nat.le_trans hsz (Nat.le_trans hbA.size hsB),by rw [hrec] at hko2 hk;exact (hko2.trans hk.ko).trans (KO.put hD (Nat.le_trans hmA hsB) _ hSB)⟩
 rintro e a3 B hp
 cases e with
 | normal =>
  obtain ⟨hr,hl4,hki,hsB,hko⟩:=fin none B hp.1
  exact ⟨_,_,hr,Or.inl ⟨rfl,⟨hI _ _ _ hp.2 hsB hki,hl4⟩,hko⟩⟩
 | ret =>
  obtain ⟨hr,hl4,hki,hsB,hko⟩:=fin (some .ret) B hp.1
  exact ⟨_,_,hr,Or.inr ⟨rfl,⟨.ret,hIx _ _ _ _ hp.2 hsB hki,hl4⟩,hko⟩⟩
 | exit id =>
  obtain ⟨hr,hl4,hki,hsB,hko⟩:=fin (some (.exit id)) B hp.1
  exact ⟨_,_,hr,Or.inr ⟨rfl,⟨.exit id,hIx _ _ _ _ hp.2 hsB hki,hl4⟩,hko⟩⟩
 | goto t =>
  obtain ⟨hr,hl4,hki,hsB,hko⟩:=fin (some (.goto t)) B hp.1
  exact ⟨_,_,hr,Or.inr ⟨rfl,⟨.goto t,hIx _ _ _ _ hp.2 hsB hki,hl4⟩,hko⟩⟩
 | panic ch=>exact hp.elim
 | outgrown=>exact hp.elim
theorem range_own {α:Type}{g:Operand}{ps:Array Tmp}{assign body:Code}{Q:Exit→Act→World→Prop}{a:Act}{w:World}{gf:Nat}{lb:Array Value} (hg:a.eval g=.func (.func gf) #[] lb) (eg:∀ args w,(callFunc gf args).run P w=.ok (.enter gf args) w)
  {encs:α→Array Value}{C:Nat→Prop}{Done:List α→Prop}{N:Nat}{w0:World} (hseq:SeqO (n - 1) P gf lb encs C Done N w0) (S:World→Nat→Prop) (m:Nat) (hD:Det m S) (hm:m≤w.heap.size) (hC:∀ k,C k→¬ S w k) (hSw:∀ k,S w k→k < w.heap.size) (hb0:Below w0.heap.size w0 w) (hps:∀ x,(encs x).size=ps.size)
  (I:List α→World→Prop) (Ix:Code→List α→World→Prop) (hI:∀ pre A B,I pre A→w.heap.size≤A.heap.size→KI w.heap.size S A B→I pre B) (hIx:∀ c pre A B,Ix c pre A→w.heap.size≤A.heap.size→KI w.heap.size S A B→Ix c pre B) (h0:I [] w)
  (Ax:α→Act→World→Prop) (hAx:∀ l x a' A o r,A.heap[l]?=some (.loop r)→(∀ k,S (A.putObj l o) k ↔ S A k)→Ax x a' A→Ax x a' (A.putObj l o))
  (hassign:∀ (l:Nat) (pre:List α) (x:α) (A:World) (K:Act→World→Prop),I pre A→w.heap.size+2≤A.heap.size→(∀ a' B,Below A.heap.size A B→Ax x a' B→K a' B)→assign.wpIn (Fence.wide.inRound l) (n - 1 - 1) P (Exit.then K (fun _ _ _=>False)) { tmps:=(ps.zip (encs x)).foldl (fun t (p,v)=>t.setIfInBounds p v) a.tmps,defers:=[] } A)
  (hbody:∀ (l:Nat) (pre:List α) (x:α) (a':Act) (A:World),w.heap.size≤l→(∃ r,A.heap[l]?=some (.loop r))→¬ S A l→w.heap.size+2≤A.heap.size→I pre A→Ax x a' A→pre.length < N→body.wpIn (Fence.wide.inRound l) (n - 1 - 1) P (postE S I Ix (pre ++ [x]) A) a' A)
  (hdone:∀ (D:Nat) (xs:List α) (W:World),w.heap.size≤D→Done xs→I xs W→W.heap[D]?=some (.deferred (some []))→¬ S W D→Q .normal { a with defers:={ target:=.collected D,args:=#[] } :: a.defers } W)
  (hstop:∀ (D:Nat) (c:Code) (pre:List α) (W:World),w.heap.size≤D→Ix c pre W→W.heap[D]?=some (.deferred (some []))→¬ S W D→c.wpIn Fence.wide n P Q { a with defers:={ target:=.collected D,args:=#[] } :: a.defers } W) :
  (Code.rangeFunc g ps assign body).wpIn Fence.wide n P Q a w:=by
 refine wpIn_rangeFunc ?_
 intro fn _
 obtain ⟨rec,hrec⟩:∃ rec:LoopState→Option Code→Loop,rec=fun st pe=>{ state:=st,pending:=pe,fn,tmps:=a.tmps,params:=ps,assign,body,defers:=w.heap.size }:=⟨_,rfl⟩
 obtain ⟨W1,hW1⟩:∃ W1,(w.alloc (.deferred (some []))).alloc (.loop (rec .ready none))=W1:=⟨_,rfl⟩
 have hbW:Below w.heap.size w W1:=by rw [← hW1];exact ((Below.refl _ w).alloc (Nat.le_refl _) _).alloc (by simp) _
 have hsz:W1.heap.size=w.heap.size+2:=by rw [← hW1];simp
 have hL1:W1.heap[w.heap.size+1]?=some (.loop (rec .ready none)):=by
  rw [← hW1];have:=World.alloc_heap_new (w.alloc (.deferred (some []))) (.loop (rec .ready none));rwa [World.size_alloc] at this
 have hK1:W1.heap[w.heap.size]?=some (.deferred (some [])):=by
  rw [← hW1];exact (Below.heap_alloc _ _ _ (by simp)).trans (World.alloc_heap_new w _)
 have hki1:KI w.heap.size S w W1:=KI.of_below hbW
 have hS1:∀ k,S W1 k ↔ S w k:=hki1.det hD hm
 have hnl:¬ S W1 (w.heap.size+1):=fun h=>by have:=hSw _ ((hS1 _).1 h);omega
 have hnd:¬ S W1 w.heap.size:=fun h=>by have:=hSw _ ((hS1 _).1 h);omega
 refine ⟨w.heap.size+1,[{ target:=.collected w.heap.size,args:=#[] }],W1,{ target:=.fn (.func gf) lb,args:=#[.func (.yield (w.heap.size+1)) #[] #[]] },W1,gf,
  #[.func (.yield (w.heap.size+1)) #[] #[]] ++ lb,W1,?_,?_,fun _ _=>trivial,?_,fun h=>by simp [Fence.wide] at h,?_⟩
 ·rw [← hW1,hrec];exact run_enterLoop_outer _ _ _ _ _
 ·simp only [resolve,hg]
  simp [go_sem]
 ·simp [invoke,go_sem,eg]
 ·refine (hseq (w.heap.size+1) S m
   (fun pre W=>(I pre W∧W.heap[w.heap.size+1]?=some (.loop (rec .ready none)))∧W.heap[w.heap.size]?=some (.deferred (some []))∧¬ S W w.heap.size∧¬ S W (w.heap.size+1))
   (fun pre W=>(∃ c,Ix c pre W∧W.heap[w.heap.size+1]?=some (.loop (rec .done (some c))))∧W.heap[w.heap.size]?=some (.deferred (some []))∧¬ S W w.heap.size∧¬ S W (w.heap.size+1))
   W1 (hb0.trans (hbW.mono hb0.size)) hD (by omega) (fun k hk h=>hC k hk ((hS1 k).1 h)) (by have:=hb0.size;omega) (by omega) hnl (fun k h=>by have:=hSw k ((hS1 k).1 h);omega) ?_ ?_ ?_ ⟨⟨hI [] _ _ h0 (Nat.le_refl _) hki1,hL1⟩,hK1,hnd,hnl⟩).mono ?_
  ·rintro pre A B ⟨⟨h1,h2⟩,h3,h4,h5⟩ hA hk
   have hd:=hk.det hD (by omega)
   exact ⟨⟨hI pre A B h1 (by omega) (hk.mono (by omega)),hk.keep _ _ h2 (Or.inl (by omega))⟩,hk.keep _ _ h3 (Or.inl (by omega)),fun h=>h4 ((hd _).1 h),fun h=>h5 ((hd _).1 h)⟩
  ·rintro pre A B ⟨⟨c,h1,h2⟩,h3,h4,h5⟩ hA hk
   have hd:=hk.det hD (by omega)
   exact ⟨⟨c,hIx c pre A B h1 (by omega) (hk.mono (by omega)),hk.keep _ _ h2 (Or.inl (by omega))⟩,hk.keep _ _ h3 (Or.inl (by omega)),fun h=>h4 ((hd _).1 h),fun h=>h5 ((hd _).1 h)⟩
  ·rintro pre x A ⟨⟨h1,h2⟩,h3,h4,h5⟩ hlen hA
   have hr:=round_own (P:=P) (n:=n - 1 - 1) hrec hps hD I Ix (by omega:w.heap.size≤w.heap.size+1) hI hIx Ax (fun x a' A o r=>hAx _ x a' A o r) (pre:=pre) (x:=x) h1 (by omega) (by omega) h2 h5 (fun K hK=>hassign _ pre x A K h1 (by omega) hK) (fun a' A' hl' hS' hsA hi' hax'=>hbody _ pre x a' A' (by omega) hl' hS' (by omega) hi' hax' hlen)
   obtain ⟨fn',tm',as',bo',e1,e2⟩:=hr
   refine ⟨fn',tm',as',bo',e1,e2.mono ?_⟩
   rintro e B (⟨rfl,⟨k1,k2⟩,k3⟩ | ⟨rfl,k1,k3⟩)
   ·exact Or.inl ⟨rfl,⟨⟨k1,k2⟩,k3.keep _ _ h3 (by omega) h4,k3.not_own (by omega) h4,k3.not_own (by omega) h5⟩,k3⟩
   ·exact Or.inr ⟨rfl,⟨k1,k3.keep _ _ h3 (by omega) h4,k3.not_own (by omega) h4,k3.not_own (by omega) h5⟩,k3⟩
  ·rintro e W2 ⟨⟨v,rfl⟩,(⟨xs,hS,⟨hi,hl⟩,hk,hn1,hn2⟩ | ⟨pre,⟨c,hi,hl⟩,hk,hn1,hn2⟩)⟩
   ·have hlt:=(Array.getElem?_eq_some_iff.1 hl).1
    have hki:KI w.heap.size S W2 (W2.putObj (w.heap.size+1) (.loop { rec .ready none with state:=.exhausted })):=KI.put _ (by omega) hn2
    refine ⟨none,_,by have:=run_endLoop (P:=P) hl (by rw [hrec];simp);rw [hrec] at this ⊢;exact this,hdone _ xs _ (Nat.le_refl _) hS (hI _ _ _ hi (by omega) hki) ((World.putObj_heap_other (by omega)).trans hk) (fun h=>hn1 ((hki.det hD (by omega) _).1 h))⟩
   ·have hlt:=(Array.getElem?_eq_some_iff.1 hl).1
    have hki:KI w.heap.size S W2 (W2.putObj (w.heap.size+1) (.loop { rec .done (some c) with state:=.exhausted })):=KI.put _ (by omega) hn2
    refine ⟨some c,_,by have:=run_endLoop (P:=P) hl (by rw [hrec];simp);rw [hrec] at this ⊢;exact this,hstop _ c pre _ (Nat.le_refl _) (hIx _ _ _ _ hi (by omega) hki) ((World.putObj_heap_other (by omega)).trans hk) (fun h=>hn1 ((hki.det hD (by omega) _).1 h))⟩
theorem range_own_in {α:Type}{g:Operand}{ps:Array Tmp}{assign body:Code}{Q:Exit→Act→World→Prop}{a:Act}{w:World}{l0:Nat} (hl0:∃ r,w.heap[l0]?=some (.loop r)) {gf:Nat}{lb:Array Value} (hg:a.eval g=.func (.func gf) #[] lb) (eg:∀ args w,(callFunc gf args).run P w=.ok (.enter gf args) w)
  {encs:α→Array Value}{C:Nat→Prop}{Done:List α→Prop}{N:Nat}{w0:World} (hseq:SeqO (n - 1) P gf lb encs C Done N w0) (S:World→Nat→Prop) (m:Nat) (hD:Det m S) (hm:m≤w.heap.size) (hC:∀ k,C k→¬ S w k) (hSw:∀ k,S w k→k < w.heap.size) (hb0:Below w0.heap.size w0 w) (hps:∀ x,(encs x).size=ps.size)
  (I:List α→World→Prop) (Ix:Code→List α→World→Prop) (hI:∀ pre A B,I pre A→w.heap.size≤A.heap.size→KI w.heap.size S A B→I pre B) (hIx:∀ c pre A B,Ix c pre A→w.heap.size≤A.heap.size→KI w.heap.size S A B→Ix c pre B) (h0:I [] w)
  (Ax:α→Act→World→Prop) (hAx:∀ l x a' A o r,A.heap[l]?=some (.loop r)→(∀ k,S (A.putObj l o) k ↔ S A k)→Ax x a' A→Ax x a' (A.putObj l o))
  (hassign:∀ (l:Nat) (pre:List α) (x:α) (A:World) (K:Act→World→Prop),I pre A→w.heap.size+1≤A.heap.size→(∀ a' B,Below A.heap.size A B→Ax x a' B→K a' B)→assign.wpIn (Fence.wide.inRound l) (n - 1 - 1) P (Exit.then K (fun _ _ _=>False)) { tmps:=(ps.zip (encs x)).foldl (fun t (p,v)=>t.setIfInBounds p v) a.tmps,defers:=[] } A)
  (hbody:∀ (l:Nat) (pre:List α) (x:α) (a':Act) (A:World),w.heap.size≤l→(∃ r,A.heap[l]?=some (.loop r))→¬ S A l→w.heap.size+1≤A.heap.size→I pre A→Ax x a' A→pre.length < N→body.wpIn (Fence.wide.inRound l) (n - 1 - 1) P (postE S I Ix (pre ++ [x]) A) a' A)
  (hdone:∀ (xs:List α) (W:World),Done xs→I xs W→Q .normal a W)
  (hstop:∀ (c:Code) (pre:List α) (W:World),Ix c pre W→c.wpIn (Fence.wide.inRound l0) n P Q a W) :
  (Code.rangeFunc g ps assign body).wpIn (Fence.wide.inRound l0) n P Q a w:=by
 refine wpIn_rangeFunc ?_
 intro fn _
 obtain ⟨r0,hl0⟩:=hl0
 obtain ⟨rec,hrec⟩:∃ rec:LoopState→Option Code→Loop,rec=fun st pe=>{ state:=st,pending:=pe,fn,tmps:=a.tmps,params:=ps,assign,body,defers:=r0.defers }:=⟨_,rfl⟩
 obtain ⟨W1,hW1⟩:∃ W1,w.alloc (.loop (rec .ready none))=W1:=⟨_,rfl⟩
 have hbW:Below w.heap.size w W1:=by rw [← hW1];exact (Below.refl _ w).alloc (Nat.le_refl _) _
 have hsz:W1.heap.size=w.heap.size+1:=by rw [← hW1];simp
 have hL1:W1.heap[w.heap.size]?=some (.loop (rec .ready none)):=by rw [← hW1];exact World.alloc_heap_new w _
 have hki1:KI w.heap.size S w W1:=KI.of_below hbW
 have hS1:∀ k,S W1 k ↔ S w k:=hki1.det hD hm
 have hnl:¬ S W1 w.heap.size:=fun h=>by have:=hSw _ ((hS1 _).1 h);omega
 refine ⟨w.heap.size,[],W1,{ target:=.fn (.func gf) lb,args:=#[.func (.yield w.heap.size) #[] #[]] },W1,gf,
  #[.func (.yield w.heap.size) #[] #[]] ++ lb,W1,?_,?_,fun _ _=>trivial,?_,fun h=>by simp [Fence.wide] at h,?_⟩
 ·rw [← hW1,hrec];exact run_enterLoop_inner hl0 _ _ _ _ _
 ·simp only [resolve,hg]
  simp [go_sem]
 ·simp [invoke,go_sem,eg]
 ·refine CallsIn.inRound l0 ((hseq w.heap.size S m
   (fun pre W=>(I pre W∧W.heap[w.heap.size]?=some (.loop (rec .ready none)))∧¬ S W w.heap.size)
   (fun pre W=>(∃ c,Ix c pre W∧W.heap[w.heap.size]?=some (.loop (rec .done (some c))))∧¬ S W w.heap.size)
   W1 (hb0.trans (hbW.mono hb0.size)) hD (by omega) (fun k hk h=>hC k hk ((hS1 k).1 h)) (by have:=hb0.size;omega) (by omega) hnl (fun k h=>by have:=hSw k ((hS1 k).1 h);omega) ?_ ?_ ?_ ⟨⟨hI [] _ _ h0 (Nat.le_refl _) hki1,hL1⟩,hnl⟩).mono ?_)
  ·rintro pre A B ⟨⟨h1,h2⟩,h5⟩ hA hk
   have hd:=hk.det hD (by omega)
   exact ⟨⟨hI pre A B h1 (by omega) (hk.mono (by omega)),hk.keep _ _ h2 (Or.inl (by omega))⟩,fun h=>h5 ((hd _).1 h)⟩
  ·rintro pre A B ⟨⟨c,h1,h2⟩,h5⟩ hA hk
   have hd:=hk.det hD (by omega)
   exact ⟨⟨c,hIx c pre A B h1 (by omega) (hk.mono (by omega)),hk.keep _ _ h2 (Or.inl (by omega))⟩,fun h=>h5 ((hd _).1 h)⟩
  ·rintro pre x A ⟨⟨h1,h2⟩,h5⟩ hlen hA
   have hr:=round_own (P:=P) (n:=n - 1 - 1) hrec hps hD I Ix (Nat.le_refl w.heap.size) hI hIx Ax (fun x a' A o r=>hAx _ x a' A o r) (pre:=pre) (x:=x) h1 (by omega) (by omega) h2 h5 (fun K hK=>hassign _ pre x A K h1 (by omega) hK) (fun a' A' hl' hS' hsA hi' hax'=>hbody _ pre x a' A' (Nat.le_refl _) hl' hS' (by omega) hi' hax' hlen)
   obtain ⟨fn',tm',as',bo',e1,e2⟩:=hr
   refine ⟨fn',tm',as',bo',e1,e2.mono ?_⟩
   rintro e B (⟨rfl,⟨k1,k2⟩,k3⟩ | ⟨rfl,k1,k3⟩)
   ·exact Or.inl ⟨rfl,⟨⟨k1,k2⟩,k3.not_own (by omega) h5⟩,k3⟩
   ·exact Or.inr ⟨rfl,⟨k1,k3.not_own (by omega) h5⟩,k3⟩
  ·rintro e W2 ⟨⟨v,rfl⟩,(⟨xs,hS,⟨hi,hl⟩,hn2⟩ | ⟨pre,⟨c,hi,hl⟩,hn2⟩)⟩
   ·have hlt:=(Array.getElem?_eq_some_iff.1 hl).1
    have hki:KI w.heap.size S W2 (W2.putObj w.heap.size (.loop { rec .ready none with state:=.exhausted })):=KI.put _ (Nat.le_refl _) hn2
    refine ⟨none,_,by have:=run_endLoop (P:=P) hl (by rw [hrec];simp);rw [hrec] at this ⊢;exact this,hdone xs _ hS (hI _ _ _ hi (by omega) hki)⟩
   ·have hlt:=(Array.getElem?_eq_some_iff.1 hl).1
    have hki:KI w.heap.size S W2 (W2.putObj w.heap.size (.loop { rec .done (some c) with state:=.exhausted })):=KI.put _ (Nat.le_refl _) hn2
    refine ⟨some c,_,by have:=run_endLoop (P:=P) hl (by rw [hrec];simp);rw [hrec] at this ⊢;exact this,hstop c pre _ (hIx _ _ _ _ hi (by omega) hki)⟩
end
def ownOf (bs:List (Nat × Nat)) (X:List Nat) (W:World) (k:Nat):Prop:=k ∈ X ∨ ∃ p ∈ bs,∃ v,W.cell? ⟨p.1,p.2,none⟩=some v∧v.ownBlock=some k
theorem cell_same {W W':World}{b o:Nat} (h:W'.heap[b]?=W.heap[b]?):W'.cell? ⟨b,o,none⟩=W.cell? ⟨b,o,none⟩:=World.cell?_of_block (w:=W) (a:=⟨b,o,none⟩) h
theorem det_ownOf {bs:List (Nat × Nat)}{X:List Nat}{m:Nat} (hb:∀ p ∈ bs,p.1 ∈ X) (hX:∀ k ∈ X,k < m):Det m (ownOf bs X):=by
 intro W W' hm _ hk k
 have hc:∀ p ∈ bs,W'.cell? ⟨p.1,p.2,none⟩=W.cell? ⟨p.1,p.2,none⟩:=fun p hp=>by
  have hlt:p.1 < W.heap.size:=Nat.lt_of_lt_of_le (hX _ (hb p hp)) hm
  have ho:W.heap[p.1]?=some W.heap[p.1]:=Array.getElem?_eq_getElem hlt
  exact cell_same ((hk p.1 _ ho (Or.inl (hb p hp))).trans ho.symm)
 constructor
 ·rintro (h | ⟨p,hp,v,hv,hr⟩)
  ·exact Or.inl h
  ·exact Or.inr ⟨p,hp,v,by rw [← hc p hp];exact hv,hr⟩
 ·rintro (h | ⟨p,hp,v,hv,hr⟩)
  ·exact Or.inl h
  ·exact Or.inr ⟨p,hp,v,by rw [hc p hp];exact hv,hr⟩
theorem KE.more {bs bs':List (Nat × Nat)}{X X':List Nat}{W W':World} (h:KE (ownOf bs X) W W') (hX:∀ k ∈ X,k ∈ X') (hb:∀ p ∈ bs,p ∈ bs') (hn:∀ p ∈ bs',p ∈ bs ∨ (p.1 < W.heap.size∧¬ ownOf bs X W p.1)):KE (ownOf bs' X') W W':=by
 have hsub:∀ k,ownOf bs X W k→ownOf bs' X' W k:=fun k hk=>by
  rcases hk with h1 | ⟨p,hp,v,hv,hr⟩
  ·exact Or.inl (hX k h1)
  ·exact Or.inr ⟨p,hb p hp,v,hv,hr⟩
 refine ⟨h.os,h.tape,h.output,h.size,fun k o hk hs=>h.keep k o hk (fun h1=>hs (hsub k h1)),fun k hs=>?_⟩
 rcases hs with h1 | ⟨p,hp,v,hv,hr⟩
 ·exact Or.inl (Or.inl h1)
 ·rcases hn p hp with h1 | ⟨h1,h2⟩
  ·rcases h.own k (Or.inr ⟨p,h1,v,hv,hr⟩) with h3 | h3
   ·exact Or.inl (hsub k h3)
   ·exact Or.inr h3
  ·have ho:W.heap[p.1]?=some W.heap[p.1]:=Array.getElem?_eq_getElem h1
   have:=cell_same (o:=p.2) ((h.keep p.1 _ ho h2).trans ho.symm)
   exact Or.inl (Or.inr ⟨p,hp,v,by rw [← this];exact hv,hr⟩)
end Go.Proofs.YtpiacnnifdjlkabGreatDoor
