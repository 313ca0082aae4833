import Derived.Test.YtpiacnnifdjlkabGreatDoorHf
import Derived.Test.YtpiacnnifdjlkabGreatDoorHg
import Derived.Test.YtpiacnnifdjlkabGreatDoorYi
import Derived.Test.YtpiacnnifdjlkabGreatDoorYl
import Derived.Test.YtpiacnnifdjlkabGreatDoorGg
import Derived.Test.YtpiacnnifdjlkabGreatDoorYj
import Derived.Test.YtpiacnnifdjlkabGreatDoorYn
import Derived.Test.YtpiacnnifdjlkabGreatDoorHi
import Derived.Test.YtpiacnnifdjlkabGreatDoorYa
import Derived.LaidLaws
import Derived.Lib.TrailingZeros
import Derived.Lib.ItoaNum
set_option maxRecDepth 100000
set_option maxHeartbeats 8000000
namespace Go.Proofs.YtpiacnnifdjlkabGreatDoor
open Go.RowKit Go.Sort
theorem RefAt.congr {T:List UInt8}{p q q':Nat}{g g':Nat→List Nd} (h:RefAt T p q g) (hq:q=q') (hg:∀ m,g m=g' m):RefAt T p q' g':=by
 subst hq
 obtain rfl:g=g':=funext hg
 exact h
theorem sub_end {T:List UInt8}{p:Nat}{s:List UInt8} (h:Sub T p s) (hs:0 < s.length):p+s.length≤T.length:=by
 have h1:=h (s.length - 1) (by omega)
 rw [List.getElem?_eq_getElem (show s.length - 1 < s.length by omega)] at h1
 have:=(List.getElem?_eq_some_iff.1 h1).1
 omega
theorem ref_leaf {T:List UInt8} (hT:T.length≤30000) (x:Nd) (hk:x.k=1 ∨ x.k=2) (hn:x.k=2→0≤x.n∧x.n≤2) (h1n:x.k=1→x.n=0) {p:Nat} (h:Sub T p (leafTx x)):RefAt T p (p+(leafTx x).length) (fun _=>[⟨x.k,0,0,x.n⟩]):=by
 rcases hk with hk | hk
 ·have e:leafTx x=[116,114,117,101]:=by unfold leafTx;rw [if_pos hk]
  rw [e] at h ⊢
  have:=sub_end h (by simp)
  exact (ref_true h this hT).congr rfl (fun m=>by rw [hk,h1n hk])
 ·have e:leafTx x=[112,UInt8.ofNat (48+x.n.toNat)]:=by unfold leafTx;rw [if_neg (by omega)]
  have hx:=hn hk
  rw [e] at h ⊢
  obtain ⟨t0,h⟩:=h.head
  obtain ⟨t1,-⟩:=h.head
  have hd:(UInt8.ofNat (48+x.n.toNat)).toNat=48+x.n.toNat:=by
   have:x.n.toNat≤2:=by omega
   simp [UInt8.toNat_ofNat]
   omega
  refine (ref_prop (UInt8.ofNat (48+x.n.toNat)) (by rw [hd];omega) t0 t1 hT).congr rfl (fun m=>?_)
  rw [hd,hk,show ((48+x.n.toNat:Nat):Int) - 48=x.n by omega]
theorem ref_fl {F:List Nd} (hF:AllOk F) {T:List UInt8} (hT:T.length≤30000):∀ i,i < F.length→∀ o p,Sub T p (nt F i o)→RefAt T p (p+(nt F i o).length) (fl F i o):=by
 intro i
 induction i using Nat.strongRecOn with
 | ind i ih =>
  intro hi o p hs
  obtain ⟨hk,⟨a0,a1,_⟩,⟨b0,b1,_⟩,hxn⟩:=node_ok (hF i hi)
  have hn0:(F.getD i nd0).k ≠ 2→(F.getD i nd0).n=0:=fun h=>node_n0 (hF i hi) h
  rw [nt_eq hF i hi] at hs ⊢
  have hfl:∀ m,flS (F.getD i nd0) (fl F) o m=fl F i o m:=fun m=>(fl_eq hF i hi o m).symm
  generalize F.getD i nd0=x at *
  refine RefAt.congr ?_ rfl hfl
  clear hfl
  unfold ntS at hs ⊢
  unfold flS
  by_cases h1:x.k=1 ∨ x.k=2
  ·simp only [if_pos h1] at hs ⊢
   cases o with
   | false =>
    simp only [Bool.false_eq_true,if_false] at hs ⊢
    exact ref_leaf hT x h1 hxn (fun h=>hn0 (by omega)) hs
   | true =>
    simp only [if_true] at hs ⊢
    obtain ⟨t0,hs⟩:=hs.head
    refine (ref_one 3 (Or.inl rfl) t0 (ref_leaf hT x h1 hxn (fun h=>hn0 (by omega)) hs) (fun m=>by simp) hT).congr (by simp;omega) (fun m=>by simp)
  simp only [if_neg h1] at hs ⊢
  have ha:=a1 (by omega)
  by_cases h3:x.k=3
  ·simp only [if_pos h3] at hs ⊢
   exact ih x.a.toNat (by omega) (by omega) (!o) p hs
  simp only [if_neg h3] at hs ⊢
  have hpa:=fun m=>(fl_len hF x.a.toNat (by omega) o m).2.1
  by_cases h6:x.k=6
  ·simp only [if_pos h6] at hs ⊢
   obtain ⟨t0,hs⟩:=hs.head
   exact (ref_one 6 (Or.inr rfl) t0 (ih x.a.toNat (by omega) (by omega) o (p+1) hs) hpa hT).congr (by simp;omega) (fun m=>rfl)
  simp only [if_neg h6] at hs ⊢
  have hb:=b1 (by omega)
  have hpb:=fun m=>(fl_len hF x.b.toNat (by omega) o m).2.1
  obtain ⟨t0,hs⟩:=hs.head
  obtain ⟨sa,hs⟩:=hs.app
  obtain ⟨t1,hs⟩:=hs.head
  obtain ⟨t2,hs⟩:=hs.head
  obtain ⟨t3,hs⟩:=hs.head
  obtain ⟨sb,hs⟩:=hs.app
  obtain ⟨t4,-⟩:=hs.head
  have n1:=ih x.a.toNat (by omega) (by omega) o (p+1) sa
  have n2:=ih x.b.toNat (by omega) (by omega) o _ sb
  have hK:((if o=true then oppK x.k else x.k).toNat=4 ∨ (if o=true then oppK x.k else x.k).toNat=5 ∨ (if o=true then oppK x.k else x.k).toNat=7 ∨ (if o=true then oppK x.k else x.k).toNat=8)∧(((if o=true then oppK x.k else x.k).toNat:Nat):Int)=(if o=true then oppK x.k else x.k):=by
   rcases (show x.k=4 ∨ x.k=5 ∨ x.k=7 ∨ x.k=8 by omega) with e | e | e | e <;> rw [e] <;> cases o <;> simp [oppK]
  generalize (if o=true then oppK x.k else x.k)=kk at *
  obtain ⟨hK,eK⟩:=hK
  refine (ref_pair kk.toNat hK t0 n1 t1 (by rw [eK];exact t2) t3 n2 t4 hpa hpb hT).congr (by simp;omega) (fun m=>by rw [eK])
theorem fl_right {F:List Nd} (hF:AllOk F):∀ i,i < F.length→∀ (o:Bool) (m d:Nat),d < (fl F i o m).length→nodeErr ((fl F i o m).getD d nd0) ((m+d:Nat):Int)=0:=by
 intro i
 induction i using Nat.strongRecOn with
 | ind i ih =>
  intro hi o m d hd
  obtain ⟨hk,⟨a0,a1,_⟩,⟨b0,b1,_⟩,hxn⟩:=node_ok (hF i hi)
  have hn0:(F.getD i nd0).k ≠ 2→(F.getD i nd0).n=0:=fun h=>node_n0 (hF i hi) h
  have hu:=fl_eq hF i hi o m
  rw [hu] at hd ⊢
  clear hu
  generalize F.getD i nd0=x at *
  unfold flS at hd ⊢
  by_cases h1:x.k=1 ∨ x.k=2
  ·simp only [if_pos h1] at hd ⊢
   have hx:nodeErr ⟨x.k,0,0,x.n⟩ (m:Int)=0:=by
    rcases h1 with h | h
    ·rw [h,hn0 (by omega)];simp [nodeErr,chkN]
    ·have:=hxn h
     rw [h];simp [nodeErr,chkN];omega
   cases o with
   | false =>
    have e:d=0:=by simpa using hd
    subst e
    exact hx
   | true =>
    have e:d=0 ∨ d=1:=by simp at hd;omega
    rcases e with rfl | rfl
    ·exact hx
    ·show nodeErr ⟨3,(m:Nat),0,0⟩ _=0
     unfold nodeErr chkN
     rw [if_pos (by dsimp only;omega),if_neg (by dsimp only;omega),if_neg (by dsimp only;omega),if_neg (by dsimp only;omega)]
  simp only [if_neg h1] at hd ⊢
  have ha:=a1 (by omega)
  by_cases h3:x.k=3
  ·simp only [if_pos h3] at hd ⊢
   exact ih x.a.toNat (by omega) (by omega) (!o) m d hd
  simp only [if_neg h3] at hd ⊢
  have iha:=ih x.a.toNat (by omega) (by omega) o m
  have pa:=(fl_len hF x.a.toNat (by omega) o m).2.1
  by_cases h6:x.k=6
  ·simp only [if_pos h6] at hd ⊢
   generalize fl F x.a.toNat o m=A at *
   by_cases hdA:d < A.length
   ·have e:(A ++ [(⟨6,(m+A.length - 1:Nat),0,0⟩:Nd)]).getD d nd0=A.getD d nd0:=by simp [List.getD,List.getElem?_append,hdA]
    rw [e]
    exact iha d hdA
   ·have ed:d=A.length:=by simp at hd;omega
    subst ed
    have e:(A ++ [(⟨6,(m+A.length - 1:Nat),0,0⟩:Nd)]).getD A.length nd0=⟨6,(m+A.length - 1:Nat),0,0⟩:=by simp [List.getD]
    rw [e]
    unfold nodeErr chkN
    rw [if_pos (by dsimp only;omega),if_neg (by dsimp only;omega),if_neg (by dsimp only;omega),if_neg (by dsimp only;omega)]
  simp only [if_neg h6] at hd ⊢
  have hb:=b1 (by omega)
  have hKK:(if o=true then oppK x.k else x.k)=4 ∨ (if o=true then oppK x.k else x.k)=5 ∨ (if o=true then oppK x.k else x.k)=7 ∨ (if o=true then oppK x.k else x.k)=8:=by
   rcases (show x.k=4 ∨ x.k=5 ∨ x.k=7 ∨ x.k=8 by omega) with e | e | e | e <;> rw [e] <;> cases o <;> simp [oppK]
  generalize (if o=true then oppK x.k else x.k)=kk at *
  generalize fl F x.a.toNat o m=A at *
  have ihb:=ih x.b.toNat (by omega) (by omega) o (m+A.length)
  have pb:=(fl_len hF x.b.toNat (by omega) o (m+A.length)).2.1
  generalize fl F x.b.toNat o (m+A.length)=B at *
  by_cases hdA:d < A.length
  ·have e:(A ++ (B ++ [(⟨kk,(m+A.length - 1:Nat),(m+A.length+B.length - 1:Nat),0⟩:Nd)])).getD d nd0=A.getD d nd0:=by simp [List.getD,List.getElem?_append,hdA]
   rw [e]
   exact iha d hdA
  by_cases hdB:d < A.length+B.length
  ·obtain ⟨d',rfl⟩:∃ d',d=A.length+d':=⟨d - A.length,by omega⟩
   have hd':d' < B.length:=by omega
   have e:(A ++ (B ++ [(⟨kk,(m+A.length - 1:Nat),(m+A.length+B.length - 1:Nat),0⟩:Nd)])).getD (A.length+d') nd0=B.getD d' nd0:=by simp [List.getD,List.getElem?_append,hd',show ¬ (A.length+d' < A.length) by omega]
   rw [e,← Nat.add_assoc]
   exact ihb d' hd'
  ·have ed:d=A.length+B.length:=by simp at hd;omega
   subst ed
   have e:(A ++ (B ++ [(⟨kk,(m+A.length - 1:Nat),(m+A.length+B.length - 1:Nat),0⟩:Nd)])).getD (A.length+B.length) nd0=⟨kk,(m+A.length - 1:Nat),(m+A.length+B.length - 1:Nat),0⟩:=by simp [List.getD]
   rw [e]
   unfold nodeErr chkN
   rw [if_pos (by dsimp only;omega),if_neg (by dsimp only;omega),if_neg (by dsimp only;omega),if_neg (by dsimp only;omega)]
def untilF:List Nd:=[⟨2,0,0,0⟩,⟨2,0,0,1⟩,⟨7,0,1,0⟩]
theorem until_any (w:World) :
  Calls Tryz.prog 52 #[] w fun e w'=>∃ g,e=.returned (.slice (some ⟨g,0,none⟩) 3 3)∧NodeSl w' (.slice (some ⟨g,0,none⟩) 3 3) untilF∧Below w.heap.size w w':=by
 go_enter Tryz.func52,Tryz.ntmps52
 go_wp2_with (fail)
 go_ret
 refine ⟨w.heap.size,rfl,⟨_,_,rfl,by decide,Or.inr ⟨w.heap.size,0,rfl,fun i hi=>?_⟩,(fun h=>by cases h),by decide⟩,(by repeat (first | exact Below.refl _ _ | assumption | refine below_drewN ?_ _ | refine Below.drew ?_ | refine Below.alloc ?_ (by simp <;> omega) _ | refine below_trans ?_ (by assumption)))⟩
 have hb:=heap_alloc_new w (Obj.cells #[.int .i64 2,.int .i64 0,.int .i64 0,.int .i64 0,.int .i64 2,.int .i64 0,.int .i64 0,.int .i64 1,.int .i64 7,.int .i64 0,.int .i64 1,.int .i64 0] 55)
 have h3:i=0 ∨ i=1 ∨ i=2:=by simp [untilF] at hi;omega
 rcases h3 with rfl | rfl | rfl
 ·exact ⟨cell_of_row _ _ 0 _ _ _ hb,cell_of_row _ _ 1 _ _ _ hb,cell_of_row _ _ 2 _ _ _ hb,cell_of_row _ _ 3 _ _ _ hb⟩
 ·exact ⟨cell_of_row _ _ 4 _ _ _ hb,cell_of_row _ _ 5 _ _ _ hb,cell_of_row _ _ 6 _ _ _ hb,cell_of_row _ _ 7 _ _ _ hb⟩
 ·exact ⟨cell_of_row _ _ 8 _ _ _ hb,cell_of_row _ _ 9 _ _ _ hb,cell_of_row _ _ 10 _ _ _ hb,cell_of_row _ _ 11 _ _ _ hb⟩
theorem untilChk:chkT untilF [1,2] [0]=0:=by decide +kernel
theorem untilTab:tabF untilF [1,2] [0]=[[true,false,false],[false,true,false],[true,true,false]]:=by decide +kernel
theorem ints_cells {w:World}{g:Nat}{zs:List Int} (h:w.heap[g]?=some (.cells (zs.map (Value.int .i64)).toArray 3)) (hl:zs.length≤100):IntSl w (.slice (some ⟨g,0,none⟩) zs.length zs.length) zs:=
 ⟨_,_,rfl,by unfold maxLen;omega,Or.inr ⟨g,0,rfl,fun i hi=>by rw [Nat.zero_add,cell_of_row w g i _ _ _ h];simp [List.getD,hi]⟩,(fun h=>by cases h),Nat.le_refl _⟩
theorem GridSl.rows {w:World}{v:Value}{T:List (List Bool)}{N:Nat} (h:GridSl w v T) (hT:0 < T.length) (hN:0 < N) (hl:∀ j,j < T.length→(T.getD j []).length=N) :
  ∃ R c,v=.slice (some ⟨R,0,none⟩) T.length c∧∀ j,j < T.length→∃ b o c',w.cell? ⟨R,j,none⟩=some (.slice (some ⟨b,o,none⟩) N c')∧∀ p,p < N→w.cell? ⟨b,o+p,none⟩=some (.bool ((T.getD j []).getD p false)):=by
 obtain ⟨ad,c,rfl,hm,hg⟩:=h
 rcases hg with hg | ⟨R,rfl,hc⟩
 ·subst hg;simp at hT
 ·refine ⟨R,c,rfl,fun j hj=>?_⟩
  obtain ⟨a,n,c',h1,h2⟩:=hc j hj
  have hlen:=hl j hj
  obtain ⟨a',cap,he,_,hz,_⟩:=h2
  injection he with e1 e2 e3
  rcases hz with hz | ⟨b,o,e4,hcell⟩
  ·rw [hz] at hlen;simp at hlen;omega
  ·refine ⟨b,o,c',?_,fun p hpp=>hcell p (by omega)⟩
   rw [h1,e1,e4,e2,hlen]
theorem holdsBegun_any (w:World) :
  Calls Tryz.prog 10 #[] w fun e w'=>e=.returned (.bool true)∧Below w.heap.size w w':=by
 have HH:Hid (∀ (W:World) (g h l:Nat),NodeSl W (.slice (some ⟨g,0,none⟩) 3 3) untilF→W.heap[h]?=some (Obj.cells #[.int .i64 1,.int .i64 2] 3)→W.heap[l]?=some (Obj.cells #[.int .i64 0] 3)→Calls Tryz.prog 40 #[.slice (some ⟨g,0,none⟩) 3 3,.agg #[.slice (some ⟨h,0,none⟩) 2 2,.slice (some ⟨l,0,none⟩) 1 1]] W fun e w'=>e=.returned (.tuple #[.bool true,.int .i64 0])∧Below W.heap.size W w'):=by
  refine hide fun W g h l hn hh hl=>?_
  refine (holds_any (hs:=[1,2]) (ls:=[0]) hn (ints_cells (zs:=[1,2]) hh (by decide)) (ints_cells (zs:=[0]) hl (by decide))).mono ?_
  rintro e w' ⟨rfl,hb⟩
  rw [untilChk,untilTab]
  exact ⟨rfl,hb⟩
 have HT:Hid (∀ (W:World) (g h l:Nat),NodeSl W (.slice (some ⟨g,0,none⟩) 3 3) untilF→W.heap[h]?=some (Obj.cells #[.int .i64 1,.int .i64 2] 3)→W.heap[l]?=some (Obj.cells #[.int .i64 0] 3)→Calls Tryz.prog 23 #[.slice (some ⟨g,0,none⟩) 3 3,.agg #[.slice (some ⟨h,0,none⟩) 2 2,.slice (some ⟨l,0,none⟩) 1 1]] W fun e w'=>∃ R c b o c',e=.returned (.tuple #[.slice (some ⟨R,0,none⟩) 3 c,.int .i64 0])∧w'.cell? ⟨R,2,none⟩=some (.slice (some ⟨b,o,none⟩) 3 c')∧w'.cell? ⟨b,o,none⟩=some (.bool true)∧w'.cell? ⟨b,o+1,none⟩=some (.bool true)∧w'.cell? ⟨b,o+2,none⟩=some (.bool false)∧Below W.heap.size W w'):=by
  refine hide fun W g h l hn hh hl=>?_
  refine (table_any (hs:=[1,2]) (ls:=[0]) hn (ints_cells (zs:=[1,2]) hh (by decide)) (ints_cells (zs:=[0]) hl (by decide))).mono ?_
  rintro e w' ⟨v,rfl,hg,-,hb⟩
  rw [untilChk]
  have hg':=hg untilChk
  rw [untilTab] at hg'
  obtain ⟨R,c,rfl,hr⟩:=hg'.rows (N:=3) (by decide) (by decide) (by decide)
  obtain ⟨b,o,c',h1,h2⟩:=hr 2 (by decide)
  exact ⟨R,c,b,o,c',rfl,h1,h2 0 (by decide),h2 1 (by decide),h2 2 (by decide),hb⟩
 go_enter Tryz.func10,Tryz.ntmps10
 go_wp2_with (fail)
 obtain ⟨W0,hW0⟩:∃ W0,W0=((w.alloc (Obj.cells #[.int .i64 1,.int .i64 2] 3)).alloc (Obj.cells #[.int .i64 0] 3)).alloc (Obj.cells #[.slice (some ⟨w.heap.size,0,none⟩) 2 2,.slice (some ⟨w.heap.size+1,0,none⟩) 1 1] 28):=⟨_,rfl⟩
 have hbW:Below w.heap.size w W0:=by rw [hW0];exact (by repeat (first | exact Below.refl _ _ | assumption | refine below_drewN ?_ _ | refine Below.drew ?_ | refine Below.alloc ?_ (by simp <;> omega) _ | refine below_trans ?_ (by assumption)))
 have x0:=heap_alloc_new w (Obj.cells #[.int .i64 1,.int .i64 2] 3)
 have x1:=heap_alloc_new (w.alloc (Obj.cells #[.int .i64 1,.int .i64 2] 3)) (Obj.cells #[.int .i64 0] 3)
 have x2:=heap_alloc_new ((w.alloc (Obj.cells #[.int .i64 1,.int .i64 2] 3)).alloc (Obj.cells #[.int .i64 0] 3)) (Obj.cells #[.slice (some ⟨w.heap.size,0,none⟩) 2 2,.slice (some ⟨w.heap.size+1,0,none⟩) 1 1] 28)
 simp only [World.size_alloc] at x1 x2
 have x0:=heap_under (Obj.cells #[.slice (some ⟨w.heap.size,0,none⟩) 2 2,.slice (some ⟨w.heap.size+1,0,none⟩) 1 1] 28) (heap_under (Obj.cells #[.int .i64 0] 3) x0)
 have x1:=heap_under (Obj.cells #[.slice (some ⟨w.heap.size,0,none⟩) 2 2,.slice (some ⟨w.heap.size+1,0,none⟩) 1 1] 28) x1
 rw [← hW0] at x0 x1 x2 ⊢
 clear hW0
 have HB0:=hide hbW
 clear hbW
 generalize w.heap.size+1+1=P at *
 generalize w.heap.size+1=B at *
 generalize hA:w.heap.size=A at *
 have HA:=hide hA
 clear hA
 have d0:Hid (W0.heap[A]?=some (Obj.cells #[.int .i64 1,.int .i64 2] 3)∧W0.heap[B]?=some (Obj.cells #[.int .i64 0] 3)):=hide ⟨x0,x1⟩
 have s0:W0.cell? ⟨P,0,none⟩=some (.slice (some ⟨A,0,none⟩) 2 2)∧W0.cell? ⟨P,1,none⟩=some (.slice (some ⟨B,0,none⟩) 1 1):=⟨cell_of_row _ _ 0 _ _ _ x2,cell_of_row _ _ 1 _ _ _ x2⟩
 clear x0 x1 x2
 go_region_held3 (fun w'=>w'.cell? ⟨P,0,none⟩=some (.slice (some ⟨A,0,none⟩) 2 2)∧w'.cell? ⟨P,1,none⟩=some (.slice (some ⟨B,0,none⟩) 1 1)) ((first | (with_reducible exact sw3) | (with_reducible exact sw2) | (with_reducible exact s0) | (exact s0))) (first | (go_at_call 52;refine (until_any _).mono ?_;rintro e w2 ⟨g2,rfl,hnw2,hbw2⟩;have dw2:Hid (w2.heap[A]?=some (Obj.cells #[.int .i64 1,.int .i64 2] 3)∧w2.heap[B]?=some (Obj.cells #[.int .i64 0] 3)):=hide ⟨block_keep (heap_drew d0.out.1) hbw2,block_keep (heap_drew d0.out.2) hbw2⟩;have sw2:w2.cell? ⟨P,0,none⟩=some (.slice (some ⟨A,0,none⟩) 2 2)∧w2.cell? ⟨P,1,none⟩=some (.slice (some ⟨B,0,none⟩) 1 1):=⟨cell_keep (cell_drew s0.1) hbw2,cell_keep (cell_drew s0.2) hbw2⟩) | (go_at_call 40;refine (HH.out _ _ _ _ hnw2 dw2.out.1 dw2.out.2).mono ?_;rintro e w3 ⟨rfl,hbw3⟩;have dw3:Hid (w3.heap[A]?=some (Obj.cells #[.int .i64 1,.int .i64 2] 3)∧w3.heap[B]?=some (Obj.cells #[.int .i64 0] 3)):=hide ⟨block_keep dw2.out.1 hbw3,block_keep dw2.out.2 hbw3⟩;have sw3:w3.cell? ⟨P,0,none⟩=some (.slice (some ⟨A,0,none⟩) 2 2)∧w3.cell? ⟨P,1,none⟩=some (.slice (some ⟨B,0,none⟩) 1 1):=⟨cell_keep sw2.1 hbw3,cell_keep sw2.2 hbw3⟩))
 have hb0:Below w.heap.size w W0:=by rw [HA.out];exact HB0.out
 have hB3:=below_trans hb0 (below_trans (below_trans (below_drawn W0 1) hbw2) hbw3)
 have HB3:=hide hB3
 clear hB3 hb0 hbw2 hbw3 hnw2 sw2 dw2 s0 d0
 go_wp2_with (fail)
 go_region_held3 (fun w'=>w'.cell? ⟨P,0,none⟩=some (.slice (some ⟨A,0,none⟩) 2 2)∧w'.cell? ⟨P,1,none⟩=some (.slice (some ⟨B,0,none⟩) 1 1)) ((first | (with_reducible exact sw5) | (with_reducible exact sw4) | (with_reducible exact sw3) | (exact sw3))) (first | (go_at_call 52;refine (until_any _).mono ?_;rintro e w4 ⟨g4,rfl,hnw4,hbw4⟩;have dw4:Hid (w4.heap[A]?=some (Obj.cells #[.int .i64 1,.int .i64 2] 3)∧w4.heap[B]?=some (Obj.cells #[.int .i64 0] 3)):=hide ⟨block_keep (heap_drew dw3.out.1) hbw4,block_keep (heap_drew dw3.out.2) hbw4⟩;have sw4:w4.cell? ⟨P,0,none⟩=some (.slice (some ⟨A,0,none⟩) 2 2)∧w4.cell? ⟨P,1,none⟩=some (.slice (some ⟨B,0,none⟩) 1 1):=⟨cell_keep (cell_drew sw3.1) hbw4,cell_keep (cell_drew sw3.2) hbw4⟩) | (go_at_call 23;refine (HT.out _ _ _ _ hnw4 dw4.out.1 dw4.out.2).mono ?_;rintro e w5 ⟨R,tc,rb,ro,rc,rfl,z0,z1,z2,z3,hbw5⟩;have dw5:Hid (w5.heap[A]?=some (Obj.cells #[.int .i64 1,.int .i64 2] 3)∧w5.heap[B]?=some (Obj.cells #[.int .i64 0] 3)):=hide ⟨block_keep dw4.out.1 hbw5,block_keep dw4.out.2 hbw5⟩;have sw5:w5.cell? ⟨P,0,none⟩=some (.slice (some ⟨A,0,none⟩) 2 2)∧w5.cell? ⟨P,1,none⟩=some (.slice (some ⟨B,0,none⟩) 1 1):=⟨cell_keep sw4.1 hbw5,cell_keep sw4.2 hbw5⟩))
 have hB5:=below_trans HB3.out (below_trans (below_trans (below_drawn w3 1) hbw4) hbw5)
 clear hbw4 hbw5 hnw4 sw4 dw4 sw3 dw3
 go_wp2_with (fail)
 go_ret
 exact ⟨rfl,hB5⟩
theorem chkFrom_well {F:List Nd} (hF:AllOk F):∀ d m,m+d=F.length→chkFrom (F.drop m) m=0
 | 0,m,h=>chkFrom_end F m (by omega)
 | d+1,m,h=>by
  rw [chkFrom_drop F m (by omega),if_pos (hF m (by omega))]
  exact chkFrom_well hF d (m+1) (by omega)
def negBig (F:List Nd):Bool:=decide (12 < (negF F).length ∨ 4 < cntT (negF F))
theorem chk_neg {F:List Nd} (hF:AllOk F) (hn:0 < F.length):chkF (negF F)=if negBig F=true then 2 else 0:=by
 have hok:AllOk (negF F):=fun d hd=>by
  have:=fl_right hF (F.length - 1) (by omega) true 0 d hd
  rwa [Nat.zero_add] at this
 have hp:0 < (negF F).length:=(fl_len hF (F.length - 1) (by omega) true 0).2.1
 have hr:=chkFrom_well hok (negF F).length 0 (by omega)
 unfold chkF negBig
 rw [if_neg (by omega)]
 by_cases h:12 < (negF F).length ∨ 4 < cntT (negF F)
 ·rw [if_pos h,if_pos (decide_eq_true h)]
 ·rw [if_neg h,if_neg (by simpa using h)]
  exact hr
def NegOf (F:List Nd) (big:Bool) (w:World) (e:Ending) (w':World):Prop:=∃ v',e=.returned (.tuple #[v',.int .i64 (if big=true then 2 else 0)])∧(big=false→NodeSl w' v' (negF F))∧(big=true→v'=.slice none 0 0)∧Below w.heap.size w w'
theorem negateOf_any {w:World}{v:Value}{F:List Nd} (hv:NodeSl w v F) (hq:chkF F=0) :
  Calls Tryz.prog 38 #[v] w fun e w'=>NegOf F (negBig F) w e w':=by
 obtain ⟨hM0,h12,hall⟩:=chkF_ok hq
 have HV:=hide hv
 have hlen:=nt_len hall (F.length - 1) (by omega) true
 have hpw:2 ^ (F.length - 1)≤2 ^ 11:=Nat.pow_le_pow_right (by decide) (by omega)
 have hT:(nt F (F.length - 1) true).length≤30000:=by omega
 have HN:Hid (NegOk F (F.length - 1) true):=hide (neg_any hall h12 (F.length - 1) (by omega) true)
 have hfl:=(fl_len hall (F.length - 1) (by omega) true 0).2.2
 have hpw2:2 ^ (F.length - 1+2)≤2 ^ 13:=Nat.pow_le_pow_right (by decide) (by omega)
 have HR:Hid (∀ W,Calls Tryz.prog 85 #[.slice none 0 0,.string ⟨(nt F (F.length - 1) true).toArray⟩,.int .i64 0] W fun e w'=>∃ a' c',e=.returned (.tuple #[.slice a' (negF F).length c',.int .i64 (nt F (F.length - 1) true).length,.bool true])∧NodeSl w' (.slice a' (negF F).length c') (negF F)∧Below W.heap.size W w'):=hide fun W=>by
  have hr:=ref_fl hall hT (F.length - 1) (by omega) true 0 (fun j hj=>by rw [Nat.zero_add])
  have:=hr W W.heap.size none 0 [] (World.ownsRow_nil _ _ _ _) (Nat.le_refl _) (by show 0+(fl F (F.length - 1) true 0).length≤100000;omega)
  refine this.mono ?_
  rintro e w' ⟨a',c',rfl,ho,hb⟩
  refine ⟨a',c',?_,nodeSl_of_owns ho,hb⟩
  rw [Nat.zero_add]
  rfl
 have HTM:Hid (∀ W v,NodeSl W v (negF F)→Calls Tryz.prog 82 #[v] W fun e w'=>e=.returned (.bool (negBig F))∧Below W.heap.size W w'):=hide fun W v h=>tooMany_any h
 have hi0:((F.length - 1:Nat):Int)=(F.length:Int) - 1:=by omega
 unfold NegOk at HN
 rw [hi0] at HN
 obtain ⟨a,cap,rfl,hm,-⟩:=hv
 generalize nt F (F.length - 1) true=T at *
 generalize negBig F=big at *
 clear hi0 hpw hlen hfl hpw2 hall hT hq
 go_enter Tryz.func38,Tryz.ntmps38
 go_wp2_with (fail)
 refine (HN.out _ _ HV.out).mono ?_
 rintro e w1 ⟨rfl,hb1⟩
 have HB1:=hide hb1
 clear hb1 HN
 go_wp2_with (fail)
 refine (HR.out _).mono ?_
 rintro e w2 ⟨a2,c2,rfl,hn2,hb2⟩
 have HB2:=hide (below_trans HB1.out hb2)
 have HN2:=hide hn2
 clear hb2 hn2 HB1 HR
 go_wp2_with (fail)
 refine (HTM.out _ _ HN2.out).mono ?_
 rintro e w3 ⟨rfl,hb3⟩
 have HB3:=hide (below_trans HB2.out hb3)
 have HN3:=hide (HN2.out.below hb3)
 clear hb3 HTM HB2 HN2
 cases big
 ·go_wp2_with (fail)
  go_ret2
  exact ⟨_,rfl,fun _=>HN3.out,fun h=>(by cases h),HB3.out⟩
 ·go_wp2_with (fail)
  go_ret2
  exact ⟨_,rfl,fun h=>(by cases h),fun _=>rfl,HB3.out⟩
theorem modelHolds_any {w:World}{v gv hv lv:Value}{M:Mdl}{F:List Nd}{hs ls:List Int} (hV:MdV w v M) (hF:NodeSl w gv F) (hh:IntSl w hv hs) (hl:IntSl w lv ls) (hbf:M.first.length * 8≤140737488355328) (hbr:∀ r ∈ M.steps,r.length * 8≤140737488355328) :
  Calls Tryz.prog 5 #[v,gv,.agg #[hv,lv]] w fun e w'=>e=.returned (.bool true)∧Below w.heap.size w w':=by
 have HH:=hide (fun (W:World) (hb:Below w.heap.size w W)=>mHolds_any (hV.below hb) (hF.below hb) hbf hbr)
 have HCM:=hide (fun (W:World) (hb:Below w.heap.size w W)=>checkModelR_any (hV.below hb))
 have HCF:=hide (fun (W:World) (hb:Below w.heap.size w W)=>checkFormula_any (hF.below hb))
 have HNG:Hid (chkF F=0→∀ W,Below w.heap.size w W→Calls Tryz.prog 38 #[gv] W fun e w'=>∃ q l k,e=.returned (.tuple #[.slice q l k,.int .i64 (chkNeg F)])∧Below W.heap.size W w'):=hide fun hc W hb=>by
  refine (negateOf_any (hF.below hb) hc).mono ?_
  rintro e w' ⟨v',rfl,h1,h2,h3⟩
  obtain ⟨n1,_,n3⟩:=chkF_ok hc
  have e1:chkNeg F=if negBig F=true then 2 else 0:=by unfold chkNeg;rw [if_pos hc,chk_neg n3 n1]
  rw [e1]
  cases hbg:negBig F with
  | true =>
   obtain rfl:=h2 hbg
   exact ⟨_,_,_,rfl,h3⟩
  | false =>
   obtain ⟨q,k,rfl,-⟩:=h1 hbg
   exact ⟨_,_,_,rfl,h3⟩
 have HCL:Hid (∀ W xv yv us vs,IntSl W xv us→IntSl W yv vs→Calls Tryz.prog 39 #[.agg #[xv,yv],.int .i64 8] W fun e w'=>e=.returned (.int .i64 (chk us vs 8))∧Below W.heap.size W w'):=hide fun W xv yv us vs h1 h2=>checkLasso_any 8 h1 h2
 have HGo:Hid (chkM M=0→∀ W xv yv us vs (b:Bool),Below w.heap.size w W→IntSl W xv us→IntSl W yv vs→chk us vs 8=0→(b=true ↔ goesM M (lat us vs) (farM M us vs))→Calls Tryz.prog 35 #[v,.agg #[xv,yv]] W fun e w'=>e=.returned (.bool b)∧Below W.heap.size W w'):=hide fun hc W xv yv us vs b hb h1 h2 hk hiff=>by
  obtain ⟨q1,q2,q3,_⟩:=chk_ok hk
  exact goesBy_any (chkM_right hc) (hV.below hb) h1 h2 q1 q2 q3 b hiff
 have HHo:Hid (chkF F=0→∀ W xv yv us vs,Below w.heap.size w W→IntSl W xv us→IntSl W yv vs→chk us vs 8=0→Calls Tryz.prog 40 #[gv,.agg #[xv,yv]] W fun e w'=>e=.returned (.tuple #[.bool (valM F us vs),.int .i64 0])∧Below W.heap.size W w'):=hide fun hc W xv yv us vs hb h1 h2 hk=>by
  have h:=holds_any (hF.below hb) h1 h2
  have e1:chkT F us vs=0:=by unfold chkT;rw [if_pos hc,hk]
  rw [e1,if_pos rfl] at h
  exact h
 have HIl:=hide (And.intro hh hl)
 obtain ⟨lbv,fv,sv,rfl,m1,m2,m4⟩:=hV
 obtain ⟨a1,c1,rfl,-⟩:=m1
 obtain ⟨a2,c2,rfl,-⟩:=m2
 obtain ⟨a3,c3,rfl,-⟩:=m4
 obtain ⟨h1,k1,rfl,-⟩:=hh
 obtain ⟨h2,k2,rfl,-⟩:=hl
 obtain ⟨ga,gc,rfl,-⟩:=hF
 have HE:Hid (chkH M F=if chkM M=0 then chkNeg F else chkM M):=hide rfl
 have HEn:Hid (chkF F ≠ 0→chkNeg F=chkF F):=hide fun h=>by unfold chkNeg;rw [if_neg h]
 generalize chkH M F=ch at *
 generalize chkM M=c at *
 generalize chkNeg F=cn at *
 generalize chkF F=cf at *
 generalize M.props=p at *
 generalize M.labels.length=l1 at *
 generalize M.first.length=l2 at *
 generalize M.steps.length=l3 at *
 generalize hlh:hs.length=lh at *
 generalize hll:ls.length=ll at *
 generalize F.length=lf at *
 clear hbr hbf hlh hll
 have hbm:=below_trans (below_new w (Obj.cells #[.int .i64 p,.slice a1 l1 c1,.slice a2 l2 c2,.slice a3 l3 c3] 59)) (below_new _ (Obj.cells #[.slice h1 lh k1,.slice h2 ll k2] 28))
 have hr1:=belowRow (below_new _ (Obj.cells #[.slice h1 lh k1,.slice h2 ll k2] 28)) (one_new w (Obj.cells #[.int .i64 p,.slice a1 l1 c1,.slice a2 l2 c2,.slice a3 l3 c3] 59))
 have hr2:=one_new (w.alloc (Obj.cells #[.int .i64 p,.slice a1 l1 c1,.slice a2 l2 c2,.slice a3 l3 c3] 59)) (Obj.cells #[.slice h1 lh k1,.slice h2 ll k2] 28)
 rw [show (w.alloc (Obj.cells #[.int .i64 p,.slice a1 l1 c1,.slice a2 l2 c2,.slice a3 l3 c3] 59)).heap.size=w.heap.size+1 by simp] at hr2
 have HW0:=hide (show GoW w (Obj.cells #[.int .i64 p,.slice a1 l1 c1,.slice a2 l2 c2,.slice a3 l3 c3] 59) (Obj.cells #[.slice h1 lh k1,.slice h2 ll k2] 28) ((w.alloc (Obj.cells #[.int .i64 p,.slice a1 l1 c1,.slice a2 l2 c2,.slice a3 l3 c3] 59)).alloc (Obj.cells #[.slice h1 lh k1,.slice h2 ll k2] 28)) from ⟨hbm,hr1,hr2⟩)
 have HLd:=hide (model_load hr1)
 clear hbm hr1 hr2
 go_enter Tryz.func5,Tryz.ntmps5
 go_wp2_with (first | (show wpList _ _ _ (⟨some 15,_,_,_,_,_⟩ :: _) _ _;refine wpl_loadM HLd.out rfl rfl rfl ?_))
 generalize (w.alloc (Obj.cells #[.int .i64 p,.slice a1 l1 c1,.slice a2 l2 c2,.slice a3 l3 c3] 59)).alloc (Obj.cells #[.slice h1 lh k1,.slice h2 ll k2] 28)=W0 at *
 go_fit (HH.out W0 HW0.out.bl)
 rintro e w1 ⟨xv,yv,ok,rfl,ho⟩
 have HW1:=hide (HW0.out.below ho.bl)
 have HO:=hide ho
 clear ho HLd HH
 by_cases hc:c=0
 case neg =>
  have hch:ch=c:=by rw [HE.out,if_neg hc]
  obtain ⟨rfl,rfl,rfl⟩:=HO.out.bad (by rw [hch];exact hc)
  subst hch
  have hd:(ch == 0)=false:=by simpa using hc
  have hd2:(ch != 0)=true:=by simpa using hc
  clear hc HO HE HEn HCF HNG HCL HGo HHo HIl HW0
  have hbn:=below_new w1 (Obj.cells #[.slice none 0 0,.slice none 0 0] 28)
  have HX1:=hide (one_new w1 (Obj.cells #[.slice none 0 0,.slice none 0 0] 28))
  have HW1b:=hide (HW1.out.below hbn)
  have HLd:=hide (model_load HW1b.out.m)
  clear hbn HW1
  go_wp2_with (first | (show wpList _ _ _ (⟨some 21,_,_,_,_,_⟩ :: _) _ _;refine wpl_loadM HLd.out rfl rfl rfl ?_))
  generalize w1.alloc (Obj.cells #[.slice none 0 0,.slice none 0 0] 28)=W1 at *
  generalize w1.heap.size=g at *
  go_fit (HCM.out W1 HW1b.out.bl)
  rintro e w2 ⟨rfl,hb2⟩
  have HW2:=hide (HW1b.out.below hb2)
  have HX2:=hide (belowRow hb2 HX1.out)
  clear hb2 HW1b HX1 HLd HCM
  go_wp2_with (fail)
  go_fit (modelBegun_any w2)
  rintro e w3 ⟨rfl,hb3⟩
  have HW3:=hide (HW2.out.below hb3)
  have HX3:=hide (belowRow hb3 HX2.out)
  clear hb3 HW2 HX2
  go_wp2_with (fail)
  go_fit (holdsBegun_any w3)
  rintro e w4 ⟨rfl,hb4⟩
  have HW4:=hide (HW3.out.below hb4)
  have HX4:=hide (belowRow hb4 HX3.out)
  clear hb4 HW3 HX3
  have y1:=cell_of_row _ _ 1 _ _ _ HX4.out
  go_wp2
  go_ret
  exact ⟨rfl,HW4.out.bl⟩
 subst hc
 have HE2:Hid (ch=cn):=hide (by rw [HE.out,if_pos rfl])
 clear HE
 by_cases hf:cf=0
 case neg =>
  have hch:ch=cf:=by rw [HE2.out,HEn.out hf]
  obtain ⟨rfl,rfl,rfl⟩:=HO.out.bad (by rw [hch];exact hf)
  subst hch
  have hd:(ch == 0)=false:=by simpa using hf
  have hd2:(ch != 0)=true:=by simpa using hf
  clear hf HO HE2 HEn HNG HCL HGo HHo HIl HW0
  have hbn:=below_new w1 (Obj.cells #[.slice none 0 0,.slice none 0 0] 28)
  have HX1:=hide (one_new w1 (Obj.cells #[.slice none 0 0,.slice none 0 0] 28))
  have HW1b:=hide (HW1.out.below hbn)
  have HLd:=hide (model_load HW1b.out.m)
  clear hbn HW1
  go_wp2_with (first | (show wpList _ _ _ (⟨some 21,_,_,_,_,_⟩ :: _) _ _;refine wpl_loadM HLd.out rfl rfl rfl ?_))
  generalize w1.alloc (Obj.cells #[.slice none 0 0,.slice none 0 0] 28)=W1 at *
  generalize w1.heap.size=g at *
  go_fit (HCM.out W1 HW1b.out.bl)
  rintro e w2 ⟨rfl,hb2⟩
  have HW2:=hide (HW1b.out.below hb2)
  have HX2:=hide (belowRow hb2 HX1.out)
  clear hb2 HW1b HX1 HLd HCM
  go_wp2_with (fail)
  go_fit (HCF.out w2 HW2.out.bl)
  rintro e w3 ⟨rfl,hb3⟩
  have HW3:=hide (HW2.out.below hb3)
  have HX3:=hide (belowRow hb3 HX2.out)
  clear hb3 HW2 HX2 HCF
  go_wp2_with (fail)
  go_fit (modelBegun_any w3)
  rintro e w4 ⟨rfl,hb4⟩
  have HW4:=hide (HW3.out.below hb4)
  have HX4:=hide (belowRow hb4 HX3.out)
  clear hb4 HW3 HX3
  go_wp2_with (fail)
  go_fit (holdsBegun_any w4)
  rintro e w5 ⟨rfl,hb5⟩
  have HW5:=hide (HW4.out.below hb5)
  have HX5:=hide (belowRow hb5 HX4.out)
  clear hb5 HW4 HX4
  have y1:=cell_of_row _ _ 1 _ _ _ HX5.out
  go_wp2
  go_ret
  exact ⟨rfl,HW5.out.bl⟩
 subst hf
 have HNG':=hide (HNG.out rfl)
 have HHo':=hide (HHo.out rfl)
 have HGo':=hide (HGo.out rfl)
 clear HNG HHo HGo HEn
 by_cases hn:cn=0
 case neg =>
  have hch:ch=cn:=HE2.out
  obtain ⟨rfl,rfl,rfl⟩:=HO.out.bad (by rw [hch];exact hn)
  subst hch
  have hd:(ch == 0)=false:=by simpa using hn
  have hd2:(ch != 0)=true:=by simpa using hn
  clear hn HO HE2 HCL HGo' HHo' HIl HW0
  have hbn:=below_new w1 (Obj.cells #[.slice none 0 0,.slice none 0 0] 28)
  have HX1:=hide (one_new w1 (Obj.cells #[.slice none 0 0,.slice none 0 0] 28))
  have HW1b:=hide (HW1.out.below hbn)
  have HLd:=hide (model_load HW1b.out.m)
  clear hbn HW1
  go_wp2_with (first | (show wpList _ _ _ (⟨some 21,_,_,_,_,_⟩ :: _) _ _;refine wpl_loadM HLd.out rfl rfl rfl ?_))
  generalize w1.alloc (Obj.cells #[.slice none 0 0,.slice none 0 0] 28)=W1 at *
  generalize w1.heap.size=g at *
  go_fit (HCM.out W1 HW1b.out.bl)
  rintro e w2 ⟨rfl,hb2⟩
  have HW2:=hide (HW1b.out.below hb2)
  have HX2:=hide (belowRow hb2 HX1.out)
  clear hb2 HW1b HX1 HLd HCM
  go_wp2_with (fail)
  go_fit (HCF.out w2 HW2.out.bl)
  rintro e w3 ⟨rfl,hb3⟩
  have HW3:=hide (HW2.out.below hb3)
  have HX3:=hide (belowRow hb3 HX2.out)
  clear hb3 HW2 HX2 HCF
  go_wp2_with (fail)
  go_fit (HNG'.out w3 HW3.out.bl)
  rintro e w4 ⟨n1,n2,n3,rfl,hb4⟩
  have HW4:=hide (HW3.out.below hb4)
  have HX4:=hide (belowRow hb4 HX3.out)
  clear hb4 HW3 HX3 HNG'
  go_wp2_with (fail)
  go_fit (modelBegun_any w4)
  rintro e w5 ⟨rfl,hb5⟩
  have HW5:=hide (HW4.out.below hb5)
  have HX5:=hide (belowRow hb5 HX4.out)
  clear hb5 HW4 HX4
  go_wp2_with (fail)
  go_fit (holdsBegun_any w5)
  rintro e w6 ⟨rfl,hb6⟩
  have HW6:=hide (HW5.out.below hb6)
  have HX6:=hide (belowRow hb6 HX5.out)
  clear hb6 HW5 HX5
  have y1:=cell_of_row _ _ 1 _ _ _ HX6.out
  go_wp2
  go_ret
  exact ⟨rfl,HW6.out.bl⟩
 subst hn
 have hch:ch=0:=HE2.out
 subst hch
 have HG:=hide (HO.out.good rfl)
 clear HE2 HO HW0
 cases ok with
 | true =>
  obtain ⟨rfl,rfl,hall⟩:=HG.out.yes rfl
  have HAll:=hide hall
  clear hall HG
  have hbn:=below_new w1 (Obj.cells #[.slice none 0 0,.slice none 0 0] 28)
  have HX1:=hide (one_new w1 (Obj.cells #[.slice none 0 0,.slice none 0 0] 28))
  have HW1b:=hide (HW1.out.below hbn)
  have HLd:=hide (model_load HW1b.out.m)
  clear hbn HW1
  go_wp2_with (first | (show wpList _ _ _ (⟨some 21,_,_,_,_,_⟩ :: _) _ _;refine wpl_loadM HLd.out rfl rfl rfl ?_))
  generalize w1.alloc (Obj.cells #[.slice none 0 0,.slice none 0 0] 28)=W1 at *
  generalize w1.heap.size=g at *
  go_fit (HCM.out W1 HW1b.out.bl)
  rintro e w2 ⟨rfl,hb2⟩
  have HW2:=hide (HW1b.out.below hb2)
  have HX2:=hide (belowRow hb2 HX1.out)
  clear hb2 HW1b HX1 HLd HCM
  go_wp2_with (fail)
  go_fit (HCF.out w2 HW2.out.bl)
  rintro e w3 ⟨rfl,hb3⟩
  have HW3:=hide (HW2.out.below hb3)
  have HX3:=hide (belowRow hb3 HX2.out)
  clear hb3 HW2 HX2 HCF
  go_wp2_with (fail)
  go_fit (HNG'.out w3 HW3.out.bl)
  rintro e w4 ⟨n1,n2,n3,rfl,hb4⟩
  have HW4:=hide (HW3.out.below hb4)
  have HX4:=hide (belowRow hb4 HX3.out)
  clear hb4 HW3 HX3 HNG'
  go_wp2_with (fail)
  go_fit (modelBegun_any w4)
  rintro e w5 ⟨rfl,hb5⟩
  have HW5:=hide (HW4.out.below hb5)
  have HX5:=hide (belowRow hb5 HX4.out)
  clear hb5 HW4 HX4
  go_wp2_with (fail)
  go_fit (holdsBegun_any w5)
  rintro e w6 ⟨rfl,hb6⟩
  have HW6:=hide (HW5.out.below hb6)
  have HX6:=hide (belowRow hb6 HX5.out)
  clear hb6 HW5 HX5
  have y0:=cell_of_row _ _ 0 _ _ _ HX6.out
  have y1:=cell_of_row _ _ 1 _ _ _ HX6.out
  have r0:=cell_of_row _ _ 0 _ _ _ HW6.out.l
  have r1:=cell_of_row _ _ 1 _ _ _ HW6.out.l
  have HK:=hide (HCL.out w6 _ _ hs ls (HIl.out.1.below HW6.out.bl) (HIl.out.2.below HW6.out.bl))
  have HAk:Hid (∀ W,Below w.heap.size w W→chk hs ls 8=0→∀ b:Bool,(b=true ↔ goesM M (lat hs ls) (farM M hs ls))→Calls Tryz.prog 35 #[.agg #[.int .i64 p,.slice a1 l1 c1,.slice a2 l2 c2,.slice a3 l3 c3],.agg #[.slice h1 lh k1,.slice h2 ll k2]] W fun e w'=>e=.returned (.bool b)∧Below W.heap.size W w'):=hide fun W hb hk b hb2=>HGo'.out W _ _ hs ls b hb (HIl.out.1.below hb) (HIl.out.2.below hb) hk hb2
  have HAh:Hid (∀ W,Below w.heap.size w W→chk hs ls 8=0→goesM M (lat hs ls) (farM M hs ls)→Calls Tryz.prog 40 #[.slice ga lf gc,.agg #[.slice h1 lh k1,.slice h2 ll k2]] W fun e w'=>e=.returned (.tuple #[.bool true,.int .i64 0])∧Below W.heap.size W w'):=hide fun W hb hk hg=>by
   have h:=HHo'.out W _ _ hs ls hb (HIl.out.1.below hb) (HIl.out.2.below hb) hk
   rw [HAll.out hs ls hk hg] at h
   exact h
  obtain ⟨bg,hbg⟩:∃ bg:Bool,(bg=true ↔ goesM M (lat hs ls) (farM M hs ls)):=by
   by_cases h:goesM M (lat hs ls) (farM M hs ls)
   ·exact ⟨true,by simp [h]⟩
   ·exact ⟨false,by simp [h]⟩
  have HBG:=hide hbg
  generalize chk hs ls 8=ck at *
  clear HGo' HHo' HCL HIl HAll hbg
  go_wp2_with (fail)
  go_fit HK.out
  rintro e w7 ⟨rfl,hb7⟩
  have HW7:=hide (HW6.out.below hb7)
  have HX7:=hide (belowRow hb7 HX6.out)
  clear y0 y1 r0 r1 hb7 HK HW6 HX6
  have y0:=cell_of_row _ _ 0 _ _ _ HX7.out
  have y1:=cell_of_row _ _ 1 _ _ _ HX7.out
  have r0:=cell_of_row _ _ 0 _ _ _ HW7.out.l
  have r1:=cell_of_row _ _ 1 _ _ _ HW7.out.l
  have m0:=cell_of_row _ _ 0 _ _ _ HW7.out.m
  have m1:=cell_of_row _ _ 1 _ _ _ HW7.out.m
  have m2:=cell_of_row _ _ 2 _ _ _ HW7.out.m
  have m3:=cell_of_row _ _ 3 _ _ _ HW7.out.m
  by_cases hk:ck=0
  case neg =>
   have hd:(ck != 0)=true:=by simpa using hk
   have HB:=hide HW7.out.bl
   clear hk HAk HAh
   go_wp2
   go_ret
   exact ⟨rfl,HB.out⟩
  subst hk
  have HGG:=hide (HAk.out w7 HW7.out.bl (by first | rfl | trivial) bg HBG.out)
  go_wp2_with (fail)
  go_fit HGG.out
  rintro e w8 ⟨rfl,hb8⟩
  have HW8:=hide (HW7.out.below hb8)
  have HX8:=hide (belowRow hb8 HX7.out)
  clear y0 y1 r0 r1 m0 m1 m2 m3 hb8 HGG HW7 HX7
  have y0:=cell_of_row _ _ 0 _ _ _ HX8.out
  have y1:=cell_of_row _ _ 1 _ _ _ HX8.out
  have r0:=cell_of_row _ _ 0 _ _ _ HW8.out.l
  have r1:=cell_of_row _ _ 1 _ _ _ HW8.out.l
  cases bg with
  | false =>
   have HB:=hide HW8.out.bl
   clear HAk HAh HBG
   go_wp2
   go_ret
   exact ⟨rfl,HB.out⟩
  | true =>
   have HGG:=hide (HAh.out w8 HW8.out.bl (by first | rfl | trivial) (HBG.out.1 rfl))
   clear HAk HAh HBG
   go_wp2_with (fail)
   go_fit HGG.out
   rintro e w9 ⟨rfl,hb9⟩
   have HB:=hide (below_trans HW8.out.bl hb9)
   clear y0 y1 r0 r1 hb9 HGG HW8 HX8
   go_wp2
   go_ret
   exact ⟨rfl,HB.out⟩
 | false =>
  obtain ⟨us,vs,i1,i2,hk,hgo,hval⟩:=HG.out.no rfl
  have HIx:=hide (And.intro i1 i2)
  have HKx:=hide hk
  have HGx:=hide hgo
  have HVx:=hide hval
  obtain ⟨u1,u2,rfl,-⟩:=i1
  obtain ⟨u3,u4,rfl,-⟩:=i2
  generalize us.length=lu at *
  generalize vs.length=lw at *
  clear hk hgo hval HG
  have hbn:=below_new w1 (Obj.cells #[.slice u1 lu u2,.slice u3 lw u4] 28)
  have HX1:=hide (one_new w1 (Obj.cells #[.slice u1 lu u2,.slice u3 lw u4] 28))
  have HW1b:=hide (HW1.out.below hbn)
  have HI1:=hide (And.intro (HIx.out.1.below hbn) (HIx.out.2.below hbn))
  have HLd:=hide (model_load HW1b.out.m)
  clear hbn HW1 HIx
  go_wp2_with (first | (show wpList _ _ _ (⟨some 21,_,_,_,_,_⟩ :: _) _ _;refine wpl_loadM HLd.out rfl rfl rfl ?_))
  generalize w1.alloc (Obj.cells #[.slice u1 lu u2,.slice u3 lw u4] 28)=W1 at *
  generalize w1.heap.size=g at *
  go_fit (HCM.out W1 HW1b.out.bl)
  rintro e w2 ⟨rfl,hb2⟩
  have HW2:=hide (HW1b.out.below hb2)
  have HX2:=hide (belowRow hb2 HX1.out)
  have HI2:=hide (And.intro (HI1.out.1.below hb2) (HI1.out.2.below hb2))
  clear hb2 HW1b HX1 HLd HCM HI1
  go_wp2_with (fail)
  go_fit (HCF.out w2 HW2.out.bl)
  rintro e w3 ⟨rfl,hb3⟩
  have HW3:=hide (HW2.out.below hb3)
  have HX3:=hide (belowRow hb3 HX2.out)
  have HI3:=hide (And.intro (HI2.out.1.below hb3) (HI2.out.2.below hb3))
  clear hb3 HW2 HX2 HCF HI2
  go_wp2_with (fail)
  go_fit (HNG'.out w3 HW3.out.bl)
  rintro e w4 ⟨n1,n2,n3,rfl,hb4⟩
  have HW4:=hide (HW3.out.below hb4)
  have HX4:=hide (belowRow hb4 HX3.out)
  have HI4:=hide (And.intro (HI3.out.1.below hb4) (HI3.out.2.below hb4))
  clear hb4 HW3 HX3 HNG' HI3
  go_wp2_with (fail)
  go_fit (modelBegun_any w4)
  rintro e w5 ⟨rfl,hb5⟩
  have HW5:=hide (HW4.out.below hb5)
  have HX5:=hide (belowRow hb5 HX4.out)
  have HI5:=hide (And.intro (HI4.out.1.below hb5) (HI4.out.2.below hb5))
  clear hb5 HW4 HX4 HI4
  go_wp2_with (fail)
  go_fit (holdsBegun_any w5)
  rintro e w6 ⟨rfl,hb6⟩
  have HW6:=hide (HW5.out.below hb6)
  have HX6:=hide (belowRow hb6 HX5.out)
  have HI6:=hide (And.intro (HI5.out.1.below hb6) (HI5.out.2.below hb6))
  clear hb6 HW5 HX5 HI5
  have HK:=hide (HCL.out w6 _ _ us vs HI6.out.1 HI6.out.2)
  rw [HKx.out] at HK
  have y0:=cell_of_row _ _ 0 _ _ _ HX6.out
  have y1:=cell_of_row _ _ 1 _ _ _ HX6.out
  go_wp2_with (fail)
  go_fit HK.out
  rintro e w7 ⟨rfl,hb7⟩
  have HW7:=hide (HW6.out.below hb7)
  have HX7:=hide (belowRow hb7 HX6.out)
  have HI7:=hide (And.intro (HI6.out.1.below hb7) (HI6.out.2.below hb7))
  clear y0 y1 hb7 HK HW6 HX6 HI6 HCL
  have y0:=cell_of_row _ _ 0 _ _ _ HX7.out
  have y1:=cell_of_row _ _ 1 _ _ _ HX7.out
  have m0:=cell_of_row _ _ 0 _ _ _ HW7.out.m
  have m1:=cell_of_row _ _ 1 _ _ _ HW7.out.m
  have m2:=cell_of_row _ _ 2 _ _ _ HW7.out.m
  have m3:=cell_of_row _ _ 3 _ _ _ HW7.out.m
  have HGG:=hide (HGo'.out w7 _ _ us vs true HW7.out.bl HI7.out.1 HI7.out.2 HKx.out (by simpa using HGx.out))
  clear HGo'
  go_wp2_with (fail)
  go_fit HGG.out
  rintro e w8 ⟨rfl,hb8⟩
  have HW8:=hide (HW7.out.below hb8)
  have HX8:=hide (belowRow hb8 HX7.out)
  have HI8:=hide (And.intro (HI7.out.1.below hb8) (HI7.out.2.below hb8))
  clear y0 y1 m0 m1 m2 m3 hb8 HGG HW7 HX7 HI7
  have y0:=cell_of_row _ _ 0 _ _ _ HX8.out
  have y1:=cell_of_row _ _ 1 _ _ _ HX8.out
  have HGG:=hide (HHo'.out w8 _ _ us vs HW8.out.bl HI8.out.1 HI8.out.2 HKx.out)
  rw [HVx.out] at HGG
  clear HHo'
  go_wp2_with (fail)
  go_fit HGG.out
  rintro e w9 ⟨rfl,hb9⟩
  have HB:=hide (below_trans HW8.out.bl hb9)
  clear y0 y1 hb9 HGG HW8 HX8 HI8
  go_wp2
  go_ret
  exact ⟨rfl,HB.out⟩
end Go.Proofs.YtpiacnnifdjlkabGreatDoor
namespace Go.Proofs.YtpiacnnifdjlkabGreatDoor
open Go.ChangeShapes Go.WideShapes Go.ChangeAt Go.RowKit Go.Deep
def layCellsM (k:IntKind) (zs:List Int):Obj→Obj
 | .cells _ t frozen=>.cells (zs.map fun z=>Value.int k z).toArray t frozen
 | o=>o
def layTabsM (W:World):World:=
 { W with heap:=((W.heap.modify 3 (layCellsM .u8 [0,1,28,2,29,14,24,3,30,22,20,15,25,17,4,8,31,27,13,23,21,19,16,7,26,12,18,6,11,5,10,9])).modify 2 (layCellsM .u8 (Lib.deBruijn64tab.map (fun n:Nat=>(n:Int))))).modify 0 (layCellsM .u64 Lib.pow10Tab) }
end Go.Proofs.YtpiacnnifdjlkabGreatDoor
