import Derived.Test.YtpiacnnifdjlkabGreatDoorEg
import Derived.Lib.AppendZerosOnto
set_option maxRecDepth 100000
set_option maxHeartbeats 8000000
namespace Go.Proofs.YtpiacnnifdjlkabGreatDoor
open Go.RowKit Go.Sort
theorem rule5_any {w:World}{av rv:Value}{A:List Bool} (i:Nat) (nx:Bool) (pa pt:Nat) (a0:Option Addr) (c h N:Nat) (hN:N≤9223372036854775807) (hi:i < N) (ha:w.cell? ⟨pa,0,none⟩=some av) (hA:RowSl w av A) (hAN:A.length=N)
  (ht:w.heap[pt]?=some (.cells #[.slice a0 N c,.int .i64 h,rv] 116)) (hh:h < N) :
  Calls Tryz.prog 169 #[.int .i64 i,.bool nx,.pointer (some ⟨pa,0,none⟩),.pointer (some ⟨pt,0,none⟩)] w fun e w'=>e=.returned (.bool (A.getD (if i+1=N then h else i+1) false))∧Below w.heap.size w w':=by
 have HN:=hide (fun w1=>next_place (w:=w1) (a:=a0) (c:=c) h i rv hN hi)
 have hj:(if i+1=N then h else i+1) < A.length:=by split <;> omega
 obtain ⟨b,off,cap,rfl,hc,hm⟩:=hA.at _ hj
 clear hA
 generalize (if i+1=N then h else i+1)=j at *
 rw [hAN] at hj
 generalize A.getD j false=x at *
 rw [hAN] at *
 have k0:=cell_regrown (cell_of_row w pt 0 _ _ _ ht)
 have k1:=cell_regrown (cell_of_row w pt 1 _ _ _ ht)
 have k2:=cell_regrown (cell_of_row w pt 2 _ _ _ ht)
 have ka:=cell_regrown ha
 have kc:=cell_regrown hc
 have CN:=hide (fun d os=>Calls.regrown_of (HN.out (grow (redrawn w d) os)))
 clear HN ht ha hc hi
 go_enter Tryz.func169,Tryz.ntmps169
 go_wp2_with (fail)
 refine wp_region_quiet_below (by kernel_rfl) (by kernel_rfl) ?_
 (repeat (go_big_quiet_step (exact CN.out _ _)))
 refine wpQuiet_nil ?_
 intro _ hw'
 obtain ⟨⟨dq,osq⟩,hw''⟩:=hw'
 subst hw''
 have hbq:=below_regrown w dq osq
 clear k0 k1 k2 ka kc CN
 go_wp2
 go_ret
 exact ⟨rfl,hbq⟩
def RuleOk (w:World) (F:Nat) (caps:Array Value) (u:Nat→Bool→Bool) (N:Nat):Prop:=
 (∀ args w,(callFunc F args).run Tryz.prog w=.ok (.enter F args) w)∧∀ i,i < N→∀ nx w1,Below w.heap.size w w1→Calls Tryz.prog F (#[.int .i64 (i:Nat),.bool nx] ++ caps) w1 fun e w'=>e=.returned (.bool (u i nx))∧Below w1.heap.size w1 w'
theorem cell_keep {w w1:World}{a:Addr}{v:Value} (h:w.cell? a=some v) (hb:Below w.heap.size w w1):w1.cell? a=some v:=by
 rw [hb.cell (World.block_lt_of_cell? w _ h)];exact h
theorem block_keep {w w1:World}{g:Nat}{o:Obj} (h:w.heap[g]?=some o) (hb:Below w.heap.size w w1):w1.heap[g]?=some o:=
 (hb.block g (Array.getElem?_eq_some_iff.1 h).1).trans h
theorem four_allocE (w:World) (o0 o1 o2 o3:Obj):Below w.heap.size w ((((w.alloc o0).alloc o1).alloc o2).alloc o3).drew ∧
  ((((w.alloc o0).alloc o1).alloc o2).alloc o3).drew.heap[w.heap.size]?=some o0∧((((w.alloc o0).alloc o1).alloc o2).alloc o3).drew.heap[w.heap.size+1]?=some o1 ∧
  ((((w.alloc o0).alloc o1).alloc o2).alloc o3).drew.heap[w.heap.size+1+1]?=some o2∧((((w.alloc o0).alloc o1).alloc o2).alloc o3).drew.heap[w.heap.size+1+1+1]?=some o3:=by
 have n0:=heap_alloc_new w o0
 have n1:=heap_alloc_new (w.alloc o0) o1
 have n2:=heap_alloc_new ((w.alloc o0).alloc o1) o2
 have n3:=heap_alloc_new (((w.alloc o0).alloc o1).alloc o2) o3
 have b1:=below_new (w.alloc o0) o1
 have b2:=below_new ((w.alloc o0).alloc o1) o2
 have b3:=Below.drew (below_new (((w.alloc o0).alloc o1).alloc o2) o3)
 simp only [World.size_alloc] at n1 n2 n3
 refine ⟨(by repeat (first | exact Below.refl _ _ | assumption | refine below_drewN ?_ _ | refine Below.drew ?_ | refine Below.alloc ?_ (by simp <;> omega) _ | refine below_trans ?_ (by assumption))),?_,?_,?_,?_⟩
 ·exact block_keep (block_keep (block_keep n0 b1) b2) b3
 ·exact block_keep (block_keep n1 b2) b3
 ·exact block_keep n2 b3
 ·exact n3
theorem same_below {w w':World}{p:Prop} (h:p∧w'=w):p∧Below w.heap.size w w':=⟨h.1,by rw [h.2];exact Below.refl _ _⟩
section
variable {w:World}{T:List (List Bool)}{h p N:Nat}{L:Nat→Int}{x:Nd}{a b pa pb:Nat}{av bv:Value}
theorem ok1 (hk:x.k=1):RuleOk w 173 #[] (ruleB T h p L x) N:=
 ⟨Tryz.call173,fun i _ nx w1 _=>(rule8_any (w:=w1) i nx).mono fun e w' he=>same_below ⟨by rw [he.1];simp [ruleB,hk],he.2⟩⟩
theorem ok2 {lv:Value}{Ls:List Int}{pt pn:Nat} (hk:x.k=2) (hn:0≤x.n∧x.n≤2) (h0:w.cell? ⟨pt,0,none⟩=some lv) (hL:IntSl w lv Ls) (hN:Ls.length=N) (hx:∀ i,i < N→0≤Ls.getD i 0∧Ls.getD i 0≤7) (hLL:∀ i,i < N→L i=Ls.getD i 0) (h3:w.cell? ⟨pn,3,none⟩=some (.int .i64 x.n)) :
  RuleOk w 165 #[.pointer (some ⟨pt,0,none⟩),.pointer (some ⟨pn,0,none⟩)] (ruleB T h p L x) N:=
 ⟨Tryz.call165,fun i hi nx w1 hb=>(rule1_any (w:=w1) i nx pt pn x.n (cell_keep h0 hb) (hL.below hb) (by omega) (hx i hi) hn (cell_keep h3 hb)).mono fun e w' he=>⟨by rw [he.1];simp [ruleB,hk,hLL i hi],by obtain ⟨m,hm⟩:=he.2;rw [hm];exact below_drawn _ _⟩⟩
theorem ok3 (hk:x.k=3) (ha:x.a=a) (ca:w.cell? ⟨pa,0,none⟩=some av) (hA:RowSl w av (T.getD a [])) (hAN:(T.getD a []).length=N) :
  RuleOk w 166 #[.pointer (some ⟨pa,0,none⟩)] (ruleB T h p L x) N:=
 ⟨Tryz.call166,fun i hi nx w1 hb=>(rule2_any (w:=w1) i nx pa (cell_keep ca hb) (hA.below hb) (by omega)).mono fun e w' he=>same_below ⟨by rw [he.1];simp [ruleB,hk,bt,ha],he.2⟩⟩
theorem ok4 (hk:x.k=4) (ha:x.a=a) (hb':x.b=b) (ca:w.cell? ⟨pa,0,none⟩=some av) (hA:RowSl w av (T.getD a [])) (hAN:(T.getD a []).length=N) (cb:w.cell? ⟨pb,0,none⟩=some bv) (hB:RowSl w bv (T.getD b [])) (hBN:(T.getD b []).length=N) :
  RuleOk w 167 #[.pointer (some ⟨pa,0,none⟩),.pointer (some ⟨pb,0,none⟩)] (ruleB T h p L x) N:=
 ⟨Tryz.call167,fun i hi nx w1 hb=>(rule3_any (w:=w1) i nx pa pb (cell_keep ca hb) (hA.below hb) (by omega) (cell_keep cb hb) (hB.below hb) (by omega)).mono fun e w' he=>same_below ⟨by rw [he.1];simp [ruleB,hk,bt,ha,hb'],he.2⟩⟩
theorem ok5 (hk:x.k=5) (ha:x.a=a) (hb':x.b=b) (ca:w.cell? ⟨pa,0,none⟩=some av) (hA:RowSl w av (T.getD a [])) (hAN:(T.getD a []).length=N) (cb:w.cell? ⟨pb,0,none⟩=some bv) (hB:RowSl w bv (T.getD b [])) (hBN:(T.getD b []).length=N) :
  RuleOk w 168 #[.pointer (some ⟨pa,0,none⟩),.pointer (some ⟨pb,0,none⟩)] (ruleB T h p L x) N:=
 ⟨Tryz.call168,fun i hi nx w1 hb=>(rule4_any (w:=w1) i nx pa pb (cell_keep ca hb) (hA.below hb) (by omega) (cell_keep cb hb) (hB.below hb) (by omega)).mono fun e w' he=>same_below ⟨by rw [he.1];simp [ruleB,hk,bt,ha,hb'],he.2⟩⟩
theorem ok7 (hk:x.k=7) (ha:x.a=a) (hb':x.b=b) (ca:w.cell? ⟨pa,0,none⟩=some av) (hA:RowSl w av (T.getD a [])) (hAN:(T.getD a []).length=N) (cb:w.cell? ⟨pb,0,none⟩=some bv) (hB:RowSl w bv (T.getD b [])) (hBN:(T.getD b []).length=N) :
  RuleOk w 171 #[.pointer (some ⟨pb,0,none⟩),.pointer (some ⟨pa,0,none⟩)] (ruleB T h p L x) N:=
 ⟨Tryz.call171,fun i hi nx w1 hb=>(rule6_any (w:=w1) i nx pa pb (cell_keep ca hb) (hA.below hb) (by omega) (cell_keep cb hb) (hB.below hb) (by omega)).mono fun e w' he=>same_below ⟨by rw [he.1];simp [ruleB,hk,bt,ha,hb'],he.2⟩⟩
theorem ok8 (hk:x.k=8) (ha:x.a=a) (hb':x.b=b) (ca:w.cell? ⟨pa,0,none⟩=some av) (hA:RowSl w av (T.getD a [])) (hAN:(T.getD a []).length=N) (cb:w.cell? ⟨pb,0,none⟩=some bv) (hB:RowSl w bv (T.getD b [])) (hBN:(T.getD b []).length=N) :
  RuleOk w 172 #[.pointer (some ⟨pb,0,none⟩),.pointer (some ⟨pa,0,none⟩)] (ruleB T h p L x) N:=
 ⟨Tryz.call172,fun i hi nx w1 hb=>(rule7_any (w:=w1) i nx pa pb (cell_keep ca hb) (hA.below hb) (by omega) (cell_keep cb hb) (hB.below hb) (by omega)).mono fun e w' he=>same_below ⟨by rw [he.1];simp [ruleB,hk,bt,ha,hb'],he.2⟩⟩
theorem ok6 {a0:Option Addr}{c pt:Nat}{rv:Value} (hk:x.k=6) (ha:x.a=a) (hNN:N≤9223372036854775807) (hN:N=h+p) (hp:0 < p) (ca:w.cell? ⟨pa,0,none⟩=some av) (hA:RowSl w av (T.getD a [])) (hAN:(T.getD a []).length=N)
  (ht:w.heap[pt]?=some (.cells #[.slice a0 N c,.int .i64 h,rv] 116)) :
  RuleOk w 169 #[.pointer (some ⟨pa,0,none⟩),.pointer (some ⟨pt,0,none⟩)] (ruleB T h p L x) N:=
 ⟨Tryz.call169,fun i hi nx w1 hb=>(rule5_any (w:=w1) i nx pa pt a0 c h N hNN hi (cell_keep ca hb) (hA.below hb) hAN (block_keep ht hb) (by omega)).mono fun e w' he=>⟨by rw [he.1];simp [ruleB,hk,bt,ha,nxp,hN],he.2⟩⟩
end
theorem rule_any {w:World}{T:List (List Bool)}{Ls:List Int}{L:Nat→Int} (a0:Option Addr) (N c0 h p R M:Nat) (x:Nd) (a b:Nat) (a1 a2:Option Addr) (n1 c1 n2 c2:Nat) (_hM:M≤12) (ha:a < M) (hb:b < M) (hxk:1≤x.k∧x.k≤8) (hxa:x.a=a) (hxb:x.b=b) (hxn:x.k=2→0≤x.n∧x.n≤2) (hav:w.cell? ⟨R,a,none⟩=some (.slice a1 n1 c1)) (hbv:w.cell? ⟨R,b,none⟩=some (.slice a2 n2 c2))
  (hNN:N≤9223372036854775807) (hN:N=h+p) (hp:0 < p) (hL:IntSl w (.slice a0 N c0) Ls) (hLN:Ls.length=N) (hL7:∀ i,i < N→0≤Ls.getD i 0∧Ls.getD i 0≤7) (hLL:∀ i,i < N→L i=Ls.getD i 0)
  (hA:3≤x.k→RowSl w (.slice a1 n1 c1) (T.getD a [])∧(T.getD a []).length=N) (hB:x.k=4 ∨ x.k=5 ∨ x.k=7 ∨ x.k=8→RowSl w (.slice a2 n2 c2) (T.getD b [])∧(T.getD b []).length=N) :
  Calls Tryz.prog 124 #[.agg #[.slice a0 N c0,.int .i64 h,.slice (some ⟨R,0,none⟩) M M],.agg #[.int .i64 x.k,.int .i64 x.a,.int .i64 x.b,.int .i64 x.n]] w fun e w'=>∃ F caps,e=.returned (.func (.func F) #[] caps)∧RuleOk w' F caps (ruleB T h p L x) N∧Below w.heap.size w w':=by
 have hmf:∀ (fn:Fn) (first cap:Array Value) (w:World),(Instr.makeFunc fn first cap).run Tryz.prog w=.ok (.func fn first cap) w:=fun _ _ _ _=>rfl
 have hR:=World.block_lt_of_cell? w _ hav
 dsimp only at hR
 have hR1:R < w.heap.size+1:=by omega
 have hR2:R < w.heap.size+1+1:=by omega
 have hR3:R < w.heap.size+1+1+1:=by omega
 have HALL:=hide (And.intro hNN (And.intro hN (And.intro hp (And.intro hL (And.intro hLN (And.intro hL7 (And.intro hLL (And.intro hA (And.intro hB (And.intro hxa (And.intro hxb (And.intro hxk hxn))))))))))))
 clear hN hp hL hLN hL7 hLL hA hB hxk hxn
 have hxa':x.a=(a:Nat):=hxa
 rw [hxa,hxb]
 clear hxa hxb hxa'
 generalize hk:x.k=k
 generalize hn:x.n=n
 have HK:=hide hk
 have HN:=hide hn
 clear hk hn
 go_enter Tryz.func124,Tryz.ntmps124
 go_wp2_with (fail)
 rename_i K hK
 have key:∀ (pa pb:Nat) (W:World),Below w.heap.size w W→W.heap[w.heap.size]?=some (Obj.cells #[.slice a0 N c0,.int .i64 h,.slice (some ⟨R,0,none⟩) M M] 116)→W.heap[w.heap.size+1]?=some (Obj.cells #[.int .i64 k,.int .i64 a,.int .i64 b,.int .i64 n] 55)→W.cell? ⟨pa,0,none⟩=some (.slice a1 n1 c1)→W.cell? ⟨pb,0,none⟩=some (.slice a2 n2 c2) →
   K { tmps:=#[.agg #[.slice a0 N c0,.int .i64 h,.slice (some ⟨R,0,none⟩) M M],.agg #[.int .i64 k,.int .i64 a,.int .i64 b,.int .i64 n],.pointer (some ⟨w.heap.size,0,none⟩),.pointer (some ⟨w.heap.size+1,0,none⟩),.nilFunc,.pointer (some ⟨pa,0,none⟩),.pointer (some ⟨pb,0,none⟩),.pointer (some ⟨w.heap.size,2,none⟩),.slice (some ⟨R,0,none⟩) M M,.pointer (some ⟨w.heap.size+1,1,none⟩),.int .i64 a,.pointer (some ⟨R,a,none⟩),.slice a1 n1 c1,.pointer (some ⟨w.heap.size,2,none⟩),.slice (some ⟨R,0,none⟩) M M,.pointer (some ⟨w.heap.size+1,2,none⟩),.int .i64 b,.pointer (some ⟨R,b,none⟩),.slice a2 n2 c2,undef,undef,undef,undef,undef,undef,undef,undef,undef,undef,undef,undef,undef,undef,undef,undef,undef,undef,undef,undef,undef,undef,undef],defers:=[] } W:=by
  intro pa pb W hbW e0 e1 ca cb
  refine hK _ _ ?_
  clear hK
  obtain ⟨hNN,hN,hp,hL,hLN,hL7,hLL,hA,hB,hxa,hxb,hxk,hxn⟩:=HALL.out
  have HA:=hide (fun h3=>And.intro ((hA h3).1.below hbW) (hA h3).2)
  have HB:=hide (fun h3=>And.intro ((hB h3).1.below hbW) (hB h3).2)
  have HX:=hide (And.intro hNN (And.intro hN (And.intro hp (And.intro (hL.below hbW) (And.intro hLN (And.intro hL7 (And.intro hLL (And.intro hxa (And.intro hxb hxn)))))))))
  have q0:=cell_of_row W _ 0 _ _ _ e1
  have q3:=cell_of_row W _ 3 _ _ _ e1
  have t0:=cell_of_row W _ 0 _ _ _ e0
  have Q3:=hide q3
  have T0:=hide t0
  have E0:=hide e0
  have CA:=hide ca
  have CB:=hide cb
  have HW:=hide hbW
  have hkk:k=1 ∨ k=2 ∨ k=3 ∨ k=4 ∨ k=5 ∨ k=6 ∨ k=7 ∨ k=8:=by rw [HK.out] at hxk;omega
  clear hNN hN hp hL hLN hL7 hLL hA hB hxa hxb hxk hxn hbW e0 e1 ca cb q3 t0 HALL
  rcases hkk with rfl | rfl | rfl | rfl | rfl | rfl | rfl | rfl
  ·go_wp2_with (fail)
   go_ret
   exact ⟨_,_,rfl,ok1 HK.out,HW.out⟩
  ·go_wp2_with (fail)
   go_ret
   exact ⟨_,_,rfl,ok2 HK.out (HX.out.2.2.2.2.2.2.2.2.2 HK.out) T0.out HX.out.2.2.2.1 HX.out.2.2.2.2.1 HX.out.2.2.2.2.2.1 HX.out.2.2.2.2.2.2.1 (Q3.out.trans (by rw [HN.out];rfl)),HW.out⟩
  ·go_wp2_with (fail)
   go_ret
   exact ⟨_,_,rfl,ok3 HK.out HX.out.2.2.2.2.2.2.2.1 CA.out (HA.out (by rw [HK.out];omega)).1 (HA.out (by rw [HK.out];omega)).2,HW.out⟩
  ·go_wp2_with (fail)
   go_ret
   exact ⟨_,_,rfl,ok4 HK.out HX.out.2.2.2.2.2.2.2.1 HX.out.2.2.2.2.2.2.2.2.1 CA.out (HA.out (by rw [HK.out];omega)).1 (HA.out (by rw [HK.out];omega)).2 CB.out (HB.out (by rw [HK.out];omega)).1 (HB.out (by rw [HK.out];omega)).2,HW.out⟩
  ·go_wp2_with (fail)
   go_ret
   exact ⟨_,_,rfl,ok5 HK.out HX.out.2.2.2.2.2.2.2.1 HX.out.2.2.2.2.2.2.2.2.1 CA.out (HA.out (by rw [HK.out];omega)).1 (HA.out (by rw [HK.out];omega)).2 CB.out (HB.out (by rw [HK.out];omega)).1 (HB.out (by rw [HK.out];omega)).2,HW.out⟩
  ·go_wp2_with (fail)
   go_ret
   exact ⟨_,_,rfl,ok6 HK.out HX.out.2.2.2.2.2.2.2.1 HX.out.1 HX.out.2.1 HX.out.2.2.1 CA.out (HA.out (by rw [HK.out];omega)).1 (HA.out (by rw [HK.out];omega)).2 E0.out,HW.out⟩
  ·go_wp2_with (fail)
   go_ret
   exact ⟨_,_,rfl,ok7 HK.out HX.out.2.2.2.2.2.2.2.1 HX.out.2.2.2.2.2.2.2.2.1 CA.out (HA.out (by rw [HK.out];omega)).1 (HA.out (by rw [HK.out];omega)).2 CB.out (HB.out (by rw [HK.out];omega)).1 (HB.out (by rw [HK.out];omega)).2,HW.out⟩
  ·go_wp2_with (fail)
   go_ret
   exact ⟨_,_,rfl,ok8 HK.out HX.out.2.2.2.2.2.2.2.1 HX.out.2.2.2.2.2.2.2.2.1 CA.out (HA.out (by rw [HK.out];omega)).1 (HA.out (by rw [HK.out];omega)).2 CB.out (HB.out (by rw [HK.out];omega)).1 (HB.out (by rw [HK.out];omega)).2,HW.out⟩
 clear hK HALL HK HN hmf
 go_region
 ·obtain ⟨hb0,h0,h1,h2,h3⟩:=four_allocE w (Obj.cells #[.slice a0 N c0,.int .i64 h,.slice (some ⟨R,0,none⟩) M M] 116) (Obj.cells #[.int .i64 k,.int .i64 a,.int .i64 b,.int .i64 n] 55) (Obj.cells #[Value.slice a1 n1 c1] 23) (Obj.cells #[Value.slice a2 n2 c2] 23)
  exact key (w.heap.size+1+1) (w.heap.size+1+1+1) _ hb0 h0 h1 (cell_of_row _ _ 0 _ _ _ h2) (cell_of_row _ _ 0 _ _ _ h3)
 ·obtain ⟨hb0,h0,h1,h2,h3⟩:=four_allocE w (Obj.cells #[.slice a0 N c0,.int .i64 h,.slice (some ⟨R,0,none⟩) M M] 116) (Obj.cells #[.int .i64 k,.int .i64 a,.int .i64 b,.int .i64 n] 55) (Obj.cells #[Value.slice a2 n2 c2] 23) (Obj.cells #[Value.slice a1 n1 c1] 23)
  exact key (w.heap.size+1+1+1) (w.heap.size+1+1) _ hb0 h0 h1 (cell_of_row _ _ 0 _ _ _ h3) (cell_of_row _ _ 0 _ _ _ h2)
def allFalse (c:Nat):Array Value:=Array.replicate c (.bool false)
theorem boolInfo2:Tryz.prog.info? 4=some Tryz.t4:=by kernel_rfl
theorem make_rowE (c:Nat) (h:c≤1000000) (w:World):(Instr.makeSlice 23 (.int .i64 c) (.int .i64 c)).run Tryz.prog w=.ok (.slice (some ⟨w.heap.size,0,none⟩) c c) (w.alloc (.cells (allFalse c) 4)):=by
 have hz:Tryz.t4.zero=some (.bool false):=by kernel_rfl
 have hb:Tryz.t4.bytes=1:=by kernel_rfl
 have hs:Tryz.t4.size=1:=by kernel_rfl
 rw [run_make w 23 4 Tryz.t4 (.bool false) Tryz.underlying23 boolInfo2 hz .i64 .i64 c c (by omega) (by omega) (by rw [hb];omega) (by omega)]
 have e:madeCells (Value.cells (.bool false)) (c * 1)=allFalse c:=by
  apply Array.ext
  ·simp [size_madeCells,allFalse]
  ·intro i h1 h2
   simp [madeCells,allFalse,Value.cells,Nat.mod_one]
 rw [hs,Int.toNat_natCast,e]
theorem set_far (W:World) (a:Addr) (v:Value) (k:Nat) (h:k ≠ a.block):(W.setCell a v).heap[k]?=W.heap[k]?:=by
 simp only [World.setCell,Array.getElem?_modify]
 rw [if_neg (fun e=>h e.symm)]
structure RB (W:World) (g N:Nat) (f:Nat→Bool):Prop where
 cell:∀ i,i < N→W.cell? ⟨g,i,none⟩=some (.bool (f i))
 soft:∀ o,W.frozen? ⟨g,o,none⟩=false
 lt:g < W.heap.size
theorem RB.of_block {W W':World}{g N:Nat}{f:Nat→Bool} (h:RB W g N f) (hb:W'.heap[g]?=W.heap[g]?):RB W' g N f:=
 ⟨fun i hi=>(World.cell?_of_block (a:=⟨g,i,none⟩) hb).trans (h.cell i hi),fun o=>(World.frozen?_of_block (a:=⟨g,o,none⟩) hb).trans (h.soft o),by
  have:=h.lt
  have h2:W.heap[g]?=some W.heap[g]:=by simp [this]
  rw [h2] at hb
  exact (Array.getElem?_eq_some_iff.1 hb).1⟩
theorem RB.old {W W':World}{g N:Nat}{f:Nat→Bool} (h:RB W g N f) (hb:Below W.heap.size W W'):RB W' g N f:=h.of_block (hb.block g h.lt)
theorem RB.new {W:World}{g N:Nat} (h:W.heap[g]?=some (.cells (allFalse N) 4)):RB W g N (fun _=>false):=
 ⟨fun i hi=>by rw [cell_of_row W g i _ _ _ h];simp [allFalse,hi],fun o=>by simp [World.frozen?,h],(Array.getElem?_eq_some_iff.1 h).1⟩
theorem RB.set {W:World}{g N:Nat}{f:Nat→Bool} (h:RB W g N f) (t:Nat) (ht:t < N) (v:Bool):RB (W.setCell ⟨g,t,none⟩ (.bool v)) g N (fun i=>if i=t then v else f i):=by
 refine ⟨fun i hi=>?_,fun o=>by rw [World.frozen?_setCell];exact h.soft o,by simpa [World.setCell] using h.lt⟩
 by_cases e:i=t
 ·subst e
  rw [World.cell?_setCell_same _ _ _ (h.cell i hi)]
  simp
 ·rw [World.cell?_setCell_other _ _ _ _ (fun e'=>e (congrArg Addr.off e').symm),h.cell i hi]
  simp [e]
theorem RB.far {W:World}{g g' N:Nat}{f:Nat→Bool} (h:RB W g N f) (o:Nat) (v:Value) (hne:g ≠ g'):RB (W.setCell ⟨g',o,none⟩ v) g N f:=h.of_block (set_far W _ _ g hne)
theorem RB.congr {W:World}{g N:Nat}{f f':Nat→Bool} (h:RB W g N f) (e:∀ i,i < N→f i=f' i):RB W g N f':=⟨fun i hi=>by rw [h.cell i hi,e i hi],h.soft,h.lt⟩
theorem RB.row {W:World}{g N:Nat}{f:Nat→Bool}{zs:List Bool} (h:RB W g N f) (hN:N≤maxLen) (hl:zs.length=N) (e:∀ i,i < N→f i=zs.getD i false):RowSl W (.slice (some ⟨g,0,none⟩) N N) zs:=
 ⟨_,_,by rw [hl],by omega,Or.inr ⟨g,0,rfl,fun i hi=>by rw [Nat.zero_add,h.cell i (by omega),e i (by omega)]⟩,(fun h=>by cases h),by omega⟩
structure FB (B:Nat) (w0 W:World) (rb nb wb g F:Nat) (caps:Array Value) (N:Nat) (x:Bool) (f:Nat→Bool):Prop where
 below:Below B w0 W
 rule:W.cell? ⟨rb,0,none⟩=some (.func (.func F) #[] caps)
 next:W.cell? ⟨nb,0,none⟩=some (.bool x)
 soft:W.frozen? ⟨nb,0,none⟩=false
 row:W.cell? ⟨wb,0,none⟩=some (.slice (some ⟨g,0,none⟩) N N)
 bools:RB W g N f
theorem FB.step {B:Nat}{w0 W:World}{rb nb wb g F:Nat}{caps:Array Value}{N:Nat}{x:Bool}{f:Nat→Bool} (h:FB B w0 W rb nb wb g F caps N x f) (hd:rb ≠ nb∧rb ≠ wb∧rb ≠ g∧nb ≠ wb∧nb ≠ g∧wb ≠ g) (hB2:B≤nb) (hB4:B≤g) (j:Nat) (hj:j < N) (y:Bool) :
  FB B w0 ((W.setCell ⟨nb,0,none⟩ (.bool y)).setCell ⟨g,j,none⟩ (.bool y)) rb nb wb g F caps N y (fun i=>if i=j then y else f i):=by
 obtain ⟨d1,d2,d3,d4,d5,d6⟩:=hd
 refine ⟨(h.below.setCell (by exact hB2) _).setCell (by exact hB4) _,?_,?_,?_,?_,?_⟩
 ·rw [World.cell?_setCell_other _ _ _ _ (fun e=>d3 (congrArg Addr.block e).symm),World.cell?_setCell_other _ _ _ _ (fun e=>d1 (congrArg Addr.block e).symm)];exact h.rule
 ·rw [World.cell?_setCell_other _ _ _ _ (fun e=>d5 (congrArg Addr.block e).symm),World.cell?_setCell_same _ _ _ h.next]
 ·rw [World.frozen?_setCell,World.frozen?_setCell];exact h.soft
 ·rw [World.cell?_setCell_other _ _ _ _ (fun e=>d6 (congrArg Addr.block e).symm),World.cell?_setCell_other _ _ _ _ (fun e=>d4 (congrArg Addr.block e))];exact h.row
 ·exact (h.bools.far 0 (.bool y) (fun e=>d5 e.symm)).set j hj y
def filled (u:Nat→Bool→Bool) (x:Bool) (m d:Nat) (f:Nat→Bool) (i:Nat):Bool:=if d≤i∧i < m then look u x (m - i) i else f i
theorem filled_step (u:Nat→Bool→Bool) (x:Bool) (m d:Nat) (f:Nat→Bool) (hd:d < m) (i:Nat):(if i=d then u d (look u x (m - (d+1)) (d+1)) else filled u x m (d+1) f i)=filled u x m d f i:=by
 unfold filled
 by_cases e:i=d
 ·subst e
  rw [if_pos rfl,if_pos ⟨Nat.le_refl _,hd⟩,show m - i=(m - (i+1))+1 by omega]
  rfl
 ·rw [if_neg e]
  by_cases h:d+1≤i∧i < m
  ·rw [if_pos h,if_pos ⟨by omega,h.2⟩]
  ·rw [if_neg h,if_neg (by omega)]
theorem back_any {B:Nat}{w0 w:World}{rb nb wb g F:Nat}{caps:Array Value}{N:Nat}{x:Bool}{f:Nat→Bool}{u:Nat→Bool→Bool} (hb:FB B w0 w rb nb wb g F caps N x f) (hr:RuleOk w0 F caps u N) (hB:B=w0.heap.size) (hB2:B≤nb) (hB4:B≤g)
  (hd:rb ≠ nb∧rb ≠ wb∧rb ≠ g∧nb ≠ wb∧nb ≠ g∧wb ≠ g) (m d:Nat) (hm:m≤N) (hdm:d≤m) (hN:N≤1000000) :
  Calls Tryz.prog 164 #[.int .i64 m,.int .i64 d,.pointer (some ⟨rb,0,none⟩),.pointer (some ⟨nb,0,none⟩),.pointer (some ⟨wb,0,none⟩)] w fun e w'=>e=.returned (.tuple #[])∧FB B w0 w' rb nb wb g F caps N (look u x (m - d) d) (filled u x m d f):=by
 have HB:=hide hb
 have HR:=hide hr
 clear hb hr
 go_enter Tryz.func164,Tryz.ntmps164
 go_wp2_with (fail)
 go_loopw [7] (fun iv wr=>∃ k:Nat,d≤k∧k≤m∧iv=.int .i64 ((k:Int) - 1)∧FB B w0 wr rb nb wb g F caps N (look u x (m - k) k) (filled u x m k f)) (fun iv _=>(intOf iv+1 - d).toNat)
 case atStart=>exact ⟨m,hdm,Nat.le_refl _,rfl,by
  have:=HB.out
  rw [Nat.sub_self]
  exact ⟨this.below,this.rule,this.next,this.soft,this.row,this.bools.congr (fun i _=>by unfold filled;rw [if_neg (by omega)])⟩⟩
 case round =>
  obtain ⟨k,hk1,hk2,rfl,hb⟩:=hrel
  have HF:=hide hb
  by_cases hlt:d < k
  ·obtain ⟨j,rfl⟩:∃ j,k=j+1:=⟨k - 1,by omega⟩
   have ej:((j+1:Nat):Int) - 1=j:=by omega
   rw [ej]
   obtain ⟨hbel,c1,c2,c3,c4,hrow⟩:=hb
   have HC:=hide (HR.out.2 j (by omega) (look u x (m - (j+1)) (j+1)) wr (by rw [← hB];exact hbel))
   have hcall:=HR.out.1
   generalize hnx:look u x (m - (j+1)) (j+1)=nx at *
   have Hnx:=hide hnx
   clear hnx
   have hjd:(d:Int)≤j:=by omega
   clear hbel hrow
   go_wp2_with (fail)
   refine HC.out.mono ?_
   rintro e w1 ⟨rfl,hb1⟩
   generalize hy:u j nx=y
   have hF1:FB B w0 w1 rb nb wb g F caps N nx (filled u x m (j+1) f):=by
    have:=HF.out
    exact ⟨this.below.trans (hb1.mono (by have:=this.below.size;omega)),cell_keep this.rule hb1,cell_keep this.next hb1,(hb1.frozen (p:=⟨nb,0,none⟩) (World.block_lt_of_cell? _ _ this.next)).trans this.soft,cell_keep this.row hb1,this.bools.old hb1⟩
   clear HF HC hb1 c1 c2 c3 c4
   have HF1:=hide hF1
   obtain ⟨_,r1,r2,r3,r4,r5⟩:=hF1
   have r6:=r5.cell j (by omega)
   have r7:=r5.soft j
   clear r5
   obtain ⟨d1,d2,d3,d4,d5,d6⟩:=hd
   have m1:¬ nb=rb:=fun e=>d1 e.symm
   have m2:¬ nb=wb:=d4
   have m3:¬ nb=g:=d5
   have m4:¬ g=nb:=fun e=>d5 e.symm
   have m5:¬ wb=nb:=fun e=>d4 e.symm
   have HD:=hide (And.intro d1 (And.intro d2 (And.intro d3 (And.intro d4 (And.intro d5 d6)))))
   clear d1 d2 d3 d4 d5 d6
   have Hy:=hide hy
   clear hy hcall HR
   generalize filled u x m (j+1) f j=old at *
   go_wp2_with (fail)
   go_roundw
   case rel =>
    have hlk:look u x (m - j) j=y:=by
     rw [show m - j=(m - (j+1))+1 by omega]
     show u j (look u x (m - (j+1)) (j+1))=y
     rw [Hnx.out,Hy.out]
    refine ⟨j,by omega,by omega,rfl,?_⟩
    rw [hlk]
    have h1:=HF1.out.step HD.out hB2 hB4 j (by omega) y
    exact ⟨h1.below,h1.rule,h1.next,h1.soft,h1.row,h1.bools.congr fun i _=>by rw [← filled_step u x m j f (by omega) i,Hnx.out,Hy.out]⟩
   case measure=>simp [intOf];omega
  ·have hkd:k=d:=by omega
   subst hkd
   have hlt':(k:Int) - 1 < k:=by omega
   have HH:=HF.out
   clear hb
   go_wp2_with (fail)
   go_end0
   exact ⟨rfl,HH⟩
theorem RuleOk.below {w w':World}{F:Nat}{caps:Array Value}{u:Nat→Bool→Bool}{N:Nat} (h:RuleOk w F caps u N) (hb:Below w.heap.size w w'):RuleOk w' F caps u N:=
 ⟨h.1,fun i hi nx w1 hb1=>h.2 i hi nx w1 (below_trans hb hb1)⟩
def rowU (u:Nat→Bool→Bool) (e:Bool) (h p:Nat):List Bool:=(List.range (h+p)).map fun i=>look (fun k=>u (plc h p k)) e (h+p) i
theorem rowU_get (u:Nat→Bool→Bool) (e:Bool) (h p i:Nat) (hi:i < h+p):(rowU u e h p).getD i false=look (fun k=>u (plc h p k)) e (h+p) i:=by simp [rowU,List.getD,hi]
theorem filled_all (u:Nat→Bool→Bool) (e:Bool) (h p:Nat) (hp:0 < p) (hm:Mono u) (f:Nat→Bool) (i:Nat) (hi:i < h+p) :
  filled u (look u (look u e p h) p h) h 0 (filled u (look u e p h) (h+p) h (filled u e (h+p) h f)) i=(rowU u e h p).getD i false:=by
 rw [rowU_get u e h p i hi,← passes u e h p hp hm i hi]
 unfold filled
 by_cases hih:i < h
 ·rw [if_pos ⟨Nat.zero_le _,hih⟩,if_pos hih]
 ·rw [if_neg (by omega),if_pos ⟨by omega,hi⟩,if_neg hih]
theorem fill_start (w:World) (o:Obj) (F:Nat) (caps:Array Value) (N:Nat) (e:Bool) :
  FB (w.heap.size+1+1) ((w.alloc o).alloc (Obj.cells #[.func (.func F) #[] caps] 183)) (((((w.alloc o).alloc (Obj.cells #[.func (.func F) #[] caps] 183)).alloc (Obj.cells (allFalse N) 4)).alloc (Obj.cells #[.slice (some ⟨w.heap.size+1+1,0,none⟩) N N] 23)).alloc (Obj.cells #[.bool e] 4))
   (w.heap.size+1) (w.heap.size+1+1+1+1) (w.heap.size+1+1+1) (w.heap.size+1+1) F caps N e (fun _=>false):=by
 generalize hw0:(w.alloc o).alloc (Obj.cells #[.func (.func F) #[] caps] 183)=w0
 have hs:w0.heap.size=w.heap.size+1+1:=by rw [← hw0];simp
 have h1:w0.heap[w.heap.size+1]?=some (Obj.cells #[.func (.func F) #[] caps] 183):=by
  rw [← hw0]
  have:=heap_alloc_new (w.alloc o) (Obj.cells #[.func (.func F) #[] caps] 183)
  rwa [World.size_alloc] at this
 have k0:=below_new w0 (Obj.cells (allFalse N) 4)
 have n0:=heap_alloc_new w0 (Obj.cells (allFalse N) 4)
 have n1:=heap_alloc_new (w0.alloc (Obj.cells (allFalse N) 4)) (Obj.cells #[.slice (some ⟨w.heap.size+1+1,0,none⟩) N N] 23)
 have k1:=below_new (w0.alloc (Obj.cells (allFalse N) 4)) (Obj.cells #[.slice (some ⟨w.heap.size+1+1,0,none⟩) N N] 23)
 have n2:=heap_alloc_new ((w0.alloc (Obj.cells (allFalse N) 4)).alloc (Obj.cells #[.slice (some ⟨w.heap.size+1+1,0,none⟩) N N] 23)) (Obj.cells #[.bool e] 4)
 have k2:=below_new ((w0.alloc (Obj.cells (allFalse N) 4)).alloc (Obj.cells #[.slice (some ⟨w.heap.size+1+1,0,none⟩) N N] 23)) (Obj.cells #[.bool e] 4)
 simp only [World.size_alloc] at n1 n2
 rw [hs] at n0 n1 n2
 have hbl:Below w0.heap.size w0 (((w0.alloc (Obj.cells (allFalse N) 4)).alloc (Obj.cells #[.slice (some ⟨w.heap.size+1+1,0,none⟩) N N] 23)).alloc (Obj.cells #[.bool e] 4)):=below_trans (below_trans k0 k1) k2
 refine ⟨hbl.mono (by omega),?_,?_,?_,?_,?_⟩
 ·exact cell_of_row _ _ 0 _ _ _ (block_keep h1 hbl)
 ·exact cell_of_row _ _ 0 _ _ _ n2
 ·simp [World.frozen?,n2]
 ·exact cell_of_row _ _ 0 _ _ _ (block_keep n1 k2)
 ·exact RB.new (block_keep (block_keep n0 k1) k2)
theorem fill_any {w:World}{F:Nat}{caps:Array Value}{u:Nat→Bool→Bool} (a0:Option Addr) (N c0 h p:Nat) (rv:Value) (e:Bool) (hr:RuleOk w F caps u N) (hN:N=h+p) (hp:0 < p) (hNN:N≤1000000) (hm:Mono u) :
  Calls Tryz.prog 123 #[.agg #[.slice a0 N c0,.int .i64 h,rv],.bool e,.func (.func F) #[] caps] w fun en w'=>∃ v,en=.returned v∧RowSl w' v (rowU u e h p)∧(∃ g,v=.slice (some ⟨g,0,none⟩) N N∧w.heap.size≤g)∧Below w.heap.size w w':=by
 have hmf:∀ (fn:Fn) (first cap:Array Value) (w:World),(Instr.makeFunc fn first cap).run Tryz.prog w=.ok (.func fn first cap) w:=fun _ _ _ _=>rfl
 have hmk:=make_rowE N hNN
 have hcl:=Tryz.call164
 have HR:=hide hr
 have HN:=hide hN
 have HM:=hide hm
 clear hr hN hm
 go_enter Tryz.func123,Tryz.ntmps123
 go_wp2_with (fail)
 have hF0:=fill_start w (Obj.cells #[.slice a0 N c0,.int .i64 h,rv] 116) F caps N e
 have hB:w.heap.size+1+1=((w.alloc (Obj.cells #[.slice a0 N c0,.int .i64 h,rv] 116)).alloc (Obj.cells #[.func (.func F) #[] caps] 183)).heap.size:=by simp
 have hr0:=(HR.out.below (below_new w (Obj.cells #[.slice a0 N c0,.int .i64 h,rv] 116))).below (below_new _ (Obj.cells #[.func (.func F) #[] caps] 183))
 have t0:(w.alloc (Obj.cells #[.slice a0 N c0,.int .i64 h,rv] 116)).cell? ⟨w.heap.size,1,none⟩=some (.int .i64 h):=by simp
 have t1:=cell_under _ (Obj.cells #[.func (.func F) #[] caps] 183) t0
 have HBW:Hid (Below w.heap.size w ((w.alloc (Obj.cells #[.slice a0 N c0,.int .i64 h,rv] 116)).alloc (Obj.cells #[.func (.func F) #[] caps] 183))):=hide (by repeat (first | exact Below.refl _ _ | assumption | refine below_drewN ?_ _ | refine Below.drew ?_ | refine Below.alloc ?_ (by simp <;> omega) _ | refine below_trans ?_ (by assumption)))
 clear t0 HR
 generalize (w.alloc (Obj.cells #[.slice a0 N c0,.int .i64 h,rv] 116)).alloc (Obj.cells #[.func (.func F) #[] caps] 183)=w0 at *
 have H0:=hide (And.intro hB (And.intro hr0 t1))
 clear hB hr0 t1
 have hdis:w.heap.size+1 ≠ w.heap.size+1+1+1+1∧w.heap.size+1 ≠ w.heap.size+1+1+1∧w.heap.size+1 ≠ w.heap.size+1+1∧w.heap.size+1+1+1+1 ≠ w.heap.size+1+1+1∧w.heap.size+1+1+1+1 ≠ w.heap.size+1+1∧w.heap.size+1+1+1 ≠ w.heap.size+1+1:=by omega
 have HD:=hide hdis
 clear hdis
 have hhN:h≤N:=by rw [HN.out];omega
 have hpN:N - h=p:=by rw [HN.out];omega
 have HP:=hide hpN
 clear hpN
 refine (back_any hF0 H0.out.2.1 H0.out.1 (by omega) (by omega) HD.out N h (Nat.le_refl _) hhN hNN).mono ?_
 clear hF0
 rintro en w1 ⟨rfl,hF1⟩
 rw [HP.out] at hF1
 have c1:=hF1.row
 have c2:=(hF1.below.cell (p:=⟨w.heap.size,1,none⟩) (by show w.heap.size < _;omega)).trans H0.out.2.2
 have HF1:=hide hF1
 clear hF1
 go_wp2_with (fail)
 refine (back_any HF1.out H0.out.2.1 H0.out.1 (by omega) (by omega) HD.out N h (Nat.le_refl _) hhN hNN).mono ?_
 clear c1 c2 HF1
 rintro en w2 ⟨rfl,hF2⟩
 rw [HP.out] at hF2
 have c2:=(hF2.below.cell (p:=⟨w.heap.size,1,none⟩) (by show w.heap.size < _;omega)).trans H0.out.2.2
 have HF2:=hide hF2
 clear hF2
 go_wp2_with (fail)
 refine (back_any HF2.out H0.out.2.1 H0.out.1 (by omega) (by omega) HD.out h 0 hhN (Nat.zero_le _) hNN).mono ?_
 clear c2 HF2
 rintro en w3 ⟨rfl,hF3⟩
 have c1:=hF3.row
 have HF3:=hide hF3
 clear hF3
 go_wp2_with (fail)
 go_ret
 have hN:=HN.out
 subst hN
 exact ⟨_,rfl,HF3.out.bools.row (by unfold maxLen;omega) (by simp [rowU]) (fun i hi=>filled_all u e h p hp HM.out _ i hi),⟨_,rfl,by omega⟩,HBW.out.trans (HF3.out.below.mono (by omega))⟩
theorem growInts_any (n:Nat) (h0:0 < n) (hn:n≤1000000) (w:World) :
  Calls Tryz.prog 163 #[.slice none 0 0,.int .i64 n] w fun e w'=>∃ v,e=.returned v∧w'.ownsRow w.heap.size 3 1 v 0 []∧Below w.heap.size w w':=by
 have hz:Tryz.t3.zero=some (.int .i64 0):=by kernel_rfl
 have hb:Tryz.t3.bytes=8:=by kernel_rfl
 have hs:Tryz.t3.size=1:=by kernel_rfl
 have hold:(Builtin.firstCells Tryz.t3.size 0 (.slice none 0 0)).run Tryz.prog w.drew=.ok ([]:List Value).toArray w.drew:=run_firstCells_none w.drew _ 0 0 0
 have hrz:=fun ty=>Lib.run_append_grow_zeros w 22 3 ty 3 Tryz.t3 (.int .i64 0) .i64 .i64 Tryz.underlying22 Tryz.underlying3 intInfo hz none 0 0 [] hold n h0 (by rw [hs];omega) (by omega) (by omega) (by rw [hb];omega) (by rw [hb,Nat.zero_add];exact growslice_fits (by omega) (by omega))
 have hge:=grownCap_ge w n 0 3
 have hle:=grownCap_le_maxLen w n 0 3 (by unfold maxLen;omega)
 rw [Nat.zero_add] at hrz
 generalize grownCap w n 0 3=G at *
 generalize hcs:([]:List Value).toArray ++ Builtin.zeroCells (Value.int .i64 0).cells n ++ Builtin.zeroCells (Value.int .i64 0).cells (G - n)=cs at *
 have hsz:cs.size=G:=by rw [← hcs];simp [size_zeroCells,Value.cells];omega
 have HG:=hide (And.intro hsz (And.intro hge hle))
 have hG63:G≤9223372036854775807:=by unfold maxLen at hle;omega
 clear hcs hold hsz hge hle hz hb hs
 go_enter Tryz.func163,Tryz.ntmps163
 go_wp2_with (at_builtin;refine Lib.wpList_append_run _ rfl _ _ _ _ rfl _ _ rfl rfl _ _ (hrz _) ?_)
 go_ret
 refine ⟨_,rfl,⟨rfl,.inr ⟨w.heap.size,G,cs,rfl,Nat.le_refl _,heap_alloc_new w _,Nat.zero_le _,HG.out.2.2,by rw [HG.out.1,Nat.mul_one],by simp⟩⟩,(by repeat (first | exact Below.refl _ _ | assumption | refine below_drewN ?_ _ | refine Below.drew ?_ | refine Below.alloc ?_ (by simp <;> omega) _ | refine below_trans ?_ (by assumption)))⟩
theorem concat_any {w:World}{a0 a1:Option Addr}{c0 c1 vb:Nat}{hs ls:List Int} (hh:IntSl w (.slice a0 hs.length c0) hs) (hl:IntSl w (.slice a1 ls.length c1) ls) (v0:w.cell? ⟨vb,0,none⟩=some (.slice a0 hs.length c0)) (v1:w.cell? ⟨vb,1,none⟩=some (.slice a1 ls.length c1)) (h5:hs.length≤4000) (h6:ls.length≤4000) (h7:0 < ls.length) :
  Calls Tryz.prog 122 #[.slice (some ⟨vb,0,none⟩) 2 2] w fun e w'=>∃ g lc,e=.returned (.slice (some ⟨g,0,none⟩) (hs.length+ls.length) lc)∧IntSl w' (.slice (some ⟨g,0,none⟩) (hs.length+ls.length) lc) (hs ++ ls)∧w.heap.size≤g∧Below w.heap.size w w':=by
 have Hh:=hide hh
 have Hl:=hide hl
 clear hh hl
 generalize hN:hs.length=n0 at *
 generalize hM:ls.length=n1 at *
 have HN:=hide hN
 have HM:=hide hM
 clear hN hM
 go_enter Tryz.func122,Tryz.ntmps122
 go_wp2_with (fail)
 refine wp_loop_rounds 3 ?_
 rw [rounds_succ]
 go_wp2_with (fail)
 rw [rounds_succ]
 go_wp2_with (fail)
 rw [rounds_succ]
 go_wp2_with (fail)
 have HG:Hid (Calls Tryz.prog 163 #[.slice none 0 0,.int .i64 ((n0:Int)+n1)] w fun e w'=>∃ v,e=.returned v∧w'.ownsRow w.heap.size 3 1 v 0 []∧Below w.heap.size w w'):=by
  have:=growInts_any (n0+n1) (by omega) (by omega) w
  rw [Int.natCast_add] at this
  exact hide this
 refine HG.out.mono ?_
 rintro e w1 ⟨gv,rfl,hown,hb1⟩
 have u0:=cell_keep v0 hb1
 have u1:=cell_keep v1 hb1
 obtain ⟨g1,w2,hr2,ho2,hg2,-⟩:=run_append_sl w1 22 w.heap.size gv 0 [] hown _ hs (Hh.out.below hb1) (by rw [HN.out];omega) hb1.size
 have hb2:Below w.heap.size w w2:=hb1.trans ((Below.refl _ _).grown hg2 hb1.size fun k hk=>(hown.lt k hk).1)
 have x0:=cell_keep v0 hb2
 have x1:=cell_keep v1 hb2
 obtain ⟨g2,w3,hr3,ho3,hg3,-⟩:=run_append_sl w2 22 w.heap.size g1 _ _ ho2 _ ls (Hl.out.below hb2) (by rw [HN.out,HM.out];omega) hb2.size
 have hb3:Below w.heap.size w w3:=hb2.trans ((Below.refl _ _).grown hg3 hb2.size fun k hk=>(ho2.lt k hk).1)
 have hz:IntSl w3 g2 (hs ++ ls):=intSl_of_owns (n:=0+hs.length+ls.length) (base:=w.heap.size) (by simpa using ho3)
 obtain ⟨g,lc,rfl,hbg⟩:∃ g lc,g2=.slice (some ⟨g,0,none⟩) (n0+n1) lc∧w.heap.size≤g:=by
  rcases ho3.2 with ⟨_,h0⟩ | ⟨g,cap,cur,hv,hb,_⟩
  ·exfalso
   rw [HN.out,HM.out] at h0
   omega
  ·rw [HN.out,HM.out,Nat.zero_add] at hv
   exact ⟨g,cap,hv,hb⟩
 have HF:=hide (And.intro hz (And.intro hbg hb3))
 clear hbg
 have HR2:=hide hr2
 have HR3:=hide hr3
 clear hz hb3 hg3 ho3 hg2 ho2 hb2 hb1 hown hr2 hr3 HG
 go_wp2_with (fail)
 refine wp_loop_rounds 3 ?_
 rw [rounds_succ]
 go_wp2_with (at_builtin;refine Lib.wpList_append_run _ rfl _ _ _ _ rfl _ _ rfl rfl _ _ HR2.out ?_)
 rw [rounds_succ]
 go_wp2_with (at_builtin;refine Lib.wpList_append_run _ rfl _ _ _ _ rfl _ _ rfl rfl _ _ HR3.out ?_)
 rw [rounds_succ]
 go_wp2_with (fail)
 go_ret
 exact ⟨_,_,rfl,HF.out⟩
def nilRows (c:Nat):Array Value:=Array.replicate c (.slice none 0 0)
theorem rowInfo:Tryz.prog.info? 23=some Tryz.t23:=by kernel_rfl
theorem make_rows (c:Nat) (h:c≤1000000) (w:World):(Instr.makeSlice 45 (.int .i64 c) (.int .i64 c)).run Tryz.prog w=.ok (.slice (some ⟨w.heap.size,0,none⟩) c c) (w.alloc (.cells (nilRows c) 23)):=by
 have hz:Tryz.t23.zero=some (.slice none 0 0):=by kernel_rfl
 have hb:Tryz.t23.bytes=24:=by kernel_rfl
 have hs:Tryz.t23.size=1:=by kernel_rfl
 rw [run_make w 45 23 Tryz.t23 (.slice none 0 0) Tryz.underlying45 rowInfo hz .i64 .i64 c c (by omega) (by omega) (by rw [hb];omega) (by omega)]
 have e:madeCells (Value.cells (.slice none 0 0)) (c * 1)=nilRows c:=by
  apply Array.ext
  ·simp [size_madeCells,nilRows]
  ·intro i h1 h2
   simp [madeCells,nilRows,Value.cells,Nat.mod_one]
 rw [hs,Int.toNat_natCast,e]
theorem cell_top (w:World) (cs:Array Value) (t:TypeId) (n i:Nat) (v:Value) (hn:n=w.heap.size) (hi:cs[i]?=some v):(w.alloc (Obj.cells cs t)).cell? ⟨n,i,none⟩=some v:=by
 subst hn
 rw [World.cell?_alloc_new];exact hi
theorem cell_set_ne {w:World}{b g o o':Nat}{v u:Value} (hne:b ≠ g) (h:w.cell? ⟨b,o,none⟩=some v):(w.setCell ⟨g,o',none⟩ u).cell? ⟨b,o,none⟩=some v:=by
 rw [World.cell?_setCell_other _ _ _ _ (fun e=>hne (congrArg Addr.block e).symm)];exact h
theorem zero_tab {w:World}{g:Nat} (h:w.heap[g]?=some (Obj.cells #[.slice none 0 0,.int .i64 0,.slice none 0 0] 116)):w.cell? ⟨g,0,none⟩=some (.slice none 0 0)∧w.cell? ⟨g,1,none⟩=some (.int .i64 0)∧w.cell? ⟨g,2,none⟩=some (.slice none 0 0)∧(∀ o,w.frozen? ⟨g,o,none⟩=false)∧g < w.heap.size:=
 ⟨cell_of_row w g 0 _ _ _ h,cell_of_row w g 1 _ _ _ h,cell_of_row w g 2 _ _ _ h,fun o=>by simp [World.frozen?,h],(Array.getElem?_eq_some_iff.1 h).1⟩
theorem with_tab {w:World}{p:Prop} (g:Nat) (h:w.heap[g]?=some (Obj.cells #[.slice none 0 0,.int .i64 0,.slice none 0 0] 116)) (k:w.cell? ⟨g,0,none⟩=some (.slice none 0 0)∧w.cell? ⟨g,1,none⟩=some (.int .i64 0)∧w.cell? ⟨g,2,none⟩=some (.slice none 0 0)∧(∀ o,w.frozen? ⟨g,o,none⟩=false)∧g < w.heap.size→p):p:=k (zero_tab h)
theorem heap_under {w:World}{g:Nat}{o:Obj} (o':Obj) (h:w.heap[g]?=some o):(w.alloc o').heap[g]?=some o:=block_keep h (below_new w o')
theorem heap_top (w:World) (o:Obj) (n:Nat) (hn:n=w.heap.size):(w.alloc o).heap[n]?=some o:=by
 subst hn;exact heap_alloc_new w o
theorem heap_drew {w:World}{g:Nat}{o:Obj} (h:w.heap[g]?=some o):w.drew.heap[g]?=some o:=h
theorem heap_set_ne {w:World}{g g' o:Nat}{v:Value}{ob:Obj} (hne:g ≠ g') (h:w.heap[g]?=some ob):(w.setCell ⟨g',o,none⟩ v).heap[g]?=some ob:=(set_far w _ v g hne).trans h
theorem cell_set_eq {w:World}{g o:Nat}{v u:Value} (h:w.cell? ⟨g,o,none⟩=some u):(w.setCell ⟨g,o,none⟩ v).cell? ⟨g,o,none⟩=some v:=World.cell?_setCell_same _ _ _ h
theorem cell_set_off {w:World}{g o o':Nat}{v u:Value} (hne:o ≠ o') (h:w.cell? ⟨g,o,none⟩=some u):(w.setCell ⟨g,o',none⟩ v).cell? ⟨g,o,none⟩=some u:=by
 rw [World.cell?_setCell_other _ _ _ _ (fun e=>hne (congrArg Addr.off e).symm)];exact h
theorem ints_under {w:World}{v:Value}{zs:List Int} (o:Obj) (h:IntSl w v zs):IntSl (w.alloc o) v zs:=h.below (below_new w o)
theorem ints_set {w:World}{g g' o n c:Nat}{u:Value}{zs:List Int} (hne:g ≠ g') (h:IntSl w (.slice (some ⟨g,0,none⟩) n c) zs):IntSl (w.setCell ⟨g',o,none⟩ u) (.slice (some ⟨g,0,none⟩) n c) zs:=
 h.setCell (a:=⟨g',o,none⟩) (fun k hk=>by cases hk;exact hne) u
theorem intsl_lt {w:World}{g n c:Nat}{zs:List Int} (h:IntSl w (.slice (some ⟨g,0,none⟩) n c) zs) (hn:0 < n):g < w.heap.size:=by
 obtain ⟨a,cap,he,_,h,_⟩:=h
 injection he with e1 e2 e3
 rcases h with h | ⟨b,off,h,hc⟩
 ·subst h;simp at e2;omega
 ·rw [← e1] at h
  cases h
  have:=hc 0 (by omega)
  exact World.block_lt_of_cell? w _ this
theorem with_nil {w:World}{p:Prop} (g:Nat) (M:Nat) (h:w.heap[g]?=some (Obj.cells (nilRows M) 23)) (k:w.heap[g]?=some (Obj.cells (nilRows M) 23)∧g < w.heap.size→p):p:=k ⟨h,(Array.getElem?_eq_some_iff.1 h).1⟩
theorem cell_drew {w:World}{a:Addr}{v:Value} (h:w.cell? a=some v):w.drew.cell? a=some v:=h
theorem tab_set {w:World}{g:Nat}{a b c:Value} (h0:w.cell? ⟨g,0,none⟩=some (.slice none 0 0)) (h1:w.cell? ⟨g,1,none⟩=some (.int .i64 0)) (h2:w.cell? ⟨g,2,none⟩=some (.slice none 0 0)) :
  (((w.setCell ⟨g,0,none⟩ a).setCell ⟨g,1,none⟩ b).setCell ⟨g,2,none⟩ c).cell? ⟨g,0,none⟩=some a∧(((w.setCell ⟨g,0,none⟩ a).setCell ⟨g,1,none⟩ b).setCell ⟨g,2,none⟩ c).cell? ⟨g,1,none⟩=some b∧(((w.setCell ⟨g,0,none⟩ a).setCell ⟨g,1,none⟩ b).setCell ⟨g,2,none⟩ c).cell? ⟨g,2,none⟩=some c:=
 ⟨cell_set_off (by decide) (cell_set_off (by decide) (cell_set_eq h0)),cell_set_off (by decide) (cell_set_eq (cell_set_off (by decide) h1)),cell_set_eq (cell_set_off (by decide) (cell_set_off (by decide) h2))⟩
end Go.Proofs.YtpiacnnifdjlkabGreatDoor
