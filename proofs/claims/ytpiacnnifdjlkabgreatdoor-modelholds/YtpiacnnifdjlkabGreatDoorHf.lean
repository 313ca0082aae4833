import Derived.Test.YtpiacnnifdjlkabGreatDoorHi
import Derived.Test.YtpiacnnifdjlkabGreatDoorYj
import Derived.Laws.IdiomStrings
import Derived.Test.YtpiacnnifdjlkabGreatDoorGg
import Derived.Test.YtpiacnnifdjlkabGreatDoorCx
set_option maxRecDepth 100000
set_option maxHeartbeats 8000000
namespace Go.Proofs.YtpiacnnifdjlkabGreatDoor
open Go.RowKit Go.Sort
def signL:List UInt8:=[38,124,46,85,82]
theorem sign_byte (n:Nat) (b:UInt8) (h:signL[n]?=some b) (z:Int) (hz:z=n) (W:World):(Instr.index 9 (.string ⟨#[38,124,46,85,82]⟩) (.int .i64 z)).run Tryz.prog W=.ok (.int .u8 (b.toNat:Int)) W:=run_byte W signL n z b hz h
theorem sign_is (n K:Nat) (hn:4≤n∧n≤8) (hK:K=4 ∨ K=5 ∨ K=7 ∨ K=8) (h6:n ≠ 6):∃ b,signL[n - 4]?=some b∧(((signB K).toNat:Int) == (b.toNat:Int))=decide (n=K):=by
 obtain rfl | rfl | rfl | rfl:n=4 ∨ n=5 ∨ n=7 ∨ n=8:=by omega
 all_goals
  refine ⟨_,rfl,?_⟩
  rcases hK with rfl | rfl | rfl | rfl <;> decide
def kAt (K n:Nat):Int:=if K < n then (K:Int) else 0
theorem kAt_is {K n:Nat} (h:n=K):kAt K (n+1)=(n:Int):=by unfold kAt;rw [if_pos (by omega),h]
theorem kAt_not {K n:Nat} (h:n ≠ K):kAt K (n+1)=kAt K n:=by
 unfold kAt
 by_cases h2:K < n
 ·rw [if_pos h2,if_pos (by omega)]
 ·rw [if_neg h2,if_neg (by omega)]
theorem ref_pair {T:List UInt8}{p q1 q2:Nat}{g1 g2:Nat→List Nd} (K:Nat) (hK:K=4 ∨ K=5 ∨ K=7 ∨ K=8) (h0:T[p]?=some 40) (hN1:RefAt T (p+1) q1 g1) (h1:T[q1]?=some 32) (h2:T[q1+1]?=some (signB K)) (h3:T[q1+2]?=some 32) (hN2:RefAt T (q1+3) q2 g2) (h4:T[q2]?=some 41) (hg1:∀ m,0 < (g1 m).length) (hg2:∀ m,0 < (g2 m).length) (hT:T.length≤30000) :
  RefAt T p (q2+1) (fun m=>g1 m ++ (g2 (m+(g1 m).length) ++ [⟨K,(m+(g1 m).length - 1:Nat),(m+(g1 m).length+(g2 (m+(g1 m).length)).length - 1:Nat),0⟩])):=by
 intro w base a c out hown hB hn
 have hp1:=hg1 out.length
 have hp2:=hg2 (out.length+(g1 out.length).length)
 dsimp only at hn ⊢
 rw [List.length_append,List.length_append,List.length_cons,List.length_nil] at hn
 have HN1:=hide (hN1 w base a c out hown hB (by omega))
 have hc:((p+1:Nat):Int)=(p:Int)+1:=by omega
 rw [hc] at HN1
 rw [← List.append_assoc,← List.append_assoc]
 have hLl:(out ++ g1 out.length).length=out.length+(g1 out.length).length:=List.length_append
 have HN2:Hid (∀ (w:World) (a:Option Addr) (c:Nat),w.ownsRow base 55 4 (.slice a (out ++ g1 out.length).length c) (out ++ g1 out.length).length (ndCells (out ++ g1 out.length))→base≤w.heap.size →
   Calls Tryz.prog 85 #[.slice a (out ++ g1 out.length).length c,.string ⟨T.toArray⟩,.int .i64 ((q1:Int)+3)] w fun e w'=>∃ a' c',e=.returned (.tuple #[.slice a' (out ++ g1 out.length ++ g2 (out.length+(g1 out.length).length)).length c',.int .i64 q2,.bool true])∧w'.ownsRow base 55 4 (.slice a' (out ++ g1 out.length ++ g2 (out.length+(g1 out.length).length)).length c') (out ++ g1 out.length ++ g2 (out.length+(g1 out.length).length)).length (ndCells (out ++ g1 out.length ++ g2 (out.length+(g1 out.length).length)))∧Below base w w'):=hide fun w a c ho hb=>by
  have:=hN2 w base a c (out ++ g1 out.length) ho hb (by rw [hLl];omega)
  rw [hLl] at this ⊢
  exact this
 have hMl:(out ++ g1 out.length ++ g2 (out.length+(g1 out.length).length)).length=out.length+(g1 out.length).length+(g2 (out.length+(g1 out.length).length)).length:=by rw [List.length_append,hLl]
 rw [show ((out.length+(g1 out.length).length - 1:Nat):Int)=((out ++ g1 out.length).length:Int) - 1 by rw [hLl];omega]
 rw [show ((out.length+(g1 out.length).length+(g2 (out.length+(g1 out.length).length)).length - 1:Nat):Int)=((out ++ g1 out.length ++ g2 (out.length+(g1 out.length).length)).length:Int) - 1 by rw [hMl];omega]
 have hL1:1≤(out ++ g1 out.length).length:=by omega
 have hL2:(out ++ g1 out.length).length≤100000:=by omega
 have hM1:1≤(out ++ g1 out.length ++ g2 (out.length+(g1 out.length).length)).length:=by omega
 have hM2:(out ++ g1 out.length ++ g2 (out.length+(g1 out.length).length)).length≤100000:=by omega
 clear hLl hMl
 generalize g2 (out.length+(g1 out.length).length)=G2 at *
 generalize out ++ g1 out.length=L at *
 generalize L ++ G2=M at *
 have hsT:(⟨T.toArray⟩:ByteArray).size=T.length:=by simp [ByteArray.size]
 have hlt:p < T.length:=(List.getElem?_eq_some_iff.1 h0).1
 have hl3:q1+2 < T.length:=(List.getElem?_eq_some_iff.1 h3).1
 have hl4:q2 < T.length:=(List.getElem?_eq_some_iff.1 h4).1
 have hg0:¬ ((T.length:Int)≤(p:Int)):=by omega
 have HB:=hide hB
 have HK:=hide hK
 have i0:∀ W,(Instr.index 9 (.string ⟨T.toArray⟩) (.int .i64 (p:Int))).run Tryz.prog W=.ok (.int .u8 40) W:=fun W=>run_byte W T p (p:Int) 40 rfl h0
 have I1:Hid (∀ W,(Instr.index 9 (.string ⟨T.toArray⟩) (.int .i64 (q1:Int))).run Tryz.prog W=.ok (.int .u8 32) W):=hide fun W=>run_byte W T q1 (q1:Int) 32 rfl h1
 have I2:Hid (∀ W,(Instr.index 9 (.string ⟨T.toArray⟩) (.int .i64 ((q1:Int)+1))).run Tryz.prog W=.ok (.int .u8 ((signB K).toNat:Int)) W):=hide fun W=>run_byte W T (q1+1) ((q1:Int)+1) (signB K) (by omega) h2
 have I3:Hid (∀ W,(Instr.index 9 (.string ⟨T.toArray⟩) (.int .i64 ((q1:Int)+2))).run Tryz.prog W=.ok (.int .u8 32) W):=hide fun W=>run_byte W T (q1+2) ((q1:Int)+2) 32 (by omega) h3
 have I4:Hid (∀ W,(Instr.index 9 (.string ⟨T.toArray⟩) (.int .i64 (q2:Int))).run Tryz.prog W=.ok (.int .u8 41) W):=hide fun W=>run_byte W T q2 (q2:Int) 41 rfl h4
 clear hN1 hN2 hown hg1 hg2 hp1 hp2 hn hc h0 h1 h2 h3 h4
 go_enter Tryz.func85,Tryz.ntmps85
 go_wp2_with (fail)
 refine HN1.out.mono ?_
 rintro e w1 ⟨a1,c1,rfl,ho1,hb1⟩
 have HO1:=hide ho1
 have HB1:=hide hb1
 have hB1:base≤w1.heap.size:=Nat.le_trans HB.out hb1.size
 clear ho1 hb1 HN1 i0 hg0
 go_wp2_with (fail)
 go_loopw [15,18,19] (fun s15 s18 s19 wr=>∃ j:Nat,j≤3∧s15=.int .i64 ((q1:Int)+(j:Int))∧s18=.int .i64 (if 2≤j then (K:Int) else 0)∧s19=.int .i64 j∧Hid (Below w1.heap.size w1 wr)) (fun _ _ s19 _=>3 - (intOf s19).toNat)
 case atStart=>exact ⟨0,by omega,by simp,rfl,rfl,hide (Below.refl _ _)⟩
 case round =>
  obtain ⟨j,hj,rfl,rfl,rfl,hb⟩:=hrel
  have hcase:j=0 ∨ j=1 ∨ j=2 ∨ j=3:=by omega
  rcases hcase with rfl | rfl | rfl | rfl
  ·have i1:=I1.out
   have hgq:¬ ((T.length:Int)≤(q1:Int)):=by omega
   go_wp2_with (fail)
   exact ⟨⟨1,by omega,by simp,by simp,rfl,hb⟩,by simp [intOf]⟩
  ·have hgq:¬ ((T.length:Int)≤(q1:Int)+1):=by omega
   go_wp2_with (fail)
   go_loopw [18,20] (fun s18 s20 wr2=>∃ n:Nat,4≤n∧n≤9∧s18=.int .i64 (kAt K n)∧s20=.int .i64 n∧Hid (Below w1.heap.size w1 wr2)) (fun _ s20 _=>9 - (intOf s20).toNat)
   case atStart=>exact ⟨4,by omega,by omega,by have:=HK.out;simp [kAt];omega,rfl,hb⟩
   case round =>
    clear hb
    obtain ⟨n,hn4,hn9,rfl,rfl,hb⟩:=hrel
    by_cases hn8:n≤8
    ·by_cases h6:n=6
     ·subst h6
      have HKA:=hide (kAt_not (K:=K) (n:=6) (by have:=HK.out;omega))
      generalize kAt K 6=kv at *
      go_wp2_with (fail)
      (refine wp_region_quiet_lit (by kernel_rfl) (by kernel_rfl) ?_;(repeat (go_big_quiet_step (fail)));refine wpQuiet_nil ?_;intro _ hw';obtain ⟨nq,hw''⟩:=hw';subst hw'')
      have HB2:=hide (below_drewN hb.out nq)
      go_wp2_with (fail)
      exact ⟨⟨7,by omega,by omega,by rw [HKA.out],rfl,HB2⟩,by simp [intOf]⟩
     ·obtain ⟨b,hb',hcmp⟩:=sign_is n K ⟨hn4,hn8⟩ HK.out h6
      have i2:=I2.out
      have i5:=sign_byte (n - 4) b hb' ((n:Int) - 4) (by omega)
      have hd:((n:Int) != 6)=true:=by rw [bne_iff_ne];omega
      by_cases hnK:n=K
      ·rw [decide_eq_true hnK] at hcmp
       have HKA:=hide (kAt_is hnK)
       generalize kAt K n=kv at *
       clear hb' hnK
       go_wp2_with (fail)
       (refine wp_region_quiet_lit (by kernel_rfl) (by kernel_rfl) ?_;(repeat (go_big_quiet_step (fail)));refine wpQuiet_nil ?_;intro _ hw';obtain ⟨nq,hw''⟩:=hw';subst hw'')
       have HB2:=hide (below_drewN hb.out nq)
       go_wp2_with (fail)
       exact ⟨⟨n+1,by omega,by omega,by rw [HKA.out],by go_num,HB2⟩,by simp [intOf];omega⟩
      ·rw [decide_eq_false hnK] at hcmp
       have HKA:=hide (kAt_not hnK)
       generalize kAt K n=kv at *
       clear hb' hnK
       go_wp2_with (fail)
       (refine wp_region_quiet_lit (by kernel_rfl) (by kernel_rfl) ?_;(repeat (go_big_quiet_step (fail)));refine wpQuiet_nil ?_;intro _ hw';obtain ⟨nq,hw''⟩:=hw';subst hw'')
       have HB2:=hide (below_drewN hb.out nq)
       go_wp2_with (fail)
       exact ⟨⟨n+1,by omega,by omega,by rw [HKA.out],by go_num,HB2⟩,by simp [intOf];omega⟩
    ·obtain rfl:n=9:=by omega
     have hk9:kAt K 9=(K:Int):=by have:=HK.out;unfold kAt;rw [if_pos (by omega)]
     rw [hk9]
     have hk0:((K:Int) == 0)=false:=by have:=HK.out;rw [beq_eq_false_iff_ne];omega
     clear hk9
     go_wp2_with (fail)
     exact ⟨⟨2,by omega,by simp;omega,by simp,rfl,hb⟩,by simp [intOf]⟩
  ·have i1:=I3.out
   have hgq:¬ ((T.length:Int)≤(q1:Int)+2):=by omega
   go_wp2_with (fail)
   exact ⟨⟨3,by omega,by simp;omega,by simp,rfl,hb⟩,by simp [intOf]⟩
  ·have HOr:=hide (own_below HO1.out hb.out)
   have HBr:=hide (HB1.out.trans (hb.out.mono hB1))
   have hBr:base≤wr.heap.size:=Nat.le_trans hB1 hb.out.size
   clear hb I1 I2 I3
   go_wp2_with (fail)
   refine (HN2.out _ _ _ HOr.out hBr).mono ?_
   rintro e w3 ⟨a3,c3,rfl,ho3,hb3⟩
   have HO3:=hide ho3
   have HB3:=hide (HBr.out.trans hb3)
   have hB3:base≤w3.heap.size:=Nat.le_trans hBr hb3.size
   have i4:=I4.out
   have hgq:¬ ((T.length:Int)≤(q2:Int)):=by omega
   clear ho3 hb3 HN2 I4 HO1 HOr HBr HB1
   go_wp2_with (at_builtin;refine wp_app_node rfl (.tmp 195) (.tmp 202) rfl base M.length _ (ndCells M) rfl (HO3.out.alloc _) w3.heap.size 1 ⟨(K:Int),(L.length:Int) - 1,(M.length:Int) - 1,0⟩ rfl (cell_top _ _ _ _ _ _ rfl rfl) (cell_top _ _ _ _ _ _ rfl rfl) (cell_top _ _ _ _ _ _ rfl rfl) (cell_top _ _ _ _ _ _ rfl rfl) (by omega) (by simp;omega) ?_;intro g8 cap8 w8 hown8 hgrow8;have HR8:=hide (own_snoc ⟨(K:Int),(L.length:Int) - 1,(M.length:Int) - 1,0⟩ (below_new _ _) hB3 (HO3.out.alloc _) hown8 hgrow8);clear hown8 hgrow8)
   go_ret3
   exact ⟨_,_,by simp,HR8.out.1,HB3.out.trans HR8.out.2⟩
theorem one_byte (w:World) (t:TypeId) (c:UInt8):(convert 132 9 (.slice (some ⟨w.heap.size,0,none⟩) 1 1)).run Tryz.prog (w.alloc (Obj.cells #[.int .u8 (c.toNat:Int)] t))=.ok (.string ⟨#[c]⟩) (w.alloc (Obj.cells #[.int .u8 (c.toNat:Int)] t)):=
 run_convert_bytes_back (P:=Tryz.prog) (w.alloc (Obj.cells #[.int .u8 (c.toNat:Int)] t)) 132 9 5 ⟨w.heap.size,0,none⟩ 1 [c] (by kernel_rfl) (by kernel_rfl) (by kernel_rfl) (fun j hj=>by
  have:j=0:=by simpa using hj
  subst this
  exact cell_top _ _ _ _ _ _ rfl rfl)
theorem digits_few (w:World) (n:Int) (h:0≤n∧n≤2) :
  Calls Tryz.prog 43 #[.int .i64 n] w fun e w'=>e=.returned (.string ⟨#[UInt8.ofNat (48+n.toNat)]⟩)∧Below w.heap.size w w':=by
 obtain rfl | rfl | rfl:n=0 ∨ n=1 ∨ n=2:=by omega
 ·have hc:=one_byte w 5 48
  have e:(((48:UInt8).toNat:Nat):Int)=48:=rfl
  rw [e] at hc
  go_enter Tryz.func43,Tryz.ntmps43
  go_wp2_with (fail)
  go_ret
  exact ⟨rfl,(by repeat (first | exact Below.refl _ _ | assumption | refine below_drewN ?_ _ | refine Below.drew ?_ | refine Below.alloc ?_ (by simp <;> omega) _ | refine below_trans ?_ (by assumption)))⟩
 ·have hc:=one_byte w 5 49
  have e:(((49:UInt8).toNat:Nat):Int)=49:=rfl
  rw [e] at hc
  go_enter Tryz.func43,Tryz.ntmps43
  go_wp2_with (fail)
  go_ret
  exact ⟨rfl,(by repeat (first | exact Below.refl _ _ | assumption | refine below_drewN ?_ _ | refine Below.drew ?_ | refine Below.alloc ?_ (by simp <;> omega) _ | refine below_trans ?_ (by assumption)))⟩
 ·have hc:=one_byte w 5 50
  have e:(((50:UInt8).toNat:Nat):Int)=50:=rfl
  rw [e] at hc
  go_enter Tryz.func43,Tryz.ntmps43
  go_wp2_with (fail)
  go_ret
  exact ⟨rfl,(by repeat (first | exact Below.refl _ _ | assumption | refine below_drewN ?_ _ | refine Below.drew ?_ | refine Below.alloc ?_ (by simp <;> omega) _ | refine below_trans ?_ (by assumption)))⟩
def ShowOk (F:List Nd) (i:Nat):Prop:=∀ (w:World) (v:Value),NodeSl w v F →
 Calls Tryz.prog 136 #[v,.int .i64 (i:Nat)] w fun e w'=>e=.returned (.string ⟨(sh F i).toArray⟩)∧Below w.heap.size w w'
theorem show_true {F:List Nd} (hF:AllOk F) (i:Nat) (hi:i < F.length) (hk:(F.getD i nd0).k=1):ShowOk F i:=by
 intro w v hv
 rw [sh_eq hF i hi]
 obtain ⟨a,cap,rfl,hm,hc,-⟩:=hv
 unfold maxLen at hm
 rcases hc with hc | ⟨b,off,rfl,hc⟩
 ·subst hc;simp at hi
 obtain ⟨c0,c1,c2,c3⟩:=hc i hi
 generalize hx:F.getD i nd0=x at *
 clear hc hx
 obtain ⟨k,xa,xb,xn⟩:=x
 dsimp only at *
 subst hk
 have e:shS ⟨1,xa,xb,xn⟩ (sh F)=[116,114,117,101]:=by simp [shS]
 rw [e]
 go_enter Tryz.func136,Tryz.ntmps136
 go_wp2_with (fail)
 go_ret
 exact ⟨rfl,(by repeat (first | exact Below.refl _ _ | assumption | refine below_drewN ?_ _ | refine Below.drew ?_ | refine Below.alloc ?_ (by simp <;> omega) _ | refine below_trans ?_ (by assumption)))⟩
theorem show_prop {F:List Nd} (hF:AllOk F) (i:Nat) (hi:i < F.length) (hk:(F.getD i nd0).k=2):ShowOk F i:=by
 intro w v hv
 rw [sh_eq hF i hi]
 have hn:=(node_ok (hF i hi)).2.2.2 hk
 obtain ⟨a,cap,rfl,hm,hc,-⟩:=hv
 unfold maxLen at hm
 rcases hc with hc | ⟨b,off,rfl,hc⟩
 ·subst hc;simp at hi
 obtain ⟨c0,c1,c2,c3⟩:=hc i hi
 generalize hx:F.getD i nd0=x at *
 clear hc hx
 obtain ⟨k,xa,xb,xn⟩:=x
 dsimp only at *
 subst hk
 have e:shS ⟨2,xa,xb,xn⟩ (sh F)=[112] ++ [UInt8.ofNat (48+xn.toNat)]:=by simp [shS]
 rw [e]
 have HD:Hid (∀ W,Calls Tryz.prog 43 #[.int .i64 xn] W fun e w'=>e=.returned (.string ⟨#[UInt8.ofNat (48+xn.toNat)]⟩)∧Below W.heap.size W w'):=hide fun W=>digits_few W xn hn
 have hadd:(⟨#[112]⟩:ByteArray) ++ ⟨#[UInt8.ofNat (48+xn.toNat)]⟩=⟨([112] ++ [UInt8.ofNat (48+xn.toNat)]).toArray⟩:=str_app [112] [_]
 generalize UInt8.ofNat (48+xn.toNat)=d at *
 clear hn
 go_enter Tryz.func136,Tryz.ntmps136
 go_wp2_with (fail)
 refine (HD.out _).mono ?_
 rintro e w1 ⟨rfl,hb1⟩
 go_wp2_with (fail)
 go_ret
 exact ⟨rfl,(by repeat (first | exact Below.refl _ _ | assumption | refine below_drewN ?_ _ | refine Below.drew ?_ | refine Below.alloc ?_ (by simp <;> omega) _ | refine below_trans ?_ (by assumption)))⟩
theorem show_not {F:List Nd} (hF:AllOk F) (h12:F.length≤12) (i:Nat) (hi:i < F.length) (hk:(F.getD i nd0).k=3) (ih:ShowOk F (F.getD i nd0).a.toNat):ShowOk F i:=by
 intro w v hv
 rw [sh_eq hF i hi]
 obtain ⟨-,⟨a0,a1,-⟩,-,-⟩:=node_ok (hF i hi)
 have a2:=a1 (by omega)
 have hl:=sh_len hF (F.getD i nd0).a.toNat (by omega)
 have hpw:2 ^ ((F.getD i nd0).a.toNat+1)≤2 ^ 13:=Nat.pow_le_pow_right (by decide) (by omega)
 have HV:=hide hv
 obtain ⟨a,cap,rfl,hm,hc,-⟩:=hv
 unfold maxLen at hm
 rcases hc with hc | ⟨b,off,rfl,hc⟩
 ·subst hc;simp at hi
 obtain ⟨c0,c1,c2,c3⟩:=hc i hi
 generalize hx:F.getD i nd0=x at *
 clear hc hx
 obtain ⟨k,xa,xb,xn⟩:=x
 dsimp only at *
 subst hk
 have e:shS ⟨3,xa,xb,xn⟩ (sh F)=[33] ++ sh F xa.toNat:=by simp [shS]
 rw [e,← str_app]
 have exa:((xa.toNat:Nat):Int)=xa:=by omega
 have HI:Hid (∀ W,Below w.heap.size w W→Calls Tryz.prog 136 #[.slice (some ⟨b,off,none⟩) F.length cap,.int .i64 xa] W fun e w'=>e=.returned (.string ⟨(sh F xa.toNat).toArray⟩)∧Below W.heap.size W w'):=hide fun W hb=>by
  have:=ih W _ (HV.out.below hb)
  rw [exa] at this
  exact this
 have hsz:(⟨(sh F xa.toNat).toArray⟩:ByteArray).size≤100000:=by
  show (sh F xa.toNat).toArray.size≤100000
  simp;omega
 clear ih hl hpw exa e
 generalize (⟨(sh F xa.toNat).toArray⟩:ByteArray)=B at *
 go_enter Tryz.func136,Tryz.ntmps136
 go_wp2_with (fail)
 refine (HI.out _ ?_).mono ?_
 focus (exact (by repeat (first | exact Below.refl _ _ | assumption | refine below_drewN ?_ _ | refine Below.drew ?_ | refine Below.alloc ?_ (by simp <;> omega) _ | refine below_trans ?_ (by assumption))))
 rintro e w1 ⟨rfl,hb1⟩
 go_wp2_with (fail)
 go_ret
 exact ⟨rfl,(by repeat (first | exact Below.refl _ _ | assumption | refine below_drewN ?_ _ | refine Below.drew ?_ | refine Below.alloc ?_ (by simp <;> omega) _ | refine below_trans ?_ (by assumption)))⟩
theorem show_next {F:List Nd} (hF:AllOk F) (h12:F.length≤12) (i:Nat) (hi:i < F.length) (hk:(F.getD i nd0).k=6) (ih:ShowOk F (F.getD i nd0).a.toNat):ShowOk F i:=by
 intro w v hv
 rw [sh_eq hF i hi]
 obtain ⟨-,⟨a0,a1,-⟩,-,-⟩:=node_ok (hF i hi)
 have a2:=a1 (by omega)
 have hl:=sh_len hF (F.getD i nd0).a.toNat (by omega)
 have hpw:2 ^ ((F.getD i nd0).a.toNat+1)≤2 ^ 13:=Nat.pow_le_pow_right (by decide) (by omega)
 have HV:=hide hv
 obtain ⟨a,cap,rfl,hm,hc,-⟩:=hv
 unfold maxLen at hm
 rcases hc with hc | ⟨b,off,rfl,hc⟩
 ·subst hc;simp at hi
 obtain ⟨c0,c1,c2,c3⟩:=hc i hi
 generalize hx:F.getD i nd0=x at *
 clear hc hx
 obtain ⟨k,xa,xb,xn⟩:=x
 dsimp only at *
 subst hk
 have e:shS ⟨6,xa,xb,xn⟩ (sh F)=[88] ++ sh F xa.toNat:=by simp [shS]
 rw [e,← str_app]
 have exa:((xa.toNat:Nat):Int)=xa:=by omega
 have HI:Hid (∀ W,Below w.heap.size w W→Calls Tryz.prog 136 #[.slice (some ⟨b,off,none⟩) F.length cap,.int .i64 xa] W fun e w'=>e=.returned (.string ⟨(sh F xa.toNat).toArray⟩)∧Below W.heap.size W w'):=hide fun W hb=>by
  have:=ih W _ (HV.out.below hb)
  rw [exa] at this
  exact this
 have hsz:(⟨(sh F xa.toNat).toArray⟩:ByteArray).size≤100000:=by
  show (sh F xa.toNat).toArray.size≤100000
  simp;omega
 clear ih hl hpw exa e
 generalize (⟨(sh F xa.toNat).toArray⟩:ByteArray)=B at *
 go_enter Tryz.func136,Tryz.ntmps136
 go_wp2_with (fail)
 refine (HI.out _ ?_).mono ?_
 focus (exact (by repeat (first | exact Below.refl _ _ | assumption | refine below_drewN ?_ _ | refine Below.drew ?_ | refine Below.alloc ?_ (by simp <;> omega) _ | refine below_trans ?_ (by assumption))))
 rintro e w1 ⟨rfl,hb1⟩
 go_wp2_with (fail)
 go_ret
 exact ⟨rfl,(by repeat (first | exact Below.refl _ _ | assumption | refine below_drewN ?_ _ | refine Below.drew ?_ | refine Below.alloc ?_ (by simp <;> omega) _ | refine below_trans ?_ (by assumption)))⟩
def twoR (fv:Value) (cb:Nat) (xa xb k:Int) (sb:UInt8) (A B:List UInt8) (j:Nat) (v:Value) (w:World):Prop:=
 match j with
 | 0=>v=fv
 | 1=>v=.pointer (some ⟨cb,1,none⟩)
 | 2=>v=.int .i64 xa
 | 3=>v=.string ⟨A.toArray⟩
 | 4=>v=.string ⟨([40] ++ A).toArray⟩
 | 5=>v=.string ⟨([40] ++ A ++ [32]).toArray⟩
 | 6=>v=.pointer (some ⟨cb,0,none⟩)
 | 7=>v=.int .i64 k
 | 8=>v=.int .i64 (k - 4)
 | 9=>v=.int .u8 (sb.toNat:Int)
 | 10=>∃ g,v=.slice (some ⟨g,0,none⟩) 1 1∧w.cell? ⟨g,0,none⟩=some (.int .u8 (sb.toNat:Int))
 | 11=>v=.string ⟨#[sb]⟩
 | 12=>v=.string ⟨([40] ++ A ++ [32] ++ [sb]).toArray⟩
 | 13=>v=.string ⟨([40] ++ A ++ [32] ++ [sb] ++ [32]).toArray⟩
 | 14=>v=fv
 | 15=>v=.pointer (some ⟨cb,2,none⟩)
 | 16=>v=.int .i64 xb
 | 17=>v=.string ⟨B.toArray⟩
 | 18=>v=.string ⟨([40] ++ A ++ [32] ++ [sb] ++ [32] ++ B).toArray⟩
 | 19=>v=.string ⟨([40] ++ A ++ [32] ++ [sb] ++ [32] ++ B ++ [41]).toArray⟩
 | 20=>v=.string ⟨([40] ++ A ++ [32] ++ [sb] ++ [32] ++ B ++ [41]).toArray⟩
 | _=>True
theorem run_add (A B:List UInt8) (h:A.length+B.length≤1000000) (W:World):(binOp .add 9 (.string ⟨A.toArray⟩) (.string ⟨B.toArray⟩)).run Tryz.prog W=.ok (.string ⟨(A ++ B).toArray⟩) W:=by
 have h1:(⟨A.toArray⟩:ByteArray).size=A.length:=by simp [ByteArray.size]
 have h2:(⟨B.toArray⟩:ByteArray).size=B.length:=by simp [ByteArray.size]
 rw [← str_app]
 simp [go_sem,h1,h2]
 omega
theorem op_add {a:Act}{o:Oper}{x y:Operand} (A B:List UInt8) (W:World) (ho:o.op=.binOp .add 9 x y 9) (hx:a.eval x=.string ⟨A.toArray⟩) (hy:a.eval y=.string ⟨B.toArray⟩) (h:A.length+B.length≤1000000):(execOp a.eval o).run Tryz.prog W=.ok (.value (.string ⟨(A ++ B).toArray⟩)) W:=by
 unfold execOp
 simp only [ho,hx,hy]
 have hr:=run_add A B h W
 simp [eqGuard,hr]
theorem twoR_keep {fv:Value}{cb:Nat}{xa xb k:Int}{sb:UInt8}{A B:List UInt8}{w w':World} (hb:Below w.heap.size w w') (j:Nat) (x:Value) (h:twoR fv cb xa xb k sb A B j x w):twoR fv cb xa xb k sb A B j x w':=by
 by_cases hj:j=10
 ·subst hj
  obtain ⟨g,h1,h2⟩:=h
  exact ⟨g,h1,cell_keep h2 hb⟩
 ·unfold twoR at h ⊢
  split at h
  all_goals first | exact h | exact absurd rfl hj
theorem sign_at (k:Int) (hk:k=4 ∨ k=5 ∨ k=7 ∨ k=8) (W:World):(Instr.index 9 (.string ⟨#[38,124,46,85,82]⟩) (.int .i64 (k - 4))).run Tryz.prog W=.ok (.int .u8 ((signB k).toNat:Int)) W:=by
 rcases hk with rfl | rfl | rfl | rfl <;> rfl
theorem show_two {F:List Nd} (hF:AllOk F) (h12:F.length≤12) (i:Nat) (hi:i < F.length) (hk:(F.getD i nd0).k=4 ∨ (F.getD i nd0).k=5 ∨ (F.getD i nd0).k=7 ∨ (F.getD i nd0).k=8) (iha:ShowOk F (F.getD i nd0).a.toNat) (ihb:ShowOk F (F.getD i nd0).b.toNat):ShowOk F i:=by
 intro w v hv
 rw [sh_eq hF i hi]
 obtain ⟨-,⟨a0,a1,-⟩,⟨b0,b1,-⟩,-⟩:=node_ok (hF i hi)
 have a2:=a1 (by omega)
 have b2:=b1 (by omega)
 have HV:=hide hv
 obtain ⟨a,cap,rfl,hm,hc,-⟩:=hv
 unfold maxLen at hm
 rcases hc with hc | ⟨b,off,rfl,hc⟩
 ·subst hc;simp at hi
 obtain ⟨c0,c1,c2,c3⟩:=hc i hi
 generalize hx:F.getD i nd0=x at *
 clear hc hx
 obtain ⟨k,xa,xb,xn⟩:=x
 dsimp only at *
 have e:shS ⟨k,xa,xb,xn⟩ (sh F)=[40] ++ sh F xa.toNat ++ [32] ++ [signB k] ++ [32] ++ sh F xb.toNat ++ [41]:=by
  unfold shS
  rw [if_neg (by dsimp only;omega),if_neg (by dsimp only;omega),if_neg (by dsimp only;omega),if_neg (by dsimp only;omega)]
  simp
 rw [e]
 have exa:((xa.toNat:Nat):Int)=xa:=by omega
 have exb:((xb.toNat:Nat):Int)=xb:=by omega
 have HI:Hid (∀ W,Below w.heap.size w W→Calls Tryz.prog 136 #[.slice (some ⟨b,off,none⟩) F.length cap,.int .i64 xa] W fun e w'=>e=.returned (.string ⟨(sh F xa.toNat).toArray⟩)∧Below W.heap.size W w'):=hide fun W hb=>by
  have:=iha W _ (HV.out.below hb)
  rw [exa] at this
  exact this
 have HJ:Hid (∀ W,Below w.heap.size w W→Calls Tryz.prog 136 #[.slice (some ⟨b,off,none⟩) F.length cap,.int .i64 xb] W fun e w'=>e=.returned (.string ⟨(sh F xb.toNat).toArray⟩)∧Below W.heap.size W w'):=hide fun W hb=>by
  have:=ihb W _ (HV.out.below hb)
  rw [exb] at this
  exact this
 have HK:=hide hk
 have d1:(k == 1)=false:=by rw [beq_eq_false_iff_ne];omega
 have d2:(k == 2)=false:=by rw [beq_eq_false_iff_ne];omega
 have d3:(k == 3)=false:=by rw [beq_eq_false_iff_ne];omega
 have d6:(k == 6)=false:=by rw [beq_eq_false_iff_ne];omega
 have hbk:=(show -100≤k∧k≤100 by omega)
 have hlA:=sh_len hF xa.toNat (by omega)
 have hpA:2 ^ (xa.toNat+1)≤2 ^ 13:=Nat.pow_le_pow_right (by decide) (by omega)
 have hlB:=sh_len hF xb.toNat (by omega)
 have hpB:2 ^ (xb.toNat+1)≤2 ^ 13:=Nat.pow_le_pow_right (by decide) (by omega)
 have hAl:(sh F xa.toNat).length≤100000:=by omega
 have hBl:(sh F xb.toNat).length≤100000:=by omega
 clear hlA hpA hlB hpB
 have hw4:IntKind.i64.wrap (k - 4)=k - 4:=by rcases hk with rfl | rfl | rfl | rfl <;> rfl
 clear iha ihb exa exb e a0 a1 a2 b0 b1 b2 hk
 generalize sh F xa.toNat=A at *
 generalize sh F xb.toNat=B at *
 go_enter Tryz.func136,Tryz.ntmps136
 go_wp2_with (fail)
 rename_i Q' K hK
 obtain ⟨w1,hw1⟩:∃ w1,w1=w.alloc (Obj.cells #[.int .i64 k,.int .i64 xa,.int .i64 xb,.int .i64 xn] 55):=⟨_,rfl⟩
 rw [← hw1]
 have n0:w1.cell? ⟨w.heap.size,0,none⟩=some (.int .i64 k):=by rw [hw1];exact cell_top _ _ _ _ _ _ rfl rfl
 have n1:w1.cell? ⟨w.heap.size,1,none⟩=some (.int .i64 xa):=by rw [hw1];exact cell_top _ _ _ _ _ _ rfl rfl
 have n2:w1.cell? ⟨w.heap.size,2,none⟩=some (.int .i64 xb):=by rw [hw1];exact cell_top _ _ _ _ _ _ rfl rfl
 have HB1:=hide (show Below w.heap.size w w1 by rw [hw1];exact below_new _ _)
 clear hw1 c0 c1 c2 c3
 refine wp_region_amid (fun W=>Below w1.heap.size w1 W) (twoR (.slice (some ⟨b,off,none⟩) F.length cap) w.heap.size xa xb k (signB k) A B) (by kernel_rfl) (by kernel_rfl) (Below.drew (Below.refl _ _)) ?_ ?_
 ·intro j o ho
  match j,ho with
  | 0,ho =>
   obtain rfl:=Option.some.inj ho
   exact stepOk_val fun a W vs hW he hd=>⟨_,rfl,he 0 (by kernel_rfl)⟩
  | 1,ho =>
   obtain rfl:=Option.some.inj ho
   clear ho
   refine stepOk_val fun a W vs hW he hd=>?_
   have e5:a.tmps[5]?.getD undef=.pointer (some ⟨w.heap.size,0,none⟩):=free_val he 5 (by kernel_rfl)
   exact ⟨.pointer (some ⟨w.heap.size,1,none⟩),by simp [execOp,go_sem,e5],rfl⟩
  | 2,ho =>
   obtain rfl:=Option.some.inj ho
   clear ho
   refine stepOk_val fun a W vs hW he hd=>?_
   have v1:a.tmps[35]?.getD undef=.pointer (some ⟨w.heap.size,1,none⟩):=dep_val hd 1 35 (by kernel_rfl) (by kernel_rfl)
   have c1:=cell_keep n1 hW
   exact ⟨.int .i64 xa,by simp [execOp,go_sem,v1,c1],rfl⟩
  | 3,ho =>
   obtain rfl:=Option.some.inj ho
   clear ho
   refine stepOk_call fun a W vs hW he hd=>?_
   have v0:a.tmps[34]?.getD undef=.slice (some ⟨b,off,none⟩) F.length cap:=dep_val hd 0 34 (by kernel_rfl) (by kernel_rfl)
   have v2:a.tmps[36]?.getD undef=.int .i64 xa:=dep_val hd 2 36 (by kernel_rfl) (by kernel_rfl)
   refine ⟨136,#[.slice (some ⟨b,off,none⟩) F.length cap,.int .i64 xa],by simp [execOp,go_sem,v0,v2],(HI.out W (below_trans HB1.out hW)).mono ?_⟩
   rintro e W' ⟨rfl,hb⟩
   exact ⟨_,rfl,below_trans hW hb,rfl,fun j x h=>twoR_keep hb j x h⟩
  | 4,ho =>
   obtain rfl:=Option.some.inj ho
   clear ho
   refine stepOk_val fun a W vs hW he hd=>?_
   have v3:a.tmps[37]?.getD undef=.string ⟨(A).toArray⟩:=dep_val hd 3 37 (by kernel_rfl) (by kernel_rfl)
   exact ⟨_,op_add ([40]) (A) W rfl rfl ((eval_tmp a 37).trans v3) (by simp;omega),rfl⟩
  | 5,ho =>
   obtain rfl:=Option.some.inj ho
   clear ho
   refine stepOk_val fun a W vs hW he hd=>?_
   have v4:a.tmps[38]?.getD undef=.string ⟨([40] ++ A).toArray⟩:=dep_val hd 4 38 (by kernel_rfl) (by kernel_rfl)
   exact ⟨_,op_add ([40] ++ A) ([32]) W rfl ((eval_tmp a 38).trans v4) rfl (by simp;omega),rfl⟩
  | 6,ho =>
   obtain rfl:=Option.some.inj ho
   clear ho
   refine stepOk_val fun a W vs hW he hd=>?_
   have e5:a.tmps[5]?.getD undef=.pointer (some ⟨w.heap.size,0,none⟩):=free_val he 5 (by kernel_rfl)
   exact ⟨.pointer (some ⟨w.heap.size,0,none⟩),by simp [execOp,go_sem,e5],rfl⟩
  | 7,ho =>
   obtain rfl:=Option.some.inj ho
   clear ho
   refine stepOk_val fun a W vs hW he hd=>?_
   have v6:a.tmps[40]?.getD undef=.pointer (some ⟨w.heap.size,0,none⟩):=dep_val hd 6 40 (by kernel_rfl) (by kernel_rfl)
   have c0:=cell_keep n0 hW
   exact ⟨.int .i64 k,by simp [execOp,go_sem,v6,c0],rfl⟩
  | 8,ho =>
   obtain rfl:=Option.some.inj ho
   clear ho
   refine stepOk_val fun a W vs hW he hd=>?_
   have v7:a.tmps[41]?.getD undef=.int .i64 k:=dep_val hd 7 41 (by kernel_rfl) (by kernel_rfl)
   exact ⟨.int .i64 (k - 4),by simp [execOp,go_sem,v7,hw4],rfl⟩
  | 9,ho =>
   obtain rfl:=Option.some.inj ho
   clear ho
   refine stepOk_val fun a W vs hW he hd=>?_
   have v8:a.tmps[42]?.getD undef=.int .i64 (k - 4):=dep_val hd 8 42 (by kernel_rfl) (by kernel_rfl)
   have hs:=sign_at k HK.out W
   exact ⟨_,by simp [execOp,Act.eval,v8,hs],rfl⟩
  | 10,ho =>
   obtain rfl:=Option.some.inj ho
   clear ho
   refine stepOk_new fun a W vs hW he hd=>?_
   have v9:a.tmps[43]?.getD undef=.int .u8 ((signB k).toNat:Int):=dep_val hd 9 43 (by kernel_rfl) (by kernel_rfl)
   exact ⟨.slice (some ⟨W.heap.size,0,none⟩) 1 1,W.alloc (Obj.cells #[.int .u8 ((signB k).toNat:Int)] 5),by simp [execOp,go_sem,v9],hW.alloc hW.size _,⟨_,rfl,cell_top _ _ _ _ _ _ rfl rfl⟩,fun j x h=>twoR_keep (below_new _ _) j x h⟩
  | 11,ho =>
   obtain rfl:=Option.some.inj ho
   clear ho
   refine stepOk_val fun a W vs hW he hd=>?_
   obtain ⟨g,v10,hg⟩:twoR (.slice (some ⟨b,off,none⟩) F.length cap) w.heap.size xa xb k (signB k) A B 10 (a.tmps[44]?.getD undef) W:=dep_val hd 10 44 (by kernel_rfl) (by kernel_rfl)
   have hcv:(convert 132 9 (.slice (some ⟨g,0,none⟩) 1 1)).run Tryz.prog W=.ok (.string ⟨#[signB k]⟩) W:=run_convert_bytes_back (P:=Tryz.prog) W 132 9 5 ⟨g,0,none⟩ 1 [signB k] (by kernel_rfl) (by kernel_rfl) (by kernel_rfl) (fun j hj=>by
    have:j=0:=by simpa using hj
    subst this
    exact hg)
   exact ⟨.string ⟨#[signB k]⟩,by simp [execOp,Act.eval,v10,hcv],rfl⟩
  | 12,ho =>
   obtain rfl:=Option.some.inj ho
   clear ho
   refine stepOk_val fun a W vs hW he hd=>?_
   have v5:a.tmps[39]?.getD undef=.string ⟨([40] ++ A ++ [32]).toArray⟩:=dep_val hd 5 39 (by kernel_rfl) (by kernel_rfl)
   have v11:a.tmps[45]?.getD undef=.string ⟨([signB k]).toArray⟩:=dep_val hd 11 45 (by kernel_rfl) (by kernel_rfl)
   exact ⟨_,op_add ([40] ++ A ++ [32]) ([signB k]) W rfl ((eval_tmp a 39).trans v5) ((eval_tmp a 45).trans v11) (by simp;omega),rfl⟩
  | 13,ho =>
   obtain rfl:=Option.some.inj ho
   clear ho
   refine stepOk_val fun a W vs hW he hd=>?_
   have v12:a.tmps[46]?.getD undef=.string ⟨([40] ++ A ++ [32] ++ [signB k]).toArray⟩:=dep_val hd 12 46 (by kernel_rfl) (by kernel_rfl)
   exact ⟨_,op_add ([40] ++ A ++ [32] ++ [signB k]) ([32]) W rfl ((eval_tmp a 46).trans v12) rfl (by simp;omega),rfl⟩
  | 14,ho =>
   obtain rfl:=Option.some.inj ho
   exact stepOk_val fun a W vs hW he hd=>⟨_,rfl,he 0 (by kernel_rfl)⟩
  | 15,ho =>
   obtain rfl:=Option.some.inj ho
   clear ho
   refine stepOk_val fun a W vs hW he hd=>?_
   have e5:a.tmps[5]?.getD undef=.pointer (some ⟨w.heap.size,0,none⟩):=free_val he 5 (by kernel_rfl)
   exact ⟨.pointer (some ⟨w.heap.size,2,none⟩),by simp [execOp,go_sem,e5],rfl⟩
  | 16,ho =>
   obtain rfl:=Option.some.inj ho
   clear ho
   refine stepOk_val fun a W vs hW he hd=>?_
   have v15:a.tmps[49]?.getD undef=.pointer (some ⟨w.heap.size,2,none⟩):=dep_val hd 15 49 (by kernel_rfl) (by kernel_rfl)
   have c2:=cell_keep n2 hW
   exact ⟨.int .i64 xb,by simp [execOp,go_sem,v15,c2],rfl⟩
  | 17,ho =>
   obtain rfl:=Option.some.inj ho
   clear ho
   refine stepOk_call fun a W vs hW he hd=>?_
   have v14:a.tmps[48]?.getD undef=.slice (some ⟨b,off,none⟩) F.length cap:=dep_val hd 14 48 (by kernel_rfl) (by kernel_rfl)
   have v16:a.tmps[50]?.getD undef=.int .i64 xb:=dep_val hd 16 50 (by kernel_rfl) (by kernel_rfl)
   refine ⟨136,#[.slice (some ⟨b,off,none⟩) F.length cap,.int .i64 xb],by simp [execOp,go_sem,v14,v16],(HJ.out W (below_trans HB1.out hW)).mono ?_⟩
   rintro e W' ⟨rfl,hb⟩
   exact ⟨_,rfl,below_trans hW hb,rfl,fun j x h=>twoR_keep hb j x h⟩
  | 18,ho =>
   obtain rfl:=Option.some.inj ho
   clear ho
   refine stepOk_val fun a W vs hW he hd=>?_
   have v13:a.tmps[47]?.getD undef=.string ⟨([40] ++ A ++ [32] ++ [signB k] ++ [32]).toArray⟩:=dep_val hd 13 47 (by kernel_rfl) (by kernel_rfl)
   have v17:a.tmps[51]?.getD undef=.string ⟨(B).toArray⟩:=dep_val hd 17 51 (by kernel_rfl) (by kernel_rfl)
   exact ⟨_,op_add ([40] ++ A ++ [32] ++ [signB k] ++ [32]) (B) W rfl ((eval_tmp a 47).trans v13) ((eval_tmp a 51).trans v17) (by simp;omega),rfl⟩
  | 19,ho =>
   obtain rfl:=Option.some.inj ho
   clear ho
   refine stepOk_val fun a W vs hW he hd=>?_
   have v18:a.tmps[52]?.getD undef=.string ⟨([40] ++ A ++ [32] ++ [signB k] ++ [32] ++ B).toArray⟩:=dep_val hd 18 52 (by kernel_rfl) (by kernel_rfl)
   exact ⟨_,op_add ([40] ++ A ++ [32] ++ [signB k] ++ [32] ++ B) ([41]) W rfl ((eval_tmp a 52).trans v18) rfl (by simp;omega),rfl⟩
  | 20,ho =>
   obtain rfl:=Option.some.inj ho
   clear ho
   refine stepOk_val fun a W vs hW he hd=>?_
   have v19:=dep_val hd 19 53 (by kernel_rfl) (by kernel_rfl)
   exact ⟨_,rfl,(eval_tmp a 53).trans v19⟩
  | j+21,ho=>simp at ho
 ·intro vs W hW hR
  have h20:=hR 20 (by decide)
  refine hK _ _ ?_
  go_wp2_with (fail)
  go_ret
  refine ⟨congrArg Ending.returned (Eq.trans (b:=vs 20) (by kernel_rfl) ?_),below_trans HB1.out hW⟩
  rw [show vs 20=_ from h20]
  simp
theorem show_any {F:List Nd} (hF:AllOk F) (h12:F.length≤12):∀ i,i < F.length→ShowOk F i:=by
 intro i
 induction i using Nat.strongRecOn with
 | ind i ih =>
  intro hi
  obtain ⟨hk,⟨a0,a1,-⟩,⟨b0,b1,-⟩,-⟩:=node_ok (hF i hi)
  by_cases h1:(F.getD i nd0).k=1
  ·exact show_true hF i hi h1
  by_cases h2:(F.getD i nd0).k=2
  ·exact show_prop hF i hi h2
  have ha:=a1 (by omega)
  have iha:=ih (F.getD i nd0).a.toNat (by omega) (by omega)
  by_cases h3:(F.getD i nd0).k=3
  ·exact show_not hF h12 i hi h3 iha
  by_cases h6:(F.getD i nd0).k=6
  ·exact show_next hF h12 i hi h6 iha
  have hb:=b1 (by omega)
  exact show_two hF h12 i hi (by omega) iha (ih (F.getD i nd0).b.toNat (by omega) (by omega))
def leafTx (x:Nd):List UInt8:=if x.k=1 then [116,114,117,101] else [112,UInt8.ofNat (48+x.n.toNat)]
def ntS (x:Nd) (g:Nat→Bool→List UInt8) (o:Bool):List UInt8:=
 if x.k=1 ∨ x.k=2 then (if o=true then 33 :: leafTx x else leafTx x)
 else if x.k=3 then g x.a.toNat (!o)
 else if x.k=6 then 88 :: g x.a.toNat o
 else 40 :: (g x.a.toNat o ++ (32 :: signB (if o=true then oppK x.k else x.k) :: 32 :: (g x.b.toNat o ++ [41])))
def ntN (F:List Nd):Nat→Nat→Bool→List UInt8
 | 0,_,_=>[]
 | f+1,i,o=>ntS (F.getD i nd0) (ntN F f) o
theorem ntS_congr {x:Nd}{g g':Nat→Bool→List UInt8} (ha:3≤x.k→g x.a.toNat=g' x.a.toNat) (hb:x.k=4 ∨ x.k=5 ∨ x.k=7 ∨ x.k=8→g x.b.toNat=g' x.b.toNat) (hk:1≤x.k∧x.k≤8) (o:Bool):ntS x g o=ntS x g' o:=by
 unfold ntS
 by_cases h1:x.k=1 ∨ x.k=2
 ·rw [if_pos h1,if_pos h1]
 rw [if_neg h1,if_neg h1,ha (by omega)]
 by_cases h3:x.k=3
 ·rw [if_pos h3,if_pos h3]
 rw [if_neg h3,if_neg h3]
 by_cases h6:x.k=6
 ·rw [if_pos h6,if_pos h6]
 rw [if_neg h6,if_neg h6,hb (by omega)]
theorem ntN_fuel {F:List Nd} (hF:AllOk F):∀ i f,i < F.length→i < f→ntN F f i=ntN F (i+1) i:=by
 intro i
 induction i using Nat.strongRecOn with
 | ind i ih =>
  intro f hi hf
  obtain ⟨g,rfl⟩:∃ g,f=g+1:=⟨f - 1,by omega⟩
  obtain ⟨hk,⟨a0,a1,_⟩,⟨b0,b1,_⟩,_⟩:=node_ok (hF i hi)
  funext o
  show ntS (F.getD i nd0) (ntN F g) o=ntS (F.getD i nd0) (ntN F i) o
  refine ntS_congr (fun h3=>?_) (fun h3=>?_) hk o
  ·have:=a1 h3
   rw [ih _ (by omega) g (by omega) (by omega),ih _ (by omega) i (by omega) (by omega)]
  ·have:=b1 h3
   rw [ih _ (by omega) g (by omega) (by omega),ih _ (by omega) i (by omega) (by omega)]
def nt (F:List Nd) (i:Nat) (o:Bool):List UInt8:=ntN F (i+1) i o
theorem nt_eq {F:List Nd} (hF:AllOk F) (i:Nat) (hi:i < F.length) (o:Bool):nt F i o=ntS (F.getD i nd0) (nt F) o:=by
 obtain ⟨hk,⟨a0,a1,_⟩,⟨b0,b1,_⟩,_⟩:=node_ok (hF i hi)
 show ntS (F.getD i nd0) (ntN F i) o=_
 refine ntS_congr (fun h3=>?_) (fun h3=>?_) hk o
 ·have:=a1 h3
  rw [ntN_fuel hF _ i (by omega) (by omega)]
  rfl
 ·have:=b1 h3
  rw [ntN_fuel hF _ i (by omega) (by omega)]
  rfl
theorem leafTx_len (x:Nd):(leafTx x).length≤4:=by
 unfold leafTx
 split <;> simp
theorem nt_len {F:List Nd} (hF:AllOk F):∀ i,i < F.length→∀ o,(nt F i o).length+6≤11 * 2 ^ i:=by
 intro i
 induction i using Nat.strongRecOn with
 | ind i ih =>
  intro hi o
  obtain ⟨hk,⟨a0,a1,_⟩,⟨b0,b1,_⟩,hxn⟩:=node_ok (hF i hi)
  rw [nt_eq hF i hi]
  generalize F.getD i nd0=x at *
  have hpos:1≤2 ^ i:=Nat.one_le_two_pow
  unfold ntS
  by_cases h1:x.k=1 ∨ x.k=2
  ·rw [if_pos h1]
   have:=leafTx_len x
   cases o
   ·simp;omega
   ·simp;omega
  rw [if_neg h1]
  have ha:=a1 (by omega)
  have hpa:2 * 2 ^ x.a.toNat≤2 ^ i:=by rw [← Nat.pow_succ'];exact Nat.pow_le_pow_right (by decide) (by omega)
  by_cases h3:x.k=3
  ·rw [if_pos h3]
   have:=ih x.a.toNat (by omega) (by omega) (!o)
   omega
  rw [if_neg h3]
  have iha:=ih x.a.toNat (by omega) (by omega) o
  by_cases h6:x.k=6
  ·rw [if_pos h6]
   simp only [List.length_cons]
   omega
  rw [if_neg h6]
  have hb:=b1 (by omega)
  have hpb:2 * 2 ^ x.b.toNat≤2 ^ i:=by rw [← Nat.pow_succ'];exact Nat.pow_le_pow_right (by decide) (by omega)
  have ihb:=ih x.b.toNat (by omega) (by omega) o
  simp only [List.length_cons,List.length_append,List.length_nil]
  omega
def NegOk (F:List Nd) (i:Nat) (o:Bool):Prop:=∀ (w:World) (v:Value),NodeSl w v F →
 Calls Tryz.prog 86 #[v,.int .i64 (i:Nat),.bool o] w fun e w'=>e=.returned (.string ⟨(nt F i o).toArray⟩)∧Below w.heap.size w w'
theorem sh_leaf {F:List Nd} (hF:AllOk F) (i:Nat) (hi:i < F.length) (hk:(F.getD i nd0).k=1 ∨ (F.getD i nd0).k=2):sh F i=leafTx (F.getD i nd0):=by
 rw [sh_eq hF i hi]
 unfold shS leafTx
 rcases hk with h | h
 ·rw [if_pos h,if_pos h]
 ·rw [if_neg (by omega),if_pos h,if_neg (by omega)]
theorem neg_leaf {F:List Nd} (hF:AllOk F) (h12:F.length≤12) (i:Nat) (hi:i < F.length) (hk:(F.getD i nd0).k=1 ∨ (F.getD i nd0).k=2) (o:Bool):NegOk F i o:=by
 intro w v hv
 rw [nt_eq hF i hi]
 have hS:=show_any hF h12 i hi
 unfold ShowOk at hS
 rw [sh_leaf hF i hi hk] at hS
 have HV:=hide hv
 have hle:=leafTx_len (F.getD i nd0)
 have e:ntS (F.getD i nd0) (nt F) o=if o=true then 33 :: leafTx (F.getD i nd0) else leafTx (F.getD i nd0):=by unfold ntS;rw [if_pos hk]
 rw [e]
 obtain ⟨a,cap,rfl,hm,hc,-⟩:=hv
 have HS:Hid (∀ W,Below w.heap.size w W→Calls Tryz.prog 136 #[.slice a F.length cap,.int .i64 (i:Nat)] W fun e w'=>e=.returned (.string ⟨(leafTx (F.getD i nd0)).toArray⟩)∧Below W.heap.size W w'):=hide fun W hb=>hS W _ (HV.out.below hb)
 unfold maxLen at hm
 rcases hc with hc | ⟨b,off,rfl,hc⟩
 ·subst hc;simp at hi
 obtain ⟨c0,c1,c2,c3⟩:=hc i hi
 clear hS e
 generalize leafTx (F.getD i nd0)=tx at *
 generalize hx:F.getD i nd0=x at *
 clear hc hx
 obtain ⟨k,xa,xb,xn⟩:=x
 dsimp only at *
 have e33:(⟨#[33]⟩:ByteArray) ++ ⟨tx.toArray⟩=⟨(33 :: tx).toArray⟩:=str_app [33] tx
 have hsz:(⟨tx.toArray⟩:ByteArray).size≤100000:=by
  show tx.toArray.size≤100000
  simp;omega
 rcases hk with rfl | rfl
 all_goals
  cases o
  ·go_enter Tryz.func86,Tryz.ntmps86
   go_wp2_with (fail)
   refine (HS.out _ (below_new _ _)).mono ?_
   rintro e w1 ⟨rfl,hb1⟩
   go_wp2_with (fail)
   go_ret
   exact ⟨rfl,below_trans (below_new _ _) hb1⟩
  ·go_enter Tryz.func86,Tryz.ntmps86
   go_wp2_with (fail)
   refine (HS.out _ (below_new _ _)).mono ?_
   rintro e w1 ⟨rfl,hb1⟩
   go_wp2_with (fail)
   go_ret
   exact ⟨rfl,below_trans (below_new _ _) hb1⟩
theorem neg_one {F:List Nd} (hF:AllOk F) (h12:F.length≤12) (i:Nat) (hi:i < F.length) (hk:(F.getD i nd0).k=3 ∨ (F.getD i nd0).k=6) (ih:∀ o,NegOk F (F.getD i nd0).a.toNat o) (o:Bool):NegOk F i o:=by
 intro w v hv
 rw [nt_eq hF i hi]
 obtain ⟨-,⟨a0,a1,-⟩,-,-⟩:=node_ok (hF i hi)
 have a2:=a1 (by omega)
 have HV:=hide hv
 obtain ⟨a,cap,rfl,hm,hc,-⟩:=hv
 unfold maxLen at hm
 rcases hc with hc | ⟨b,off,rfl,hc⟩
 ·subst hc;simp at hi
 obtain ⟨c0,c1,c2,c3⟩:=hc i hi
 have hl:=nt_len hF (F.getD i nd0).a.toNat (by omega) o
 have hpw:2 ^ ((F.getD i nd0).a.toNat)≤2 ^ 12:=Nat.pow_le_pow_right (by decide) (by omega)
 generalize hx:F.getD i nd0=x at *
 clear hc hx
 obtain ⟨k,xa,xb,xn⟩:=x
 dsimp only at *
 have exa:((xa.toNat:Nat):Int)=xa:=by omega
 have HI:Hid (∀ o W,Below w.heap.size w W→Calls Tryz.prog 86 #[.slice (some ⟨b,off,none⟩) F.length cap,.int .i64 xa,.bool o] W fun e w'=>e=.returned (.string ⟨(nt F xa.toNat o).toArray⟩)∧Below W.heap.size W w'):=hide fun o W hb=>by
  have:=ih o W _ (HV.out.below hb)
  rw [exa] at this
  exact this
 have hsz:(⟨(nt F xa.toNat o).toArray⟩:ByteArray).size≤100000:=by
  show (nt F xa.toNat o).toArray.size≤100000
  simp;omega
 clear ih hl hpw exa a0 a1 a2
 rcases hk with rfl | rfl
 ·have e:ntS ⟨3,xa,xb,xn⟩ (nt F) o=nt F xa.toNat (!o):=by simp [ntS]
  rw [e]
  clear e hsz
  have HI:=hide (HI.out (!o))
  go_enter Tryz.func86,Tryz.ntmps86
  go_wp2_with (fail)
  refine (HI.out _ (below_new _ _)).mono ?_
  rintro e w1 ⟨rfl,hb1⟩
  go_wp2_with (fail)
  go_ret
  exact ⟨rfl,below_trans (below_new _ _) hb1⟩
 ·have e:ntS ⟨6,xa,xb,xn⟩ (nt F) o=[88] ++ nt F xa.toNat o:=by simp [ntS]
  rw [e,← str_app]
  clear e
  have HI:=hide (HI.out o)
  generalize (⟨(nt F xa.toNat o).toArray⟩:ByteArray)=B at *
  go_enter Tryz.func86,Tryz.ntmps86
  go_wp2_with (fail)
  refine (HI.out _ (below_new _ _)).mono ?_
  rintro e w1 ⟨rfl,hb1⟩
  go_wp2_with (fail)
  go_ret
  exact ⟨rfl,below_trans (below_new _ _) hb1⟩
end Go.Proofs.YtpiacnnifdjlkabGreatDoor
