import Derived.Test.YtpiacnnifdjlkabGreatDoorGg
import Derived.Lib.QuietBelow
import Derived.Defers
import Derived.Recover
set_option maxRecDepth 100000
set_option maxHeartbeats 8000000
namespace Go.Proofs.YtpiacnnifdjlkabGreatDoor
open Go.RowKit Go.Sort
theorem RS.drew {w w1:World}{rb r base:Nat}{T:List UInt8}{at1:Nat}{a a1:Option Addr}{c1:Nat}{o1:List Nd} (h:RS w w1 rb r base T at1 a a1 c1 o1):RS w w1.drew rb r base T at1 a a1 c1 o1:=
 RS.trans h (RS.of_below h.rd (Below.drew (Below.refl _ _)))
theorem number_ok {w:World}{rb r base:Nat}{T:List UInt8}{at_:Nat}{a:Option Addr}{c:Nat}{out:List Nd} (h:RD w rb r base T at_ a c out) (d:UInt8) (hd:48≤d.toNat∧d.toNat≤50) (hs:T[at_]?=some d) (hn:∀ b,T[at_+1]?=some b→digB b=false) (hT:T.length≤2000) :
  Calls Tryz.prog 192 #[.pointer (some ⟨rb,0,none⟩)] w fun e w'=>e=.returned (.int .i64 ((d.toNat:Int) - 48))∧RS w w' rb r base T (at_+1) a a c out:=by
 have H:=hide h
 have HN:=hide hn
 clear hn
 have k1:=h.c1
 have k2:=h.c2
 have k3:=h.soft 2
 have hal:at_ < T.length:=(List.getElem?_eq_some_iff.1 hs).1
 have i1:=fun W=>run_byte W T at_ (at_:Int) d rfl hs
 have hdig:digB d=true:=by unfold digB;simp;omega
 have HD:=hide (fun W=>hdig ▸ isDigit_any d W)
 have hlt:(at_:Int) < (T.length:Int):=by omega
 have hdd:(48:Int)≤(d.toNat:Int)∧(d.toNat:Int)≤50:=by omega
 clear h hs hdig hd
 go_enter Tryz.func192,Tryz.ntmps192
 go_wp2_with (fail)
 refine wp_loop_rounds 2 ?_
 rw [rounds_succ]
 go_wp2_with (fail)
 refine wp_region_quiet_lit (by kernel_rfl) (by kernel_rfl) ?_
 (repeat (go_big_quiet_step ((refine Calls.quiet_of_same (HD.out _)))))
 refine wpQuiet_nil ?_
 intro _ hw'
 obtain ⟨nq,hw''⟩:=hw'
 subst hw''
 have HR:=hide ((RS.refl H.out).drewN nq)
 have k1:=HR.out.rd.c1
 have k2:=HR.out.rd.c2
 have k3:=HR.out.rd.soft 2
 generalize w.drewN nq=wq at *
 go_wp2_with (fail)
 go_region
 go_wp2_with (fail)
 rw [rounds_succ]
 go_wp2_with (fail)
 have hmin:min ((d.toNat:Int) - 48) 3=(d.toNat:Int) - 48:=by omega
 have e1:(at_:Int)+1=((at_+1:Nat):Int):=by omega
 rw [hmin,e1]
 have HR2:=hide ((HR.out.move (at_+1)).drew)
 have HP1:=hide (show at_+1≤T.length by omega)
 have hne:(((at_+1:Nat):Int) == (at_:Int))=false:=by rw [beq_eq_false_iff_ne];omega
 have k1:=HR2.out.rd.c1
 have k2:=HR2.out.rd.c2
 clear hmin e1 hdd
 generalize hpe:at_+1=p at *
 have HPE:=hide hpe
 clear hpe
 generalize (wq.setCell ⟨rb,2,none⟩ (.int .i64 (p:Int))).drew=w3 at *
 generalize hdz:(d.toNat:Int) - 48=dz at *
 have HDZ:=hide hdz
 clear hdz
 clear HD i1 hal hlt k3 HR
 by_cases hpl:p < T.length
 ·obtain ⟨b,hb⟩:∃ b,T[p]?=some b:=⟨_,List.getElem?_eq_getElem hpl⟩
  have i1:=fun W=>run_byte W T p (p:Int) b rfl hb
  have HD:=hide (fun W=>HN.out b hb ▸ isDigit_any b W)
  have hlt:(p:Int) < (T.length:Int):=by omega
  clear hb HN
  refine wp_region_quiet_lit (by kernel_rfl) (by kernel_rfl) ?_
  (repeat (go_big_quiet_step ((refine Calls.quiet_of_same (HD.out _)))))
  refine wpQuiet_nil ?_
  intro _ hw'
  obtain ⟨nq2,hw''⟩:=hw'
  subst hw''
  have HR4:=hide (HR2.out.drewN nq2)
  have k1:=HR4.out.rd.c1
  have k2:=HR4.out.rd.c2
  generalize w3.drewN nq2=w4 at *
  go_wp2_with (fail)
  go_ret
  exact ⟨by rw [HDZ.out];rfl,by rw [HPE.out];exact HR4.out⟩
 ·have hlt:((p:Int) < (T.length:Int))=False:=by simp;omega
  have hlt2:decide ((p:Int) < (T.length:Int))=false:=by simp;omega
  clear HN
  refine wp_region_quiet_lit (by kernel_rfl) (by kernel_rfl) ?_
  (repeat (go_big_quiet_step (fail)))
  refine wpQuiet_nil ?_
  intro _ hw'
  obtain ⟨nq2,hw''⟩:=hw'
  subst hw''
  have HR4:=hide (HR2.out.drewN nq2)
  have k1:=HR4.out.rd.c1
  have k2:=HR4.out.rd.c2
  generalize w3.drewN nq2=w4 at *
  go_wp2_with (fail)
  go_ret
  exact ⟨by rw [HDZ.out];rfl,by rw [HPE.out];exact HR4.out⟩
def FitsOk (f:Nat) (p:Sg→Bool):Prop:=(∀ args w,(callFunc f args).run Tryz.prog w=.ok (.enter f args) w)∧∀ (s:Sg) (w:World),Calls Tryz.prog f #[sgV s] w fun e w'=>e=.returned (.bool (p s))∧Below w.heap.size w w'
theorem fits_node:FitsOk 191 (fun s=>decide (s.parts < 2)):=by
 refine ⟨Tryz.call191,fun s w=>?_⟩
 obtain ⟨t,p,n,tp,o⟩:=s
 unfold sgV
 dsimp only
 go_enter Tryz.func191,Tryz.ntmps191
 go_wp2
 go_ret
 exact ⟨rfl,(by repeat (first | exact Below.refl _ _ | assumption | refine below_drewN ?_ _ | refine Below.drew ?_ | refine Below.alloc ?_ (by simp <;> omega) _ | refine below_trans ?_ (by assumption)))⟩
def here (p:Sg→Bool) (b:UInt8) (k:Int):Bool:=p ((sgOf k).getD sg0) && (((sgOf k).getD sg0).text.head? == some b)
theorem sg_head (k:Int) (h:1≤k∧k≤8):∃ c t,((sgOf k).getD sg0).text=c :: t:=by
 obtain rfl | rfl | rfl | rfl | rfl | rfl | rfl | rfl:k=1 ∨ k=2 ∨ k=3 ∨ k=4 ∨ k=5 ∨ k=6 ∨ k=7 ∨ k=8:=by omega
 all_goals exact ⟨_,_,rfl⟩
theorem sg_len (k:Int) (h:1≤k∧k≤8):((sgOf k).getD sg0).text.length≤4:=by
 obtain rfl | rfl | rfl | rfl | rfl | rfl | rfl | rfl:k=1 ∨ k=2 ∨ k=3 ∨ k=4 ∨ k=5 ∨ k=6 ∨ k=7 ∨ k=8:=by omega
 all_goals decide
theorem run_from (w:World) (l:List UInt8) (i:Nat) (h:i≤l.length):(Instr.slice 9 (.string ⟨l.toArray⟩) (some (.int .i64 (i:Int))) none none).run Tryz.prog w=.ok (.string ⟨(l.drop i).toArray⟩) w:=by
 have hsz:(⟨l.toArray⟩:ByteArray).size=l.length:=by simp [ByteArray.size]
 rw [run_slice_string_from_if (P:=Tryz.prog) w 9 ⟨l.toArray⟩ .i64 i Tryz.underlying9,if_pos ⟨by omega,by rw [hsz];omega⟩]
 congr 2
 apply ByteArray.ext
 rw [hsz]
 simp [ByteArray.data_extract]
 exact List.take_of_length_le (by simp)
theorem run_first (w:World) (c:UInt8) (t:List UInt8):(Instr.slice 9 (.string ⟨(c :: t).toArray⟩) none (some (.int .i64 1)) none).run Tryz.prog w=.ok (.string ⟨[c].toArray⟩) w:=by
 have hsz:(⟨(c :: t).toArray⟩:ByteArray).size=t.length+1:=by simp [ByteArray.size]
 rw [run_slice_string_to_if (P:=Tryz.prog) w 9 ⟨(c :: t).toArray⟩ .i64 1 Tryz.underlying9,if_pos ⟨by omega,by rw [hsz];omega⟩]
 congr 2
 apply ByteArray.ext
 simp [ByteArray.data_extract]
theorem prefix_one (l:List UInt8) (i:Nat) (b c:UInt8) (h:l[i]?=some b):Lib.hasPrefix (l.drop i) [c]=(c == b):=by
 obtain ⟨hl,he⟩:=List.getElem?_eq_some_iff.1 h
 rw [List.drop_eq_getElem_cons hl,he]
 simp [Lib.hasPrefix,List.isPrefixOf]
theorem kind_ok {w:World}{rb r base:Nat}{T:List UInt8}{at_:Nat}{a:Option Addr}{c:Nat}{out:List Nd} (h:RD w rb r base T at_ a c out) {f:Nat}{p:Sg→Bool} (hf:FitsOk f p) (K:Nat) (hK:1≤K∧K≤8) (b:UInt8) (hb:T[at_]?=some b) (hno:∀ k:Nat,1≤k→k < K→here p b k=false) (hyes:here p b K=true) (hs:∀ j,j < ((sgOf K).getD sg0).text.length→∃ b,T[at_+j]?=some b∧((sgOf K).getD sg0).text[j]?=some b) (hT:T.length≤2000) :
  Calls Tryz.prog 190 #[.pointer (some ⟨rb,0,none⟩),.func (.func f) #[] #[]] w fun e w'=>e=.returned (.int .i64 K)∧RS w w' rb r base T (at_+((sgOf K).getD sg0).text.length) a a c out:=by
 have H:=hide h
 have HNo:=hide hno
 have HYes:=hide hyes
 have HS:=hide hs
 have HF:=hide hf.2
 have hfe:=hf.1
 have hal:at_ < T.length:=(List.getElem?_eq_some_iff.1 hb).1
 have HB:=hide hb
 have i1:=fun W=>run_from W T at_ (by omega)
 have hlt:((at_:Nat):Int)≤(T.length:Int):=by omega
 clear h hno hyes hs hf hb
 go_enter Tryz.func190,Tryz.ntmps190
 go_wp2_with (fail)
 go_loopw [5] (fun kv wr=>∃ k:Nat,1≤k∧k≤K∧kv=.int .i64 k∧Hid (Below w.heap.size w wr)) (fun kv _=>9 - (intOf kv).toNat)
 case atStart=>exact ⟨1,by omega,by omega,rfl,hide (Below.refl _ _)⟩
 case round =>
  obtain ⟨k,hk1,hk2,rfl,hbw⟩:=hrel
  have hR:=H.out.below hbw.out
  obtain ⟨cc,ct,hct⟩:=sg_head k (by omega)
  have hlk:=(run_lookup_sign hR.sg k).1
  have hhere:here p b k=(p ((sgOf k).getD sg0) && (cc == b)):=by unfold here;rw [hct];simp
  have HHere:=hide hhere
  have HTx:=hide hct
  have k0:=hR.c0
  have k1:=hR.c1
  have k2:=hR.c2
  generalize hsg:(sgOf (k:Int)).getD sg0=s at *
  have HSg:=hide hsg
  clear hsg hhere
  obtain ⟨st,sp,sn,stp,so⟩:=s
  dsimp only at hct
  subst hct
  unfold sgV at hlk
  dsimp only at hlk
  have HFit:=hide (HF.out ⟨cc :: ct,sp,sn,stp,so⟩)
  have i2:=fun W=>run_first W cc ct
  have HPre:Hid (∀ W,Calls Tryz.prog 188 #[.string ⟨(T.drop at_).toArray⟩,.string ⟨[cc].toArray⟩] W fun e w'=>e=.returned (.bool (cc == b))∧Below W.heap.size W w'):=hide fun W=>(hasPrefix_any ⟨(T.drop at_).toArray⟩ ⟨[cc].toArray⟩ W).mono fun e w' ⟨h1,h2⟩=>⟨h1.trans (congrArg (fun z=>Ending.returned (.bool z)) (prefix_one T at_ b cc HB.out)),by rw [h2];exact Below.refl _ _⟩
  unfold sgV at HFit
  dsimp only at HFit
  generalize hq:p ⟨cc :: ct,sp,sn,stp,so⟩=q at *
  have hk8:(k:Int)≤8:=by omega
  have HQ:=hide hq
  clear hq HF
  go_wp2_with (fail)
  obtain ⟨W1,hW1⟩:∃ W1,W1=wr.alloc (Obj.cells #[.string ⟨(cc :: ct).toArray⟩,.int .i64 sp,.bool sn,.bool stp,.int .i64 so] 141):=⟨_,rfl⟩
  rw [← hW1]
  have hb1:Below wr.heap.size wr W1:=by rw [hW1];exact below_new _ _
  have hx1:W1.heap[wr.heap.size]?=some (Obj.cells #[.string ⟨(cc :: ct).toArray⟩,.int .i64 sp,.bool sn,.bool stp,.int .i64 so] 141):=by rw [hW1];exact heap_alloc_new _ _
  have j0:=cell_regrown (box_cell (i:=0) hx1 rfl)
  have j1:=cell_regrown (box_cell (i:=1) hx1 rfl)
  have j2:=cell_regrown (box_cell (i:=2) hx1 rfl)
  have j3:=cell_regrown (box_cell (i:=3) hx1 rfl)
  have j4:=cell_regrown (box_cell (i:=4) hx1 rfl)
  have l1:=cell_regrown (cell_keep k1 hb1)
  have l2:=cell_regrown (cell_keep k2 hb1)
  have l0:=cell_regrown (cell_keep k0 hb1)
  have HBW:=hide (below_trans hbw.out hb1)
  have CF:=hide (fun d os=>Calls.regrown_of (HFit.out (grow (redrawn W1 d) os)))
  have CP:=hide (fun d os=>Calls.regrown_of (HPre.out (grow (redrawn W1 d) os)))
  clear hW1 hb1 hx1 k0 k1 k2 hlk HFit HPre hR hbw
  cases q with
  | false =>
   have hkK:k < K:=by
    rcases Nat.lt_or_ge k K with hh | hh
    ·exact hh
    ·obtain rfl:k=K:=by omega
     have h1:=HYes.out
     rw [HHere.out] at h1
     simp at h1
   refine wp_region_quiet_below (by kernel_rfl) (by kernel_rfl) ?_
   (repeat (go_big_quiet_step (first | exact CF.out _ _ | exact CP.out _ _)))
   refine wpQuiet_nil ?_
   intro _ hw'
   obtain ⟨⟨dq,osq⟩,hw''⟩:=hw'
   subst hw''
   have HBq:=hide (below_trans HBW.out (below_regrown W1 dq osq))
   have x0:=j0 dq osq
   dsimp only
   clear j0 j1 j2 j3 j4 l0 l1 l2 CF CP
   generalize grow (redrawn W1 dq) osq=wq at HBq x0 ⊢
   go_wp2
   go_roundw
   case rel=>exact ⟨k+1,by omega,by omega,by go_num,HBq⟩
   case measure=>simp [intOf];omega
  | true =>
   rw [Bool.true_and] at HHere
   generalize hcb:(cc == b)=cb at *
   cases cb with
   | false =>
    have hkK:k < K:=by
     rcases Nat.lt_or_ge k K with hh | hh
     ·exact hh
     ·obtain rfl:k=K:=by omega
      have h1:=HYes.out
      rw [HHere.out] at h1
      simp at h1
    refine wp_region_quiet_below (by kernel_rfl) (by kernel_rfl) ?_
    (repeat (go_big_quiet_step (first | exact CF.out _ _ | exact CP.out _ _)))
    refine wpQuiet_nil ?_
    intro _ hw'
    obtain ⟨⟨dq,osq⟩,hw''⟩:=hw'
    subst hw''
    have HBq:=hide (below_trans HBW.out (below_regrown W1 dq osq))
    have x0:=j0 dq osq
    dsimp only
    clear j0 j1 j2 j3 j4 l0 l1 l2 CF CP
    generalize grow (redrawn W1 dq) osq=wq at HBq x0 ⊢
    go_wp2
    go_roundw
    case rel=>exact ⟨k+1,by omega,by omega,by go_num,HBq⟩
    case measure=>simp [intOf];omega
   | true =>
    have hkK:k=K:=by
     rcases Nat.lt_or_ge k K with hh | hh
     ·have h1:=HNo.out k hk1 hh
      rw [HHere.out] at h1
      simp at h1
     ·omega
    have HkK:=hide hkK
    subst hkK
    refine wp_region_quiet_below (by kernel_rfl) (by kernel_rfl) ?_
    (repeat (go_big_quiet_step (first | exact CF.out _ _ | exact CP.out _ _)))
    refine wpQuiet_nil ?_
    intro _ hw'
    obtain ⟨⟨dq,osq⟩,hw''⟩:=hw'
    subst hw''
    have HBq:=hide (below_trans HBW.out (below_regrown W1 dq osq))
    have x0:=j0 dq osq
    dsimp only
    clear j0 j1 j2 j3 j4 l0 l1 l2 CF CP
    generalize grow (redrawn W1 dq) osq=wq at HBq x0 ⊢
    have hlen:(cc :: ct).length≤2000:=by
     have:=sg_len k (by omega)
     rw [HSg.out] at this
     exact Nat.le_trans this (by omega)
    have hE:=hide (expect_ok (H.out.below HBq.out) (cc :: ct) (by have:=HS.out;rw [HSg.out] at this;exact this) hT hlen)
    clear hlen
    go_wp2_with (fail)
    refine hE.out.mono ?_
    rintro e w7 ⟨rfl,hrs7⟩
    have HR7:=hide hrs7
    clear hrs7 hE x0
    go_wp2_with (fail)
    go_ret
    exact ⟨rfl,by rw [HSg.out];exact RS.trans (RS.of_below H.out HBq.out) HR7.out⟩
theorem RD.far {w:World}{rb r base:Nat}{T:List UInt8}{at_:Nat}{a:Option Addr}{c:Nat}{out:List Nd} (h:RD w rb r base T at_ a c out) (nb o:Nat) (v:Value) (hnb:base≤nb) (hrow:some nb ≠ rowOf a):RD (w.setCell ⟨nb,o,none⟩ v) rb r base T at_ a c out:=by
 have n1:rb ≠ nb:=by have:=h.lt1;omega
 have n2:r ≠ nb:=by have:=h.lt2;omega
 have hc:∀ i,(w.setCell ⟨nb,o,none⟩ v).cell? ⟨rb,i,none⟩=w.cell? ⟨rb,i,none⟩:=fun i=>World.cell?_of_block (a:=⟨rb,i,none⟩) (set_far w _ _ rb n1)
 refine ⟨(hc 0).trans h.c0,(hc 1).trans h.c1,(hc 2).trans h.c2,(hc 3).trans h.c3,fun i=>by rw [World.frozen?_setCell];exact h.soft i,(set_far w _ _ r n2).trans h.sg,?_,by simp only [World.setCell,Array.size_modify];exact h.hb,h.lt1,h.lt2,h.ne2⟩
 refine h.own.kept (row:=some nb) ⟨rfl,rfl,rfl,by simp [World.setCell],fun k hk hne=>set_far w _ _ k (fun e=>hne (by rw [e]))⟩ ?_
 rw [row_eq]
 right
 exact fun e=>hrow e.symm
theorem RS.far {w w1:World}{rb r base:Nat}{T:List UInt8}{at1:Nat}{a a1:Option Addr}{c1:Nat}{o1:List Nd} (h:RS w w1 rb r base T at1 a a1 c1 o1) (nb o:Nat) (v:Value) (hnb:base≤nb) (hw:w.heap.size≤nb) (hrow:some nb ≠ rowOf a1):RS w (w1.setCell ⟨nb,o,none⟩ v) rb r base T at1 a a1 c1 o1:=
 ⟨h.rd.far nb o v hnb hrow,h.gt.set nb o v hw,h.new⟩
def NodeAt (T:List UInt8) (p q:Nat) (g:Nat→List Nd):Prop:=∀ (w:World) (rb r base:Nat) (a:Option Addr) (c:Nat) (out:List Nd),RD w rb r base T p a c out→out.length+(g out.length).length≤100000 →
 Calls Tryz.prog 148 #[.pointer (some ⟨rb,0,none⟩)] w fun e w'=>e=.returned (.int .i64 (out.length+(g out.length).length - 1:Nat))∧∃ a' c',RS w w' rb r base T q a a' c' (out ++ g out.length)
theorem kind_prop {w:World}{rb r base:Nat}{T:List UInt8}{p:Nat}{a:Option Addr}{c:Nat}{out:List Nd} (h:RD w rb r base T p a c out) (h0:T[p]?=some 112) (hT:T.length≤2000) :
  Calls Tryz.prog 190 #[.pointer (some ⟨rb,0,none⟩),.func (.func 191) #[] #[]] w fun e w'=>e=.returned (.int .i64 2)∧RS w w' rb r base T (p+1) a a c out:=by
 refine kind_ok h fits_node 2 (by omega) 112 h0 (fun k k1 k2=>?_) (by decide) (fun j hj=>?_) hT
 ·have e:k=1:=by omega
  subst e
  decide
 ·have e:j=0:=by simpa [sgOf] using hj
  subst e
  exact ⟨112,h0,rfl⟩
theorem node_prop {T:List UInt8}{p:Nat} (d:UInt8) (hd:48≤d.toNat∧d.toNat≤50) (h0:T[p]?=some 112) (h1:T[p+1]?=some d) (hn:∀ b,T[p+2]?=some b→digB b=false) (hT:T.length≤2000):NodeAt T p (p+2) (fun _=>[⟨2,0,0,(d.toNat:Int) - 48⟩]):=by
 intro w rb r base a c out h hlen
 have H:=hide h
 have hal:p < T.length:=(List.getElem?_eq_some_iff.1 h0).1
 have hlt:((p:Nat):Int)≤(T.length:Int):=by omega
 have i1:=fun W=>run_from W T p (by omega)
 have HPre:Hid (∀ W,Calls Tryz.prog 188 #[.string ⟨(T.drop p).toArray⟩,.string ⟨#[40]⟩] W fun e w'=>e=.returned (.bool false)∧w'=W):=hide fun W=>(hasPrefix_any ⟨(T.drop p).toArray⟩ ⟨[40].toArray⟩ W).mono fun e w' ⟨h1,h2⟩=>⟨h1.trans (congrArg (fun z=>Ending.returned (.bool z)) ((prefix_one T p 112 40 h0).trans rfl)),h2⟩
 have HKind:Hid (∀ W,RD W rb r base T p a c out→Calls Tryz.prog 190 #[.pointer (some ⟨rb,0,none⟩),.func (.func 191) #[] #[]] W fun e w'=>e=.returned (.int .i64 2)∧RS W w' rb r base T (p+1) a a c out):=hide fun W hW=>kind_prop hW h0 hT
 have HNum:Hid (∀ W,RD W rb r base T (p+1) a c out→Calls Tryz.prog 192 #[.pointer (some ⟨rb,0,none⟩)] W fun e w'=>e=.returned (.int .i64 ((d.toNat:Int) - 48))∧RS W w' rb r base T (p+2) a a c out):=hide fun W hW=>number_ok hW d hd h1 hn hT
 have hfd1:∀ (a b c d e:Value) (w:World),(Instr.field 141 (.agg #[a,b,c,d,e]) 1).run Tryz.prog w=.ok b w:=fun _ _ _ _ _ _=>rfl
 have hfd2:∀ (a b c d e:Value) (w:World),(Instr.field 141 (.agg #[a,b,c,d,e]) 2).run Tryz.prog w=.ok c w:=fun _ _ _ _ _ _=>rfl
 have k0:=h.c0
 have k1:=h.c1
 have k2:=h.c2
 generalize (d.toNat:Int) - 48=dz at *
 simp only [List.length_cons,List.length_nil] at hlen ⊢
 clear h h0 h1 hn hd
 go_enter Tryz.func148,Tryz.ntmps148
 go_wp2_with (fail)
 refine wp_region_quiet_lit (by kernel_rfl) (by kernel_rfl) ?_
 (repeat (go_big_quiet_step ((refine Calls.quiet_of_same (HPre.out _)))))
 refine wpQuiet_nil ?_
 intro _ hw'
 obtain ⟨nq,hw''⟩:=hw'
 subst hw''
 have HR1:=hide ((RS.refl H.out).drewN nq)
 clear k0 k1 k2 HPre
 generalize w.drewN nq=w1 at *
 go_wp2_with (fail)
 refine (HKind.out w1 HR1.out.rd).mono ?_
 rintro e w2 ⟨rfl,hrs2⟩
 have HR2:=hide (HR1.out.trans hrs2)
 have hlk:=(run_lookup_sign (hrs2.rd.sg.below (below_new w2 (Obj.cells #[.int .i64 2,.int .i64 0,.int .i64 0,.int .i64 0] 55))) 2).1
 have k0:=cell_keep hrs2.rd.c0 (below_new w2 (Obj.cells #[.int .i64 2,.int .i64 0,.int .i64 0,.int .i64 0] 55))
 have hsg:(sgOf 2).getD sg0=⟨[112],0,true,false,0⟩:=rfl
 rw [hsg] at hlk
 unfold sgV at hlk
 dsimp only at hlk
 clear hrs2 HKind hsg
 go_wp2_with (fail)
 have hb3:=below_new w2 (Obj.cells #[.int .i64 2,.int .i64 0,.int .i64 0,.int .i64 0] 55)
 have HR3:=hide (HR2.out.trans (RS.of_below HR2.out.rd hb3))
 refine (HNum.out _ HR3.out.rd).mono ?_
 rintro e w5 ⟨rfl,hrs5⟩
 obtain ⟨f1,f2⟩:=HR2.out.rd.fresh w2.heap.size (Nat.le_refl _)
 have n0:=hrs5.gt.cell (cell_top w2 #[.int .i64 2,.int .i64 0,.int .i64 0,.int .i64 0] 55 w2.heap.size 0 _ rfl rfl) f2 f1
 have n1:=hrs5.gt.cell (cell_top w2 #[.int .i64 2,.int .i64 0,.int .i64 0,.int .i64 0] 55 w2.heap.size 1 _ rfl rfl) f2 f1
 have n2:=hrs5.gt.cell (cell_top w2 #[.int .i64 2,.int .i64 0,.int .i64 0,.int .i64 0] 55 w2.heap.size 2 _ rfl rfl) f2 f1
 have n3:=hrs5.gt.cell (cell_top w2 #[.int .i64 2,.int .i64 0,.int .i64 0,.int .i64 0] 55 w2.heap.size 3 _ rfl rfl) f2 f1
 have nf:w5.frozen? ⟨w2.heap.size,3,none⟩=false:=(hrs5.gt.frozen (b:=w2.heap.size) (o:=3) (by simp) f2 f1).trans (World.frozen?_alloc_new _ _ _ _)
 have HR5:=hide (HR3.out.trans hrs5)
 obtain ⟨w6,hw6⟩:∃ w6,w6=w5.setCell ⟨w2.heap.size,3,none⟩ (.int .i64 dz):=⟨_,rfl⟩
 have HR6:=hide (show RS w w6 rb r base T (p+2) a a c out by rw [hw6];exact HR5.out.far w2.heap.size 3 _ HR2.out.rd.hb HR2.out.gt.size f1)
 have p0:w6.cell? ⟨w2.heap.size,0,none⟩=some (.int .i64 2):=by rw [hw6];exact cell_set_off (by decide) n0
 have p1:w6.cell? ⟨w2.heap.size,1,none⟩=some (.int .i64 0):=by rw [hw6];exact cell_set_off (by decide) n1
 have p2:w6.cell? ⟨w2.heap.size,2,none⟩=some (.int .i64 0):=by rw [hw6];exact cell_set_off (by decide) n2
 have p3:w6.cell? ⟨w2.heap.size,3,none⟩=some (.int .i64 dz):=by rw [hw6];exact cell_set_eq n3
 clear hrs5 n0 n1 n2 k0 hlk HNum
 go_wp2_with (fail)
 rw [← hw6]
 clear hw6 n3 nf
 have HG:Hid (∀ W,Below w6.heap.size w6 W→Calls Tryz.prog 112 #[.pointer (some ⟨rb,3,none⟩),.agg #[.int .i64 2,.int .i64 0,.int .i64 0,.int .i64 dz]] W fun e w'=>e=.returned (.int .i64 out.length)∧∃ a' c',RS w w' rb r base T (p+2) a a' c' (out ++ [⟨2,0,0,dz⟩])):=hide fun W hb=>(growR (HR6.out.rd.below hb) ⟨2,0,0,dz⟩ (by omega)).mono fun e w' ⟨h1,a',c',h2⟩=>⟨h1,a',c',(HR6.out.trans (RS.of_below HR6.out.rd hb)).trans h2⟩
 go_region_law (refine step_callG rfl 112 [.tmp 44,.tmp 45] _ rfl Tryz.call112 ?_;refine (HG.out _ ?_).mono ?_;(focus (exact (by repeat (first | exact Below.refl _ _ | assumption | refine below_drewN ?_ _ | refine Below.drew ?_ | refine Below.alloc ?_ (by simp <;> omega) _ | refine below_trans ?_ (by assumption)))));rintro e w7 ⟨rfl,a7,c7,hrs7⟩;refine ⟨_,rfl,?_⟩)
 all_goals
  have HR7:=hide hrs7
  clear hrs7 HG p0 p1 p2 p3
  go_wp2_with (fail)
  go_ret
  exact ⟨ret_eq (by omega),a7,c7,HR7.out⟩
def oneB (K:Nat):UInt8:=if K=3 then 33 else 88
theorem kind_one {w:World}{rb r base:Nat}{T:List UInt8}{p:Nat}{a:Option Addr}{c:Nat}{out:List Nd} (h:RD w rb r base T p a c out) (K:Nat) (hK:K=3 ∨ K=6) (h0:T[p]?=some (oneB K)) (hT:T.length≤2000) :
  Calls Tryz.prog 190 #[.pointer (some ⟨rb,0,none⟩),.func (.func 191) #[] #[]] w fun e w'=>e=.returned (.int .i64 K)∧RS w w' rb r base T (p+1) a a c out:=by
 have key:∀ k:Nat,1≤k→k < K→here (fun s=>decide (s.parts < 2)) (oneB K) k=false:=by
  intro k k1 k2
  rcases hK with rfl | rfl
  ·obtain rfl | rfl:k=1 ∨ k=2:=by omega
   all_goals decide
  ·obtain rfl | rfl | rfl | rfl | rfl:k=1 ∨ k=2 ∨ k=3 ∨ k=4 ∨ k=5:=by omega
   all_goals decide
 have hsg:((sgOf K).getD sg0).text=[oneB K]:=by rcases hK with rfl | rfl <;> rfl
 have hy:here (fun s=>decide (s.parts < 2)) (oneB K) K=true:=by rcases hK with rfl | rfl <;> decide
 have:=kind_ok h fits_node K (by omega) (oneB K) h0 key hy (fun j hj=>by
  rw [hsg] at hj ⊢
  have e:j=0:=by simpa using hj
  subst e
  exact ⟨_,h0,rfl⟩) hT
 rw [hsg] at this
 exact this
def gOne (K:Nat) (g:Nat→List Nd) (m:Nat):List Nd:=g m ++ [⟨K,(m+(g m).length - 1:Nat),0,0⟩]
theorem node_one {T:List UInt8}{p q:Nat}{g:Nat→List Nd} (K:Nat) (hK:K=3 ∨ K=6) (h0:T[p]?=some (oneB K)) (hN:NodeAt T (p+1) q g) (hT:T.length≤2000):NodeAt T p q (gOne K g):=by
 intro w rb r base a c out h hlen
 have H:=hide h
 have hal:p < T.length:=(List.getElem?_eq_some_iff.1 h0).1
 have hlt:((p:Nat):Int)≤(T.length:Int):=by omega
 have i1:=fun W=>run_from W T p (by omega)
 have hne:(40 == oneB K)=false:=by rcases hK with rfl | rfl <;> decide
 have HPre:Hid (∀ W,Calls Tryz.prog 188 #[.string ⟨(T.drop p).toArray⟩,.string ⟨#[40]⟩] W fun e w'=>e=.returned (.bool false)∧w'=W):=hide fun W=>(hasPrefix_any ⟨(T.drop p).toArray⟩ ⟨[40].toArray⟩ W).mono fun e w' ⟨h1,h2⟩=>⟨h1.trans (congrArg (fun z=>Ending.returned (.bool z)) ((prefix_one T p (oneB K) 40 h0).trans hne)),h2⟩
 have HKind:Hid (∀ W,RD W rb r base T p a c out→Calls Tryz.prog 190 #[.pointer (some ⟨rb,0,none⟩),.func (.func 191) #[] #[]] W fun e w'=>e=.returned (.int .i64 K)∧RS W w' rb r base T (p+1) a a c out):=hide fun W hW=>kind_one hW K hK h0 hT
 have HN:=hide hN
 have hfd1:∀ (a b c d e:Value) (w:World),(Instr.field 141 (.agg #[a,b,c,d,e]) 1).run Tryz.prog w=.ok b w:=fun _ _ _ _ _ _=>rfl
 have hfd2:∀ (a b c d e:Value) (w:World),(Instr.field 141 (.agg #[a,b,c,d,e]) 2).run Tryz.prog w=.ok c w:=fun _ _ _ _ _ _=>rfl
 have k1:=h.c1
 have k2:=h.c2
 have hgl:(gOne K g out.length).length=(g out.length).length+1:=by simp [gOne]
 have hgo:out ++ gOne K g out.length=out ++ g out.length ++ [⟨K,(out.length+(g out.length).length - 1:Nat),0,0⟩]:=by simp [gOne]
 rw [hgl] at hlen
 rw [hgl,hgo]
 obtain ⟨st,tp,op,hsg⟩:∃ st tp op,(sgOf (K:Int)).getD sg0=⟨st,1,false,tp,op⟩:=by rcases hK with rfl | rfl <;> exact ⟨_,_,_,rfl⟩
 have HSG:=hide hsg
 clear h h0 hN hK hne hgl hgo hsg
 go_enter Tryz.func148,Tryz.ntmps148
 go_wp2_with (fail)
 refine wp_region_quiet_lit (by kernel_rfl) (by kernel_rfl) ?_
 (repeat (go_big_quiet_step ((refine Calls.quiet_of_same (HPre.out _)))))
 refine wpQuiet_nil ?_
 intro _ hw'
 obtain ⟨nq,hw''⟩:=hw'
 subst hw''
 have HR1:=hide ((RS.refl H.out).drewN nq)
 clear k1 k2 HPre
 generalize w.drewN nq=w1 at *
 go_wp2_with (fail)
 refine (HKind.out w1 HR1.out.rd).mono ?_
 rintro e w2 ⟨rfl,hrs2⟩
 have HR2:=hide (HR1.out.trans hrs2)
 have hlk:=(run_lookup_sign (hrs2.rd.sg.below (below_new w2 (Obj.cells #[.int .i64 (K:Int),.int .i64 0,.int .i64 0,.int .i64 0] 55))) K).1
 have k0:=cell_keep hrs2.rd.c0 (below_new w2 (Obj.cells #[.int .i64 (K:Int),.int .i64 0,.int .i64 0,.int .i64 0] 55))
 rw [HSG.out] at hlk
 unfold sgV at hlk
 dsimp only at hlk
 clear hrs2 HKind
 go_wp2_with (fail)
 have hb3:=below_new w2 (Obj.cells #[.int .i64 (K:Int),.int .i64 0,.int .i64 0,.int .i64 0] 55)
 have HR3:=hide (HR2.out.trans (RS.of_below HR2.out.rd hb3))
 refine (HN.out _ _ _ _ _ _ _ HR3.out.rd (by omega)).mono ?_
 rintro e w5 ⟨rfl,a5,c5,hrs5⟩
 obtain ⟨f1,f2⟩:=HR2.out.rd.fresh w2.heap.size (Nat.le_refl _)
 have n0:=hrs5.gt.cell (cell_top w2 #[.int .i64 (K:Int),.int .i64 0,.int .i64 0,.int .i64 0] 55 w2.heap.size 0 _ rfl rfl) f2 f1
 have n1:=hrs5.gt.cell (cell_top w2 #[.int .i64 (K:Int),.int .i64 0,.int .i64 0,.int .i64 0] 55 w2.heap.size 1 _ rfl rfl) f2 f1
 have n2:=hrs5.gt.cell (cell_top w2 #[.int .i64 (K:Int),.int .i64 0,.int .i64 0,.int .i64 0] 55 w2.heap.size 2 _ rfl rfl) f2 f1
 have n3:=hrs5.gt.cell (cell_top w2 #[.int .i64 (K:Int),.int .i64 0,.int .i64 0,.int .i64 0] 55 w2.heap.size 3 _ rfl rfl) f2 f1
 have nf:w5.frozen? ⟨w2.heap.size,1,none⟩=false:=(hrs5.gt.frozen (b:=w2.heap.size) (o:=1) (by simp) f2 f1).trans (World.frozen?_alloc_new _ _ _ _)
 have f5:=row_ne_new hrs5.new (j:=w2.heap.size) f1 (by simp)
 have HR5:=hide (HR3.out.trans hrs5)
 generalize hz:(out.length+(g out.length).length - 1:Nat)=z at *
 obtain ⟨w6,hw6⟩:∃ w6,w6=w5.setCell ⟨w2.heap.size,1,none⟩ (.int .i64 (z:Int)):=⟨_,rfl⟩
 have HR6:=hide (show RS w w6 rb r base T q a a5 c5 (out ++ g out.length) by rw [hw6];exact HR5.out.far w2.heap.size 1 _ HR2.out.rd.hb HR2.out.gt.size f5)
 have p0:w6.cell? ⟨w2.heap.size,0,none⟩=some (.int .i64 (K:Int)):=by rw [hw6];exact cell_set_off (by decide) n0
 have p1:w6.cell? ⟨w2.heap.size,1,none⟩=some (.int .i64 (z:Int)):=by rw [hw6];exact cell_set_eq n1
 have p2:w6.cell? ⟨w2.heap.size,2,none⟩=some (.int .i64 0):=by rw [hw6];exact cell_set_off (by decide) n2
 have p3:w6.cell? ⟨w2.heap.size,3,none⟩=some (.int .i64 0):=by rw [hw6];exact cell_set_off (by decide) n3
 have hlk6:=(run_lookup_sign (HR6.out.rd.sg) K).1
 rw [HSG.out] at hlk6
 unfold sgV at hlk6
 dsimp only at hlk6
 have k06:=HR6.out.rd.c0
 have HZ:=hide hz
 rw [hw6] at hlk6 k06
 clear hrs5 n0 n2 n3 k0 hlk HN hz
 go_wp2_with (fail)
 rw [← hw6]
 clear hw6 n1 nf hlk6 k06
 have HG:Hid (∀ W,Below w6.heap.size w6 W→Calls Tryz.prog 112 #[.pointer (some ⟨rb,3,none⟩),.agg #[.int .i64 (K:Int),.int .i64 (z:Int),.int .i64 0,.int .i64 0]] W fun e w'=>e=.returned (.int .i64 (out ++ g out.length).length)∧∃ a' c',RS w w' rb r base T q a a' c' (out ++ g out.length ++ [⟨K,z,0,0⟩])):=hide fun W hb=>(growR (HR6.out.rd.below hb) ⟨K,z,0,0⟩ (by simp;omega)).mono fun e w' ⟨h1,a',c',h2⟩=>⟨h1,a',c',(HR6.out.trans (RS.of_below HR6.out.rd hb)).trans h2⟩
 go_region_law (refine step_callG rfl 112 [.tmp 44,.tmp 45] _ rfl Tryz.call112 ?_;refine (HG.out _ ?_).mono ?_;(focus (exact (by repeat (first | exact Below.refl _ _ | assumption | refine below_drewN ?_ _ | refine Below.drew ?_ | refine Below.alloc ?_ (by simp <;> omega) _ | refine below_trans ?_ (by assumption)))));rintro e w7 ⟨rfl,a7,c7,hrs7⟩;refine ⟨_,rfl,?_⟩)
 all_goals
  have HR7:=hide hrs7
  clear hrs7 HG p0 p1 p2 p3
  go_wp2_with (fail)
  go_ret
  exact ⟨ret_eq (by simp),a7,c7,by rw [HZ.out];exact HR7.out⟩
theorem read_idle (p q s:Addr) (w:World) :
  CallsD Tryz.prog 147 #[.pointer (some p),.pointer (some q),.pointer (some s)] .returning w fun e u' w'=>e=.returned (.tuple #[])∧u'=.returning∧w'=w:=by
 refine callsD_of_wpS Tryz.func147 rfl fun c₀ cs hu=>?_
 apply wpS_seq
 apply wpS_region
 simp [wpOpsS,go_sem,recoverD,hu,Tryz.ntmps147,Exit.thenS]
 have he:∀ W:World,(binOp .eql 20 .nilIface .nilIface).run Tryz.prog W=.ok (.bool true) W:=fun _=>rfl
 refine wpS_of_wp ?_
 go_wp2
 cases c₀
 simp_all [bodyPostS,results,Tryz.results147]
theorem below_setF {w w3:World} (hb:Below w.heap.size w w3) (nb o:Nat) (v:Value) (hnb:w.heap.size≤nb):Below w.heap.size w (w3.setCell ⟨nb,o,none⟩ v):=
 ⟨hb.os,hb.tape,hb.output,by simp only [World.setCell,Array.size_modify];exact hb.size,fun k hk=>(set_far w3 _ _ k (by show k ≠ nb;omega)).trans (hb.block k hk)⟩
theorem own_far {w:World}{base e size n:Nat}{v:Value}{xs:List Value} (h:w.ownsRow base e size v n xs) (nb o:Nat) (x:Value) (hrow:some nb ≠ v.ownBlock):(w.setCell ⟨nb,o,none⟩ x).ownsRow base e size v n xs:=
 h.kept (row:=some nb) ⟨rfl,rfl,rfl,by simp [World.setCell],fun k hk hne=>set_far w _ _ k (fun e=>hne (by rw [e]))⟩ (Or.inr fun e=>hrow e.symm)
theorem rd_begin {w:World}{r:Nat} (hs:SgMap w r) (T:List UInt8) (ty:Nat):RD (w.alloc (.cells #[.map (some r),.string ⟨T.toArray⟩,.int .i64 0,.slice none 0 0] ty)) w.heap.size r (w.heap.size+1) T 0 none 0 []:=by
 have hb:Below w.heap.size w (w.alloc (.cells #[.map (some r),.string ⟨T.toArray⟩,.int .i64 0,.slice none 0 0] ty)):=below_new _ _
 have hrl:=hs.lt
 refine ⟨?_,?_,?_,?_,fun o=>World.frozen?_alloc_new _ _ _ _,hs.below hb,⟨rfl,Or.inl ⟨rfl,rfl⟩⟩,by simp,by omega,by omega,by omega⟩
 all_goals exact cell_top _ _ _ _ _ _ rfl rfl
theorem read_ok {T:List UInt8}{g:Nat→List Nd} (hN:NodeAt T 0 T.length g) (hg:(g 0).length≤1000) (w:World) :
  Calls Tryz.prog 95 #[.string ⟨T.toArray⟩] w fun e w'=>∃ v,e=.returned (.tuple #[v,.int .i64 0,.bool true])∧NodeSl w' v (g 0)∧Below w.heap.size w w':=by
 have hmf:∀ (fn:Fn) (first cap:Array Value) (w:World),(Instr.makeFunc fn first cap).run Tryz.prog w=.ok (.func fn first cap) w:=fun _ _ _ _=>rfl
 have HN:=hide hN
 clear hN
 go_enter_defers Tryz.func95,Tryz.ntmps95
 go_wp2_with (fail)
 refine (signs_any _).mono ?_
 rintro e w1 ⟨r,rfl,hr,hr0,hb1⟩
 obtain ⟨W0,hW0⟩:∃ W0,W0=((w.alloc (Obj.cells #[.slice none 0 0] 30)).alloc (Obj.cells #[.int .i64 0] 3)).alloc (Obj.cells #[.bool false] 4):=⟨_,rfl⟩
 rw [← hW0] at hb1
 have h00:W0.heap.size=w.heap.size+3:=by rw [hW0];simp
 have hbw0:Below w.heap.size w W0:=by rw [hW0];exact (by repeat (first | exact Below.refl _ _ | assumption | refine below_drewN ?_ _ | refine Below.drew ?_ | refine Below.alloc ?_ (by simp <;> omega) _ | refine below_trans ?_ (by assumption)))
 have y0:W0.heap[w.heap.size]?=some (Obj.cells #[.slice none 0 0] 30):=by
  rw [hW0]
  rw [heap_alloc_old _ _ (by simp <;> omega),heap_alloc_old _ _ (by simp <;> omega)]
  exact heap_alloc_new _ _
 have y1:W0.heap[w.heap.size+1]?=some (Obj.cells #[.int .i64 0] 3):=by
  rw [hW0]
  rw [heap_alloc_old _ _ (by simp <;> omega)]
  have:=heap_alloc_new (w.alloc (Obj.cells #[.slice none 0 0] 30)) (Obj.cells #[.int .i64 0] 3)
  simpa using this
 have y2:W0.heap[w.heap.size+2]?=some (Obj.cells #[.bool false] 4):=by
  rw [hW0]
  have:=heap_alloc_new ((w.alloc (Obj.cells #[.slice none 0 0] 30)).alloc (Obj.cells #[.int .i64 0] 3)) (Obj.cells #[.bool false] 4)
  simpa using this
 have hs1:=hb1.size
 clear hW0
 go_wp2_with (fail)
 have hR2:=rd_begin (w:=w1) (r:=r) hr T 214
 refine (HN.out _ _ _ _ _ _ _ hR2 (by simp;omega)).mono ?_
 rintro e w3 ⟨rfl,a3,c3,hrs3⟩
 have hrs3:RS (w1.alloc (.cells #[.map (some r),.string ⟨T.toArray⟩,.int .i64 0,.slice none 0 0] 214)) w3 w1.heap.size r (w1.heap.size+1) T T.length none a3 c3 (g 0):=hrs3
 have hz:∀ k o,k < W0.heap.size→W0.heap[k]?=some o→w3.heap[k]?=some o:=fun k o hk ho=>by
  rw [hrs3.gt.block k (by simp;omega) (by omega) (by simp [rowOf,Value.ownBlock]),heap_alloc_old _ _ (by omega),hb1.block k hk]
  exact ho
 have y0:=hz _ _ (by omega) y0
 have y1:=hz _ _ (by omega) y1
 have y2:=hz _ _ (by omega) y2
 have z0:=box_cell (i:=0) y0 rfl
 have z1:=box_cell (i:=0) y1 rfl
 have z2:=box_cell (i:=0) y2 rfl
 have x0:=frozen_of_row _ _ 0 _ _ y0
 have x1:=frozen_of_row _ _ 0 _ _ y1
 have x2:=frozen_of_row _ _ 0 _ _ y2
 have k2:=hrs3.rd.c2
 have k3:=hrs3.rd.c3
 have HB3:=hide (neg_below hbw0 hb1 (show GTf w1.heap.size none _ w3 from hrs3.gt))
 have HO3:=hide hrs3.rd.own
 have HW:=hide h00
 have HS1:=hide hs1
 clear hrs3 hz y0 y1 y2 hR2 hr hr0 hb1 hbw0 HN h00 hs1
 go_wp2_with (fail)
 obtain ⟨w4,hw4⟩:∃ w4,w4=((w3.setCell ⟨w.heap.size,0,none⟩ (.slice a3 (g 0).length c3)).setCell ⟨w.heap.size+1,0,none⟩ (.int .i64 0)).setCell ⟨w.heap.size+1+1,0,none⟩ (.bool true):=⟨_,rfl⟩
 rw [← hw4]
 have q0:w4.cell? ⟨w.heap.size,0,none⟩=some (.slice a3 (g 0).length c3):=by rw [hw4];exact cell_set_ne (by omega) (cell_set_ne (by omega) (cell_set_eq z0))
 have q1:w4.cell? ⟨w.heap.size+1,0,none⟩=some (.int .i64 0):=by rw [hw4];exact cell_set_ne (by omega) (cell_set_eq (cell_set_ne (by omega) z1))
 have q2:w4.cell? ⟨w.heap.size+1+1,0,none⟩=some (.bool true):=by rw [hw4];exact cell_set_eq (cell_set_ne (by omega) (cell_set_ne (by omega) z2))
 have HB4:Hid (Below w.heap.size w w4):=hide (by rw [hw4];exact below_setF (below_setF (below_setF HB3.out _ _ _ (by omega)) _ _ _ (by omega)) _ _ _ (by omega))
 have hrow:∀ nb,nb < w1.heap.size+1→some nb ≠ (Value.slice a3 (g 0).length c3).ownBlock:=fun nb hnb e=>by
  have:=(HO3.out.lt nb e.symm).1
  omega
 have HO4:Hid (NodeSl w4 (.slice a3 (g 0).length c3) (g 0)):=hide (by
  have e1:=HW.out
  have e2:=HS1.out
  rw [hw4]
  exact nodeSl_of_owns (own_far (own_far (own_far HO3.out _ _ _ (hrow _ (by omega))) _ _ _ (hrow _ (by omega))) _ _ _ (hrow _ (by omega))))
 clear hw4 hrow z0 z1 z2 x0 x1 x2 k2 k3
 refine leaves_cons (f:=147) (args:=#[.pointer (some ⟨w.heap.size,0,none⟩),.pointer (some ⟨w.heap.size+1,0,none⟩),.pointer (some ⟨w.heap.size+1+1,0,none⟩)]) (by simp) (by simp [go_sem]) ?_
 refine (read_idle _ _ _ _).mono ?_
 rintro e u' w'' ⟨rfl,rfl,rfl⟩
 simp [Leaves,settle,results,Tryz.results95,go_sem,q0,q1,q2]
 exact ⟨HO4.out,HB4.out⟩
theorem parse_ok {T:List UInt8}{g:Nat→List Nd} (hN:NodeAt T 0 T.length g) (hT:T.length≤2000) (hg:(g 0).length≤1000) (hc:chkF (g 0)=0) (w:World) :
  Calls Tryz.prog 53 #[.string ⟨T.toArray⟩] w fun e w'=>∃ v,e=.returned (.tuple #[v,.int .i64 0,.int .i64 0])∧NodeSl w' v (g 0)∧Below w.heap.size w w':=by
 have HR:=hide (read_ok hN hg w)
 have HC:=hide hc
 clear hN hc
 have hlt:¬ (2000 < (T.length:Int)):=by omega
 have hsz:(⟨T.toArray⟩:ByteArray).size=T.length:=by simp [ByteArray.size]
 go_enter Tryz.func53,Tryz.ntmps53
 go_wp2_with (fail)
 refine HR.out.mono ?_
 rintro e w1 ⟨v,rfl,hv,hb1⟩
 have HV:=hide hv
 have HB1:=hide hb1
 clear hb1 HR
 obtain ⟨fa,fc,rfl,hm,-⟩:=hv
 go_wp2_with (fail)
 refine (formulaCheck_any HV.out).mono ?_
 rintro e w2 ⟨rfl,hb2⟩
 rw [HC.out]
 go_wp2_with (fail)
 go_ret3
 exact ⟨_,rfl,HV.out.below hb2,below_trans HB1.out hb2⟩
def smallM:Mdl:=⟨1,[1],[0],[[0]]⟩
theorem five_allocM (w:World) (a b c d e:Obj):((((((w.alloc a).alloc b).alloc c).alloc d).alloc e).heap[w.heap.size]?=some a∧(((((w.alloc a).alloc b).alloc c).alloc d).alloc e).heap[w.heap.size+1]?=some b∧(((((w.alloc a).alloc b).alloc c).alloc d).alloc e).heap[w.heap.size+1+1]?=some c∧(((((w.alloc a).alloc b).alloc c).alloc d).alloc e).heap[w.heap.size+1+1+1]?=some d∧(((((w.alloc a).alloc b).alloc c).alloc d).alloc e).heap[w.heap.size+1+1+1+1]?=some e)∧Below w.heap.size w (((((w.alloc a).alloc b).alloc c).alloc d).alloc e):=by
 have s1:(w.alloc a).heap.size=w.heap.size+1:=by simp
 have s2:((w.alloc a).alloc b).heap.size=w.heap.size+1+1:=by simp
 have s3:(((w.alloc a).alloc b).alloc c).heap.size=w.heap.size+1+1+1:=by simp
 have s4:((((w.alloc a).alloc b).alloc c).alloc d).heap.size=w.heap.size+1+1+1+1:=by simp
 have b1:=below_new w a
 have b2:=below_new (w.alloc a) b
 have b3:=below_new ((w.alloc a).alloc b) c
 have b4:=below_new (((w.alloc a).alloc b).alloc c) d
 have b5:=below_new ((((w.alloc a).alloc b).alloc c).alloc d) e
 have o1:=one_new w a
 have o2:=one_new (w.alloc a) b
 have o3:=one_new ((w.alloc a).alloc b) c
 have o4:=one_new (((w.alloc a).alloc b).alloc c) d
 have o5:=one_new ((((w.alloc a).alloc b).alloc c).alloc d) e
 rw [s1] at o2
 rw [s2] at o3
 rw [s3] at o4
 rw [s4] at o5
 exact ⟨⟨belowRow b5 (belowRow b4 (belowRow b3 (belowRow b2 o1))),belowRow b5 (belowRow b4 (belowRow b3 o2)),belowRow b5 (belowRow b4 o3),belowRow b5 o4,o5⟩,below_trans (below_trans (below_trans (below_trans b1 b2) b3) b4) b5⟩
theorem intSl_oneM {w:World}{g:Nat}{x:Int} (h:w.heap[g]?=some (.cells #[.int .i64 x] 3)):IntSl w (.slice (some ⟨g,0,none⟩) 1 1) [x]:=
 ⟨_,_,rfl,by simp [maxLen],Or.inr ⟨g,0,rfl,fun i hi=>by
  obtain rfl:i=0:=by simp at hi;omega
  exact cell_of_row _ _ 0 _ _ _ h⟩,(fun h=>by cases h),Nat.le_refl _⟩
theorem small_any (w:World) :
  Calls Tryz.prog 76 #[] w fun e w'=>∃ v,e=.returned v∧MdV w' v smallM∧Below w.heap.size w w':=by
 go_enter Tryz.func76,Tryz.ntmps76
 go_wp2
 obtain ⟨⟨q0,q1,q2,q3,q4⟩,hb⟩:=five_allocM w (Obj.cells #[Value.int .i64 1,.slice (some ⟨w.heap.size+1,0,none⟩) 1 1,.slice (some ⟨w.heap.size+1+1,0,none⟩) 1 1,.slice (some ⟨w.heap.size+1+1+1+1,0,none⟩) 1 1] 59) (Obj.cells #[Value.int .i64 1] 3) (Obj.cells #[Value.int .i64 0] 3) (Obj.cells #[Value.int .i64 0] 3) (Obj.cells #[Value.slice (some ⟨w.heap.size+1+1+1,0,none⟩) 1 1] 22)
 generalize ((((w.alloc (Obj.cells #[Value.int .i64 1,.slice (some ⟨w.heap.size+1,0,none⟩) 1 1,.slice (some ⟨w.heap.size+1+1,0,none⟩) 1 1,.slice (some ⟨w.heap.size+1+1+1+1,0,none⟩) 1 1] 59)).alloc (Obj.cells #[Value.int .i64 1] 3)).alloc (Obj.cells #[Value.int .i64 0] 3)).alloc (Obj.cells #[Value.int .i64 0] 3)).alloc (Obj.cells #[Value.slice (some ⟨w.heap.size+1+1+1,0,none⟩) 1 1] 22)=W at *
 have c0:=cell_of_row _ _ 0 _ _ _ q0
 have c1:=cell_of_row _ _ 1 _ _ _ q0
 have c2:=cell_of_row _ _ 2 _ _ _ q0
 have c3:=cell_of_row _ _ 3 _ _ _ q0
 refine bodyPost_ret (v:=.agg #[Value.int .i64 1,.slice (some ⟨w.heap.size+1,0,none⟩) 1 1,.slice (some ⟨w.heap.size+1+1,0,none⟩) 1 1,.slice (some ⟨w.heap.size+1+1+1+1,0,none⟩) 1 1]) (by simp [results,Tryz.results76,go_sem,c0,c1,c2,c3]) rfl ⟨_,rfl,⟨_,_,_,rfl,intSl_oneM q1,intSl_oneM q2,⟨_,_,rfl,by decide,Or.inr ⟨_,0,rfl,fun i hi=>?_⟩⟩⟩,hb⟩
 obtain rfl:i=0:=by simp [smallM] at hi;omega
 exact ⟨_,cell_of_row _ _ 0 _ _ _ q4,intSl_oneM q3⟩
theorem small_chk:chkM smallM=0:=by decide +kernel
def propF:List Nd:=[⟨2,0,0,0⟩]
def notF:List Nd:=[⟨2,0,0,0⟩,⟨3,0,0,0⟩]
def nextP:List Nd:=[⟨2,0,0,0⟩,⟨6,0,0,0⟩]
theorem prop_chk:chkNeg propF=0:=by decide +kernel
theorem not_chk:chkNeg notF=0:=by decide +kernel
theorem next_chk:chkNeg nextP=0:=by decide +kernel
theorem small_goes {u:Nat→Int}{N:Nat} (h:goesM smallM u N) {t:Nat} (ht:t < N):u t=1:=by
 obtain ⟨p,hp,_,e⟩:=h t ht
 obtain rfl:p=0:=by simp [smallM] at hp;omega
 exact e.symm
theorem small_ones:goesM smallM (lat [] [1]) (farM smallM [] [1]):=by
 have hr:∀ t,reachM smallM (lat [] [1]) t 0:=fun t=>by
  induction t with
  | zero=>simp [reachM,smallM]
  | succ t ih=>exact ⟨0,by simp [smallM],ih,by simp [mLab,smallM,lat,List.getD,Nat.mod_one],by simp [mRow,smallM]⟩
 exact fun t _=>⟨0,by simp [smallM],hr t,by simp [mLab,smallM,lat,List.getD,Nat.mod_one]⟩
end Go.Proofs.YtpiacnnifdjlkabGreatDoor
