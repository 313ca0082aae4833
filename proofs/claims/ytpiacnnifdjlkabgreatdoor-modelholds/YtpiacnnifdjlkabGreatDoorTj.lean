import Derived.Test.YtpiacnnifdjlkabGreatDoorTg
import Derived.Test.YtpiacnnifdjlkabGreatDoorYm
import Derived.Test.YtpiacnnifdjlkabGreatDoorVa
import Derived.Test.YtpiacnnifdjlkabGreatDoorYa
set_option maxRecDepth 100000
set_option maxHeartbeats 8000000
namespace Go.Proofs.YtpiacnnifdjlkabGreatDoor
open Go.RowKit Go.Sort
theorem foreL_lt {F:List Nd} (hF:RdOk F):foreL F < 65536:=
 Nat.lt_of_lt_of_le (Nat.lt_pow_two_of_testBit _ (fun i hi=>by
  unfold foreL
  rw [foreN_test,decide_eq_false (by omega),Bool.false_and])) (Nat.pow_le_pow_right (n:=2) (by decide) (show F.length≤16 by have:=hF.few;omega))
def fitN (F:List Nd) (tl now i:Nat):Bool:=!(foreL F).testBit i || (tl.testBit i == now.testBit (partN F i))
theorem fits_all {F:List Nd}{tl tu now:Nat}:fitsL F (false,tl,tu) now=true ↔ ∀ j,j < F.length→fitN F tl now j=true:=by
 unfold fitsL
 rw [if_neg (by simp),List.all_eq_true]
 simp only [List.mem_range]
 rfl
theorem fits_not {F:List Nd}{tl tu now:Nat}{j:Nat} (hj:j < F.length) (h:fitN F tl now j=false):fitsL F (false,tl,tu) now=false:=by
 cases hf:fitsL F (false,tl,tu) now with
 | false=>rfl
 | true=>rw [fits_all.1 hf j hj] at h;cases h
theorem tFits {F:List Nd} (hF:RdOk F) (fv lv:Value) (bg:Bool) (tl tu now:Nat) (w:World) (hv:NodeSl w fv F) (hl1:∃ a l c,lv=.slice a l c) (htl:tl < 65536) (hx:now < 65536) :
  Calls Tryz.prog 120 #[.agg #[fv,.int .u16 (foreL F:Nat),lv],.agg #[.bool bg,.int .u16 tl,.int .i64 tu],.int .u16 now] w fun e w'=>e=.returned (.bool (fitsL F (bg,tl,tu) now))∧Below w.heap.size w w':=by
 obtain ⟨fa,fc,rfl,hfm,hcell,-,-⟩:=hv
 obtain ⟨l1,l2,l3,rfl⟩:=hl1
 unfold maxLen at hfm
 have hfo:=foreL_lt hF
 have HN:=hide hF
 have Hcell:=hide hcell
 have HAll:=hide (fun h=>(fits_all (F:=F) (tl:=tl) (tu:=tu) (now:=now)).2 h)
 have HNot:=hide (fun j hj h=>fits_not (F:=F) (tl:=tl) (tu:=tu) (now:=now) (j:=j) hj h)
 have HFN:=hide (show ∀ i,fitN F tl now i=(!(foreL F).testBit i || (tl.testBit i == now.testBit (partN F i))) from fun i=>rfl)
 have HBg:=hide (show fitsL F (true,tl,tu) now=now.testBit (F.length - 1) from rfl)
 have hf12:=hF.few
 have hne:=hF.ne
 generalize hL:F.length=L at *
 have HL:=hide hL
 clear hL hF hcell
 generalize foreL F=fo at *
 have HB0:=hide (below_trans (below_new w (Obj.cells #[.slice fa L fc,.int .u16 (fo:Nat),.slice l1 l2 l3] 107)) (below_new (w.alloc (Obj.cells #[.slice fa L fc,.int .u16 (fo:Nat),.slice l1 l2 l3] 107)) (Obj.cells #[.bool bg,.int .u16 tl,.int .i64 tu] 111)))
 have hr0:=belowRow (below_new (w.alloc (Obj.cells #[.slice fa L fc,.int .u16 (fo:Nat),.slice l1 l2 l3] 107)) (Obj.cells #[.bool bg,.int .u16 tl,.int .i64 tu] 111)) (one_new w (Obj.cells #[.slice fa L fc,.int .u16 (fo:Nat),.slice l1 l2 l3] 107))
 have hs0:=one_new (w.alloc (Obj.cells #[.slice fa L fc,.int .u16 (fo:Nat),.slice l1 l2 l3] 107)) (Obj.cells #[.bool bg,.int .u16 tl,.int .i64 tu] 111)
 rw [show (w.alloc (Obj.cells #[.slice fa L fc,.int .u16 (fo:Nat),.slice l1 l2 l3] 107)).heap.size=w.heap.size+1 by simp] at hs0
 have HXr0:=hide hr0
 have HXs0:=hide hs0
 clear hr0 hs0
 go_enter Tryz.func120,Tryz.ntmps120
 cases bg with
 | true =>
  have hsub:((L:Int) - 1).toNat=L - 1:=by omega
  have e1:(L:Int) - 1=((L - 1:Nat):Int):=by omega
  go_wp2_with (fail)
  go_fit (tHas now (L - 1) _ hx (by omega))
  rintro e W' ⟨rfl,rfl⟩
  go_wp2_with (fail)
  go_ret
  exact ⟨by rw [HBg.out];rfl,HB0.out⟩
 | false =>
  go_wp2_with (fail)
  go_loopw [21] (fun s21 wr=>∃ m:Nat,s21=.int .i64 m∧m≤L∧Hid (∀ j,j < m→fitN F tl now j=true)∧Hid (Below w.heap.size w wr)∧Hid (wr.heap[w.heap.size]?=some (.cells #[.slice fa L fc,.int .u16 (fo:Nat),.slice l1 l2 l3] 107))∧Hid (wr.heap[w.heap.size+1]?=some (.cells #[.bool false,.int .u16 tl,.int .i64 tu] 111))) (fun s21 _=>L - (intOf s21).toNat)
  case atStart=>exact ⟨0,rfl,Nat.zero_le _,hide (fun j hj=>absurd hj (Nat.not_lt_zero _)),HB0,HXr0,HXs0⟩
  case round =>
   clear HXr0 HXs0 HB0 HBg
   obtain ⟨m,rfl,hm,HA,HB,HXr,HXs⟩:=hrel
   by_cases hmL:m < L
   ·have hml:m < F.length:=by rw [HL.out];exact hmL
    rcases Hcell.out with hz | ⟨b5,o5,e5,hc⟩
    ·rw [hz] at hml;simp at hml
    subst e5
    obtain ⟨q0,q1,q2,q3⟩:=hc m hmL
    have d0:=(HB.out.cell (World.block_lt_of_cell? w _ q0)).trans q0
    have d1:=(HB.out.cell (World.block_lt_of_cell? w _ q1)).trans q1
    have d2:=(HB.out.cell (World.block_lt_of_cell? w _ q2)).trans q2
    have d3:=(HB.out.cell (World.block_lt_of_cell? w _ q3)).trans q3
    obtain ⟨a0,a16,b0,b16,-⟩:=HN.out.num m hml
    have HOne:=hide (HFN.out m)
    unfold partN kN aN at HOne
    have HNo:=hide (HNot.out m hmL)
    clear q0 q1 q2 q3 hc HFN
    generalize F.getD m nd0=x at *
    obtain ⟨k,xa,xb,xn⟩:=x
    dsimp only at *
    obtain ⟨na,rfl⟩:=Int.eq_ofNat_of_zero_le a0
    rw [Int.toNat_natCast] at HOne
    have hbx:=below_new wr (Obj.cells #[.int .i64 k,.int .i64 (na:Nat),.int .i64 xb,.int .i64 xn] 55)
    have HB2:=hide (below_trans HB.out hbx)
    have hr2:=belowRow hbx HXr.out
    have hs2:=belowRow hbx HXs.out
    have r1:=cell_of_row _ _ 1 _ _ _ hr2
    have s1:=cell_of_row _ _ 1 _ _ _ hs2
    have HXr2:=hide hr2
    have HXs2:=hide hs2
    clear hbx hr2 hs2
    by_cases k6:k=6
    ·rw [if_pos k6] at HOne
     subst k6
     go_wp2_with (fail)
     go_fit (tHas fo m _ hfo (by omega))
     rintro e W' ⟨rfl,rfl⟩
     cases hb:fo.testBit m with
     | false =>
      rw [hb] at HOne
      have HEq:=hide (show (!false || (tl.testBit m == now.testBit na))=true from rfl)
      clear hb
      go_wp2_with (fail)
      go_roundw
      case rel=>exact ⟨m+1,by go_num,by omega,hide (fun j hj=>by
       rcases Nat.lt_succ_iff_lt_or_eq.1 hj with h | h
       ·exact HA.out j h
       ·rw [h,HOne.out,HEq.out]),HB2,HXr2,HXs2⟩
      case measure=>simp [intOf];omega
     | true =>
      rw [hb] at HOne
      clear hb
      go_wp2_with (fail)
      go_fit (tHas tl m _ htl (by omega))
      rintro e W' ⟨rfl,rfl⟩
      go_wp2_with (fail)
      go_fit (tHas now na _ hx (by omega))
      rintro e W' ⟨rfl,rfl⟩
      generalize tl.testBit m=p1 at *
      generalize now.testBit na=p2 at *
      by_cases hp:p1=p2
      ·have hne:(p1 != p2)=false:=by rw [hp];simp
       have hn2:(!(p1 == p2))=false:=by rw [hp];simp
       have hn3:(p1 == p2)=true:=by rw [hp];simp
       have HEq:=hide (show (!true || (p1 == p2))=true by rw [hp];simp)
       go_wp2_with (fail)
       go_roundw
       case rel=>exact ⟨m+1,by go_num,by omega,hide (fun j hj=>by
        rcases Nat.lt_succ_iff_lt_or_eq.1 hj with h | h
        ·exact HA.out j h
        ·rw [h,HOne.out,HEq.out]),HB2,HXr2,HXs2⟩
       case measure=>simp [intOf];omega
      ·have hne:(p1 != p2)=true:=by simpa using hp
       have hn3:(p1 == p2)=false:=by simpa using hp
       have hn2:(!(p1 == p2))=true:=by rw [hn3];rfl
       have HEq:=hide (show (!true || (p1 == p2))=false by simpa using hp)
       go_wp2_with (fail)
       go_ret
       exact ⟨by rw [HNo.out (by rw [HOne.out,HEq.out])];rfl,HB2.out⟩
    ·have hk6:(k == 6)=false:=by simpa using k6
     rw [if_neg k6] at HOne
     go_wp2_with (fail)
     go_fit (tHas fo m _ hfo (by omega))
     rintro e W' ⟨rfl,rfl⟩
     cases hb:fo.testBit m with
     | false =>
      rw [hb] at HOne
      have HEq:=hide (show (!false || (tl.testBit m == now.testBit m))=true from rfl)
      clear hb
      go_wp2_with (fail)
      go_roundw
      case rel=>exact ⟨m+1,by go_num,by omega,hide (fun j hj=>by
       rcases Nat.lt_succ_iff_lt_or_eq.1 hj with h | h
       ·exact HA.out j h
       ·rw [h,HOne.out,HEq.out]),HB2,HXr2,HXs2⟩
      case measure=>simp [intOf];omega
     | true =>
      rw [hb] at HOne
      clear hb
      go_wp2_with (fail)
      go_fit (tHas tl m _ htl (by omega))
      rintro e W' ⟨rfl,rfl⟩
      go_wp2_with (fail)
      go_fit (tHas now m _ hx (by omega))
      rintro e W' ⟨rfl,rfl⟩
      generalize tl.testBit m=p1 at *
      generalize now.testBit m=p2 at *
      by_cases hp:p1=p2
      ·have hne:(p1 != p2)=false:=by rw [hp];simp
       have hn2:(!(p1 == p2))=false:=by rw [hp];simp
       have hn3:(p1 == p2)=true:=by rw [hp];simp
       have HEq:=hide (show (!true || (p1 == p2))=true by rw [hp];simp)
       go_wp2_with (fail)
       go_roundw
       case rel=>exact ⟨m+1,by go_num,by omega,hide (fun j hj=>by
        rcases Nat.lt_succ_iff_lt_or_eq.1 hj with h | h
        ·exact HA.out j h
        ·rw [h,HOne.out,HEq.out]),HB2,HXr2,HXs2⟩
       case measure=>simp [intOf];omega
      ·have hne:(p1 != p2)=true:=by simpa using hp
       have hn3:(p1 == p2)=false:=by simpa using hp
       have hn2:(!(p1 == p2))=true:=by rw [hn3];rfl
       have HEq:=hide (show (!true || (p1 == p2))=false by simpa using hp)
       go_wp2_with (fail)
       go_ret
       exact ⟨by rw [HNo.out (by rw [HOne.out,HEq.out])];rfl,HB2.out⟩
   ·obtain rfl:m=L:=by omega
    go_wp2_with (fail)
    go_ret
    exact ⟨by rw [HAll.out HA.out];rfl,HB.out⟩
theorem grown_box {W W':World}{base e sz n pb:Nat}{v:Value}{xs:List Value}{c:Array Value}{t:TypeId} (hb:W.heap[pb]?=some (.cells c t)) (h':W.ownsRow base e sz v n xs) (hne:e ≠ t) (hg:W.grownBy W' v.ownBlock):W'.heap[pb]?=some (.cells c t):=
 (hg.block pb (Array.getElem?_eq_some_iff.1 hb).1 (fun e1=>row_apart h' hb hne pb e1.symm rfl)).trans hb
theorem grown_below {w W W':World}{base e sz n:Nat}{v:Value}{xs:List Value} (hb:Below base w W) (h':W.ownsRow base e sz v n xs) (hbase:base≤w.heap.size) (hg:W.grownBy W' v.ownBlock):Below base w W':=
 ⟨hg.os.trans hb.os,hg.tape.trans hb.tape,hg.output.trans hb.output,Nat.le_trans hb.size hg.size,fun i hi=>by
  rw [hg.block i (by have:=hb.size;omega) (fun e1=>by have:=(h'.lt i e1.symm).1;omega)]
  exact hb.block i hi⟩
def numV (xs:List Nat):List Value:=xs.map fun i=>.int .i64 (i:Nat)
structure NRd (w W:World) (fv lv:Value) (fo:Nat) (xs:List Nat):Prop where
 box:W.heap[w.heap.size+1]?=some (.cells #[fv,.int .u16 (fo:Nat),lv] 107)
 b0:W.heap[w.heap.size]?=some (.cells #[.slice none 0 0,.int .u16 0,.slice none 0 0] 107)
 own:W.ownsRow w.heap.size 3 1 lv xs.length (numV xs)
 bl:Below w.heap.size w W
theorem NRd.below {w W W':World}{fv lv:Value}{fo:Nat}{xs:List Nat} (h:NRd w W fv lv fo xs) (hb:Below W.heap.size W W'):NRd w W' fv lv fo xs:=
 ⟨belowRow hb h.box,belowRow hb h.b0,owns_below h.own hb,h.bl.trans (hb.mono h.bl.size)⟩
theorem NRd.fore {w W:World}{fv lv:Value}{fo:Nat}{xs:List Nat} (h:NRd w W fv lv fo xs) (fo':Nat):NRd w (W.setCell ⟨w.heap.size+1,1,none⟩ (.int .u16 (fo':Nat))) fv lv fo' xs:=
 ⟨box_set h.box 1 _,(heap_setCell_other _ _ _ _ (by simp)).trans h.b0,owns_set h.own h.box (by decide) _ _,below_set h.bl (by omega) _ _⟩
theorem NRd.last {w W W':World}{fv lv lv':Value}{fo:Nat}{xs:List Nat}{m:Nat} (h:NRd w W fv lv fo xs) (hg:W.grownBy W' lv.ownBlock) (ho:W'.ownsRow w.heap.size 3 1 lv' (xs.length+1) (numV xs ++ [.int .i64 (m:Nat)])):NRd w (W'.setCell ⟨w.heap.size+1,2,none⟩ lv') fv lv' fo (xs ++ [m]):=by
 have hb:=grown_box h.box h.own (by decide) hg
 refine ⟨box_set hb 2 _,(heap_setCell_other _ _ _ _ (by simp)).trans (grown_box h.b0 h.own (by decide) hg),?_,below_set (grown_below h.bl h.own (Nat.le_refl _) hg) (by omega) _ _⟩
 have:=owns_set ho hb (by decide) 2 lv'
 simpa [numV] using this
theorem foreN_lt (F:List Nd) (m:Nat) (hm:m≤16):foreN F m < 65536:=
 Nat.lt_of_lt_of_le (Nat.lt_pow_two_of_testBit _ (fun i hi=>by rw [foreN_test,decide_eq_false (by omega),Bool.false_and])) (Nat.pow_le_pow_right (n:=2) (by decide) hm)
theorem lastN_len (F:List Nd):∀ m,(lastN F m).length≤m
 | 0=>by simp [lastN]
 | m+1=>by
  have:=lastN_len F m
  unfold lastN
  split
  ·rw [List.length_append];simp;omega
  ·omega
theorem tNewReader {F:List Nd} (hF:RdOk F) (fv:Value) (w:World) (hv:NodeSl w fv F) :
  Calls Tryz.prog 69 #[fv] w fun e w'=>∃ lv,e=.returned (.agg #[fv,.int .u16 (foreL F:Nat),lv])∧w'.ownsRow w.heap.size 3 1 lv (lastL F).length (numV (lastL F))∧Below w.heap.size w w':=by
 obtain ⟨fa,fc,rfl,hfm,hcell,-,-⟩:=hv
 unfold maxLen at hfm
 have Hcell:=hide hcell
 have hf12:=hF.few
 have HFo:=hide (show foreL F=foreN F F.length from rfl)
 have HLo:=hide (show lastL F=lastN F F.length from rfl)
 have HFlt:=hide (foreN_lt F)
 have HLle:=hide (lastN_len F)
 generalize hL:F.length=L at *
 have HL:=hide hL
 clear hL hF hcell
 have HS0:=hide (show NRd w ((w.alloc (Obj.cells #[.slice none 0 0,.int .u16 0,.slice none 0 0] 107)).alloc (Obj.cells #[.slice fa L fc,.int .u16 0,.slice none 0 0] 107)) (.slice fa L fc) (.slice none 0 0) 0 [] from
  ⟨by have:=one_new (w.alloc (Obj.cells #[.slice none 0 0,.int .u16 0,.slice none 0 0] 107)) (Obj.cells #[.slice fa L fc,.int .u16 0,.slice none 0 0] 107);rwa [show (w.alloc (Obj.cells #[.slice none 0 0,.int .u16 0,.slice none 0 0] 107)).heap.size=w.heap.size+1 by simp] at this,
   belowRow (below_new (w.alloc (Obj.cells #[.slice none 0 0,.int .u16 0,.slice none 0 0] 107)) (Obj.cells #[.slice fa L fc,.int .u16 0,.slice none 0 0] 107)) (one_new w (Obj.cells #[.slice none 0 0,.int .u16 0,.slice none 0 0] 107)),
   World.ownsRow_nil _ _ _ _,below_trans (below_new w (Obj.cells #[.slice none 0 0,.int .u16 0,.slice none 0 0] 107)) (below_new (w.alloc (Obj.cells #[.slice none 0 0,.int .u16 0,.slice none 0 0] 107)) (Obj.cells #[.slice fa L fc,.int .u16 0,.slice none 0 0] 107))⟩)
 go_enter Tryz.func69,Tryz.ntmps69
 go_wp2_with (fail)
 go_loopw [10] (fun s10 wr=>∃ (m:Nat) (lv:Value),s10=.int .i64 m∧m≤L∧Hid (NRd w wr (.slice fa L fc) lv (foreN F m) (lastN F m))) (fun s10 _=>L - (intOf s10).toNat)
 case atStart=>exact ⟨0,_,rfl,Nat.zero_le _,HS0⟩
 case round =>
  clear HS0
  obtain ⟨m,lv,rfl,hm,HR⟩:=hrel
  by_cases hmL:m < L
  ·have hml:m < F.length:=by rw [HL.out];exact hmL
   rcases Hcell.out with hz | ⟨b5,o5,e5,hc⟩
   ·rw [hz] at hml;simp at hml
   subst e5
   obtain ⟨q0,q1,q2,q3⟩:=hc m hmL
   have d0:=(HR.out.bl.cell (World.block_lt_of_cell? w _ q0)).trans q0
   have d1:=(HR.out.bl.cell (World.block_lt_of_cell? w _ q1)).trans q1
   have d2:=(HR.out.bl.cell (World.block_lt_of_cell? w _ q2)).trans q2
   have d3:=(HR.out.bl.cell (World.block_lt_of_cell? w _ q3)).trans q3
   have hfl:=HFlt.out m (by omega)
   have hle:=HLle.out m
   clear q0 q1 q2 q3 hc
   obtain ⟨k,hk⟩:∃ k,(F.getD m nd0).k=k:=⟨_,rfl⟩
   rw [hk] at d0
   generalize (F.getD m nd0).a=xa at *
   generalize (F.getD m nd0).b=xb at *
   generalize (F.getD m nd0).n=xn at *
   have HK:=hide hk
   clear hk
   by_cases h7:k=7
   ·subst h7
    have HF:=hide (show foreN F (m+1)=addBit (foreN F m) m from if_pos (by unfold kN;rw [HK.out];omega))
    have HLa:=hide (show lastN F (m+1)=lastN F m ++ [m] from if_pos (by unfold kN;rw [HK.out];omega))
    generalize hfo:foreN F m=fo at *
    generalize hxs:lastN F m=xs at *
    clear hfo hxs
    have hbx:=below_new wr (Obj.cells #[.int .i64 7,.int .i64 xa,.int .i64 xb,.int .i64 xn] 55)
    have HR1:=hide (HR.out.below hbx)
    clear hbx
    obtain ⟨la,lc,rfl⟩:=owns_form HR1.out.own
    have r2:=cell_of_row _ _ 2 _ _ _ HR1.out.box
    have hs1:(wr.alloc (Obj.cells #[.int .i64 7,.int .i64 xa,.int .i64 xb,.int .i64 xn] 55)).heap.size=wr.heap.size+1:=by simp
    have HoA:=hide (HR1.out.own.alloc (Obj.cells #[Value.int .i64 (m:Nat)] 3))
    have HRA:=hide (HR1.out.below (below_new (wr.alloc (Obj.cells #[.int .i64 7,.int .i64 xa,.int .i64 xb,.int .i64 xn] 55)) (Obj.cells #[Value.int .i64 (m:Nat)] 3)))
    have Hc0:=hide (show ((wr.alloc (Obj.cells #[.int .i64 7,.int .i64 xa,.int .i64 xb,.int .i64 xn] 55)).alloc (Obj.cells #[Value.int .i64 (m:Nat)] 3)).cell? ⟨wr.heap.size+1,0,none⟩=some (.int .i64 (m:Nat)) by rw [← hs1];exact cell_of_row _ _ 0 _ _ _ (one_new (wr.alloc (Obj.cells #[.int .i64 7,.int .i64 xa,.int .i64 xb,.int .i64 xn] 55)) (Obj.cells #[Value.int .i64 (m:Nat)] 3)))
    have HbW:=hide HRA.out.bl.size
    clear hs1
    go_wp2_with (at_builtin;refine wpList_append_one _ rfl (.tmp 21) (.tmp 23) 22 3 1 8 rfl elInt w.heap.size _ _ _ rfl HoA.out (wr.heap.size+1) 1 [.int .i64 (m:Nat)] rfl rfl (by intro j u hu;match j,hu with | 0,hu=>simp at hu;subst hu;exact Hc0.out | j+1,hu=>simp at hu) (by intro u hu;simp at hu;subst hu;rfl) (by omega) HbW.out ?_;intro g8 cap8 w8 hown8 hgrow8 hor8 hbase8;have HN8:=hide (HRA.out.last hgrow8 hown8);have b8:=grown_box HRA.out.box HoA.out (by decide) hgrow8;have y2:=cell_of_row _ _ 2 _ _ _ b8;have z2:=frozen_of_row _ _ 2 _ _ b8;have y1:=cell_of_row _ _ 1 _ _ _ HN8.out.box;have z1:=frozen_of_row _ _ 1 _ _ HN8.out.box;clear hown8 hgrow8 hor8 hbase8 b8)
    go_fit (tWith fo m _ hfl (by omega))
    rintro e W' ⟨rfl,rfl⟩
    go_wp2_with (fail)
    go_roundw
    case rel=>exact ⟨m+1,_,by go_num,by omega,hide (by rw [HF.out,HLa.out];exact HN8.out.fore _)⟩
    case measure=>simp [intOf];omega
   by_cases h8:k=8
   ·subst h8
    clear h7
    have HF:=hide (show foreN F (m+1)=addBit (foreN F m) m from if_pos (by unfold kN;rw [HK.out];omega))
    have HLa:=hide (show lastN F (m+1)=lastN F m ++ [m] from if_pos (by unfold kN;rw [HK.out];omega))
    generalize hfo:foreN F m=fo at *
    generalize hxs:lastN F m=xs at *
    clear hfo hxs
    have hbx:=below_new wr (Obj.cells #[.int .i64 8,.int .i64 xa,.int .i64 xb,.int .i64 xn] 55)
    have HR1:=hide (HR.out.below hbx)
    clear hbx
    obtain ⟨la,lc,rfl⟩:=owns_form HR1.out.own
    have r2:=cell_of_row _ _ 2 _ _ _ HR1.out.box
    have hs1:(wr.alloc (Obj.cells #[.int .i64 8,.int .i64 xa,.int .i64 xb,.int .i64 xn] 55)).heap.size=wr.heap.size+1:=by simp
    have HoA:=hide (HR1.out.own.alloc (Obj.cells #[Value.int .i64 (m:Nat)] 3))
    have HRA:=hide (HR1.out.below (below_new (wr.alloc (Obj.cells #[.int .i64 8,.int .i64 xa,.int .i64 xb,.int .i64 xn] 55)) (Obj.cells #[Value.int .i64 (m:Nat)] 3)))
    have Hc0:=hide (show ((wr.alloc (Obj.cells #[.int .i64 8,.int .i64 xa,.int .i64 xb,.int .i64 xn] 55)).alloc (Obj.cells #[Value.int .i64 (m:Nat)] 3)).cell? ⟨wr.heap.size+1,0,none⟩=some (.int .i64 (m:Nat)) by rw [← hs1];exact cell_of_row _ _ 0 _ _ _ (one_new (wr.alloc (Obj.cells #[.int .i64 8,.int .i64 xa,.int .i64 xb,.int .i64 xn] 55)) (Obj.cells #[Value.int .i64 (m:Nat)] 3)))
    have HbW:=hide HRA.out.bl.size
    clear hs1
    go_wp2_with (at_builtin;refine wpList_append_one _ rfl (.tmp 21) (.tmp 23) 22 3 1 8 rfl elInt w.heap.size _ _ _ rfl HoA.out (wr.heap.size+1) 1 [.int .i64 (m:Nat)] rfl rfl (by intro j u hu;match j,hu with | 0,hu=>simp at hu;subst hu;exact Hc0.out | j+1,hu=>simp at hu) (by intro u hu;simp at hu;subst hu;rfl) (by omega) HbW.out ?_;intro g8 cap8 w8 hown8 hgrow8 hor8 hbase8;have HN8:=hide (HRA.out.last hgrow8 hown8);have b8:=grown_box HRA.out.box HoA.out (by decide) hgrow8;have y2:=cell_of_row _ _ 2 _ _ _ b8;have z2:=frozen_of_row _ _ 2 _ _ b8;have y1:=cell_of_row _ _ 1 _ _ _ HN8.out.box;have z1:=frozen_of_row _ _ 1 _ _ HN8.out.box;clear hown8 hgrow8 hor8 hbase8 b8)
    go_fit (tWith fo m _ hfl (by omega))
    rintro e W' ⟨rfl,rfl⟩
    go_wp2_with (fail)
    go_roundw
    case rel=>exact ⟨m+1,_,by go_num,by omega,hide (by rw [HF.out,HLa.out];exact HN8.out.fore _)⟩
    case measure=>simp [intOf];omega
   by_cases h6:k=6
   ·subst h6
    clear h7 h8
    have HF:=hide (show foreN F (m+1)=addBit (foreN F m) m from if_pos (by unfold kN;rw [HK.out];omega))
    have HLa:=hide (show lastN F (m+1)=lastN F m from if_neg (by unfold kN;rw [HK.out];omega))
    generalize hfo:foreN F m=fo at *
    generalize hxs:lastN F m=xs at *
    clear hfo hxs
    have hbx:=below_new wr (Obj.cells #[.int .i64 6,.int .i64 xa,.int .i64 xb,.int .i64 xn] 55)
    have HR1:=hide (HR.out.below hbx)
    clear hbx
    have y1:=cell_of_row _ _ 1 _ _ _ HR1.out.box
    have z1:=frozen_of_row _ _ 1 _ _ HR1.out.box
    go_wp2_with (fail)
    go_fit (tWith fo m _ hfl (by omega))
    rintro e W' ⟨rfl,rfl⟩
    go_wp2_with (fail)
    go_roundw
    case rel=>exact ⟨m+1,_,by go_num,by omega,hide (by rw [HF.out,HLa.out];exact HR1.out.fore _)⟩
    case measure=>simp [intOf];omega
   have HF:=hide (show foreN F (m+1)=foreN F m from if_neg (by unfold kN;rw [HK.out];omega))
   have HLa:=hide (show lastN F (m+1)=lastN F m from if_neg (by unfold kN;rw [HK.out];omega))
   generalize hfo:foreN F m=fo at *
   generalize hxs:lastN F m=xs at *
   clear hfo hxs
   have hbx:=below_new wr (Obj.cells #[.int .i64 k,.int .i64 xa,.int .i64 xb,.int .i64 xn] 55)
   have HR1:=hide (HR.out.below hbx)
   clear hbx
   have b7:(k == 7)=false:=by simpa using h7
   have b8:(k == 8)=false:=by simpa using h8
   have b6:(k == 6)=false:=by simpa using h6
   clear h6 h7 h8
   go_wp2_with (fail)
   go_roundw
   case rel=>exact ⟨m+1,_,by go_num,by omega,hide (by rw [HF.out,HLa.out];exact HR1.out)⟩
   case measure=>simp [intOf];omega
  ·obtain rfl:m=L:=by omega
   have x0:=cell_of_row _ _ 0 _ _ _ HR.out.box
   have x1:=cell_of_row _ _ 1 _ _ _ HR.out.box
   have x2:=cell_of_row _ _ 2 _ _ _ HR.out.box
   have y0:=cell_of_row _ _ 0 _ _ _ HR.out.b0
   have y1:=cell_of_row _ _ 1 _ _ _ HR.out.b0
   have y2:=cell_of_row _ _ 2 _ _ _ HR.out.b0
   have z0:=frozen_of_row _ _ 0 _ _ HR.out.b0
   have z1:=frozen_of_row _ _ 1 _ _ HR.out.b0
   have z2:=frozen_of_row _ _ 2 _ _ HR.out.b0
   obtain ⟨la,lc,rfl⟩:=owns_form HR.out.own
   have hF:=box_set (box_set (box_set HR.out.b0 0 (.slice fa m fc)) 1 (.int .u16 (foreN F m:Nat))) 2 (.slice la (lastN F m).length lc)
   have HO:=hide (owns_set (owns_set (owns_set HR.out.own HR.out.b0 (by decide) 0 (.slice fa m fc)) (box_set HR.out.b0 0 (.slice fa m fc)) (by decide) 1 (.int .u16 (foreN F m:Nat))) (box_set (box_set HR.out.b0 0 (.slice fa m fc)) 1 (.int .u16 (foreN F m:Nat))) (by decide) 2 (.slice la (lastN F m).length lc))
   have HB:=hide (below_set (below_set (below_set HR.out.bl (Nat.le_refl _) 0 (.slice fa m fc)) (Nat.le_refl _) 1 (.int .u16 (foreN F m:Nat))) (Nat.le_refl _) 2 (.slice la (lastN F m).length lc))
   have f0:=cell_of_row _ _ 0 _ _ _ hF
   have f1:=cell_of_row _ _ 1 _ _ _ hF
   have f2:=cell_of_row _ _ 2 _ _ _ hF
   clear hF
   go_wp2_with (fail)
   refine bodyPost_ret (v:=.agg #[.slice fa m fc,.int .u16 (foreN F m:Nat),.slice la (lastN F m).length lc]) (by simp [results,Tryz.results69,go_sem,f0,f1,f2]) rfl ⟨.slice la (lastN F m).length lc,by rw [HFo.out],by rw [HLo.out];exact HO.out,HB.out⟩
theorem partsF_head (s d p:Nat):p ∈ partsF s d p:=by
 cases d with
 | zero=>simp [partsF]
 | succ d =>
  unfold partsF
  split
  ·rename_i h;simp [h]
  ·simp
theorem partsF_next {s d p:Nat} (hd:p≤d) (hp:p ≠ 0):∃ d',(p - 1) &&& s≤d'∧partsF s d p=p :: partsF s d' ((p - 1) &&& s):=by
 cases d with
 | zero=>omega
 | succ d =>
  refine ⟨d,Nat.le_trans Nat.and_le_left (by omega),?_⟩
  rw [partsF,if_neg hp]
theorem partsF_end (s d:Nat):partsF s d 0=[0]:=by
 cases d with
 | zero=>rfl
 | succ d=>rw [partsF,if_pos rfl]
theorem tParts (s:Nat) (w:World) :
  Calls Tryz.prog 118 #[.int .u16 s] w fun e w'=>e=.returned (.func (.func 160) #[] #[.pointer (some ⟨w.heap.size,0,none⟩)])∧w'=w.alloc (Obj.cells #[.int .u16 s] 105):=by
 have hmf:∀ (fn:Fn) (first cap:Array Value) (w:World),(Instr.makeFunc fn first cap).run Tryz.prog w=.ok (.func fn first cap) w:=fun _ _ _ _=>rfl
 go_enter Tryz.func118,Tryz.ntmps118
 go_wp2
 go_ret
 exact ⟨rfl,rfl⟩
theorem partsSeq (n s b:Nat) (hs:s < 65536) (w0:World) (hbx:w0.heap[b]?=some (.cells #[.int .u16 s] 105)) :
  SeqO n Tryz.prog 160 #[.pointer (some ⟨b,0,none⟩)] (fun x:{ p:Nat // p ∈ partsL s }=>#[.int .u16 (x.1:Nat)]) (fun k=>k=b) (fun xs=>xs.map (·.1)=partsL s) (partsL s).length w0:=by
 intro l S m J Jx W hb0 hD hm hC hl0 hlW hSl _ hJ hJx hY h0
 show CallsIn Fence.wide n Tryz.prog 160 #[.func (.yield l) #[] #[],.pointer (some ⟨b,0,none⟩)] W _
 have hbW:=belowRow hb0 hbx
 have hbl:b ≠ l:=by have:=(Array.getElem?_eq_some_iff.1 hbx).1;omega
 have HSb:=hide (hC b rfl)
 have HbW:=hide hbW
 have c0:=cell_of_row _ _ 0 _ _ _ hbW
 have HY:=hide hY
 have H0:=hide h0
 have HP0:=hide (show partsL s=([]:List { p:Nat // p ∈ partsL s }).map (·.1) ++ partsF s s s from rfl)
 clear hY h0 hbW hbx hJ hJx hC hD
 refine callsIn_of_wp Tryz.func160 rfl trivial ?_ rfl
 simp only [Tryz.ntmps160,List.size_toArray,List.length_cons,List.length_nil,Nat.reduceAdd,Nat.reduceSub,Array.replicate_succ,Array.replicate_zero,List.push_toArray,List.append_toArray,List.nil_append,List.cons_append]
 gi_wp2_with (fail)
 gi_loopw [3] (fun s3 wr=>∃ (p d:Nat) (pre:List { p:Nat // p ∈ partsL s }),s3=.int .u16 p∧p < 65536∧Hid (p≤d∧p &&& s=p)∧Hid (partsL s=pre.map (·.1) ++ partsF s d p)∧Hid (J pre wr)∧Hid (KO l S W wr)) (fun s3 _=>(intOf s3).toNat)
 case atStart=>exact ⟨s,s,[],rfl,hs,hide ⟨Nat.le_refl _,Nat.and_self s⟩,HP0,H0,hide (KO.refl l S W)⟩
 case round =>
  clear c0
  obtain ⟨p,d,pre,rfl,hp,HD,HP,HJ,HK⟩:=hrel
  have hmem:p ∈ partsL s:=by rw [HP.out];exact List.mem_append_right _ (partsF_head s d p)
  have hlt:pre.length < (partsL s).length:=by
   have h1:=congrArg List.length HP.out
   rw [List.length_append,List.length_map] at h1
   have h2:=List.length_pos_of_mem (partsF_head s d p)
   omega
  obtain ⟨fn,tmps,assign,body,hy,hR⟩:=HY.out pre ⟨p,hmem⟩ wr HJ.out hlt HK.out.size
  dsimp only at hy
  have HR:=hide hR
  clear hR
  gi_wp2_with (fail)
  refine ⟨fun h=>by simp [Fence.wide] at h,HR.out.mono ?_⟩
  rintro e W3 (⟨rfl,hJ3,hk3⟩ | ⟨rfl,hJx3,_⟩)
  ·have HJ3:=hide hJ3
   have HK3:=hide (HK.out.trans hk3)
   have hb3:=HK3.out.keep b _ HbW.out hbl HSb.out
   have c3:=cell_of_row _ _ 0 _ _ _ hb3
   clear hJ3 hk3 hb3 hy HR
   by_cases hz:p=0
   ·subst hz
    have HE:=hide (show (pre ++ [(⟨0,hmem⟩:{ p:Nat // p ∈ partsL s })]).map (·.1)=partsL s from (HP.out.trans (by rw [partsF_end,List.map_append];rfl)).symm)
    gi_wp2
    refine bodyPost_ret (results_none rfl _ _ _) rfl ?_
    exact ⟨⟨_,rfl⟩,.inl ⟨_,HE.out,HJ3.out⟩⟩
   ·have hz2:((p:Int) == 0)=false:=by rw [beq_eq_false_iff_ne];omega
    obtain ⟨d',hd',hpf⟩:=partsF_next (s:=s) HD.out.1 hz
    have HA:=hide (show bits BinOp.and IntKind.u16 ((p:Int) - 1) (s:Int)=(((p - 1) &&& s:Nat):Int) by
     rw [show (p:Int) - 1=((p - 1:Nat):Int) by omega]
     exact bits_and_u16 _ _ (by omega) hs)
    have hle:(p - 1) &&& s≤p - 1:=Nat.and_le_left
    have HD2:=hide (And.intro hd' (show ((p - 1) &&& s) &&& s=(p - 1) &&& s by rw [Nat.and_assoc,Nat.and_self]))
    have HP2:=hide (show partsL s=(pre ++ [(⟨p,hmem⟩:{ p:Nat // p ∈ partsL s })]).map (·.1) ++ partsF s d' ((p - 1) &&& s) from HP.out.trans (by rw [hpf,List.map_append,List.append_assoc];rfl))
    clear hd' hpf
    gi_wp2
    go_roundw
    case rel=>exact ⟨(p - 1) &&& s,d',pre ++ [⟨p,hmem⟩],by rw [← HA.out],by omega,HD2,HP2,HJ3,HK3⟩
    case measure=>simp [intOf,HA.out];omega
  ·have HJx3:=hide hJx3
   clear hJx3
   gi_wp2
   go_end0
   exact ⟨⟨_,rfl⟩,.inr ⟨_,HJx3.out⟩⟩
end Go.Proofs.YtpiacnnifdjlkabGreatDoor
