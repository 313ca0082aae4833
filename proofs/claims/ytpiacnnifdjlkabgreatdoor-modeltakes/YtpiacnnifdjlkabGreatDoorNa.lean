import Derived.Test.YtpiacnnifdjlkabGreatDoorTh
import Derived.Test.YtpiacnnifdjlkabGreatDoorYc
import Derived.Test.YtpiacnnifdjlkabGreatDoorRk
import Derived.Test.YtpiacnnifdjlkabGreatDoorCt
import Derived.Test.YtpiacnnifdjlkabGreatDoorTf
import Derived.Lib.AppendZerosOnto
import Derived.Test.YtpiacnnifdjlkabGreatDoorLc
import Derived.Test.YtpiacnnifdjlkabGreatDoorVa
import Derived.Test.YtpiacnnifdjlkabGreatDoorEc
import Derived.MapKept
import Derived.Laws.StructEq
set_option maxRecDepth 100000
set_option maxHeartbeats 8000000
namespace Go.Proofs.YtpiacnnifdjlkabGreatDoor
open Go.RowKit Go.Sort
theorem grown_box {W W':World}{base e sz n pb:Nat}{v:Value}{xs:List Value}{c:Array Value}{t:TypeId} (hb:W.heap[pb]?=some (.cells c t)) (h':W.ownsRow base e sz v n xs) (hne:e ≠ t) (hg:W.grownBy W' v.ownBlock):W'.heap[pb]?=some (.cells c t):=
 (hg.block pb (Array.getElem?_eq_some_iff.1 hb).1 (fun e1=>row_apart h' hb hne pb e1.symm rfl)).trans hb
theorem grown_below {w W W':World}{base e sz n:Nat}{v:Value}{xs:List Value} (hb:Below base w W) (h':W.ownsRow base e sz v n xs) (hbase:base≤w.heap.size) (hg:W.grownBy W' v.ownBlock):Below base w W':=
 ⟨hg.os.trans hb.os,hg.tape.trans hb.tape,hg.output.trans hb.output,Nat.le_trans hb.size hg.size,fun i hi=>by
  rw [hg.block i (by have:=hb.size;omega) (fun e1=>by have:=(h'.lt i e1.symm).1;omega)]
  exact hb.block i hi⟩
def numV (xs:List Nat):List Value:=xs.map fun i=>.int .i64 (i:Nat)
structure NRd (w W:World) (fv lv:Value) (fo:Nat) (xs:List Nat):Prop where
 box:W.heap[w.heap.size+1]?=some (.cells #[fv,.int .u16 (fo:Nat),lv] 107)
 b0:W.heap[w.heap.size]?=some (.cells #[.slice none 0 0,.int .u16 0,.slice none 0 0] 107)
 own:W.ownsRow w.heap.size 3 1 lv xs.length (numV xs)
 bl:Below w.heap.size w W
theorem NRd.below {w W W':World}{fv lv:Value}{fo:Nat}{xs:List Nat} (h:NRd w W fv lv fo xs) (hb:Below W.heap.size W W'):NRd w W' fv lv fo xs:=
 ⟨belowRow hb h.box,belowRow hb h.b0,owns_below h.own hb,h.bl.trans (hb.mono h.bl.size)⟩
theorem NRd.fore {w W:World}{fv lv:Value}{fo:Nat}{xs:List Nat} (h:NRd w W fv lv fo xs) (fo':Nat):NRd w (W.setCell ⟨w.heap.size+1,1,none⟩ (.int .u16 (fo':Nat))) fv lv fo' xs:=
 ⟨box_set h.box 1 _,(heap_setCell_other _ _ _ _ (by simp)).trans h.b0,owns_set h.own h.box (by decide) _ _,below_set h.bl (by omega) _ _⟩
theorem NRd.last {w W W':World}{fv lv lv':Value}{fo:Nat}{xs:List Nat}{m:Nat} (h:NRd w W fv lv fo xs) (hg:W.grownBy W' lv.ownBlock) (ho:W'.ownsRow w.heap.size 3 1 lv' (xs.length+1) (numV xs ++ [.int .i64 (m:Nat)])):NRd w (W'.setCell ⟨w.heap.size+1,2,none⟩ lv') fv lv' fo (xs ++ [m]):=by
 have hb:=grown_box h.box h.own (by decide) hg
 refine ⟨box_set hb 2 _,(heap_setCell_other _ _ _ _ (by simp)).trans (grown_box h.b0 h.own (by decide) hg),?_,below_set (grown_below h.bl h.own (Nat.le_refl _) hg) (by omega) _ _⟩
 have:=owns_set ho hb (by decide) 2 lv'
 simpa [numV] using this
theorem foreN_lt (F:List Nd) (m:Nat) (hm:m≤16):foreN F m < 65536:=
 Nat.lt_of_lt_of_le (Nat.lt_pow_two_of_testBit _ (fun i hi=>by rw [foreN_test,decide_eq_false (by omega),Bool.false_and])) (Nat.pow_le_pow_right (n:=2) (by decide) hm)
theorem lastN_len (F:List Nd):∀ m,(lastN F m).length≤m
 | 0=>by simp [lastN]
 | m+1=>by
  have:=lastN_len F m
  unfold lastN
  split
  ·rw [List.length_append];simp;omega
  ·omega
theorem tNewReader {F:List Nd} (hF:RdOk F) (fv:Value) (w:World) (hv:NodeSl w fv F) :
  Calls Tryz.prog 69 #[fv] w fun e w'=>∃ lv,e=.returned (.agg #[fv,.int .u16 (foreL F:Nat),lv])∧w'.ownsRow w.heap.size 3 1 lv (lastL F).length (numV (lastL F))∧Below w.heap.size w w':=by
 obtain ⟨fa,fc,rfl,hfm,hcell,-,-⟩:=hv
 unfold maxLen at hfm
 have Hcell:=hide hcell
 have hf12:=hF.few
 have HFo:=hide (show foreL F=foreN F F.length from rfl)
 have HLo:=hide (show lastL F=lastN F F.length from rfl)
 have HFlt:=hide (foreN_lt F)
 have HLle:=hide (lastN_len F)
 generalize hL:F.length=L at *
 have HL:=hide hL
 clear hL hF hcell
 have HS0:=hide (show NRd w ((w.alloc (Obj.cells #[.slice none 0 0,.int .u16 0,.slice none 0 0] 107)).alloc (Obj.cells #[.slice fa L fc,.int .u16 0,.slice none 0 0] 107)) (.slice fa L fc) (.slice none 0 0) 0 [] from
  ⟨by have:=one_new (w.alloc (Obj.cells #[.slice none 0 0,.int .u16 0,.slice none 0 0] 107)) (Obj.cells #[.slice fa L fc,.int .u16 0,.slice none 0 0] 107);rwa [show (w.alloc (Obj.cells #[.slice none 0 0,.int .u16 0,.slice none 0 0] 107)).heap.size=w.heap.size+1 by simp] at this,
   belowRow (below_new (w.alloc (Obj.cells #[.slice none 0 0,.int .u16 0,.slice none 0 0] 107)) (Obj.cells #[.slice fa L fc,.int .u16 0,.slice none 0 0] 107)) (one_new w (Obj.cells #[.slice none 0 0,.int .u16 0,.slice none 0 0] 107)),
   World.ownsRow_nil _ _ _ _,below_trans (below_new w (Obj.cells #[.slice none 0 0,.int .u16 0,.slice none 0 0] 107)) (below_new (w.alloc (Obj.cells #[.slice none 0 0,.int .u16 0,.slice none 0 0] 107)) (Obj.cells #[.slice fa L fc,.int .u16 0,.slice none 0 0] 107))⟩)
 go_enter Tryz.func69,Tryz.ntmps69
 go_wp2_with (fail)
 go_loopw [10] (fun s10 wr=>∃ (m:Nat) (lv:Value),s10=.int .i64 m∧m≤L∧Hid (NRd w wr (.slice fa L fc) lv (foreN F m) (lastN F m))) (fun s10 _=>L - (intOf s10).toNat)
 case atStart=>exact ⟨0,_,rfl,Nat.zero_le _,HS0⟩
 case round =>
  clear HS0
  obtain ⟨m,lv,rfl,hm,HR⟩:=hrel
  by_cases hmL:m < L
  ·have hml:m < F.length:=by rw [HL.out];exact hmL
   rcases Hcell.out with hz | ⟨b5,o5,e5,hc⟩
   ·rw [hz] at hml;simp at hml
   subst e5
   obtain ⟨q0,q1,q2,q3⟩:=hc m hmL
   have d0:=(HR.out.bl.cell (World.block_lt_of_cell? w _ q0)).trans q0
   have d1:=(HR.out.bl.cell (World.block_lt_of_cell? w _ q1)).trans q1
   have d2:=(HR.out.bl.cell (World.block_lt_of_cell? w _ q2)).trans q2
   have d3:=(HR.out.bl.cell (World.block_lt_of_cell? w _ q3)).trans q3
   have hfl:=HFlt.out m (by omega)
   have hle:=HLle.out m
   clear q0 q1 q2 q3 hc
   obtain ⟨k,hk⟩:∃ k,(F.getD m nd0).k=k:=⟨_,rfl⟩
   rw [hk] at d0
   generalize (F.getD m nd0).a=xa at *
   generalize (F.getD m nd0).b=xb at *
   generalize (F.getD m nd0).n=xn at *
   have HK:=hide hk
   clear hk
   by_cases h7:k=7
   ·subst h7
    have HF:=hide (show foreN F (m+1)=addBit (foreN F m) m from if_pos (by unfold kN;rw [HK.out];omega))
    have HLa:=hide (show lastN F (m+1)=lastN F m ++ [m] from if_pos (by unfold kN;rw [HK.out];omega))
    generalize hfo:foreN F m=fo at *
    generalize hxs:lastN F m=xs at *
    clear hfo hxs
    have hbx:=below_new wr (Obj.cells #[.int .i64 7,.int .i64 xa,.int .i64 xb,.int .i64 xn] 55)
    have HR1:=hide (HR.out.below hbx)
    clear hbx
    obtain ⟨la,lc,rfl⟩:=owns_form HR1.out.own
    have r2:=cell_of_row _ _ 2 _ _ _ HR1.out.box
    have hs1:(wr.alloc (Obj.cells #[.int .i64 7,.int .i64 xa,.int .i64 xb,.int .i64 xn] 55)).heap.size=wr.heap.size+1:=by simp
    have HoA:=hide (HR1.out.own.alloc (Obj.cells #[Value.int .i64 (m:Nat)] 3))
    have HRA:=hide (HR1.out.below (below_new (wr.alloc (Obj.cells #[.int .i64 7,.int .i64 xa,.int .i64 xb,.int .i64 xn] 55)) (Obj.cells #[Value.int .i64 (m:Nat)] 3)))
    have Hc0:=hide (show ((wr.alloc (Obj.cells #[.int .i64 7,.int .i64 xa,.int .i64 xb,.int .i64 xn] 55)).alloc (Obj.cells #[Value.int .i64 (m:Nat)] 3)).cell? ⟨wr.heap.size+1,0,none⟩=some (.int .i64 (m:Nat)) by rw [← hs1];exact cell_of_row _ _ 0 _ _ _ (one_new (wr.alloc (Obj.cells #[.int .i64 7,.int .i64 xa,.int .i64 xb,.int .i64 xn] 55)) (Obj.cells #[Value.int .i64 (m:Nat)] 3)))
    have HbW:=hide HRA.out.bl.size
    clear hs1
    go_wp2_with (at_builtin;refine wpList_append_one _ rfl (.tmp 21) (.tmp 23) 22 3 1 8 rfl elInt w.heap.size _ _ _ rfl HoA.out (wr.heap.size+1) 1 [.int .i64 (m:Nat)] rfl rfl (by intro j u hu;match j,hu with | 0,hu=>simp at hu;subst hu;exact Hc0.out | j+1,hu=>simp at hu) (by intro u hu;simp at hu;subst hu;rfl) (by omega) HbW.out ?_;intro g8 cap8 w8 hown8 hgrow8 hor8 hbase8;have HN8:=hide (HRA.out.last hgrow8 hown8);have b8:=grown_box HRA.out.box HoA.out (by decide) hgrow8;have y2:=cell_of_row _ _ 2 _ _ _ b8;have z2:=frozen_of_row _ _ 2 _ _ b8;have y1:=cell_of_row _ _ 1 _ _ _ HN8.out.box;have z1:=frozen_of_row _ _ 1 _ _ HN8.out.box;clear hown8 hgrow8 hor8 hbase8 b8)
    go_fit (tWith fo m _ hfl (by omega))
    rintro e W' ⟨rfl,rfl⟩
    go_wp2_with (fail)
    go_roundw
    case rel=>exact ⟨m+1,_,by go_num,by omega,hide (by rw [HF.out,HLa.out];exact HN8.out.fore _)⟩
    case measure=>simp [intOf];omega
   by_cases h8:k=8
   ·subst h8
    clear h7
    have HF:=hide (show foreN F (m+1)=addBit (foreN F m) m from if_pos (by unfold kN;rw [HK.out];omega))
    have HLa:=hide (show lastN F (m+1)=lastN F m ++ [m] from if_pos (by unfold kN;rw [HK.out];omega))
    generalize hfo:foreN F m=fo at *
    generalize hxs:lastN F m=xs at *
    clear hfo hxs
    have hbx:=below_new wr (Obj.cells #[.int .i64 8,.int .i64 xa,.int .i64 xb,.int .i64 xn] 55)
    have HR1:=hide (HR.out.below hbx)
    clear hbx
    obtain ⟨la,lc,rfl⟩:=owns_form HR1.out.own
    have r2:=cell_of_row _ _ 2 _ _ _ HR1.out.box
    have hs1:(wr.alloc (Obj.cells #[.int .i64 8,.int .i64 xa,.int .i64 xb,.int .i64 xn] 55)).heap.size=wr.heap.size+1:=by simp
    have HoA:=hide (HR1.out.own.alloc (Obj.cells #[Value.int .i64 (m:Nat)] 3))
    have HRA:=hide (HR1.out.below (below_new (wr.alloc (Obj.cells #[.int .i64 8,.int .i64 xa,.int .i64 xb,.int .i64 xn] 55)) (Obj.cells #[Value.int .i64 (m:Nat)] 3)))
    have Hc0:=hide (show ((wr.alloc (Obj.cells #[.int .i64 8,.int .i64 xa,.int .i64 xb,.int .i64 xn] 55)).alloc (Obj.cells #[Value.int .i64 (m:Nat)] 3)).cell? ⟨wr.heap.size+1,0,none⟩=some (.int .i64 (m:Nat)) by rw [← hs1];exact cell_of_row _ _ 0 _ _ _ (one_new (wr.alloc (Obj.cells #[.int .i64 8,.int .i64 xa,.int .i64 xb,.int .i64 xn] 55)) (Obj.cells #[Value.int .i64 (m:Nat)] 3)))
    have HbW:=hide HRA.out.bl.size
    clear hs1
    go_wp2_with (at_builtin;refine wpList_append_one _ rfl (.tmp 21) (.tmp 23) 22 3 1 8 rfl elInt w.heap.size _ _ _ rfl HoA.out (wr.heap.size+1) 1 [.int .i64 (m:Nat)] rfl rfl (by intro j u hu;match j,hu with | 0,hu=>simp at hu;subst hu;exact Hc0.out | j+1,hu=>simp at hu) (by intro u hu;simp at hu;subst hu;rfl) (by omega) HbW.out ?_;intro g8 cap8 w8 hown8 hgrow8 hor8 hbase8;have HN8:=hide (HRA.out.last hgrow8 hown8);have b8:=grown_box HRA.out.box HoA.out (by decide) hgrow8;have y2:=cell_of_row _ _ 2 _ _ _ b8;have z2:=frozen_of_row _ _ 2 _ _ b8;have y1:=cell_of_row _ _ 1 _ _ _ HN8.out.box;have z1:=frozen_of_row _ _ 1 _ _ HN8.out.box;clear hown8 hgrow8 hor8 hbase8 b8)
    go_fit (tWith fo m _ hfl (by omega))
    rintro e W' ⟨rfl,rfl⟩
    go_wp2_with (fail)
    go_roundw
    case rel=>exact ⟨m+1,_,by go_num,by omega,hide (by rw [HF.out,HLa.out];exact HN8.out.fore _)⟩
    case measure=>simp [intOf];omega
   by_cases h6:k=6
   ·subst h6
    clear h7 h8
    have HF:=hide (show foreN F (m+1)=addBit (foreN F m) m from if_pos (by unfold kN;rw [HK.out];omega))
    have HLa:=hide (show lastN F (m+1)=lastN F m from if_neg (by unfold kN;rw [HK.out];omega))
    generalize hfo:foreN F m=fo at *
    generalize hxs:lastN F m=xs at *
    clear hfo hxs
    have hbx:=below_new wr (Obj.cells #[.int .i64 6,.int .i64 xa,.int .i64 xb,.int .i64 xn] 55)
    have HR1:=hide (HR.out.below hbx)
    clear hbx
    have y1:=cell_of_row _ _ 1 _ _ _ HR1.out.box
    have z1:=frozen_of_row _ _ 1 _ _ HR1.out.box
    go_wp2_with (fail)
    go_fit (tWith fo m _ hfl (by omega))
    rintro e W' ⟨rfl,rfl⟩
    go_wp2_with (fail)
    go_roundw
    case rel=>exact ⟨m+1,_,by go_num,by omega,hide (by rw [HF.out,HLa.out];exact HR1.out.fore _)⟩
    case measure=>simp [intOf];omega
   have HF:=hide (show foreN F (m+1)=foreN F m from if_neg (by unfold kN;rw [HK.out];omega))
   have HLa:=hide (show lastN F (m+1)=lastN F m from if_neg (by unfold kN;rw [HK.out];omega))
   generalize hfo:foreN F m=fo at *
   generalize hxs:lastN F m=xs at *
   clear hfo hxs
   have hbx:=below_new wr (Obj.cells #[.int .i64 k,.int .i64 xa,.int .i64 xb,.int .i64 xn] 55)
   have HR1:=hide (HR.out.below hbx)
   clear hbx
   have b7:(k == 7)=false:=by simpa using h7
   have b8:(k == 8)=false:=by simpa using h8
   have b6:(k == 6)=false:=by simpa using h6
   clear h6 h7 h8
   go_wp2_with (fail)
   go_roundw
   case rel=>exact ⟨m+1,_,by go_num,by omega,hide (by rw [HF.out,HLa.out];exact HR1.out)⟩
   case measure=>simp [intOf];omega
  ·obtain rfl:m=L:=by omega
   have x0:=cell_of_row _ _ 0 _ _ _ HR.out.box
   have x1:=cell_of_row _ _ 1 _ _ _ HR.out.box
   have x2:=cell_of_row _ _ 2 _ _ _ HR.out.box
   have y0:=cell_of_row _ _ 0 _ _ _ HR.out.b0
   have y1:=cell_of_row _ _ 1 _ _ _ HR.out.b0
   have y2:=cell_of_row _ _ 2 _ _ _ HR.out.b0
   have z0:=frozen_of_row _ _ 0 _ _ HR.out.b0
   have z1:=frozen_of_row _ _ 1 _ _ HR.out.b0
   have z2:=frozen_of_row _ _ 2 _ _ HR.out.b0
   obtain ⟨la,lc,rfl⟩:=owns_form HR.out.own
   have hF:=box_set (box_set (box_set HR.out.b0 0 (.slice fa m fc)) 1 (.int .u16 (foreN F m:Nat))) 2 (.slice la (lastN F m).length lc)
   have HO:=hide (owns_set (owns_set (owns_set HR.out.own HR.out.b0 (by decide) 0 (.slice fa m fc)) (box_set HR.out.b0 0 (.slice fa m fc)) (by decide) 1 (.int .u16 (foreN F m:Nat))) (box_set (box_set HR.out.b0 0 (.slice fa m fc)) 1 (.int .u16 (foreN F m:Nat))) (by decide) 2 (.slice la (lastN F m).length lc))
   have HB:=hide (below_set (below_set (below_set HR.out.bl (Nat.le_refl _) 0 (.slice fa m fc)) (Nat.le_refl _) 1 (.int .u16 (foreN F m:Nat))) (Nat.le_refl _) 2 (.slice la (lastN F m).length lc))
   have f0:=cell_of_row _ _ 0 _ _ _ hF
   have f1:=cell_of_row _ _ 1 _ _ _ hF
   have f2:=cell_of_row _ _ 2 _ _ _ hF
   clear hF
   go_wp2_with (fail)
   refine bodyPost_ret (v:=.agg #[.slice fa m fc,.int .u16 (foreN F m:Nat),.slice la (lastN F m).length lc]) (by simp [results,Tryz.results69,go_sem,f0,f1,f2]) rfl ⟨.slice la (lastN F m).length lc,by rw [HFo.out],by rw [HLo.out];exact HO.out,HB.out⟩
theorem partsF_head (s d p:Nat):p ∈ partsF s d p:=by
 cases d with
 | zero=>simp [partsF]
 | succ d =>
  unfold partsF
  split
  ·rename_i h;simp [h]
  ·simp
theorem partsF_next {s d p:Nat} (hd:p≤d) (hp:p ≠ 0):∃ d',(p - 1) &&& s≤d'∧partsF s d p=p :: partsF s d' ((p - 1) &&& s):=by
 cases d with
 | zero=>omega
 | succ d =>
  refine ⟨d,Nat.le_trans Nat.and_le_left (by omega),?_⟩
  rw [partsF,if_neg hp]
theorem partsF_end (s d:Nat):partsF s d 0=[0]:=by
 cases d with
 | zero=>rfl
 | succ d=>rw [partsF,if_pos rfl]
theorem tParts (s:Nat) (w:World) :
  Calls Tryz.prog 118 #[.int .u16 s] w fun e w'=>e=.returned (.func (.func 160) #[] #[.pointer (some ⟨w.heap.size,0,none⟩)])∧w'=w.alloc (Obj.cells #[.int .u16 s] 105):=by
 have hmf:∀ (fn:Fn) (first cap:Array Value) (w:World),(Instr.makeFunc fn first cap).run Tryz.prog w=.ok (.func fn first cap) w:=fun _ _ _ _=>rfl
 go_enter Tryz.func118,Tryz.ntmps118
 go_wp2
 go_ret
 exact ⟨rfl,rfl⟩
theorem partsSeq (n s b:Nat) (hs:s < 65536) (w0:World) (hbx:w0.heap[b]?=some (.cells #[.int .u16 s] 105)) :
  SeqO n Tryz.prog 160 #[.pointer (some ⟨b,0,none⟩)] (fun x:{ p:Nat // p ∈ partsL s }=>#[.int .u16 (x.1:Nat)]) (fun k=>k=b) (fun xs=>xs.map (·.1)=partsL s) (partsL s).length w0:=by
 intro l S m J Jx W hb0 hD hm hC hl0 hlW hSl _ hJ hJx hY h0
 show CallsIn Fence.wide n Tryz.prog 160 #[.func (.yield l) #[] #[],.pointer (some ⟨b,0,none⟩)] W _
 have hbW:=belowRow hb0 hbx
 have hbl:b ≠ l:=by have:=(Array.getElem?_eq_some_iff.1 hbx).1;omega
 have HSb:=hide (hC b rfl)
 have HbW:=hide hbW
 have c0:=cell_of_row _ _ 0 _ _ _ hbW
 have HY:=hide hY
 have H0:=hide h0
 have HP0:=hide (show partsL s=([]:List { p:Nat // p ∈ partsL s }).map (·.1) ++ partsF s s s from rfl)
 clear hY h0 hbW hbx hJ hJx hC hD
 refine callsIn_of_wp Tryz.func160 rfl trivial ?_ rfl
 simp only [Tryz.ntmps160,List.size_toArray,List.length_cons,List.length_nil,Nat.reduceAdd,Nat.reduceSub,Array.replicate_succ,Array.replicate_zero,List.push_toArray,List.append_toArray,List.nil_append,List.cons_append]
 gi_wp2_with (fail)
 gi_loopw [3] (fun s3 wr=>∃ (p d:Nat) (pre:List { p:Nat // p ∈ partsL s }),s3=.int .u16 p∧p < 65536∧Hid (p≤d∧p &&& s=p)∧Hid (partsL s=pre.map (·.1) ++ partsF s d p)∧Hid (J pre wr)∧Hid (KO l S W wr)) (fun s3 _=>(intOf s3).toNat)
 case atStart=>exact ⟨s,s,[],rfl,hs,hide ⟨Nat.le_refl _,Nat.and_self s⟩,HP0,H0,hide (KO.refl l S W)⟩
 case round =>
  clear c0
  obtain ⟨p,d,pre,rfl,hp,HD,HP,HJ,HK⟩:=hrel
  have hmem:p ∈ partsL s:=by rw [HP.out];exact List.mem_append_right _ (partsF_head s d p)
  have hlt:pre.length < (partsL s).length:=by
   have h1:=congrArg List.length HP.out
   rw [List.length_append,List.length_map] at h1
   have h2:=List.length_pos_of_mem (partsF_head s d p)
   omega
  obtain ⟨fn,tmps,assign,body,hy,hR⟩:=HY.out pre ⟨p,hmem⟩ wr HJ.out hlt HK.out.size
  dsimp only at hy
  have HR:=hide hR
  clear hR
  gi_wp2_with (fail)
  refine ⟨fun h=>by simp [Fence.wide] at h,HR.out.mono ?_⟩
  rintro e W3 (⟨rfl,hJ3,hk3⟩ | ⟨rfl,hJx3,_⟩)
  ·have HJ3:=hide hJ3
   have HK3:=hide (HK.out.trans hk3)
   have hb3:=HK3.out.keep b _ HbW.out hbl HSb.out
   have c3:=cell_of_row _ _ 0 _ _ _ hb3
   clear hJ3 hk3 hb3 hy HR
   by_cases hz:p=0
   ·subst hz
    have HE:=hide (show (pre ++ [(⟨0,hmem⟩:{ p:Nat // p ∈ partsL s })]).map (·.1)=partsL s from (HP.out.trans (by rw [partsF_end,List.map_append];rfl)).symm)
    gi_wp2
    refine bodyPost_ret (results_none rfl _ _ _) rfl ?_
    exact ⟨⟨_,rfl⟩,.inl ⟨_,HE.out,HJ3.out⟩⟩
   ·have hz2:((p:Int) == 0)=false:=by rw [beq_eq_false_iff_ne];omega
    obtain ⟨d',hd',hpf⟩:=partsF_next (s:=s) HD.out.1 hz
    have HA:=hide (show bits BinOp.and IntKind.u16 ((p:Int) - 1) (s:Int)=(((p - 1) &&& s:Nat):Int) by
     rw [show (p:Int) - 1=((p - 1:Nat):Int) by omega]
     exact bits_and_u16 _ _ (by omega) hs)
    have hle:(p - 1) &&& s≤p - 1:=Nat.and_le_left
    have HD2:=hide (And.intro hd' (show ((p - 1) &&& s) &&& s=(p - 1) &&& s by rw [Nat.and_assoc,Nat.and_self]))
    have HP2:=hide (show partsL s=(pre ++ [(⟨p,hmem⟩:{ p:Nat // p ∈ partsL s })]).map (·.1) ++ partsF s d' ((p - 1) &&& s) from HP.out.trans (by rw [hpf,List.map_append,List.append_assoc];rfl))
    clear hd' hpf
    gi_wp2
    go_roundw
    case rel=>exact ⟨(p - 1) &&& s,d',pre ++ [⟨p,hmem⟩],by rw [← HA.out],by omega,HD2,HP2,HJ3,HK3⟩
    case measure=>simp [intOf,HA.out];omega
  ·have HJx3:=hide hJx3
   clear hJx3
   gi_wp2
   go_end0
   exact ⟨⟨_,rfl⟩,.inr ⟨_,HJx3.out⟩⟩
theorem cell_keep {w w1:World}{a:Addr}{v:Value} (h:w.cell? a=some v) (hb:Below w.heap.size w w1):w1.cell? a=some v:=by
 rw [hb.cell (World.block_lt_of_cell? w _ h)];exact h
theorem block_keep {w w1:World}{g:Nat}{o:Obj} (h:w.heap[g]?=some o) (hb:Below w.heap.size w w1):w1.heap[g]?=some o:=
 (hb.block g (Array.getElem?_eq_some_iff.1 h).1).trans h
section
variable {w:World}{T:List (List Bool)}{h p N:Nat}{L:Nat→Int}{x:Nd}{a b pa pb:Nat}{av bv:Value}
end
theorem set_far (W:World) (a:Addr) (v:Value) (k:Nat) (h:k ≠ a.block):(W.setCell a v).heap[k]?=W.heap[k]?:=by
 simp only [World.setCell,Array.getElem?_modify]
 rw [if_neg (fun e=>h e.symm)]
theorem cell_top (w:World) (cs:Array Value) (t:TypeId) (n i:Nat) (v:Value) (hn:n=w.heap.size) (hi:cs[i]?=some v):(w.alloc (Obj.cells cs t)).cell? ⟨n,i,none⟩=some v:=by
 subst hn
 rw [World.cell?_alloc_new];exact hi
theorem cell_set_ne {w:World}{b g o o':Nat}{v u:Value} (hne:b ≠ g) (h:w.cell? ⟨b,o,none⟩=some v):(w.setCell ⟨g,o',none⟩ u).cell? ⟨b,o,none⟩=some v:=by
 rw [World.cell?_setCell_other _ _ _ _ (fun e=>hne (congrArg Addr.block e).symm)];exact h
theorem heap_under {w:World}{g:Nat}{o:Obj} (o':Obj) (h:w.heap[g]?=some o):(w.alloc o').heap[g]?=some o:=block_keep h (below_new w o')
theorem heap_top (w:World) (o:Obj) (n:Nat) (hn:n=w.heap.size):(w.alloc o).heap[n]?=some o:=by
 subst hn;exact heap_alloc_new w o
theorem heap_drew {w:World}{g:Nat}{o:Obj} (h:w.heap[g]?=some o):w.drew.heap[g]?=some o:=h
theorem heap_set_ne {w:World}{g g' o:Nat}{v:Value}{ob:Obj} (hne:g ≠ g') (h:w.heap[g]?=some ob):(w.setCell ⟨g',o,none⟩ v).heap[g]?=some ob:=(set_far w _ v g hne).trans h
theorem cell_set_eq {w:World}{g o:Nat}{v u:Value} (h:w.cell? ⟨g,o,none⟩=some u):(w.setCell ⟨g,o,none⟩ v).cell? ⟨g,o,none⟩=some v:=World.cell?_setCell_same _ _ _ h
theorem cell_set_off {w:World}{g o o':Nat}{v u:Value} (hne:o ≠ o') (h:w.cell? ⟨g,o,none⟩=some u):(w.setCell ⟨g,o',none⟩ v).cell? ⟨g,o,none⟩=some u:=by
 rw [World.cell?_setCell_other _ _ _ _ (fun e=>hne (congrArg Addr.off e).symm)];exact h
theorem cell_drew {w:World}{a:Addr}{v:Value} (h:w.cell? a=some v):w.drew.cell? a=some v:=h
theorem node_ok {x:Nd}{m:Nat} (h:nodeErr x m=0):(1≤x.k∧x.k≤8)∧(0≤x.a∧(3≤x.k→x.a < m)∧(x.k < 3→x.a=0))∧(0≤x.b∧(x.k=4 ∨ x.k=5 ∨ x.k=7 ∨ x.k=8→x.b < m)∧(¬ (x.k=4 ∨ x.k=5 ∨ x.k=7 ∨ x.k=8)→x.b=0))∧(x.k=2→0≤x.n∧x.n≤2):=by
 unfold nodeErr at h
 by_cases h1:1≤x.k∧x.k≤8
 ·rw [if_pos h1] at h
  unfold chkN at h
  split at h
  ·omega
  ·split at h
   ·omega
   ·split at h
    ·omega
    ·rename_i q1 q2 q3
     refine ⟨h1,⟨?_,?_,?_⟩,⟨?_,?_,?_⟩,?_⟩ <;> omega
 ·rw [if_neg h1] at h;omega
def AllOk (F:List Nd):Prop:=∀ m,m < F.length→nodeErr (F.getD m nd0) m=0
theorem chkFrom_ok (F:List Nd):∀ d m,m+d=F.length→chkFrom (F.drop m) m=0→∀ j,m≤j→j < F.length→nodeErr (F.getD j nd0) j=0
 | 0,m,hm,_,j,h1,h2=>by omega
 | d+1,m,hm,h,j,h1,h2=>by
  rw [chkFrom_drop F m (by omega)] at h
  by_cases e:nodeErr (F.getD m nd0) m=0
  ·rw [if_pos e] at h
   by_cases ej:j=m
   ·subst ej;exact e
   ·exact chkFrom_ok F d (m+1) (by omega) h j (by omega) h2
  ·rw [if_neg e] at h;exact absurd h e
theorem chkF_ok {F:List Nd} (h:chkF F=0):0 < F.length∧F.length≤12∧AllOk F:=by
 unfold chkF at h
 split at h
 ·omega
 ·split at h
  ·omega
  ·rename_i h0 h1
   exact ⟨by omega,by omega,fun m hm=>chkFrom_ok F F.length 0 (by omega) h m (by omega) hm⟩
theorem rdOk_of {F:List Nd} (h:0 < F.length∧F.length≤12∧AllOk F):RdOk F:=by
 obtain ⟨h1,h2,h3⟩:=h
 refine ⟨h1,h2,fun i hi=>?_⟩
 obtain ⟨hk,⟨a0,a1,a2⟩,⟨b0,b1,b2⟩,hn⟩:=node_ok (h3 i hi)
 refine ⟨a0,?_,b0,?_,hn⟩
 ·by_cases hk3:3≤(F.getD i nd0).k
  ·have:=a1 hk3;omega
  ·have:=a2 (by omega);omega
 ·by_cases hk4:(F.getD i nd0).k=4 ∨ (F.getD i nd0).k=5 ∨ (F.getD i nd0).k=7 ∨ (F.getD i nd0).k=8
  ·have:=b1 hk4;omega
  ·have:=b2 hk4;omega
theorem tAfter (fa:Option Addr) (fl fc:Nat) (X:Nat) (la:Option Addr) (ll lc:Nat) (bg:Bool) (tl tu:Nat) (w:World) :
  Calls Tryz.prog 72 #[.agg #[.slice fa fl fc,.int .u16 X,.slice la ll lc],.agg #[.bool bg,.int .u16 tl,.int .i64 tu]] w fun e w'=>e=.returned (.func (.func 117) #[] #[.pointer (some ⟨w.heap.size,0,none⟩),.pointer (some ⟨w.heap.size+1,0,none⟩)])∧w'=(w.alloc (Obj.cells #[.slice fa fl fc,.int .u16 X,.slice la ll lc] 107)).alloc (Obj.cells #[.bool bg,.int .u16 tl,.int .i64 tu] 111):=by
 have hmf:∀ (fn:Fn) (first cap:Array Value) (w:World),(Instr.makeFunc fn first cap).run Tryz.prog w=.ok (.func fn first cap) w:=fun _ _ _ _=>rfl
 go_enter Tryz.func72,Tryz.ntmps72
 go_wp2
 go_ret
 exact ⟨rfl,rfl⟩
theorem NodeSl.ko {l:Nat}{S:World→Nat→Prop}{W W':World}{v:Value}{F:List Nd} (h:NodeSl W v F) (hk:KO l S W W') (hb:∀ a n c,v=.slice (some a) n c→a.block ≠ l∧¬ S W a.block):NodeSl W' v F:=by
 obtain ⟨a,cap,rfl,hm,h,hn⟩:=h
 refine ⟨a,cap,rfl,hm,?_,hn⟩
 rcases h with h | ⟨b,off,rfl,hc⟩
 ·exact Or.inl h
 ·obtain ⟨hl,hS⟩:=hb _ _ _ rfl
  refine Or.inr ⟨b,off,rfl,fun i hi=>?_⟩
  obtain ⟨h1,h2,h3,h4⟩:=hc i hi
  exact ⟨hk.cell h1 hl hS,hk.cell h2 hl hS,hk.cell h3 hl hS,hk.cell h4 hl hS⟩
theorem IntSl.ko {l:Nat}{S:World→Nat→Prop}{W W':World}{v:Value}{zs:List Int} (h:IntSl W v zs) (hk:KO l S W W') (hb:∀ a n c,v=.slice (some a) n c→a.block ≠ l∧¬ S W a.block):IntSl W' v zs:=by
 obtain ⟨a,cap,rfl,hm,h,hn⟩:=h
 refine ⟨a,cap,rfl,hm,?_,hn⟩
 rcases h with h | ⟨b,off,rfl,hc⟩
 ·exact Or.inl h
 ·obtain ⟨hl,hS⟩:=hb _ _ _ rfl
  exact Or.inr ⟨b,off,rfl,fun i hi=>hk.cell (hc i hi) hl hS⟩
end Go.Proofs.YtpiacnnifdjlkabGreatDoor
namespace Go.Proofs.YtpiacnnifdjlkabGreatDoor
open Go.RowKit Go.Sort Go.MapKept
def spEnc (x:Spo):List Value:=[.bool x.1,.int .u16 (x.2.1:Nat),.int .i64 (x.2.2:Nat)]
abbrev spV (x:Spo):Value:=.agg (spEnc x).toArray
theorem spEnc_len (x:Spo):(spEnc x).length=3:=rfl
theorem spEnc_one (x:Spo):∀ v ∈ spEnc x,v.oneCell'=true:=by
 intro v hv
 simp only [spEnc,List.mem_cons,List.not_mem_nil,or_false] at hv
 rcases hv with rfl | rfl | rfl <;> rfl
theorem spStruct:Tryz.prog.underlying 111=some (.struct (Tryz.prog.fieldsOf 111)):=by kernel_rfl
theorem spEq (x y:Spo) (w:World):(Op.equal 111 (spV x) (spV y)).run Tryz.prog w=.ok (decide (x=y)) w:=by
 have hp:Tryz.prog.stoodInHeld 111=false:=by kernel_rfl
 obtain ⟨x1,x2,x3⟩:=x
 obtain ⟨y1,y2,y3⟩:=y
 unfold Op.equal Op.maxDepth
 rw [show (10000:Nat)=9999+1 from rfl,run_equalIn_struct w 9999 111 _ _ spStruct hp]
 simp only [Program.fieldsOf,Tryz.underlying111,spEnc]
 go_simp
 by_cases h1:x1=y1 <;> by_cases h2:x2=y2 <;> by_cases h3:x3=y3 <;> simp [h1,h2,h3] <;> omega
theorem spKey (x:Spo) (e:Bool) (w:World):(Instr.checkKey e 10000 111 (spV x)).run Tryz.prog w=.ok () w:=by
 obtain ⟨x1,x2,x3⟩:=x
 rw [show (10000:Nat)=9998+1+1 from rfl]
 generalize 9998=d
 unfold Instr.checkKey
 simp only [Sem.run_bind,run_underlying Tryz.underlying111,Result.andThen_ok]
 rw [← Array.forIn_toList]
 simp [Instr.checkKey,go_sem,spEnc]
theorem spFind (x:Spo) (w:World):∀ (l:List MapEntry) (ms:List Spo) (i:Nat),l.length=ms.length→(∀ (j:Nat) (y:Spo),ms[j]?=some y→∃ e,l[j]?=some e∧e.key=spV y∧e.val=.int .i64 ((i+j:Nat))) →
  (Instr.findAsking 111 (spV x) l i).run Tryz.prog w=.ok (if x ∈ ms then some (i+numOf ms x,.int .i64 ((i+numOf ms x:Nat))) else none) w
 | [],[],i,_,_=>by simp [Instr.findAsking]
 | [],_ :: _,_,h,_=>by simp at h
 | _ :: _,[],_,h,_=>by simp at h
 | e :: l,y :: ms,i,hl,h=>by
  obtain ⟨e',he,hk,hv⟩:=h 0 y rfl
  obtain rfl:e=e':=by simpa using he
  have ih:=spFind x w l ms (i+1) (by simpa using hl) (fun j z hz=>by
   obtain ⟨e2,h1,h2,h3⟩:=h (j+1) z hz
   exact ⟨e2,h1,h2,by rw [h3];congr 2;omega⟩)
  unfold Instr.findAsking
  simp only [Sem.run_bind,hk,spEq,Result.andThen_ok]
  by_cases hxy:x=y
  ·rw [decide_eq_true hxy,if_pos rfl,if_pos (by rw [hxy];simp),hv]
   have:numOf (y :: ms) x=0:=by unfold numOf;rw [if_pos hxy]
   rw [this]
   rfl
  ·rw [decide_eq_false hxy,if_neg (by simp),ih]
   have hm:x ∈ y :: ms ↔ x ∈ ms:=by simp [hxy]
   by_cases hx:x ∈ ms
   ·rw [if_pos hx,if_pos (hm.2 hx)]
    have:numOf (y :: ms) x=numOf ms x+1:=by show (if x=y then 0 else numOf ms x+1)=_;rw [if_neg hxy]
    rw [this,show i+1+numOf ms x=i+(numOf ms x+1) by omega]
   ·rw [if_neg hx,if_neg (fun h'=>hx (hm.1 h'))]
theorem spFindKey (x:Spo) (w:World) (l:List MapEntry) (ms:List Spo) (hl:l.length=ms.length) (h:∀ (j:Nat) (y:Spo),ms[j]?=some y→∃ e,l[j]?=some e∧e.key=spV y∧e.val=.int .i64 (j:Nat)) :
  (Instr.findKey 111 (spV x) l).run Tryz.prog w=.ok (if x ∈ ms then some (numOf ms x,.int .i64 (numOf ms x:Nat)) else none) w:=by
 have h1:=spFind x w l ms 0 hl (fun j y hy=>by rw [Nat.zero_add];exact h j y hy)
 rw [Nat.zero_add] at h1
 rw [← h1]
 unfold Instr.findKey
 simp only [Sem.run_bind,run_underlying Tryz.underlying111,Result.andThen_ok]
 cases l with
 | nil=>simp [Instr.findNow,Instr.findAsking]
 | cons e l=>simp [Instr.findNow,Instr.sameNow]
def spMap (w:World) (r:Nat) (met:List Spo):Prop:=
 ∃ es clock,w.heap[r]?=some (.map es clock)∧es.size=met.length∧∀ (i:Nat) (x:Spo),met[i]?=some x→∃ e,es[i]?=some e∧e.key=spV x∧e.val=.int .i64 (i:Nat)
theorem spMap.lt {w:World}{r:Nat}{met:List Spo} (h:spMap w r met):r < w.heap.size:=by
 obtain ⟨es,clock,hr,_⟩:=h
 exact (Array.getElem?_eq_some_iff.1 hr).1
theorem spMap.keep {w w':World}{r:Nat}{met:List Spo} (h:spMap w r met) (hb:∀ o,w.heap[r]?=some o→w'.heap[r]?=some o):spMap w' r met:=by
 obtain ⟨es,clock,hr,h2⟩:=h
 exact ⟨es,clock,hb _ hr,h2⟩
theorem spMap.not_cells {w:World}{r:Nat}{met:List Spo} (h:spMap w r met):∃ o:Obj,w.heap[r]?=some o∧o.isCells=false:=by
 obtain ⟨es,clock,hr,_⟩:=h
 exact ⟨_,hr,rfl⟩
theorem spLookup {w:World}{r:Nat}{met:List Spo} (h:spMap w r met) (x:Spo):(Instr.lookup 167 (.map (some r)) (spV x) true).run Tryz.prog w=.ok (.tuple #[.int .i64 ((if x ∈ met then numOf met x else 0:Nat)),.bool (decide (x ∈ met))]) w:=by
 obtain ⟨es,clock,hr,hl,hes⟩:=h
 have hf:=spFindKey x w es.toList met (by simpa using hl) (fun j y hy=>by obtain ⟨e,h1,h2⟩:=hes j y hy;exact ⟨e,by simpa using h1,h2⟩)
 have hk:=spKey x es.isEmpty w
 unfold Instr.lookup
 simp only [Sem.run_bind,run_underlying Tryz.underlying167,Result.andThen_ok,Go.MapKept.run_getObj_map hr,Sem.run_pure,hk,hf]
 by_cases hx:x ∈ met
 ·simp [hx]
 ·simp [hx,go_sem]
theorem spUpdate {w:World}{r:Nat}{met:List Spo} (h:spMap w r met) (x:Spo) (hx:x ∉ met):∃ o,(Instr.mapUpdate 167 (.map (some r)) (spV x) (.int .i64 (met.length:Nat))).run Tryz.prog w=.ok () (w.putObj r o)∧spMap (w.putObj r o) r (met ++ [x]):=by
 obtain ⟨es,clock,hr,hl,hes⟩:=h
 have hf:=spFindKey x w es.toList met (by simpa using hl) (fun j y hy=>by obtain ⟨e,h1,h2⟩:=hes j y hy;exact ⟨e,by simpa using h1,h2⟩)
 have hk:=spKey x false w
 rw [if_neg hx] at hf
 refine ⟨.map (es.push { key:=spV x,val:=.int .i64 (met.length:Nat),born:=clock }) (clock+1),?_,_,_,World.putObj_heap_same (Array.getElem?_eq_some_iff.1 hr).1,by simp [hl],fun i y hy=>?_⟩
 ·unfold Instr.mapUpdate
  simp only [Sem.run_bind,run_underlying Tryz.underlying167,Result.andThen_ok,Go.MapKept.run_getObj_map hr,hk,hf,Go.MapKept.run_setObj_map _ hr]
  rfl
 ·by_cases hi:i < met.length
  ·rw [List.getElem?_append_left hi] at hy
   obtain ⟨e,h1,h2⟩:=hes i y hy
   exact ⟨e,by rw [Array.getElem?_push,if_neg (by omega)];exact h1,h2⟩
  ·rw [List.getElem?_append_right (by omega)] at hy
   have hi2:i=met.length:=by
    have:=(List.getElem?_eq_some_iff.1 hy).1
    simp at this
    omega
   subst hi2
   rw [Nat.sub_self] at hy
   obtain rfl:x=y:=by simpa using hy
   refine ⟨{ key:=spV x,val:=.int .i64 (met.length:Nat),born:=clock },?_,rfl,rfl⟩
   rw [show met.length=es.size from hl.symm]
   exact Array.getElem?_push_size
end Go.Proofs.YtpiacnnifdjlkabGreatDoor
