import Derived.Test.YtpiacnnifdjlkabGreatDoorBe
import Derived.Deep.RegionLaw
import Derived.Deep.CutBlock
import Derived.Deep.DeepCutAuto
set_option maxRecDepth 100000
set_option maxHeartbeats 8000000
namespace Go.Proofs.YtpiacnnifdjlkabGreatDoor
open Go.RowKit
def zeroInts (c:Nat):Array Value:=Array.replicate c (.int .i64 0)
theorem make_ints (c:Nat) (h:c≤1000000) (w:World):(Instr.makeSlice 22 (.int .i64 c) (.int .i64 c)).run Tryz.prog w=.ok (.slice (some ⟨w.heap.size,0,none⟩) c c) (w.alloc (.cells (zeroInts c) 3)):=by
 have hz:Tryz.t3.zero=some (.int .i64 0):=by kernel_rfl
 have hb:Tryz.t3.bytes=8:=by kernel_rfl
 have hs:Tryz.t3.size=1:=by kernel_rfl
 rw [run_make w 22 3 Tryz.t3 (.int .i64 0) Tryz.underlying22 intInfo hz .i64 .i64 c c (by omega) (by omega) (by rw [hb];omega) (by omega)]
 have e:madeCells (Value.cells (.int .i64 0)) (c * 1)=zeroInts c:=by
  apply Array.ext
  ·simp [size_madeCells,zeroInts]
  ·intro i h1 h2
   simp [madeCells,zeroInts,Value.cells,Nat.mod_one]
 rw [hs,Int.toNat_natCast,e]
def pieceOf (hs ls:List Int) (f c:Nat):List Int:=(List.range c).map fun j=>lat hs ls (f+j)
def pieceAt (hs ls:List Int) (f k j:Nat):Int:=if j < k then lat hs ls (f+j) else 0
theorem pieceAt_same (hs ls:List Int) (f k:Nat):pieceAt hs ls f (k+1) k=lat hs ls (f+k):=by simp [pieceAt]
theorem pieceAt_other (hs ls:List Int) (f k j:Nat) (h:j ≠ k):pieceAt hs ls f (k+1) j=pieceAt hs ls f k j:=by
 unfold pieceAt
 by_cases h1:j < k
 ·rw [if_pos (by omega),if_pos h1]
 ·rw [if_neg (by omega),if_neg h1]
theorem piece_any {w:World}{hv lv:Value}{hs ls:List Int} (hh:IntSl w hv hs) (hl:IntSl w lv ls) (hne:ls ≠ []) (f c:Nat) (hf:f≤1000000) (hc:c≤1000000) :
  Calls Tryz.prog 66 #[.agg #[hv,lv],.int .i64 f,.int .i64 c] w fun e w'=>∃ v,e=.returned v∧IntSl w' v (pieceOf hs ls f c)∧Below w.heap.size w w'∧(∀ k,v.ownBlock=some k→w.heap.size≤k):=by
 have hmk:=make_ints c hc
 have HL:Hid (∀ w1,Below w.heap.size w w1→∀ i:Int,0≤i→i≤9223372036854775807→Calls Tryz.prog 65 #[.agg #[hv,lv],.int .i64 i] w1 fun e w'=>e=.returned (.int .i64 (lat hs ls i.toNat))∧Below w1.heap.size w1 w'):=
  fun w1 hb i h0 hi=>letterAt_any (hh.below hb) (hl.below hb) i h0 hi hne
 clear hh hl hne
 go_enter Tryz.func66,Tryz.ntmps66
 go_wp2_with (fail)
 go_loopw [13] (fun i wr=>∃ k:Nat,k≤c∧i=.int .i64 k∧Below w.heap.size w wr∧w.heap.size+2≤wr.heap.size∧wr.cell? ⟨w.heap.size,0,none⟩=some hv∧wr.cell? ⟨w.heap.size,1,none⟩=some lv∧(∀ j,j < c→wr.cell? ⟨w.heap.size+1,j,none⟩=some (.int .i64 (pieceAt hs ls f k j))∧wr.frozen? ⟨w.heap.size+1,j,none⟩=false)) (fun i _=>c - (intOf i).toNat)
 case atStart =>
  refine ⟨0,Nat.zero_le _,rfl,(by repeat (first | exact Below.refl _ _ | assumption | refine below_drewN ?_ _ | refine Below.drew ?_ | refine Below.alloc ?_ (by simp <;> omega) _ | refine below_trans ?_ (by assumption))),by simp,by simp,by simp,fun j hj=>⟨?_,by simp⟩⟩
  simp [zeroInts,pieceAt,hj]
 case round =>
  obtain ⟨k,hk,rfl,hb,hsz,hc0,hc1,hcells⟩:=hrel
  by_cases hlt:k < c
  ·obtain ⟨hck,hfk⟩:=hcells k hlt
   have Hcells:Hid _:=hcells
   clear hcells
   go_wp2_with (fail)
   refine (HL.out wr hb _ ?_ ?_).mono ?_
   ·omega
   ·omega
   rintro e w1 ⟨rfl,hb1⟩
   generalize hx:lat hs ls ((f:Int)+(k:Int)).toNat=x
   have Hx:Hid (lat hs ls (f+k)=x):=by rw [show f+k=((f:Int)+(k:Int)).toNat by omega];exact hx
   clear hx
   have h10:w1.cell? ⟨w.heap.size,0,none⟩=some hv:=by rw [hb1.cell (by simp <;> omega)];exact hc0
   have h11:w1.cell? ⟨w.heap.size,1,none⟩=some lv:=by rw [hb1.cell (by simp <;> omega)];exact hc1
   have h1k:w1.cell? ⟨w.heap.size+1,k,none⟩=some (.int .i64 (pieceAt hs ls f k k)):=by rw [hb1.cell (by simp <;> omega)];exact hck
   have f1k:w1.frozen? ⟨w.heap.size+1,k,none⟩=false:=by rw [hb1.frozen (by simp <;> omega)];exact hfk
   have hs1:=hb1.size
   have hbw:=below_trans hb hb1
   clear hc0 hc1 hck hfk
   go_wp2
   go_roundw
   case rel =>
    refine ⟨k+1,by omega,by go_num,hbw.setCell (by simp) _,?_,?_,?_,?_⟩
    ·simp [World.setCell];omega
    ·rw [World.cell?_setCell_other _ _ _ _ (by simp)];exact h10
    ·rw [World.cell?_setCell_other _ _ _ _ (by simp)];exact h11
    ·intro j hj
     obtain ⟨p1,p2⟩:=Hcells.out j hj
     refine ⟨?_,by simp;rw [hb1.frozen (by simp <;> omega)];exact p2⟩
     by_cases e:j=k
     ·subst e
      rw [World.cell?_setCell_same _ _ _ h1k,pieceAt_same,Hx.out]
     ·rw [World.cell?_setCell_other _ _ _ _ (by simp <;> omega),pieceAt_other _ _ _ _ _ e,hb1.cell (by simp <;> omega)]
      exact p1
   case measure=>simp [intOf];omega
  ·have hkc:k=c:=by omega
   subst hkc
   have Hcells:Hid _:=hcells
   clear hcells
   go_wp2
   go_ret
   refine ⟨_,rfl,?_,hb,fun q hq=>by simp [Value.ownBlock] at hq;omega⟩
   refine ⟨some ⟨w.heap.size+1,0,none⟩,k,by simp [pieceOf],by simp [pieceOf,maxLen];omega,Or.inr ⟨w.heap.size+1,0,rfl,fun i hi=>?_⟩,(fun h=>by cases h),by simp [pieceOf]⟩
   have hi':i < k:=by simpa [pieceOf] using hi
   rw [Nat.zero_add,(Hcells.out i hi').1]
   simp [pieceAt,pieceOf,hi',List.getD]
theorem at_good {w:World}{hv lv:Value}{hs ls:List Int} (hh:IntSl w hv hs) (hl:IntSl w lv ls) (hne:ls ≠ []) (n i:Int) (h:chk hs ls n=0) (hi:0≤i) (hi':i≤9223372036854775807) :
  Calls Tryz.prog 48 #[.agg #[hv,lv],.int .i64 n,.int .i64 i] w fun e w'=>e=.returned (.tuple #[.int .i64 (lat hs ls i.toNat),.int .i64 0])∧Below w.heap.size w w':=by
 have HC:Hid (∀ w1,Below w.heap.size w w1→Calls Tryz.prog 50 #[.agg #[hv,lv],.int .i64 n] w1 fun e w'=>e=.returned (.int .i64 0)∧Below w1.heap.size w1 w'):=fun w1 hb=>by
  have:=check_any n (hh.below hb) (hl.below hb)
  rwa [h] at this
 have HL:Hid (∀ w1,Below w.heap.size w w1→Calls Tryz.prog 65 #[.agg #[hv,lv],.int .i64 i] w1 fun e w'=>e=.returned (.int .i64 (lat hs ls i.toNat))∧Below w1.heap.size w1 w'):=
  fun w1 hb=>letterAt_any (hh.below hb) (hl.below hb) i hi hi' hne
 clear hh hl h hne
 generalize lat hs ls i.toNat=x at *
 go_enter Tryz.func48,Tryz.ntmps48
 go_wp2_with (fail)
 refine (HC.out _ (by repeat (first | exact Below.refl _ _ | assumption | refine below_drewN ?_ _ | refine Below.drew ?_ | refine Below.alloc ?_ (by simp <;> omega) _ | refine below_trans ?_ (by assumption)))).mono ?_
 rintro e w1 ⟨rfl,hb1⟩
 have hbw:Below w.heap.size w w1:=below_trans (by repeat (first | exact Below.refl _ _ | assumption | refine below_drewN ?_ _ | refine Below.drew ?_ | refine Below.alloc ?_ (by simp <;> omega) _ | refine below_trans ?_ (by assumption))) hb1
 have h10:w1.cell? ⟨w.heap.size,0,none⟩=some hv:=by rw [hb1.cell (by simp <;> omega)];simp
 have h11:w1.cell? ⟨w.heap.size,1,none⟩=some lv:=by rw [hb1.cell (by simp <;> omega)];simp
 go_wp2_with (fail)
 refine (HL.out _ hbw).mono ?_
 rintro e w2 ⟨rfl,hb2⟩
 go_wp2
 go_ret2
 exact ⟨rfl,below_trans hbw hb2⟩
end Go.Proofs.YtpiacnnifdjlkabGreatDoor
namespace Go.Proofs.YtpiacnnifdjlkabGreatDoor
open Go.RowKit Go.Sort
def LeastHead (hs ls:List Int) (p k:Nat):Prop:=k≤hs.length∧(∀ j,k≤j→j < hs.length→lat hs ls j=lat hs ls (j+p))∧(k=0 ∨ lat hs ls (k - 1) ≠ lat hs ls (k - 1+p))
theorem IntSl.form {w:World}{v:Value}{zs:List Int} (h:IntSl w v zs) {n:Nat} (hn:zs.length=n):∃ a cap,v=.slice a n cap:=by
 obtain ⟨a,cap,rfl,_⟩:=h
 exact ⟨a,cap,by rw [hn]⟩
theorem pieceOf_length (hs ls:List Int) (f c:Nat):(pieceOf hs ls f c).length=c:=by simp [pieceOf]
theorem chk_zero {hs ls:List Int}{n:Int} (h:chk hs ls n=0):hs.length≤4000∧ls.length≤4000∧0 < ls.length∧1≤n∧n≤8:=by
 unfold chk at h
 split at h
 ·cases h
 ·split at h
  ·cases h
  ·split at h
   ·cases h
   ·omega
theorem least_good {w:World}{hv lv:Value}{hs ls:List Int} (hh:IntSl w hv hs) (hl:IntSl w lv ls) (n:Int) (h:chk hs ls n=0) :
  Calls Tryz.prog 20 #[.agg #[hv,lv],.int .i64 n] w fun e w'=>∃ v1 v2 p k,e=.returned (.tuple #[.agg #[v1,v2],.int .i64 0])∧LeastPer ls p∧LeastHead hs ls p k∧IntSl w' v1 (pieceOf hs ls 0 k)∧IntSl w' v2 (pieceOf hs ls k p)∧Below w.heap.size w w':=by
 obtain ⟨hl1,hl2,hl3,-,-⟩:=chk_zero h
 have hne:ls ≠ []:=List.length_pos_iff.1 hl3
 have HC:Hid (∀ w1,Below w.heap.size w w1→Calls Tryz.prog 50 #[.agg #[hv,lv],.int .i64 n] w1 fun e w'=>e=.returned (.int .i64 0)∧Below w1.heap.size w1 w'):=fun w1 hb=>by
  have:=check_any n (hh.below hb) (hl.below hb)
  rwa [h] at this
 have HL:Hid (∀ w1,Below w.heap.size w w1→∀ i:Int,0≤i→i≤9223372036854775807→Calls Tryz.prog 65 #[.agg #[hv,lv],.int .i64 i] w1 fun e w'=>e=.returned (.int .i64 (lat hs ls i.toNat))∧Below w1.heap.size w1 w'):=
  fun w1 hb i h0 hi=>letterAt_any (hh.below hb) (hl.below hb) i h0 hi hne
 have HP:Hid (∀ w1,Below w.heap.size w w1→Calls Tryz.prog 64 #[lv] w1 fun e w'=>∃ p:Nat,e=.returned (.int .i64 p)∧LeastPer ls p∧∃ m,w'=w1.drewN m):=fun w1 hb=>period_any (hl.below hb) hl2 hl3
 have HQ:Hid (∀ w1,Below w.heap.size w w1→∀ f c:Nat,f≤1000000→c≤1000000→Calls Tryz.prog 66 #[.agg #[hv,lv],.int .i64 f,.int .i64 c] w1 fun e w'=>∃ v,e=.returned v∧IntSl w' v (pieceOf hs ls f c)∧Below w1.heap.size w1 w'∧(∀ k,v.ownBlock=some k→w1.heap.size≤k)):=fun w1 hb f c hf hc=>piece_any (hh.below hb) (hl.below hb) hne f c hf hc
 obtain ⟨a0,c0,rfl,hm0,-,-⟩:=hh
 obtain ⟨a1,c1,rfl,hm1,-,-⟩:=hl
 clear h hne hm0 hm1
 go_enter Tryz.func20,Tryz.ntmps20
 go_wp2_with (fail)
 refine (HC.out _ (by repeat (first | exact Below.refl _ _ | assumption | refine below_drewN ?_ _ | refine Below.drew ?_ | refine Below.alloc ?_ (by simp <;> omega) _ | refine below_trans ?_ (by assumption)))).mono ?_
 rintro e w1 ⟨rfl,hb1⟩
 generalize hW0:(w.alloc (Obj.cells #[Value.slice a0 hs.length c0,Value.slice a1 ls.length c1] 28)).alloc (Obj.cells #[Value.slice none 0 0,Value.slice none 0 0] 28)=W0 at hb1
 have hbW:Below w.heap.size w W0:=by rw [← hW0];exact (by repeat (first | exact Below.refl _ _ | assumption | refine below_drewN ?_ _ | refine Below.drew ?_ | refine Below.alloc ?_ (by simp <;> omega) _ | refine below_trans ?_ (by assumption)))
 have hsz:W0.heap.size=w.heap.size+2:=by rw [← hW0];simp
 have hB:∀ {w':World},Below W0.heap.size W0 w'→w'.cell? ⟨w.heap.size,0,none⟩=some (.slice a0 hs.length c0)∧w'.cell? ⟨w.heap.size,1,none⟩=some (.slice a1 ls.length c1)∧w'.cell? ⟨w.heap.size+1,0,none⟩=some (.slice none 0 0)∧w'.cell? ⟨w.heap.size+1,1,none⟩=some (.slice none 0 0)∧w'.frozen? ⟨w.heap.size+1,0,none⟩=false∧w'.frozen? ⟨w.heap.size+1,1,none⟩=false:=by
  intro w' hb
  refine ⟨?_,?_,?_,?_,?_,?_⟩
  ·rw [hb.cell (by rw [hsz];simp),← hW0];simp
  ·rw [hb.cell (by rw [hsz];simp),← hW0];simp
  ·rw [hb.cell (by rw [hsz];simp),← hW0];simp
  ·rw [hb.cell (by rw [hsz];simp),← hW0];simp
  ·rw [hb.frozen (by rw [hsz];simp),← hW0];simp
  ·rw [hb.frozen (by rw [hsz];simp),← hW0];simp
 clear hW0
 have HB:Hid (∀ {w':World},Below W0.heap.size W0 w'→_):=hB
 obtain ⟨x0,x1,-,-,-,-⟩:=hB hb1
 clear hB
 have hbw:=below_trans hbW hb1
 go_wp2_with (fail)
 refine (HP.out _ hbw).mono ?_
 rintro e w2 ⟨p,rfl,hp,m,rfl⟩
 have Hp:Hid _:=hp
 have hp1:1≤p:=hp.1.1
 have hp2:p≤ls.length:=hp.1.2.1
 clear hp
 have hb2:=below_drewN hb1 m
 clear x0 x1 hbw hb1
 obtain ⟨x0,x1,-,-,-,-⟩:=HB.out hb2
 go_wp2_with (fail)
 go_loopw [8] (fun i wr=>∃ k:Nat,k≤hs.length∧i=.int .i64 k∧(∀ j,k≤j→j < hs.length→lat hs ls j=lat hs ls (j+p))∧Below W0.heap.size W0 wr) (fun i _=>(intOf i).toNat)
 case atStart=>exact ⟨hs.length,Nat.le_refl _,rfl,fun j h1 h2=>by omega,hb2⟩
 case round =>
  obtain ⟨k,hk,rfl,htk,hbr⟩:=hrel
  have Htk:Hid _:=htk
  clear htk hb2 x0 x1
  obtain ⟨x0,x1,x2,x3,x4,x5⟩:=HB.out hbr
  by_cases hpos:0 < k
  ·have k0:=cell_regrown x0
   have k1:=cell_regrown x1
   have cL:∀ d os (i:Int),0≤i→i≤9223372036854775807→Calls Tryz.prog 65 #[.agg #[.slice a0 hs.length c0,.slice a1 ls.length c1],.int .i64 i] (grow (redrawn wr d) os) fun e w''=>e=.returned (.int .i64 (lat hs ls i.toNat))∧∃ p:Regrown,w''=grow (redrawn wr p.d) p.os:=
    fun d os i h0 hi=>Calls.regrown_of (HL.out _ (below_trans (below_trans hbW hbr) (below_regrown wr d os)) i h0 hi)
   have CL:Hid _:=cL
   clear cL
   go_wp2_with (fail)
   refine wp_region_quiet_below (by kernel_rfl) (by kernel_rfl) ?_
   repeat (go_big_quiet_step (exact CL.out _ _ _ (by omega) (by omega)))
   refine wpQuiet_nil ?_
   intro _ hw'
   obtain ⟨⟨dq,osq⟩,hw''⟩:=hw'
   subst hw''
   have hbq:=below_trans hbr (below_regrown wr dq osq)
   clear k0 k1 x0 x1 x2 x3 x4 x5 CL
   dsimp only at hbq ⊢
   generalize hwq:grow (redrawn wr dq) osq=wq at hbq ⊢
   clear hwq
   generalize hr:(lat hs ls (k - 1) == lat hs ls (k - 1+p))=r
   have Hr:Hid _:=hr
   clear hr
   cases r with
   | true =>
    go_wp2
    go_roundw
    case rel=>exact ⟨k - 1,by omega,by go_num,fun j h1 h2=>by
     by_cases e:j=k - 1
     ·subst e;exact beq_iff_eq.1 Hr.out
     ·exact Htk.out j (by omega) h2,hbq⟩
    case measure=>simp [intOf];omega
   | false =>
    have Hd:Hid (LeastHead hs ls p k):=⟨hk,Htk.out,Or.inr (beq_eq_false_iff_ne.1 Hr.out)⟩
    clear Hr Htk
    obtain ⟨x0,x1,x2,x3,x4,x5⟩:=HB.out hbq
    have HQ1:Hid (∀ w1,Below W0.heap.size W0 w1→Calls Tryz.prog 66 #[.agg #[.slice a0 hs.length c0,.slice a1 ls.length c1],.int .i64 0,.int .i64 k] w1 fun e w'=>∃ ad cap,e=.returned (.slice ad k cap)∧IntSl w' (.slice ad k cap) (pieceOf hs ls 0 k)∧Below w1.heap.size w1 w'∧(∀ q,(Value.slice ad k cap).ownBlock=some q→w1.heap.size≤q)∧(∀ b o,b < w.heap.size+2→w'.cell? ⟨b,o,none⟩=w1.cell? ⟨b,o,none⟩)∧(∀ b o,b < w.heap.size+2→w'.frozen? ⟨b,o,none⟩=w1.frozen? ⟨b,o,none⟩)):=fun w1 hb =>
     (HQ.out w1 (below_trans hbW hb) 0 k (by omega) (by omega)).mono fun e w' ⟨v,he,hv,hb',hfr⟩=>let ⟨ad,cap,hvv⟩:=hv.form (pieceOf_length _ _ _ _);⟨ad,cap,hvv ▸ he,hvv ▸ hv,hb',hvv ▸ hfr,fun b o h=>hb'.cell (p:=⟨b,o,none⟩) (by have:=hb.size;simp;omega),fun b o h=>hb'.frozen (p:=⟨b,o,none⟩) (by have:=hb.size;simp;omega)⟩
    have HQ2:Hid (∀ w1,Below W0.heap.size W0 w1→Calls Tryz.prog 66 #[.agg #[.slice a0 hs.length c0,.slice a1 ls.length c1],.int .i64 k,.int .i64 p] w1 fun e w'=>∃ ad cap,e=.returned (.slice ad p cap)∧IntSl w' (.slice ad p cap) (pieceOf hs ls k p)∧Below w1.heap.size w1 w'∧(∀ q,(Value.slice ad p cap).ownBlock=some q→w1.heap.size≤q)∧(∀ b o,b < w.heap.size+2→w'.cell? ⟨b,o,none⟩=w1.cell? ⟨b,o,none⟩)∧(∀ b o,b < w.heap.size+2→w'.frozen? ⟨b,o,none⟩=w1.frozen? ⟨b,o,none⟩)):=fun w1 hb =>
     (HQ.out w1 (below_trans hbW hb) k p (by omega) (by omega)).mono fun e w' ⟨v,he,hv,hb',hfr⟩=>let ⟨ad,cap,hvv⟩:=hv.form (pieceOf_length _ _ _ _);⟨ad,cap,hvv ▸ he,hvv ▸ hv,hb',hvv ▸ hfr,fun b o h=>hb'.cell (p:=⟨b,o,none⟩) (by have:=hb.size;simp;omega),fun b o h=>hb'.frozen (p:=⟨b,o,none⟩) (by have:=hb.size;simp;omega)⟩
    go_wp2_with (fail)
    go_region_held3 (fun w'=>w'.cell? ⟨w.heap.size,0,none⟩=some (.slice a0 hs.length c0)∧w'.cell? ⟨w.heap.size,1,none⟩=some (.slice a1 ls.length c1)) (go_keep) (first | (go_at_call_of 66 (Value.int IntKind.i64 (p:Int));refine (HQ2.out _ ?_).mono ?_;exact below_trans hbq3 hb3;rintro e w4 ⟨d4,e4,rfl,hv4,hb4,hq4,hc4,hf4⟩) | (go_at_call 66;refine (HQ1.out _ ?_).mono ?_;exact Below.drew hbq;rintro e w3 ⟨d3,e3,rfl,hv3,hb3,hq3,hc3,hf3⟩;have hbq3:=Below.drew hbq))
    have hbq4:=below_trans (below_trans hbq3 hb3) hb4
    have hsz3:w.heap.size+2≤wq.heap.size:=by have:=hbq.size;omega
    have hsz4:wq.heap.size≤w3.heap.size:=hb3.size
    have hr0:w4.cell? ⟨w.heap.size+1,0,none⟩=some (.slice none 0 0):=by rw [hc4 _ _ (by omega),hc3 _ _ (by omega)];exact x2
    have hr1:w4.cell? ⟨w.heap.size+1,1,none⟩=some (.slice none 0 0):=by rw [hc4 _ _ (by omega),hc3 _ _ (by omega)];exact x3
    have Hv3:Hid (IntSl ((w4.setCell ⟨w.heap.size+1,0,none⟩ (.slice d3 k e3)).setCell ⟨w.heap.size+1,1,none⟩ (.slice d4 p e4)) (.slice d3 k e3) (pieceOf hs ls 0 k)):=
     ((hv3.below hb4).setCell (fun q hq=>by have h1:=hq3 q hq;have h2:wq.heap.size≤q:=h1;simp;omega) _).setCell (fun q hq=>by have h1:=hq3 q hq;have h2:wq.heap.size≤q:=h1;simp;omega) _
    have Hv4:Hid (IntSl ((w4.setCell ⟨w.heap.size+1,0,none⟩ (.slice d3 k e3)).setCell ⟨w.heap.size+1,1,none⟩ (.slice d4 p e4)) (.slice d4 p e4) (pieceOf hs ls k p)):=
     (hv4.setCell (fun q hq=>by have:=hq4 q hq;simp;omega) _).setCell (fun q hq=>by have:=hq4 q hq;simp;omega) _
    have Hbf:Hid (Below w.heap.size w ((w4.setCell ⟨w.heap.size+1,0,none⟩ (.slice d3 k e3)).setCell ⟨w.heap.size+1,1,none⟩ (.slice d4 p e4))):=
     ((below_trans hbW hbq4).setCell (by simp) _).setCell (by simp) _
    clear hv3 hv4 hq3 hq4 hc3 hc4 hf3 hf4 hb3 hb4 hbq3 hbq4 x0 x1 x2 x3 x4 x5
    go_wp2
    exact bodyPost_ret (v:=.tuple #[.agg #[.slice d3 k e3,.slice d4 p e4],.int .i64 0]) (by simp [results,Tryz.results20,go_sem,hr0,hr1]) rfl ⟨_,_,p,k,rfl,Hp.out,Hd.out,Hv3.out,Hv4.out,Hbf.out⟩
  ·have Hk0:Hid (k=0):=by show k=0;omega
   have hd0:decide (0 < k)=false:=by simp;omega
   have Hd:Hid (LeastHead hs ls p k):=⟨hk,Htk.out,Or.inl Hk0.out⟩
   clear Htk hpos
   go_wp2_with (fail)
   refine wp_region_quiet_below (by kernel_rfl) (by kernel_rfl) ?_
   repeat (go_big_quiet_step (fail))
   refine wpQuiet_nil ?_
   intro _ hw'
   obtain ⟨⟨dq,osq⟩,hw''⟩:=hw'
   subst hw''
   have hbq:=below_trans hbr (below_regrown wr dq osq)
   clear x0 x1 x2 x3 x4 x5
   dsimp only at hbq ⊢
   generalize hwq:grow (redrawn wr dq) osq=wq at hbq ⊢
   clear hwq hd0
   obtain ⟨x0,x1,x2,x3,x4,x5⟩:=HB.out hbq
   have HQ1:Hid (∀ w1,Below W0.heap.size W0 w1→Calls Tryz.prog 66 #[.agg #[.slice a0 hs.length c0,.slice a1 ls.length c1],.int .i64 0,.int .i64 k] w1 fun e w'=>∃ ad cap,e=.returned (.slice ad k cap)∧IntSl w' (.slice ad k cap) (pieceOf hs ls 0 k)∧Below w1.heap.size w1 w'∧(∀ q,(Value.slice ad k cap).ownBlock=some q→w1.heap.size≤q)∧(∀ b o,b < w.heap.size+2→w'.cell? ⟨b,o,none⟩=w1.cell? ⟨b,o,none⟩)∧(∀ b o,b < w.heap.size+2→w'.frozen? ⟨b,o,none⟩=w1.frozen? ⟨b,o,none⟩)):=fun w1 hb =>
    (HQ.out w1 (below_trans hbW hb) 0 k (by omega) (by omega)).mono fun e w' ⟨v,he,hv,hb',hfr⟩=>let ⟨ad,cap,hvv⟩:=hv.form (pieceOf_length _ _ _ _);⟨ad,cap,hvv ▸ he,hvv ▸ hv,hb',hvv ▸ hfr,fun b o h=>hb'.cell (p:=⟨b,o,none⟩) (by have:=hb.size;simp;omega),fun b o h=>hb'.frozen (p:=⟨b,o,none⟩) (by have:=hb.size;simp;omega)⟩
   have HQ2:Hid (∀ w1,Below W0.heap.size W0 w1→Calls Tryz.prog 66 #[.agg #[.slice a0 hs.length c0,.slice a1 ls.length c1],.int .i64 k,.int .i64 p] w1 fun e w'=>∃ ad cap,e=.returned (.slice ad p cap)∧IntSl w' (.slice ad p cap) (pieceOf hs ls k p)∧Below w1.heap.size w1 w'∧(∀ q,(Value.slice ad p cap).ownBlock=some q→w1.heap.size≤q)∧(∀ b o,b < w.heap.size+2→w'.cell? ⟨b,o,none⟩=w1.cell? ⟨b,o,none⟩)∧(∀ b o,b < w.heap.size+2→w'.frozen? ⟨b,o,none⟩=w1.frozen? ⟨b,o,none⟩)):=fun w1 hb =>
    (HQ.out w1 (below_trans hbW hb) k p (by omega) (by omega)).mono fun e w' ⟨v,he,hv,hb',hfr⟩=>let ⟨ad,cap,hvv⟩:=hv.form (pieceOf_length _ _ _ _);⟨ad,cap,hvv ▸ he,hvv ▸ hv,hb',hvv ▸ hfr,fun b o h=>hb'.cell (p:=⟨b,o,none⟩) (by have:=hb.size;simp;omega),fun b o h=>hb'.frozen (p:=⟨b,o,none⟩) (by have:=hb.size;simp;omega)⟩
   go_wp2_with (fail)
   go_region_held3 (fun w'=>w'.cell? ⟨w.heap.size,0,none⟩=some (.slice a0 hs.length c0)∧w'.cell? ⟨w.heap.size,1,none⟩=some (.slice a1 ls.length c1)) (go_keep) (first | (go_at_call_of 66 (Value.int IntKind.i64 (p:Int));refine (HQ2.out _ ?_).mono ?_;exact below_trans hbq3 hb3;rintro e w4 ⟨d4,e4,rfl,hv4,hb4,hq4,hc4,hf4⟩) | (go_at_call 66;refine (HQ1.out _ ?_).mono ?_;exact Below.drew hbq;rintro e w3 ⟨d3,e3,rfl,hv3,hb3,hq3,hc3,hf3⟩;have hbq3:=Below.drew hbq))
   have hbq4:=below_trans (below_trans hbq3 hb3) hb4
   have hsz3:w.heap.size+2≤wq.heap.size:=by have:=hbq.size;omega
   have hsz4:wq.heap.size≤w3.heap.size:=hb3.size
   have hr0:w4.cell? ⟨w.heap.size+1,0,none⟩=some (.slice none 0 0):=by rw [hc4 _ _ (by omega),hc3 _ _ (by omega)];exact x2
   have hr1:w4.cell? ⟨w.heap.size+1,1,none⟩=some (.slice none 0 0):=by rw [hc4 _ _ (by omega),hc3 _ _ (by omega)];exact x3
   have Hv3:Hid (IntSl ((w4.setCell ⟨w.heap.size+1,0,none⟩ (.slice d3 k e3)).setCell ⟨w.heap.size+1,1,none⟩ (.slice d4 p e4)) (.slice d3 k e3) (pieceOf hs ls 0 k)):=
    ((hv3.below hb4).setCell (fun q hq=>by have h1:=hq3 q hq;have h2:wq.heap.size≤q:=h1;simp;omega) _).setCell (fun q hq=>by have h1:=hq3 q hq;have h2:wq.heap.size≤q:=h1;simp;omega) _
   have Hv4:Hid (IntSl ((w4.setCell ⟨w.heap.size+1,0,none⟩ (.slice d3 k e3)).setCell ⟨w.heap.size+1,1,none⟩ (.slice d4 p e4)) (.slice d4 p e4) (pieceOf hs ls k p)):=
    (hv4.setCell (fun q hq=>by have:=hq4 q hq;simp;omega) _).setCell (fun q hq=>by have:=hq4 q hq;simp;omega) _
   have Hbf:Hid (Below w.heap.size w ((w4.setCell ⟨w.heap.size+1,0,none⟩ (.slice d3 k e3)).setCell ⟨w.heap.size+1,1,none⟩ (.slice d4 p e4))):=
    ((below_trans hbW hbq4).setCell (by simp) _).setCell (by simp) _
   clear hv3 hv4 hq3 hq4 hc3 hc4 hf3 hf4 hb3 hb4 hbq3 hbq4 x0 x1 x2 x3 x4 x5
   go_wp2
   exact bodyPost_ret (v:=.tuple #[.agg #[.slice d3 k e3,.slice d4 p e4],.int .i64 0]) (by simp [results,Tryz.results20,go_sem,hr0,hr1]) rfl ⟨_,_,p,k,rfl,Hp.out,Hd.out,Hv3.out,Hv4.out,Hbf.out⟩
theorem grown_of_below {w w':World} (h:Below w.heap.size w w'):w.grownBy w' none:=⟨h.os,h.tape,h.output,h.size,fun k hk _=>h.block k hk⟩
theorem owns_below {w w':World}{base:Nat}{e:TypeId}{size:Nat}{v:Value}{n:Nat}{xs:List Value} (h:w.ownsRow base e size v n xs) (hb:Below w.heap.size w w'):w'.ownsRow base e size v n xs:=
 h.kept (grown_of_below hb) (by cases hv:v.ownBlock <;> simp)
theorem owns_form {w:World}{base:Nat}{e:TypeId}{size:Nat}{v:Value}{n:Nat}{xs:List Value} (h:w.ownsRow base e size v n xs):∃ a cap,v=.slice a n cap:=by
 rcases h.2 with ⟨rfl,rfl⟩ | ⟨g,cap,cur,rfl,_⟩
 ·exact ⟨none,0,rfl⟩
 ·exact ⟨_,_,rfl⟩
theorem step_call {ops:Array Oper}{o:Oper}{a:Act}{K:Act→World→Prop}{Q:Exit→Act→World→Prop}{E:Prop}{w:World} (hgd:o.guard=none) (f:Nat) (args:List Operand) (tys:Array TypeId)
  (ho:o.op=.call { callee:=.value (.func f),args:=args.toArray,argTypes:=tys }) (hf:∀ args w,(callFunc f args).run Tryz.prog w=.ok (.enter f args) w)
  (h:Calls Tryz.prog f (args.map a.eval).toArray w fun e w'=>∃ v,e=.returned v∧K (a.put o.dst v) w') :
  if Region.wanted o (yielded ops a.tmps)=true then Oper.wp Tryz.prog o a w K Q else E:=by
 have hw:Region.wanted o (yielded ops a.tmps)=true:=by simp [Region.wanted,hgd]
 rw [if_pos hw]
 have hrun:(execOp a.eval o).run Tryz.prog w=.ok (.enter f (args.map a.eval).toArray) w:=by
  unfold execOp
  simp only [ho,resolve,Deferred.ofValue,invoke,Sem.run_bind,Sem.run_pure,Result.andThen_ok,List.map_toArray,Act.eval,Array.empty_append,Array.append_empty,hf]
 unfold Oper.wp
 rw [hrun,Oper.upon_enter]
 exact h.mono fun e w' ⟨v,he,hk⟩=>by subst he;exact hk
theorem intSl_one (w:World) (g:Nat) (x:Int) (h:w.cell? ⟨g,0,none⟩=some (.int .i64 x)):IntSl w (.slice (some ⟨g,0,none⟩) 1 1) [x]:=
 ⟨_,_,rfl,by simp [maxLen],Or.inr ⟨g,0,rfl,fun i hi=>by
  have:i=0:=by simpa using hi
  subst this
  exact h⟩,(fun h=>by cases h),by simp⟩
def BoolSl (w:World) (v:Value) (zs:List Bool):Prop:=
 ∃ a cap,v=.slice a zs.length cap∧zs.length≤maxLen∧(zs=[] ∨ ∃ b off,a=some ⟨b,off,none⟩∧∀ i,i < zs.length→w.cell? ⟨b,off+i,none⟩=some (.bool (zs.getD i false)))∧(a=none→cap=0)∧zs.length≤cap
theorem BoolSl.below {w w':World}{v:Value}{zs:List Bool} (h:BoolSl w v zs) (hb:Below w.heap.size w w'):BoolSl w' v zs:=by
 obtain ⟨a,cap,rfl,hm,h,hn⟩:=h
 refine ⟨a,cap,rfl,hm,?_,hn⟩
 rcases h with h | ⟨b,off,rfl,hc⟩
 ·exact Or.inl h
 ·refine Or.inr ⟨b,off,rfl,fun i hi=>?_⟩
  have:=hc i hi
  rw [hb.cell (World.block_lt_of_cell? w _ this)];exact this
structure Stp where
 f:Int
 l:Int
 t:Int
def stp0:Stp:=⟨0,0,0⟩
def StepSl (w:World) (v:Value) (zs:List Stp):Prop:=
 ∃ a cap,v=.slice a zs.length cap∧zs.length≤maxLen∧(zs=[] ∨ ∃ b off,a=some ⟨b,off,none⟩∧∀ i,i < zs.length→w.cell? ⟨b,off+i * 3,none⟩=some (.int .i64 (zs.getD i stp0).f)∧w.cell? ⟨b,off+i * 3+1,none⟩=some (.int .i64 (zs.getD i stp0).l)∧w.cell? ⟨b,off+i * 3+2,none⟩=some (.int .i64 (zs.getD i stp0).t))∧(a=none→cap=0)∧zs.length≤cap
theorem StepSl.below {w w':World}{v:Value}{zs:List Stp} (h:StepSl w v zs) (hb:Below w.heap.size w w'):StepSl w' v zs:=by
 obtain ⟨a,cap,rfl,hm,h,hn⟩:=h
 refine ⟨a,cap,rfl,hm,?_,hn⟩
 rcases h with h | ⟨b,off,rfl,hc⟩
 ·exact Or.inl h
 ·refine Or.inr ⟨b,off,rfl,fun i hi=>?_⟩
  obtain ⟨h1,h2,h3⟩:=hc i hi
  refine ⟨?_,?_,?_⟩
  ·rw [hb.cell (World.block_lt_of_cell? w _ h1)];exact h1
  ·rw [hb.cell (World.block_lt_of_cell? w _ h2)];exact h2
  ·rw [hb.cell (World.block_lt_of_cell? w _ h3)];exact h3
structure Aut where
 n:Int
 m:Int
 first:List Int
 good:List Bool
 steps:List Stp
def AutV (w:World) (v:Value) (A:Aut):Prop:=
 ∃ fv gv sv,v=.agg #[.int .i64 A.n,.int .i64 A.m,fv,gv,sv]∧IntSl w fv A.first∧BoolSl w gv A.good∧StepSl w sv A.steps
theorem AutV.below {w w':World}{v:Value}{A:Aut} (h:AutV w v A) (hb:Below w.heap.size w w'):AutV w' v A:=by
 obtain ⟨fv,gv,sv,rfl,h1,h2,h3⟩:=h
 exact ⟨fv,gv,sv,rfl,h1.below hb,h2.below hb,h3.below hb⟩
theorem within_any (a n:Int) (w:World) :
  Calls Tryz.prog 145 #[.int .i64 a,.int .i64 n] w fun e w'=>e=.returned (.bool (decide (0≤a∧a < n)))∧w'=w:=by
 by_cases h1:0≤a
 ·go_enter Tryz.func145,Tryz.ntmps145
  go_wp2
  go_ret
  exact ⟨by simp [h1],rfl⟩
 ·have h2:a < 0:=by omega
  have e:decide (0≤a∧a < n)=false:=by simp;omega
  rw [e]
  clear h1 e
  go_enter Tryz.func145,Tryz.ntmps145
  go_wp2
  go_ret
  exact ⟨rfl,rfl⟩
def cmpI (a b:Int):Int:=if a < b then -1 else if b < a then 1 else 0
theorem compare_any (a b:Int) (w:World) :
  Calls Tryz.prog 153 #[.int .i64 a,.int .i64 b] w fun e w'=>e=.returned (.int .i64 (cmpI a b))∧w'=w:=by
 have ha:(a != a)=false:=by simp
 have hb:(b != b)=false:=by simp
 by_cases h1:a < b
 ·rw [show cmpI a b=-1 by simp [cmpI,h1]]
  go_enter Tryz.func153,Tryz.ntmps153
  go_wp2
  go_ret
  exact ⟨rfl,rfl⟩
 ·by_cases h2:b < a
  ·rw [show cmpI a b=1 by simp [cmpI,h1,h2]]
   clear h1
   go_enter Tryz.func153,Tryz.ntmps153
   go_wp2
   go_ret
   exact ⟨rfl,rfl⟩
  ·rw [show cmpI a b=0 by simp [cmpI,h1,h2]]
   have h3:a≤b:=by omega
   have h4:b≤a:=by omega
   clear h1 h2
   go_enter Tryz.func153,Tryz.ntmps153
   go_wp2
   go_ret
   exact ⟨rfl,rfl⟩
def orI (x y z:Int):Int:=if x ≠ 0 then x else if y ≠ 0 then y else z
theorem or_any (g:Nat) (x y z:Int) (w:World) (h0:w.cell? ⟨g,0,none⟩=some (.int .i64 x)) (h1:w.cell? ⟨g,1,none⟩=some (.int .i64 y)) (h2:w.cell? ⟨g,2,none⟩=some (.int .i64 z)) :
  Calls Tryz.prog 159 #[.slice (some ⟨g,0,none⟩) 3 3] w fun e w'=>e=.returned (.int .i64 (orI x y z))∧w'=w:=by
 by_cases hx:x=0
 ·have bx:(x != 0)=false:=by simp [hx]
  by_cases hy:y=0
  ·have bY:(y != 0)=false:=by simp [hy]
   by_cases hz:z=0
   ·have bz:(z != 0)=false:=by simp [hz]
    have e:orI x y z=0:=by simp [orI,hx,hy,hz]
    rw [e]
    clear hx hy hz e
    go_enter Tryz.func159,Tryz.ntmps159
    go_wp2
    refine wp_loop_rounds 4 ?_
    repeat (rw [rounds_succ];go_wp2)
    go_ret
    exact ⟨rfl,rfl⟩
   ·have bz:(z != 0)=true:=by simp [hz]
    have e:orI x y z=z:=by simp [orI,hx,hy]
    rw [e]
    clear hx hy hz e
    go_enter Tryz.func159,Tryz.ntmps159
    go_wp2
    refine wp_loop_rounds 4 ?_
    repeat (rw [rounds_succ];go_wp2)
    go_ret
    exact ⟨rfl,rfl⟩
  ·have bY:(y != 0)=true:=by simp [hy]
   have e:orI x y z=y:=by simp [orI,hx,hy]
   rw [e]
   clear hx hy e
   go_enter Tryz.func159,Tryz.ntmps159
   go_wp2
   refine wp_loop_rounds 4 ?_
   repeat (rw [rounds_succ];go_wp2)
   go_ret
   exact ⟨rfl,rfl⟩
 ·have bx:(x != 0)=true:=by simp [hx]
  have e:orI x y z=x:=by simp [orI,hx]
  rw [e]
  clear hx e
  go_enter Tryz.func159,Tryz.ntmps159
  go_wp2
  refine wp_loop_rounds 4 ?_
  repeat (rw [rounds_succ];go_wp2)
  go_ret
  exact ⟨rfl,rfl⟩
theorem cell_three (w:World) (a b:Obj) (c:Array Value) (t:TypeId) (i:Nat):(((w.alloc a).alloc b).alloc (.cells c t)).drew.cell? ⟨w.heap.size+1+1,i,none⟩=c[i]?:=by
 have:=World.cell?_alloc_new ((w.alloc a).alloc b) c t i
 rw [World.size_alloc,World.size_alloc] at this
 exact this
def ordS (a b:Stp):Int:=orI (cmpI a.f b.f) (cmpI a.l b.l) (cmpI a.t b.t)
theorem order_any (a b:Stp) (w:World) :
  Calls Tryz.prog 116 #[.agg #[.int .i64 a.f,.int .i64 a.l,.int .i64 a.t],.agg #[.int .i64 b.f,.int .i64 b.l,.int .i64 b.t]] w fun e w'=>e=.returned (.int .i64 (ordS a b))∧Below w.heap.size w w':=by
 obtain ⟨af,al,at_⟩:=a
 obtain ⟨bf,bl,bt⟩:=b
 dsimp only [ordS]
 go_enter Tryz.func116,Tryz.ntmps116
 go_wp2_with (fail)
 go_region_held3 (fun w'=>w'.cell? ⟨w.heap.size,0,none⟩=some (.int .i64 af)∧w'.cell? ⟨w.heap.size,1,none⟩=some (.int .i64 al)∧w'.cell? ⟨w.heap.size,2,none⟩=some (.int .i64 at_)∧w'.cell? ⟨w.heap.size+1,0,none⟩=some (.int .i64 bf)∧w'.cell? ⟨w.heap.size+1,1,none⟩=some (.int .i64 bl)∧w'.cell? ⟨w.heap.size+1,2,none⟩=some (.int .i64 bt)) (go_keep) (first | (go_at_call 153;refine (compare_any _ _ _).mono ?_;rintro e w' ⟨rfl,rfl⟩) | (go_at_call 159;refine (or_any _ (cmpI af bf) (cmpI al bl) (cmpI at_ bt) _ ?_ ?_ ?_).mono ?_;exact cell_three _ _ _ _ _ 0;exact cell_three _ _ _ _ _ 1;exact cell_three _ _ _ _ _ 2;rintro e w' ⟨rfl,rfl⟩))
 go_wp2
 go_ret
 exact ⟨rfl,(by repeat (first | exact Below.refl _ _ | assumption | refine below_drewN ?_ _ | refine Below.drew ?_ | refine Below.alloc ?_ (by simp <;> omega) _ | refine below_trans ?_ (by assumption)))⟩
def outB (n x:Int):Bool:=!(decide (0≤x∧x < n))
def fallsB (fs:List Int):Bool:=(List.range (fs.length - 1)).any fun i=>decide (fs.getD (i+1) 0≤fs.getD i 0)
def chkFirst (n:Int) (fs:List Int):Int:=if fs.any (outB n) then 5 else if fallsB fs then 4 else 0
def badS (n m:Int) (s:Stp):Bool:=outB n s.f || outB n s.t || outB m s.l
def chkStepsFrom (n m:Int):Option Stp→List Stp→Int
 | _,[]=>0
 | p,s :: r=>if badS n m s then 5 else match p with
  | none=>chkStepsFrom n m (some s) r
  | some q=>if decide (0≤ordS q s) then 4 else chkStepsFrom n m (some s) r
def chkA (A:Aut):Int:=
 if A.n < 1 ∨ 300 < A.n ∨ A.m < 1 ∨ 8 < A.m then 3 else if (A.good.length:Int) ≠ A.n then 1 else if 6000 < A.steps.length then 2
 else if chkFirst A.n A.first ≠ 0 then chkFirst A.n A.first else chkStepsFrom A.n A.m none A.steps
theorem firstNone_any (x n:Int) (a:Addr) (w:World) (ha:w.cell? a=some (.int .i64 n)) :
  Calls Tryz.prog 144 #[.int .i64 x,.pointer (some a)] w fun e w'=>e=.returned (.bool (outB n x))∧w'=w:=by
 unfold outB
 have HW:=hide (within_any x n)
 generalize decide (0≤x∧x < n)=r at HW ⊢
 go_enter Tryz.func144,Tryz.ntmps144
 go_wp2_with (fail)
 refine (HW.out _).mono ?_
 rintro e w' ⟨rfl,rfl⟩
 go_wp2
 go_ret
 exact ⟨rfl,rfl⟩
theorem fallsB_true {fs:List Int}{k:Nat} (h:k+1 < fs.length) (hf:fs.getD (k+1) 0≤fs.getD k 0):fallsB fs=true:=by
 unfold fallsB
 rw [List.any_eq_true]
 exact ⟨k,by simp;omega,by simpa using hf⟩
theorem fallsB_false {fs:List Int} (h:∀ k,k+1 < fs.length→fs.getD k 0 < fs.getD (k+1) 0):fallsB fs=false:=by
 unfold fallsB
 rw [List.any_eq_false]
 intro k hk
 have h1:=h k (by simp at hk;omega)
 intro hd
 have h2:=of_decide_eq_true hd
 omega
theorem checkFirst_any {w:World} (n m:Int) (fv gv sv:Value) (fs:List Int) (hf:IntSl w fv fs) :
  Calls Tryz.prog 90 #[.agg #[.int .i64 n,.int .i64 m,fv,gv,sv]] w fun e w'=>e=.returned (.int .i64 (chkFirst n fs))∧Below w.heap.size w w':=by
 have HF:Hid (∀ w1,Below w.heap.size w w1→∀ a,w1.cell? a=some (.int .i64 n)→Calls Tryz.prog 93 #[fv,.func (.func 144) #[] #[.pointer (some a)]] w1 fun e w'=>e=.returned (.bool (fs.any (outB n)))∧Below w1.heap.size w1 w'):=fun w1 hb a ha =>
  containsFunc_any 144 _ (outB n) (hf.below hb) Tryz.call144 fun i _ w2 hw2 =>
   (firstNone_any (fs.getD i 0) n a w2 (by rw [hw2.cell (World.block_lt_of_cell? w1 _ ha)];exact ha)).mono fun e w' ⟨he,hw⟩=>⟨he,by rw [hw];exact Below.refl _ _⟩
 obtain ⟨a0,c0,rfl,hm0,hc,-⟩:=hf
 have Hc:=hide hc
 clear hc
 unfold maxLen at hm0
 have hmf:∀ (fn:Fn) (first cap:Array Value) (w:World),(Instr.makeFunc fn first cap).run Tryz.prog w=.ok (.func fn first cap) w:=fun _ _ _ _=>rfl
 generalize hq:chkFirst n fs=q
 have Hq:=hide hq
 clear hq
 generalize hany:fs.any (outB n)=r at HF
 have Hany:=hide hany
 clear hany
 go_enter Tryz.func90,Tryz.ntmps90
 go_wp2_with (fail)
 refine (HF.out _ (by repeat (first | exact Below.refl _ _ | assumption | refine below_drewN ?_ _ | refine Below.drew ?_ | refine Below.alloc ?_ (by simp <;> omega) _ | refine below_trans ?_ (by assumption))) _ (by simp)).mono ?_
 rintro e w1 ⟨rfl,hb1⟩
 have hbw:Below w.heap.size w w1:=below_trans (by repeat (first | exact Below.refl _ _ | assumption | refine below_drewN ?_ _ | refine Below.drew ?_ | refine Below.alloc ?_ (by simp <;> omega) _ | refine below_trans ?_ (by assumption))) hb1
 have x2:w1.cell? ⟨w.heap.size,2,none⟩=some (.slice a0 fs.length c0):=by rw [hb1.cell (by simp <;> omega)];simp
 cases r with
 | true =>
  have:q=5:=by rw [← Hq.out];simp [chkFirst,Hany.out]
  subst this
  go_wp2
  go_ret
  exact ⟨rfl,hbw⟩
 | false =>
  go_wp2_with (fail)
  go_loopw [3] (fun i wr=>∃ k:Nat,(1≤k∧(k≤fs.length ∨ k=1))∧i=.int .i64 k∧(∀ j,j+1 < k→fs.getD j 0 < fs.getD (j+1) 0)∧∃ d,wr=w1.drewN d) (fun i _=>fs.length - (intOf i).toNat)
  case atStart=>exact ⟨1,⟨Nat.le_refl _,Or.inr rfl⟩,rfl,(fun j hj=>by omega),0,rfl⟩
  case round =>
   obtain ⟨k,⟨hk1,hk2⟩,rfl,htk,d,rfl⟩:=hrel
   have Htk:=hide htk
   clear htk
   by_cases hlt:k < fs.length
   ·obtain ⟨b,off,rfl,hcell⟩:∃ b off,a0=some ⟨b,off,none⟩∧∀ i,i < fs.length→w.cell? ⟨b,off+i,none⟩=some (.int .i64 (fs.getD i 0)):=by
     rcases Hc.out with h | h
     ·subst h;simp at hlt
     ·exact h
    have c1:w1.cell? ⟨b,off+k,none⟩=some (.int .i64 (fs.getD k 0)):=by have h:=hcell k hlt;rw [hbw.cell (World.block_lt_of_cell? w _ h)];exact h
    have c2:w1.cell? ⟨b,off+(k - 1),none⟩=some (.int .i64 (fs.getD (k - 1) 0)):=by have h:=hcell (k - 1) (by omega);rw [hbw.cell (World.block_lt_of_cell? w _ h)];exact h
    clear hcell
    generalize hx:fs.getD k 0=x at *
    generalize hy:fs.getD (k - 1) 0=y at *
    have Hx:=hide hx
    have Hy:=hide hy
    clear hx hy hk2
    by_cases hxy:x≤y
    ·have hd:decide (x≤y)=true:=decide_eq_true hxy
     go_wp2_with (fail)
     (refine wp_region_quiet_lit (by kernel_rfl) (by kernel_rfl) ?_;(repeat (go_big_quiet_step (fail)));refine wpQuiet_nil ?_;intro _ hw';obtain ⟨nq,hw''⟩:=hw';subst hw'')
     go_wp2
     go_ret
     have:q=4:=by
      rw [← Hq.out]
      have hfb:=fallsB_true (fs:=fs) (k:=k - 1) (by omega) (by rw [show k - 1+1=k by omega,Hx.out,Hy.out];exact hxy)
      simp [chkFirst,Hany.out,hfb]
     subst this
     exact ⟨rfl,(by repeat (first | exact Below.refl _ _ | assumption | refine below_drewN ?_ _ | refine Below.drew ?_ | refine Below.alloc ?_ (by simp <;> omega) _ | refine below_trans ?_ (by assumption)))⟩
    ·have hxy':y < x:=by omega
     have hd:decide (x≤y)=false:=decide_eq_false hxy
     clear hxy
     go_wp2_with (fail)
     (refine wp_region_quiet_lit (by kernel_rfl) (by kernel_rfl) ?_;(repeat (go_big_quiet_step (fail)));refine wpQuiet_nil ?_;intro _ hw';obtain ⟨nq,hw''⟩:=hw';subst hw'')
     go_wp2
     go_roundw
     case rel=>exact ⟨k+1,⟨by omega,Or.inl (by omega)⟩,by go_num,(fun j hj=>by
      by_cases e:j+1=k
      ·have e':j=k - 1:=by omega
       rw [e,Hx.out,e',Hy.out];exact hxy'
      ·exact Htk.out j (by omega)),d+nq,by first | rfl | rw [World.drewN_drewN]⟩
     case measure=>simp [intOf];omega
   ·go_wp2_with (fail)
    go_ret
    have:q=0:=by
     rw [← Hq.out]
     have hfb:=fallsB_false (fs:=fs) (fun j hj=>Htk.out j (by omega))
     simp [chkFirst,Hany.out,hfb]
    subst this
    exact ⟨rfl,(by repeat (first | exact Below.refl _ _ | assumption | refine below_drewN ?_ _ | refine Below.drew ?_ | refine Below.alloc ?_ (by simp <;> omega) _ | refine below_trans ?_ (by assumption)))⟩
end Go.Proofs.YtpiacnnifdjlkabGreatDoor
