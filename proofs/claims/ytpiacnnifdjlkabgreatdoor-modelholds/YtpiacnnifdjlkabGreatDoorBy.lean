import Derived.Test.YtpiacnnifdjlkabGreatDoorRows
import Derived.WalkKit
import Derived.WalkSpells
import Derived.WalkLawsBesides
import Derived.BigQuiet
import Derived.Deep.QuietTactic
import Derived.Lib.QuietBelow
import Derived.Deep.RegionHeld3
import Derived.Deep.AppendLies
import Derived.Deep.RegionLaw
import Derived.Deep.CutBlock
import Derived.Deep.DeepCutAuto
import Derived.Lib.TrailingZeros
import Derived.MapKept
import Derived.Deep.LoopGhost
import Derived.Carry
set_option maxRecDepth 100000
set_option maxHeartbeats 8000000
namespace Go.Proofs.YtpiacnnifdjlkabGreatDoor
open Go.RowKit
theorem hide {p:Prop} (h:p):Hid p:=h
def IntSl (w:World) (v:Value) (zs:List Int):Prop:=
 ∃ a cap,v=.slice a zs.length cap∧zs.length≤maxLen∧(zs=[] ∨ ∃ b off,a=some ⟨b,off,none⟩∧∀ i,i < zs.length→w.cell? ⟨b,off+i,none⟩=some (.int .i64 (zs.getD i 0)))∧(a=none→cap=0)∧zs.length≤cap
theorem IntSl.below {w w':World}{v:Value}{zs:List Int} (h:IntSl w v zs) (hb:Below w.heap.size w w'):IntSl w' v zs:=by
 obtain ⟨a,cap,rfl,hm,h,hn⟩:=h
 refine ⟨a,cap,rfl,hm,?_,hn⟩
 rcases h with h | ⟨b,off,rfl,hc⟩
 ·exact Or.inl h
 ·refine Or.inr ⟨b,off,rfl,fun i hi=>?_⟩
  have:=hc i hi
  rw [hb.cell (World.block_lt_of_cell? w _ this)];exact this
theorem IntSl.setCell {w:World}{v:Value}{zs:List Int} (h:IntSl w v zs) {a:Addr} (hne:∀ k,v.ownBlock=some k→k ≠ a.block) (u:Value):IntSl (w.setCell a u) v zs:=by
 obtain ⟨b,cap,rfl,hm,h,hn⟩:=h
 refine ⟨b,cap,rfl,hm,?_,hn⟩
 rcases h with h | ⟨b,off,rfl,hc⟩
 ·exact Or.inl h
 ·refine Or.inr ⟨b,off,rfl,fun i hi=>?_⟩
  rw [World.cell?_setCell_other _ _ _ _ (fun e=>hne b rfl (by rw [e]))]
  exact hc i hi
theorem below_trans {w w1 w2:World} (h:Below w.heap.size w w1) (k:Below w1.heap.size w1 w2):Below w.heap.size w w2:=
 h.trans (k.mono h.size)
theorem below_drawn (w:World) (n:Nat):Below w.heap.size w (w.drewN n):=below_drewN (Below.refl _ _) n
theorem below_new (w:World) (o:Obj):Below w.heap.size w (w.alloc o):=(Below.refl _ _).alloc (Nat.le_refl _) o
def lat (hs ls:List Int) (i:Nat):Int:=if i < hs.length then hs.getD i 0 else ls.getD ((i - hs.length) % ls.length) 0
theorem letterAtR_head (b off n cap:Nat) (v1:Value) (i:Nat) (x:Int) (w:World) (hi:i < n) (_hn:n≤maxLen)
  (hx:w.cell? ⟨b,off+i,none⟩=some (.int .i64 x)) (hb:b < w.heap.size) :
  Calls Tryz.prog 81 #[.agg #[.slice (some ⟨b,off,none⟩) n cap,v1],.int .i64 i] w fun e w'=>e=.returned (.int .i64 x)∧Below w.heap.size w w':=by
 unfold maxLen at _hn
 go_enter Tryz.func81,Tryz.ntmps81
 go_wp2
 go_ret
 exact ⟨rfl,(Below.refl _ _).alloc (Nat.le_refl _) _⟩
theorem letterAtR_loop (b off n cap h0 c0:Nat) (a0:Option Addr) (i:Nat) (x:Int) (w:World) (hi:h0≤i) (hn:n≤maxLen) (hh:h0≤maxLen) (hni:(i:Int)≤9223372036854775807) (hnn:0 < n)
  (hx:w.cell? ⟨b,off+(i - h0) % n,none⟩=some (.int .i64 x)) (hb:b < w.heap.size) :
  Calls Tryz.prog 81 #[.agg #[.slice a0 h0 c0,.slice (some ⟨b,off,none⟩) n cap],.int .i64 i] w fun e w'=>e=.returned (.int .i64 x)∧Below w.heap.size w w':=by
 unfold maxLen at hn hh
 have hn0:((n:Int) == 0)=false:=by rw [beq_eq_false_iff_ne];omega
 have hn1:¬ (n:Int)=0:=by omega
 have he:((i:Int) - h0) % n=((i - h0) % n:Nat):=by rw [← Int.ofNat_sub hi];rfl
 have hq1:0≤((i:Int) - h0) % n:=by rw [he];omega
 have hq2:((i:Int) - h0) % n < n:=by rw [he];have:=Nat.mod_lt (i - h0) hnn;omega
 clear he
 go_enter Tryz.func81,Tryz.ntmps81
 go_wp2
 refine wp_region_quiet_lit (by kernel_rfl) (by kernel_rfl) ?_
 repeat (go_big_quiet_step (fail))
 refine wpQuiet_nil ?_
 intro _ hw';obtain ⟨nq,hw''⟩:=hw';subst hw''
 go_wp2
 go_ret
 exact ⟨rfl,below_drewN ((Below.refl _ _).alloc (Nat.le_refl _) _) _⟩
theorem letterAtR_any {hv lv:Value}{hs ls:List Int}{w:World} (hh:IntSl w hv hs) (hl:IntSl w lv ls) (i:Int) (h0:0≤i) (hi:i≤9223372036854775807) (hne:ls ≠ []) :
  Calls Tryz.prog 81 #[.agg #[hv,lv],.int .i64 i] w fun e w'=>e=.returned (.int .i64 (lat hs ls i.toNat))∧Below w.heap.size w w':=by
 obtain ⟨k,rfl⟩:=Int.eq_ofNat_of_zero_le h0
 obtain ⟨a0,c0,rfl,hm0,hh,-⟩:=hh
 obtain ⟨a1,c1,rfl,hm1,hl,-⟩:=hl
 have hpos:0 < ls.length:=List.length_pos_iff.2 hne
 unfold lat
 rw [Int.toNat_natCast]
 by_cases hk:k < hs.length
 ·rw [if_pos hk]
  rcases hh with hh | ⟨b,off,rfl,hc⟩
  ·subst hh;simp at hk
  ·have:=hc k hk
   exact letterAtR_head b off _ _ _ k _ w hk hm0 this (World.block_lt_of_cell? w _ this)
 ·rw [if_neg hk]
  rcases hl with hl | ⟨b,off,rfl,hc⟩
  ·exact absurd hl hne
  ·have:=hc _ (Nat.mod_lt (k - hs.length) hpos)
   exact letterAtR_loop b off _ _ _ _ _ k _ w (by omega) hm1 hm0 hi hpos this (World.block_lt_of_cell? w _ this)
theorem between_any (a b c:Int) (w:World) :
  Calls Tryz.prog 56 #[.int .i64 a,.int .i64 b,.int .i64 c] w fun e w'=>e=.returned (.bool (decide (b≤a∧a≤c)))∧w'=w:=by
 by_cases h1:b≤a
 ·go_enter Tryz.func56,Tryz.ntmps56
  go_wp2
  go_ret
  exact ⟨by simp [h1],rfl⟩
 ·have h2:a < b:=by omega
  have e:decide (b≤a∧a≤c)=false:=by simp;omega
  rw [e]
  clear h1 e
  go_enter Tryz.func56,Tryz.ntmps56
  go_wp2
  go_ret
  exact ⟨rfl,rfl⟩
theorem indexFunc_go (n b off cap F:Nat) (caps:Array Value) (f:Nat→Int) (p:Nat→Bool) (w:World) (hm:n≤maxLen) (hF:∀ args w,(callFunc F args).run Tryz.prog w=.ok (.enter F args) w)
  (hx:∀ i,i < n→w.cell? ⟨b,off+i,none⟩=some (.int .i64 (f i)))
  (hp:∀ i,i < n→∀ w1,Below w.heap.size w w1→Calls Tryz.prog F (#[.int .i64 (f i)] ++ caps) w1 fun e w'=>e=.returned (.bool (p i))∧Below w1.heap.size w1 w')
  (r:Int) (hr:(∃ i:Nat,i < n∧p i=true∧(∀ j,j < i→p j=false)∧r=i) ∨ (r=-1∧∀ i,i < n→p i=false)) :
  Calls Tryz.prog 146 #[.slice (some ⟨b,off,none⟩) n cap,.func (.func F) #[] caps] w fun e w'=>e=.returned (.int .i64 r)∧Below w.heap.size w w':=by
 unfold maxLen at hm
 have Hr:Hid _:=hr
 have Hp:Hid _:=hp
 clear hr hp
 go_enter Tryz.func146,Tryz.ntmps146
 go_wp2
 go_loopw [8] (fun i wr=>∃ k:Nat,k≤n∧i=.int .i64 k∧(∀ j,j < k→p j=false)∧Below w.heap.size w wr) (fun i _=>n - (intOf i).toNat)
 case atStart=>exact ⟨0,Nat.zero_le _,rfl,fun j hj=>by omega,Below.refl _ _⟩
 case round =>
  obtain ⟨k,hk,rfl,htk,hbw⟩:=hrel
  have Htk:Hid (∀ j,j < k→p j=false):=htk
  clear htk
  by_cases hlt:k < n
  ·have hx':=hx k (by omega)
   rw [← hbw.cell (World.block_lt_of_cell? w _ hx')] at hx'
   clear hx
   go_wp2_with (fail)
   refine (Hp.out k hlt wr hbw).mono ?_
   rintro e w1 ⟨rfl,hb1⟩
   generalize hpk:p k=pk
   have Hpk:Hid (p k=pk):=hpk
   clear hpk
   have hbw1:=below_trans hbw hb1
   cases pk with
   | false =>
    go_wp2
    go_roundw
    case rel=>exact ⟨k+1,by omega,by go_num,fun j hj=>by
     by_cases e:j=k
     ·subst e;exact Hpk.out
     ·exact Htk.out j (by omega),hbw1⟩
    case measure=>simp [intOf];omega
   | true =>
    go_wp2
    go_ret
    have:r=k:=by
     rcases Hr.out with ⟨i,hi,h1,h2,rfl⟩ | ⟨_,h⟩
     ·rcases Nat.lt_trichotomy i k with h | h | h
      ·rw [Htk.out i h] at h1;cases h1
      ·rw [h]
      ·have:=h2 k h;rw [Hpk.out] at this;cases this
     ·have:=h k hlt;rw [Hpk.out] at this;cases this
    subst this
    exact ⟨rfl,hbw1⟩
  ·go_wp2
   go_ret
   have:r=-1:=by
    rcases Hr.out with ⟨i,hi,h1,h2,rfl⟩ | ⟨h,_⟩
    ·rw [Htk.out i (by omega)] at h1;cases h1
    ·exact h
   subst this
   exact ⟨rfl,hbw⟩
theorem indexFunc_zero (a:Option Addr) (cap:Nat) (fv:Value) (w:World) :
  Calls Tryz.prog 146 #[.slice a 0 cap,fv] w fun e w'=>e=.returned (.int .i64 (-1))∧Below w.heap.size w w':=by
 go_enter Tryz.func146,Tryz.ntmps146
 go_wp2
 refine wp_loop_rounds 1 ?_;rw [rounds_succ]
 go_wp2
 go_ret
 exact ⟨rfl,Below.refl _ _⟩
theorem indexFunc_any {v:Value}{zs:List Int}{w:World} (F:Nat) (caps:Array Value) (p:Int→Bool) (hv:IntSl w v zs) (hF:∀ args w,(callFunc F args).run Tryz.prog w=.ok (.enter F args) w)
  (hp:∀ i,i < zs.length→∀ w1,Below w.heap.size w w1→Calls Tryz.prog F (#[.int .i64 (zs.getD i 0)] ++ caps) w1 fun e w'=>e=.returned (.bool (p (zs.getD i 0)))∧Below w1.heap.size w1 w') :
  Calls Tryz.prog 146 #[v,.func (.func F) #[] caps] w fun e w'=>∃ r:Int,e=.returned (.int .i64 r)∧decide (0≤r)=zs.any p∧Below w.heap.size w w':=by
 obtain ⟨a,cap,rfl,hm,h,-⟩:=hv
 rcases h with rfl | ⟨b,off,rfl,hc⟩
 ·exact (indexFunc_zero a cap _ w).mono fun e w' ⟨he,hb⟩=>⟨-1,he,by simp,hb⟩
 ·by_cases hex:∃ i,i < zs.length∧p (zs.getD i 0)=true
  ·obtain ⟨i,hi,h1,h2⟩:∃ i,i < zs.length∧p (zs.getD i 0)=true∧∀ j,j < i→p (zs.getD j 0)=false:=by
    have:∀ m,(∃ i,i < m∧i < zs.length∧p (zs.getD i 0)=true)→∃ i,i < zs.length∧p (zs.getD i 0)=true∧∀ j,j < i→p (zs.getD j 0)=false:=by
     intro m
     induction m with
     | zero=>rintro ⟨i,h,_⟩;omega
     | succ m ih =>
      rintro ⟨i,h,hi,h1⟩
      by_cases hh:∃ i,i < m∧i < zs.length∧p (zs.getD i 0)=true
      ·exact ih hh
      ·refine ⟨i,hi,h1,fun j hj=>?_⟩
       cases e:p (zs.getD j 0) with
       | false=>rfl
       | true=>exact absurd ⟨j,by omega,by omega,e⟩ hh
    obtain ⟨i,hi,h1⟩:=hex
    exact this (i+1) ⟨i,by omega,hi,h1⟩
   refine (indexFunc_go _ b off cap F caps (fun i=>zs.getD i 0) (fun i=>p (zs.getD i 0)) w hm hF hc hp i (Or.inl ⟨i,hi,h1,h2,rfl⟩)).mono fun e w' ⟨he,hb⟩=>⟨i,he,?_,hb⟩
   have:zs.any p=true:=List.any_eq_true.2 ⟨zs.getD i 0,by simp [List.getD,hi],h1⟩
   rw [this];simp
  ·have hall:∀ i,i < zs.length→p (zs.getD i 0)=false:=fun i hi=>by
    cases e:p (zs.getD i 0) with
    | false=>rfl
    | true=>exact absurd ⟨i,hi,e⟩ hex
   refine (indexFunc_go _ b off cap F caps (fun i=>zs.getD i 0) (fun i=>p (zs.getD i 0)) w hm hF hc hp (-1) (Or.inr ⟨rfl,hall⟩)).mono fun e w' ⟨he,hb⟩=>⟨-1,he,?_,hb⟩
   have:zs.any p=false:=by
    rw [List.any_eq_false]
    intro x hx
    obtain ⟨i,hi,rfl⟩:=List.mem_iff_getElem.1 hx
    have:=hall i hi
    simpa [List.getD,hi] using this
   rw [this];rfl
theorem containsFunc_any {v:Value}{zs:List Int}{w:World} (F:Nat) (caps:Array Value) (p:Int→Bool) (hv:IntSl w v zs) (hF:∀ args w,(callFunc F args).run Tryz.prog w=.ok (.enter F args) w)
  (hp:∀ i,i < zs.length→∀ w1,Below w.heap.size w w1→Calls Tryz.prog F (#[.int .i64 (zs.getD i 0)] ++ caps) w1 fun e w'=>e=.returned (.bool (p (zs.getD i 0)))∧Below w1.heap.size w1 w') :
  Calls Tryz.prog 93 #[v,.func (.func F) #[] caps] w fun e w'=>e=.returned (.bool (zs.any p))∧Below w.heap.size w w':=by
 have H:=indexFunc_any F caps p hv hF hp
 have HH:Hid _:=H
 clear H hp hF hv
 go_enter Tryz.func93,Tryz.ntmps93
 go_wp2_with (fail)
 refine Calls.mono HH.out ?_
 rintro e w1 ⟨r,rfl,hr,hb1⟩
 have Hr:Hid _:=hr
 clear hr
 go_wp2
 go_ret
 exact ⟨by rw [← Hr.out];rfl,hb1⟩
theorem checkNone_any (x n:Int) (a:Addr) (w:World) (ha:w.cell? a=some (.int .i64 n)) :
  Calls Tryz.prog 92 #[.int .i64 x,.pointer (some a)] w fun e w'=>e=.returned (.bool (decide (x < 0) || decide (n≤x)))∧w'=w:=by
 by_cases h1:x < 0
 ·go_enter Tryz.func92,Tryz.ntmps92
  go_wp2
  go_ret
  exact ⟨by simp [h1],rfl⟩
 ·have h2:0≤x:=by omega
  clear h1
  go_enter Tryz.func92,Tryz.ntmps92
  go_wp2
  go_ret
  exact ⟨rfl,rfl⟩
def chk (hs ls:List Int) (n:Int):Int:=
 if n < 1 ∨ 8 < n then 3 else if 4000 < hs.length ∨ 4000 < ls.length then 2 else if ls.length=0 then 1
 else if (hs ++ ls).any (fun x=>decide (x < 0) || decide (n≤x)) then 5 else 0
theorem checkCalls {hv lv:Value}{hs ls:List Int}{w:World} (n:Int) (hh:IntSl w hv hs) (hl:IntSl w lv ls) (w1:World) (hb:Below w.heap.size w w1) (v:Value) (zs:List Int) (hv':(v=hv∧zs=hs) ∨ (v=lv∧zs=ls)) (a:Addr) (ha:w1.cell? a=some (.int .i64 n)) :
  Calls Tryz.prog 93 #[v,.func (.func 92) #[] #[.pointer (some a)]] w1 fun e w'=>e=.returned (.bool (zs.any fun x=>decide (x < 0) || decide (n≤x)))∧Below w1.heap.size w1 w':=by
 have hz:IntSl w v zs:=by
  rcases hv' with ⟨rfl,rfl⟩ | ⟨rfl,rfl⟩
  ·exact hh
  ·exact hl
 exact containsFunc_any 92 _ (fun x=>decide (x < 0) || decide (n≤x)) (hz.below hb) Tryz.call92 fun i _ w2 hw2 =>
  (checkNone_any (zs.getD i 0) n a w2 (by rw [hw2.cell (World.block_lt_of_cell? w1 _ ha)];exact ha)).mono fun e w' ⟨he,hw⟩=>⟨he,by rw [hw];exact Below.refl _ _⟩
theorem check_any {hv lv:Value}{hs ls:List Int}{w:World} (n:Int) (hh:IntSl w hv hs) (hl:IntSl w lv ls) :
  Calls Tryz.prog 50 #[.agg #[hv,lv],.int .i64 n] w fun e w'=>e=.returned (.int .i64 (chk hs ls n))∧Below w.heap.size w w':=by
 have Hc:Hid _:=checkCalls n hh hl
 obtain ⟨a0,c0,rfl,hm0,-,-⟩:=hh
 obtain ⟨a1,c1,rfl,hm1,-,-⟩:=hl
 have hmf:∀ (fn:Fn) (first cap:Array Value) (w:World),(Instr.makeFunc fn first cap).run Tryz.prog w=.ok (.func fn first cap) w:=fun _ _ _ _=>rfl
 unfold maxLen at hm0 hm1
 by_cases h1:n < 1 ∨ 8 < n
 ·have e:chk hs ls n=3:=by simp [chk,h1]
  rw [e]
  clear e
  rcases h1 with h1 | h1
  ·go_enter Tryz.func50,Tryz.ntmps50
   go_wp2
   go_ret
   exact ⟨rfl,(by repeat (first | exact Below.refl _ _ | assumption | refine below_drewN ?_ _ | refine Below.drew ?_ | refine Below.alloc ?_ (by simp <;> omega) _ | refine below_trans ?_ (by assumption)))⟩
  ·have h2:1≤n:=by omega
   go_enter Tryz.func50,Tryz.ntmps50
   go_wp2
   go_ret
   exact ⟨rfl,(by repeat (first | exact Below.refl _ _ | assumption | refine below_drewN ?_ _ | refine Below.drew ?_ | refine Below.alloc ?_ (by simp <;> omega) _ | refine below_trans ?_ (by assumption)))⟩
 have h2:1≤n:=by omega
 have h3:n≤8:=by omega
 by_cases h4:4000 < hs.length ∨ 4000 < ls.length
 ·have e:chk hs ls n=2:=by simp [chk,h1,h4]
  rw [e]
  clear e h1
  rcases h4 with h4 | h4
  ·go_enter Tryz.func50,Tryz.ntmps50
   go_wp2
   go_ret
   exact ⟨rfl,(by repeat (first | exact Below.refl _ _ | assumption | refine below_drewN ?_ _ | refine Below.drew ?_ | refine Below.alloc ?_ (by simp <;> omega) _ | refine below_trans ?_ (by assumption)))⟩
  ·by_cases h5:4000 < hs.length
   ·go_enter Tryz.func50,Tryz.ntmps50
    go_wp2
    go_ret
    exact ⟨rfl,(by repeat (first | exact Below.refl _ _ | assumption | refine below_drewN ?_ _ | refine Below.drew ?_ | refine Below.alloc ?_ (by simp <;> omega) _ | refine below_trans ?_ (by assumption)))⟩
   ·have h6:hs.length≤4000:=by omega
    clear h5
    go_enter Tryz.func50,Tryz.ntmps50
    go_wp2
    go_ret
    exact ⟨rfl,(by repeat (first | exact Below.refl _ _ | assumption | refine below_drewN ?_ _ | refine Below.drew ?_ | refine Below.alloc ?_ (by simp <;> omega) _ | refine below_trans ?_ (by assumption)))⟩
 have h5:hs.length≤4000:=by omega
 have h6:ls.length≤4000:=by omega
 by_cases h7:ls.length=0
 ·have e:chk hs ls n=1:=by unfold chk;rw [if_neg h1,if_neg h4,if_pos h7]
  rw [e]
  have h8:((ls.length:Int) == 0)=true:=by simpa using h7
  clear e h1 h4 h7
  go_enter Tryz.func50,Tryz.ntmps50
  go_wp2
  go_ret
  exact ⟨rfl,(by repeat (first | exact Below.refl _ _ | assumption | refine below_drewN ?_ _ | refine Below.drew ?_ | refine Below.alloc ?_ (by simp <;> omega) _ | refine below_trans ?_ (by assumption)))⟩
 have h8:((ls.length:Int) == 0)=false:=by rw [beq_eq_false_iff_ne];omega
 have e:chk hs ls n=if (hs ++ ls).any (fun x=>decide (x < 0) || decide (n≤x)) then 5 else 0:=by simp only [chk,h1,h4,h7,if_false]
 rw [e]
 clear e h1 h4 h7
 rw [List.any_append]
 generalize hg1:(hs.any fun x=>decide (x < 0) || decide (n≤x))=r1
 generalize hg2:(ls.any fun x=>decide (x < 0) || decide (n≤x))=r2
 have G1:Hid _:=hg1
 have G2:Hid _:=hg2
 clear hg1 hg2
 go_enter Tryz.func50,Tryz.ntmps50
 go_wp2_with (fail)
 refine Calls.mono (Hc.out _ ?_ _ hs (Or.inl ⟨rfl,rfl⟩) _ ?_) ?_
 ·exact (by repeat (first | exact Below.refl _ _ | assumption | refine below_drewN ?_ _ | refine Below.drew ?_ | refine Below.alloc ?_ (by simp <;> omega) _ | refine below_trans ?_ (by assumption)))
 ·simp
 rw [G1.out]
 rintro e w1 ⟨rfl,hb1⟩
 have hc1:w1.cell? ⟨w.heap.size,0,none⟩=some (.slice a0 hs.length c0):=by rw [hb1.cell (by simp <;> omega)];simp
 have hc2:w1.cell? ⟨w.heap.size,1,none⟩=some (.slice a1 ls.length c1):=by rw [hb1.cell (by simp <;> omega)];simp
 have hc3:w1.cell? ⟨w.heap.size+1,0,none⟩=some (.int .i64 n):=by rw [hb1.cell (by simp <;> omega)];simp
 have hw1:Below w.heap.size w w1:=by
  refine below_trans ?_ hb1
  exact (by repeat (first | exact Below.refl _ _ | assumption | refine below_drewN ?_ _ | refine Below.drew ?_ | refine Below.alloc ?_ (by simp <;> omega) _ | refine below_trans ?_ (by assumption)))
 cases r1 with
 | true =>
  go_wp2
  go_ret
  exact ⟨by simp,hw1⟩
 | false =>
  go_wp2_with (fail)
  refine Calls.mono (Hc.out _ ?_ _ ls (Or.inr ⟨rfl,rfl⟩) _ ?_) ?_
  ·exact hw1
  ·exact hc3
  rw [G2.out]
  rintro e w2 ⟨rfl,hb2⟩
  have hw2:=below_trans hw1 hb2
  cases r2 with
  | true =>
   go_wp2
   go_ret
   exact ⟨by simp,hw2⟩
  | false =>
   go_wp2
   go_ret
   exact ⟨by simp,hw2⟩
theorem add_none (b off i:Nat):(⟨b,off,none⟩:Addr).add i=⟨b,off+i,none⟩:=Go.WideShapes.add_plain b off i
theorem intInfo:Tryz.prog.info? 3=some Tryz.t3:=by kernel_rfl
theorem run_append_sl (w:World) (ty base:Nat) (v:Value) (n:Nat) (xs:List Value) (hown:w.ownsRow base 3 1 v n xs) (sv:Value) (zs:List Int) (hs:IntSl w sv zs)
  (h63:n+zs.length≤1000000) (hbase:base≤w.heap.size) :
  ∃ v' w',(Builtin.append_ #[22,22] ty #[v,sv]).run Tryz.prog w=.ok v' w'∧w'.ownsRow base 3 1 v' (n+zs.length) (xs ++ zs.map (.int .i64))∧w.grownBy w' v.ownBlock∧(v'.ownBlock=v.ownBlock ∨ v'.ownBlock=some w.heap.size):=by
 obtain ⟨a,cap,rfl,hm,hc,hn⟩:=hs
 cases a with
 | none =>
  have hz:zs=[]:=by
   rcases hc with h | ⟨b,off,h,_⟩
   ·exact h
   ·cases h
  have hc0:=hn.1 rfl
  subst hz hc0
  refine ⟨v,w,run_append_owned_none w base 22 ty 3 Tryz.t3 1 Tryz.underlying22 intInfo v n xs hown,by simpa using hown,⟨rfl,rfl,rfl,Nat.le_refl _,fun _ _ _=>rfl⟩,Or.inl rfl⟩
 | some a =>
  have hnews:∀ j u,(zs.map (Value.int .i64))[j]?=some u→w.cell? (a.add j)=some u:=by
   intro j u hu
   rcases hc with h | ⟨b,off,h,hcell⟩
   ·subst h;simp at hu
   ·cases h
    rw [add_none]
    rw [List.getElem?_map] at hu
    cases hj:zs[j]? with
    | none=>rw [hj] at hu;simp at hu
    | some z =>
     rw [hj] at hu
     have hlt:j < zs.length:=(List.getElem?_eq_some_iff.1 hj).1
     rw [hcell j hlt,List.getD,hj]
     simpa using hu
  obtain ⟨v',w',hr,h2,h3,_,h5⟩:=run_append_own_at (P:=Tryz.prog) w base 22 ty 3 Tryz.t3 (.int .i64 0) 1 8 Tryz.underlying22 intInfo (by kernel_rfl) (by kernel_rfl) (by kernel_rfl) (by kernel_rfl) (by decide) v n xs hown a zs.length cap (zs.map (.int .i64)) (by simp) hnews (by intro u hu;obtain ⟨z,_,rfl⟩:=List.mem_map.1 hu;rfl) (by unfold maxLen;omega) (by omega) hbase
  exact ⟨v',w',hr,h2,h3,h5⟩
theorem intSl_of_owns {w:World}{base:Nat}{v:Value}{zs:List Int}{n:Nat} (h:w.ownsRow base 3 1 v n (zs.map (.int .i64))):IntSl w v zs:=by
 have hl:zs.length=n:=by simpa using h.1
 rcases h.2 with ⟨rfl,h0⟩ | ⟨g,cap,cur,rfl,hb,hg,hnc,hcm,hcs,htake⟩
 ·have:zs=[]:=List.eq_nil_of_length_eq_zero (by omega)
  subst this
  exact ⟨none,0,rfl,by simp [maxLen],Or.inl rfl,fun _=>rfl,Nat.le_refl _⟩
 ·subst hl
  refine ⟨some ⟨g,0,none⟩,cap,rfl,by omega,Or.inr ⟨g,0,rfl,fun i hi=>?_⟩,(fun h=>by cases h),hnc⟩
  have:=h.cells (g:=g) rfl i (.int .i64 (zs.getD i 0)) (by simp [List.getD,hi])
  rwa [add_none] at this
theorem owns_empty {w:World}{base g:Nat} (h:w.heap[g]?=some (.cells #[] 3 (0,0))) (hb:base≤g):w.ownsRow base 3 1 (.slice (some ⟨g,0,none⟩) 0 0) 0 []:=
 ⟨rfl,.inr ⟨g,0,#[],rfl,hb,h,Nat.le_refl _,by simp [maxLen],rfl,rfl⟩⟩
theorem heap_two (w:World) (o1 o2:Obj):((w.alloc o1).alloc o2).drew.heap[w.heap.size+1]?=some o2:=by
 have:=heap_alloc_new (w.alloc o1) o2
 rw [World.size_alloc] at this
 exact this
theorem step_append_sl {ops:Array Oper}{o:Oper}{a:Act}{K:Act→World→Prop}{Q:Exit→Act→World→Prop}{E:Prop}{w:World} (hgd:o.guard=none) (s x:Operand)
  (ho:o.op=.call { callee:=.builtin .append,args:=#[s,x],argTypes:=#[22,22] })
  (base:Nat) (v:Value) (n:Nat) (xs:List Value) (hs:a.eval s=v) (hown:w.ownsRow base 3 1 v n xs) (sv:Value) (zs:List Int) (hx:a.eval x=sv) (hz:IntSl w sv zs)
  (h63:n+zs.length≤1000000) (hbase:base≤w.heap.size)
  (h:∀ v' w',w'.ownsRow base 3 1 v' (n+zs.length) (xs ++ zs.map (.int .i64))→Below base w w'→(∀ b o,b < base→w'.cell? ⟨b,o,none⟩=w.cell? ⟨b,o,none⟩)→base≤w'.heap.size→K (a.put o.dst v') w') :
  if Region.wanted o (yielded ops a.tmps)=true then Oper.wp Tryz.prog o a w K Q else E:=by
 have hw:Region.wanted o (yielded ops a.tmps)=true:=by simp [Region.wanted,hgd]
 rw [if_pos hw]
 obtain ⟨v',w',hr,h2,h3,_⟩:=run_append_sl w o.type base v n xs hown sv zs hz h63 hbase
 have hb:Below base w w':=(Below.refl _ _).grown h3 hbase fun k hk=>(hown.lt k hk).1
 unfold Oper.wp execOp
 simp only [ho,resolve,invoke,builtin,Sem.run_bind,Sem.run_pure,Result.andThen_ok,List.map_toArray,List.map_cons,List.map_nil,hs,hx,hr]
 exact h v' w' h2 hb (fun b o hlt=>hb.cell (p:=⟨b,o,none⟩) hlt) (Nat.le_trans hbase hb.size)
theorem checkLasso_many {w:World} (n:Int) (a0 a1:Option Addr) (c0 c1:Nat) (hs ls:List Int) (hh:IntSl w (.slice a0 hs.length c0) hs) (hl:IntSl w (.slice a1 ls.length c1) ls)
  (h2:1≤n) (h3:n≤8) (h5:hs.length≤4000) (h6:ls.length≤4000) (h8:((ls.length:Int) == 0)=false) (q:Int) (hr:q=if (hs ++ ls).any (fun x=>decide (x < 0) || decide (n≤x))=true then 5 else 0) :
  Calls Tryz.prog 39 #[.agg #[.slice a0 hs.length c0,.slice a1 ls.length c1],.int .i64 n] w fun e w'=>e=.returned (.int .i64 q)∧Below w.heap.size w w':=by
 have Hh:Hid (IntSl w (.slice a0 hs.length c0) hs):=hh
 have Hl:Hid (IntSl w (.slice a1 ls.length c1) ls):=hl
 have Hr:Hid _:=hr
 clear hh hl hr
 have hd:decide (1≤n∧n≤8)=true:=by simp [h2,h3]
 go_enter Tryz.func39,Tryz.ntmps39
 go_wp2_with (fail)
 refine (between_any n 1 8 _).mono ?_
 rintro e w' ⟨rfl,rfl⟩
 go_wp2_with (fail)
 go_region_held3 (fun w'=>w'.cell? ⟨w.heap.size,0,none⟩=some (.slice a0 hs.length c0)∧w'.cell? ⟨w.heap.size,1,none⟩=some (.slice a1 ls.length c1)) (go_keep) (first | (refine step_append_sl rfl (.tmp 24) (.tmp 26) rfl (w.heap.size+1) _ 0 [] rfl ?_ _ hs rfl ?_ ?_ ?_ ?_;exact owns_empty (heap_two _ _ _) (Nat.le_refl _);exact Hh.out.below (by repeat (first | exact Below.refl _ _ | assumption | refine below_drewN ?_ _ | refine Below.drew ?_ | refine Below.alloc ?_ (by simp <;> omega) _ | refine below_trans ?_ (by assumption)));simp;omega;simp;intro v1 w1 hown1 hb1 hc1 hs1) | (refine step_append_sl rfl (.tmp 27) (.tmp 29) rfl (w.heap.size+1) _ _ _ rfl hown1 _ ls rfl (Hl.out.below (Below.trans (by repeat (first | exact Below.refl _ _ | assumption | refine below_drewN ?_ _ | refine Below.drew ?_ | refine Below.alloc ?_ (by simp <;> omega) _ | refine below_trans ?_ (by assumption))) (hb1.mono (by simp)))) (by simp;omega) hs1 ?_;intro v2 w2 hown2 hb2 hc2 hs2))
 have hz:IntSl w2 v2 (hs ++ ls):=intSl_of_owns (n:=0+hs.length+ls.length) (base:=w.heap.size+1) (by simpa using hown2)
 have hbw:Below w.heap.size w w2:=Below.trans (Below.trans (by repeat (first | exact Below.refl _ _ | assumption | refine below_drewN ?_ _ | refine Below.drew ?_ | refine Below.alloc ?_ (by simp <;> omega) _ | refine below_trans ?_ (by assumption))) (hb1.mono (by simp))) (hb2.mono (by simp))
 have hne:hs ++ ls ≠ []:=by
  intro h
  have:ls=[]:=(List.append_eq_nil_iff.1 h).2
  subst this;simp at h8
 generalize hzs:hs ++ ls=zs at *
 obtain ⟨a,cap,rfl,hm,hz,-⟩:=hz
 rcases hz with hz | ⟨b,off,rfl,hcell⟩
 ·exact absurd hz hne
 have hlen:zs.length≤8000:=by rw [← hzs,List.length_append];omega
 clear hown1 hb1 hc1 hs1 hown2 hb2 hc2 hs2 hne hzs hm
 go_wp2_with (fail)
 go_loopw [6] (fun i wr=>∃ k:Nat,k≤zs.length∧i=.int .i64 k∧(∀ j,j < k→(decide (zs.getD j 0 < 0) || decide (n≤zs.getD j 0))=false)∧wr=w2) (fun i _=>zs.length - (intOf i).toNat)
 case atStart=>exact ⟨0,Nat.zero_le _,rfl,fun j hj=>by omega,rfl⟩
 case round =>
  obtain ⟨k,hk,rfl,htk,rfl⟩:=hrel
  have Htk:Hid (∀ j,j < k→(decide (zs.getD j 0 < 0) || decide (n≤zs.getD j 0))=false):=htk
  clear htk
  by_cases hlt:k < zs.length
  ·have hc:=hcell k hlt
   clear hcell
   generalize hx:zs.getD k 0=x at *
   have Hx:Hid (zs.getD k 0=x):=hx
   clear hx
   go_wp2_with (fail)
   refine (between_any x 0 (n - 1) _).mono ?_
   rintro e w' ⟨rfl,rfl⟩
   by_cases hok:0≤x∧x≤n - 1
   ·rw [decide_eq_true hok]
    have Hok:Hid (0≤x∧x≤n - 1):=hok
    clear hok
    go_wp2
    go_roundw
    case rel=>exact ⟨k+1,by omega,by go_num,fun j hj=>by
     by_cases e:j=k
     ·subst e;rw [Hx.out];have:=Hok.out;simp;omega
     ·exact Htk.out j (by omega),by first | rfl | trivial⟩
    case measure=>simp [intOf];omega
   ·rw [decide_eq_false hok]
    have Hok:Hid (¬ (0≤x∧x≤n - 1)):=hok
    clear hok
    go_wp2
    go_ret
    have:q=5:=by
     rw [Hr.out,if_pos]
     rw [List.any_eq_true]
     refine ⟨x,?_,?_⟩
     ·rw [← Hx.out];simp [List.getD,hlt]
     ·have:=Hok.out;simp;omega
    subst this
    exact ⟨rfl,hbw⟩
  ·go_wp2
   go_ret
   have:q=0:=by
    rw [Hr.out,if_neg]
    rw [Bool.not_eq_true,List.any_eq_false]
    intro x hx
    obtain ⟨i,hi,rfl⟩:=List.mem_iff_getElem.1 hx
    have:=Htk.out i (by omega)
    rw [show zs.getD i 0=zs[i] by simp [List.getD,hi]] at this
    rw [this];simp
   subst this
   exact ⟨rfl,hbw⟩
theorem checkLasso_any {hv lv:Value}{hs ls:List Int}{w:World} (n:Int) (hh:IntSl w hv hs) (hl:IntSl w lv ls) :
  Calls Tryz.prog 39 #[.agg #[hv,lv],.int .i64 n] w fun e w'=>e=.returned (.int .i64 (chk hs ls n))∧Below w.heap.size w w':=by
 have Hh:Hid _:=hh
 have Hl:Hid _:=hl
 obtain ⟨a0,c0,rfl,hm0,-,-⟩:=hh
 obtain ⟨a1,c1,rfl,hm1,-,-⟩:=hl
 unfold maxLen at hm0 hm1
 by_cases h1:n < 1 ∨ 8 < n
 ·have e:chk hs ls n=3:=by simp [chk,h1]
  rw [e]
  have hd:decide (1≤n∧n≤8)=false:=by simp;omega
  clear e h1
  go_enter Tryz.func39,Tryz.ntmps39
  go_wp2_with (fail)
  refine (between_any n 1 8 _).mono ?_
  rintro e w' ⟨rfl,rfl⟩
  rw [hd]
  go_wp2
  go_ret
  exact ⟨rfl,(by repeat (first | exact Below.refl _ _ | assumption | refine below_drewN ?_ _ | refine Below.drew ?_ | refine Below.alloc ?_ (by simp <;> omega) _ | refine below_trans ?_ (by assumption)))⟩
 have h2:1≤n:=by omega
 have h3:n≤8:=by omega
 have hd:decide (1≤n∧n≤8)=true:=by simp [h2,h3]
 by_cases h4:4000 < hs.length ∨ 4000 < ls.length
 ·have e:chk hs ls n=2:=by simp [chk,h1,h4]
  rw [e]
  clear e h1
  by_cases h5:4000 < hs.length
  ·clear h4
   go_enter Tryz.func39,Tryz.ntmps39
   go_wp2_with (fail)
   refine (between_any n 1 8 _).mono ?_
   rintro e w' ⟨rfl,rfl⟩
   rw [hd]
   go_wp2
   go_ret
   exact ⟨rfl,(by repeat (first | exact Below.refl _ _ | assumption | refine below_drewN ?_ _ | refine Below.drew ?_ | refine Below.alloc ?_ (by simp <;> omega) _ | refine below_trans ?_ (by assumption)))⟩
  ·have h6:hs.length≤4000:=by omega
   have h7:4000 < ls.length:=by omega
   clear h5 h4
   go_enter Tryz.func39,Tryz.ntmps39
   go_wp2_with (fail)
   refine (between_any n 1 8 _).mono ?_
   rintro e w' ⟨rfl,rfl⟩
   rw [hd]
   go_wp2
   go_ret
   exact ⟨rfl,(by repeat (first | exact Below.refl _ _ | assumption | refine below_drewN ?_ _ | refine Below.drew ?_ | refine Below.alloc ?_ (by simp <;> omega) _ | refine below_trans ?_ (by assumption)))⟩
 have h5:hs.length≤4000:=by omega
 have h6:ls.length≤4000:=by omega
 by_cases h7:ls.length=0
 ·have e:chk hs ls n=1:=by unfold chk;rw [if_neg h1,if_neg h4,if_pos h7]
  rw [e]
  have h8:((ls.length:Int) == 0)=true:=by simpa using h7
  clear e h1 h4 h7
  go_enter Tryz.func39,Tryz.ntmps39
  go_wp2_with (fail)
  refine (between_any n 1 8 _).mono ?_
  rintro e w' ⟨rfl,rfl⟩
  rw [hd]
  go_wp2
  go_ret
  exact ⟨rfl,(by repeat (first | exact Below.refl _ _ | assumption | refine below_drewN ?_ _ | refine Below.drew ?_ | refine Below.alloc ?_ (by simp <;> omega) _ | refine below_trans ?_ (by assumption)))⟩
 have e:chk hs ls n=if (hs ++ ls).any (fun x=>decide (x < 0) || decide (n≤x)) then 5 else 0:=by simp only [chk,h1,h4,h7,if_false]
 rw [e]
 exact checkLasso_many n a0 a1 c0 c1 hs ls Hh.out Hl.out h2 h3 h5 h6 (by rw [beq_eq_false_iff_ne];omega) _ rfl
end Go.Proofs.YtpiacnnifdjlkabGreatDoor
namespace Go.Proofs.YtpiacnnifdjlkabGreatDoor
open Go.RowKit Go.Sort
theorem grown_of_below {w w':World} (h:Below w.heap.size w w'):w.grownBy w' none:=⟨h.os,h.tape,h.output,h.size,fun k hk _=>h.block k hk⟩
theorem owns_below {w w':World}{base:Nat}{e:TypeId}{size:Nat}{v:Value}{n:Nat}{xs:List Value} (h:w.ownsRow base e size v n xs) (hb:Below w.heap.size w w'):w'.ownsRow base e size v n xs:=
 h.kept (grown_of_below hb) (by cases hv:v.ownBlock <;> simp)
theorem owns_form {w:World}{base:Nat}{e:TypeId}{size:Nat}{v:Value}{n:Nat}{xs:List Value} (h:w.ownsRow base e size v n xs):∃ a cap,v=.slice a n cap:=by
 rcases h.2 with ⟨rfl,rfl⟩ | ⟨g,cap,cur,rfl,_⟩
 ·exact ⟨none,0,rfl⟩
 ·exact ⟨_,_,rfl⟩
def BoolSl (w:World) (v:Value) (zs:List Bool):Prop:=
 ∃ a cap,v=.slice a zs.length cap∧zs.length≤maxLen∧(zs=[] ∨ ∃ b off,a=some ⟨b,off,none⟩∧∀ i,i < zs.length→w.cell? ⟨b,off+i,none⟩=some (.bool (zs.getD i false)))∧(a=none→cap=0)∧zs.length≤cap
theorem BoolSl.below {w w':World}{v:Value}{zs:List Bool} (h:BoolSl w v zs) (hb:Below w.heap.size w w'):BoolSl w' v zs:=by
 obtain ⟨a,cap,rfl,hm,h,hn⟩:=h
 refine ⟨a,cap,rfl,hm,?_,hn⟩
 rcases h with h | ⟨b,off,rfl,hc⟩
 ·exact Or.inl h
 ·refine Or.inr ⟨b,off,rfl,fun i hi=>?_⟩
  have:=hc i hi
  rw [hb.cell (World.block_lt_of_cell? w _ this)];exact this
structure Stp where
 f:Int
 l:Int
 t:Int
def stp0:Stp:=⟨0,0,0⟩
def StepSl (w:World) (v:Value) (zs:List Stp):Prop:=
 ∃ a cap,v=.slice a zs.length cap∧zs.length≤maxLen∧(zs=[] ∨ ∃ b off,a=some ⟨b,off,none⟩∧∀ i,i < zs.length→w.cell? ⟨b,off+i * 3,none⟩=some (.int .i64 (zs.getD i stp0).f)∧w.cell? ⟨b,off+i * 3+1,none⟩=some (.int .i64 (zs.getD i stp0).l)∧w.cell? ⟨b,off+i * 3+2,none⟩=some (.int .i64 (zs.getD i stp0).t))∧(a=none→cap=0)∧zs.length≤cap
theorem StepSl.below {w w':World}{v:Value}{zs:List Stp} (h:StepSl w v zs) (hb:Below w.heap.size w w'):StepSl w' v zs:=by
 obtain ⟨a,cap,rfl,hm,h,hn⟩:=h
 refine ⟨a,cap,rfl,hm,?_,hn⟩
 rcases h with h | ⟨b,off,rfl,hc⟩
 ·exact Or.inl h
 ·refine Or.inr ⟨b,off,rfl,fun i hi=>?_⟩
  obtain ⟨h1,h2,h3⟩:=hc i hi
  refine ⟨?_,?_,?_⟩
  ·rw [hb.cell (World.block_lt_of_cell? w _ h1)];exact h1
  ·rw [hb.cell (World.block_lt_of_cell? w _ h2)];exact h2
  ·rw [hb.cell (World.block_lt_of_cell? w _ h3)];exact h3
structure Aut where
 n:Int
 m:Int
 first:List Int
 good:List Bool
 steps:List Stp
def AutV (w:World) (v:Value) (A:Aut):Prop:=
 ∃ fv gv sv,v=.agg #[.int .i64 A.n,.int .i64 A.m,fv,gv,sv]∧IntSl w fv A.first∧BoolSl w gv A.good∧StepSl w sv A.steps
theorem AutV.below {w w':World}{v:Value}{A:Aut} (h:AutV w v A) (hb:Below w.heap.size w w'):AutV w' v A:=by
 obtain ⟨fv,gv,sv,rfl,h1,h2,h3⟩:=h
 exact ⟨fv,gv,sv,rfl,h1.below hb,h2.below hb,h3.below hb⟩
def cmpI (a b:Int):Int:=if a < b then -1 else if b < a then 1 else 0
theorem compare_any (a b:Int) (w:World) :
  Calls Tryz.prog 153 #[.int .i64 a,.int .i64 b] w fun e w'=>e=.returned (.int .i64 (cmpI a b))∧w'=w:=by
 have ha:(a != a)=false:=by simp
 have hb:(b != b)=false:=by simp
 by_cases h1:a < b
 ·rw [show cmpI a b=-1 by simp [cmpI,h1]]
  go_enter Tryz.func153,Tryz.ntmps153
  go_wp2
  go_ret
  exact ⟨rfl,rfl⟩
 ·by_cases h2:b < a
  ·rw [show cmpI a b=1 by simp [cmpI,h1,h2]]
   clear h1
   go_enter Tryz.func153,Tryz.ntmps153
   go_wp2
   go_ret
   exact ⟨rfl,rfl⟩
  ·rw [show cmpI a b=0 by simp [cmpI,h1,h2]]
   have h3:a≤b:=by omega
   have h4:b≤a:=by omega
   clear h1 h2
   go_enter Tryz.func153,Tryz.ntmps153
   go_wp2
   go_ret
   exact ⟨rfl,rfl⟩
def orI (x y z:Int):Int:=if x ≠ 0 then x else if y ≠ 0 then y else z
theorem or_any (g:Nat) (x y z:Int) (w:World) (h0:w.cell? ⟨g,0,none⟩=some (.int .i64 x)) (h1:w.cell? ⟨g,1,none⟩=some (.int .i64 y)) (h2:w.cell? ⟨g,2,none⟩=some (.int .i64 z)) :
  Calls Tryz.prog 159 #[.slice (some ⟨g,0,none⟩) 3 3] w fun e w'=>e=.returned (.int .i64 (orI x y z))∧w'=w:=by
 by_cases hx:x=0
 ·have bx:(x != 0)=false:=by simp [hx]
  by_cases hy:y=0
  ·have bY:(y != 0)=false:=by simp [hy]
   by_cases hz:z=0
   ·have bz:(z != 0)=false:=by simp [hz]
    have e:orI x y z=0:=by simp [orI,hx,hy,hz]
    rw [e]
    clear hx hy hz e
    go_enter Tryz.func159,Tryz.ntmps159
    go_wp2
    refine wp_loop_rounds 4 ?_
    repeat (rw [rounds_succ];go_wp2)
    go_ret
    exact ⟨rfl,rfl⟩
   ·have bz:(z != 0)=true:=by simp [hz]
    have e:orI x y z=z:=by simp [orI,hx,hy]
    rw [e]
    clear hx hy hz e
    go_enter Tryz.func159,Tryz.ntmps159
    go_wp2
    refine wp_loop_rounds 4 ?_
    repeat (rw [rounds_succ];go_wp2)
    go_ret
    exact ⟨rfl,rfl⟩
  ·have bY:(y != 0)=true:=by simp [hy]
   have e:orI x y z=y:=by simp [orI,hx,hy]
   rw [e]
   clear hx hy e
   go_enter Tryz.func159,Tryz.ntmps159
   go_wp2
   refine wp_loop_rounds 4 ?_
   repeat (rw [rounds_succ];go_wp2)
   go_ret
   exact ⟨rfl,rfl⟩
 ·have bx:(x != 0)=true:=by simp [hx]
  have e:orI x y z=x:=by simp [orI,hx]
  rw [e]
  clear hx e
  go_enter Tryz.func159,Tryz.ntmps159
  go_wp2
  refine wp_loop_rounds 4 ?_
  repeat (rw [rounds_succ];go_wp2)
  go_ret
  exact ⟨rfl,rfl⟩
theorem cell_three (w:World) (a b:Obj) (c:Array Value) (t:TypeId) (i:Nat):(((w.alloc a).alloc b).alloc (.cells c t)).drew.cell? ⟨w.heap.size+1+1,i,none⟩=c[i]?:=by
 have:=World.cell?_alloc_new ((w.alloc a).alloc b) c t i
 rw [World.size_alloc,World.size_alloc] at this
 exact this
def ordS (a b:Stp):Int:=orI (cmpI a.f b.f) (cmpI a.l b.l) (cmpI a.t b.t)
def outB (n x:Int):Bool:=!(decide (0≤x∧x < n))
def fallsB (fs:List Int):Bool:=(List.range (fs.length - 1)).any fun i=>decide (fs.getD (i+1) 0≤fs.getD i 0)
def chkFirst (n:Int) (fs:List Int):Int:=if fs.any (outB n) then 5 else if fallsB fs then 4 else 0
def badS (n m:Int) (s:Stp):Bool:=outB n s.f || outB n s.t || outB m s.l
def chkStepsFrom (n m:Int):Option Stp→List Stp→Int
 | _,[]=>0
 | p,s :: r=>if badS n m s then 5 else match p with
  | none=>chkStepsFrom n m (some s) r
  | some q=>if decide (0≤ordS q s) then 4 else chkStepsFrom n m (some s) r
def chkA (A:Aut):Int:=
 if A.n < 1 ∨ 300 < A.n ∨ A.m < 1 ∨ 8 < A.m then 3 else if (A.good.length:Int) ≠ A.n then 1 else if 6000 < A.steps.length then 2
 else if chkFirst A.n A.first ≠ 0 then chkFirst A.n A.first else chkStepsFrom A.n A.m none A.steps
end Go.Proofs.YtpiacnnifdjlkabGreatDoor
namespace Go.Proofs.YtpiacnnifdjlkabGreatDoor
abbrev Spot:=Nat × Nat
def goN (E:Spot→Spot→Prop):Nat→Spot→Spot→Prop
 | 0,x,y=>x=y
 | n+1,x,y=>∃ z,E x z∧goN E n z y
def Leads (E:Spot→Spot→Prop) (x y:Spot):Prop:=∃ n,goN E n x y
def LeadsOn (E:Spot→Spot→Prop) (x y:Spot):Prop:=∃ n,goN E (n+1) x y
section
variable {E:Spot→Spot→Prop}
end
end Go.Proofs.YtpiacnnifdjlkabGreatDoor
namespace Go.Proofs.YtpiacnnifdjlkabGreatDoor
open Go.RowKit Go.Sort
theorem indexFunc_st (n b off cap F:Nat) (caps:Array Value) (f:Nat→Int) (w:World) (Inv:Nat→World→Prop) (T:World→Prop) (hm:n≤maxLen) (hF:∀ args w,(callFunc F args).run Tryz.prog w=.ok (.enter F args) w)
  (h0:Inv 0 w) (hx:∀ k w1,Inv k w1→∀ i,i < n→w1.cell? ⟨b,off+i,none⟩=some (.int .i64 (f i)))
  (hp:∀ i,i < n→∀ w1,Inv i w1→Calls Tryz.prog F (#[.int .i64 (f i)] ++ caps) w1 fun e w'=>∃ b,e=.returned (.bool b)∧(b=true→T w')∧(b=false→Inv (i+1) w')) :
  Calls Tryz.prog 146 #[.slice (some ⟨b,off,none⟩) n cap,.func (.func F) #[] caps] w fun e w'=>∃ r:Int,e=.returned (.int .i64 r)∧(0≤r→T w')∧(r < 0→Inv n w'):=by
 unfold maxLen at hm
 have Hp:=hide hp
 have Hx:=hide hx
 have H0:=hide h0
 clear hp hx h0
 go_enter Tryz.func146,Tryz.ntmps146
 go_wp2
 go_loopw [8] (fun i wr=>∃ k:Nat,k≤n∧i=.int .i64 k∧Inv k wr) (fun i _=>n - (intOf i).toNat)
 case atStart=>exact ⟨0,Nat.zero_le _,rfl,H0.out⟩
 case round =>
  obtain ⟨k,hk,rfl,hinv⟩:=hrel
  have Hinv:=hide hinv
  clear hinv
  by_cases hlt:k < n
  ·have hx':=Hx.out k wr Hinv.out k hlt
   go_wp2_with (fail)
   refine (Hp.out k hlt wr Hinv.out).mono ?_
   rintro e w1 ⟨pk,rfl,h1,h2⟩
   have H1:=hide h1
   have H2:=hide h2
   clear h1 h2
   cases pk with
   | false =>
    go_wp2
    go_roundw
    case rel=>exact ⟨k+1,by omega,by go_num,by first | exact H2.out rfl | exact H2.out trivial⟩
    case measure=>simp [intOf];omega
   | true =>
    go_wp2
    go_ret
    exact ⟨k,rfl,(fun _=>by first | exact H1.out rfl | exact H1.out trivial),fun h=>by omega⟩
  ·go_wp2
   go_ret
   have:k=n:=by omega
   subst this
   exact ⟨-1,rfl,(fun h=>by omega),fun _=>Hinv.out⟩
theorem indexFunc_zero2 (a:Option Addr) (cap:Nat) (fv:Value) (w:World) :
  Calls Tryz.prog 146 #[.slice a 0 cap,fv] w fun e w'=>e=.returned (.int .i64 (-1))∧w'=w:=by
 go_enter Tryz.func146,Tryz.ntmps146
 go_wp2
 refine wp_loop_rounds 1 ?_;rw [rounds_succ]
 go_wp2
 go_ret
 exact ⟨rfl,rfl⟩
theorem containsFunc_st {v:Value}{zs:List Int}{w:World} (F:Nat) (caps:Array Value) (Inv:Nat→World→Prop) (T:World→Prop) (hF:∀ args w,(callFunc F args).run Tryz.prog w=.ok (.enter F args) w)
  (h0:Inv 0 w) (hv:∀ k w1,Inv k w1→IntSl w1 v zs)
  (hp:∀ i,i < zs.length→∀ w1,Inv i w1→Calls Tryz.prog F (#[.int .i64 (zs.getD i 0)] ++ caps) w1 fun e w'=>∃ b,e=.returned (.bool b)∧(b=true→T w')∧(b=false→Inv (i+1) w')) :
  Calls Tryz.prog 93 #[v,.func (.func F) #[] caps] w fun e w'=>∃ b,e=.returned (.bool b)∧(b=true→T w')∧(b=false→Inv zs.length w'):=by
 have H:Calls Tryz.prog 146 #[v,.func (.func F) #[] caps] w fun e w'=>∃ r:Int,e=.returned (.int .i64 r)∧(0≤r→T w')∧(r < 0→Inv zs.length w'):=by
  obtain ⟨a,cap,rfl,hm,h,hn,hn2⟩:=hv 0 w h0
  rcases h with rfl | ⟨b,off,rfl,hc⟩
  ·refine (indexFunc_zero2 a cap _ w).mono ?_
   rintro e w' ⟨rfl,rfl⟩
   exact ⟨-1,rfl,(fun h=>by omega),fun _=>h0⟩
  ·refine indexFunc_st zs.length b off cap F caps (fun i=>zs.getD i 0) w Inv T hm hF h0 (fun k w1 hi i hlt=>?_) hp
   obtain ⟨a',cap',he,hm',h',_⟩:=hv k w1 hi
   rcases h' with rfl | ⟨b',off',rfl,hc'⟩
   ·simp at hlt
   ·cases he;exact hc' i hlt
 have HH:=hide H
 clear H hp hF hv h0
 go_enter Tryz.func93,Tryz.ntmps93
 go_wp2_with (fail)
 refine Calls.mono HH.out ?_
 rintro e w1 ⟨r,rfl,h1,h2⟩
 have H1:=hide h1
 have H2:=hide h2
 clear h1 h2
 go_wp2
 go_ret
 refine ⟨decide (0≤r),rfl,fun h=>H1.out (by simpa using h),fun h=>H2.out (by simpa using h)⟩
theorem five_alloc (w:World) (a b c d e:Obj):(((((w.alloc a).alloc b).alloc c).alloc d).alloc e).heap[w.heap.size]?=some a∧(((((w.alloc a).alloc b).alloc c).alloc d).alloc e).heap[w.heap.size+1]?=some b∧(((((w.alloc a).alloc b).alloc c).alloc d).alloc e).heap[w.heap.size+1+1]?=some c ∧
  (((((w.alloc a).alloc b).alloc c).alloc d).alloc e).heap[w.heap.size+1+1+1]?=some d∧(((((w.alloc a).alloc b).alloc c).alloc d).alloc e).heap[w.heap.size+1+1+1+1]?=some e:=by
 refine ⟨?_,?_,?_,?_,?_⟩
 ·rw [heap_alloc_old _ _ (by simp;omega),heap_alloc_old _ _ (by simp;omega),heap_alloc_old _ _ (by simp;omega),heap_alloc_old _ _ (by simp)]
  exact heap_alloc_new w a
 ·rw [heap_alloc_old _ _ (by simp),heap_alloc_old _ _ (by simp),heap_alloc_old _ _ (by simp)]
  have:=heap_alloc_new (w.alloc a) b
  rwa [World.size_alloc] at this
 ·rw [heap_alloc_old _ _ (by simp),heap_alloc_old _ _ (by simp)]
  have:=heap_alloc_new ((w.alloc a).alloc b) c
  rwa [World.size_alloc,World.size_alloc] at this
 ·rw [heap_alloc_old _ _ (by simp)]
  have:=heap_alloc_new (((w.alloc a).alloc b).alloc c) d
  rwa [World.size_alloc,World.size_alloc,World.size_alloc] at this
 ·have:=heap_alloc_new ((((w.alloc a).alloc b).alloc c).alloc d) e
  rwa [World.size_alloc,World.size_alloc,World.size_alloc,World.size_alloc] at this
end Go.Proofs.YtpiacnnifdjlkabGreatDoor
