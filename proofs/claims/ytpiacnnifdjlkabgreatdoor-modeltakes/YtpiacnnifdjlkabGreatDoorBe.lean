import Derived.Test.YtpiacnnifdjlkabGreatDoorRows
import Derived.WalkKit
import Derived.WalkSpells
import Derived.WalkLawsBesides
import Derived.BigQuiet
import Derived.Deep.QuietTactic
import Derived.Lib.QuietBelow
import Derived.Deep.RegionHeld3
import Derived.Deep.AppendLies
set_option maxRecDepth 100000
set_option maxHeartbeats 8000000
namespace Go.Proofs.YtpiacnnifdjlkabGreatDoor
open Go.RowKit
theorem hide {p:Prop} (h:p):Hid p:=h
def IntSl (w:World) (v:Value) (zs:List Int):Prop:=
 ∃ a cap,v=.slice a zs.length cap∧zs.length≤maxLen∧(zs=[] ∨ ∃ b off,a=some ⟨b,off,none⟩∧∀ i,i < zs.length→w.cell? ⟨b,off+i,none⟩=some (.int .i64 (zs.getD i 0)))∧(a=none→cap=0)∧zs.length≤cap
theorem IntSl.below {w w':World}{v:Value}{zs:List Int} (h:IntSl w v zs) (hb:Below w.heap.size w w'):IntSl w' v zs:=by
 obtain ⟨a,cap,rfl,hm,h,hn⟩:=h
 refine ⟨a,cap,rfl,hm,?_,hn⟩
 rcases h with h | ⟨b,off,rfl,hc⟩
 ·exact Or.inl h
 ·refine Or.inr ⟨b,off,rfl,fun i hi=>?_⟩
  have:=hc i hi
  rw [hb.cell (World.block_lt_of_cell? w _ this)];exact this
theorem IntSl.setCell {w:World}{v:Value}{zs:List Int} (h:IntSl w v zs) {a:Addr} (hne:∀ k,v.ownBlock=some k→k ≠ a.block) (u:Value):IntSl (w.setCell a u) v zs:=by
 obtain ⟨b,cap,rfl,hm,h,hn⟩:=h
 refine ⟨b,cap,rfl,hm,?_,hn⟩
 rcases h with h | ⟨b,off,rfl,hc⟩
 ·exact Or.inl h
 ·refine Or.inr ⟨b,off,rfl,fun i hi=>?_⟩
  rw [World.cell?_setCell_other _ _ _ _ (fun e=>hne b rfl (by rw [e]))]
  exact hc i hi
theorem below_trans {w w1 w2:World} (h:Below w.heap.size w w1) (k:Below w1.heap.size w1 w2):Below w.heap.size w w2:=
 h.trans (k.mono h.size)
theorem below_new (w:World) (o:Obj):Below w.heap.size w (w.alloc o):=(Below.refl _ _).alloc (Nat.le_refl _) o
def lat (hs ls:List Int) (i:Nat):Int:=if i < hs.length then hs.getD i 0 else ls.getD ((i - hs.length) % ls.length) 0
theorem letterAt_head (b off n cap:Nat) (v1:Value) (i:Nat) (x:Int) (w:World) (hi:i < n) (_hn:n≤maxLen)
  (hx:w.cell? ⟨b,off+i,none⟩=some (.int .i64 x)) (hb:b < w.heap.size) :
  Calls Tryz.prog 65 #[.agg #[.slice (some ⟨b,off,none⟩) n cap,v1],.int .i64 i] w fun e w'=>e=.returned (.int .i64 x)∧Below w.heap.size w w':=by
 unfold maxLen at _hn
 go_enter Tryz.func65,Tryz.ntmps65
 go_wp2
 go_ret
 exact ⟨rfl,(Below.refl _ _).alloc (Nat.le_refl _) _⟩
theorem letterAt_loop (b off n cap h0 c0:Nat) (a0:Option Addr) (i:Nat) (x:Int) (w:World) (hi:h0≤i) (hn:n≤maxLen) (hh:h0≤maxLen) (hni:(i:Int)≤9223372036854775807) (hnn:0 < n)
  (hx:w.cell? ⟨b,off+(i - h0) % n,none⟩=some (.int .i64 x)) (hb:b < w.heap.size) :
  Calls Tryz.prog 65 #[.agg #[.slice a0 h0 c0,.slice (some ⟨b,off,none⟩) n cap],.int .i64 i] w fun e w'=>e=.returned (.int .i64 x)∧Below w.heap.size w w':=by
 unfold maxLen at hn hh
 have hn0:((n:Int) == 0)=false:=by rw [beq_eq_false_iff_ne];omega
 have hn1:¬ (n:Int)=0:=by omega
 have he:((i:Int) - h0) % n=((i - h0) % n:Nat):=by rw [← Int.ofNat_sub hi];rfl
 have hq1:0≤((i:Int) - h0) % n:=by rw [he];omega
 have hq2:((i:Int) - h0) % n < n:=by rw [he];have:=Nat.mod_lt (i - h0) hnn;omega
 clear he
 go_enter Tryz.func65,Tryz.ntmps65
 go_wp2
 refine wp_region_quiet_lit (by kernel_rfl) (by kernel_rfl) ?_
 repeat (go_big_quiet_step (fail))
 refine wpQuiet_nil ?_
 intro _ hw';obtain ⟨nq,hw''⟩:=hw';subst hw''
 go_wp2
 go_ret
 exact ⟨rfl,below_drewN ((Below.refl _ _).alloc (Nat.le_refl _) _) _⟩
theorem letterAt_any {hv lv:Value}{hs ls:List Int}{w:World} (hh:IntSl w hv hs) (hl:IntSl w lv ls) (i:Int) (h0:0≤i) (hi:i≤9223372036854775807) (hne:ls ≠ []) :
  Calls Tryz.prog 65 #[.agg #[hv,lv],.int .i64 i] w fun e w'=>e=.returned (.int .i64 (lat hs ls i.toNat))∧Below w.heap.size w w':=by
 obtain ⟨k,rfl⟩:=Int.eq_ofNat_of_zero_le h0
 obtain ⟨a0,c0,rfl,hm0,hh,-⟩:=hh
 obtain ⟨a1,c1,rfl,hm1,hl,-⟩:=hl
 have hpos:0 < ls.length:=List.length_pos_iff.2 hne
 unfold lat
 rw [Int.toNat_natCast]
 by_cases hk:k < hs.length
 ·rw [if_pos hk]
  rcases hh with hh | ⟨b,off,rfl,hc⟩
  ·subst hh;simp at hk
  ·have:=hc k hk
   exact letterAt_head b off _ _ _ k _ w hk hm0 this (World.block_lt_of_cell? w _ this)
 ·rw [if_neg hk]
  rcases hl with hl | ⟨b,off,rfl,hc⟩
  ·exact absurd hl hne
  ·have:=hc _ (Nat.mod_lt (k - hs.length) hpos)
   exact letterAt_loop b off _ _ _ _ _ k _ w (by omega) hm1 hm0 hi hpos this (World.block_lt_of_cell? w _ this)
theorem letterAtR_head (b off n cap:Nat) (v1:Value) (i:Nat) (x:Int) (w:World) (hi:i < n) (_hn:n≤maxLen)
  (hx:w.cell? ⟨b,off+i,none⟩=some (.int .i64 x)) (hb:b < w.heap.size) :
  Calls Tryz.prog 81 #[.agg #[.slice (some ⟨b,off,none⟩) n cap,v1],.int .i64 i] w fun e w'=>e=.returned (.int .i64 x)∧Below w.heap.size w w':=by
 unfold maxLen at _hn
 go_enter Tryz.func81,Tryz.ntmps81
 go_wp2
 go_ret
 exact ⟨rfl,(Below.refl _ _).alloc (Nat.le_refl _) _⟩
theorem letterAtR_loop (b off n cap h0 c0:Nat) (a0:Option Addr) (i:Nat) (x:Int) (w:World) (hi:h0≤i) (hn:n≤maxLen) (hh:h0≤maxLen) (hni:(i:Int)≤9223372036854775807) (hnn:0 < n)
  (hx:w.cell? ⟨b,off+(i - h0) % n,none⟩=some (.int .i64 x)) (hb:b < w.heap.size) :
  Calls Tryz.prog 81 #[.agg #[.slice a0 h0 c0,.slice (some ⟨b,off,none⟩) n cap],.int .i64 i] w fun e w'=>e=.returned (.int .i64 x)∧Below w.heap.size w w':=by
 unfold maxLen at hn hh
 have hn0:((n:Int) == 0)=false:=by rw [beq_eq_false_iff_ne];omega
 have hn1:¬ (n:Int)=0:=by omega
 have he:((i:Int) - h0) % n=((i - h0) % n:Nat):=by rw [← Int.ofNat_sub hi];rfl
 have hq1:0≤((i:Int) - h0) % n:=by rw [he];omega
 have hq2:((i:Int) - h0) % n < n:=by rw [he];have:=Nat.mod_lt (i - h0) hnn;omega
 clear he
 go_enter Tryz.func81,Tryz.ntmps81
 go_wp2
 refine wp_region_quiet_lit (by kernel_rfl) (by kernel_rfl) ?_
 repeat (go_big_quiet_step (fail))
 refine wpQuiet_nil ?_
 intro _ hw';obtain ⟨nq,hw''⟩:=hw';subst hw''
 go_wp2
 go_ret
 exact ⟨rfl,below_drewN ((Below.refl _ _).alloc (Nat.le_refl _) _) _⟩
theorem letterAtR_any {hv lv:Value}{hs ls:List Int}{w:World} (hh:IntSl w hv hs) (hl:IntSl w lv ls) (i:Int) (h0:0≤i) (hi:i≤9223372036854775807) (hne:ls ≠ []) :
  Calls Tryz.prog 81 #[.agg #[hv,lv],.int .i64 i] w fun e w'=>e=.returned (.int .i64 (lat hs ls i.toNat))∧Below w.heap.size w w':=by
 obtain ⟨k,rfl⟩:=Int.eq_ofNat_of_zero_le h0
 obtain ⟨a0,c0,rfl,hm0,hh,-⟩:=hh
 obtain ⟨a1,c1,rfl,hm1,hl,-⟩:=hl
 have hpos:0 < ls.length:=List.length_pos_iff.2 hne
 unfold lat
 rw [Int.toNat_natCast]
 by_cases hk:k < hs.length
 ·rw [if_pos hk]
  rcases hh with hh | ⟨b,off,rfl,hc⟩
  ·subst hh;simp at hk
  ·have:=hc k hk
   exact letterAtR_head b off _ _ _ k _ w hk hm0 this (World.block_lt_of_cell? w _ this)
 ·rw [if_neg hk]
  rcases hl with hl | ⟨b,off,rfl,hc⟩
  ·exact absurd hl hne
  ·have:=hc _ (Nat.mod_lt (k - hs.length) hpos)
   exact letterAtR_loop b off _ _ _ _ _ k _ w (by omega) hm1 hm0 hi hpos this (World.block_lt_of_cell? w _ this)
theorem sameInts_go (n b0 off0 c0 b1 off1 c1:Nat) (f g:Nat→Int) (r:Bool) (w:World) (hm:n≤maxLen)
  (hx:∀ i,i < n→w.cell? ⟨b0,off0+i,none⟩=some (.int .i64 (f i)))
  (hy:∀ i,i < n→w.cell? ⟨b1,off1+i,none⟩=some (.int .i64 (g i))) (hr:r=true ↔ ∀ i,i < n→f i=g i) :
  Calls Tryz.prog 74 #[.slice (some ⟨b0,off0,none⟩) n c0,.slice (some ⟨b1,off1,none⟩) n c1] w fun e w'=>e=.returned (.bool r)∧∃ m,w'=w.drewN m:=by
 unfold maxLen at hm
 have hne:((n:Int) != n)=false:=by simp
 have Hr:Hid (r=true ↔ ∀ i,i < n→f i=g i):=hr
 clear hr
 go_enter Tryz.func74,Tryz.ntmps74
 go_wp2
 go_loopw [5] (fun i wr=>∃ k:Nat,k≤n∧i=.int .i64 k∧(∀ j,j < k→f j=g j)∧∃ m,wr=w.drewN m) (fun i _=>n - (intOf i).toNat)
 case atStart=>exact ⟨0,Nat.zero_le _,rfl,fun j hj=>by omega,0,rfl⟩
 case round =>
  obtain ⟨k,hk,rfl,htk,m,rfl⟩:=hrel
  have Htk:Hid (∀ j,j < k→f j=g j):=htk
  clear htk
  by_cases hlt:k < n
  ·have hx':=hx k (by omega)
   have hy':=hy k (by omega)
   clear hx hy
   generalize hex:f k=x at *
   generalize hey:g k=y at *
   have Hex:Hid (f k=x):=hex
   have Hey:Hid (g k=y):=hey
   clear hex hey
   by_cases hxy:x=y
   ·have hb:(x != y)=false:=by simpa using hxy
    have Hxy:Hid (x=y):=hxy
    clear hxy
    go_wp2
    refine wp_region_quiet_lit (by kernel_rfl) (by kernel_rfl) ?_
    repeat (go_big_quiet_step (fail))
    refine wpQuiet_nil ?_
    intro _ hw';obtain ⟨nq,hw''⟩:=hw';subst hw''
    go_wp2
    go_roundw
    case rel=>exact ⟨k+1,by omega,by go_num,fun j hj=>by
     by_cases e:j=k
     ·subst e;rw [Hex.out,Hey.out];exact Hxy.out
     ·exact Htk.out j (by omega),m+nq,rfl⟩
    case measure=>simp [intOf];omega
   ·have hb:(x != y)=true:=by simpa using hxy
    have Hxy:Hid (¬ x=y):=hxy
    clear hxy
    go_wp2
    refine wp_region_quiet_lit (by kernel_rfl) (by kernel_rfl) ?_
    repeat (go_big_quiet_step (fail))
    refine wpQuiet_nil ?_
    intro _ hw';obtain ⟨nq,hw''⟩:=hw';subst hw''
    go_wp2
    go_ret
    have:r=false:=by
     cases r with
     | false=>rfl
     | true=>exact absurd (by rw [← Hex.out,← Hey.out];exact Hr.out.1 rfl k hlt) Hxy.out
    subst this
    exact ⟨rfl,m+nq,by rw [World.drewN_drewN]⟩
  ·go_wp2
   go_ret
   have:r=true:=Hr.out.2 fun i hi=>Htk.out i (by omega)
   subst this
   exact ⟨rfl,m,rfl⟩
theorem between_any (a b c:Int) (w:World) :
  Calls Tryz.prog 56 #[.int .i64 a,.int .i64 b,.int .i64 c] w fun e w'=>e=.returned (.bool (decide (b≤a∧a≤c)))∧w'=w:=by
 by_cases h1:b≤a
 ·go_enter Tryz.func56,Tryz.ntmps56
  go_wp2
  go_ret
  exact ⟨by simp [h1],rfl⟩
 ·have h2:a < b:=by omega
  have e:decide (b≤a∧a≤c)=false:=by simp;omega
  rw [e]
  clear h1 e
  go_enter Tryz.func56,Tryz.ntmps56
  go_wp2
  go_ret
  exact ⟨rfl,rfl⟩
theorem sameInts_ne (a0 a1:Option Addr) (n m c0 c1:Nat) (w:World) (h:((n:Int) != m)=true) :
  Calls Tryz.prog 74 #[.slice a0 n c0,.slice a1 m c1] w fun e w'=>e=.returned (.bool false)∧w'=w:=by
 go_enter Tryz.func74,Tryz.ntmps74
 go_wp2
 go_ret
 exact ⟨rfl,rfl⟩
theorem sameInts_zero (a0 a1:Option Addr) (c0 c1:Nat) (w:World) :
  Calls Tryz.prog 74 #[.slice a0 0 c0,.slice a1 0 c1] w fun e w'=>e=.returned (.bool true)∧w'=w:=by
 go_enter Tryz.func74,Tryz.ntmps74
 go_wp2
 refine wp_loop_rounds 1 ?_;rw [rounds_succ]
 go_wp2
 go_ret
 exact ⟨rfl,rfl⟩
theorem indexFunc_go (n b off cap F:Nat) (caps:Array Value) (f:Nat→Int) (p:Nat→Bool) (w:World) (hm:n≤maxLen) (hF:∀ args w,(callFunc F args).run Tryz.prog w=.ok (.enter F args) w)
  (hx:∀ i,i < n→w.cell? ⟨b,off+i,none⟩=some (.int .i64 (f i)))
  (hp:∀ i,i < n→∀ w1,Below w.heap.size w w1→Calls Tryz.prog F (#[.int .i64 (f i)] ++ caps) w1 fun e w'=>e=.returned (.bool (p i))∧Below w1.heap.size w1 w')
  (r:Int) (hr:(∃ i:Nat,i < n∧p i=true∧(∀ j,j < i→p j=false)∧r=i) ∨ (r=-1∧∀ i,i < n→p i=false)) :
  Calls Tryz.prog 146 #[.slice (some ⟨b,off,none⟩) n cap,.func (.func F) #[] caps] w fun e w'=>e=.returned (.int .i64 r)∧Below w.heap.size w w':=by
 unfold maxLen at hm
 have Hr:Hid _:=hr
 have Hp:Hid _:=hp
 clear hr hp
 go_enter Tryz.func146,Tryz.ntmps146
 go_wp2
 go_loopw [8] (fun i wr=>∃ k:Nat,k≤n∧i=.int .i64 k∧(∀ j,j < k→p j=false)∧Below w.heap.size w wr) (fun i _=>n - (intOf i).toNat)
 case atStart=>exact ⟨0,Nat.zero_le _,rfl,fun j hj=>by omega,Below.refl _ _⟩
 case round =>
  obtain ⟨k,hk,rfl,htk,hbw⟩:=hrel
  have Htk:Hid (∀ j,j < k→p j=false):=htk
  clear htk
  by_cases hlt:k < n
  ·have hx':=hx k (by omega)
   rw [← hbw.cell (World.block_lt_of_cell? w _ hx')] at hx'
   clear hx
   go_wp2_with (fail)
   refine (Hp.out k hlt wr hbw).mono ?_
   rintro e w1 ⟨rfl,hb1⟩
   generalize hpk:p k=pk
   have Hpk:Hid (p k=pk):=hpk
   clear hpk
   have hbw1:=below_trans hbw hb1
   cases pk with
   | false =>
    go_wp2
    go_roundw
    case rel=>exact ⟨k+1,by omega,by go_num,fun j hj=>by
     by_cases e:j=k
     ·subst e;exact Hpk.out
     ·exact Htk.out j (by omega),hbw1⟩
    case measure=>simp [intOf];omega
   | true =>
    go_wp2
    go_ret
    have:r=k:=by
     rcases Hr.out with ⟨i,hi,h1,h2,rfl⟩ | ⟨_,h⟩
     ·rcases Nat.lt_trichotomy i k with h | h | h
      ·rw [Htk.out i h] at h1;cases h1
      ·rw [h]
      ·have:=h2 k h;rw [Hpk.out] at this;cases this
     ·have:=h k hlt;rw [Hpk.out] at this;cases this
    subst this
    exact ⟨rfl,hbw1⟩
  ·go_wp2
   go_ret
   have:r=-1:=by
    rcases Hr.out with ⟨i,hi,h1,h2,rfl⟩ | ⟨h,_⟩
    ·rw [Htk.out i (by omega)] at h1;cases h1
    ·exact h
   subst this
   exact ⟨rfl,hbw⟩
theorem indexFunc_zero (a:Option Addr) (cap:Nat) (fv:Value) (w:World) :
  Calls Tryz.prog 146 #[.slice a 0 cap,fv] w fun e w'=>e=.returned (.int .i64 (-1))∧Below w.heap.size w w':=by
 go_enter Tryz.func146,Tryz.ntmps146
 go_wp2
 refine wp_loop_rounds 1 ?_;rw [rounds_succ]
 go_wp2
 go_ret
 exact ⟨rfl,Below.refl _ _⟩
theorem indexFunc_any {v:Value}{zs:List Int}{w:World} (F:Nat) (caps:Array Value) (p:Int→Bool) (hv:IntSl w v zs) (hF:∀ args w,(callFunc F args).run Tryz.prog w=.ok (.enter F args) w)
  (hp:∀ i,i < zs.length→∀ w1,Below w.heap.size w w1→Calls Tryz.prog F (#[.int .i64 (zs.getD i 0)] ++ caps) w1 fun e w'=>e=.returned (.bool (p (zs.getD i 0)))∧Below w1.heap.size w1 w') :
  Calls Tryz.prog 146 #[v,.func (.func F) #[] caps] w fun e w'=>∃ r:Int,e=.returned (.int .i64 r)∧decide (0≤r)=zs.any p∧Below w.heap.size w w':=by
 obtain ⟨a,cap,rfl,hm,h,-⟩:=hv
 rcases h with rfl | ⟨b,off,rfl,hc⟩
 ·exact (indexFunc_zero a cap _ w).mono fun e w' ⟨he,hb⟩=>⟨-1,he,by simp,hb⟩
 ·by_cases hex:∃ i,i < zs.length∧p (zs.getD i 0)=true
  ·obtain ⟨i,hi,h1,h2⟩:∃ i,i < zs.length∧p (zs.getD i 0)=true∧∀ j,j < i→p (zs.getD j 0)=false:=by
    have:∀ m,(∃ i,i < m∧i < zs.length∧p (zs.getD i 0)=true)→∃ i,i < zs.length∧p (zs.getD i 0)=true∧∀ j,j < i→p (zs.getD j 0)=false:=by
     intro m
     induction m with
     | zero=>rintro ⟨i,h,_⟩;omega
     | succ m ih =>
      rintro ⟨i,h,hi,h1⟩
      by_cases hh:∃ i,i < m∧i < zs.length∧p (zs.getD i 0)=true
      ·exact ih hh
      ·refine ⟨i,hi,h1,fun j hj=>?_⟩
       cases e:p (zs.getD j 0) with
       | false=>rfl
       | true=>exact absurd ⟨j,by omega,by omega,e⟩ hh
    obtain ⟨i,hi,h1⟩:=hex
    exact this (i+1) ⟨i,by omega,hi,h1⟩
   refine (indexFunc_go _ b off cap F caps (fun i=>zs.getD i 0) (fun i=>p (zs.getD i 0)) w hm hF hc hp i (Or.inl ⟨i,hi,h1,h2,rfl⟩)).mono fun e w' ⟨he,hb⟩=>⟨i,he,?_,hb⟩
   have:zs.any p=true:=List.any_eq_true.2 ⟨zs.getD i 0,by simp [List.getD,hi],h1⟩
   rw [this];simp
  ·have hall:∀ i,i < zs.length→p (zs.getD i 0)=false:=fun i hi=>by
    cases e:p (zs.getD i 0) with
    | false=>rfl
    | true=>exact absurd ⟨i,hi,e⟩ hex
   refine (indexFunc_go _ b off cap F caps (fun i=>zs.getD i 0) (fun i=>p (zs.getD i 0)) w hm hF hc hp (-1) (Or.inr ⟨rfl,hall⟩)).mono fun e w' ⟨he,hb⟩=>⟨-1,he,?_,hb⟩
   have:zs.any p=false:=by
    rw [List.any_eq_false]
    intro x hx
    obtain ⟨i,hi,rfl⟩:=List.mem_iff_getElem.1 hx
    have:=hall i hi
    simpa [List.getD,hi] using this
   rw [this];rfl
theorem containsFunc_any {v:Value}{zs:List Int}{w:World} (F:Nat) (caps:Array Value) (p:Int→Bool) (hv:IntSl w v zs) (hF:∀ args w,(callFunc F args).run Tryz.prog w=.ok (.enter F args) w)
  (hp:∀ i,i < zs.length→∀ w1,Below w.heap.size w w1→Calls Tryz.prog F (#[.int .i64 (zs.getD i 0)] ++ caps) w1 fun e w'=>e=.returned (.bool (p (zs.getD i 0)))∧Below w1.heap.size w1 w') :
  Calls Tryz.prog 93 #[v,.func (.func F) #[] caps] w fun e w'=>e=.returned (.bool (zs.any p))∧Below w.heap.size w w':=by
 have H:=indexFunc_any F caps p hv hF hp
 have HH:Hid _:=H
 clear H hp hF hv
 go_enter Tryz.func93,Tryz.ntmps93
 go_wp2_with (fail)
 refine Calls.mono HH.out ?_
 rintro e w1 ⟨r,rfl,hr,hb1⟩
 have Hr:Hid _:=hr
 clear hr
 go_wp2
 go_ret
 exact ⟨by rw [← Hr.out];rfl,hb1⟩
theorem checkNone_any (x n:Int) (a:Addr) (w:World) (ha:w.cell? a=some (.int .i64 n)) :
  Calls Tryz.prog 92 #[.int .i64 x,.pointer (some a)] w fun e w'=>e=.returned (.bool (decide (x < 0) || decide (n≤x)))∧w'=w:=by
 by_cases h1:x < 0
 ·go_enter Tryz.func92,Tryz.ntmps92
  go_wp2
  go_ret
  exact ⟨by simp [h1],rfl⟩
 ·have h2:0≤x:=by omega
  clear h1
  go_enter Tryz.func92,Tryz.ntmps92
  go_wp2
  go_ret
  exact ⟨rfl,rfl⟩
theorem list_eq_iff {xs ys:List Int} (h:xs.length=ys.length):xs=ys ↔ ∀ i,i < xs.length→xs.getD i 0=ys.getD i 0:=by
 constructor
 ·rintro rfl _ _;rfl
 ·intro H
  apply List.ext_getElem h
  intro i h1 h2
  have:=H i h1
  simpa [List.getD,h1,h2] using this
theorem sameInts_any {av bv:Value}{xs ys:List Int}{w:World} (ha:IntSl w av xs) (hb:IntSl w bv ys) :
  Calls Tryz.prog 74 #[av,bv] w fun e w'=>e=.returned (.bool (decide (xs=ys)))∧∃ m,w'=w.drewN m:=by
 obtain ⟨a0,c0,rfl,hm0,ha,-⟩:=ha
 obtain ⟨a1,c1,rfl,hm1,hb,-⟩:=hb
 by_cases hl:xs.length=ys.length
 ·rcases ha with rfl | ⟨b,off,rfl,hc⟩
  ·have:ys=[]:=by simpa using hl.symm
   subst this
   exact (sameInts_zero a0 a1 c0 c1 w).mono fun e w' ⟨he,hw⟩=>⟨by simpa using he,0,hw⟩
  ·rcases hb with rfl | ⟨b',off',rfl,hc'⟩
   ·have:xs=[]:=by simpa using hl
    subst this
    exact (sameInts_zero _ a1 c0 c1 w).mono fun e w' ⟨he,hw⟩=>⟨by simpa using he,0,hw⟩
   ·rw [← hl]
    refine sameInts_go _ b off c0 b' off' c1 (fun i=>xs.getD i 0) (fun i=>ys.getD i 0) _ w hm0 hc (by rw [hl];exact hc') ?_
    rw [decide_eq_true_iff];exact list_eq_iff hl
 ·have e:decide (xs=ys)=false:=by simp;intro h;exact hl (by rw [h])
  rw [e]
  exact (sameInts_ne a0 a1 _ _ c0 c1 w (by rw [bne_iff_ne];omega)).mono fun e w' ⟨he,hw⟩=>⟨he,0,hw⟩
theorem equal_ne (a0 a1:Option Addr) (n m c0 c1:Nat) (w:World) (h:((n:Int) != m)=true) :
  Calls Tryz.prog 110 #[.slice a0 n c0,.slice a1 m c1] w fun e w'=>e=.returned (.bool false)∧w'=w:=by
 go_enter Tryz.func110,Tryz.ntmps110
 go_wp2
 go_ret
 exact ⟨rfl,rfl⟩
theorem equal_zero (a0 a1:Option Addr) (c0 c1:Nat) (w:World) :
  Calls Tryz.prog 110 #[.slice a0 0 c0,.slice a1 0 c1] w fun e w'=>e=.returned (.bool true)∧w'=w:=by
 go_enter Tryz.func110,Tryz.ntmps110
 go_wp2
 refine wp_loop_rounds 1 ?_;rw [rounds_succ]
 go_wp2
 go_ret
 exact ⟨rfl,rfl⟩
theorem equal_go (n b0 off0 c0 b1 off1 c1:Nat) (f g:Nat→Int) (r:Bool) (w:World) (hm:n≤maxLen)
  (hx:∀ i,i < n→w.cell? ⟨b0,off0+i,none⟩=some (.int .i64 (f i)))
  (hy:∀ i,i < n→w.cell? ⟨b1,off1+i,none⟩=some (.int .i64 (g i))) (hr:r=true ↔ ∀ i,i < n→f i=g i) :
  Calls Tryz.prog 110 #[.slice (some ⟨b0,off0,none⟩) n c0,.slice (some ⟨b1,off1,none⟩) n c1] w fun e w'=>e=.returned (.bool r)∧∃ m,w'=w.drewN m:=by
 unfold maxLen at hm
 have hne:((n:Int) != n)=false:=by simp
 have Hr:Hid (r=true ↔ ∀ i,i < n→f i=g i):=hr
 clear hr
 go_enter Tryz.func110,Tryz.ntmps110
 go_wp2
 go_loopw [13] (fun i wr=>∃ k:Nat,k≤n∧i=.int .i64 k∧(∀ j,j < k→f j=g j)∧∃ m,wr=w.drewN m) (fun i _=>n - (intOf i).toNat)
 case atStart=>exact ⟨0,Nat.zero_le _,rfl,fun j hj=>by omega,0,rfl⟩
 case round =>
  obtain ⟨k,hk,rfl,htk,m,rfl⟩:=hrel
  have Htk:Hid (∀ j,j < k→f j=g j):=htk
  clear htk
  by_cases hlt:k < n
  ·have hx':=hx k (by omega)
   have hy':=hy k (by omega)
   clear hx hy
   generalize hex:f k=x at *
   generalize hey:g k=y at *
   have Hex:Hid (f k=x):=hex
   have Hey:Hid (g k=y):=hey
   clear hex hey
   by_cases hxy:x=y
   ·have hb:(x != y)=false:=by simpa using hxy
    have Hxy:Hid (x=y):=hxy
    clear hxy
    go_wp2
    refine wp_region_quiet_lit (by kernel_rfl) (by kernel_rfl) ?_
    repeat (go_big_quiet_step (fail))
    refine wpQuiet_nil ?_
    intro _ hw';obtain ⟨nq,hw''⟩:=hw';subst hw''
    go_wp2
    go_roundw
    case rel=>exact ⟨k+1,by omega,by go_num,fun j hj=>by
     by_cases e:j=k
     ·subst e;rw [Hex.out,Hey.out];exact Hxy.out
     ·exact Htk.out j (by omega),m+nq,rfl⟩
    case measure=>simp [intOf];omega
   ·have hb:(x != y)=true:=by simpa using hxy
    have Hxy:Hid (¬ x=y):=hxy
    clear hxy
    go_wp2
    refine wp_region_quiet_lit (by kernel_rfl) (by kernel_rfl) ?_
    repeat (go_big_quiet_step (fail))
    refine wpQuiet_nil ?_
    intro _ hw';obtain ⟨nq,hw''⟩:=hw';subst hw''
    go_wp2
    go_ret
    have:r=false:=by
     cases r with
     | false=>rfl
     | true=>exact absurd (by rw [← Hex.out,← Hey.out];exact Hr.out.1 rfl k hlt) Hxy.out
    subst this
    exact ⟨rfl,m+nq,by rw [World.drewN_drewN]⟩
  ·go_wp2
   go_ret
   have:r=true:=Hr.out.2 fun i hi=>Htk.out i (by omega)
   subst this
   exact ⟨rfl,m,rfl⟩
theorem equal_any {av bv:Value}{xs ys:List Int}{w:World} (ha:IntSl w av xs) (hb:IntSl w bv ys) :
  Calls Tryz.prog 110 #[av,bv] w fun e w'=>e=.returned (.bool (decide (xs=ys)))∧∃ m,w'=w.drewN m:=by
 obtain ⟨a0,c0,rfl,hm0,ha,-⟩:=ha
 obtain ⟨a1,c1,rfl,hm1,hb,-⟩:=hb
 by_cases hl:xs.length=ys.length
 ·rcases ha with rfl | ⟨b,off,rfl,hc⟩
  ·have:ys=[]:=by simpa using hl.symm
   subst this
   exact (equal_zero a0 a1 c0 c1 w).mono fun e w' ⟨he,hw⟩=>⟨by simpa using he,0,hw⟩
  ·rcases hb with rfl | ⟨b',off',rfl,hc'⟩
   ·have:xs=[]:=by simpa using hl
    subst this
    exact (equal_zero _ a1 c0 c1 w).mono fun e w' ⟨he,hw⟩=>⟨by simpa using he,0,hw⟩
   ·rw [← hl]
    refine equal_go _ b off c0 b' off' c1 (fun i=>xs.getD i 0) (fun i=>ys.getD i 0) _ w hm0 hc (by rw [hl];exact hc') ?_
    rw [decide_eq_true_iff];exact list_eq_iff hl
 ·have e:decide (xs=ys)=false:=by simp;intro h;exact hl (by rw [h])
  rw [e]
  exact (equal_ne a0 a1 _ _ c0 c1 w (by rw [bne_iff_ne];omega)).mono fun e w' ⟨he,hw⟩=>⟨he,0,hw⟩
theorem sameLasso_any {h0 l0 h1 l1:Value}{a b c d:List Int}{w:World} (ha:IntSl w h0 a) (hb:IntSl w l0 b) (hc:IntSl w h1 c) (hd:IntSl w l1 d) :
  Calls Tryz.prog 25 #[.agg #[h0,l0],.agg #[h1,l1]] w fun e w'=>e=.returned (.bool (decide (a=c∧b=d)))∧Below w.heap.size w w':=by
 have H1:Hid (∀ w1,Below w.heap.size w w1→Calls Tryz.prog 74 #[h0,h1] w1 fun e w'=>e=.returned (.bool (decide (a=c)))∧∃ m,w'=w1.drewN m):=fun w1 hw=>sameInts_any (ha.below hw) (hc.below hw)
 have H2:Hid (∀ w1,Below w.heap.size w w1→Calls Tryz.prog 74 #[l0,l1] w1 fun e w'=>e=.returned (.bool (decide (b=d)))∧∃ m,w'=w1.drewN m):=fun w1 hw=>sameInts_any (hb.below hw) (hd.below hw)
 clear ha hb hc hd
 go_enter Tryz.func25,Tryz.ntmps25
 go_wp2_with (fail)
 refine (H1.out _ ?_).mono ?_
 ·exact ((Below.refl _ _).alloc (Nat.le_refl _) _).alloc (by simp) _
 rintro e w1 ⟨rfl,m,rfl⟩
 by_cases hac:a=c
 ·rw [decide_eq_true hac]
  have Hac:Hid (a=c):=hac
  clear hac
  go_wp2_with (fail)
  refine (H2.out _ ?_).mono ?_
  ·exact below_drewN (((Below.refl _ _).alloc (Nat.le_refl _) _).alloc (by simp) _) _
  rintro e w1 ⟨rfl,m',rfl⟩
  go_wp2
  go_ret
  exact ⟨by simp [Hac.out],(by repeat (first | exact Below.refl _ _ | assumption | refine below_drewN ?_ _ | refine Below.drew ?_ | refine Below.alloc ?_ (by simp <;> omega) _ | refine below_trans ?_ (by assumption)))⟩
 ·rw [decide_eq_false hac]
  have Hac:Hid (¬ a=c):=hac
  clear hac
  go_wp2
  go_ret
  exact ⟨by simp [Hac.out],below_drewN (((Below.refl _ _).alloc (Nat.le_refl _) _).alloc (by simp) _) _⟩
def chk (hs ls:List Int) (n:Int):Int:=
 if n < 1 ∨ 8 < n then 3 else if 4000 < hs.length ∨ 4000 < ls.length then 2 else if ls.length=0 then 1
 else if (hs ++ ls).any (fun x=>decide (x < 0) || decide (n≤x)) then 5 else 0
theorem checkCalls {hv lv:Value}{hs ls:List Int}{w:World} (n:Int) (hh:IntSl w hv hs) (hl:IntSl w lv ls) (w1:World) (hb:Below w.heap.size w w1) (v:Value) (zs:List Int) (hv':(v=hv∧zs=hs) ∨ (v=lv∧zs=ls)) (a:Addr) (ha:w1.cell? a=some (.int .i64 n)) :
  Calls Tryz.prog 93 #[v,.func (.func 92) #[] #[.pointer (some a)]] w1 fun e w'=>e=.returned (.bool (zs.any fun x=>decide (x < 0) || decide (n≤x)))∧Below w1.heap.size w1 w':=by
 have hz:IntSl w v zs:=by
  rcases hv' with ⟨rfl,rfl⟩ | ⟨rfl,rfl⟩
  ·exact hh
  ·exact hl
 exact containsFunc_any 92 _ (fun x=>decide (x < 0) || decide (n≤x)) (hz.below hb) Tryz.call92 fun i _ w2 hw2 =>
  (checkNone_any (zs.getD i 0) n a w2 (by rw [hw2.cell (World.block_lt_of_cell? w1 _ ha)];exact ha)).mono fun e w' ⟨he,hw⟩=>⟨he,by rw [hw];exact Below.refl _ _⟩
theorem check_any {hv lv:Value}{hs ls:List Int}{w:World} (n:Int) (hh:IntSl w hv hs) (hl:IntSl w lv ls) :
  Calls Tryz.prog 50 #[.agg #[hv,lv],.int .i64 n] w fun e w'=>e=.returned (.int .i64 (chk hs ls n))∧Below w.heap.size w w':=by
 have Hc:Hid _:=checkCalls n hh hl
 obtain ⟨a0,c0,rfl,hm0,-,-⟩:=hh
 obtain ⟨a1,c1,rfl,hm1,-,-⟩:=hl
 have hmf:∀ (fn:Fn) (first cap:Array Value) (w:World),(Instr.makeFunc fn first cap).run Tryz.prog w=.ok (.func fn first cap) w:=fun _ _ _ _=>rfl
 unfold maxLen at hm0 hm1
 by_cases h1:n < 1 ∨ 8 < n
 ·have e:chk hs ls n=3:=by simp [chk,h1]
  rw [e]
  clear e
  rcases h1 with h1 | h1
  ·go_enter Tryz.func50,Tryz.ntmps50
   go_wp2
   go_ret
   exact ⟨rfl,(by repeat (first | exact Below.refl _ _ | assumption | refine below_drewN ?_ _ | refine Below.drew ?_ | refine Below.alloc ?_ (by simp <;> omega) _ | refine below_trans ?_ (by assumption)))⟩
  ·have h2:1≤n:=by omega
   go_enter Tryz.func50,Tryz.ntmps50
   go_wp2
   go_ret
   exact ⟨rfl,(by repeat (first | exact Below.refl _ _ | assumption | refine below_drewN ?_ _ | refine Below.drew ?_ | refine Below.alloc ?_ (by simp <;> omega) _ | refine below_trans ?_ (by assumption)))⟩
 have h2:1≤n:=by omega
 have h3:n≤8:=by omega
 by_cases h4:4000 < hs.length ∨ 4000 < ls.length
 ·have e:chk hs ls n=2:=by simp [chk,h1,h4]
  rw [e]
  clear e h1
  rcases h4 with h4 | h4
  ·go_enter Tryz.func50,Tryz.ntmps50
   go_wp2
   go_ret
   exact ⟨rfl,(by repeat (first | exact Below.refl _ _ | assumption | refine below_drewN ?_ _ | refine Below.drew ?_ | refine Below.alloc ?_ (by simp <;> omega) _ | refine below_trans ?_ (by assumption)))⟩
  ·by_cases h5:4000 < hs.length
   ·go_enter Tryz.func50,Tryz.ntmps50
    go_wp2
    go_ret
    exact ⟨rfl,(by repeat (first | exact Below.refl _ _ | assumption | refine below_drewN ?_ _ | refine Below.drew ?_ | refine Below.alloc ?_ (by simp <;> omega) _ | refine below_trans ?_ (by assumption)))⟩
   ·have h6:hs.length≤4000:=by omega
    clear h5
    go_enter Tryz.func50,Tryz.ntmps50
    go_wp2
    go_ret
    exact ⟨rfl,(by repeat (first | exact Below.refl _ _ | assumption | refine below_drewN ?_ _ | refine Below.drew ?_ | refine Below.alloc ?_ (by simp <;> omega) _ | refine below_trans ?_ (by assumption)))⟩
 have h5:hs.length≤4000:=by omega
 have h6:ls.length≤4000:=by omega
 by_cases h7:ls.length=0
 ·have e:chk hs ls n=1:=by unfold chk;rw [if_neg h1,if_neg h4,if_pos h7]
  rw [e]
  have h8:((ls.length:Int) == 0)=true:=by simpa using h7
  clear e h1 h4 h7
  go_enter Tryz.func50,Tryz.ntmps50
  go_wp2
  go_ret
  exact ⟨rfl,(by repeat (first | exact Below.refl _ _ | assumption | refine below_drewN ?_ _ | refine Below.drew ?_ | refine Below.alloc ?_ (by simp <;> omega) _ | refine below_trans ?_ (by assumption)))⟩
 have h8:((ls.length:Int) == 0)=false:=by rw [beq_eq_false_iff_ne];omega
 have e:chk hs ls n=if (hs ++ ls).any (fun x=>decide (x < 0) || decide (n≤x)) then 5 else 0:=by simp only [chk,h1,h4,h7,if_false]
 rw [e]
 clear e h1 h4 h7
 rw [List.any_append]
 generalize hg1:(hs.any fun x=>decide (x < 0) || decide (n≤x))=r1
 generalize hg2:(ls.any fun x=>decide (x < 0) || decide (n≤x))=r2
 have G1:Hid _:=hg1
 have G2:Hid _:=hg2
 clear hg1 hg2
 go_enter Tryz.func50,Tryz.ntmps50
 go_wp2_with (fail)
 refine Calls.mono (Hc.out _ ?_ _ hs (Or.inl ⟨rfl,rfl⟩) _ ?_) ?_
 ·exact (by repeat (first | exact Below.refl _ _ | assumption | refine below_drewN ?_ _ | refine Below.drew ?_ | refine Below.alloc ?_ (by simp <;> omega) _ | refine below_trans ?_ (by assumption)))
 ·simp
 rw [G1.out]
 rintro e w1 ⟨rfl,hb1⟩
 have hc1:w1.cell? ⟨w.heap.size,0,none⟩=some (.slice a0 hs.length c0):=by rw [hb1.cell (by simp <;> omega)];simp
 have hc2:w1.cell? ⟨w.heap.size,1,none⟩=some (.slice a1 ls.length c1):=by rw [hb1.cell (by simp <;> omega)];simp
 have hc3:w1.cell? ⟨w.heap.size+1,0,none⟩=some (.int .i64 n):=by rw [hb1.cell (by simp <;> omega)];simp
 have hw1:Below w.heap.size w w1:=by
  refine below_trans ?_ hb1
  exact (by repeat (first | exact Below.refl _ _ | assumption | refine below_drewN ?_ _ | refine Below.drew ?_ | refine Below.alloc ?_ (by simp <;> omega) _ | refine below_trans ?_ (by assumption)))
 cases r1 with
 | true =>
  go_wp2
  go_ret
  exact ⟨by simp,hw1⟩
 | false =>
  go_wp2_with (fail)
  refine Calls.mono (Hc.out _ ?_ _ ls (Or.inr ⟨rfl,rfl⟩) _ ?_) ?_
  ·exact hw1
  ·exact hc3
  rw [G2.out]
  rintro e w2 ⟨rfl,hb2⟩
  have hw2:=below_trans hw1 hb2
  cases r2 with
  | true =>
   go_wp2
   go_ret
   exact ⟨by simp,hw2⟩
  | false =>
   go_wp2
   go_ret
   exact ⟨by simp,hw2⟩
theorem add_none (b off i:Nat):(⟨b,off,none⟩:Addr).add i=⟨b,off+i,none⟩:=Go.WideShapes.add_plain b off i
theorem intInfo:Tryz.prog.info? 3=some Tryz.t3:=by kernel_rfl
theorem run_append_sl (w:World) (ty base:Nat) (v:Value) (n:Nat) (xs:List Value) (hown:w.ownsRow base 3 1 v n xs) (sv:Value) (zs:List Int) (hs:IntSl w sv zs)
  (h63:n+zs.length≤1000000) (hbase:base≤w.heap.size) :
  ∃ v' w',(Builtin.append_ #[22,22] ty #[v,sv]).run Tryz.prog w=.ok v' w'∧w'.ownsRow base 3 1 v' (n+zs.length) (xs ++ zs.map (.int .i64))∧w.grownBy w' v.ownBlock∧(v'.ownBlock=v.ownBlock ∨ v'.ownBlock=some w.heap.size):=by
 obtain ⟨a,cap,rfl,hm,hc,hn⟩:=hs
 cases a with
 | none =>
  have hz:zs=[]:=by
   rcases hc with h | ⟨b,off,h,_⟩
   ·exact h
   ·cases h
  have hc0:=hn.1 rfl
  subst hz hc0
  refine ⟨v,w,run_append_owned_none w base 22 ty 3 Tryz.t3 1 Tryz.underlying22 intInfo v n xs hown,by simpa using hown,⟨rfl,rfl,rfl,Nat.le_refl _,fun _ _ _=>rfl⟩,Or.inl rfl⟩
 | some a =>
  have hnews:∀ j u,(zs.map (Value.int .i64))[j]?=some u→w.cell? (a.add j)=some u:=by
   intro j u hu
   rcases hc with h | ⟨b,off,h,hcell⟩
   ·subst h;simp at hu
   ·cases h
    rw [add_none]
    rw [List.getElem?_map] at hu
    cases hj:zs[j]? with
    | none=>rw [hj] at hu;simp at hu
    | some z =>
     rw [hj] at hu
     have hlt:j < zs.length:=(List.getElem?_eq_some_iff.1 hj).1
     rw [hcell j hlt,List.getD,hj]
     simpa using hu
  obtain ⟨v',w',hr,h2,h3,_,h5⟩:=run_append_own_at (P:=Tryz.prog) w base 22 ty 3 Tryz.t3 (.int .i64 0) 1 8 Tryz.underlying22 intInfo (by kernel_rfl) (by kernel_rfl) (by kernel_rfl) (by kernel_rfl) (by decide) v n xs hown a zs.length cap (zs.map (.int .i64)) (by simp) hnews (by intro u hu;obtain ⟨z,_,rfl⟩:=List.mem_map.1 hu;rfl) (by unfold maxLen;omega) (by omega) hbase
  exact ⟨v',w',hr,h2,h3,h5⟩
theorem intSl_of_owns {w:World}{base:Nat}{v:Value}{zs:List Int}{n:Nat} (h:w.ownsRow base 3 1 v n (zs.map (.int .i64))):IntSl w v zs:=by
 have hl:zs.length=n:=by simpa using h.1
 rcases h.2 with ⟨rfl,h0⟩ | ⟨g,cap,cur,rfl,hb,hg,hnc,hcm,hcs,htake⟩
 ·have:zs=[]:=List.eq_nil_of_length_eq_zero (by omega)
  subst this
  exact ⟨none,0,rfl,by simp [maxLen],Or.inl rfl,fun _=>rfl,Nat.le_refl _⟩
 ·subst hl
  refine ⟨some ⟨g,0,none⟩,cap,rfl,by omega,Or.inr ⟨g,0,rfl,fun i hi=>?_⟩,(fun h=>by cases h),hnc⟩
  have:=h.cells (g:=g) rfl i (.int .i64 (zs.getD i 0)) (by simp [List.getD,hi])
  rwa [add_none] at this
theorem owns_empty {w:World}{base g:Nat} (h:w.heap[g]?=some (.cells #[] 3 (0,0))) (hb:base≤g):w.ownsRow base 3 1 (.slice (some ⟨g,0,none⟩) 0 0) 0 []:=
 ⟨rfl,.inr ⟨g,0,#[],rfl,hb,h,Nat.le_refl _,by simp [maxLen],rfl,rfl⟩⟩
def IsPer (ls:List Int) (p:Nat):Prop:=1≤p∧p≤ls.length∧ls.length % p=0∧ls.drop p=ls.take (ls.length - p)
def LeastPer (ls:List Int) (p:Nat):Prop:=IsPer ls p∧∀ q,IsPer ls q→p≤q
theorem intSl_drop {w:World}{b off cap p:Nat}{ls:List Int} (hm:ls.length≤maxLen) (hc:∀ i,i < ls.length→w.cell? ⟨b,off+i,none⟩=some (.int .i64 (ls.getD i 0))) (hcap:ls.length≤cap) (hp:p < ls.length) :
  IntSl w (.slice (some ⟨b,off+p,none⟩) (ls.length - p) (cap - p)) (ls.drop p):=by
 refine ⟨some ⟨b,off+p,none⟩,cap - p,by simp,by simp;omega,Or.inr ⟨b,off+p,rfl,fun i hi=>?_⟩,(fun h=>by cases h),by simp;omega⟩
 rw [List.length_drop] at hi
 rw [show off+p+i=off+(p+i) by omega,hc (p+i) (by omega)]
 simp [List.getD]
theorem intSl_take {w:World}{b off cap p:Nat}{ls:List Int} (hm:ls.length≤maxLen) (hc:∀ i,i < ls.length→w.cell? ⟨b,off+i,none⟩=some (.int .i64 (ls.getD i 0))) (hcap:ls.length≤cap) (hp:p≤ls.length) :
  IntSl w (.slice (some ⟨b,off,none⟩) p cap) (ls.take p):=by
 refine ⟨some ⟨b,off,none⟩,cap,by simp;omega,by simp;omega,Or.inr ⟨b,off,rfl,fun i hi=>?_⟩,(fun h=>by cases h),by simp;omega⟩
 rw [List.length_take] at hi
 rw [hc i (by omega)]
 simp [List.getD,show i < p by omega]
theorem period_go {w:World} (b off cap:Nat) (ls:List Int) (hm:ls.length≤4000) (hpos:0 < ls.length) (hc:∀ i,i < ls.length→w.cell? ⟨b,off+i,none⟩=some (.int .i64 (ls.getD i 0))) (hcap:ls.length≤cap) :
  Calls Tryz.prog 64 #[.slice (some ⟨b,off,none⟩) ls.length cap] w fun e w'=>∃ p:Nat,e=.returned (.int .i64 p)∧LeastPer ls p∧∃ m,w'=w.drewN m:=by
 have Hc:Hid (∀ i,i < ls.length→w.cell? ⟨b,off+i,none⟩=some (.int .i64 (ls.getD i 0))):=hc
 clear hc
 generalize hn:ls.length=n at *
 have Hn:Hid (ls.length=n):=hn
 clear hn
 go_enter Tryz.func64,Tryz.ntmps64
 go_wp2_with (fail)
 go_loopw [4] (fun i wr=>∃ k:Nat,1≤k∧k≤n∧i=.int .i64 k∧(∀ j,j < k→¬ IsPer ls j)∧∃ m,wr=w.drewN m) (fun i _=>n - (intOf i).toNat)
 case atStart=>exact ⟨1,Nat.le_refl _,by omega,rfl,fun j hj h=>by have:=h.1;omega,0,rfl⟩
 case round =>
  obtain ⟨k,hk1,hk,rfl,htk,m,rfl⟩:=hrel
  have Htk:Hid (∀ j,j < k→¬ IsPer ls j):=htk
  clear htk
  have hk0:((k:Int) == 0)=false:=by rw [beq_eq_false_iff_ne];omega
  have hk2:¬ (k:Int)=0:=by omega
  by_cases hlt:k < n
  ·by_cases hmod:n % k=0
   ·have hg:((n:Int) % k == 0)=true:=by rw [beq_iff_eq];omega
    have Hmod:Hid (n % k=0):=hmod
    clear hmod
    have HE:Hid (∀ j,Calls Tryz.prog 110 #[.slice (some ⟨b,off+k,none⟩) (n - k) (cap - k),.slice (some ⟨b,off,none⟩) (n - k) cap] (w.drewN (m+j)) fun e w'=>e=.returned (.bool (decide (ls.drop k=ls.take (n - k))))∧∃ j',w'=w.drewN (m+j')):=fun j=>by
     have hl:=Hn.out
     subst hl
     exact (equal_any (w:=w.drewN (m+j)) (intSl_drop (by unfold maxLen;omega) Hc.out hcap hlt) (intSl_take (by unfold maxLen;omega) Hc.out hcap (by omega))).mono fun e w' ⟨he,j',hw⟩=>⟨he,j+j',by rw [hw,World.drewN_drewN,Nat.add_assoc]⟩
    generalize hr:decide (ls.drop k=ls.take (n - k))=r at HE
    have Hr:Hid (decide (ls.drop k=ls.take (n - k))=r):=hr
    clear hr
    go_wp2_with (fail)
    refine wp_region_quiet_lit (by kernel_rfl) (by kernel_rfl) ?_
    repeat (go_big_quiet_step (exact HE.out _))
    refine wpQuiet_nil ?_
    intro _ hw';obtain ⟨nq,hw''⟩:=hw';subst hw''
    cases r with
    | false =>
     go_wp2
     go_roundw
     case rel=>exact ⟨k+1,by omega,by omega,by go_num,fun j hj=>by
      by_cases e:j=k
      ·subst e
       intro h
       have:=h.2.2.2
       rw [Hn.out] at this
       have hf:=Hr.out
       rw [decide_eq_false_iff_not] at hf
       exact hf this
      ·exact Htk.out j (by omega),m+nq,by first | rfl | trivial⟩
     case measure=>simp [intOf];omega
    | true =>
     go_wp2
     go_ret
     refine ⟨k,rfl,⟨⟨hk1,by rw [Hn.out];omega,by rw [Hn.out];exact Hmod.out,by rw [Hn.out];exact of_decide_eq_true Hr.out⟩,fun q hq=>?_⟩,m+nq,by rw [World.drewN_drewN]⟩
     rcases Nat.lt_or_ge q k with h | h
     ·exact absurd hq (Htk.out q h)
     ·exact h
   ·have hg:((n:Int) % k == 0)=false:=by rw [beq_eq_false_iff_ne];omega
    have Hmod:Hid (¬ n % k=0):=hmod
    clear hmod
    go_wp2_with (fail)
    refine wp_region_quiet_lit (by kernel_rfl) (by kernel_rfl) ?_
    repeat (go_big_quiet_step (fail))
    refine wpQuiet_nil ?_
    intro _ hw';obtain ⟨nq,hw''⟩:=hw';subst hw''
    go_wp2
    go_roundw
    case rel=>exact ⟨k+1,by omega,by omega,by go_num,fun j hj=>by
     by_cases e:j=k
     ·subst e
      intro h
      have:=h.2.2.1
      rw [Hn.out] at this
      exact Hmod.out this
     ·exact Htk.out j (by omega),m+nq,by first | rfl | trivial⟩
    case measure=>simp [intOf];omega
  ·go_wp2_with (fail)
   go_ret
   have hkn:k=n:=by omega
   subst hkn
   refine ⟨k,rfl,⟨⟨hk1,by rw [Hn.out];omega,by rw [Hn.out];simp,by rw [Hn.out];simp [← Hn.out]⟩,fun q hq=>?_⟩,m,rfl⟩
   rcases Nat.lt_or_ge q k with h | h
   ·exact absurd hq (Htk.out q h)
   ·exact h
theorem period_any {w:World}{v:Value}{ls:List Int} (hv:IntSl w v ls) (hm:ls.length≤4000) (hpos:0 < ls.length) :
  Calls Tryz.prog 64 #[v] w fun e w'=>∃ p:Nat,e=.returned (.int .i64 p)∧LeastPer ls p∧∃ m,w'=w.drewN m:=by
 obtain ⟨a,cap,rfl,hm',hc,hn⟩:=hv
 rcases hc with h | ⟨b,off,rfl,hc⟩
 ·subst h;simp at hpos
 ·exact period_go b off cap ls hm hpos hc hn.2
end Go.Proofs.YtpiacnnifdjlkabGreatDoor
