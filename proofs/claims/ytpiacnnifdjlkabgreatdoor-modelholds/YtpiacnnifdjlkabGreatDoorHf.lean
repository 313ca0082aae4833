import Derived.Test.YtpiacnnifdjlkabGreatDoorHd
set_option maxRecDepth 100000
set_option maxHeartbeats 8000000
namespace Go.Proofs.YtpiacnnifdjlkabGreatDoor
open Go.RowKit Go.Sort
def leafTx (x:Nd):List UInt8:=if x.k=1 then [116,114,117,101] else [112,UInt8.ofNat (48+x.n.toNat)]
def ntS (x:Nd) (g:Nat→Bool→List UInt8) (o:Bool):List UInt8:=
 if x.k=1 ∨ x.k=2 then (if o=true then 33 :: leafTx x else leafTx x)
 else if x.k=3 then g x.a.toNat (!o)
 else if x.k=6 then 88 :: g x.a.toNat o
 else 40 :: (g x.a.toNat o ++ (32 :: signB (if o=true then oppK x.k else x.k) :: 32 :: (g x.b.toNat o ++ [41])))
def ntN (F:List Nd):Nat→Nat→Bool→List UInt8
 | 0,_,_=>[]
 | f+1,i,o=>ntS (F.getD i nd0) (ntN F f) o
theorem ntS_congr {x:Nd}{g g':Nat→Bool→List UInt8} (ha:3≤x.k→g x.a.toNat=g' x.a.toNat) (hb:x.k=4 ∨ x.k=5 ∨ x.k=7 ∨ x.k=8→g x.b.toNat=g' x.b.toNat) (hk:1≤x.k∧x.k≤8) (o:Bool):ntS x g o=ntS x g' o:=by
 unfold ntS
 by_cases h1:x.k=1 ∨ x.k=2
 ·rw [if_pos h1,if_pos h1]
 rw [if_neg h1,if_neg h1,ha (by omega)]
 by_cases h3:x.k=3
 ·rw [if_pos h3,if_pos h3]
 rw [if_neg h3,if_neg h3]
 by_cases h6:x.k=6
 ·rw [if_pos h6,if_pos h6]
 rw [if_neg h6,if_neg h6,hb (by omega)]
theorem ntN_fuel {F:List Nd} (hF:AllOk F):∀ i f,i < F.length→i < f→ntN F f i=ntN F (i+1) i:=by
 intro i
 induction i using Nat.strongRecOn with
 | ind i ih =>
  intro f hi hf
  obtain ⟨g,rfl⟩:∃ g,f=g+1:=⟨f - 1,by omega⟩
  obtain ⟨hk,⟨a0,a1,_⟩,⟨b0,b1,_⟩,_⟩:=node_ok (hF i hi)
  funext o
  show ntS (F.getD i nd0) (ntN F g) o=ntS (F.getD i nd0) (ntN F i) o
  refine ntS_congr (fun h3=>?_) (fun h3=>?_) hk o
  ·have:=a1 h3
   rw [ih _ (by omega) g (by omega) (by omega),ih _ (by omega) i (by omega) (by omega)]
  ·have:=b1 h3
   rw [ih _ (by omega) g (by omega) (by omega),ih _ (by omega) i (by omega) (by omega)]
def nt (F:List Nd) (i:Nat) (o:Bool):List UInt8:=ntN F (i+1) i o
theorem nt_eq {F:List Nd} (hF:AllOk F) (i:Nat) (hi:i < F.length) (o:Bool):nt F i o=ntS (F.getD i nd0) (nt F) o:=by
 obtain ⟨hk,⟨a0,a1,_⟩,⟨b0,b1,_⟩,_⟩:=node_ok (hF i hi)
 show ntS (F.getD i nd0) (ntN F i) o=_
 refine ntS_congr (fun h3=>?_) (fun h3=>?_) hk o
 ·have:=a1 h3
  rw [ntN_fuel hF _ i (by omega) (by omega)]
  rfl
 ·have:=b1 h3
  rw [ntN_fuel hF _ i (by omega) (by omega)]
  rfl
theorem leafTx_len (x:Nd):(leafTx x).length≤4:=by
 unfold leafTx
 split <;> simp
theorem nt_len {F:List Nd} (hF:AllOk F):∀ i,i < F.length→∀ o,(nt F i o).length+6≤11 * 2 ^ i:=by
 intro i
 induction i using Nat.strongRecOn with
 | ind i ih =>
  intro hi o
  obtain ⟨hk,⟨a0,a1,_⟩,⟨b0,b1,_⟩,hxn⟩:=node_ok (hF i hi)
  rw [nt_eq hF i hi]
  generalize F.getD i nd0=x at *
  have hpos:1≤2 ^ i:=Nat.one_le_two_pow
  unfold ntS
  by_cases h1:x.k=1 ∨ x.k=2
  ·rw [if_pos h1]
   have:=leafTx_len x
   cases o
   ·simp;omega
   ·simp;omega
  rw [if_neg h1]
  have ha:=a1 (by omega)
  have hpa:2 * 2 ^ x.a.toNat≤2 ^ i:=by rw [← Nat.pow_succ'];exact Nat.pow_le_pow_right (by decide) (by omega)
  by_cases h3:x.k=3
  ·rw [if_pos h3]
   have:=ih x.a.toNat (by omega) (by omega) (!o)
   omega
  rw [if_neg h3]
  have iha:=ih x.a.toNat (by omega) (by omega) o
  by_cases h6:x.k=6
  ·rw [if_pos h6]
   simp only [List.length_cons]
   omega
  rw [if_neg h6]
  have hb:=b1 (by omega)
  have hpb:2 * 2 ^ x.b.toNat≤2 ^ i:=by rw [← Nat.pow_succ'];exact Nat.pow_le_pow_right (by decide) (by omega)
  have ihb:=ih x.b.toNat (by omega) (by omega) o
  simp only [List.length_cons,List.length_append,List.length_nil]
  omega
def NegOk (F:List Nd) (i:Nat) (o:Bool):Prop:=∀ (w:World) (v:Value),NodeSl w v F →
 Calls Tryz.prog 86 #[v,.int .i64 (i:Nat),.bool o] w fun e w'=>e=.returned (.string ⟨(nt F i o).toArray⟩)∧Below w.heap.size w w'
theorem sh_leaf {F:List Nd} (hF:AllOk F) (i:Nat) (hi:i < F.length) (hk:(F.getD i nd0).k=1 ∨ (F.getD i nd0).k=2):sh F i=leafTx (F.getD i nd0):=by
 rw [sh_eq hF i hi]
 unfold shS leafTx
 rcases hk with h | h
 ·rw [if_pos h,if_pos h]
 ·rw [if_neg (by omega),if_pos h,if_neg (by omega)]
theorem neg_leaf {F:List Nd} (hF:AllOk F) (h12:F.length≤12) (i:Nat) (hi:i < F.length) (hk:(F.getD i nd0).k=1 ∨ (F.getD i nd0).k=2) (o:Bool):NegOk F i o:=by
 intro w v hv
 rw [nt_eq hF i hi]
 have hS:=show_any hF h12 i hi
 unfold ShowOk at hS
 rw [sh_leaf hF i hi hk] at hS
 have HV:=hide hv
 have hle:=leafTx_len (F.getD i nd0)
 have e:ntS (F.getD i nd0) (nt F) o=if o=true then 33 :: leafTx (F.getD i nd0) else leafTx (F.getD i nd0):=by unfold ntS;rw [if_pos hk]
 rw [e]
 obtain ⟨a,cap,rfl,hm,hc,-⟩:=hv
 have HS:Hid (∀ W,Below w.heap.size w W→Calls Tryz.prog 136 #[.slice a F.length cap,.int .i64 (i:Nat)] W fun e w'=>e=.returned (.string ⟨(leafTx (F.getD i nd0)).toArray⟩)∧Below W.heap.size W w'):=hide fun W hb=>hS W _ (HV.out.below hb)
 unfold maxLen at hm
 rcases hc with hc | ⟨b,off,rfl,hc⟩
 ·subst hc;simp at hi
 obtain ⟨c0,c1,c2,c3⟩:=hc i hi
 clear hS e
 generalize leafTx (F.getD i nd0)=tx at *
 generalize hx:F.getD i nd0=x at *
 clear hc hx
 obtain ⟨k,xa,xb,xn⟩:=x
 dsimp only at *
 have e33:(⟨#[33]⟩:ByteArray) ++ ⟨tx.toArray⟩=⟨(33 :: tx).toArray⟩:=str_app [33] tx
 have hsz:(⟨tx.toArray⟩:ByteArray).size≤100000:=by
  show tx.toArray.size≤100000
  simp;omega
 rcases hk with rfl | rfl
 all_goals
  cases o
  ·go_enter Tryz.func86,Tryz.ntmps86
   go_wp2_with (fail)
   refine (HS.out _ (below_new _ _)).mono ?_
   rintro e w1 ⟨rfl,hb1⟩
   go_wp2_with (fail)
   go_ret
   exact ⟨rfl,below_trans (below_new _ _) hb1⟩
  ·go_enter Tryz.func86,Tryz.ntmps86
   go_wp2_with (fail)
   refine (HS.out _ (below_new _ _)).mono ?_
   rintro e w1 ⟨rfl,hb1⟩
   go_wp2_with (fail)
   go_ret
   exact ⟨rfl,below_trans (below_new _ _) hb1⟩
theorem neg_one {F:List Nd} (hF:AllOk F) (h12:F.length≤12) (i:Nat) (hi:i < F.length) (hk:(F.getD i nd0).k=3 ∨ (F.getD i nd0).k=6) (ih:∀ o,NegOk F (F.getD i nd0).a.toNat o) (o:Bool):NegOk F i o:=by
 intro w v hv
 rw [nt_eq hF i hi]
 obtain ⟨-,⟨a0,a1,-⟩,-,-⟩:=node_ok (hF i hi)
 have a2:=a1 (by omega)
 have HV:=hide hv
 obtain ⟨a,cap,rfl,hm,hc,-⟩:=hv
 unfold maxLen at hm
 rcases hc with hc | ⟨b,off,rfl,hc⟩
 ·subst hc;simp at hi
 obtain ⟨c0,c1,c2,c3⟩:=hc i hi
 have hl:=nt_len hF (F.getD i nd0).a.toNat (by omega) o
 have hpw:2 ^ ((F.getD i nd0).a.toNat)≤2 ^ 12:=Nat.pow_le_pow_right (by decide) (by omega)
 generalize hx:F.getD i nd0=x at *
 clear hc hx
 obtain ⟨k,xa,xb,xn⟩:=x
 dsimp only at *
 have exa:((xa.toNat:Nat):Int)=xa:=by omega
 have HI:Hid (∀ o W,Below w.heap.size w W→Calls Tryz.prog 86 #[.slice (some ⟨b,off,none⟩) F.length cap,.int .i64 xa,.bool o] W fun e w'=>e=.returned (.string ⟨(nt F xa.toNat o).toArray⟩)∧Below W.heap.size W w'):=hide fun o W hb=>by
  have:=ih o W _ (HV.out.below hb)
  rw [exa] at this
  exact this
 have hsz:(⟨(nt F xa.toNat o).toArray⟩:ByteArray).size≤100000:=by
  show (nt F xa.toNat o).toArray.size≤100000
  simp;omega
 clear ih hl hpw exa a0 a1 a2
 rcases hk with rfl | rfl
 ·have e:ntS ⟨3,xa,xb,xn⟩ (nt F) o=nt F xa.toNat (!o):=by simp [ntS]
  rw [e]
  clear e hsz
  have HI:=hide (HI.out (!o))
  go_enter Tryz.func86,Tryz.ntmps86
  go_wp2_with (fail)
  refine (HI.out _ (below_new _ _)).mono ?_
  rintro e w1 ⟨rfl,hb1⟩
  go_wp2_with (fail)
  go_ret
  exact ⟨rfl,below_trans (below_new _ _) hb1⟩
 ·have e:ntS ⟨6,xa,xb,xn⟩ (nt F) o=[88] ++ nt F xa.toNat o:=by simp [ntS]
  rw [e,← str_app]
  clear e
  have HI:=hide (HI.out o)
  generalize (⟨(nt F xa.toNat o).toArray⟩:ByteArray)=B at *
  go_enter Tryz.func86,Tryz.ntmps86
  go_wp2_with (fail)
  refine (HI.out _ (below_new _ _)).mono ?_
  rintro e w1 ⟨rfl,hb1⟩
  go_wp2_with (fail)
  go_ret
  exact ⟨rfl,below_trans (below_new _ _) hb1⟩
end Go.Proofs.YtpiacnnifdjlkabGreatDoor
