import Derived.Test.YtpiacnnifdjlkabGreatDoorFc
set_option maxRecDepth 100000
set_option maxHeartbeats 8000000
namespace Go.Proofs.YtpiacnnifdjlkabGreatDoor
open Go.RowKit Go.Sort
def RowNew (w:World) (row row':Option Nat):Prop:=row'=row ∨ ∀ k,row'=some k→w.heap.size≤k
theorem GTf.refl (tb:Nat) (row:Option Nat) (w:World):GTf tb row w w:=⟨rfl,rfl,rfl,Nat.le_refl _,fun _ _ _ _=>rfl⟩
theorem GTf.of_below {tb:Nat}{row:Option Nat}{w w':World} (h:Below w.heap.size w w'):GTf tb row w w':=⟨h.os,h.tape,h.output,h.size,fun k hk _ _=>h.block k hk⟩
theorem GTf.trans {tb:Nat}{row row':Option Nat}{w w1 w2:World} (h:GTf tb row w w1) (k:GTf tb row' w1 w2) (hr:RowNew w row row'):GTf tb row w w2:=
 ⟨k.os.trans h.os,k.tape.trans h.tape,k.output.trans h.output,Nat.le_trans h.size k.size,fun i hi h1 h2=>by
  refine (k.block i (Nat.lt_of_lt_of_le hi h.size) h1 ?_).trans (h.block i hi h1 h2)
  rcases hr with hr | hr
  ·rw [hr];exact h2
  ·intro e
   have:=hr i e.symm
   omega⟩
theorem RowNew.trans {w w1:World}{a b c:Option Nat} (h:RowNew w a b) (hs:w.heap.size≤w1.heap.size) (k:RowNew w1 b c):RowNew w a c:=by
 rcases k with k | k
 ·rw [k];exact h
 ·exact Or.inr fun i hi=>Nat.le_trans hs (k i hi)
theorem GTf.cell {tb:Nat}{row:Option Nat}{w w':World} (h:GTf tb row w w') {b o:Nat}{v:Value} (hc:w.cell? ⟨b,o,none⟩=some v) (h1:b ≠ tb) (h2:some b ≠ row):w'.cell? ⟨b,o,none⟩=some v:=by
 rw [World.cell?_of_block (a:=⟨b,o,none⟩) (h.block b (World.block_lt_of_cell? w _ hc) h1 h2)];exact hc
theorem growT {w:World}{tb r base:Nat}{fv:Value}{F:List Nd}{a:Option Addr}{c:Nat}{out:List Nd} (h:TN w tb r base fv F a c out) (x:Nd) (hn:out.length≤900000) :
  Calls Tryz.prog 112 #[.pointer (some ⟨tb,2,none⟩),.agg #[.int .i64 x.k,.int .i64 x.a,.int .i64 x.b,.int .i64 x.n]] w fun e w'=>e=.returned (.int .i64 out.length)∧∃ a' c',TN w' tb r base fv F a' c' (out ++ [x])∧GTf tb (Value.slice a out.length c).ownBlock w w'∧RowNew w (Value.slice a out.length c).ownBlock (Value.slice a' (out ++ [x]).length c').ownBlock:=by
 refine (grow_any x h.c2 h.soft h.own (fun g hg e=>by have:=(h.own.lt g hg).1;have:=h.lt1;omega) hn h.hb).mono ?_
 rintro e w' ⟨rfl,g,cap,w1,rfl,ho,hg,hd⟩
 obtain ⟨h1,h2⟩:=h.grown x ho hg
 refine ⟨rfl,some ⟨g,0,none⟩,cap,h1,h2,?_⟩
 rcases hd with hd | hd
 ·left;rw [hd];rfl
 ·right
  intro k hk
  have:g=k:=by simpa [Value.ownBlock] using hk
  omega
theorem TN.fresh {w:World}{tb r base:Nat}{fv:Value}{F:List Nd}{a:Option Addr}{c:Nat}{out:List Nd} (h:TN w tb r base fv F a c out):some w.heap.size ≠ (Value.slice a out.length c).ownBlock∧w.heap.size ≠ tb:=by
 refine ⟨fun e=>?_,?_⟩
 ·have:=(h.own.lt _ e.symm).2
  omega
 ·have:=h.lt1
  have:=h.hb
  omega
theorem leafT {w:World}{tb r base:Nat}{fv:Value}{F:List Nd}{a:Option Addr}{c:Nat}{out:List Nd} (h:TN w tb r base fv F a c out) (x:Nd) (o:Bool) (hn:out.length≤800000) :
  Calls Tryz.prog 111 #[.pointer (some ⟨tb,0,none⟩),.agg #[.int .i64 x.k,.int .i64 x.a,.int .i64 x.b,.int .i64 x.n],.bool o] w fun e w'=>e=.returned (.int .i64 (out.length+(if o=true then 1 else 0):Nat))∧∃ a' c',TN w' tb r base fv F a' c' (out ++ (if o=true then [x,⟨3,(out.length:Nat),0,0⟩] else [x]))∧GTf tb (Value.slice a out.length c).ownBlock w w'∧RowNew w (Value.slice a out.length c).ownBlock (Value.slice a' (out ++ (if o=true then [x,⟨3,(out.length:Nat),0,0⟩] else [x])).length c').ownBlock:=by
 have HT:=hide h
 have HN:=hide h.fresh
 have hn':=hn
 clear h
 obtain ⟨k,xa,xb,xn⟩:=x
 dsimp only
 have HG:Hid (∀ W,Below w.heap.size w W→Calls Tryz.prog 112 #[.pointer (some ⟨tb,2,none⟩),.agg #[.int .i64 k,.int .i64 xa,.int .i64 xb,.int .i64 xn]] W fun e w'=>e=.returned (.int .i64 out.length)∧∃ a' c',TN w' tb r base fv F a' c' (out ++ [⟨k,xa,xb,xn⟩])∧GTf tb (Value.slice a out.length c).ownBlock W w'∧RowNew W (Value.slice a out.length c).ownBlock (Value.slice a' (out ++ ([⟨k,xa,xb,xn⟩]:List Nd)).length c').ownBlock):=hide fun W hb=>growT (HT.out.below hb) ⟨k,xa,xb,xn⟩ (by omega)
 cases o with
 | false =>
  go_enter Tryz.func111,Tryz.ntmps111
  go_wp2_with (fail)
  go_region_held3 (fun w'=>w'.cell? ⟨w.heap.size,0,none⟩=some (.int .i64 k)∧w'.cell? ⟨w.heap.size,1,none⟩=some (.int .i64 xa)∧w'.cell? ⟨w.heap.size,2,none⟩=some (.int .i64 xb)∧w'.cell? ⟨w.heap.size,3,none⟩=some (.int .i64 xn)) ((first | (with_reducible exact s2) | (refine ⟨?_,?_,?_,?_⟩ <;> (repeat (first | ((with_reducible refine cell_top _ _ _ _ _ _ ?_ ?_);(focus (first | rfl | (simp;done)));exact rfl) | (with_reducible refine cell_drew ?_) | (with_reducible refine cell_under _ _ ?_)))))) (first | (go_at_call 112;refine (HG.out _ ?_).mono ?_;(focus (exact (by repeat (first | exact Below.refl _ _ | assumption | refine below_drewN ?_ _ | refine Below.drew ?_ | refine Below.alloc ?_ (by simp <;> omega) _ | refine below_trans ?_ (by assumption)))));rintro e w2 ⟨rfl,a2,c2,ht2,hgt2,hrn2⟩;have s2:w2.cell? ⟨w.heap.size,0,none⟩=some (.int .i64 k)∧w2.cell? ⟨w.heap.size,1,none⟩=some (.int .i64 xa)∧w2.cell? ⟨w.heap.size,2,none⟩=some (.int .i64 xb)∧w2.cell? ⟨w.heap.size,3,none⟩=some (.int .i64 xn):=⟨hgt2.cell (by (repeat (first | ((with_reducible refine cell_top _ _ _ _ _ _ ?_ ?_);(focus (first | rfl | (simp;done)));exact rfl) | (with_reducible refine cell_drew ?_) | (with_reducible refine cell_under _ _ ?_)))) HN.out.2 HN.out.1,hgt2.cell (by (repeat (first | ((with_reducible refine cell_top _ _ _ _ _ _ ?_ ?_);(focus (first | rfl | (simp;done)));exact rfl) | (with_reducible refine cell_drew ?_) | (with_reducible refine cell_under _ _ ?_)))) HN.out.2 HN.out.1,hgt2.cell (by (repeat (first | ((with_reducible refine cell_top _ _ _ _ _ _ ?_ ?_);(focus (first | rfl | (simp;done)));exact rfl) | (with_reducible refine cell_drew ?_) | (with_reducible refine cell_under _ _ ?_)))) HN.out.2 HN.out.1,hgt2.cell (by (repeat (first | ((with_reducible refine cell_top _ _ _ _ _ _ ?_ ?_);(focus (first | rfl | (simp;done)));exact rfl) | (with_reducible refine cell_drew ?_) | (with_reducible refine cell_under _ _ ?_)))) HN.out.2 HN.out.1⟩;have hgw:=GTf.trans (GTf.of_below (tb:=tb) (row:=(Value.slice a out.length c).ownBlock) (w:=w) (by repeat (first | exact Below.refl _ _ | assumption | refine below_drewN ?_ _ | refine Below.drew ?_ | refine Below.alloc ?_ (by simp <;> omega) _ | refine below_trans ?_ (by assumption)))) hgt2 (Or.inl rfl);have hrw:RowNew w (Value.slice a out.length c).ownBlock (Value.slice a2 (out ++ ([⟨k,xa,xb,xn⟩]:List Nd)).length c2).ownBlock:=RowNew.trans (Or.inl rfl) (by simp <;> omega) hrn2))
  have HF:=hide (And.intro ht2 (And.intro hgw hrw))
  clear ht2 hgw hrw hgt2 hrn2 s2 HG
  go_wp2_with (fail)
  go_ret
  exact ⟨rfl,a2,c2,HF.out.1,HF.out.2.1,by simpa using HF.out.2.2⟩
 | true =>
  go_enter Tryz.func111,Tryz.ntmps111
  go_wp2_with (fail)
  go_region_held3 (fun w'=>w'.cell? ⟨w.heap.size,0,none⟩=some (.int .i64 k)∧w'.cell? ⟨w.heap.size,1,none⟩=some (.int .i64 xa)∧w'.cell? ⟨w.heap.size,2,none⟩=some (.int .i64 xb)∧w'.cell? ⟨w.heap.size,3,none⟩=some (.int .i64 xn)) ((first | (with_reducible exact s2) | (refine ⟨?_,?_,?_,?_⟩ <;> (repeat (first | ((with_reducible refine cell_top _ _ _ _ _ _ ?_ ?_);(focus (first | rfl | (simp;done)));exact rfl) | (with_reducible refine cell_drew ?_) | (with_reducible refine cell_under _ _ ?_)))))) (first | (go_at_call 112;refine (HG.out _ ?_).mono ?_;(focus (exact (by repeat (first | exact Below.refl _ _ | assumption | refine below_drewN ?_ _ | refine Below.drew ?_ | refine Below.alloc ?_ (by simp <;> omega) _ | refine below_trans ?_ (by assumption)))));rintro e w2 ⟨rfl,a2,c2,ht2,hgt2,hrn2⟩;have s2:w2.cell? ⟨w.heap.size,0,none⟩=some (.int .i64 k)∧w2.cell? ⟨w.heap.size,1,none⟩=some (.int .i64 xa)∧w2.cell? ⟨w.heap.size,2,none⟩=some (.int .i64 xb)∧w2.cell? ⟨w.heap.size,3,none⟩=some (.int .i64 xn):=⟨hgt2.cell (by (repeat (first | ((with_reducible refine cell_top _ _ _ _ _ _ ?_ ?_);(focus (first | rfl | (simp;done)));exact rfl) | (with_reducible refine cell_drew ?_) | (with_reducible refine cell_under _ _ ?_)))) HN.out.2 HN.out.1,hgt2.cell (by (repeat (first | ((with_reducible refine cell_top _ _ _ _ _ _ ?_ ?_);(focus (first | rfl | (simp;done)));exact rfl) | (with_reducible refine cell_drew ?_) | (with_reducible refine cell_under _ _ ?_)))) HN.out.2 HN.out.1,hgt2.cell (by (repeat (first | ((with_reducible refine cell_top _ _ _ _ _ _ ?_ ?_);(focus (first | rfl | (simp;done)));exact rfl) | (with_reducible refine cell_drew ?_) | (with_reducible refine cell_under _ _ ?_)))) HN.out.2 HN.out.1,hgt2.cell (by (repeat (first | ((with_reducible refine cell_top _ _ _ _ _ _ ?_ ?_);(focus (first | rfl | (simp;done)));exact rfl) | (with_reducible refine cell_drew ?_) | (with_reducible refine cell_under _ _ ?_)))) HN.out.2 HN.out.1⟩;have hgw:=GTf.trans (GTf.of_below (tb:=tb) (row:=(Value.slice a out.length c).ownBlock) (w:=w) (by repeat (first | exact Below.refl _ _ | assumption | refine below_drewN ?_ _ | refine Below.drew ?_ | refine Below.alloc ?_ (by simp <;> omega) _ | refine below_trans ?_ (by assumption)))) hgt2 (Or.inl rfl);have hrw:RowNew w (Value.slice a out.length c).ownBlock (Value.slice a2 (out ++ ([⟨k,xa,xb,xn⟩]:List Nd)).length c2).ownBlock:=RowNew.trans (Or.inl rfl) (by simp <;> omega) hrn2))
  have HF:=hide (And.intro ht2 (And.intro hgw hrw))
  have HG2:=hide (growT ht2 ⟨3,(out.length:Nat),0,0⟩ (by simp;omega))
  clear ht2 hgw hrw hgt2 hrn2 s2 HG
  go_wp2_with (fail)
  refine HG2.out.mono ?_
  rintro e w3 ⟨rfl,a3,c3,ht3,hgt3,hrn3⟩
  have hgw:=GTf.trans HF.out.2.1 hgt3 HF.out.2.2
  have hrw:=RowNew.trans HF.out.2.2 HF.out.2.1.size hrn3
  rw [List.append_assoc] at ht3 hrw
  have HF3:=hide (And.intro ht3 (And.intro hgw hrw))
  clear ht3 hgw hrw hgt3 hrn3
  go_wp2_with (fail)
  go_ret
  exact ⟨by simp,a3,c3,HF3.out.1,HF3.out.2.1,by simpa using HF3.out.2.2⟩
def rowOf (a:Option Addr):Option Nat:=(Value.slice a 0 0).ownBlock
theorem row_eq (a:Option Addr) (n c:Nat):(Value.slice a n c).ownBlock=rowOf a:=by cases a <;> rfl
theorem TN.far {w:World}{tb r base:Nat}{fv:Value}{F:List Nd}{a:Option Addr}{c:Nat}{out:List Nd} (h:TN w tb r base fv F a c out) (nb o:Nat) (v:Value) (hnb:base≤nb) (hrow:some nb ≠ rowOf a):TN (w.setCell ⟨nb,o,none⟩ v) tb r base fv F a c out:=by
 have h1:=h.lt1
 have h2:=h.lt2
 refine ⟨cell_set_ne (by omega) h.c0,cell_set_ne (by omega) h.c1,cell_set_ne (by omega) h.c2,by rw [World.frozen?_setCell];exact h.soft,heap_set_ne (by omega) h.sg,h.nodes.of_block fun b hb=>set_far w _ _ b (by have:=(h.lt3 b hb).1;show b ≠ nb;omega),?_,by simpa [World.setCell] using h.hb,h.lt1,h.lt2,h.ne2,h.lt3⟩
 refine h.own.kept (row:=some nb) ⟨rfl,rfl,rfl,by simp [World.setCell],fun k hk hne=>set_far w _ _ k (fun e=>hne (by rw [e]))⟩ (Or.inr ?_)
 rw [row_eq]
 exact fun e=>hrow e.symm
theorem GTf.set {tb:Nat}{row:Option Nat}{w w':World} (h:GTf tb row w w') (nb o:Nat) (v:Value) (hnb:w.heap.size≤nb):GTf tb row w (w'.setCell ⟨nb,o,none⟩ v):=
 ⟨h.os,h.tape,h.output,by simpa [World.setCell] using h.size,fun k hk h1 h2=>(set_far w' _ _ k (by show k ≠ nb;omega)).trans (h.block k hk h1 h2)⟩
theorem GTf.frozen {tb:Nat}{row:Option Nat}{w w':World} (h:GTf tb row w w') {b o:Nat} (hb:b < w.heap.size) (h1:b ≠ tb) (h2:some b ≠ row):w'.frozen? ⟨b,o,none⟩=w.frozen? ⟨b,o,none⟩:=World.frozen?_of_block (a:=⟨b,o,none⟩) (h.block b hb h1 h2)
def TurnOk (F:List Nd) (i:Nat):Prop:=∀ (w:World) (tb r base:Nat) (fv:Value) (a:Option Addr) (c:Nat) (out:List Nd) (o:Bool),TN w tb r base fv F a c out→out.length+2 ^ (i+2)≤100000 →
 Calls Tryz.prog 68 #[.pointer (some ⟨tb,0,none⟩),.int .i64 (i:Nat),.bool o] w fun e w'=>e=.returned (.int .i64 (out.length+(fl F i o out.length).length - 1:Nat))∧∃ a' c',TN w' tb r base fv F a' c' (out ++ fl F i o out.length)∧GTf tb (rowOf a) w w'∧RowNew w (rowOf a) (rowOf a')
theorem fl_leaf {F:List Nd} (hF:AllOk F) {i:Nat} (hi:i < F.length) (hk:(F.getD i nd0).k=1 ∨ (F.getD i nd0).k=2) (o:Bool) (m:Nat):fl F i o m=if o=true then [F.getD i nd0,⟨3,(m:Nat),0,0⟩] else [F.getD i nd0]:=by
 rw [fl_eq hF i hi]
 obtain ⟨_,⟨_,_,a2⟩,⟨_,_,b2⟩,_⟩:=node_ok (hF i hi)
 have ha:=a2 (by omega)
 have hb:=b2 (by omega)
 generalize F.getD i nd0=x at *
 obtain ⟨k,xa,xb,xn⟩:=x
 dsimp only at *
 subst ha
 subst hb
 unfold flS
 rw [if_pos hk]
theorem turn_leaf {F:List Nd} (hF:AllOk F) (i:Nat) (hi:i < F.length) (hk:(F.getD i nd0).k=1 ∨ (F.getD i nd0).k=2):TurnOk F i:=by
 intro w tb r base fv a c out o h hlen
 rw [fl_leaf hF hi hk]
 have HT:=hide h
 have hp:1≤2 ^ (i+2):=Nat.one_le_two_pow
 have hol:out.length≤100000:=by omega
 obtain ⟨fa,fc,hfv,hfm,hc,-⟩:=h.nodes
 subst hfv
 rcases hc with hc | ⟨b,off,rfl,hc⟩
 ·rw [hc] at hi;simp at hi
 obtain ⟨d0,d1,d2,d3⟩:=hc i hi
 have hlk0:=(run_lookup_sign (w:=(w.alloc (Obj.cells #[.int .i64 (F.getD i nd0).k,.int .i64 (F.getD i nd0).a,.int .i64 (F.getD i nd0).b,.int .i64 (F.getD i nd0).n] 55)).drew) (h.sg.below (Below.drew (below_new w _))) (F.getD i nd0).k).1
 have hlk1:=(run_lookup_sign (w:=((w.alloc (Obj.cells #[.int .i64 (F.getD i nd0).k,.int .i64 (F.getD i nd0).a,.int .i64 (F.getD i nd0).b,.int .i64 (F.getD i nd0).n] 55)).alloc (Obj.cells #[.string ⟨#[]⟩,.int .i64 0,.bool false,.bool false,.int .i64 0] 141)).drew) (h.sg.below (Below.drew (Below.alloc (below_new w _) (by simp) _))) (F.getD i nd0).k).1
 have hsg:∃ st num,(sgOf (F.getD i nd0).k).getD sg0=⟨st,0,num,false,0⟩:=by
  rcases hk with hk | hk <;> rw [hk] <;> exact ⟨_,_,rfl⟩
 obtain ⟨st,num,hsg⟩:=hsg
 rw [hsg] at hlk0 hlk1
 unfold sgV at hlk0 hlk1
 have c0:=h.c0
 have c1:=h.c1
 have htb:=World.block_lt_of_cell? w _ c0
 dsimp only at htb
 have HLf:=hide (fun W hb=>leafT (h.below (w':=W) hb) (F.getD i nd0) o (by omega))
 have hbk:((F.getD i nd0).k == 3)=false:=by rw [beq_eq_false_iff_ne];omega
 clear hc hlen hsg h
 generalize hll:(if o=true then [F.getD i nd0,⟨3,(out.length:Nat),0,0⟩] else [F.getD i nd0])=ll at *
 generalize hnn:out.length+(if o=true then 1 else 0)=nn at *
 have HNN:Hid (nn=out.length+ll.length - 1):=hide (by rw [← hnn,← hll];cases o <;> simp)
 clear hll hnn
 generalize F.getD i nd0=x at *
 obtain ⟨k,xa,xb,xn⟩:=x
 dsimp only at *
 have z1:tb < w.heap.size+1:=by omega
 have z2:tb < w.heap.size+1+1:=by omega
 go_enter Tryz.func68,Tryz.ntmps68
 go_wp2_with (fail)
 go_region
 all_goals
  go_wp2_with (fail)
  refine (HLf.out _ ?_).mono ?_
  ·exact (by repeat (first | exact Below.refl _ _ | assumption | refine below_drewN ?_ _ | refine Below.drew ?_ | refine Below.alloc ?_ (by simp <;> omega) _ | refine below_trans ?_ (by assumption)))
  rintro e w2 ⟨rfl,a2,c2,ht2,hg2,hr2⟩
  rw [row_eq] at hg2 hr2
  rw [row_eq] at hr2
  have hgw:=GTf.trans (GTf.of_below (tb:=tb) (row:=rowOf a) (w:=w) (by repeat (first | exact Below.refl _ _ | assumption | refine below_drewN ?_ _ | refine Below.drew ?_ | refine Below.alloc ?_ (by simp <;> omega) _ | refine below_trans ?_ (by assumption)))) hg2 (Or.inl rfl)
  have hrw:RowNew w (rowOf a) (rowOf a2):=RowNew.trans (Or.inl rfl) (by simp <;> omega) hr2
  have HF:=hide (And.intro ht2 (And.intro hgw hrw))
  clear ht2 hgw hrw hg2 hr2 HLf hlk0 hlk1
  go_wp2_with (fail)
  go_ret
  exact ⟨ret_eq (by rw [HNN.out]),a2,c2,HF.out⟩
theorem turn_not {F:List Nd} (hF:AllOk F) (i:Nat) (hi:i < F.length) (hk:(F.getD i nd0).k=3) (ih:TurnOk F (F.getD i nd0).a.toNat):TurnOk F i:=by
 intro w tb r base fv a c out o h hlen
 have hfl:fl F i o out.length=fl F (F.getD i nd0).a.toNat (!o) out.length:=by
  rw [fl_eq hF i hi]
  unfold flS
  rw [if_neg (by omega),if_pos hk]
 rw [hfl]
 clear hfl
 have HT:=hide h
 obtain ⟨_,⟨xa0,xa1,_⟩,⟨xb0,xb1,xb2⟩,_⟩:=node_ok (hF i hi)
 have xa3:=xa1 (by omega)
 have hpw:2 ^ ((F.getD i nd0).a.toNat+2)≤2 ^ (i+1):=Nat.pow_le_pow_right (by decide) (by omega)
 have hp2:2 ^ (i+2)=2 * 2 ^ (i+1):=by rw [Nat.pow_succ];omega
 have hol:out.length≤100000:=by omega
 obtain ⟨fa,fc,hfv,hfm,hc,-⟩:=h.nodes
 subst hfv
 rcases hc with hc | ⟨b,off,rfl,hc⟩
 ·rw [hc] at hi;simp at hi
 obtain ⟨d0,d1,d2,d3⟩:=hc i hi
 have hlk0:=(run_lookup_sign (w:=(w.alloc (Obj.cells #[.int .i64 (F.getD i nd0).k,.int .i64 (F.getD i nd0).a,.int .i64 (F.getD i nd0).b,.int .i64 (F.getD i nd0).n] 55)).drew) (h.sg.below (Below.drew (below_new w _))) (F.getD i nd0).k).1
 have hlk1:=(run_lookup_sign (w:=((w.alloc (Obj.cells #[.int .i64 (F.getD i nd0).k,.int .i64 (F.getD i nd0).a,.int .i64 (F.getD i nd0).b,.int .i64 (F.getD i nd0).n] 55)).alloc (Obj.cells #[.string ⟨#[]⟩,.int .i64 0,.bool false,.bool false,.int .i64 0] 141)).drew) (h.sg.below (Below.drew (Below.alloc (below_new w _) (by simp) _))) (F.getD i nd0).k).1
 have hsg:(sgOf (F.getD i nd0).k).getD sg0=⟨[33],1,false,false,0⟩:=by
  rw [hk];rfl
 rw [hsg] at hlk0 hlk1
 unfold sgV at hlk0 hlk1
 have c0:=h.c0
 have c1:=h.c1
 have htb:=World.block_lt_of_cell? w _ c0
 dsimp only at htb
 have HI:Hid (∀ W,Below w.heap.size w W→_):=hide fun W hb=>ih W tb r base (.slice (some ⟨b,off,none⟩) F.length fc) a c out (!o) (h.below hb) (by omega)
 have ea:((F.getD i nd0).a.toNat:Int)=(F.getD i nd0).a:=by omega
 rw [ea] at HI
 generalize fl F (F.getD i nd0).a.toNat (!o) out.length=L at *
 have HN:=hide hlen
 clear hc hlen hsg h ea ih hpw hp2 xa0 xa1 xa3 xb0 xb1 xb2
 generalize F.getD i nd0=x at *
 obtain ⟨k,xa,xb,xn⟩:=x
 dsimp only at *
 subst hk
 have z1:tb < w.heap.size+1:=by omega
 have z2:tb < w.heap.size+1+1:=by omega
 go_enter Tryz.func68,Tryz.ntmps68
 go_wp2_with (fail)
 go_region
 all_goals
  go_wp2_with (fail)
  refine (HI.out _ ?_).mono ?_
  ·exact (by repeat (first | exact Below.refl _ _ | assumption | refine below_drewN ?_ _ | refine Below.drew ?_ | refine Below.alloc ?_ (by simp <;> omega) _ | refine below_trans ?_ (by assumption)))
  rintro e w2 ⟨rfl,a2,c2,ht2,hg2,hr2⟩
  have hgw:=GTf.trans (GTf.of_below (tb:=tb) (row:=rowOf a) (w:=w) (by repeat (first | exact Below.refl _ _ | assumption | refine below_drewN ?_ _ | refine Below.drew ?_ | refine Below.alloc ?_ (by simp <;> omega) _ | refine below_trans ?_ (by assumption)))) hg2 (Or.inl rfl)
  have hrw:RowNew w (rowOf a) (rowOf a2):=RowNew.trans (Or.inl rfl) (by simp <;> omega) hr2
  have HF:=hide (And.intro ht2 (And.intro hgw hrw))
  clear ht2 hgw hrw hg2 hr2 HI hlk0 hlk1
  go_wp2_with (fail)
  go_ret
  exact ⟨rfl,a2,c2,HF.out⟩
theorem node_n0 {x:Nd}{m:Nat} (h:nodeErr x m=0) (hk:x.k ≠ 2):x.n=0:=by
 unfold nodeErr at h
 by_cases h1:1≤x.k∧x.k≤8
 ·rw [if_pos h1] at h
  unfold chkN at h
  split at h
  ·omega
  ·split at h
   ·omega
   ·split at h
    ·omega
    ·omega
 ·rw [if_neg h1] at h;omega
theorem row_ne_new {w:World}{row row':Option Nat}{j:Nat} (h:RowNew w row row') (h1:some j ≠ row) (h2:j < w.heap.size):some j ≠ row':=by
 rcases h with h | h
 ·rw [h];exact h1
 ·intro e
  have:=h j e.symm
  omega
theorem boxes_fresh {w:World}{tb r base:Nat}{fv:Value}{F:List Nd}{a:Option Addr}{c:Nat}{out:List Nd} (h:TN w tb r base fv F a c out) (j:Nat) (hj:w.heap.size≤j):some j ≠ rowOf a∧j ≠ tb∧base≤j:=by
 refine ⟨fun e=>?_,?_,Nat.le_trans h.hb hj⟩
 ·rw [← row_eq a out.length c] at e
  have:=(h.own.lt _ e.symm).2
  omega
 ·have:=h.lt1
  have:=h.hb
  omega
theorem turn_next {F:List Nd} (hF:AllOk F) (i:Nat) (hi:i < F.length) (hk:(F.getD i nd0).k=6) (ih:TurnOk F (F.getD i nd0).a.toNat):TurnOk F i:=by
 intro w tb r base fv a c out o h hlen
 have hfl:fl F i o out.length=fl F (F.getD i nd0).a.toNat o out.length ++ [⟨6,(out.length+(fl F (F.getD i nd0).a.toNat o out.length).length - 1:Nat),0,0⟩]:=by
  rw [fl_eq hF i hi]
  unfold flS
  rw [if_neg (by omega),if_neg (by omega),if_pos hk]
 rw [hfl]
 clear hfl
 have HT:=hide h
 obtain ⟨_,⟨xa0,xa1,_⟩,⟨xb0,xb1,xb2⟩,_⟩:=node_ok (hF i hi)
 have xa3:=xa1 (by omega)
 have hpw:2 ^ ((F.getD i nd0).a.toNat+2)≤2 ^ (i+1):=Nat.pow_le_pow_right (by decide) (by omega)
 have hp2:2 ^ (i+2)=2 * 2 ^ (i+1):=by rw [Nat.pow_succ];omega
 have hol:out.length≤100000:=by omega
 obtain ⟨fa,fc,hfv,hfm,hc,-⟩:=h.nodes
 subst hfv
 rcases hc with hc | ⟨b,off,rfl,hc⟩
 ·rw [hc] at hi;simp at hi
 obtain ⟨d0,d1,d2,d3⟩:=hc i hi
 have hlk0:=(run_lookup_sign (w:=(w.alloc (Obj.cells #[.int .i64 (F.getD i nd0).k,.int .i64 (F.getD i nd0).a,.int .i64 (F.getD i nd0).b,.int .i64 (F.getD i nd0).n] 55)).drew) (h.sg.below (Below.drew (below_new w _))) (F.getD i nd0).k).1
 have hlk1:=(run_lookup_sign (w:=((w.alloc (Obj.cells #[.int .i64 (F.getD i nd0).k,.int .i64 (F.getD i nd0).a,.int .i64 (F.getD i nd0).b,.int .i64 (F.getD i nd0).n] 55)).alloc (Obj.cells #[.string ⟨#[]⟩,.int .i64 0,.bool false,.bool false,.int .i64 0] 141)).drew) (h.sg.below (Below.drew (Below.alloc (below_new w _) (by simp) _))) (F.getD i nd0).k).1
 have hsg:(sgOf (F.getD i nd0).k).getD sg0=⟨[88],1,false,true,6⟩:=by
  rw [hk];rfl
 rw [hsg] at hlk0 hlk1
 unfold sgV at hlk0 hlk1
 have c0:=h.c0
 have c1:=h.c1
 have htb:=World.block_lt_of_cell? w _ c0
 dsimp only at htb
 have hxb:=xb2 (by omega)
 have hxn:=node_n0 (hF i hi) (by omega)
 have hll:=(fl_len hF (F.getD i nd0).a.toNat (by omega) o out.length).2
 have HI:Hid (∀ W,Below w.heap.size w W→_):=hide fun W hb=>ih W tb r base (.slice (some ⟨b,off,none⟩) F.length fc) a c out o (h.below hb) (by omega)
 have ea:((F.getD i nd0).a.toNat:Int)=(F.getD i nd0).a:=by omega
 rw [ea] at HI
 have hLb:out.length+(fl F (F.getD i nd0).a.toNat o out.length).length≤200000:=by omega
 generalize fl F (F.getD i nd0).a.toNat o out.length=L at *
 obtain ⟨hL0,_⟩:=hll
 have HB:=hide (fun j hj=>boxes_fresh h j hj)
 clear hc hlen hsg h ea ih hpw hp2 xa0 xa1 xa3 xb0 xb1 xb2
 generalize F.getD i nd0=x at *
 obtain ⟨k,xa,xb,xn⟩:=x
 dsimp only at *
 subst hk
 subst hxb
 subst hxn
 have z1:tb < w.heap.size+1:=by omega
 have z2:tb < w.heap.size+1+1:=by omega
 cases o
 ·go_enter Tryz.func68,Tryz.ntmps68
  go_wp2_with (fail)
  go_region
  all_goals
   go_wp2_with (fail)
   refine (HI.out _ ?_).mono ?_
   ·exact (by repeat (first | exact Below.refl _ _ | assumption | refine below_drewN ?_ _ | refine Below.drew ?_ | refine Below.alloc ?_ (by simp <;> omega) _ | refine below_trans ?_ (by assumption)))
   rintro e w2 ⟨rfl,a2,c2,ht2,hg2,hr2⟩
   have n0:=hg2.cell (b:=w.heap.size) (o:=0) (v:=.int .i64 6) (by (repeat (first | ((with_reducible refine cell_top _ _ _ _ _ _ ?_ ?_);(focus (first | rfl | (simp;done)));exact rfl) | (with_reducible refine cell_drew ?_) | (with_reducible refine cell_under _ _ ?_)))) (HB.out _ (by omega)).2.1 (HB.out _ (by omega)).1
   have n1:=hg2.cell (b:=w.heap.size) (o:=1) (v:=.int .i64 xa) (by (repeat (first | ((with_reducible refine cell_top _ _ _ _ _ _ ?_ ?_);(focus (first | rfl | (simp;done)));exact rfl) | (with_reducible refine cell_drew ?_) | (with_reducible refine cell_under _ _ ?_)))) (HB.out _ (by omega)).2.1 (HB.out _ (by omega)).1
   have n2:=hg2.cell (b:=w.heap.size) (o:=2) (v:=.int .i64 0) (by (repeat (first | ((with_reducible refine cell_top _ _ _ _ _ _ ?_ ?_);(focus (first | rfl | (simp;done)));exact rfl) | (with_reducible refine cell_drew ?_) | (with_reducible refine cell_under _ _ ?_)))) (HB.out _ (by omega)).2.1 (HB.out _ (by omega)).1
   have n3:=hg2.cell (b:=w.heap.size) (o:=3) (v:=.int .i64 0) (by (repeat (first | ((with_reducible refine cell_top _ _ _ _ _ _ ?_ ?_);(focus (first | rfl | (simp;done)));exact rfl) | (with_reducible refine cell_drew ?_) | (with_reducible refine cell_under _ _ ?_)))) (HB.out _ (by omega)).2.1 (HB.out _ (by omega)).1
   have m1:=hg2.cell (b:=w.heap.size+1) (o:=1) (v:=.int .i64 1) (by (repeat (first | ((with_reducible refine cell_top _ _ _ _ _ _ ?_ ?_);(focus (first | rfl | (simp;done)));exact rfl) | (with_reducible refine cell_drew ?_) | (with_reducible refine cell_under _ _ ?_)))) (HB.out _ (by omega)).2.1 (HB.out _ (by omega)).1
   have nf:w2.frozen? ⟨w.heap.size,1,none⟩=false:=(hg2.frozen (b:=w.heap.size) (o:=1) (by simp <;> omega) (HB.out _ (by omega)).2.1 (HB.out _ (by omega)).1).trans (frozen_of_row _ _ _ _ _ (by (repeat (first | ((with_reducible refine heap_top _ _ _ ?_);(focus (first | rfl | (simp;done)))) | (with_reducible refine heap_drew ?_) | (with_reducible refine heap_under _ ?_)))))
   have hne2:=row_ne_new hr2 (j:=w.heap.size) (HB.out _ (by omega)).1 (by simp <;> omega)
   have hgw:=GTf.trans (GTf.of_below (tb:=tb) (row:=rowOf a) (w:=w) (by repeat (first | exact Below.refl _ _ | assumption | refine below_drewN ?_ _ | refine Below.drew ?_ | refine Below.alloc ?_ (by simp <;> omega) _ | refine below_trans ?_ (by assumption)))) hg2 (Or.inl rfl)
   have hrw:RowNew w (rowOf a) (rowOf a2):=RowNew.trans (Or.inl rfl) (by simp <;> omega) hr2
   have ht3:=ht2.far w.heap.size 1 (.int .i64 (out.length+L.length - 1:Nat)) (HB.out _ (by omega)).2.2 hne2
   have hg3:=hgw.set w.heap.size 1 (.int .i64 (out.length+L.length - 1:Nat)) (Nat.le_refl _)
   obtain ⟨w3,hw3⟩:∃ w3,w3=w2.setCell ⟨w.heap.size,1,none⟩ (.int .i64 (out.length+L.length - 1:Nat)):=⟨_,rfl⟩
   have s3:w3.cell? ⟨w.heap.size,0,none⟩=some (.int .i64 6)∧w3.cell? ⟨w.heap.size,1,none⟩=some (.int .i64 (out.length+L.length - 1:Nat))∧w3.cell? ⟨w.heap.size,2,none⟩=some (.int .i64 0)∧w3.cell? ⟨w.heap.size,3,none⟩=some (.int .i64 0):=by
    rw [hw3]
    exact ⟨cell_set_off (by decide) n0,cell_set_eq n1,cell_set_off (by decide) n2,cell_set_off (by decide) n3⟩
   rw [← hw3] at ht3 hg3
   have hwb:w.heap.size < w3.heap.size:=World.block_lt_of_cell? w3 _ s3.1
   have HGr:=hide (fun W hb=>growT (ht3.below (w':=W) hb) ⟨6,(out.length+L.length - 1:Nat),0,0⟩ (by simp;omega))
   have HH3:=hide (And.intro hg3 (And.intro hrw hne2))
   clear ht2 hg2 hr2 hgw hrw ht3 hg3 HI hlk0 hlk1 hne2 n0 n2 n3
   go_wp2_with (fail)
   rw [← hw3]
   clear hw3 n1 m1 nf
   go_region_held3 (fun w'=>w'.cell? ⟨w.heap.size,0,none⟩=some (.int .i64 6)∧w'.cell? ⟨w.heap.size,1,none⟩=some (.int .i64 (out.length+L.length - 1:Nat))∧w'.cell? ⟨w.heap.size,2,none⟩=some (.int .i64 0)∧w'.cell? ⟨w.heap.size,3,none⟩=some (.int .i64 0)) (first | (with_reducible exact s4) | (exact ⟨cell_drew s3.1,cell_drew s3.2.1,cell_drew s3.2.2.1,cell_drew s3.2.2.2⟩) | (exact s3)) (first | (go_at_call 112;refine (HGr.out _ ?_).mono ?_;(focus (exact Below.drew (Below.refl _ _)));rintro e w4 ⟨rfl,a4,c4,ht4,hg4,hr4⟩;rw [row_eq] at hg4 hr4;rw [row_eq] at hr4;have s4:w4.cell? ⟨w.heap.size,0,none⟩=some (.int .i64 6)∧w4.cell? ⟨w.heap.size,1,none⟩=some (.int .i64 (out.length+L.length - 1:Nat))∧w4.cell? ⟨w.heap.size,2,none⟩=some (.int .i64 0)∧w4.cell? ⟨w.heap.size,3,none⟩=some (.int .i64 0):=⟨hg4.cell (cell_drew s3.1) (HB.out _ (by omega)).2.1 HH3.out.2.2,hg4.cell (cell_drew s3.2.1) (HB.out _ (by omega)).2.1 HH3.out.2.2,hg4.cell (cell_drew s3.2.2.1) (HB.out _ (by omega)).2.1 HH3.out.2.2,hg4.cell (cell_drew s3.2.2.2) (HB.out _ (by omega)).2.1 HH3.out.2.2⟩;have hg5:=GTf.trans (GTf.of_below (tb:=tb) (row:=rowOf a2) (w:=w3) (Below.drew (Below.refl _ _))) hg4 (Or.inl rfl);have hgw:=GTf.trans HH3.out.1 hg5 HH3.out.2.1;have hrw:=RowNew.trans HH3.out.2.1 HH3.out.1.size hr4))
   rw [List.append_assoc] at ht4
   have HF:=hide (And.intro ht4 (And.intro hgw hrw))
   clear ht4 hgw hrw hg4 hg5 hr4 s4 s3 HGr
   go_wp2_with (fail)
   go_ret
   exact ⟨ret_eq (by simp),a4,c4,HF.out⟩
 ·go_enter Tryz.func68,Tryz.ntmps68
  go_wp2_with (fail)
  go_region
  all_goals
   go_wp2_with (fail)
   refine (HI.out _ ?_).mono ?_
   ·exact (by repeat (first | exact Below.refl _ _ | assumption | refine below_drewN ?_ _ | refine Below.drew ?_ | refine Below.alloc ?_ (by simp <;> omega) _ | refine below_trans ?_ (by assumption)))
   rintro e w2 ⟨rfl,a2,c2,ht2,hg2,hr2⟩
   have n0:=hg2.cell (b:=w.heap.size) (o:=0) (v:=.int .i64 6) (by (repeat (first | ((with_reducible refine cell_top _ _ _ _ _ _ ?_ ?_);(focus (first | rfl | (simp;done)));exact rfl) | (with_reducible refine cell_drew ?_) | (with_reducible refine cell_under _ _ ?_)))) (HB.out _ (by omega)).2.1 (HB.out _ (by omega)).1
   have n1:=hg2.cell (b:=w.heap.size) (o:=1) (v:=.int .i64 xa) (by (repeat (first | ((with_reducible refine cell_top _ _ _ _ _ _ ?_ ?_);(focus (first | rfl | (simp;done)));exact rfl) | (with_reducible refine cell_drew ?_) | (with_reducible refine cell_under _ _ ?_)))) (HB.out _ (by omega)).2.1 (HB.out _ (by omega)).1
   have n2:=hg2.cell (b:=w.heap.size) (o:=2) (v:=.int .i64 0) (by (repeat (first | ((with_reducible refine cell_top _ _ _ _ _ _ ?_ ?_);(focus (first | rfl | (simp;done)));exact rfl) | (with_reducible refine cell_drew ?_) | (with_reducible refine cell_under _ _ ?_)))) (HB.out _ (by omega)).2.1 (HB.out _ (by omega)).1
   have n3:=hg2.cell (b:=w.heap.size) (o:=3) (v:=.int .i64 0) (by (repeat (first | ((with_reducible refine cell_top _ _ _ _ _ _ ?_ ?_);(focus (first | rfl | (simp;done)));exact rfl) | (with_reducible refine cell_drew ?_) | (with_reducible refine cell_under _ _ ?_)))) (HB.out _ (by omega)).2.1 (HB.out _ (by omega)).1
   have m1:=hg2.cell (b:=w.heap.size+1) (o:=1) (v:=.int .i64 1) (by (repeat (first | ((with_reducible refine cell_top _ _ _ _ _ _ ?_ ?_);(focus (first | rfl | (simp;done)));exact rfl) | (with_reducible refine cell_drew ?_) | (with_reducible refine cell_under _ _ ?_)))) (HB.out _ (by omega)).2.1 (HB.out _ (by omega)).1
   have nf:w2.frozen? ⟨w.heap.size,1,none⟩=false:=(hg2.frozen (b:=w.heap.size) (o:=1) (by simp <;> omega) (HB.out _ (by omega)).2.1 (HB.out _ (by omega)).1).trans (frozen_of_row _ _ _ _ _ (by (repeat (first | ((with_reducible refine heap_top _ _ _ ?_);(focus (first | rfl | (simp;done)))) | (with_reducible refine heap_drew ?_) | (with_reducible refine heap_under _ ?_)))))
   have hne2:=row_ne_new hr2 (j:=w.heap.size) (HB.out _ (by omega)).1 (by simp <;> omega)
   have hgw:=GTf.trans (GTf.of_below (tb:=tb) (row:=rowOf a) (w:=w) (by repeat (first | exact Below.refl _ _ | assumption | refine below_drewN ?_ _ | refine Below.drew ?_ | refine Below.alloc ?_ (by simp <;> omega) _ | refine below_trans ?_ (by assumption)))) hg2 (Or.inl rfl)
   have hrw:RowNew w (rowOf a) (rowOf a2):=RowNew.trans (Or.inl rfl) (by simp <;> omega) hr2
   have ht3:=ht2.far w.heap.size 1 (.int .i64 (out.length+L.length - 1:Nat)) (HB.out _ (by omega)).2.2 hne2
   have hg3:=hgw.set w.heap.size 1 (.int .i64 (out.length+L.length - 1:Nat)) (Nat.le_refl _)
   obtain ⟨w3,hw3⟩:∃ w3,w3=w2.setCell ⟨w.heap.size,1,none⟩ (.int .i64 (out.length+L.length - 1:Nat)):=⟨_,rfl⟩
   have s3:w3.cell? ⟨w.heap.size,0,none⟩=some (.int .i64 6)∧w3.cell? ⟨w.heap.size,1,none⟩=some (.int .i64 (out.length+L.length - 1:Nat))∧w3.cell? ⟨w.heap.size,2,none⟩=some (.int .i64 0)∧w3.cell? ⟨w.heap.size,3,none⟩=some (.int .i64 0):=by
    rw [hw3]
    exact ⟨cell_set_off (by decide) n0,cell_set_eq n1,cell_set_off (by decide) n2,cell_set_off (by decide) n3⟩
   rw [← hw3] at ht3 hg3
   have hwb:w.heap.size < w3.heap.size:=World.block_lt_of_cell? w3 _ s3.1
   have HGr:=hide (fun W hb=>growT (ht3.below (w':=W) hb) ⟨6,(out.length+L.length - 1:Nat),0,0⟩ (by simp;omega))
   have HH3:=hide (And.intro hg3 (And.intro hrw hne2))
   clear ht2 hg2 hr2 hgw hrw ht3 hg3 HI hlk0 hlk1 hne2 n0 n2 n3
   go_wp2_with (fail)
   rw [← hw3]
   clear hw3 n1 m1 nf
   go_region_held3 (fun w'=>w'.cell? ⟨w.heap.size,0,none⟩=some (.int .i64 6)∧w'.cell? ⟨w.heap.size,1,none⟩=some (.int .i64 (out.length+L.length - 1:Nat))∧w'.cell? ⟨w.heap.size,2,none⟩=some (.int .i64 0)∧w'.cell? ⟨w.heap.size,3,none⟩=some (.int .i64 0)) (first | (with_reducible exact s4) | (exact ⟨cell_drew s3.1,cell_drew s3.2.1,cell_drew s3.2.2.1,cell_drew s3.2.2.2⟩) | (exact s3)) (first | (go_at_call 112;refine (HGr.out _ ?_).mono ?_;(focus (exact Below.drew (Below.refl _ _)));rintro e w4 ⟨rfl,a4,c4,ht4,hg4,hr4⟩;rw [row_eq] at hg4 hr4;rw [row_eq] at hr4;have s4:w4.cell? ⟨w.heap.size,0,none⟩=some (.int .i64 6)∧w4.cell? ⟨w.heap.size,1,none⟩=some (.int .i64 (out.length+L.length - 1:Nat))∧w4.cell? ⟨w.heap.size,2,none⟩=some (.int .i64 0)∧w4.cell? ⟨w.heap.size,3,none⟩=some (.int .i64 0):=⟨hg4.cell (cell_drew s3.1) (HB.out _ (by omega)).2.1 HH3.out.2.2,hg4.cell (cell_drew s3.2.1) (HB.out _ (by omega)).2.1 HH3.out.2.2,hg4.cell (cell_drew s3.2.2.1) (HB.out _ (by omega)).2.1 HH3.out.2.2,hg4.cell (cell_drew s3.2.2.2) (HB.out _ (by omega)).2.1 HH3.out.2.2⟩;have hg5:=GTf.trans (GTf.of_below (tb:=tb) (row:=rowOf a2) (w:=w3) (Below.drew (Below.refl _ _))) hg4 (Or.inl rfl);have hgw:=GTf.trans HH3.out.1 hg5 HH3.out.2.1;have hrw:=RowNew.trans HH3.out.2.1 HH3.out.1.size hr4))
   rw [List.append_assoc] at ht4
   have HF:=hide (And.intro ht4 (And.intro hgw hrw))
   clear ht4 hgw hrw hg4 hg5 hr4 s4 s3 HGr
   go_wp2_with (fail)
   go_ret
   exact ⟨ret_eq (by simp),a4,c4,HF.out⟩
end Go.Proofs.YtpiacnnifdjlkabGreatDoor
