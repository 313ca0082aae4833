import Derived.Test.YtpiacnnifdjlkabGreatDoorFg
import Derived.Test.YtpiacnnifdjlkabGreatDoorTc
set_option maxRecDepth 100000
set_option maxHeartbeats 8000000
namespace Go.Proofs.YtpiacnnifdjlkabGreatDoor
open Go.RowKit Go.Sort
theorem turn_two {F:List Nd} (hF:AllOk F) (i:Nat) (hi:i < F.length) (hk:(F.getD i nd0).k=4 ∨ (F.getD i nd0).k=5 ∨ (F.getD i nd0).k=7 ∨ (F.getD i nd0).k=8) (ih:TurnOk F (F.getD i nd0).a.toNat) (ihb:TurnOk F (F.getD i nd0).b.toNat):TurnOk F i:=by
 intro w tb r base fv a c out o h hlen
 have hfl:fl F i o out.length=fl F (F.getD i nd0).a.toNat o out.length ++ (fl F (F.getD i nd0).b.toNat o (out.length+(fl F (F.getD i nd0).a.toNat o out.length).length) ++ [⟨if o=true then oppK (F.getD i nd0).k else (F.getD i nd0).k,(out.length+(fl F (F.getD i nd0).a.toNat o out.length).length - 1:Nat),(out.length+(fl F (F.getD i nd0).a.toNat o out.length).length+(fl F (F.getD i nd0).b.toNat o (out.length+(fl F (F.getD i nd0).a.toNat o out.length).length)).length - 1:Nat),0⟩]):=by
  rw [fl_eq hF i hi]
  unfold flS
  rw [if_neg (by omega),if_neg (by omega),if_neg (by omega)]
 rw [hfl]
 clear hfl
 have HT:=hide h
 obtain ⟨_,⟨xa0,xa1,_⟩,⟨xb0,xb1,xb2⟩,_⟩:=node_ok (hF i hi)
 have xa3:=xa1 (by omega)
 have hpw:2 ^ ((F.getD i nd0).a.toNat+2)≤2 ^ (i+1):=Nat.pow_le_pow_right (by decide) (by omega)
 have hp2:2 ^ (i+2)=2 * 2 ^ (i+1):=by rw [Nat.pow_succ];omega
 have hol:out.length≤100000:=by omega
 obtain ⟨fa,fc,hfv,hfm,hc,-⟩:=h.nodes
 subst hfv
 rcases hc with hc | ⟨b,off,rfl,hc⟩
 ·rw [hc] at hi;simp at hi
 obtain ⟨d0,d1,d2,d3⟩:=hc i hi
 have hlk0:=(run_lookup_sign (w:=(w.alloc (Obj.cells #[.int .i64 (F.getD i nd0).k,.int .i64 (F.getD i nd0).a,.int .i64 (F.getD i nd0).b,.int .i64 (F.getD i nd0).n] 55)).drew) (h.sg.below (Below.drew (below_new w _))) (F.getD i nd0).k).1
 have hlk1:=(run_lookup_sign (w:=((w.alloc (Obj.cells #[.int .i64 (F.getD i nd0).k,.int .i64 (F.getD i nd0).a,.int .i64 (F.getD i nd0).b,.int .i64 (F.getD i nd0).n] 55)).alloc (Obj.cells #[.string ⟨#[]⟩,.int .i64 0,.bool false,.bool false,.int .i64 0] 141)).drew) (h.sg.below (Below.drew (Below.alloc (below_new w _) (by simp) _))) (F.getD i nd0).k).1
 have hsg:∃ st tp,(sgOf (F.getD i nd0).k).getD sg0=⟨st,2,false,tp,oppK (F.getD i nd0).k⟩:=by
  rcases hk with hk | hk | hk | hk <;> rw [hk] <;> exact ⟨_,_,rfl⟩
 obtain ⟨st,tp,hsg⟩:=hsg
 rw [hsg] at hlk0 hlk1
 unfold sgV at hlk0 hlk1
 have c0:=h.c0
 have c1:=h.c1
 have htb:=World.block_lt_of_cell? w _ c0
 dsimp only at htb
 have xb3:=xb1 hk
 have hpwb:2 ^ ((F.getD i nd0).b.toNat+2)≤2 ^ (i+1):=Nat.pow_le_pow_right (by decide) (by omega)
 have hxn:=node_n0 (hF i hi) (by omega)
 have hll:=(fl_len hF (F.getD i nd0).a.toNat (by omega) o out.length).2
 have hllb:=(fl_len hF (F.getD i nd0).b.toNat (by omega) o (out.length+(fl F (F.getD i nd0).a.toNat o out.length).length)).2
 have HI:Hid (∀ W,Below w.heap.size w W→_):=hide fun W hb=>ih W tb r base (.slice (some ⟨b,off,none⟩) F.length fc) a c out o (h.below hb) (by omega)
 have HIb:Hid (∀ W a2 c2,TN W tb r base (.slice (some ⟨b,off,none⟩) F.length fc) F a2 c2 (out ++ fl F (F.getD i nd0).a.toNat o out.length)→_):=hide fun W a2 c2 ht=>ihb W tb r base (.slice (some ⟨b,off,none⟩) F.length fc) a2 c2 (out ++ fl F (F.getD i nd0).a.toNat o out.length) o ht (by rw [List.length_append];omega)
 have ea:((F.getD i nd0).a.toNat:Int)=(F.getD i nd0).a:=by omega
 have eb:((F.getD i nd0).b.toNat:Int)=(F.getD i nd0).b:=by omega
 rw [ea] at HI
 rw [eb] at HIb
 simp only [List.length_append] at HIb
 have hLb:out.length+(fl F (F.getD i nd0).a.toNat o out.length).length+(fl F (F.getD i nd0).b.toNat o (out.length+(fl F (F.getD i nd0).a.toNat o out.length).length)).length≤200000:=by omega
 generalize fl F (F.getD i nd0).b.toNat o (out.length+(fl F (F.getD i nd0).a.toNat o out.length).length)=M at *
 generalize fl F (F.getD i nd0).a.toNat o out.length=L at *
 obtain ⟨hL0,_⟩:=hll
 obtain ⟨hM0,_⟩:=hllb
 have HB:=hide (fun j hj=>boxes_fresh h j hj)
 have hk3:((F.getD i nd0).k == 3)=false:=by rw [beq_eq_false_iff_ne];omega
 clear hc hlen hsg h ea eb ih ihb hpw hpwb hp2 xa0 xa1 xa3 xb0 xb1 xb2 xb3 hk
 generalize F.getD i nd0=x at *
 obtain ⟨k,xa,xb,xn⟩:=x
 dsimp only at *
 subst hxn
 generalize oppK k=kk at *
 have z1:tb < w.heap.size+1:=by omega
 have z2:tb < w.heap.size+1+1:=by omega
 cases o
 ·go_enter Tryz.func68,Tryz.ntmps68
  go_wp2_with (fail)
  go_region
  all_goals
   go_wp2_with (fail)
   refine (HI.out _ ?_).mono ?_
   ·exact (by repeat (first | exact Below.refl _ _ | assumption | refine below_drewN ?_ _ | refine Below.drew ?_ | refine Below.alloc ?_ (by simp <;> omega) _ | refine below_trans ?_ (by assumption)))
   rintro e w2 ⟨rfl,a2,c2,ht2,hg2,hr2⟩
   have n0:=hg2.cell (b:=w.heap.size) (o:=0) (v:=.int .i64 k) (by (repeat (first | ((with_reducible refine cell_top _ _ _ _ _ _ ?_ ?_);(focus (first | rfl | (simp;done)));exact rfl) | (with_reducible refine cell_drew ?_) | (with_reducible refine cell_under _ _ ?_)))) (HB.out _ (by omega)).2.1 (HB.out _ (by omega)).1
   have n1:=hg2.cell (b:=w.heap.size) (o:=1) (v:=.int .i64 xa) (by (repeat (first | ((with_reducible refine cell_top _ _ _ _ _ _ ?_ ?_);(focus (first | rfl | (simp;done)));exact rfl) | (with_reducible refine cell_drew ?_) | (with_reducible refine cell_under _ _ ?_)))) (HB.out _ (by omega)).2.1 (HB.out _ (by omega)).1
   have n2:=hg2.cell (b:=w.heap.size) (o:=2) (v:=.int .i64 xb) (by (repeat (first | ((with_reducible refine cell_top _ _ _ _ _ _ ?_ ?_);(focus (first | rfl | (simp;done)));exact rfl) | (with_reducible refine cell_drew ?_) | (with_reducible refine cell_under _ _ ?_)))) (HB.out _ (by omega)).2.1 (HB.out _ (by omega)).1
   have n3:=hg2.cell (b:=w.heap.size) (o:=3) (v:=.int .i64 0) (by (repeat (first | ((with_reducible refine cell_top _ _ _ _ _ _ ?_ ?_);(focus (first | rfl | (simp;done)));exact rfl) | (with_reducible refine cell_drew ?_) | (with_reducible refine cell_under _ _ ?_)))) (HB.out _ (by omega)).2.1 (HB.out _ (by omega)).1
   have m1:=hg2.cell (b:=w.heap.size+1) (o:=1) (v:=.int .i64 2) (by (repeat (first | ((with_reducible refine cell_top _ _ _ _ _ _ ?_ ?_);(focus (first | rfl | (simp;done)));exact rfl) | (with_reducible refine cell_drew ?_) | (with_reducible refine cell_under _ _ ?_)))) (HB.out _ (by omega)).2.1 (HB.out _ (by omega)).1
   have nf:∀ o,w2.frozen? ⟨w.heap.size,o,none⟩=false:=fun o=>(hg2.frozen (b:=w.heap.size) (o:=o) (by simp <;> omega) (HB.out _ (by omega)).2.1 (HB.out _ (by omega)).1).trans (frozen_of_row _ _ _ _ _ (by (repeat (first | ((with_reducible refine heap_top _ _ _ ?_);(focus (first | rfl | (simp;done)))) | (with_reducible refine heap_drew ?_) | (with_reducible refine heap_under _ ?_)))))
   have hne2:=row_ne_new hr2 (j:=w.heap.size) (HB.out _ (by omega)).1 (by simp <;> omega)
   have hne2':=row_ne_new hr2 (j:=w.heap.size+1) (HB.out _ (by omega)).1 (by simp <;> omega)
   have hgw:=GTf.trans (GTf.of_below (tb:=tb) (row:=rowOf a) (w:=w) (by repeat (first | exact Below.refl _ _ | assumption | refine below_drewN ?_ _ | refine Below.drew ?_ | refine Below.alloc ?_ (by simp <;> omega) _ | refine below_trans ?_ (by assumption)))) hg2 (Or.inl rfl)
   have hrw:RowNew w (rowOf a) (rowOf a2):=RowNew.trans (Or.inl rfl) (by simp <;> omega) hr2
   have ht3:=ht2.far w.heap.size 1 (.int .i64 (out.length+L.length - 1:Nat)) (HB.out _ (by omega)).2.2 hne2
   have hg3:=hgw.set w.heap.size 1 (.int .i64 (out.length+L.length - 1:Nat)) (Nat.le_refl _)
   obtain ⟨w3,hw3⟩:∃ w3,w3=w2.setCell ⟨w.heap.size,1,none⟩ (.int .i64 (out.length+L.length - 1:Nat)):=⟨_,rfl⟩
   have p0:w3.cell? ⟨w.heap.size,0,none⟩=some (.int .i64 k):=by rw [hw3];exact cell_set_off (by decide) n0
   have p1:w3.cell? ⟨w.heap.size,1,none⟩=some (.int .i64 (out.length+L.length - 1:Nat)):=by rw [hw3];exact cell_set_eq n1
   have p2:w3.cell? ⟨w.heap.size,2,none⟩=some (.int .i64 xb):=by rw [hw3];exact cell_set_off (by decide) n2
   have p3:w3.cell? ⟨w.heap.size,3,none⟩=some (.int .i64 0):=by rw [hw3];exact cell_set_off (by decide) n3
   have pf:∀ o,w3.frozen? ⟨w.heap.size,o,none⟩=false:=fun o=>by rw [hw3,World.frozen?_setCell];exact nf o
   have nf1:=nf 1
   rw [← hw3] at ht3 hg3
   have hwb:w.heap.size < w3.heap.size:=World.block_lt_of_cell? w3 _ p0
   have HI2:=hide (HIb.out w3 a2 c2 ht3)
   have HH3:=hide (And.intro hg3 (And.intro hrw hne2))
   clear ht2 hg2 hr2 hgw hrw ht3 hg3 HI HIb hlk0 hlk1 hne2 hne2' n0 n3 nf
   go_wp2_with (fail)
   rw [← hw3]
   clear hw3 n1 n2 m1 nf1
   refine HI2.out.mono ?_
   rintro e w4 ⟨rfl,a4,c4,ht4,hg4,hr4⟩
   have o0:=hg4.cell p0 (HB.out _ (by omega)).2.1 HH3.out.2.2
   have o1:=hg4.cell p1 (HB.out _ (by omega)).2.1 HH3.out.2.2
   have o2:=hg4.cell p2 (HB.out _ (by omega)).2.1 HH3.out.2.2
   have o3:=hg4.cell p3 (HB.out _ (by omega)).2.1 HH3.out.2.2
   have of2:w4.frozen? ⟨w.heap.size,2,none⟩=false:=(hg4.frozen hwb (HB.out _ (by omega)).2.1 HH3.out.2.2).trans (pf 2)
   have hne4:=row_ne_new hr4 (j:=w.heap.size) HH3.out.2.2 hwb
   have hgw:=GTf.trans HH3.out.1 hg4 HH3.out.2.1
   have hrw:=RowNew.trans HH3.out.2.1 HH3.out.1.size hr4
   have ht5:=ht4.far w.heap.size 2 (.int .i64 (out.length+L.length+M.length - 1:Nat)) (HB.out _ (by omega)).2.2 hne4
   have hg5:=hgw.set w.heap.size 2 (.int .i64 (out.length+L.length+M.length - 1:Nat)) (Nat.le_refl _)
   obtain ⟨w5,hw5⟩:∃ w5,w5=w4.setCell ⟨w.heap.size,2,none⟩ (.int .i64 (out.length+L.length+M.length - 1:Nat)):=⟨_,rfl⟩
   have s5:w5.cell? ⟨w.heap.size,0,none⟩=some (.int .i64 k)∧w5.cell? ⟨w.heap.size,1,none⟩=some (.int .i64 (out.length+L.length - 1:Nat))∧w5.cell? ⟨w.heap.size,2,none⟩=some (.int .i64 (out.length+L.length+M.length - 1:Nat))∧w5.cell? ⟨w.heap.size,3,none⟩=some (.int .i64 0):=by
    rw [hw5]
    exact ⟨cell_set_off (by decide) o0,cell_set_off (by decide) o1,cell_set_eq o2,cell_set_off (by decide) o3⟩
   rw [← hw5] at ht5 hg5
   have HGr:=hide (fun W hb=>growT (ht5.below (w':=W) hb) ⟨k,(out.length+L.length - 1:Nat),(out.length+L.length+M.length - 1:Nat),0⟩ (by simp;omega))
   have HH5:=hide (And.intro hg5 (And.intro hrw hne4))
   clear ht4 hg4 hr4 hgw hrw ht5 hg5 HI2 hne4 o0 o1 o3 p0 p1 p2 p3 pf HH3
   go_wp2_with (fail)
   rw [← hw5]
   clear hw5 o2 of2
   go_region_held3 (fun w'=>w'.cell? ⟨w.heap.size,0,none⟩=some (.int .i64 k)∧w'.cell? ⟨w.heap.size,1,none⟩=some (.int .i64 (out.length+L.length - 1:Nat))∧w'.cell? ⟨w.heap.size,2,none⟩=some (.int .i64 (out.length+L.length+M.length - 1:Nat))∧w'.cell? ⟨w.heap.size,3,none⟩=some (.int .i64 0)) (first | (with_reducible exact s6) | (exact ⟨cell_drew s5.1,cell_drew s5.2.1,cell_drew s5.2.2.1,cell_drew s5.2.2.2⟩) | (exact s5)) (first | (go_at_call 112;refine (HGr.out _ ?_).mono ?_;(focus (exact Below.drew (Below.refl _ _)));rintro e w6 ⟨rfl,a6,c6,ht6,hg6,hr6⟩;rw [row_eq] at hg6 hr6;rw [row_eq] at hr6;have s6:w6.cell? ⟨w.heap.size,0,none⟩=some (.int .i64 k)∧w6.cell? ⟨w.heap.size,1,none⟩=some (.int .i64 (out.length+L.length - 1:Nat))∧w6.cell? ⟨w.heap.size,2,none⟩=some (.int .i64 (out.length+L.length+M.length - 1:Nat))∧w6.cell? ⟨w.heap.size,3,none⟩=some (.int .i64 0):=⟨hg6.cell (cell_drew s5.1) (HB.out _ (by omega)).2.1 HH5.out.2.2,hg6.cell (cell_drew s5.2.1) (HB.out _ (by omega)).2.1 HH5.out.2.2,hg6.cell (cell_drew s5.2.2.1) (HB.out _ (by omega)).2.1 HH5.out.2.2,hg6.cell (cell_drew s5.2.2.2) (HB.out _ (by omega)).2.1 HH5.out.2.2⟩;have hg7:=GTf.trans (GTf.of_below (tb:=tb) (row:=rowOf a4) (w:=w5) (Below.drew (Below.refl _ _))) hg6 (Or.inl rfl);have hgw:=GTf.trans HH5.out.1 hg7 HH5.out.2.1;have hrw:=RowNew.trans HH5.out.2.1 HH5.out.1.size hr6))
   rw [List.append_assoc,List.append_assoc] at ht6
   have HF:=hide (And.intro ht6 (And.intro hgw hrw))
   clear ht6 hgw hrw hg6 hg7 hr6 s6 s5 HGr
   go_wp2_with (fail)
   go_ret
   exact ⟨ret_eq (by first | rfl | omega | (simp;done) | (simp;omega)),a6,⟨c6,HF.out.1⟩,HF.out.2⟩
 ·go_enter Tryz.func68,Tryz.ntmps68
  go_wp2_with (fail)
  go_region
  all_goals
   go_wp2_with (fail)
   refine (HI.out _ ?_).mono ?_
   ·exact (by repeat (first | exact Below.refl _ _ | assumption | refine below_drewN ?_ _ | refine Below.drew ?_ | refine Below.alloc ?_ (by simp <;> omega) _ | refine below_trans ?_ (by assumption)))
   rintro e w2 ⟨rfl,a2,c2,ht2,hg2,hr2⟩
   have n0:=hg2.cell (b:=w.heap.size) (o:=0) (v:=.int .i64 kk) (by (repeat (first | ((with_reducible refine cell_top _ _ _ _ _ _ ?_ ?_);(focus (first | rfl | (simp;done)));exact rfl) | (with_reducible refine cell_drew ?_) | (with_reducible refine cell_under _ _ ?_)))) (HB.out _ (by omega)).2.1 (HB.out _ (by omega)).1
   have n1:=hg2.cell (b:=w.heap.size) (o:=1) (v:=.int .i64 xa) (by (repeat (first | ((with_reducible refine cell_top _ _ _ _ _ _ ?_ ?_);(focus (first | rfl | (simp;done)));exact rfl) | (with_reducible refine cell_drew ?_) | (with_reducible refine cell_under _ _ ?_)))) (HB.out _ (by omega)).2.1 (HB.out _ (by omega)).1
   have n2:=hg2.cell (b:=w.heap.size) (o:=2) (v:=.int .i64 xb) (by (repeat (first | ((with_reducible refine cell_top _ _ _ _ _ _ ?_ ?_);(focus (first | rfl | (simp;done)));exact rfl) | (with_reducible refine cell_drew ?_) | (with_reducible refine cell_under _ _ ?_)))) (HB.out _ (by omega)).2.1 (HB.out _ (by omega)).1
   have n3:=hg2.cell (b:=w.heap.size) (o:=3) (v:=.int .i64 0) (by (repeat (first | ((with_reducible refine cell_top _ _ _ _ _ _ ?_ ?_);(focus (first | rfl | (simp;done)));exact rfl) | (with_reducible refine cell_drew ?_) | (with_reducible refine cell_under _ _ ?_)))) (HB.out _ (by omega)).2.1 (HB.out _ (by omega)).1
   have m1:=hg2.cell (b:=w.heap.size+1) (o:=1) (v:=.int .i64 2) (by (repeat (first | ((with_reducible refine cell_top _ _ _ _ _ _ ?_ ?_);(focus (first | rfl | (simp;done)));exact rfl) | (with_reducible refine cell_drew ?_) | (with_reducible refine cell_under _ _ ?_)))) (HB.out _ (by omega)).2.1 (HB.out _ (by omega)).1
   have nf:∀ o,w2.frozen? ⟨w.heap.size,o,none⟩=false:=fun o=>(hg2.frozen (b:=w.heap.size) (o:=o) (by simp <;> omega) (HB.out _ (by omega)).2.1 (HB.out _ (by omega)).1).trans (frozen_of_row _ _ _ _ _ (by (repeat (first | ((with_reducible refine heap_top _ _ _ ?_);(focus (first | rfl | (simp;done)))) | (with_reducible refine heap_drew ?_) | (with_reducible refine heap_under _ ?_)))))
   have hne2:=row_ne_new hr2 (j:=w.heap.size) (HB.out _ (by omega)).1 (by simp <;> omega)
   have hne2':=row_ne_new hr2 (j:=w.heap.size+1) (HB.out _ (by omega)).1 (by simp <;> omega)
   have hgw:=GTf.trans (GTf.of_below (tb:=tb) (row:=rowOf a) (w:=w) (by repeat (first | exact Below.refl _ _ | assumption | refine below_drewN ?_ _ | refine Below.drew ?_ | refine Below.alloc ?_ (by simp <;> omega) _ | refine below_trans ?_ (by assumption)))) hg2 (Or.inl rfl)
   have hrw:RowNew w (rowOf a) (rowOf a2):=RowNew.trans (Or.inl rfl) (by simp <;> omega) hr2
   have ht3:=ht2.far w.heap.size 1 (.int .i64 (out.length+L.length - 1:Nat)) (HB.out _ (by omega)).2.2 hne2
   have hg3:=hgw.set w.heap.size 1 (.int .i64 (out.length+L.length - 1:Nat)) (Nat.le_refl _)
   obtain ⟨w3,hw3⟩:∃ w3,w3=w2.setCell ⟨w.heap.size,1,none⟩ (.int .i64 (out.length+L.length - 1:Nat)):=⟨_,rfl⟩
   have p0:w3.cell? ⟨w.heap.size,0,none⟩=some (.int .i64 kk):=by rw [hw3];exact cell_set_off (by decide) n0
   have p1:w3.cell? ⟨w.heap.size,1,none⟩=some (.int .i64 (out.length+L.length - 1:Nat)):=by rw [hw3];exact cell_set_eq n1
   have p2:w3.cell? ⟨w.heap.size,2,none⟩=some (.int .i64 xb):=by rw [hw3];exact cell_set_off (by decide) n2
   have p3:w3.cell? ⟨w.heap.size,3,none⟩=some (.int .i64 0):=by rw [hw3];exact cell_set_off (by decide) n3
   have pf:∀ o,w3.frozen? ⟨w.heap.size,o,none⟩=false:=fun o=>by rw [hw3,World.frozen?_setCell];exact nf o
   have nf1:=nf 1
   rw [← hw3] at ht3 hg3
   have hwb:w.heap.size < w3.heap.size:=World.block_lt_of_cell? w3 _ p0
   have HI2:=hide (HIb.out w3 a2 c2 ht3)
   have HH3:=hide (And.intro hg3 (And.intro hrw hne2))
   clear ht2 hg2 hr2 hgw hrw ht3 hg3 HI HIb hlk0 hlk1 hne2 hne2' n0 n3 nf
   go_wp2_with (fail)
   rw [← hw3]
   clear hw3 n1 n2 m1 nf1
   refine HI2.out.mono ?_
   rintro e w4 ⟨rfl,a4,c4,ht4,hg4,hr4⟩
   have o0:=hg4.cell p0 (HB.out _ (by omega)).2.1 HH3.out.2.2
   have o1:=hg4.cell p1 (HB.out _ (by omega)).2.1 HH3.out.2.2
   have o2:=hg4.cell p2 (HB.out _ (by omega)).2.1 HH3.out.2.2
   have o3:=hg4.cell p3 (HB.out _ (by omega)).2.1 HH3.out.2.2
   have of2:w4.frozen? ⟨w.heap.size,2,none⟩=false:=(hg4.frozen hwb (HB.out _ (by omega)).2.1 HH3.out.2.2).trans (pf 2)
   have hne4:=row_ne_new hr4 (j:=w.heap.size) HH3.out.2.2 hwb
   have hgw:=GTf.trans HH3.out.1 hg4 HH3.out.2.1
   have hrw:=RowNew.trans HH3.out.2.1 HH3.out.1.size hr4
   have ht5:=ht4.far w.heap.size 2 (.int .i64 (out.length+L.length+M.length - 1:Nat)) (HB.out _ (by omega)).2.2 hne4
   have hg5:=hgw.set w.heap.size 2 (.int .i64 (out.length+L.length+M.length - 1:Nat)) (Nat.le_refl _)
   obtain ⟨w5,hw5⟩:∃ w5,w5=w4.setCell ⟨w.heap.size,2,none⟩ (.int .i64 (out.length+L.length+M.length - 1:Nat)):=⟨_,rfl⟩
   have s5:w5.cell? ⟨w.heap.size,0,none⟩=some (.int .i64 kk)∧w5.cell? ⟨w.heap.size,1,none⟩=some (.int .i64 (out.length+L.length - 1:Nat))∧w5.cell? ⟨w.heap.size,2,none⟩=some (.int .i64 (out.length+L.length+M.length - 1:Nat))∧w5.cell? ⟨w.heap.size,3,none⟩=some (.int .i64 0):=by
    rw [hw5]
    exact ⟨cell_set_off (by decide) o0,cell_set_off (by decide) o1,cell_set_eq o2,cell_set_off (by decide) o3⟩
   rw [← hw5] at ht5 hg5
   have HGr:=hide (fun W hb=>growT (ht5.below (w':=W) hb) ⟨kk,(out.length+L.length - 1:Nat),(out.length+L.length+M.length - 1:Nat),0⟩ (by simp;omega))
   have HH5:=hide (And.intro hg5 (And.intro hrw hne4))
   clear ht4 hg4 hr4 hgw hrw ht5 hg5 HI2 hne4 o0 o1 o3 p0 p1 p2 p3 pf HH3
   go_wp2_with (fail)
   rw [← hw5]
   clear hw5 o2 of2
   go_region_held3 (fun w'=>w'.cell? ⟨w.heap.size,0,none⟩=some (.int .i64 kk)∧w'.cell? ⟨w.heap.size,1,none⟩=some (.int .i64 (out.length+L.length - 1:Nat))∧w'.cell? ⟨w.heap.size,2,none⟩=some (.int .i64 (out.length+L.length+M.length - 1:Nat))∧w'.cell? ⟨w.heap.size,3,none⟩=some (.int .i64 0)) (first | (with_reducible exact s6) | (exact ⟨cell_drew s5.1,cell_drew s5.2.1,cell_drew s5.2.2.1,cell_drew s5.2.2.2⟩) | (exact s5)) (first | (go_at_call 112;refine (HGr.out _ ?_).mono ?_;(focus (exact Below.drew (Below.refl _ _)));rintro e w6 ⟨rfl,a6,c6,ht6,hg6,hr6⟩;rw [row_eq] at hg6 hr6;rw [row_eq] at hr6;have s6:w6.cell? ⟨w.heap.size,0,none⟩=some (.int .i64 kk)∧w6.cell? ⟨w.heap.size,1,none⟩=some (.int .i64 (out.length+L.length - 1:Nat))∧w6.cell? ⟨w.heap.size,2,none⟩=some (.int .i64 (out.length+L.length+M.length - 1:Nat))∧w6.cell? ⟨w.heap.size,3,none⟩=some (.int .i64 0):=⟨hg6.cell (cell_drew s5.1) (HB.out _ (by omega)).2.1 HH5.out.2.2,hg6.cell (cell_drew s5.2.1) (HB.out _ (by omega)).2.1 HH5.out.2.2,hg6.cell (cell_drew s5.2.2.1) (HB.out _ (by omega)).2.1 HH5.out.2.2,hg6.cell (cell_drew s5.2.2.2) (HB.out _ (by omega)).2.1 HH5.out.2.2⟩;have hg7:=GTf.trans (GTf.of_below (tb:=tb) (row:=rowOf a4) (w:=w5) (Below.drew (Below.refl _ _))) hg6 (Or.inl rfl);have hgw:=GTf.trans HH5.out.1 hg7 HH5.out.2.1;have hrw:=RowNew.trans HH5.out.2.1 HH5.out.1.size hr6))
   rw [List.append_assoc,List.append_assoc] at ht6
   have HF:=hide (And.intro ht6 (And.intro hgw hrw))
   clear ht6 hgw hrw hg6 hg7 hr6 s6 s5 HGr
   go_wp2_with (fail)
   go_ret
   exact ⟨ret_eq (by first | rfl | omega | (simp;done) | (simp;omega)),a6,⟨c6,HF.out.1⟩,HF.out.2⟩
theorem turn_any {F:List Nd} (hF:AllOk F):∀ i,i < F.length→TurnOk F i:=by
 intro i
 induction i using Nat.strongRecOn with
 | ind i ih =>
  intro hi
  obtain ⟨hk,⟨xa0,xa1,_⟩,⟨xb0,xb1,_⟩,_⟩:=node_ok (hF i hi)
  by_cases h1:(F.getD i nd0).k=1 ∨ (F.getD i nd0).k=2
  ·exact turn_leaf hF i hi h1
  have ha:=xa1 (by omega)
  have iha:=ih (F.getD i nd0).a.toNat (by omega) (by omega)
  by_cases h3:(F.getD i nd0).k=3
  ·exact turn_not hF i hi h3 iha
  by_cases h6:(F.getD i nd0).k=6
  ·exact turn_next hF i hi h6 iha
  have hb:=xb1 (by omega)
  exact turn_two hF i hi (by omega) iha (ih (F.getD i nd0).b.toNat (by omega) (by omega))
theorem ndCells_get:∀ (F:List Nd) (i j:Nat),i < F.length→j < 4→(ndCells F)[i * 4+j]?=[Value.int .i64 (F.getD i nd0).k,.int .i64 (F.getD i nd0).a,.int .i64 (F.getD i nd0).b,.int .i64 (F.getD i nd0).n][j]?
 | [],i,j,hi,hj=>by simp at hi
 | x :: F,0,j,hi,hj=>by
  show ([Value.int .i64 x.k,.int .i64 x.a,.int .i64 x.b,.int .i64 x.n] ++ ndCells F)[0 * 4+j]?=_
  rw [Nat.zero_mul,Nat.zero_add,List.getElem?_append_left (by simpa using hj)]
  rfl
 | x :: F,i+1,j,hi,hj=>by
  show ([Value.int .i64 x.k,.int .i64 x.a,.int .i64 x.b,.int .i64 x.n] ++ ndCells F)[(i+1) * 4+j]?=_
  rw [List.getElem?_append_right (by simp;omega)]
  have:=ndCells_get F i j (by simpa using hi) hj
  have e:(i+1) * 4+j - [Value.int .i64 x.k,.int .i64 x.a,.int .i64 x.b,.int .i64 x.n].length=i * 4+j:=by simp;omega
  rw [e,this]
  simp [List.getD]
theorem nodeSl_of_owns {w:World}{base:Nat}{v:Value}{F:List Nd} (h:w.ownsRow base 55 4 v F.length (ndCells F)):NodeSl w v F:=by
 rcases h.2 with ⟨rfl,h0⟩ | ⟨g,cap,cur,rfl,hb,hg,hnc,hcm,hcs,htake⟩
 ·have:F=[]:=List.eq_nil_of_length_eq_zero h0
  subst this
  exact ⟨none,0,rfl,by simp [maxLen],Or.inl rfl,fun _=>rfl,Nat.le_refl _⟩
 ·refine ⟨some ⟨g,0,none⟩,cap,rfl,by omega,Or.inr ⟨g,0,rfl,fun i hi=>?_⟩,(fun h=>by cases h),hnc⟩
  have c0:=h.cells (g:=g) rfl (i * 4+0) _ (ndCells_get F i 0 hi (by decide))
  have c1:=h.cells (g:=g) rfl (i * 4+1) _ (ndCells_get F i 1 hi (by decide))
  have c2:=h.cells (g:=g) rfl (i * 4+2) _ (ndCells_get F i 2 hi (by decide))
  have c3:=h.cells (g:=g) rfl (i * 4+3) _ (ndCells_get F i 3 hi (by decide))
  rw [add_none] at c0 c1 c2 c3
  exact ⟨c0,by rw [Nat.add_assoc];exact c1,by rw [Nat.add_assoc];exact c2,by rw [Nat.add_assoc];exact c3⟩
def negF (F:List Nd):List Nd:=fl F (F.length - 1) true 0
def chkNeg (F:List Nd):Int:=if chkF F=0 then chkF (negF F) else chkF F
end Go.Proofs.YtpiacnnifdjlkabGreatDoor
namespace Go.Proofs.YtpiacnnifdjlkabGreatDoor
theorem look_neg (r:Nat→Bool→Bool) (e:Bool):∀ m i,look (fun k x=>!(r k (!x))) (!e) m i=!(look r e m i)
 | 0,_=>rfl
 | m+1,i=>by
  show (!(r i (!(look (fun k x=>!(r k (!x))) (!e) m (i+1)))))=!(r i (look r e m (i+1)))
  rw [look_neg r e m (i+1),Bool.not_not]
def vF (F:List Nd) (h p:Nat) (L:Nat→Int) (i j:Nat):Bool:=valB (tabN F h p L i) h p L (F.getD i nd0) j
theorem tab_vF (F:List Nd) (h p:Nat) (L:Nat→Int) (m i j:Nat) (hi:i < m) (hj:j < h+p):((tabN F h p L m).getD i []).getD j false=vF F h p L i j:=by
 rw [tabN_get F h p L i m hi,rowV_get _ _ _ _ _ _ hj]
 rfl
theorem bt_vF (F:List Nd) (h p:Nat) (L:Nat→Int) (m:Nat) (a:Int) (j:Nat) (hi:a.toNat < m) (hj:j < h+p):bt (tabN F h p L m) a j=vF F h p L a.toNat j:=tab_vF F h p L m a.toNat j hi hj
def ruleV (va vb:Nat→Bool) (h p:Nat) (L:Nat→Int) (x:Nd) (i:Nat) (nx:Bool):Bool:=
 if x.k=2 then decide (L i / 2 ^ x.n.toNat % 2=1)
 else if x.k=3 then !va i
 else if x.k=4 then va i && vb i
 else if x.k=5 then va i || vb i
 else if x.k=6 then va (nxp h p i)
 else if x.k=7 then vb i || va i && nx
 else if x.k=8 then vb i && (va i || nx)
 else true
theorem nxp_lt {h p i:Nat} (hp:0 < p) (hi:i < h+p):nxp h p i < h+p:=by unfold nxp;split <;> omega
theorem ruleB_V {T:List (List Bool)}{h p:Nat}{L:Nat→Int}{x:Nd}{va vb:Nat→Bool}{i:Nat}{nx:Bool} (hp:0 < p) (hi:i < h+p) (ha:3≤x.k→∀ j,j < h+p→bt T x.a j=va j) (hb:x.k=4 ∨ x.k=5 ∨ x.k=7 ∨ x.k=8→∀ j,j < h+p→bt T x.b j=vb j):ruleB T h p L x i nx=ruleV va vb h p L x i nx:=by
 unfold ruleB ruleV
 by_cases h2:x.k=2
 ·simp only [if_pos h2]
 by_cases h3:x.k=3
 ·simp only [if_neg h2,if_pos h3,ha (by omega) i hi]
 by_cases h4:x.k=4
 ·simp only [if_neg h2,if_neg h3,if_pos h4,ha (by omega) i hi,hb (by omega) i hi]
 by_cases h5:x.k=5
 ·simp only [if_neg h2,if_neg h3,if_neg h4,if_pos h5,ha (by omega) i hi,hb (by omega) i hi]
 by_cases h6:x.k=6
 ·simp only [if_neg h2,if_neg h3,if_neg h4,if_neg h5,if_pos h6,ha (by omega) _ (nxp_lt hp hi)]
 by_cases h7:x.k=7
 ·simp only [if_neg h2,if_neg h3,if_neg h4,if_neg h5,if_neg h6,if_pos h7,ha (by omega) i hi,hb (by omega) i hi]
 by_cases h8:x.k=8
 ·simp only [if_neg h2,if_neg h3,if_neg h4,if_neg h5,if_neg h6,if_neg h7,if_pos h8,ha (by omega) i hi,hb (by omega) i hi]
 simp only [if_neg h2,if_neg h3,if_neg h4,if_neg h5,if_neg h6,if_neg h7,if_neg h8]
theorem vF_V {F:List Nd}{h p:Nat}{L:Nat→Int}{i j:Nat}{x:Nd}{va vb:Nat→Bool} (hp:0 < p) (hx:F.getD i nd0=x) (ha:3≤x.k→∀ j,j < h+p→bt (tabN F h p L i) x.a j=va j) (hb:x.k=4 ∨ x.k=5 ∨ x.k=7 ∨ x.k=8→∀ j,j < h+p→bt (tabN F h p L i) x.b j=vb j) :
  vF F h p L i j=look (fun k=>ruleV va vb h p L x (plc h p k)) (decide (x.k=8)) (h+p) j:=by
 unfold vF valB
 rw [hx]
 refine look_congr _ _ _ _ _ fun k _ _=>?_
 funext nx
 exact ruleB_V hp (plc_lt h p k hp) ha hb
theorem vF_ok {F:List Nd} (hF:AllOk F) {h p:Nat}{L:Nat→Int}{i:Nat} (hp:0 < p) (hi:i < F.length) (j:Nat) :
  vF F h p L i j=look (fun k=>ruleV (vF F h p L (F.getD i nd0).a.toNat) (vF F h p L (F.getD i nd0).b.toNat) h p L (F.getD i nd0) (plc h p k)) (decide ((F.getD i nd0).k=8)) (h+p) j:=by
 obtain ⟨hk,⟨a0,a1,_⟩,⟨b0,b1,_⟩,_⟩:=node_ok (hF i hi)
 refine vF_V hp rfl (fun h3 j hj=>?_) (fun h3 j hj=>?_)
 ·have:=a1 h3
  exact bt_vF F h p L i _ j (by omega) hj
 ·have:=b1 h3
  exact bt_vF F h p L i _ j (by omega) hj
theorem look_flat {va vb:Nat→Bool}{h p:Nat}{L:Nat→Int}{x:Nd}{j:Nat} (hp:0 < p) (hj:j < h+p) (h7:x.k ≠ 7) (h8:x.k ≠ 8) (e:Bool):look (fun k=>ruleV va vb h p L x (plc h p k)) e (h+p) j=ruleV va vb h p L x j false:=by
 obtain ⟨m,hm⟩:∃ m,h+p=m+1:=⟨h+p - 1,by omega⟩
 have e1:look (fun k=>ruleV va vb h p L x (plc h p k)) e (h+p) j=ruleV va vb h p L x (plc h p j) (look (fun k=>ruleV va vb h p L x (plc h p k)) e m (j+1)):=by rw [hm];rfl
 rw [e1,plc_small hj]
 simp only [ruleV,if_neg h7,if_neg h8]
theorem opp {F:List Nd} (hF:AllOk F) {h p:Nat}{L:Nat→Int} (hp:0 < p):∀ i,i < F.length→∀ (o:Bool) (m:Nat) (G:List Nd),(∀ d,d < (fl F i o m).length→G.getD (m+d) nd0=(fl F i o m).getD d nd0)→∀ j,j < h+p→vF G h p L (m+(fl F i o m).length - 1) j=(o ^^ vF F h p L i j):=by
 intro i
 induction i using Nat.strongRecOn with
 | ind i ih =>
  intro hi o m G hG j hj
  obtain ⟨hk,⟨a0,a1,_⟩,⟨b0,b1,_⟩,_⟩:=node_ok (hF i hi)
  rw [vF_ok hF hp hi j]
  have hE:=fl_eq hF i hi o m
  rw [hE] at hG ⊢
  clear hE
  generalize F.getD i nd0=x at *
  unfold flS at hG ⊢
  by_cases h12:x.k=1 ∨ x.k=2
  ·rw [if_pos h12] at hG ⊢
   rw [look_flat hp hj (by omega) (by omega)]
   have key:G.getD m nd0=⟨x.k,0,0,x.n⟩→∀ j,j < h+p→vF G h p L m j=ruleV (vF F h p L x.a.toNat) (vF F h p L x.b.toNat) h p L x j false:=by
    intro hg j hj
    rw [vF_V hp hg (va:=fun _=>false) (vb:=fun _=>false) (fun h=>absurd h (by show ¬ 3≤x.k;omega)) (fun h=>absurd h (by show ¬ (x.k=4 ∨ x.k=5 ∨ x.k=7 ∨ x.k=8);omega)),look_flat hp hj (by show x.k ≠ 7;omega) (by show x.k ≠ 8;omega)]
    unfold ruleV
    rcases h12 with h1 | h2
    ·simp [h1]
    ·simp [h2]
   cases o with
   | false =>
    simp only [Bool.false_eq_true,if_false] at hG ⊢
    have g0:=hG 0 (by simp)
    simp only [Nat.add_zero] at g0
    show vF G h p L (m+1 - 1) j=_
    rw [Nat.add_sub_cancel,key g0 j hj,Bool.false_xor]
   | true =>
    simp only [if_true] at hG ⊢
    have g0:=hG 0 (by simp)
    have g1:=hG 1 (by simp)
    simp only [Nat.add_zero] at g0
    show vF G h p L (m+2 - 1) j=_
    rw [show m+2 - 1=m+1 by omega,vF_V hp g1 (va:=vF G h p L m) (vb:=fun _=>false) (fun _ j hj=>bt_vF G h p L (m+1) (m:Nat) j (by simp) hj) (fun h=>absurd h (by show ¬ ((3:Int)=4 ∨ (3:Int)=5 ∨ (3:Int)=7 ∨ (3:Int)=8);omega)),look_flat hp hj (by show (3:Int) ≠ 7;omega) (by show (3:Int) ≠ 8;omega)]
    show (!(vF G h p L m j))=_
    rw [key g0 j hj,Bool.true_xor]
  rw [if_neg h12] at hG ⊢
  have ha:=a1 (by omega)
  by_cases h3:x.k=3
  ·rw [if_pos h3] at hG ⊢
   rw [look_flat hp hj (by omega) (by omega),ih x.a.toNat (by omega) (by omega) (!o) m G hG j hj]
   have:ruleV (vF F h p L x.a.toNat) (vF F h p L x.b.toNat) h p L x j false=!(vF F h p L x.a.toNat j):=by simp [ruleV,h3]
   rw [this]
   cases o <;> simp
  rw [if_neg h3] at hG ⊢
  have hAl:=(fl_len hF x.a.toNat (by omega) o m).2.1
  have iha:=ih x.a.toNat (by omega) (by omega) o m G
  generalize fl F x.a.toNat o m=A at *
  by_cases h6:x.k=6
  ·rw [if_pos h6] at hG ⊢
   rw [look_flat hp hj (by omega) (by omega)]
   have hA:=iha fun d hd=>by
    rw [hG d (by simp <;> omega)]
    simp [List.getD,List.getElem?_append,hd]
   have g1:=hG A.length (by simp)
   have g1':G.getD (m+A.length) nd0=⟨6,(m+A.length - 1:Nat),0,0⟩:=by rw [g1];simp [List.getD]
   rw [show m+(A ++ [(⟨6,(m+A.length - 1:Nat),0,0⟩:Nd)]).length - 1=m+A.length by simp <;> omega,vF_V hp g1' (va:=vF G h p L (m+A.length - 1)) (vb:=fun _=>false) (fun _ j hj=>bt_vF G h p L (m+A.length) (m+A.length - 1:Nat) j (by simp <;> omega) hj) (fun h=>absurd h (by show ¬ ((6:Int)=4 ∨ (6:Int)=5 ∨ (6:Int)=7 ∨ (6:Int)=8);omega)),look_flat hp hj (by show (6:Int) ≠ 7;omega) (by show (6:Int) ≠ 8;omega)]
   show vF G h p L (m+A.length - 1) (nxp h p j)=_
   rw [hA _ (nxp_lt hp hj)]
   simp [ruleV,h6]
  rw [if_neg h6] at hG ⊢
  have hb:=b1 (by omega)
  have hBl:=(fl_len hF x.b.toNat (by omega) o (m+A.length)).2.1
  have ihb:=ih x.b.toNat (by omega) (by omega) o (m+A.length) G
  generalize fl F x.b.toNat o (m+A.length)=B at *
  have hA:=iha fun d hd=>by
   rw [hG d (by simp <;> omega)]
   simp [List.getD,List.getElem?_append,hd]
  have hB:=ihb fun d hd=>by
   rw [Nat.add_assoc,hG (A.length+d) (by simp <;> omega)]
   simp [List.getD,List.getElem?_append,hd,show ¬ (A.length+d < A.length) by omega]
  have g1:=hG (A.length+B.length) (by simp <;> omega)
  have g1':G.getD (m+A.length+B.length) nd0=⟨if o=true then oppK x.k else x.k,(m+A.length - 1:Nat),(m+A.length+B.length - 1:Nat),0⟩:=by rw [Nat.add_assoc,g1];simp [List.getD,Nat.add_assoc]
  clear g1 hG iha ihb
  have hz:m+(A ++ (B ++ [(⟨if o=true then oppK x.k else x.k,(m+A.length - 1:Nat),(m+A.length+B.length - 1:Nat),0⟩:Nd)])).length - 1=m+A.length+B.length:=by simp <;> omega
  rw [hz,vF_V hp g1' (va:=fun j=>o ^^ vF F h p L x.a.toNat j) (vb:=fun j=>o ^^ vF F h p L x.b.toNat j) (fun _ j hj=>(bt_vF G h p L (m+A.length+B.length) (m+A.length - 1:Nat) j (by simp <;> omega) hj).trans (by simpa using hA j hj)) (fun _ j hj=>(bt_vF G h p L (m+A.length+B.length) (m+A.length+B.length - 1:Nat) j (by simp <;> omega) hj).trans (by simpa using hB j hj))]
  clear hz g1' hA hB
  generalize vF F h p L x.a.toNat=va
  generalize vF F h p L x.b.toNat=vb
  generalize ((m+A.length - 1:Nat):Int)=y1
  generalize ((m+A.length+B.length - 1:Nat):Int)=y2
  cases o with
  | false =>
   rw [Bool.false_xor]
   simp only [Bool.false_eq_true,if_false,Bool.false_xor]
   refine look_congr _ _ _ _ _ fun k _ _=>?_
   funext nx
   rcases (show x.k=4 ∨ x.k=5 ∨ x.k=7 ∨ x.k=8 by omega) with e | e | e | e <;> simp [ruleV,e]
  | true =>
   rw [Bool.true_xor,← look_neg]
   have he:(decide ((if true=true then oppK x.k else x.k)=8))=!(decide (x.k=8)) ∨ (x.k=4 ∨ x.k=5):=by
    rcases (show x.k=4 ∨ x.k=5 ∨ x.k=7 ∨ x.k=8 by omega) with e | e | e | e <;> simp [oppK,e]
   rcases he with he | he
   ·show look _ (decide ((if true=true then oppK x.k else x.k)=8)) _ _=_
    rw [he]
    refine look_congr _ _ _ _ _ fun k _ _=>?_
    funext nx
    rcases (show x.k=4 ∨ x.k=5 ∨ x.k=7 ∨ x.k=8 by omega) with e | e | e | e <;> simp [ruleV,e,oppK]
   ·rw [look_neg,look_flat hp hj (by show (if true=true then oppK x.k else x.k) ≠ 7;rcases he with e | e <;> simp [oppK,e]) (by show (if true=true then oppK x.k else x.k) ≠ 8;rcases he with e | e <;> simp [oppK,e]),look_flat hp hj (by omega) (by omega)]
    rcases he with e | e <;> simp [ruleV,e,oppK]
theorem vF_next {F:List Nd} (hF:AllOk F) {h p:Nat}{L:Nat→Int}{i j:Nat} (hp:0 < p) (hi:i < F.length) (hj:j < h+p) :
  vF F h p L i j=ruleV (vF F h p L (F.getD i nd0).a.toNat) (vF F h p L (F.getD i nd0).b.toNat) h p L (F.getD i nd0) j (vF F h p L i (nxp h p j)):=by
 have hm:Mono (ruleB (tabN F h p L i) h p L (F.getD i nd0)):=rule_mono _ _ _ _ _
 have hmr:Mono (fun k=>ruleB (tabN F h p L i) h p L (F.getD i nd0) (plc h p k)):=fun i=>hm _
 have hper:∀ k,h≤k→(fun k=>ruleB (tabN F h p L i) h p L (F.getD i nd0) (plc h p k)) (k+p)=(fun k=>ruleB (tabN F h p L i) h p L (F.getD i nd0) (plc h p k)) k:=fun k hk=>by
  show ruleB _ _ _ _ _ (plc h p (k+p))=ruleB _ _ _ _ _ (plc h p k)
  rw [plc_add h p k hk]
 have e1:vF F h p L i j=look (fun k=>ruleB (tabN F h p L i) h p L (F.getD i nd0) (plc h p k)) (decide ((F.getD i nd0).k=8)) (h+p+1) j:=by
  unfold vF valB
  exact (look_stab _ _ h p (h+p) (h+p+1) j hmr hp (by omega) (by omega) hper (by omega)).symm
 have e2:look (fun k=>ruleB (tabN F h p L i) h p L (F.getD i nd0) (plc h p k)) (decide ((F.getD i nd0).k=8)) (h+p) (j+1)=vF F h p L i (nxp h p j):=by
  unfold vF valB nxp
  split
  ·rename_i e
   rw [e,look_shift _ _ p (h+p) h hper]
  ·rfl
 rw [e1]
 show ruleB (tabN F h p L i) h p L (F.getD i nd0) (plc h p j) (look (fun k=>ruleB (tabN F h p L i) h p L (F.getD i nd0) (plc h p k)) (decide ((F.getD i nd0).k=8)) (h+p) (j+1))=_
 rw [e2,plc_small hj]
 obtain ⟨hk,⟨a0,a1,_⟩,⟨b0,b1,_⟩,_⟩:=node_ok (hF i hi)
 refine ruleB_V hp hj (fun h3 j hj=>?_) (fun h3 j hj=>?_)
 ·have:=a1 h3
  exact bt_vF F h p L i _ j (by omega) hj
 ·have:=b1 h3
  exact bt_vF F h p L i _ j (by omega) hj
theorem neg_holds {F:List Nd} (hF:AllOk F) (hn:0 < F.length) {h p:Nat}{L:Nat→Int} (hp:0 < p) (j:Nat) (hj:j < h+p):vF (negF F) h p L ((negF F).length - 1) j=!(vF F h p L (F.length - 1) j):=by
 have:=opp hF (L:=L) hp (F.length - 1) (by omega) true 0 (negF F) (fun d hd=>by rw [Nat.zero_add];rfl) j hj
 rw [Nat.zero_add,Bool.true_xor] at this
 exact this
theorem look_true {r:Nat→Bool→Bool}:∀ {m i:Nat},look r false m i=true→∃ d,d < m∧r (i+d) false=true
 | 0,_,h=>by cases h
 | m+1,i,h=>by
  have h':r i (look r false m (i+1))=true:=h
  cases e:look r false m (i+1) with
  | true =>
   obtain ⟨d,hd,hr⟩:=look_true e
   exact ⟨d+1,by omega,by rw [show i+(d+1)=i+1+d by omega];exact hr⟩
  | false=>rw [e] at h';exact ⟨0,by omega,h'⟩
theorem look_false {r:Nat→Bool→Bool}:∀ {m i:Nat},look r true m i=false→∃ d,d < m∧r (i+d) true=false
 | 0,_,h=>by cases h
 | m+1,i,h=>by
  have h':r i (look r true m (i+1))=false:=h
  cases e:look r true m (i+1) with
  | false =>
   obtain ⟨d,hd,hr⟩:=look_false e
   exact ⟨d+1,by omega,by rw [show i+(d+1)=i+1+d by omega];exact hr⟩
  | true=>rw [e] at h';exact ⟨0,by omega,h'⟩
theorem plc_far {h p t:Nat} (_hp:0 < p) (ht:h≤t):plc h p t=h+(t - h) % p:=by
 unfold plc
 split
 ·rw [Nat.mod_eq_of_lt (by omega)];omega
 ·rfl
theorem plc_on {h p:Nat} (hp:0 < p) (t d:Nat):plc h p (plc h p t+d)=plc h p (t+d):=by
 by_cases ht:t < h+p
 ·rw [plc_small ht]
 ·rw [plc_far hp (show h≤t by omega),plc_far hp (show h≤t+d by omega),plc_far hp (by omega),show h+(t - h) % p+d - h=(t - h) % p+d by omega,show t+d - h=t - h+d by omega,Nat.mod_add_mod]
theorem plc_nxp {h p:Nat} (hp:0 < p) (t:Nat):plc h p (t+1)=nxp h p (plc h p t):=by
 rw [← plc_on hp t 1,plc_next hp (plc_lt h p t hp)]
def wordL (hs ls:List Int) (i:Nat):Int:=(hs ++ ls).getD i 0
theorem lat_plc {hs ls:List Int} (hp:0 < ls.length) (t:Nat):wordL hs ls (plc hs.length ls.length t)=lat hs ls t:=by
 unfold wordL lat
 by_cases h:t < hs.length
 ·rw [plc_small (by omega),if_pos h]
  simp [List.getD,List.getElem?_append_left h]
 ·rw [plc_far hp (by omega),if_neg h,List.getD,List.getElem?_append_right (by omega),Nat.add_sub_cancel_left]
  rfl
def valU (F:List Nd) (hs ls:List Int) (t i:Nat):Bool:=vF F hs.length ls.length (wordL hs ls) i (plc hs.length ls.length t)
theorem ahead_of {F:List Nd} (hF:AllOk F):Ahead_ F:=fun i hi=>by
 obtain ⟨hk,⟨a0,a1,_⟩,⟨b0,b1,_⟩,_⟩:=node_ok (hF i hi)
 exact ⟨a0,b0,fun h _=>a1 h,b1⟩
theorem valU_next {F:List Nd} (hF:AllOk F) {hs ls:List Int} (hp:0 < ls.length) {i:Nat} (hi:i < F.length) (t:Nat) :
  valU F hs ls t i=ruleV (vF F hs.length ls.length (wordL hs ls) (F.getD i nd0).a.toNat) (vF F hs.length ls.length (wordL hs ls) (F.getD i nd0).b.toNat) hs.length ls.length (wordL hs ls) (F.getD i nd0) (plc hs.length ls.length t) (valU F hs ls (t+1) i):=by
 unfold valU
 rw [plc_nxp hp]
 exact vF_next hF hp hi (plc_lt _ _ _ hp)
theorem valU_loc {F:List Nd} (hF:AllOk F) {hs ls:List Int} (hp:0 < ls.length) (h0:∀ t,0≤lat hs ls t):Loc F (lat hs ls) (valU F hs ls):=by
 intro t i hi
 rw [valU_next hF hp hi t]
 have hn:=(node_ok (hF i hi)).2.2.2
 have hkd:(F.getD i nd0).k=kN F i:=rfl
 rw [hkd] at hn
 unfold ruleV nodeV
 rw [hkd]
 by_cases h2:kN F i=2
 ·simp only [h2,if_true]
  rw [lat_plc hp,Nat.testBit_eq_decide_div_mod_eq]
  have:=h0 t
  obtain ⟨x,hx⟩:=Int.eq_ofNat_of_zero_le this
  rw [hx,Int.toNat_natCast]
  congr 1
  have e1:((x:Int) / 2 ^ (F.getD i nd0).n.toNat % 2=1) ↔ (((x / 2 ^ (F.getD i nd0).n.toNat % 2:Nat):Int)=((1:Nat):Int)):=by
   rw [Int.natCast_emod,Int.natCast_ediv,Int.natCast_pow];rfl
  rw [e1,Int.ofNat_inj]
 by_cases h3:kN F i=3
 ·simp only [h3];rfl
 by_cases h4:kN F i=4
 ·simp only [h4];rfl
 by_cases h5:kN F i=5
 ·simp only [h5];rfl
 by_cases h6:kN F i=6
 ·simp only [h6,if_true]
  unfold valU
  rw [plc_nxp hp]
  rfl
 by_cases h7:kN F i=7
 ·simp only [h7];rfl
 by_cases h8:kN F i=8
 ·simp only [h8];rfl
 simp only [if_neg h2,if_neg h3,if_neg h4,if_neg h5,if_neg h6,if_neg h7,if_neg h8]
theorem valU_kept {F:List Nd} (hF:AllOk F) {hs ls:List Int} (hp:0 < ls.length):Kept7 F (valU F hs ls):=by
 intro i hi h78 t
 have hkd:(F.getD i nd0).k=kN F i:=rfl
 refine Classical.byContradiction fun hno=>?_
 have hne:∀ s,t≤s→valU F hs ls s i ≠ valU F hs ls s (bN F i):=fun s hs' e=>hno ⟨s,hs',e⟩
 have hb:∀ s,t≤s→valU F hs ls s (bN F i)=decide (kN F i=8):=fun s hs'=>by
  have h1:=valU_next hF (hs:=hs) (ls:=ls) hp hi s
  have h2:=hne s hs'
  have e:vF F hs.length ls.length (wordL hs ls) (F.getD i nd0).b.toNat (plc hs.length ls.length s)=valU F hs ls s (bN F i):=rfl
  unfold ruleV at h1
  rw [hkd,e] at h1
  rcases h78 with h7 | h8
  ·rw [h7] at h1 ⊢
   simp at h1 ⊢
   cases hv:valU F hs ls s (bN F i) with
   | false=>rfl
   | true=>rw [hv] at h1 h2;simp at h1;exact absurd h1 h2
  ·rw [h8] at h1 ⊢
   simp at h1 ⊢
   cases hv:valU F hs ls s (bN F i) with
   | true=>rfl
   | false=>rw [hv] at h1 h2;simp at h1;exact absurd h1 h2
 have hv:vF F hs.length ls.length (wordL hs ls) i (plc hs.length ls.length t)=!decide (kN F i=8):=by
  have h1:=hne t (Nat.le_refl _)
  rw [hb t (Nat.le_refl _)] at h1
  have h2:valU F hs ls t i=!decide (kN F i=8):=by
   cases h:valU F hs ls t i <;> cases h':decide (kN F i=8) <;> rw [h,h'] at h1 <;> simp at h1 ⊢
  exact h2
 rw [vF_ok hF hp hi] at hv
 rw [hkd] at hv
 have hbd:∀ d,vF F hs.length ls.length (wordL hs ls) (F.getD i nd0).b.toNat (plc hs.length ls.length (plc hs.length ls.length t+d))=decide (kN F i=8):=fun d=>by
  rw [plc_on hp]
  exact hb (t+d) (by omega)
 rcases h78 with h7 | h8
 ·rw [h7] at hv hbd
  have hv':look (fun k=>ruleV (vF F hs.length ls.length (wordL hs ls) (F.getD i nd0).a.toNat) (vF F hs.length ls.length (wordL hs ls) (F.getD i nd0).b.toNat) hs.length ls.length (wordL hs ls) (F.getD i nd0) (plc hs.length ls.length k)) false (hs.length+ls.length) (plc hs.length ls.length t)=true:=hv
  obtain ⟨d,_,hr⟩:=look_true hv'
  unfold ruleV at hr
  rw [hkd,h7,hbd d] at hr
  simp at hr
 ·rw [h8] at hv hbd
  have hv':look (fun k=>ruleV (vF F hs.length ls.length (wordL hs ls) (F.getD i nd0).a.toNat) (vF F hs.length ls.length (wordL hs ls) (F.getD i nd0).b.toNat) hs.length ls.length (wordL hs ls) (F.getD i nd0) (plc hs.length ls.length k)) true (hs.length+ls.length) (plc hs.length ls.length t)=false:=hv
  obtain ⟨d,_,hr⟩:=look_false hv'
  unfold ruleV at hr
  rw [hkd,h8,hbd d] at hr
  simp at hr
theorem takesG_holds {F:List Nd} (hF:AllOk F) (hn:0 < F.length) {hs ls:List Int} (hp:0 < ls.length) (hu:∀ t,0≤lat hs ls t∧lat hs ls t < 8) :
  TakesG [(true,0,0)] (goodT F) (afterT F) (lat hs ls) ↔ vF F hs.length ls.length (wordL hs ls) (F.length - 1) 0=true:=by
 rw [takesG_tab (ahead_of hF) hn hu (valU_loc hF hp (fun t=>(hu t).1)) (valU_kept hF hp)]
 unfold valU
 rw [plc_small (by omega)]
end Go.Proofs.YtpiacnnifdjlkabGreatDoor
