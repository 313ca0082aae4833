import Derived.Test.YtpiacnnifdjlkabGreatDoorCe
import Derived.Deep.RegionWith
set_option maxRecDepth 100000
set_option maxHeartbeats 8000000
namespace Go.Proofs.YtpiacnnifdjlkabGreatDoor
open Go.RowKit Go.Sort
def oneA:Aut:=⟨1,2,[0],[true],[⟨0,0,0⟩]⟩
theorem boolSl_one (w:World) (g:Nat) (x:Bool) (h:w.cell? ⟨g,0,none⟩=some (.bool x)):BoolSl w (.slice (some ⟨g,0,none⟩) 1 1) [x]:=
 ⟨_,_,rfl,by simp [maxLen],Or.inr ⟨g,0,rfl,fun i hi=>by
  have:i=0:=by simpa using hi
  subst this
  exact h⟩,fun e=>(by cases e),by simp⟩
theorem stepSl_one (w:World) (g:Nat) (x:Stp) (h0:w.cell? ⟨g,0,none⟩=some (.int .i64 x.f)) (h1:w.cell? ⟨g,1,none⟩=some (.int .i64 x.l)) (h2:w.cell? ⟨g,2,none⟩=some (.int .i64 x.t)):StepSl w (.slice (some ⟨g,0,none⟩) 1 1) [x]:=
 ⟨_,_,rfl,by simp [maxLen],Or.inr ⟨g,0,rfl,fun i hi=>by
  have:i=0:=by simpa using hi
  subst this
  exact ⟨h0,h1,h2⟩⟩,fun e=>(by cases e),by simp⟩
theorem intSl_nil (w:World):IntSl w (.slice none 0 0) []:=⟨none,0,rfl,by simp [maxLen],Or.inl rfl,fun _=>rfl,by simp⟩
theorem four_alloc (w:World) (a b c d:Obj):((((w.alloc a).alloc b).alloc c).alloc d).heap[w.heap.size]?=some a∧((((w.alloc a).alloc b).alloc c).alloc d).heap[w.heap.size+1]?=some b∧((((w.alloc a).alloc b).alloc c).alloc d).heap[w.heap.size+1+1]?=some c ∧
  ((((w.alloc a).alloc b).alloc c).alloc d).heap[w.heap.size+1+1+1]?=some d:=by
 obtain ⟨h1,h2,h3⟩:=three_alloc w a b c
 refine ⟨?_,?_,?_,?_⟩
 ·rw [heap_alloc_old _ _ (by simp;omega)];exact h1
 ·rw [heap_alloc_old _ _ (by simp)];exact h2
 ·rw [heap_alloc_old _ _ (by simp)];exact h3
 ·have:=heap_alloc_new (((w.alloc a).alloc b).alloc c) d
  rwa [World.size_alloc,World.size_alloc,World.size_alloc] at this
theorem zero_any (w:World) :
  Calls Tryz.prog 49 #[] w fun e w'=>∃ g,e=.returned (.agg #[.slice none 0 0,.slice (some ⟨g,0,none⟩) 1 1])∧w'.cell? ⟨g,0,none⟩=some (.int .i64 0)∧Below w.heap.size w w':=by
 go_enter Tryz.func49,Tryz.ntmps49
 go_wp2
 have q:=two_alloc w (Obj.cells #[Value.slice none 0 0,.slice (some ⟨w.heap.size+1,0,none⟩) 1 1] 28) (Obj.cells #[Value.int .i64 0] 3)
 have c0:=cell_of_row _ _ 0 _ _ _ q.1
 have c1:=cell_of_row _ _ 1 _ _ _ q.1
 have c2:=cell_of_row _ _ 0 _ _ _ q.2
 refine bodyPost_ret (v:=.agg #[.slice none 0 0,.slice (some ⟨w.heap.size+1,0,none⟩) 1 1]) (by simp [results,Tryz.results49,go_sem,c0,c1]) rfl ⟨_,rfl,c2,(by repeat (first | exact Below.refl _ _ | assumption | refine below_drewN ?_ _ | refine Below.drew ?_ | refine Below.alloc ?_ (by simp <;> omega) _ | refine below_trans ?_ (by assumption)))⟩
theorem one_any (w:World) :
  Calls Tryz.prog 45 #[] w fun e w'=>∃ g1 g2 g3,e=.returned (.agg #[.int .i64 1,.int .i64 2,.slice (some ⟨g1,0,none⟩) 1 1,.slice (some ⟨g2,0,none⟩) 1 1,.slice (some ⟨g3,0,none⟩) 1 1])∧w'.cell? ⟨g1,0,none⟩=some (.int .i64 0)∧w'.cell? ⟨g2,0,none⟩=some (.bool true)∧w'.cell? ⟨g3,0,none⟩=some (.int .i64 0)∧w'.cell? ⟨g3,1,none⟩=some (.int .i64 0)∧w'.cell? ⟨g3,2,none⟩=some (.int .i64 0)∧Below w.heap.size w w':=by
 go_enter Tryz.func45,Tryz.ntmps45
 go_wp2
 have q:=four_alloc w (Obj.cells #[Value.int .i64 1,.int .i64 2,.slice (some ⟨w.heap.size+1,0,none⟩) 1 1,.slice (some ⟨w.heap.size+1+1,0,none⟩) 1 1,.slice (some ⟨w.heap.size+1+1+1,0,none⟩) 1 1] 26) (Obj.cells #[Value.int .i64 0] 3) (Obj.cells #[Value.bool true] 4) (Obj.cells #[Value.int .i64 0,.int .i64 0,.int .i64 0] 88)
 have c0:=cell_of_row _ _ 0 _ _ _ q.1
 have c1:=cell_of_row _ _ 1 _ _ _ q.1
 have c2:=cell_of_row _ _ 2 _ _ _ q.1
 have c3:=cell_of_row _ _ 3 _ _ _ q.1
 have c4:=cell_of_row _ _ 4 _ _ _ q.1
 refine bodyPost_ret (v:=.agg #[.int .i64 1,.int .i64 2,.slice (some ⟨w.heap.size+1,0,none⟩) 1 1,.slice (some ⟨w.heap.size+1+1,0,none⟩) 1 1,.slice (some ⟨w.heap.size+1+1+1,0,none⟩) 1 1]) (by simp [results,Tryz.results45,go_sem,c0,c1,c2,c3,c4]) rfl ⟨_,_,_,rfl,cell_of_row _ _ 0 _ _ _ q.2.1,cell_of_row _ _ 0 _ _ _ q.2.2.1,cell_of_row _ _ 0 _ _ _ q.2.2.2,cell_of_row _ _ 1 _ _ _ q.2.2.2,cell_of_row _ _ 2 _ _ _ q.2.2.2,(by repeat (first | exact Below.refl _ _ | assumption | refine below_drewN ?_ _ | refine Below.drew ?_ | refine Below.alloc ?_ (by simp <;> omega) _ | refine below_trans ?_ (by assumption)))⟩
theorem takes_one:TakesA oneA [] [0]:=by
 refine ⟨0,by decide,(0,0),⟨0,rfl⟩,rfl,⟨0,(0,0),⟨rfl,⟨0,0,0⟩,by simp [oneA],rfl,rfl,rfl⟩,rfl⟩⟩
theorem not_takes_one:¬ TakesA oneA [1] [0]:=by
 have no:∀ z,¬ EdgeA oneA [1] [0] (0,0) z:=by
  rintro z ⟨_,s,hs,_,h,_⟩
  have:s=⟨0,0,0⟩:=by simpa [oneA] using hs
  subst this
  exact absurd h (by decide)
 have stay:∀ z,Leads (EdgeA oneA [1] [0]) (0,0) z→z=(0,0):=by
  rintro z ⟨n,h⟩
  cases n with
  | zero=>exact h.symm
  | succ n=>obtain ⟨y,hy,_⟩:=h;exact absurd hy (no y)
 rintro ⟨i,hi,z,h1,_,n,h2⟩
 have hi0:i=0:=by simpa [oneA] using hi
 subst hi0
 have:=stay z h1
 subst this
 obtain ⟨y,hy,_⟩:=h2
 exact no y hy
theorem leastBegun {p k:Nat} (hp:LeastPer [0,0] p) (hk:LeastHead [0] [0,0] p k):pieceOf [0] [0,0] 0 k=[]∧pieceOf [0] [0,0] k p=[0]:=by
 have p1:p=1:=by
  have h1:=hp.1.1
  have h2:=hp.2 1 ⟨by decide,by decide,by decide,by decide⟩
  omega
 subst p1
 obtain ⟨h1,_,h3⟩:=hk
 have k0:k=0:=by
  rcases h3 with h | h
  ·exact h
  ·have hk2:k=0 ∨ k=1:=by simp at h1;omega
   rcases hk2 with rfl | rfl
   ·rfl
   ·exact absurd (by decide) h
 subst k0
 exact ⟨by decide,by decide⟩
theorem intSl_two (w:World) (g:Nat) (x y:Int) (h0:w.cell? ⟨g,0,none⟩=some (.int .i64 x)) (h1:w.cell? ⟨g,1,none⟩=some (.int .i64 y)):IntSl w (.slice (some ⟨g,0,none⟩) 2 2) [x,y]:=
 ⟨_,_,rfl,by simp [maxLen],Or.inr ⟨g,0,rfl,fun i hi=>by
  have:i=0 ∨ i=1:=by simp at hi;omega
  rcases this with rfl | rfl
  ·exact h0
  ·exact h1⟩,fun e=>(by cases e),by simp⟩
theorem autV_one {w:World}{g1 g2 g3:Nat} (h1:w.cell? ⟨g1,0,none⟩=some (.int .i64 0)) (h2:w.cell? ⟨g2,0,none⟩=some (.bool true)) (h3:w.cell? ⟨g3,0,none⟩=some (.int .i64 0)) (h4:w.cell? ⟨g3,1,none⟩=some (.int .i64 0)) (h5:w.cell? ⟨g3,2,none⟩=some (.int .i64 0)) :
  AutV w (.agg #[.int .i64 1,.int .i64 2,.slice (some ⟨g1,0,none⟩) 1 1,.slice (some ⟨g2,0,none⟩) 1 1,.slice (some ⟨g3,0,none⟩) 1 1]) oneA:=
 ⟨_,_,_,rfl,intSl_one w g1 0 h1,boolSl_one w g2 true h2,stepSl_one w g3 ⟨0,0,0⟩ h3 h4 h5⟩
theorem leastB {w:World}{g0 g1:Nat} (h0:w.cell? ⟨g0,0,none⟩=some (.int .i64 0)) (h1:w.cell? ⟨g1,0,none⟩=some (.int .i64 0)) (h2:w.cell? ⟨g1,1,none⟩=some (.int .i64 0)) :
  Calls Tryz.prog 20 #[.agg #[.slice (some ⟨g0,0,none⟩) 1 1,.slice (some ⟨g1,0,none⟩) 2 2],.int .i64 2] w fun e w'=>∃ a1 c1 a2 c2,e=.returned (.tuple #[.agg #[.slice a1 0 c1,.slice a2 1 c2],.int .i64 0])∧IntSl w' (.slice a1 0 c1) []∧IntSl w' (.slice a2 1 c2) [0]∧Below w.heap.size w w':=by
 refine (least_good (intSl_one w g0 0 h0) (intSl_two w g1 0 0 h1 h2) 2 (by decide)).mono ?_
 rintro e w' ⟨v1,v2,p,k,rfl,hp,hk,i1,i2,hb⟩
 obtain ⟨e1,e2⟩:=leastBegun hp hk
 rw [e1] at i1
 rw [e2] at i2
 obtain ⟨a1,c1,f1⟩:=i1.form rfl
 obtain ⟨a2,c2,f2⟩:=i2.form rfl
 subst f1 f2
 exact ⟨a1,c1,a2,c2,rfl,i1,i2,hb⟩
theorem atB {w:World}{g0 g1:Nat} (h0:w.cell? ⟨g0,0,none⟩=some (.int .i64 1)) (h1:w.cell? ⟨g1,0,none⟩=some (.int .i64 0)) :
  Calls Tryz.prog 48 #[.agg #[.slice (some ⟨g0,0,none⟩) 1 1,.slice (some ⟨g1,0,none⟩) 1 1],.int .i64 2,.int .i64 0] w fun e w'=>e=.returned (.tuple #[.int .i64 1,.int .i64 0])∧Below w.heap.size w w':=
 at_good (intSl_one w g0 1 h0) (intSl_one w g1 0 h1) (by simp) 2 0 (by decide) (by omega) (by omega)
theorem takesB {w:World}{g1 g2 g3 g:Nat} (ht:Tab w) (h1:w.cell? ⟨g1,0,none⟩=some (.int .i64 0)) (h2:w.cell? ⟨g2,0,none⟩=some (.bool true)) (h3:w.cell? ⟨g3,0,none⟩=some (.int .i64 0)) (h4:w.cell? ⟨g3,1,none⟩=some (.int .i64 0)) (h5:w.cell? ⟨g3,2,none⟩=some (.int .i64 0)) (h:w.cell? ⟨g,0,none⟩=some (.int .i64 0)) :
  Calls Tryz.prog 34 #[.agg #[.int .i64 1,.int .i64 2,.slice (some ⟨g1,0,none⟩) 1 1,.slice (some ⟨g2,0,none⟩) 1 1,.slice (some ⟨g3,0,none⟩) 1 1],.agg #[.slice none 0 0,.slice (some ⟨g,0,none⟩) 1 1]] w fun e w'=>e=.returned (.tuple #[.bool true,.int .i64 0])∧Below w.heap.size w w':=by
 refine (takes_any (autV_one h1 h2 h3 h4 h5) (intSl_nil w) (intSl_one w g 0 h) ht).mono ?_
 rintro e w' ⟨b,rfl,hb,hw⟩
 have e0:tkE oneA [] [0]=0:=by decide
 have:b=true:=hb.2 ⟨e0,takes_one⟩
 subst this
 rw [e0]
 exact ⟨rfl,hw⟩
theorem takesN {w:World}{g1 g2 g3 g g':Nat} (ht:Tab w) (h1:w.cell? ⟨g1,0,none⟩=some (.int .i64 0)) (h2:w.cell? ⟨g2,0,none⟩=some (.bool true)) (h3:w.cell? ⟨g3,0,none⟩=some (.int .i64 0)) (h4:w.cell? ⟨g3,1,none⟩=some (.int .i64 0)) (h5:w.cell? ⟨g3,2,none⟩=some (.int .i64 0)) (h:w.cell? ⟨g,0,none⟩=some (.int .i64 1)) (h':w.cell? ⟨g',0,none⟩=some (.int .i64 0)) :
  Calls Tryz.prog 34 #[.agg #[.int .i64 1,.int .i64 2,.slice (some ⟨g1,0,none⟩) 1 1,.slice (some ⟨g2,0,none⟩) 1 1,.slice (some ⟨g3,0,none⟩) 1 1],.agg #[.slice (some ⟨g,0,none⟩) 1 1,.slice (some ⟨g',0,none⟩) 1 1]] w fun e w'=>e=.returned (.tuple #[.bool false,.int .i64 0])∧Below w.heap.size w w':=by
 refine (takes_any (autV_one h1 h2 h3 h4 h5) (intSl_one w g 1 h) (intSl_one w g' 0 h') ht).mono ?_
 rintro e w' ⟨b,rfl,hb,hw⟩
 have e0:tkE oneA [1] [0]=0:=by decide
 have:b=false:=by
  cases b with
  | false=>rfl
  | true=>exact absurd (hb.1 rfl).2 not_takes_one
 subst this
 rw [e0]
 exact ⟨rfl,hw⟩
section
variable {P:Program}{Q:Exit→Act→World→Prop}
def ordersOf (md:Region.Mode) (ops:Array Oper):Nat→Array Bool→List (List Nat)
 | 0,_=>[[]]
 | f+1,listed=>match Region.ready md ops listed with
  | []=>[[]]
  | r=>r.flatMap fun i=>(ordersOf md ops f (listed.setIfInBounds i true)).map (i :: ·)
theorem lin_mem (md:Region.Mode) (ops:Array Oper):∀ (fuel t:Nat) (listed:Array Bool),Region.linearise.go md ops fuel t listed [] ∈ ordersOf md ops fuel listed:=by
 intro fuel
 induction fuel with
 | zero=>intro t listed;simp [Region.linearise.go,ordersOf]
 | succ fuel ih =>
  intro t listed
  simp only [Region.linearise.go]
  change (match (Region.ready md ops listed)[t % (Region.ready md ops listed).length]? with
   | some i=>Region.linearise.go md ops fuel (t / (Region.ready md ops listed).length) (listed.setIfInBounds i true) [i]
   | none=>[].reverse) ∈ _
  unfold ordersOf
  cases hi:(Region.ready md ops listed)[t % (Region.ready md ops listed).length]? with
  | none =>
   have hnil:Region.ready md ops listed=[]:=by
    cases hr:Region.ready md ops listed with
    | nil=>rfl
    | cons x xs =>
     rw [hr] at hi
     have hlt:t % (x :: xs).length < (x :: xs).length:=Nat.mod_lt _ (by simp)
     simp at hi
     simp at hlt
     omega
   rw [hnil]
   simp
  | some i =>
   have hm:=List.mem_of_getElem? hi
   simp only []
   rw [linearise_go_acc,List.reverse_singleton,List.singleton_append]
   cases hr:Region.ready md ops listed with
   | nil=>rw [hr] at hm;cases hm
   | cons x xs =>
    rw [hr] at hm
    simp only []
    exact List.mem_flatMap.2 ⟨i,hm,List.mem_map.2 ⟨_,ih _ _,rfl⟩⟩
theorem wpOps_list (ops:Array Oper):∀ (l:List Nat),wpOps P ops Q l=wpList P ops Q (l.filterMap (ops[·]?))
 | []=>by funext a w;simp [wpOps,wpList]
 | i :: l=>by
  funext a w
  cases h:ops[i]? with
  | none=>simp only [wpOps,h,wpOps_list ops l,List.filterMap_cons]
  | some o=>simp only [wpOps,h,wpOps_list ops l,List.filterMap_cons,wpList]
theorem wp_region_orders {id:Nat}{a:Act}{w:World}{ops:List Oper} (L:List (List Nat)) (hm:P.follows .mixedOrders=true) (hL:ordersOf .any ops.toArray ops.length (Array.replicate ops.length false)=L)
  (h:∀ o ∈ L,wpList P ops.toArray Q (o.filterMap (ops[·]?)) a w.drew):(Code.region id ops.toArray true).wp P Q a w:=by
 refine wp_region_draw fun t=>?_
 have hsch:Region.schedule (P.follows .mixedOrders) ops.toArray t=Region.linearise.go .any ops.toArray ops.length t (Array.replicate ops.length false) []:=by
  simp only [Region.schedule,hm,Bool.true_or,if_true]
  rfl
 rw [hsch,wpOps_list]
 have:=h _ (hL ▸ lin_mem .any ops.toArray ops.length t _)
 simpa using this
end
theorem sameB {w:World}{a1 a2:Option Addr}{c1 c2 g:Nat} (h1:IntSl w (.slice a1 0 c1) []) (h2:IntSl w (.slice a2 1 c2) [0]) (h:w.cell? ⟨g,0,none⟩=some (.int .i64 0)) :
  Calls Tryz.prog 25 #[.agg #[.slice a1 0 c1,.slice a2 1 c2],.agg #[.slice none 0 0,.slice (some ⟨g,0,none⟩) 1 1]] w fun e w'=>e=.returned (.bool true)∧Below w.heap.size w w':=
 sameLasso_any h1 h2 (intSl_nil w) (intSl_one w g 0 h)
theorem checkZ {w:World}{g:Nat} (h:w.cell? ⟨g,0,none⟩=some (.int .i64 0)) :
  Calls Tryz.prog 50 #[.agg #[.slice none 0 0,.slice (some ⟨g,0,none⟩) 1 1],.int .i64 1] w fun e w'=>e=.returned (.int .i64 0)∧Below w.heap.size w w':=
 check_any 1 (intSl_nil w) (intSl_one w g 0 h)
theorem wordBegun_any {w:World} (ht:Tab w) :
  Calls Tryz.prog 8 #[] w fun e w'=>e=.returned (.bool true)∧Below w.heap.size w w':=by
 have Ht:=hide ht
 clear ht
 go_enter Tryz.func8,Tryz.ntmps8
 go_wp2_with (fail)
 have q:=two_alloc w (Obj.cells #[Value.int .i64 0] 3) (Obj.cells #[Value.int .i64 0,.int .i64 0] 3)
 refine (leastB (cell_of_row _ _ 0 _ _ _ q.1) (cell_of_row _ _ 0 _ _ _ q.2) (cell_of_row _ _ 1 _ _ _ q.2)).mono ?_
 rintro e w1 ⟨a1,c1,a2,c2,rfl,i1,i2,hb⟩
 have hb1:Below w.heap.size w w1:=below_trans (by repeat (first | exact Below.refl _ _ | assumption | refine below_drewN ?_ _ | refine Below.drew ?_ | refine Below.alloc ?_ (by simp <;> omega) _ | refine below_trans ?_ (by assumption))) hb
 have I1:=hide i1
 have I2:=hide i2
 clear q i1 i2 hb
 go_wp2_with (fail)
 have q:=three_alloc w1 (Obj.cells #[Value.slice a1 0 c1,.slice a2 1 c2] 28) (Obj.cells #[Value.int .i64 1] 3) (Obj.cells #[Value.int .i64 0] 3)
 refine (atB (cell_of_row _ _ 0 _ _ _ q.2.1) (cell_of_row _ _ 0 _ _ _ q.2.2)).mono ?_
 rintro e w2 ⟨rfl,hb⟩
 have hb2:Below w1.heap.size w1 w2:=below_trans (by repeat (first | exact Below.refl _ _ | assumption | refine below_drewN ?_ _ | refine Below.drew ?_ | refine Below.alloc ?_ (by simp <;> omega) _ | refine below_trans ?_ (by assumption))) hb
 have b0:=(hb.block w1.heap.size (by simp;omega)).trans q.1
 clear q hb
 go_wp2_with (fail)
 refine (one_any _).mono ?_
 rintro e w3 ⟨g1,g2,g3,rfl,j1,j2,j3,j4,j5,hb3⟩
 go_wp2_with (fail)
 refine (zero_any _).mono ?_
 rintro e w4 ⟨g4,rfl,j6,hb4⟩
 have hB4:Below w.heap.size w w4:=below_trans (below_trans (below_trans hb1 hb2) hb3) hb4
 go_wp2_with (fail)
 refine (takesB (Ht.out.below hB4) ((hb4.cell (World.block_lt_of_cell? _ _ j1)).trans j1) ((hb4.cell (World.block_lt_of_cell? _ _ j2)).trans j2) ((hb4.cell (World.block_lt_of_cell? _ _ j3)).trans j3) ((hb4.cell (World.block_lt_of_cell? _ _ j4)).trans j4) ((hb4.cell (World.block_lt_of_cell? _ _ j5)).trans j5) j6).mono ?_
 rintro e w5 ⟨rfl,hb5⟩
 clear j1 j2 j3 j4 j5 j6
 go_wp2_with (fail)
 refine (one_any _).mono ?_
 rintro e w6 ⟨g1',g2',g3',rfl,j1,j2,j3,j4,j5,hb6⟩
 have hB6:Below w.heap.size w w6:=below_trans (below_trans hB4 hb5) hb6
 go_wp2_with (fail)
 have q:=two_alloc w6 (Obj.cells #[Value.int .i64 1] 3) (Obj.cells #[Value.int .i64 0] 3)
 have hn:Below w6.heap.size w6 ((w6.alloc (Obj.cells #[Value.int .i64 1] 3)).alloc (Obj.cells #[Value.int .i64 0] 3)):=(by repeat (first | exact Below.refl _ _ | assumption | refine below_drewN ?_ _ | refine Below.drew ?_ | refine Below.alloc ?_ (by simp <;> omega) _ | refine below_trans ?_ (by assumption)))
 refine (takesN ((Ht.out.below hB6).below hn) ((hn.cell (World.block_lt_of_cell? _ _ j1)).trans j1) ((hn.cell (World.block_lt_of_cell? _ _ j2)).trans j2) ((hn.cell (World.block_lt_of_cell? _ _ j3)).trans j3) ((hn.cell (World.block_lt_of_cell? _ _ j4)).trans j4) ((hn.cell (World.block_lt_of_cell? _ _ j5)).trans j5) (cell_of_row _ _ 0 _ _ _ q.1) (cell_of_row _ _ 0 _ _ _ q.2)).mono ?_
 rintro e w7 ⟨rfl,hb⟩
 have hb7:Below w6.heap.size w6 w7:=below_trans hn hb
 clear j1 j2 j3 j4 j5 q hn hb
 have hl1:w1.heap.size < w2.heap.size:=(Array.getElem?_eq_some_iff.1 b0).1
 have hb27:Below w2.heap.size w2 w7:=below_trans (below_trans (below_trans (below_trans hb3 hb4) hb5) hb6) hb7
 have b7:=(hb27.block w1.heap.size hl1).trans b0
 have hB7:Below w.heap.size w w7:=below_trans hB6 hb7
 have hl7:=(Array.getElem?_eq_some_iff.1 b7).1
 have i1:=(I1.out.below hb2).below hb27
 have i2:=(I2.out.below hb2).below hb27
 have II1:=hide i1
 have II2:=hide i2
 clear hb27 hb7 hb6 hb5 hb4 hb3 b0 hl1 hB6 hB4 i1 i2 I1 I2 hb1 hb2 Ht
 go_wp2_with (fail)
 have k0:w7.cell? ⟨w1.heap.size,0,none⟩=some (.slice a1 0 c1):=cell_of_row _ _ 0 _ _ _ b7
 have k1:w7.cell? ⟨w1.heap.size,1,none⟩=some (.slice a2 1 c2):=cell_of_row _ _ 1 _ _ _ b7
 clear b7
 refine wp_region_orders [[0,1,2,3,4,5,6,7,8,9,10,11,12,13,14,15,16,17,18,19,20,21,22,23,24,25,26,27,28,29,30,31,32,33,34,35],[0,1,2,3,4,5,6,7,8,9,10,11,12,13,14,15,16,17,18,19,21,20,22,23,24,25,26,27,28,29,30,31,32,33,34,35]] (by kernel_rfl) (by kernel_rfl) ?_
 simp only [List.forall_mem_cons,List.filterMap_cons,List.filterMap_nil,List.getElem?_cons_succ,List.getElem?_cons_zero,List.not_mem_nil,false_implies,implies_true,and_true]
 refine ⟨?_,?_⟩
 ·go_wp2_with (fail)
  refine (zero_any _).mono ?_
  rintro e wz ⟨gz,rfl,zz,hbz⟩
  have Z0:Below w7.heap.size w7 wz:=below_trans (Below.drew (Below.refl _ _)) hbz
  clear hbz
  go_wp2_with (fail)
  refine (checkZ zz).mono ?_
  rintro e wc ⟨rfl,hbc⟩
  have Z1:=below_trans Z0 hbc
  have k2:wc.cell? ⟨w1.heap.size,0,none⟩=some (.slice a1 0 c1):=(Z1.cell (World.block_lt_of_cell? w7 _ k0)).trans k0
  have k3:wc.cell? ⟨w1.heap.size,1,none⟩=some (.slice a2 1 c2):=(Z1.cell (World.block_lt_of_cell? w7 _ k1)).trans k1
  clear hbc zz
  go_wp2_with (fail)
  refine (zero_any _).mono ?_
  rintro e wy ⟨gy,rfl,zy,hby⟩
  have Z2:=below_trans Z1 hby
  have k4:wy.cell? ⟨w1.heap.size,0,none⟩=some (.slice a1 0 c1):=(Z2.cell (World.block_lt_of_cell? w7 _ k0)).trans k0
  have k5:wy.cell? ⟨w1.heap.size,1,none⟩=some (.slice a2 1 c2):=(Z2.cell (World.block_lt_of_cell? w7 _ k1)).trans k1
  clear hby k2 k3
  go_wp2_with (fail)
  refine (sameB (II1.out.below Z2) (II2.out.below Z2) zy).mono ?_
  rintro e wx ⟨rfl,hbx⟩
  have Z3:=below_trans Z2 hbx
  clear k4 k5 zy hbx k0 k1
  go_wp2
  go_ret
  exact ⟨rfl,below_trans hB7 Z3⟩
 ·go_wp2_with (fail)
  refine (zero_any _).mono ?_
  rintro e wz ⟨gz,rfl,zz,hbz⟩
  have Z0:Below w7.heap.size w7 wz:=below_trans (Below.drew (Below.refl _ _)) hbz
  clear hbz
  go_wp2_with (fail)
  refine (checkZ zz).mono ?_
  rintro e wc ⟨rfl,hbc⟩
  have Z1:=below_trans Z0 hbc
  have k2:wc.cell? ⟨w1.heap.size,0,none⟩=some (.slice a1 0 c1):=(Z1.cell (World.block_lt_of_cell? w7 _ k0)).trans k0
  have k3:wc.cell? ⟨w1.heap.size,1,none⟩=some (.slice a2 1 c2):=(Z1.cell (World.block_lt_of_cell? w7 _ k1)).trans k1
  clear hbc zz
  go_wp2_with (fail)
  refine (zero_any _).mono ?_
  rintro e wy ⟨gy,rfl,zy,hby⟩
  have Z2:=below_trans Z1 hby
  have k4:wy.cell? ⟨w1.heap.size,0,none⟩=some (.slice a1 0 c1):=(Z2.cell (World.block_lt_of_cell? w7 _ k0)).trans k0
  have k5:wy.cell? ⟨w1.heap.size,1,none⟩=some (.slice a2 1 c2):=(Z2.cell (World.block_lt_of_cell? w7 _ k1)).trans k1
  clear hby k2 k3
  go_wp2_with (fail)
  refine (sameB (II1.out.below Z2) (II2.out.below Z2) zy).mono ?_
  rintro e wx ⟨rfl,hbx⟩
  have Z3:=below_trans Z2 hbx
  clear k4 k5 zy hbx k0 k1
  go_wp2
  go_ret
  exact ⟨rfl,below_trans hB7 Z3⟩
theorem belowRow {w w':World} (h:Below w.heap.size w w') {b:Nat}{o:Obj} (hb:w.heap[b]?=some o):w'.heap[b]?=some o:=(h.block b (Array.getElem?_eq_some_iff.1 hb).1).trans hb
theorem one_new (w:World) (o:Obj):(w.alloc o).heap[w.heap.size]?=some o:=heap_alloc_new w o
end Go.Proofs.YtpiacnnifdjlkabGreatDoor
