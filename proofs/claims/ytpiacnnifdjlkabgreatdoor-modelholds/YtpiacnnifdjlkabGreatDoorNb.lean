import Derived.Test.YtpiacnnifdjlkabGreatDoorEk
import Derived.Test.YtpiacnnifdjlkabGreatDoorTj
import Derived.Test.YtpiacnnifdjlkabGreatDoorLc
import Derived.Test.YtpiacnnifdjlkabGreatDoorVa
import Derived.Test.YtpiacnnifdjlkabGreatDoorYm
import Derived.Test.YtpiacnnifdjlkabGreatDoorEc
import Derived.MapKept
import Derived.Laws.StructEq
set_option maxRecDepth 100000
set_option maxHeartbeats 8000000
namespace Go.Proofs.YtpiacnnifdjlkabGreatDoor
open Go.RowKit Go.Sort
theorem ruleB_congr {T T':List (List Bool)}{h p:Nat}{L:Nat→Int}{x:Nd} (ha:3≤x.k∧x.k≤8→T.getD x.a.toNat []=T'.getD x.a.toNat []) (hb:x.k=4 ∨ x.k=5 ∨ x.k=7 ∨ x.k=8→T.getD x.b.toNat []=T'.getD x.b.toNat []):ruleB T h p L x=ruleB T' h p L x:=by
 funext i nx
 unfold ruleB bt
 by_cases h2:x.k=2
 ·simp only [if_pos h2]
 by_cases h3:x.k=3
 ·simp only [if_neg h2,if_pos h3,ha (by omega)]
 by_cases h4:x.k=4
 ·simp only [if_neg h2,if_neg h3,if_pos h4,ha (by omega),hb (by omega)]
 by_cases h5:x.k=5
 ·simp only [if_neg h2,if_neg h3,if_neg h4,if_pos h5,ha (by omega),hb (by omega)]
 by_cases h6:x.k=6
 ·simp only [if_neg h2,if_neg h3,if_neg h4,if_neg h5,if_pos h6,ha (by omega)]
 by_cases h7:x.k=7
 ·simp only [if_neg h2,if_neg h3,if_neg h4,if_neg h5,if_neg h6,if_pos h7,ha (by omega),hb (by omega)]
 by_cases h8:x.k=8
 ·simp only [if_neg h2,if_neg h3,if_neg h4,if_neg h5,if_neg h6,if_neg h7,if_pos h8,ha (by omega),hb (by omega)]
 simp only [if_neg h2,if_neg h3,if_neg h4,if_neg h5,if_neg h6,if_neg h7,if_neg h8]
theorem node_ok {x:Nd}{m:Nat} (h:nodeErr x m=0):(1≤x.k∧x.k≤8)∧(0≤x.a∧(3≤x.k→x.a < m)∧(x.k < 3→x.a=0))∧(0≤x.b∧(x.k=4 ∨ x.k=5 ∨ x.k=7 ∨ x.k=8→x.b < m)∧(¬ (x.k=4 ∨ x.k=5 ∨ x.k=7 ∨ x.k=8)→x.b=0))∧(x.k=2→0≤x.n∧x.n≤2):=by
 unfold nodeErr at h
 by_cases h1:1≤x.k∧x.k≤8
 ·rw [if_pos h1] at h
  unfold chkN at h
  split at h
  ·omega
  ·split at h
   ·omega
   ·split at h
    ·omega
    ·rename_i q1 q2 q3
     refine ⟨h1,⟨?_,?_,?_⟩,⟨?_,?_,?_⟩,?_⟩ <;> omega
 ·rw [if_neg h1] at h;omega
def AllOk (F:List Nd):Prop:=∀ m,m < F.length→nodeErr (F.getD m nd0) m=0
theorem chkFrom_ok (F:List Nd):∀ d m,m+d=F.length→chkFrom (F.drop m) m=0→∀ j,m≤j→j < F.length→nodeErr (F.getD j nd0) j=0
 | 0,m,hm,_,j,h1,h2=>by omega
 | d+1,m,hm,h,j,h1,h2=>by
  rw [chkFrom_drop F m (by omega)] at h
  by_cases e:nodeErr (F.getD m nd0) m=0
  ·rw [if_pos e] at h
   by_cases ej:j=m
   ·subst ej;exact e
   ·exact chkFrom_ok F d (m+1) (by omega) h j (by omega) h2
  ·rw [if_neg e] at h;exact absurd h e
theorem chkF_ok {F:List Nd} (h:chkF F=0):0 < F.length∧F.length≤12∧AllOk F:=by
 unfold chkF at h
 split at h
 ·omega
 ·split at h
  ·omega
  ·rename_i h0 h1
   exact ⟨by omega,by omega,fun m hm=>chkFrom_ok F F.length 0 (by omega) h m (by omega) hm⟩
theorem tab_row {F:List Nd} (hF:AllOk F) (h p:Nat) (L:Nat→Int) (m:Nat) (hm:m < F.length):(tabN F h p L F.length).getD m []=rowU (ruleB (tabN F h p L F.length) h p L (F.getD m nd0)) (decide ((F.getD m nd0).k=8)) h p:=by
 rw [tabN_get F h p L m F.length hm]
 obtain ⟨_,⟨a0,a1,_⟩,⟨b0,b1,_⟩,_⟩:=node_ok (hF m hm)
 have e:ruleB (tabN F h p L m) h p L (F.getD m nd0)=ruleB (tabN F h p L F.length) h p L (F.getD m nd0):=by
  refine ruleB_congr (fun hk=>?_) (fun hk=>?_)
  ·have:=a1 hk.1
   rw [tabN_get F h p L _ m (by omega),tabN_get F h p L _ F.length (by omega)]
  ·have:=b1 hk
   rw [tabN_get F h p L _ m (by omega),tabN_get F h p L _ F.length (by omega)]
 rw [← e]
 rfl
theorem tab_len (F:List Nd) (h p:Nat) (L:Nat→Int) (m:Nat) (hm:m < F.length):((tabN F h p L F.length).getD m []).length=h+p:=tabN_row F h p L m F.length hm
structure TR (w wr:World) (gT R g lc n0 N M m:Nat) (Ls:List Int) (T:List (List Bool)):Prop where
 below:Below w.heap.size w wr
 t0:wr.cell? ⟨gT,0,none⟩=some (.slice (some ⟨g,0,none⟩) N lc)
 t1:wr.cell? ⟨gT,1,none⟩=some (.int .i64 n0)
 t2:wr.cell? ⟨gT,2,none⟩=some (.slice (some ⟨R,0,none⟩) M M)
 res:wr.heap[w.heap.size+1]?=some (Obj.cells #[.slice none 0 0,.int .i64 0,.slice none 0 0] 116)
 ints:IntSl wr (.slice (some ⟨g,0,none⟩) N lc) Ls
 rows:∀ j,j < M→∃ a n c,wr.cell? ⟨R,j,none⟩=some (.slice a n c)∧(j < m→RowSl wr (.slice a n c) (T.getD j [])∧∀ b,(Value.slice a n c).ownBlock=some b→b ≠ R∧b ≠ w.heap.size+1)
 soft:∀ o,wr.frozen? ⟨R,o,none⟩=false
theorem TR.start {w W:World}{gT R g lc n0 N M:Nat}{Ls:List Int} (T:List (List Bool)) (hb:Below w.heap.size w W) (c0:W.cell? ⟨gT,0,none⟩=some (.slice (some ⟨g,0,none⟩) N lc)) (c1:W.cell? ⟨gT,1,none⟩=some (.int .i64 n0)) (c2:W.cell? ⟨gT,2,none⟩=some (.slice (some ⟨R,0,none⟩) M M)) (hR:W.heap[R]?=some (Obj.cells (nilRows M) 23)) (hq:W.heap[w.heap.size+1]?=some (Obj.cells #[.slice none 0 0,.int .i64 0,.slice none 0 0] 116)) (hz:IntSl W (.slice (some ⟨g,0,none⟩) N lc) Ls) :
  TR w W gT R g lc n0 N M 0 Ls T:=
 ⟨hb,c0,c1,c2,hq,hz,fun j hj=>⟨none,0,0,by rw [cell_of_row W R j _ _ _ hR];simp [nilRows,hj],fun h=>by omega⟩,fun o=>by simp [World.frozen?,hR]⟩
theorem TR.grown {w wr wr':World}{gT R g lc n0 N M m:Nat}{Ls:List Int}{T:List (List Bool)} (h:TR w wr gT R g lc n0 N M m Ls T) (hM:0 < M) (hb:Below wr.heap.size wr wr'):TR w wr' gT R g lc n0 N M m Ls T:=
 ⟨below_trans h.below hb,cell_keep h.t0 hb,cell_keep h.t1 hb,cell_keep h.t2 hb,block_keep h.res hb,h.ints.below hb,fun j hj=>by
  obtain ⟨a,n,c,hc,hr⟩:=h.rows j hj
  exact ⟨a,n,c,cell_keep hc hb,fun hjm=>⟨(hr hjm).1.below hb,(hr hjm).2⟩⟩,fun o=>by
  obtain ⟨a,n,c,hc,_⟩:=h.rows 0 hM
  rw [hb.frozen (p:=⟨R,o,none⟩) (show R < _ from World.block_lt_of_cell? wr ⟨R,0,none⟩ hc)];exact h.soft o⟩
theorem RowSl.setCell {w:World}{v:Value}{zs:List Bool} (h:RowSl w v zs) {a:Addr} (hne:∀ k,v.ownBlock=some k→k ≠ a.block) (u:Value):RowSl (w.setCell a u) v zs:=by
 obtain ⟨b,cap,rfl,hm,h,hn⟩:=h
 refine ⟨b,cap,rfl,hm,?_,hn⟩
 rcases h with h | ⟨b,off,rfl,hc⟩
 ·exact Or.inl h
 ·refine Or.inr ⟨b,off,rfl,fun i hi=>?_⟩
  rw [World.cell?_setCell_other _ _ _ _ (fun e=>hne b rfl (by rw [e]))]
  exact hc i hi
theorem TR.set {w wr:World}{gT R g lc n0 N M m:Nat}{Ls:List Int}{T:List (List Bool)} (h:TR w wr gT R g lc n0 N M m Ls T) (hne:gT ≠ R∧w.heap.size+1 < R∧g ≠ R) (hm:m < M) {a:Option Addr}{n c:Nat} (hr:RowSl wr (.slice a n c) (T.getD m [])) (ho:∀ b,(Value.slice a n c).ownBlock=some b→b ≠ R∧b ≠ w.heap.size+1) :
  TR w (wr.setCell ⟨R,m,none⟩ (.slice a n c)) gT R g lc n0 N M (m+1) Ls T:=
 ⟨h.below.setCell (by show w.heap.size≤R;omega) _,cell_set_ne hne.1 h.t0,cell_set_ne hne.1 h.t1,cell_set_ne hne.1 h.t2,heap_set_ne (by omega) h.res,ints_set hne.2.2 h.ints,fun j hj=>by
  by_cases e:j=m
  ·subst e
   obtain ⟨a',n',c',hc,_⟩:=h.rows j hj
   exact ⟨a,n,c,cell_set_eq hc,fun _=>⟨hr.setCell (fun k hk=>(ho k hk).1) _,ho⟩⟩
  ·obtain ⟨a',n',c',hc,hrow⟩:=h.rows j hj
   refine ⟨a',n',c',cell_set_off e hc,fun hjm=>?_⟩
   have:=hrow (by omega)
   exact ⟨this.1.setCell (fun k hk=>(this.2 k hk).1) _,this.2⟩,fun o=>by rw [World.frozen?_setCell];exact h.soft o⟩
theorem in_w3 {w wr w2 w3:World}{gT R g lc n0 N M m:Nat}{Ls:List Int}{T:List (List Bool)}{o:Obj} (h:TR w wr gT R g lc n0 N M m Ls T) (hM:0 < M) (hm:m < M) (hb2:Below (wr.alloc o).drew.heap.size (wr.alloc o).drew w2) (hb3:Below w2.heap.size w2 w3) :
  (∃ a n c,w3.cell? ⟨R,m,none⟩=some (.slice a n c))∧w3.frozen? ⟨R,m,none⟩=false∧TR w w3 gT R g lc n0 N M m Ls T∧R < w2.heap.size:=by
 have h2:=((h.grown hM (below_new wr o)).grown hM (Below.drew (Below.refl _ _))).grown hM hb2
 have h3:=h2.grown hM hb3
 obtain ⟨a,n,c,hc,_⟩:=h3.rows m hm
 obtain ⟨a',n',c',hc',_⟩:=h2.rows m hm
 exact ⟨⟨a,n,c,hc⟩,h3.soft m,h3,World.block_lt_of_cell? w2 _ hc'⟩
theorem own_new {w w2:World}{R gr n c:Nat} (h1:R < w2.heap.size) (h2:w.heap.size+1 < R) (h3:w2.heap.size≤gr):∀ b,(Value.slice (some ⟨gr,0,none⟩) n c).ownBlock=some b→b ≠ R∧b ≠ w.heap.size+1:=by
 intro b hb
 have:gr=b:=by simpa [Value.ownBlock] using hb
 omega
theorem TR.done {w wr:World}{gT R g lc n0 N M:Nat}{Ls:List Int}{T:List (List Bool)} (h:TR w wr gT R g lc n0 N M M Ls T) (hne:w.heap.size+1 < R) (a b c:Value) :
  (∀ j,j < M→∃ a' n c',(((wr.setCell ⟨w.heap.size+1,0,none⟩ a).setCell ⟨w.heap.size+1,1,none⟩ b).setCell ⟨w.heap.size+1,2,none⟩ c).cell? ⟨R,j,none⟩=some (.slice a' n c')∧RowSl (((wr.setCell ⟨w.heap.size+1,0,none⟩ a).setCell ⟨w.heap.size+1,1,none⟩ b).setCell ⟨w.heap.size+1,2,none⟩ c) (.slice a' n c') (T.getD j [])) ∧
  Below w.heap.size w (((wr.setCell ⟨w.heap.size+1,0,none⟩ a).setCell ⟨w.heap.size+1,1,none⟩ b).setCell ⟨w.heap.size+1,2,none⟩ c):=by
 refine ⟨fun j hj=>?_,?_⟩
 ·obtain ⟨a',n,c',hc,hr⟩:=h.rows j hj
  obtain ⟨hr,ho⟩:=hr hj
  exact ⟨a',n,c',cell_set_ne (by omega) (cell_set_ne (by omega) (cell_set_ne (by omega) hc)),((hr.setCell (fun k hk=>(ho k hk).2) _).setCell (fun k hk=>(ho k hk).2) _).setCell (fun k hk=>(ho k hk).2) _⟩
 ·exact ((h.below.setCell (by show w.heap.size≤w.heap.size+1;omega) _).setCell (by show w.heap.size≤w.heap.size+1;omega) _).setCell (by show w.heap.size≤w.heap.size+1;omega) _
theorem rdOk_of {F:List Nd} (h:0 < F.length∧F.length≤12∧AllOk F):RdOk F:=by
 obtain ⟨h1,h2,h3⟩:=h
 refine ⟨h1,h2,fun i hi=>?_⟩
 obtain ⟨hk,⟨a0,a1,a2⟩,⟨b0,b1,b2⟩,hn⟩:=node_ok (h3 i hi)
 refine ⟨a0,?_,b0,?_,hn⟩
 ·by_cases hk3:3≤(F.getD i nd0).k
  ·have:=a1 hk3;omega
  ·have:=a2 (by omega);omega
 ·by_cases hk4:(F.getD i nd0).k=4 ∨ (F.getD i nd0).k=5 ∨ (F.getD i nd0).k=7 ∨ (F.getD i nd0).k=8
  ·have:=b1 hk4;omega
  ·have:=b2 hk4;omega
theorem tAfter (fa:Option Addr) (fl fc:Nat) (X:Nat) (la:Option Addr) (ll lc:Nat) (bg:Bool) (tl tu:Nat) (w:World) :
  Calls Tryz.prog 72 #[.agg #[.slice fa fl fc,.int .u16 X,.slice la ll lc],.agg #[.bool bg,.int .u16 tl,.int .i64 tu]] w fun e w'=>e=.returned (.func (.func 117) #[] #[.pointer (some ⟨w.heap.size,0,none⟩),.pointer (some ⟨w.heap.size+1,0,none⟩)])∧w'=(w.alloc (Obj.cells #[.slice fa fl fc,.int .u16 X,.slice la ll lc] 107)).alloc (Obj.cells #[.bool bg,.int .u16 tl,.int .i64 tu] 111):=by
 have hmf:∀ (fn:Fn) (first cap:Array Value) (w:World),(Instr.makeFunc fn first cap).run Tryz.prog w=.ok (.func fn first cap) w:=fun _ _ _ _=>rfl
 go_enter Tryz.func72,Tryz.ntmps72
 go_wp2
 go_ret
 exact ⟨rfl,rfl⟩
theorem NodeSl.ko {l:Nat}{S:World→Nat→Prop}{W W':World}{v:Value}{F:List Nd} (h:NodeSl W v F) (hk:KO l S W W') (hb:∀ a n c,v=.slice (some a) n c→a.block ≠ l∧¬ S W a.block):NodeSl W' v F:=by
 obtain ⟨a,cap,rfl,hm,h,hn⟩:=h
 refine ⟨a,cap,rfl,hm,?_,hn⟩
 rcases h with h | ⟨b,off,rfl,hc⟩
 ·exact Or.inl h
 ·obtain ⟨hl,hS⟩:=hb _ _ _ rfl
  refine Or.inr ⟨b,off,rfl,fun i hi=>?_⟩
  obtain ⟨h1,h2,h3,h4⟩:=hc i hi
  exact ⟨hk.cell h1 hl hS,hk.cell h2 hl hS,hk.cell h3 hl hS,hk.cell h4 hl hS⟩
theorem IntSl.ko {l:Nat}{S:World→Nat→Prop}{W W':World}{v:Value}{zs:List Int} (h:IntSl W v zs) (hk:KO l S W W') (hb:∀ a n c,v=.slice (some a) n c→a.block ≠ l∧¬ S W a.block):IntSl W' v zs:=by
 obtain ⟨a,cap,rfl,hm,h,hn⟩:=h
 refine ⟨a,cap,rfl,hm,?_,hn⟩
 rcases h with h | ⟨b,off,rfl,hc⟩
 ·exact Or.inl h
 ·obtain ⟨hl,hS⟩:=hb _ _ _ rfl
  exact Or.inr ⟨b,off,rfl,fun i hi=>hk.cell (hc i hi) hl hS⟩
end Go.Proofs.YtpiacnnifdjlkabGreatDoor
namespace Go.Proofs.YtpiacnnifdjlkabGreatDoor
open Go.RowKit Go.Sort Go.MapKept
def spEnc (x:Spo):List Value:=[.bool x.1,.int .u16 (x.2.1:Nat),.int .i64 (x.2.2:Nat)]
abbrev spV (x:Spo):Value:=.agg (spEnc x).toArray
theorem spEnc_len (x:Spo):(spEnc x).length=3:=rfl
theorem spEnc_one (x:Spo):∀ v ∈ spEnc x,v.oneCell'=true:=by
 intro v hv
 simp only [spEnc,List.mem_cons,List.not_mem_nil,or_false] at hv
 rcases hv with rfl | rfl | rfl <;> rfl
theorem spStruct:Tryz.prog.underlying 111=some (.struct (Tryz.prog.fieldsOf 111)):=by kernel_rfl
theorem spEq (x y:Spo) (w:World):(Op.equal 111 (spV x) (spV y)).run Tryz.prog w=.ok (decide (x=y)) w:=by
 have hp:Tryz.prog.stoodInHeld 111=false:=by kernel_rfl
 obtain ⟨x1,x2,x3⟩:=x
 obtain ⟨y1,y2,y3⟩:=y
 unfold Op.equal Op.maxDepth
 rw [show (10000:Nat)=9999+1 from rfl,run_equalIn_struct w 9999 111 _ _ spStruct hp]
 simp only [Program.fieldsOf,Tryz.underlying111,spEnc]
 go_simp
 by_cases h1:x1=y1 <;> by_cases h2:x2=y2 <;> by_cases h3:x3=y3 <;> simp [h1,h2,h3] <;> omega
theorem spKey (x:Spo) (e:Bool) (w:World):(Instr.checkKey e 10000 111 (spV x)).run Tryz.prog w=.ok () w:=by
 obtain ⟨x1,x2,x3⟩:=x
 rw [show (10000:Nat)=9998+1+1 from rfl]
 generalize 9998=d
 unfold Instr.checkKey
 simp only [Sem.run_bind,run_underlying Tryz.underlying111,Result.andThen_ok]
 rw [← Array.forIn_toList]
 simp [Instr.checkKey,go_sem,spEnc]
theorem spFind (x:Spo) (w:World):∀ (l:List MapEntry) (ms:List Spo) (i:Nat),l.length=ms.length→(∀ (j:Nat) (y:Spo),ms[j]?=some y→∃ e,l[j]?=some e∧e.key=spV y∧e.val=.int .i64 ((i+j:Nat))) →
  (Instr.findAsking 111 (spV x) l i).run Tryz.prog w=.ok (if x ∈ ms then some (i+numOf ms x,.int .i64 ((i+numOf ms x:Nat))) else none) w
 | [],[],i,_,_=>by simp [Instr.findAsking]
 | [],_ :: _,_,h,_=>by simp at h
 | _ :: _,[],_,h,_=>by simp at h
 | e :: l,y :: ms,i,hl,h=>by
  obtain ⟨e',he,hk,hv⟩:=h 0 y rfl
  obtain rfl:e=e':=by simpa using he
  have ih:=spFind x w l ms (i+1) (by simpa using hl) (fun j z hz=>by
   obtain ⟨e2,h1,h2,h3⟩:=h (j+1) z hz
   exact ⟨e2,h1,h2,by rw [h3];congr 2;omega⟩)
  unfold Instr.findAsking
  simp only [Sem.run_bind,hk,spEq,Result.andThen_ok]
  by_cases hxy:x=y
  ·rw [decide_eq_true hxy,if_pos rfl,if_pos (by rw [hxy];simp),hv]
   have:numOf (y :: ms) x=0:=by unfold numOf;rw [if_pos hxy]
   rw [this]
   rfl
  ·rw [decide_eq_false hxy,if_neg (by simp),ih]
   have hm:x ∈ y :: ms ↔ x ∈ ms:=by simp [hxy]
   by_cases hx:x ∈ ms
   ·rw [if_pos hx,if_pos (hm.2 hx)]
    have:numOf (y :: ms) x=numOf ms x+1:=by show (if x=y then 0 else numOf ms x+1)=_;rw [if_neg hxy]
    rw [this,show i+1+numOf ms x=i+(numOf ms x+1) by omega]
   ·rw [if_neg hx,if_neg (fun h'=>hx (hm.1 h'))]
theorem spFindKey (x:Spo) (w:World) (l:List MapEntry) (ms:List Spo) (hl:l.length=ms.length) (h:∀ (j:Nat) (y:Spo),ms[j]?=some y→∃ e,l[j]?=some e∧e.key=spV y∧e.val=.int .i64 (j:Nat)) :
  (Instr.findKey 111 (spV x) l).run Tryz.prog w=.ok (if x ∈ ms then some (numOf ms x,.int .i64 (numOf ms x:Nat)) else none) w:=by
 have h1:=spFind x w l ms 0 hl (fun j y hy=>by rw [Nat.zero_add];exact h j y hy)
 rw [Nat.zero_add] at h1
 rw [← h1]
 unfold Instr.findKey
 simp only [Sem.run_bind,run_underlying Tryz.underlying111,Result.andThen_ok]
 cases l with
 | nil=>simp [Instr.findNow,Instr.findAsking]
 | cons e l=>simp [Instr.findNow,Instr.sameNow]
def spMap (w:World) (r:Nat) (met:List Spo):Prop:=
 ∃ es clock,w.heap[r]?=some (.map es clock)∧es.size=met.length∧∀ (i:Nat) (x:Spo),met[i]?=some x→∃ e,es[i]?=some e∧e.key=spV x∧e.val=.int .i64 (i:Nat)
theorem spMap.lt {w:World}{r:Nat}{met:List Spo} (h:spMap w r met):r < w.heap.size:=by
 obtain ⟨es,clock,hr,_⟩:=h
 exact (Array.getElem?_eq_some_iff.1 hr).1
theorem spMap.keep {w w':World}{r:Nat}{met:List Spo} (h:spMap w r met) (hb:∀ o,w.heap[r]?=some o→w'.heap[r]?=some o):spMap w' r met:=by
 obtain ⟨es,clock,hr,h2⟩:=h
 exact ⟨es,clock,hb _ hr,h2⟩
theorem spMap.not_cells {w:World}{r:Nat}{met:List Spo} (h:spMap w r met):∃ o:Obj,w.heap[r]?=some o∧o.isCells=false:=by
 obtain ⟨es,clock,hr,_⟩:=h
 exact ⟨_,hr,rfl⟩
theorem spLookup {w:World}{r:Nat}{met:List Spo} (h:spMap w r met) (x:Spo):(Instr.lookup 167 (.map (some r)) (spV x) true).run Tryz.prog w=.ok (.tuple #[.int .i64 ((if x ∈ met then numOf met x else 0:Nat)),.bool (decide (x ∈ met))]) w:=by
 obtain ⟨es,clock,hr,hl,hes⟩:=h
 have hf:=spFindKey x w es.toList met (by simpa using hl) (fun j y hy=>by obtain ⟨e,h1,h2⟩:=hes j y hy;exact ⟨e,by simpa using h1,h2⟩)
 have hk:=spKey x es.isEmpty w
 unfold Instr.lookup
 simp only [Sem.run_bind,run_underlying Tryz.underlying167,Result.andThen_ok,Go.MapKept.run_getObj_map hr,Sem.run_pure,hk,hf]
 by_cases hx:x ∈ met
 ·simp [hx]
 ·simp [hx,go_sem]
theorem spUpdate {w:World}{r:Nat}{met:List Spo} (h:spMap w r met) (x:Spo) (hx:x ∉ met):∃ o,(Instr.mapUpdate 167 (.map (some r)) (spV x) (.int .i64 (met.length:Nat))).run Tryz.prog w=.ok () (w.putObj r o)∧spMap (w.putObj r o) r (met ++ [x]):=by
 obtain ⟨es,clock,hr,hl,hes⟩:=h
 have hf:=spFindKey x w es.toList met (by simpa using hl) (fun j y hy=>by obtain ⟨e,h1,h2⟩:=hes j y hy;exact ⟨e,by simpa using h1,h2⟩)
 have hk:=spKey x false w
 rw [if_neg hx] at hf
 refine ⟨.map (es.push { key:=spV x,val:=.int .i64 (met.length:Nat),born:=clock }) (clock+1),?_,_,_,World.putObj_heap_same (Array.getElem?_eq_some_iff.1 hr).1,by simp [hl],fun i y hy=>?_⟩
 ·unfold Instr.mapUpdate
  simp only [Sem.run_bind,run_underlying Tryz.underlying167,Result.andThen_ok,Go.MapKept.run_getObj_map hr,hk,hf,Go.MapKept.run_setObj_map _ hr]
  rfl
 ·by_cases hi:i < met.length
  ·rw [List.getElem?_append_left hi] at hy
   obtain ⟨e,h1,h2⟩:=hes i y hy
   exact ⟨e,by rw [Array.getElem?_push,if_neg (by omega)];exact h1,h2⟩
  ·rw [List.getElem?_append_right (by omega)] at hy
   have hi2:i=met.length:=by
    have:=(List.getElem?_eq_some_iff.1 hy).1
    simp at this
    omega
   subst hi2
   rw [Nat.sub_self] at hy
   obtain rfl:x=y:=by simpa using hy
   refine ⟨{ key:=spV x,val:=.int .i64 (met.length:Nat),born:=clock },?_,rfl,rfl⟩
   rw [show met.length=es.size from hl.symm]
   exact Array.getElem?_push_size
theorem spInfo:Tryz.prog.info? 111=some Tryz.t111:=by kernel_rfl
theorem spEl:ElT 112 111 3 16:=⟨Tryz.underlying112,⟨_,.agg #[.bool false,.int .u16 0,.int .i64 0],spInfo,by kernel_rfl,rfl,by kernel_rfl,by kernel_rfl⟩,by decide,by decide⟩
structure spMN (W:World) (base BN BT r:Nat) (met:List Spo):Prop where
 bn:W.heap[BN]?=some (.cells #[.map (some r)] 167)
 bt:∃ v,W.heap[BT]?=some (.cells #[v] 112)∧W.ownsRow base 111 3 v met.length (met.flatMap spEnc)
 mp:spMap W r met
 lo:base≤BN∧base≤BT∧base≤r∧base≤W.heap.size
abbrev spS (BT r:Nat):World→Nat→Prop:=ownOf [(BT,0)] [r,BT]
abbrev spAdd (met:List Spo) (x:Spo):List Spo:=addN met x
theorem spMN.apart {W:World}{base BN BT r:Nat}{met:List Spo} (h:spMN W base BN BT r met):BN ≠ BT∧BN ≠ r∧BT ≠ r:=by
 obtain ⟨v,hv,_⟩:=h.bt
 obtain ⟨o,ho,hc⟩:=h.mp.not_cells
 refine ⟨fun e=>?_,fun e=>?_,fun e=>?_⟩
 ·have:=h.bn
  rw [e,hv] at this
  injection this with this
  injection this with _ h2
  exact absurd h2 (by decide)
 ·have:=h.bn
  rw [e,ho] at this
  injection this with this
  subst this
  cases hc
 ·rw [e,ho] at hv
  injection hv with hv
  subst hv
  cases hc
theorem spMN.below {W W':World}{base BN BT r:Nat}{met:List Spo} (h:spMN W base BN BT r met) (hb:Below W.heap.size W W'):spMN W' base BN BT r met:=by
 obtain ⟨v,hv,ho⟩:=h.bt
 exact ⟨belowRow hb h.bn,⟨v,belowRow hb hv,owns_below ho hb⟩,h.mp.keep (fun o ho=>belowRow hb ho),⟨h.lo.1,h.lo.2.1,h.lo.2.2.1,Nat.le_trans h.lo.2.2.2 hb.size⟩⟩
theorem spMN.keep {W W':World}{base BN BT r:Nat}{met:List Spo} (h:spMN W base BN BT r met) (hs:W.heap.size≤W'.heap.size) (hk:∀ k o,W.heap[k]?=some o→k=BN ∨ spS BT r W k→W'.heap[k]?=some o):spMN W' base BN BT r met:=by
 obtain ⟨v,hv,ho⟩:=h.bt
 refine ⟨hk _ _ h.bn (Or.inl rfl),⟨v,hk _ _ hv (Or.inr (Or.inl (by simp))),owns_kept ho (fun q hq=>?_)⟩,h.mp.keep (fun o ho=>hk _ _ ho (Or.inr (Or.inl (by simp)))),⟨h.lo.1,h.lo.2.1,h.lo.2.2.1,Nat.le_trans h.lo.2.2.2 hs⟩⟩
 have hlt:=(ho.lt q hq).2
 have hq':W.heap[q]?=some W.heap[q]:=Array.getElem?_eq_getElem hlt
 rw [hk q _ hq' (Or.inr (Or.inr ⟨(BT,0),by simp,v,cell_of_row W BT 0 _ _ _ hv,hq⟩)),hq']
theorem spRow_one {v u:Value}{W:World}{BT:Nat} (hv:W.heap[BT]?=some (.cells #[v] 112)) (hu:W.cell? ⟨BT,0,none⟩=some u):u=v:=by
 rw [cell_of_row W BT 0 _ _ _ hv] at hu
 exact (by simpa using hu:v=u).symm
theorem spMN_add {W w8:World}{base BN BT r g8 cap8:Nat}{met:List Spo}{x:Spo}{v:Value} (hbt:W.heap[BT]?=some (.cells #[v] 112)) (hbn:W.heap[BN]?=some (.cells #[.map (some r)] 167)) (hmp:spMap W r (met ++ [x])) (hown:W.ownsRow base 111 3 v met.length (met.flatMap spEnc)) (hgr:W.grownBy w8 v.ownBlock) (hown8:w8.ownsRow base 111 3 (.slice (some ⟨g8,0,none⟩) (met.length+1) cap8) (met.length+1) (met.flatMap spEnc ++ spEnc x)) (hor:v.ownBlock=some g8 ∨ g8=W.heap.size) (lo:base≤BN∧base≤BT∧base≤r∧base≤W.heap.size) :
  spMN (w8.setCell ⟨BT,0,none⟩ (.slice (some ⟨g8,0,none⟩) (met.length+1) cap8)) base BN BT r (met ++ [x])∧KE (spS BT r) W (w8.setCell ⟨BT,0,none⟩ (.slice (some ⟨g8,0,none⟩) (met.length+1) cap8)):=by
 have hb1:some BT ≠ v.ownBlock:=fun e=>row_apart hown hbt (by decide) BT e.symm rfl
 have hb2:some BN ≠ v.ownBlock:=fun e=>row_apart hown hbn (by decide) BN e.symm rfl
 obtain ⟨o,hro,hrc⟩:=hmp.not_cells
 have hb3:some r ≠ v.ownBlock:=fun e=>by
  obtain ⟨c',fz,hc⟩:=owns_cells hown r e.symm
  rw [hro] at hc
  injection hc with hc
  subst hc
  cases hrc
 have l1:=(Array.getElem?_eq_some_iff.1 hbt).1
 have l2:=(Array.getElem?_eq_some_iff.1 hbn).1
 have l3:=hmp.lt
 have n12:BN ≠ BT:=fun e=>by
  rw [e,hbt] at hbn
  injection hbn with hbn
  injection hbn with _ h2
  exact absurd h2 (by decide)
 have n13:r ≠ BT:=fun e=>by
  rw [e,hbt] at hro
  injection hro with hro
  subst hro
  cases hrc
 have hbt8:=(hgr.block BT l1 hb1).trans hbt
 have hset:=box_set hbt8 0 (.slice (some ⟨g8,0,none⟩) (met.length+1) cap8)
 have hset':(w8.setCell ⟨BT,0,none⟩ (.slice (some ⟨g8,0,none⟩) (met.length+1) cap8)).heap[BT]?=some (.cells #[.slice (some ⟨g8,0,none⟩) (met.length+1) cap8] 112):=hset
 have hsz:(w8.setCell ⟨BT,0,none⟩ (.slice (some ⟨g8,0,none⟩) (met.length+1) cap8)).heap.size=w8.heap.size:=by simp [World.setCell]
 refine ⟨⟨?_,⟨_,hset',?_⟩,?_,⟨lo.1,lo.2.1,lo.2.2.1,by rw [hsz];exact Nat.le_trans lo.2.2.2 hgr.size⟩⟩,⟨hgr.os,hgr.tape,hgr.output,by rw [hsz];exact hgr.size,fun k o hk hs=>?_,fun k hs=>?_⟩⟩
 ·rw [heap_setCell_other _ _ _ _ n12,hgr.block BN l2 hb2]
  exact hbn
 ·have h3:=owns_set hown8 hbt8 (by decide) 0 (.slice (some ⟨g8,0,none⟩) (met.length+1) cap8)
  rw [List.length_append,List.flatMap_append]
  simpa using h3
 ·exact hmp.keep (fun o ho=>by rw [heap_setCell_other _ _ _ _ n13,hgr.block r l3 hb3];exact ho)
 ·have k1:k ≠ BT:=fun e=>hs (Or.inl (by simp [e]))
  have k2:some k ≠ v.ownBlock:=fun e=>hs (Or.inr ⟨(BT,0),by simp,v,cell_of_row W BT 0 _ _ _ hbt,e.symm⟩)
  rw [heap_setCell_other _ _ _ _ k1,hgr.block k (Array.getElem?_eq_some_iff.1 hk).1 k2]
  exact hk
 ·rcases hs with h1 | ⟨p,hp,u,hu,hr⟩
  ·exact Or.inl (Or.inl h1)
  ·have ep:p=(BT,0):=by simpa using hp
   subst ep
   have eu:=spRow_one hset' hu
   subst eu
   have ek:g8=k:=by simpa [Value.ownBlock] using hr
   subst ek
   rcases hor with h1 | h1
   ·exact Or.inl (Or.inr ⟨(BT,0),by simp,v,cell_of_row W BT 0 _ _ _ hbt,h1⟩)
   ·exact Or.inr ⟨by omega,by
     have h9:=(hown8.lt g8 rfl).2
     have h8:(w8.setCell ⟨BT,0,none⟩ (.slice (some ⟨g8,0,none⟩) (met.length+1) cap8)).heap.size=w8.heap.size:=by simp [World.setCell]
     omega⟩
theorem spMeet {w:World}{base BN BT r:Nat}{met:List Spo} (x:Spo) (h:spMN w base BN BT r met) (hlen:met.length≤900000) :
  Calls Tryz.prog 114 #[spV x,.pointer (some ⟨BN,0,none⟩),.pointer (some ⟨BT,0,none⟩)] w fun e w'=>e=.returned (.int .i64 (numOf (spAdd met x) x:Nat))∧spMN w' base BN BT r (spAdd met x)∧KE (spS BT r) w w':=by
 have HM:=hide h
 have hap:=h.apart
 obtain ⟨v,ebt,hown⟩:=h.bt
 obtain ⟨x1,x2,x3⟩:=x
 have hbn:=below_new w (Obj.cells #[.bool x1,.int .u16 (x2:Nat),.int .i64 (x3:Nat)] 111)
 have hD:Det w.heap.size (spS BT r):=det_ownOf (by simp) (by
  intro k hk
  simp at hk
  rcases hk with rfl | rfl
  ·exact h.mp.lt
  ·exact (Array.getElem?_eq_some_iff.1 ebt).1)
 have hlk:=spLookup (h.mp.keep (fun o ho=>belowRow hbn ho)) (x1,x2,x3)
 have hM1:=h.below hbn
 have hbox:=one_new w (Obj.cells #[.bool x1,.int .u16 (x2:Nat),.int .i64 (x3:Nat)] 111)
 have b0:=cell_of_row _ BN 0 _ _ _ hM1.bn
 have t0:=cell_of_row _ BT 0 _ _ _ (belowRow hbn ebt)
 have n1:BN < w.heap.size:=(Array.getElem?_eq_some_iff.1 h.bn).1
 have n2:BT < w.heap.size:=(Array.getElem?_eq_some_iff.1 ebt).1
 have HK1:=hide (KE.of_below hD (Nat.le_refl _) hbn)
 obtain ⟨ad,cp,rfl⟩:=owns_form hown
 unfold spV spEnc at hlk
 by_cases hx:(x1,x2,x3) ∈ met
 ·have e1:spAdd met (x1,x2,x3)=met:=by unfold spAdd addN;rw [if_pos hx]
  rw [e1]
  rw [if_pos hx,decide_eq_true hx] at hlk
  have HM1:=hide hM1
  clear h hown ebt hM1 hx hbn hbox e1 hD
  generalize numOf met (x1,x2,x3)=nm at *
  show Calls Tryz.prog 114 #[.agg #[.bool x1,.int .u16 (x2:Nat),.int .i64 (x3:Nat)],.pointer (some ⟨BN,0,none⟩),.pointer (some ⟨BT,0,none⟩)] w _
  go_enter Tryz.func114,Tryz.ntmps114
  go_wp2
  go_ret
  exact ⟨rfl,HM1.out,HK1.out⟩
 ·have e1:spAdd met (x1,x2,x3)=met ++ [(x1,x2,x3)]:=by unfold spAdd addN;rw [if_neg hx]
  rw [e1,numOf_last hx]
  rw [if_neg hx,decide_eq_false hx] at hlk
  obtain ⟨o,hup,hmp⟩:=spUpdate hM1.mp (x1,x2,x3) hx
  unfold spV spEnc at hup
  have hne:∀ k,k ≠ r→((w.alloc (Obj.cells #[.bool x1,.int .u16 (x2:Nat),.int .i64 (x3:Nat)] 111)).putObj r o).heap[k]?=(w.alloc (Obj.cells #[.bool x1,.int .u16 (x2:Nat),.int .i64 (x3:Nat)] 111)).heap[k]?:=fun k hk=>World.putObj_heap_other hk
  have hs2:((w.alloc (Obj.cells #[.bool x1,.int .u16 (x2:Nat),.int .i64 (x3:Nat)] 111)).putObj r o).heap.size=w.heap.size+1:=by simp
  have hrlt:r < w.heap.size:=h.mp.lt
  have hbt2:=(hne BT (by omega)).trans (belowRow hbn ebt)
  have hbn2:=(hne BN (by omega)).trans hM1.bn
  have hbox2:=(hne w.heap.size (by omega)).trans hbox
  have hown1:=owns_below hown hbn
  have hown2:((w.alloc (Obj.cells #[.bool x1,.int .u16 (x2:Nat),.int .i64 (x3:Nat)] 111)).putObj r o).ownsRow base 111 3 (.slice ad met.length cp) met.length (met.flatMap spEnc):=owns_kept hown1 (fun q hq=>hne q (fun e=>by
   obtain ⟨c',fz,hc⟩:=owns_cells hown1 q hq
   obtain ⟨o2,ho2,hcc⟩:=hM1.mp.not_cells
   rw [e,ho2] at hc
   injection hc with hc
   subst hc
   cases hcc))
  have hK2:KE (spS BT r) w ((w.alloc (Obj.cells #[.bool x1,.int .u16 (x2:Nat),.int .i64 (x3:Nat)] 111)).putObj r o):=by
   refine HK1.out.trans ⟨rfl,rfl,rfl,by simp,fun k o' hk hs=>(hne k (fun e=>hs (Or.inl (by simp [e])))).trans hk,fun k hs=>Or.inl ?_⟩
   rcases hs with h1 | ⟨p,hp,u,hu,hr⟩
   ·exact Or.inl h1
   ·have ep:p=(BT,0):=by simpa using hp
    subst ep
    exact Or.inr ⟨(BT,0),by simp,u,by rw [← cell_same (hne BT (by omega))];exact hu,hr⟩
  have q0:=cell_of_row _ BT 0 _ _ _ hbt2
  have c0:=cell_of_row _ w.heap.size 0 _ _ _ hbox2
  have c1:=cell_of_row _ w.heap.size 1 _ _ _ hbox2
  have c2:=cell_of_row _ w.heap.size 2 _ _ _ hbox2
  generalize hW2:(w.alloc (Obj.cells #[.bool x1,.int .u16 (x2:Nat),.int .i64 (x3:Nat)] 111)).putObj r o=W2 at *
  have hnw:=one_new W2 (Obj.cells #[.bool x1,.int .u16 (x2:Nat),.int .i64 (x3:Nat)] 111)
  have hbn3:=below_new W2 (Obj.cells #[.bool x1,.int .u16 (x2:Nat),.int .i64 (x3:Nat)] 111)
  have HoW:=hide (owns_below hown2 hbn3)
  have HbW:=hide (show base≤(W2.alloc (Obj.cells #[.bool x1,.int .u16 (x2:Nat),.int .i64 (x3:Nat)] 111)).heap.size by simp;have:=h.lo.2.2.2;omega)
  have HnW:=hide hnw
  have HK2:=hide hK2
  have HB2:=hide (And.intro hbt2 (And.intro hbn2 (And.intro hmp hbn3)))
  have Hown2:=hide hown2
  have hn2:BT < W2.heap.size:=by omega
  have Hs2:=hide hs2
  have hn3:w.heap.size < W2.heap.size:=by omega
  clear hs2 h hown ebt hM1 hx hbn hbox e1 hD hown1 hown2 hK2 hbt2 hbn2 hmp hbn3 hnw hne hbox2 hW2
  show Calls Tryz.prog 114 #[.agg #[.bool x1,.int .u16 (x2:Nat),.int .i64 (x3:Nat)],.pointer (some ⟨BN,0,none⟩),.pointer (some ⟨BT,0,none⟩)] w _
  go_enter Tryz.func114,Tryz.ntmps114
  go_wp2_with (at_builtin;refine wpList_append_one _ rfl (.tmp 20) (.tmp 22) 112 111 3 16 rfl spEl base _ _ _ rfl HoW.out W2.heap.size 1 (spEnc (x1,x2,x3)) rfl rfl (fun j u hu=>(cell_of_row _ W2.heap.size j _ _ _ HnW.out).trans (by simpa [spEnc] using hu)) (spEnc_one _) hlen HbW.out ?_;intro g8 cap8 w8 hown8 hgrow8 hor8 hbase8;have hbt8:=(hgrow8.block BT (by simp;omega) (fun e=>row_apart Hown2.out HB2.out.1 (by decide) BT e.symm rfl)).trans (belowRow HB2.out.2.2.2 HB2.out.1);have z0:=cell_of_row w8 BT 0 _ _ _ hbt8;have zf:∀ o,w8.frozen? ⟨BT,o,none⟩=false:=(fun o=>by simp [World.frozen?,hbt8]);have Hown8:=hide hown8;have Hgrow8:=hide hgrow8;have Hor8:=hide hor8;have Hbt8:=hide hbt8;clear hown8 hgrow8 hor8 hbt8)
  go_ret
  have hK3:=KE.of_below (S:=spS BT r) (m:=W2.heap.size) (det_ownOf (by simp) (by
   intro k hk
   simp at hk
   rcases hk with rfl | rfl
   ·exact HB2.out.2.2.1.lt
   ·exact hn2)) (Nat.le_refl _) HB2.out.2.2.2
  have hlo:=HM.out.lo
  obtain ⟨h1,h2⟩:=spMN_add (belowRow HB2.out.2.2.2 HB2.out.1) (belowRow HB2.out.2.2.2 HB2.out.2.1) (HB2.out.2.2.1.keep (fun o ho=>belowRow HB2.out.2.2.2 ho)) HoW.out Hgrow8.out Hown8.out Hor8.out ⟨hlo.1,hlo.2.1,hlo.2.2.1,HbW.out⟩
  exact ⟨rfl,h1,(HK2.out.trans hK3).trans h2⟩
end Go.Proofs.YtpiacnnifdjlkabGreatDoor
