import Derived.Test.YtpiacnnifdjlkabGreatDoorBt
set_option maxRecDepth 100000
set_option maxHeartbeats 8000000
namespace Go.Proofs.YtpiacnnifdjlkabGreatDoor
open Go.RowKit Go.Sort
def FoundOk (R:Rn) (D:Nat→Nat→Nat→Nat) (r:Nat) (Rf:List Nat) (F:Nat) (caps:Array Value) (frm:Spot) (T:Prop) (P:(Spot→Prop)→World→Prop) (w:World):Prop:=
 ∀ (done:Spot→Prop) (path:List Spot) (x:Spot) (M:Nat→Nat→Nat) (w1:World),Fr (r :: Rf) w w1→MetAt w1 r M→Dfs (Edge R D) (inM M) done (x :: path)→Leads (Edge R D) frm x→(∀ y,Edge R D x y→inM M y)→InR R x→P done w1 →
  Calls Tryz.prog F (#[.agg #[.int .i64 x.1,.int .i64 x.2]] ++ caps) w1 fun e w'=>∃ b,e=.returned (.bool b)∧Fr Rf w1 w'∧(b=true→T)∧(b=false→P (fun z=>done z ∨ z=x) w')
def SInv (R:Rn) (D:Nat→Nat→Nat→Nat) (r:Nat) (Rf:List Nat) (frm:Spot) (P:(Spot→Prop)→World→Prop) (M0:Nat→Nat→Nat) (w:World) (gk:Nat) (pv:Value) (wr:World):Prop:=
 ∃ (g cap:Nat) (M:Nat→Nat→Nat) (path:List Spot) (done:Spot→Prop),pv=.slice (some ⟨g,0,none⟩) path.length cap∧wr.ownsRow (w.heap.size+2) 195 2 (.slice (some ⟨g,0,none⟩) path.length cap) path.length (flat path)∧MetAt wr r M ∧
  Dfs (Edge R D) (inM M) done path∧(∀ x,x ∈ path→Leads (Edge R D) frm x∧InR R x)∧P done wr∧Fr (r :: Rf) w wr∧wr.heap[w.heap.size]?=some (.cells #[Value.int .i64 R.n,.int .i64 R.m,.slice R.a1 R.l1 R.c1,.slice R.a2 R.l2 R.c2,.slice R.a3 R.l3 R.c3,.slice R.a4 R.hs.length R.c4,.slice R.a5 R.ls.length R.c5,.slice (some ⟨R.g,0,none⟩) R.N R.N] 125) ∧
  w.heap.size+2≤wr.heap.size∧unmetOf R M+path.length≤2400001∧gk=2 * unmetOf R M+path.length∧(∀ x,inM M x→inM M0 x ∨ Leads (Edge R D) frm x)∧(∀ x,inM M0 x→inM M x)∧inM M frm
def SEnd (R:Rn) (D:Nat→Nat→Nat→Nat) (r:Nat) (frm:Spot) (P:(Spot→Prop)→World→Prop) (M0:Nat→Nat→Nat) (w':World):Prop:=
 ∃ M,MetAt w' r M∧Dfs (Edge R D) (inM M) (inM M) []∧P (inM M) w'∧(∀ x,inM M x→inM M0 x ∨ Leads (Edge R D) frm x)∧(∀ x,inM M0 x→inM M x)∧inM M frm
theorem spotUnder:Tryz.prog.underlying 237=some (.slice 195):=by kernel_rfl
theorem spotZero:(Tryz.t195).zero=some (.agg #[.int .i64 0,.int .i64 0]):=by kernel_rfl
theorem spotSize:(Tryz.t195).size=2:=by kernel_rfl
theorem spotBytes:(Tryz.t195).bytes=16:=by kernel_rfl
theorem wpList_append_spot (w:World) {ops:Array Oper}{rest:List Oper}{o:Oper}{a:Act}{Q:Exit→Act→World→Prop} (hgd:o.guard=none) (s x:Operand)
  (ho:o.op=.call { callee:=.builtin .append,args:=#[s,x],argTypes:=#[237,237] }) (base g cap n:Nat) (xs:List Value) (hs:a.eval s=.slice (some ⟨g,0,none⟩) n cap)
  (hown:w.ownsRow base 195 2 (.slice (some ⟨g,0,none⟩) n cap) n xs) (B c p t:Nat) (hx:a.eval x=.slice (some ⟨B,0,none⟩) 1 c)
  (h0:w.cell? ⟨B,0,none⟩=some (.int .i64 p)) (h1:w.cell? ⟨B,1,none⟩=some (.int .i64 t)) (hn:n≤2400001) (hbase:base≤w.heap.size)
  (h:∀ g' cap' w',w'.ownsRow base 195 2 (.slice (some ⟨g',0,none⟩) (n+1) cap') (n+1) (xs ++ [.int .i64 p,.int .i64 t])→w.grownBy w' (some g)→g' < w'.heap.size→wpList Tryz.prog ops Q rest (a.put o.dst (.slice (some ⟨g',0,none⟩) (n+1) cap')) w'):wpList Tryz.prog ops Q (o :: rest) a w:=by
 refine wpList_append_lies w hgd s x 237 ho base 195 Tryz.t195 (.agg #[.int .i64 0,.int .i64 0]) 2 16 spotUnder spotInfo spotZero spotSize spotBytes rfl (by decide) _ n xs hs hown ⟨B,0,none⟩ 1 c [.int .i64 p,.int .i64 t] hx rfl ?_ ?_ (by decide) (by unfold maxLen;omega) (by omega) hbase _ rfl ?_
 ·intro j u hu
  rw [add_none,Nat.zero_add]
  match j,hu with
  | 0,hu=>simp at hu;subst hu;exact h0
  | 1,hu=>simp at hu;subst hu;exact h1
  | j+2,hu=>simp at hu
 ·intro u hu
  simp at hu
  rcases hu with rfl | rfl <;> rfl
 ·intro g' cap' w' h2 h3 h4 h5
  exact h g' cap' w' h2 h3 h5
theorem Fr.of_grown {w w':World}{g:Nat} (h:w.grownBy w' (some g)):Fr [g] w w':=⟨h.os,h.tape,h.output,h.size,fun k hk hn=>h.block k hk (by simpa using hn)⟩
theorem Fr.past {R:List Nat}{RR:List Nat}{a b c:World} (h:Fr R a b) (k:Fr RR b c) (hs:∀ i,i ∈ RR→i ∈ R ∨ a.heap.size≤i):Fr R a c:=
 ⟨k.os.trans h.os,k.tape.trans h.tape,k.output.trans h.output,Nat.le_trans h.size k.size,fun i hi hn=>(k.block i (Nat.lt_of_lt_of_le hi h.size) (fun hm=>by rcases hs i hm with h1 | h1;exact hn h1;omega)).trans (h.block i hi hn)⟩
theorem Fr.both {R RR:List Nat}{a b c:World} (h:Fr R a b) (k:Fr RR b c):Fr (R ++ RR) a c:=(h.mono (fun i hi=>by simp [hi])).trans (k.mono (fun i hi=>by simp [hi]))
theorem search_any {w:World}{r:Nat}{M0:Nat→Nat→Nat} (R:Rn) (D:Nat→Nat→Nat→Nat) (Rf:List Nat) (F:Nat) (caps:Array Value) (frm:Spot) (T:Prop) (P:(Spot→Prop)→World→Prop)
  (hR:∀ w1,Fr (r :: Rf) w w1→RnOk w1 R D) (hT:∀ w1,Fr (r :: Rf) w w1→Tab w1) (hM:MetAt w r M0) (hD:Dfs (Edge R D) (inM M0) (inM M0) []) (hP:P (inM M0) w) (hin:InR R frm)
  (hPs:∀ done w1 w2 RR,P done w1→Fr RR w1 w2→(∀ k,k ∈ RR→k=r ∨ w.heap.size≤k)→P done w2) (hRf:∀ k,k ∈ Rf→k < w.heap.size) (hr:r ∉ Rf) (hF:∀ args w,(callFunc F args).run Tryz.prog w=.ok (.enter F args) w) (hfound:FoundOk R D r Rf F caps frm T P w) :
  Calls Tryz.prog 130 #[rnV R,.agg #[.int .i64 frm.1,.int .i64 frm.2],.map (some r),.func (.func F) #[] caps] w fun e w'=>∃ b,e=.returned (.bool b)∧Fr (r :: Rf) w w'∧(b=true→T)∧(b=false→SEnd R D r frm P M0 w'):=by
 obtain ⟨p0,s0⟩:=frm
 dsimp only
 have hR0:=hR w (Fr.refl _ _)
 have hfew:=hR0.few
 have hs0:s0 < 300:=by have:=hin.2;dsimp only at this;omega
 have HH:=hide (fun w1 (hb:Below w.heap.size w w1)=>metHas_any (hM.below hb) p0 s0 hs0)
 have HA:=hide (fun w1 (hb:Below w.heap.size w w1)=>metAdd_any (hM.below hb) p0 s0 hs0)
 have Hall:=hide (And.intro hR (And.intro hT (And.intro hM (And.intro hD (And.intro hP (And.intro hin (And.intro hPs (And.intro hRf (And.intro hr hfound)))))))))
 have hu0:=unmet_le R M0 hR0.hlen hR0.llen hR0.few
 clear hR hT hM hD hP hin hPs hRf hr hfound hR0
 unfold rnV
 generalize hseen:inB (M0 p0) s0=b0 at HH
 have Hseen:=hide hseen
 clear hseen
 go_enter Tryz.func130,Tryz.ntmps130
 go_wp2_with (fail)
 refine (HH.out _ (by repeat (first | exact Below.refl _ _ | assumption | refine below_drewN ?_ _ | refine Below.drew ?_ | refine Below.alloc ?_ (by simp <;> omega) _ | refine below_trans ?_ (by assumption)))).mono ?_
 rintro e w1 ⟨rfl,hb1⟩
 have hbw:Below w.heap.size w w1:=below_trans (by repeat (first | exact Below.refl _ _ | assumption | refine below_drewN ?_ _ | refine Below.drew ?_ | refine Below.alloc ?_ (by simp <;> omega) _ | refine below_trans ?_ (by assumption))) hb1
 cases b0 with
 | true =>
  go_wp2
  go_ret
  refine ⟨false,rfl,Fr.of_below hbw,(fun h=>by cases h),fun _=>?_⟩
  obtain ⟨hR,hT,hM,hD,hP,hin,hPs,hRf,hr,hfound⟩:=Hall.out
  exact ⟨M0,hM.below hbw,hD,hPs _ _ _ [] hP (Fr.of_below hbw) (by simp),fun x hx=>Or.inl hx,fun x hx=>hx,Hseen.out⟩
 | false =>
  have s0':w1.cell? ⟨w.heap.size+1,0,none⟩=some (.int .i64 p0):=by rw [hb1.cell (by simp)];simp
  have s1':w1.cell? ⟨w.heap.size+1,1,none⟩=some (.int .i64 s0):=by rw [hb1.cell (by simp)];simp
  have hbox:w1.heap[w.heap.size]?=some (.cells #[Value.int .i64 R.n,.int .i64 R.m,.slice R.a1 R.l1 R.c1,.slice R.a2 R.l2 R.c2,.slice R.a3 R.l3 R.c3,.slice R.a4 R.hs.length R.c4,.slice R.a5 R.ls.length R.c5,.slice (some ⟨R.g,0,none⟩) R.N R.N] 125):=by
   rw [hb1.block _ (by simp;omega),heap_alloc_old (w.alloc _) _ (r:=w.heap.size) (by simp)]
   exact heap_alloc_new w _
  have Hbox:=hide hbox
  have hs2:w.heap.size+2≤w1.heap.size:=by have:=hb1.size;simpa using this
  clear hbox
  go_wp2_with (fail)
  refine (HA.out _ hbw).mono ?_
  rintro e w2 ⟨rfl,hm2,hf2⟩
  obtain ⟨hR,hT,hM,hD,hP,hin,hPs,hRf,hr,hfound⟩:=Hall.out
  have hrlt:=hM.lt
  have t0:w2.cell? ⟨w.heap.size+1,0,none⟩=some (.int .i64 p0):=by rw [hf2.cell (by simp;omega) (by simp;omega)];exact s0'
  have t1:w2.cell? ⟨w.heap.size+1,1,none⟩=some (.int .i64 s0):=by rw [hf2.cell (by simp;omega) (by simp;omega)];exact s1'
  have hs3:=hf2.size
  have Hm2:=hide hm2
  have Hf2:=hide hf2
  clear hR hT hM hD hP hin hPs hRf hr hfound hm2 hf2 s0' s1'
  go_wp2_with (fail)
  go_loopg [9] (2 * unmetOf R (addM M0 p0 s0)+1) (fun gk pv wr=>SInv R D r Rf (p0,s0) P M0 w gk pv wr)
  case atStart =>
   obtain ⟨hR,hT,hM,hD,hP,hin,hPs,hRf,hr,hfound⟩:=Hall.out
   have hnot:¬ inM M0 (p0,s0):=by unfold inM;rw [Hseen.out];simp
   have hun:=unmet_add R M0 (p0,s0) hin hnot
   dsimp only at hun
   have hfr:Fr (r :: Rf) w (w2.alloc (Obj.cells #[Value.int .i64 p0,.int .i64 s0] 195)):=((Fr.of_below hbw).trans (Hf2.out.mono (fun k hk=>by simp at hk;simp [hk]))).trans (Fr.of_below (below_new _ _))
   refine ⟨w2.heap.size,1,addM M0 p0 s0,[(p0,s0)],inM M0,rfl,?_,Hm2.out.below (below_new _ _),?_,?_,?_,hfr,?_,?_,?_,rfl,?_,?_,?_⟩
   ·exact World.ownsRow_lit w2 #[.int .i64 p0,.int .i64 s0] 1 (by omega) (by simp [maxLen]) rfl
   ·rw [inM_addM];exact hD.begin_ hnot
   ·intro x hx
    have:x=(p0,s0):=by simpa using hx
    subst this
    exact ⟨Leads.refl _,hin⟩
   ·exact hPs _ _ _ [] (hPs _ _ _ [r] (hPs _ _ _ [] hP (Fr.of_below hbw) (by simp)) Hf2.out (by simp)) (Fr.of_below (below_new _ _)) (by simp)
   ·rw [heap_alloc_old w2 _ (r:=w.heap.size) (by omega),Hf2.out.block _ (by omega) (by simp;omega)]
    exact Hbox.out
   ·simp;omega
   ·simp only [List.length_cons,List.length_nil];omega
   ·rw [inM_addM]
    rintro x (hx | rfl)
    ·exact Or.inl hx
    ·exact Or.inr (Leads.refl _)
   ·rw [inM_addM];exact fun x hx=>Or.inl hx
   ·rw [inM_addM];exact Or.inr rfl
  case round =>
   clear hbw hb1 hs2 Hbox t0 t1 hs3 Hm2 Hf2 HH HA Hseen hu0
   obtain ⟨g,cap,M,path,done,rfl,hown,hm,hd,hpath,hp,hfr,hbox,hsz,hcnt,rfl,hnew,hold,hfrm⟩:=hrel
   have Hinv:=hide (And.intro hown (And.intro hm (And.intro hd (And.intro hpath (And.intro hp (And.intro hfr (And.intro hnew (And.intro hold hfrm))))))))
   have Hbox:=hide hbox
   clear hown hm hd hpath hp hfr hbox hnew hold hfrm
   cases path with
   | nil =>
    go_wp2
    go_ret
    obtain ⟨hown,hm,hd,hpath,hp,hfr,hnew,hold,hfrm⟩:=Hinv.out
    have hdone:done=inM M:=funext fun x=>propext (hd.whole x).symm
    subst hdone
    exact ⟨false,rfl,hfr,(fun h=>by cases h),fun _=>⟨M,hm,hd,hp,hnew,hold,hfrm⟩⟩
   | cons x rest =>
    obtain ⟨hown,hm,hd,hpath,hp,hfr,hnew,hold,hfrm⟩:=Hinv.out
    obtain ⟨hR,hT,hM,hD,hP,hin,hPs,hRf,hr,hfound⟩:=Hall.out
    obtain ⟨c0,c1⟩:=path_last hown
    have hxr:=(hpath x (by simp)).2
    obtain ⟨xp,xs⟩:=x
    dsimp only at c0 c1
    have bx:∀ j,wr.cell? ⟨w.heap.size,j,none⟩=_:=fun j=>cell_of_row wr w.heap.size j _ _ (0,0) Hbox.out
    have hlw:w.heap.size < wr.heap.size:=by omega
    have hrl:rest.length≤2400000:=by simp only [List.length_cons] at hcnt;omega
    have Hcnt:=hide hcnt
    clear hcnt
    have hglt:=World.block_lt_of_cell? wr _ c0
    dsimp only at hglt
    have hbV:=below_new wr (Obj.cells #[Value.int .i64 xp,.int .i64 xs] 195)
    have hfrV:Fr (r :: Rf) w (wr.alloc (Obj.cells #[Value.int .i64 xp,.int .i64 xs] 195)):=hfr.trans (Fr.of_below hbV)
    have hU:=unmet_any R D xp xs (hR _ hfrV) (hm.below hbV) (hT _ hfrV) (by have:=hxr.1;have:=(hR _ hfrV).hlen;have:=(hR _ hfrV).llen;dsimp only at *;omega) hxr.2
    have HU:=hide hU
    unfold rnV at HU
    have b0:=bx 0
    have b1:=bx 1
    have b2:=bx 2
    have b3:=bx 3
    have b4:=bx 4
    have b5:=bx 5
    have b6:=bx 6
    have b7:=bx 7
    have hws:=woutGo_spec ((hR _ hfrV).words xs (lat R.hs R.ls xp).toNat) (hm.1 (nextOf R xp)) 5 0 rfl
    have Hws:Hid _:=hws
    have hnl:=next_lt R xp (hR _ hfrV).lpos hxr.1
    have Hinto:Hid (∀ t,inB (D xs (lat R.hs R.ls xp).toNat) t=true→t < R.N):=fun t=>(hR _ hfrV).into _ _ t
    clear hown hm hd hpath hp hfr hnew hold hfrm hR hT hM hD hP hin hPs hRf hr hfound bx hU hws hxr hnl
    go_wp2_with (fail)
    refine Calls.mono HU.out ?_
    rintro e w5 ⟨rfl,hb5⟩
    have hws:=Hws.out
    generalize hq:woutGo (D xs (lat R.hs R.ls xp).toNat) (M (nextOf R xp)) 5 0=q at hws
    have hq2:wout (D xs (lat R.hs R.ls xp).toNat) (M (nextOf R xp))=q:=hq
    rw [hq2]
    obtain ⟨t,b⟩:=q
    dsimp only at hws ⊢
    have Hws2:=hide hws
    clear hws hq hq2 Hws HU
    generalize hpp:nextOf R xp=pp
    have Hpp:=hide hpp
    clear hpp
    have hs5:wr.heap.size+1≤w5.heap.size:=by have:=hb5.size;simpa using this
    have l0:w5.cell? ⟨wr.heap.size,0,none⟩=some (.int .i64 xp):=by rw [hb5.cell (by simp)];simp
    have l1:w5.cell? ⟨wr.heap.size,1,none⟩=some (.int .i64 xs):=by rw [hb5.cell (by simp)];simp
    have hs5':wr.heap.size < w5.heap.size:=by omega
    obtain ⟨hown,hm,hd,hpath,hp,hfr,hnew,hold,hfrm⟩:=Hinv.out
    obtain ⟨hR,hT,hM,hD,hP,hin,hPs,hRf,hr,hfound⟩:=Hall.out
    have hb6:Below wr.heap.size wr (w5.alloc (Obj.cells #[Value.int .i64 pp,.int .i64 t] 195)):=below_trans (below_trans hbV hb5) (below_new _ _)
    have hfr6:Fr (r :: Rf) w (w5.alloc (Obj.cells #[Value.int .i64 pp,.int .i64 t] 195)):=hfr.trans (Fr.of_below hb6)
    have hxr:=(hpath (xp,xs) (by simp)).2
    cases b with
    | true =>
     obtain ⟨ht320,htD,htM⟩:=Hws2.out.1 rfl
     have htN:t < R.N:=Hinto.out t htD
     have hedge:Edge R D (xp,xs) (pp,t):=⟨Hpp.out.symm,htD⟩
     have hnot:¬ inM M (pp,t):=by unfold inM;dsimp only;rw [← Hpp.out,htM];simp
     have hinr:InR R (pp,t):=⟨by dsimp only;rw [← Hpp.out];exact next_lt R xp (hR _ hfr6).lpos hxr.1,htN⟩
     have HA:=hide (metAdd_any (hm.below hb6) pp t (by omega))
     have Hun:=hide (unmet_add R M (pp,t) hinr hnot)
     have Hmore:=hide (And.intro hedge (And.intro hnot hinr))
     clear hown hm hd hpath hp hfr hnew hold hfrm hR hT hM hD hP hin hPs hRf hr hfound hxr ht320 htD htM hedge hnot hinr
     go_wp2_with (fail)
     refine Calls.mono HA.out ?_
     rintro e w7 ⟨rfl,hm7,hf7⟩
     have hs7:=hf7.size
     rw [World.size_alloc] at hs7
     have n0:w7.cell? ⟨w5.heap.size,0,none⟩=some (.int .i64 pp):=by rw [hf7.cell (by simp) (by simp;omega)];simp
     have n1:w7.cell? ⟨w5.heap.size,1,none⟩=some (.int .i64 t):=by rw [hf7.cell (by simp) (by simp;omega)];simp
     have hown7:(w7.alloc (Obj.cells #[Value.int .i64 pp,.int .i64 t] 195)).ownsRow (w.heap.size+2) 195 2 (.slice (some ⟨g,0,none⟩) (rest.length+1) cap) (rest.length+1) (flat ((xp,xs) :: rest)):=
      (Fr.owns (owns_below Hinv.out.1 hb6) hf7 (by simp;omega)).alloc _
     have Hm7:=hide hm7
     have Hf7:=hide hf7
     have Hown7:=hide hown7
     clear hm7 hf7 hown7
     have q0:(w7.alloc (Obj.cells #[Value.int .i64 pp,.int .i64 t] 195)).cell? ⟨w7.heap.size,0,none⟩=some (.int .i64 pp):=by simp
     have q1:(w7.alloc (Obj.cells #[Value.int .i64 pp,.int .i64 t] 195)).cell? ⟨w7.heap.size,1,none⟩=some (.int .i64 t):=by simp
     have q2:w.heap.size+2≤(w7.alloc (Obj.cells #[Value.int .i64 pp,.int .i64 t] 195)).heap.size:=by simp;omega
     have Hq0:=hide q0
     have Hq1:=hide q1
     have Hq2:=hide q2
     clear q0 q1 q2
     go_wp2_with (at_builtin;refine wpList_append_spot _ rfl (.tmp 41) (.tmp 43) rfl (w.heap.size+2) g cap (rest.length+1) (flat ((xp,xs) :: rest)) rfl Hown7.out w7.heap.size 1 pp t rfl Hq0.out Hq1.out (by omega) Hq2.out ?_;intro g8 cap8 w8 hown8 hgrow8 hlt8)
     go_roundg (2 * unmetOf R (addM M pp t)+(rest.length+2))
     case measure =>
      have:=Hun.out
      simp only [List.length_cons]
      omega
     case rel =>
      obtain ⟨hown,hm,hd,hpath,hp,hfr,hnew,hold,hfrm⟩:=Hinv.out
      obtain ⟨hR,hT,hM,hD,hP,hin,hPs,hRf,hr,hfound⟩:=Hall.out
      obtain ⟨hedge,hnot,hinr⟩:=Hmore.out
      have hglow:w.heap.size+2≤g:=by
       rcases hown.2 with ⟨h0,_⟩ | ⟨g',cap',cur,hv,hg,_⟩
       ·cases h0
       ·cases hv;exact hg
      have hm7:=Hm7.out
      have hf8:=Fr.of_grown hgrow8
      have hfA:Fr [] w7 (w7.alloc (Obj.cells #[Value.int .i64 pp,.int .i64 t] 195)):=Fr.of_below (below_new _ _)
      have hfr78:Fr ([r] ++ ([] ++ [g])) _ w8:=Hf7.out.both (hfA.both hf8)
      have hfr68:Fr ([] ++ ([r] ++ ([] ++ [g]))) wr w8:=(Fr.of_below (R:=[]) hb6).both hfr78
      have hlead:=(hpath (xp,xs) (by simp)).1
      refine ⟨g8,cap8,addM M pp t,(pp,t) :: (xp,xs) :: rest,done,rfl,hown8,?_,?_,?_,?_,?_,?_,?_,?_,?_,?_,?_,?_⟩
      ·exact (hm7.below (below_new _ _)).fr hf8 (by have:=hm.lt;have:=hM.lt;simp;omega)
      ·rw [inM_addM];exact hd.push hedge hnot
      ·intro x hx
       rcases List.mem_cons.1 hx with rfl | hx
       ·exact ⟨hlead.trans (Leads.one hedge),hinr⟩
       ·exact hpath x hx
      ·exact hPs _ _ _ _ hp hfr68 (by intro k hk;simp at hk;rcases hk with rfl | rfl;exact Or.inl rfl;exact Or.inr (by omega))
      ·exact hfr.past hfr68 (by intro k hk;simp at hk;rcases hk with rfl | rfl;exact Or.inl (by simp);exact Or.inr (by omega))
      ·rw [hfr68.block _ (by omega) (by have:=hM.lt;simp;omega)]
       exact Hbox.out
      ·have:=hfr68.size;omega
      ·have:=Hun.out;have:=Hcnt.out;simp only [List.length_cons] at *;omega
      ·simp only [List.length_cons]
      ·rw [inM_addM]
       rintro x (hx | rfl)
       ·exact hnew x hx
       ·exact Or.inr (hlead.trans (Leads.one hedge))
      ·rw [inM_addM];exact fun x hx=>Or.inl (hold x hx)
      ·rw [inM_addM];exact Or.inl hfrm
    | false =>
     have hw0:=Hws2.out.2 rfl
     obtain ⟨rfl,hno⟩:=hw0
     have hall:∀ y,Edge R D (xp,xs) y→inM M y:=by
      rintro ⟨y1,y2⟩ ⟨h1,h2⟩
      dsimp only at h1 h2
      have h3:=Hinto.out y2 h2
      have h4:=hno y2 (by omega) (by omega) h2
      unfold inM
      dsimp only
      rw [h1]
      exact h4
     have hp6:=hPs _ _ _ [] hp (Fr.of_below hb6) (by simp)
     have HF:=hide (hfound done rest (xp,xs) M _ hfr6 (hm.below hb6) hd (hpath (xp,xs) (by simp)).1 hall hxr hp6)
     have Hfin:=hide (And.intro hb6 (And.intro hfr6 (And.intro hp6 (And.intro hxr hall))))
     have hcap:rest.length≤cap:=by
      rcases hown.2 with ⟨h0,_⟩ | ⟨g',cap',cur,hv,hg,hh,hn,_⟩
      ·cases h0
      ·cases hv;simp only [List.length_cons] at hn;omega
     have hcap2:cap≤maxLen:=by
      rcases hown.2 with ⟨h0,_⟩ | ⟨g',cap',cur,hv,hg,hh,hn,hc,_⟩
      ·cases h0
      ·cases hv;exact hc
     clear hown hm hd hpath hp hfr hnew hold hfrm hR hT hM hD hP hin hPs hRf hr hfound hxr hall hno hp6 hb6 hfr6
     go_wp2_with (fail)
     refine Calls.mono HF.out ?_
     rintro e w9 ⟨bb,rfl,hf9,htrue,hfalse⟩
     have Hf9:=hide hf9
     have Htrue:=hide htrue
     have Hfalse:=hide hfalse
     clear hf9 htrue hfalse
     cases bb with
     | true =>
      go_wp2
      go_ret
      obtain ⟨hb6,hfr6,hp6,hxr,hall⟩:=Hfin.out
      exact ⟨true,rfl,hfr6.trans (Hf9.out.mono (fun k hk=>by simp [hk])),(fun _=>by first | exact Htrue.out rfl | exact Htrue.out trivial),fun h=>by cases h⟩
     | false =>
      go_wp2
      go_roundg (2 * unmetOf R M+rest.length)
      case measure=>simp only [List.length_cons];omega
      case rel =>
       obtain ⟨hown,hm,hd,hpath,hp,hfr,hnew,hold,hfrm⟩:=Hinv.out
       obtain ⟨hR,hT,hM,hD,hP,hin,hPs,hRf,hr,hfound⟩:=Hall.out
       obtain ⟨hb6,hfr6,hp6,hxr,hall⟩:=Hfin.out
       have hsz6:=hb6.size
       have hmlt:=hm.lt
       refine ⟨g,cap,M,rest,fun z=>done z ∨ z=(xp,xs),rfl,?_,?_,?_,?_,?_,?_,?_,?_,?_,?_,?_,?_,?_⟩
       ·refine Fr.owns (owns_below ?_ hb6) Hf9.out (fun k hk=>by have:=hRf k hk;omega)
        exact ownsRow_pop (flat_length rest) hown
       ·exact (hm.below hb6).fr Hf9.out hr
       ·exact hd.pop hall
       ·intro x hx;exact hpath x (by simp [hx])
       ·first | exact Hfalse.out rfl | exact Hfalse.out trivial
       ·exact hfr6.trans (Hf9.out.mono (fun k hk=>by simp [hk]))
       ·rw [Hf9.out.block _ (by omega) (fun hk=>by have:=hRf _ hk;omega),hb6.block _ (by omega)]
        exact Hbox.out
       ·have:=Hf9.out.size;omega
       ·have:=Hcnt.out;simp only [List.length_cons] at this;omega
       ·rfl
       ·exact hnew
       ·exact hold
       ·exact hfrm
def RunAt (w:World) (B:Nat) (R:Rn):Prop:=w.heap[B]?=some (.cells #[Value.int .i64 R.n,.int .i64 R.m,.slice R.a1 R.l1 R.c1,.slice R.a2 R.l2 R.c2,.slice R.a3 R.l3 R.c3,.slice R.a4 R.hs.length R.c4,.slice R.a5 R.ls.length R.c5,.slice (some ⟨R.g,0,none⟩) R.N R.N] 125)
def SpotAt (w:World) (B:Nat) (x:Spot):Prop:=w.heap[B]?=some (.cells #[Value.int .i64 x.1,.int .i64 x.2] 195)
theorem RunAt.lt {w:World}{B:Nat}{R:Rn} (h:RunAt w B R):B < w.heap.size:=(Array.getElem?_eq_some_iff.1 h).1
theorem SpotAt.lt {w:World}{B:Nat}{x:Spot} (h:SpotAt w B x):B < w.heap.size:=(Array.getElem?_eq_some_iff.1 h).1
theorem RunAt.below {w w':World}{B:Nat}{R:Rn} (h:RunAt w B R) (hb:Below w.heap.size w w'):RunAt w' B R:=(hb.block B h.lt).trans h
theorem RunAt.fr {w w':World}{B:Nat}{R:Rn}{L:List Nat} (h:RunAt w B R) (hb:Fr L w w') (hn:B ∉ L):RunAt w' B R:=(hb.block B h.lt hn).trans h
theorem SpotAt.fr {w w':World}{B:Nat}{x:Spot}{L:List Nat} (h:SpotAt w B x) (hb:Fr L w w') (hn:B ∉ L):SpotAt w' B x:=(hb.block B h.lt hn).trans h
def edgeB (R:Rn) (D:Nat→Nat→Nat→Nat) (x y:Spot):Bool:=decide (nextOf R x.1=y.1) && inB (D x.2 (lat R.hs R.ls x.1).toNat) y.2
theorem edgeB_iff (R:Rn) (D:Nat→Nat→Nat→Nat) (x y:Spot):edgeB R D x y=true ↔ Edge R D x y:=by
 unfold edgeB Edge
 rw [Bool.and_eq_true,decide_eq_true_iff]
 exact ⟨fun ⟨a,b⟩=>⟨a.symm,b⟩,fun ⟨a,b⟩=>⟨a.symm,b⟩⟩
theorem inner_any {w:World} (R:Rn) (D:Nat→Nat→Nat→Nat) (x seed:Spot) (B1 B3:Nat) (hb1:RunAt w B1 R) (hb3:SpotAt w B3 seed) (hR:RnOk w R D) (hx:InR R x) (hs:seed.2 < 300) :
  Calls Tryz.prog 132 #[.agg #[.int .i64 x.1,.int .i64 x.2],.pointer (some ⟨B1,0,none⟩),.pointer (some ⟨B3,0,none⟩)] w fun e w'=>e=.returned (.bool (edgeB R D x seed))∧Below w.heap.size w w':=by
 obtain ⟨p,s⟩:=x
 obtain ⟨p1,s1⟩:=seed
 dsimp only at hs ⊢
 have hp:p≤100000:=by have:=hx.1;have:=hR.hlen;have:=hR.llen;dsimp only at *;omega
 have HN:=hide (fun w1=>next_any R p w1 hR.hlen hR.llen hp)
 have HA:=hide (fun w1 (hb:Below w.heap.size w w1)=>after_any R D p s w1 (hR.below hb) hp hx.2)
 have HS:=hide (fun w1=>has_any (D s (lat R.hs R.ls p).toNat) s1 w1 hs (hR.words _ _))
 unfold RunAt at hb1
 unfold SpotAt at hb3
 unfold edgeB
 dsimp only at hb3 ⊢
 clear hR hx hp
 generalize inB (D s (lat R.hs R.ls p).toNat) s1=b at *
 generalize D s (lat R.hs R.ls p).toNat=B at *
 generalize nextOf R p=p' at *
 unfold rnV at HN HA
 unfold stV at HA
 generalize hW1:w.alloc (Obj.cells #[Value.int .i64 p,.int .i64 s] 195)=W1
 have hbW:Below w.heap.size w W1:=by rw [← hW1];exact below_new _ _
 have hl1:=(Array.getElem?_eq_some_iff.1 hb1).1
 have hl3:=(Array.getElem?_eq_some_iff.1 hb3).1
 have e1:=(hbW.block _ hl1).trans hb1
 have e3:=(hbW.block _ hl3).trans hb3
 have k0:=cell_regrown (cell_of_row W1 B1 0 _ _ _ e1)
 have k1:=cell_regrown (cell_of_row W1 B1 1 _ _ _ e1)
 have k2:=cell_regrown (cell_of_row W1 B1 2 _ _ _ e1)
 have k3:=cell_regrown (cell_of_row W1 B1 3 _ _ _ e1)
 have k4:=cell_regrown (cell_of_row W1 B1 4 _ _ _ e1)
 have k5:=cell_regrown (cell_of_row W1 B1 5 _ _ _ e1)
 have k6:=cell_regrown (cell_of_row W1 B1 6 _ _ _ e1)
 have k7:=cell_regrown (cell_of_row W1 B1 7 _ _ _ e1)
 have j0:=cell_regrown (cell_of_row W1 B3 0 _ _ _ e3)
 have j1:=cell_regrown (cell_of_row W1 B3 1 _ _ _ e3)
 have i0:=cell_regrown (w:=W1) (a:=⟨w.heap.size,0,none⟩) (v:=.int .i64 p) (by rw [← hW1];simp)
 have i1:=cell_regrown (w:=W1) (a:=⟨w.heap.size,1,none⟩) (v:=.int .i64 s) (by rw [← hW1];simp)
 have CN:=hide (fun d os=>Calls.regrown_of (HN.out (grow (redrawn W1 d) os)))
 have CA:=hide (fun d os=>Calls.regrown_of (HA.out (grow (redrawn W1 d) os) (below_trans hbW (below_regrown W1 d os))))
 have CS:=hide (fun d os=>Calls.regrown_of (HS.out (grow (redrawn W1 d) os)))
 clear hb1 hb3 e1 e3 HN HA HS hl1 hl3
 by_cases hpp:p'=p1
 ·have hd:((p':Int) == (p1:Int))=true:=by rw [beq_iff_eq];omega
  rw [decide_eq_true hpp,Bool.true_and]
  clear hpp
  go_enter Tryz.func132,Tryz.ntmps132
  go_wp2_with (fail)
  try rw [hW1]
  clear hW1
  refine wp_region_quiet_below (by kernel_rfl) (by kernel_rfl) ?_
  (repeat (go_big_quiet_step (first | exact CN.out _ _ | exact CA.out _ _ | exact CS.out _ _)))
  refine wpQuiet_nil ?_
  intro _ hw'
  obtain ⟨⟨dq,osq⟩,hw''⟩:=hw'
  subst hw''
  have hbq:=below_trans hbW (below_regrown W1 dq osq)
  clear k0 k1 k2 k3 k4 k5 k6 k7 j0 j1 i0 i1 CN CA CS
  go_wp2
  go_ret
  exact ⟨rfl,hbq⟩
 ·have hd:((p':Int) == (p1:Int))=false:=by rw [beq_eq_false_iff_ne];omega
  rw [decide_eq_false hpp,Bool.false_and]
  clear hpp
  go_enter Tryz.func132,Tryz.ntmps132
  go_wp2_with (fail)
  try rw [hW1]
  clear hW1
  refine wp_region_quiet_below (by kernel_rfl) (by kernel_rfl) ?_
  (repeat (go_big_quiet_step (first | exact CN.out _ _ | exact CA.out _ _ | exact CS.out _ _)))
  refine wpQuiet_nil ?_
  intro _ hw'
  obtain ⟨⟨dq,osq⟩,hw''⟩:=hw'
  subst hw''
  have hbq:=below_trans hbW (below_regrown W1 dq osq)
  clear k0 k1 k2 k3 k4 k5 k6 k7 j0 j1 i0 i1 CN CA CS
  go_wp2
  go_ret
  exact ⟨rfl,hbq⟩
def IsMap (w:World) (k:Nat):Prop:=∃ es c,w.heap[k]?=some (.map es c)
theorem MetAt.isMap {w:World}{r:Nat}{M:Nat→Nat→Nat} (h:MetAt w r M):IsMap w r:=let ⟨_,es,c,hr,_⟩:=h;⟨es,c,hr⟩
theorem isMap_cell {w:World}{k:Nat} (h:IsMap w k) {a:Addr}{v:Value} (ha:w.cell? a=some v):a.block ≠ k:=by
 rintro rfl
 obtain ⟨es,c,h⟩:=h
 simp [World.cell?,h] at ha
theorem Fr.cellM {L:List Nat}{w w':World} (h:Fr L w w') (hL:∀ k,k ∈ L→IsMap w k) {a:Addr}{v:Value} (ha:w.cell? a=some v):w'.cell? a=some v:=by
 rw [h.cell (World.block_lt_of_cell? w _ ha) (fun hm=>isMap_cell (hL _ hm) ha rfl)]
 exact ha
theorem IntSl.frM {L:List Nat}{w w':World}{v:Value}{zs:List Int} (hv:IntSl w v zs) (h:Fr L w w') (hL:∀ k,k ∈ L→IsMap w k):IntSl w' v zs:=by
 obtain ⟨a,cap,rfl,hm,h1,hn⟩:=hv
 refine ⟨a,cap,rfl,hm,?_,hn⟩
 rcases h1 with h1 | ⟨b,off,rfl,hc⟩
 ·exact Or.inl h1
 ·exact Or.inr ⟨b,off,rfl,fun i hi=>h.cellM hL (hc i hi)⟩
theorem BoolSl.frM {L:List Nat}{w w':World}{v:Value}{zs:List Bool} (hv:BoolSl w v zs) (h:Fr L w w') (hL:∀ k,k ∈ L→IsMap w k):BoolSl w' v zs:=by
 obtain ⟨a,cap,rfl,hm,h1,hn⟩:=hv
 refine ⟨a,cap,rfl,hm,?_,hn⟩
 rcases h1 with h1 | ⟨b,off,rfl,hc⟩
 ·exact Or.inl h1
 ·exact Or.inr ⟨b,off,rfl,fun i hi=>h.cellM hL (hc i hi)⟩
theorem RnOk.frM {L:List Nat}{w w':World}{R:Rn}{D:Nat→Nat→Nat→Nat} (hR:RnOk w R D) (h:Fr L w w') (hL:∀ k,k ∈ L→IsMap w k):RnOk w' R D:=
 ⟨hR.head.frM h hL,hR.loop.frM h hL,hR.hlen,hR.llen,hR.lpos,hR.few,hR.letter,fun s l i hs hl hi=>h.cellM hL (hR.cell s l i hs hl hi),hR.words,hR.into⟩
theorem Tab.frM {L:List Nat}{w w':World} (ht:Tab w) (h:Fr L w w') (hL:∀ k,k ∈ L→IsMap w k):Tab w':=fun i hi=>h.cellM hL (ht i hi)
theorem RunAt.frM {L:List Nat}{w w':World}{B:Nat}{R:Rn} (hr:RunAt w B R) (h:Fr L w w') (hL:∀ k,k ∈ L→IsMap w k):RunAt w' B R:=
 hr.fr h (fun hm=>by obtain ⟨es,c,h⟩:=hL _ hm;unfold RunAt at hr;rw [h] at hr;cases hr)
def GoodAt (w:World) (R:Rn) (gs:List Bool):Prop:=BoolSl w (.slice R.a2 R.l2 R.c2) gs∧gs.length=R.N
theorem callF_inner:∀ args w,(callFunc 132 args).run Tryz.prog w=.ok (.enter 132 args) w:=Tryz.call132
theorem callF_outer:∀ args w,(callFunc 131 args).run Tryz.prog w=.ok (.enter 131 args) w:=Tryz.call131
theorem innerSearch_any {w:World}{r:Nat}{MI:Nat→Nat→Nat} (R:Rn) (D:Nat→Nat→Nat→Nat) (x:Spot) (B1 B3:Nat) (hb1:RunAt w B1 R) (hb3:SpotAt w B3 x) (hR:RnOk w R D) (ht:Tab w) (hM:MetAt w r MI)
  (hD:Dfs (Edge R D) (inM MI) (inM MI) []) (hx:InR R x) :
  Calls Tryz.prog 130 #[rnV R,.agg #[.int .i64 x.1,.int .i64 x.2],.map (some r),.func (.func 132) #[] #[.pointer (some ⟨B1,0,none⟩),.pointer (some ⟨B3,0,none⟩)]] w fun e w' =>
   ∃ b,e=.returned (.bool b)∧Fr [r] w w'∧(b=true→LeadsOn (Edge R D) x x) ∧
    (b=false→∃ M,MetAt w' r M∧Dfs (Edge R D) (inM M) (inM M) []∧(∀ z,inM M z→¬ inM MI z→¬ Edge R D z x)∧(∀ z,inM M z→inM MI z ∨ Leads (Edge R D) x z)∧(∀ z,inM MI z→inM M z)∧inM M x):=by
 have hLm:∀ k,k ∈ [r]→IsMap w k:=fun k hk=>by
  have:k=r:=by simpa using hk
  subst this;exact hM.isMap
 have h300:=hR.few
 refine (search_any (w:=w) (r:=r) (M0:=MI) R D [] 132 #[.pointer (some ⟨B1,0,none⟩),.pointer (some ⟨B3,0,none⟩)] x (LeadsOn (Edge R D) x x) (fun done _=>∀ z,done z→¬ inM MI z→¬ Edge R D z x)
  (fun w1 h=>hR.frM h hLm) (fun w1 h=>ht.frM h hLm) hM hD (fun z h1 h2=>absurd h1 h2) hx (fun _ _ _ _ h _ _=>h) (fun k hk=>by cases hk) (by simp) callF_inner ?_).mono ?_
 ·intro done path z M w1 hf hm hd hl hall hz hp
  refine (inner_any R D z x B1 B3 (hb1.frM hf hLm) (hb3.fr hf (fun hm=>?_)) (hR.frM hf hLm) hz (by have:=hx.2;omega)).mono ?_
  ·obtain ⟨es,c,h⟩:=hLm _ hm
   unfold SpotAt at hb3
   rw [h] at hb3;cases hb3
  ·rintro e w' ⟨rfl,hb⟩
   refine ⟨_,rfl,Fr.of_below hb,fun h=>?_,fun h=>?_⟩
   ·rw [edgeB_iff] at h
    exact LeadsOn.trans_left hl (LeadsOn.one h)
   ·rintro z' (h1 | rfl) h2
    ·exact hp z' h1 h2
    ·intro he
     rw [← edgeB_iff,h] at he
     cases he
 ·rintro e w' ⟨b,rfl,hf,h1,h2⟩
  refine ⟨b,rfl,hf,h1,fun h=>?_⟩
  obtain ⟨M,a1,a2,a3,a4,a5,a6⟩:=h2 h
  exact ⟨M,a1,a2,a3,a4,a5,a6⟩
def VarAt (w:World) (B:Nat) (v:Value):Prop:=w.heap[B]?=some (.cells #[v] 192)
theorem VarAt.lt {w:World}{B:Nat}{v:Value} (h:VarAt w B v):B < w.heap.size:=(Array.getElem?_eq_some_iff.1 h).1
theorem VarAt.frM {L:List Nat}{w w':World}{B:Nat}{v:Value} (hr:VarAt w B v) (h:Fr L w w') (hL:∀ k,k ∈ L→IsMap w k):VarAt w' B v:=
 (h.block B hr.lt (fun hm=>by obtain ⟨es,c,h⟩:=hL _ hm;unfold VarAt at hr;rw [h] at hr;cases hr)).trans hr
theorem outer_any {w:World}{r:Nat}{MI:Nat→Nat→Nat}{gs:List Bool} (R:Rn) (D:Nat→Nat→Nat→Nat) (x:Spot) (B1 B4:Nat) (hb1:RunAt w B1 R) (hb4:VarAt w B4 (.map (some r))) (hR:RnOk w R D) (ht:Tab w) (hg:GoodAt w R gs) (hM:MetAt w r MI)
  (hD:Dfs (Edge R D) (inM MI) (inM MI) []) (hx:InR R x) :
  Calls Tryz.prog 131 #[.agg #[.int .i64 x.1,.int .i64 x.2],.pointer (some ⟨B1,0,none⟩),.pointer (some ⟨B4,0,none⟩)] w fun e w' =>
   ∃ b,e=.returned (.bool b)∧Fr [r] w w'∧(b=true→gs.getD x.2 false=true∧LeadsOn (Edge R D) x x) ∧
    (b=false→∃ M,MetAt w' r M∧Dfs (Edge R D) (inM M) (inM M) []∧(∀ z,inM MI z→inM M z)∧(gs.getD x.2 false=false→M=MI) ∧
     (gs.getD x.2 false=true→(∀ z,inM M z→¬ inM MI z→¬ Edge R D z x)∧(∀ z,inM M z→inM MI z ∨ Leads (Edge R D) x z)∧inM M x)):=by
 have hbW:=below_new w (Obj.cells #[Value.int .i64 x.1,.int .i64 x.2] 195)
 have HS:=hide (innerSearch_any R D x B1 w.heap.size (hb1.below hbW) (heap_alloc_new w _) (hR.below hbW) (ht.below hbW) (hM.below hbW) hD hx)
 obtain ⟨p,s⟩:=x
 dsimp only at *
 have hs:s < gs.length:=by rw [hg.2];exact hx.2
 have hg1:=hg.1
 obtain ⟨ga,gcap,he,hgm,hgc,hgn⟩:=hg1
 injection he with ea el ec
 rcases hgc with h0 | ⟨gb,goff,rfl,hc⟩
 ·subst h0;simp at hs
 have hcell:=hc s hs
 generalize hgood:gs.getD s false=good at *
 have Hgood:=hide hgood
 have Hold:=hide (And.intro hM hD)
 have e1:∀ j,w.cell? ⟨B1,j,none⟩=_:=fun j=>cell_of_row w B1 j _ _ _ hb1
 have e4:w.cell? ⟨B4,0,none⟩=some (.map (some r)):=cell_of_row w B4 0 _ _ _ hb4
 have k0:=e1 0
 have k1:=e1 1
 have k2:=e1 2
 have k3:=e1 3
 have k4:=e1 4
 have k5:=e1 5
 have k6:=e1 6
 have k7:=e1 7
 have l1:=hb1.lt
 have l4:=hb4.lt
 have lg:=World.block_lt_of_cell? w _ hcell
 dsimp only at lg
 clear hc hb1 hb4 hR ht hg hM hD hx e1 hgood
 unfold rnV at HS
 rw [ea,el] at HS k0 k1 k2 k3 k4 k5 k6 k7
 clear ea el ec
 have hs2:(s:Int) < gs.length:=by omega
 cases good with
 | true =>
  go_enter Tryz.func131,Tryz.ntmps131
  go_wp2_with (fail)
  refine Calls.mono HS.out ?_
  rintro e w1 ⟨b,rfl,hf,ht,hfa⟩
  have Ht:=hide ht
  have Hfa:=hide hfa
  clear ht hfa
  go_wp2
  go_ret
  refine ⟨b,rfl,(Fr.of_below hbW).trans hf,fun h=>⟨by first | exact Hgood.out | trivial,Ht.out h⟩,fun h=>?_⟩
  obtain ⟨M,a1,a2,a3,a4,a5,a6⟩:=Hfa.out h
  exact ⟨M,a1,a2,a5,(fun h=>by cases h),fun _=>⟨a3,a4,a6⟩⟩
 | false =>
  go_enter Tryz.func131,Tryz.ntmps131
  go_wp2
  go_ret
  exact ⟨false,rfl,Fr.of_below (by repeat (first | exact Below.refl _ _ | assumption | refine below_drewN ?_ _ | refine Below.drew ?_ | refine Below.alloc ?_ (by simp <;> omega) _ | refine below_trans ?_ (by assumption))),(fun h=>by cases h),fun _=>⟨MI,Hold.out.1.below (by repeat (first | exact Below.refl _ _ | assumption | refine below_drewN ?_ _ | refine Below.drew ?_ | refine Below.alloc ?_ (by simp <;> omega) _ | refine below_trans ?_ (by assumption))),Hold.out.2,fun z h=>h,fun _=>rfl,fun h=>by cases h⟩⟩
end Go.Proofs.YtpiacnnifdjlkabGreatDoor
