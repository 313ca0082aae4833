import Derived.Test.YtpiacnnifdjlkabGreatDoorHf
set_option maxRecDepth 100000
set_option maxHeartbeats 8000000
namespace Go.Proofs.YtpiacnnifdjlkabGreatDoor
open Go.RowKit Go.Sort
def negR (fv:Value) (cb:Nat) (xa xb k:Int) (o:Bool) (sb:UInt8) (A B:List UInt8) (j:Nat) (v:Value) (w:World):Prop:=
 match j with
 | 0=>v=fv
 | 1=>v=.pointer (some ⟨cb,1,none⟩)
 | 2=>v=.int .i64 xa
 | 3=>v=.bool o
 | 4=>v=.string ⟨A.toArray⟩
 | 5=>v=.string ⟨([40] ++ A).toArray⟩
 | 6=>v=.string ⟨([40] ++ A ++ [32]).toArray⟩
 | 7=>v=.int .i64 k
 | 8=>v=.int .i64 (k - 4)
 | 9=>v=.int .u8 (sb.toNat:Int)
 | 10=>∃ g,v=.slice (some ⟨g,0,none⟩) 1 1∧w.cell? ⟨g,0,none⟩=some (.int .u8 (sb.toNat:Int))
 | 11=>v=.string ⟨#[sb]⟩
 | 12=>v=.string ⟨([40] ++ A ++ [32] ++ [sb]).toArray⟩
 | 13=>v=.string ⟨([40] ++ A ++ [32] ++ [sb] ++ [32]).toArray⟩
 | 14=>v=fv
 | 15=>v=.pointer (some ⟨cb,2,none⟩)
 | 16=>v=.int .i64 xb
 | 17=>v=.bool o
 | 18=>v=.string ⟨B.toArray⟩
 | 19=>v=.string ⟨([40] ++ A ++ [32] ++ [sb] ++ [32] ++ B).toArray⟩
 | 20=>v=.string ⟨([40] ++ A ++ [32] ++ [sb] ++ [32] ++ B ++ [41]).toArray⟩
 | 21=>v=.string ⟨([40] ++ A ++ [32] ++ [sb] ++ [32] ++ B ++ [41]).toArray⟩
 | _=>True
theorem op_sub4 {a:Act}{o:Oper}{x:Operand} (k:Int) (W:World) (ho:o.op=.binOp .sub 3 x (.const (.int .i64 4)) 3) (hx:a.eval x=.int .i64 k) (hw:IntKind.i64.wrap (k - 4)=k - 4):(execOp a.eval o).run Tryz.prog W=.ok (.value (.int .i64 (k - 4))) W:=by
 unfold execOp
 simp only [ho,hx]
 simp [go_sem,eqGuard,hw]
theorem op_sign {a:Act}{o:Oper}{x:Operand} (k:Int) (W:World) (ho:o.op=.index 9 (.const (.string ⟨#[38,124,46,85,82]⟩)) x) (hx:a.eval x=.int .i64 (k - 4)) (hk:k=4 ∨ k=5 ∨ k=7 ∨ k=8):(execOp a.eval o).run Tryz.prog W=.ok (.value (.int .u8 ((signB k).toNat:Int))) W:=by
 have hs:=sign_at k hk W
 unfold execOp
 simp only [ho,hx]
 simp [Act.eval,hs]
theorem negR_keep {fv:Value}{cb:Nat}{xa xb k:Int}{o:Bool}{sb:UInt8}{A B:List UInt8}{w w':World} (hb:Below w.heap.size w w') (j:Nat) (x:Value) (h:negR fv cb xa xb k o sb A B j x w):negR fv cb xa xb k o sb A B j x w':=by
 by_cases hj:j=10
 ·subst hj
  obtain ⟨g,h1,h2⟩:=h
  exact ⟨g,h1,cell_keep h2 hb⟩
 ·unfold negR at h ⊢
  split at h
  all_goals first | exact h | exact absurd rfl hj
theorem neg_two_as {F:List Nd} (hF:AllOk F) (h12:F.length≤12) (i:Nat) (hi:i < F.length) (hk:(F.getD i nd0).k=4 ∨ (F.getD i nd0).k=5 ∨ (F.getD i nd0).k=7 ∨ (F.getD i nd0).k=8) (iha:NegOk F (F.getD i nd0).a.toNat false) (ihb:NegOk F (F.getD i nd0).b.toNat false):NegOk F i false:=by
 intro w v hv
 rw [nt_eq hF i hi]
 obtain ⟨-,⟨a0,a1,-⟩,⟨b0,b1,-⟩,-⟩:=node_ok (hF i hi)
 have a2:=a1 (by omega)
 have b2:=b1 (by omega)
 have HV:=hide hv
 obtain ⟨a,cap,rfl,hm,hc,-⟩:=hv
 unfold maxLen at hm
 rcases hc with hc | ⟨b,off,rfl,hc⟩
 ·subst hc;simp at hi
 obtain ⟨c0,c1,c2,c3⟩:=hc i hi
 generalize hx:F.getD i nd0=x at *
 clear hc hx
 obtain ⟨k,xa,xb,xn⟩:=x
 dsimp only at *
 have e:ntS ⟨k,xa,xb,xn⟩ (nt F) false=[40] ++ nt F xa.toNat false ++ [32] ++ [signB k] ++ [32] ++ nt F xb.toNat false ++ [41]:=by
  unfold ntS
  rw [if_neg (by dsimp only;omega),if_neg (by dsimp only;omega),if_neg (by dsimp only;omega)]
  simp
 rw [e]
 have exa:((xa.toNat:Nat):Int)=xa:=by omega
 have exb:((xb.toNat:Nat):Int)=xb:=by omega
 have HI:Hid (∀ W,Below w.heap.size w W→Calls Tryz.prog 86 #[.slice (some ⟨b,off,none⟩) F.length cap,.int .i64 xa,.bool false] W fun e w'=>e=.returned (.string ⟨(nt F xa.toNat false).toArray⟩)∧Below W.heap.size W w'):=hide fun W hb=>by
  have:=iha W _ (HV.out.below hb)
  rw [exa] at this
  exact this
 have HJ:Hid (∀ W,Below w.heap.size w W→Calls Tryz.prog 86 #[.slice (some ⟨b,off,none⟩) F.length cap,.int .i64 xb,.bool false] W fun e w'=>e=.returned (.string ⟨(nt F xb.toNat false).toArray⟩)∧Below W.heap.size W w'):=hide fun W hb=>by
  have:=ihb W _ (HV.out.below hb)
  rw [exb] at this
  exact this
 have HK:=hide hk
 have hlA:=nt_len hF xa.toNat (by omega) false
 have hpA:2 ^ (xa.toNat)≤2 ^ 12:=Nat.pow_le_pow_right (by decide) (by omega)
 have hlB:=nt_len hF xb.toNat (by omega) false
 have hpB:2 ^ (xb.toNat)≤2 ^ 12:=Nat.pow_le_pow_right (by decide) (by omega)
 have hAl:(nt F xa.toNat false).length≤100000:=by omega
 have hBl:(nt F xb.toNat false).length≤100000:=by omega
 clear hlA hpA hlB hpB
 clear iha ihb exa exb e a0 a1 a2 b0 b1 b2
 generalize nt F xa.toNat false=A at *
 generalize nt F xb.toNat false=B at *
 have d1:(k == 1)=false:=by rw [beq_eq_false_iff_ne];omega
 have d2:(k == 2)=false:=by rw [beq_eq_false_iff_ne];omega
 have d3:(k == 3)=false:=by rw [beq_eq_false_iff_ne];omega
 have d6:(k == 6)=false:=by rw [beq_eq_false_iff_ne];omega
 have hw4:IntKind.i64.wrap (k - 4)=k - 4:=by rcases hk with rfl | rfl | rfl | rfl <;> rfl
 clear hk
 go_enter Tryz.func86,Tryz.ntmps86
 go_wp2_with (fail)
 rename_i Q' K hK
 obtain ⟨w1,hw1⟩:∃ w1,w1=w.alloc (Obj.cells #[.int .i64 k,.int .i64 xa,.int .i64 xb,.int .i64 xn] 55):=⟨_,rfl⟩
 rw [← hw1]
 have n1:w1.cell? ⟨w.heap.size,1,none⟩=some (.int .i64 xa):=by rw [hw1];exact cell_top _ _ _ _ _ _ rfl rfl
 have n2:w1.cell? ⟨w.heap.size,2,none⟩=some (.int .i64 xb):=by rw [hw1];exact cell_top _ _ _ _ _ _ rfl rfl
 have HB1:=hide (show Below w.heap.size w w1 by rw [hw1];exact below_new _ _)
 clear hw1 c0 c1 c2 c3
 refine wp_region_amid (fun W=>Below w1.heap.size w1 W) (negR (.slice (some ⟨b,off,none⟩) F.length cap) w.heap.size xa xb k false (signB k) A B) (by kernel_rfl) (by kernel_rfl) (Below.drew (Below.refl _ _)) ?_ ?_
 ·intro j o ho
  match j,ho with
  | 0,ho =>
   obtain rfl:=Option.some.inj ho
   exact stepOk_val fun a W vs hW he hd=>⟨_,rfl,he 0 (by kernel_rfl)⟩
  | 1,ho =>
   obtain rfl:=Option.some.inj ho
   clear ho
   refine stepOk_val fun a W vs hW he hd=>?_
   have e7:a.tmps[7]?.getD undef=.pointer (some ⟨w.heap.size,0,none⟩):=free_val he 7 (by kernel_rfl)
   exact ⟨.pointer (some ⟨w.heap.size,1,none⟩),by simp [execOp,go_sem,e7],rfl⟩
  | 2,ho =>
   obtain rfl:=Option.some.inj ho
   clear ho
   refine stepOk_val fun a W vs hW he hd=>?_
   have v1:a.tmps[50]?.getD undef=.pointer (some ⟨w.heap.size,1,none⟩):=dep_val hd 1 50 (by kernel_rfl) (by kernel_rfl)
   have c1:=cell_keep n1 hW
   exact ⟨.int .i64 xa,by simp [execOp,go_sem,v1,c1],rfl⟩
  | 3,ho =>
   obtain rfl:=Option.some.inj ho
   exact stepOk_val fun a W vs hW he hd=>⟨_,rfl,he 2 (by kernel_rfl)⟩
  | 4,ho =>
   obtain rfl:=Option.some.inj ho
   clear ho
   refine stepOk_call fun a W vs hW he hd=>?_
   have v0:a.tmps[49]?.getD undef=.slice (some ⟨b,off,none⟩) F.length cap:=dep_val hd 0 49 (by kernel_rfl) (by kernel_rfl)
   have v2:a.tmps[51]?.getD undef=.int .i64 xa:=dep_val hd 2 51 (by kernel_rfl) (by kernel_rfl)
   have v3:a.tmps[52]?.getD undef=.bool false:=dep_val hd 3 52 (by kernel_rfl) (by kernel_rfl)
   refine ⟨86,#[.slice (some ⟨b,off,none⟩) F.length cap,.int .i64 xa,.bool false],by simp [execOp,go_sem,v0,v2,v3],(HI.out W (below_trans HB1.out hW)).mono ?_⟩
   rintro e W' ⟨rfl,hb⟩
   exact ⟨_,rfl,below_trans hW hb,rfl,fun j x h=>negR_keep hb j x h⟩
  | 5,ho =>
   obtain rfl:=Option.some.inj ho
   clear ho
   refine stepOk_val fun a W vs hW he hd=>?_
   have v4:a.tmps[53]?.getD undef=.string ⟨(A).toArray⟩:=dep_val hd 4 53 (by kernel_rfl) (by kernel_rfl)
   exact ⟨_,op_add ([40]) (A) W rfl rfl ((eval_tmp a 53).trans v4) (by simp;omega),rfl⟩
  | 6,ho =>
   obtain rfl:=Option.some.inj ho
   clear ho
   refine stepOk_val fun a W vs hW he hd=>?_
   have v5:a.tmps[54]?.getD undef=.string ⟨([40] ++ A).toArray⟩:=dep_val hd 5 54 (by kernel_rfl) (by kernel_rfl)
   exact ⟨_,op_add ([40] ++ A) ([32]) W rfl ((eval_tmp a 54).trans v5) rfl (by simp;omega),rfl⟩
  | 7,ho =>
   obtain rfl:=Option.some.inj ho
   exact stepOk_val fun a W vs hW he hd=>⟨_,rfl,he 8 (by kernel_rfl)⟩
  | 8,ho =>
   obtain rfl:=Option.some.inj ho
   clear ho
   refine stepOk_val fun a W vs hW he hd=>?_
   have v7:a.tmps[56]?.getD undef=.int .i64 k:=dep_val hd 7 56 (by kernel_rfl) (by kernel_rfl)
   exact ⟨_,op_sub4 k W rfl ((eval_tmp a 56).trans v7) hw4,rfl⟩
  | 9,ho =>
   obtain rfl:=Option.some.inj ho
   clear ho
   refine stepOk_val fun a W vs hW he hd=>?_
   have v8:a.tmps[57]?.getD undef=.int .i64 (k - 4):=dep_val hd 8 57 (by kernel_rfl) (by kernel_rfl)
   exact ⟨_,op_sign k W rfl ((eval_tmp a 57).trans v8) HK.out,rfl⟩
  | 10,ho =>
   obtain rfl:=Option.some.inj ho
   clear ho
   refine stepOk_new fun a W vs hW he hd=>?_
   have v9:a.tmps[58]?.getD undef=.int .u8 ((signB k).toNat:Int):=dep_val hd 9 58 (by kernel_rfl) (by kernel_rfl)
   exact ⟨.slice (some ⟨W.heap.size,0,none⟩) 1 1,W.alloc (Obj.cells #[.int .u8 ((signB k).toNat:Int)] 5),by simp [execOp,go_sem,v9],hW.alloc hW.size _,⟨_,rfl,cell_top _ _ _ _ _ _ rfl rfl⟩,fun j x h=>negR_keep (below_new _ _) j x h⟩
  | 11,ho =>
   obtain rfl:=Option.some.inj ho
   clear ho
   refine stepOk_val fun a W vs hW he hd=>?_
   obtain ⟨g,v10,hg⟩:negR (.slice (some ⟨b,off,none⟩) F.length cap) w.heap.size xa xb k false (signB k) A B 10 (a.tmps[59]?.getD undef) W:=dep_val hd 10 59 (by kernel_rfl) (by kernel_rfl)
   have hcv:(convert 132 9 (.slice (some ⟨g,0,none⟩) 1 1)).run Tryz.prog W=.ok (.string ⟨#[signB k]⟩) W:=run_convert_bytes_back (P:=Tryz.prog) W 132 9 5 ⟨g,0,none⟩ 1 [signB k] (by kernel_rfl) (by kernel_rfl) (by kernel_rfl) (fun j hj=>by
    have:j=0:=by simpa using hj
    subst this
    exact hg)
   exact ⟨.string ⟨#[signB k]⟩,by simp [execOp,Act.eval,v10,hcv],rfl⟩
  | 12,ho =>
   obtain rfl:=Option.some.inj ho
   clear ho
   refine stepOk_val fun a W vs hW he hd=>?_
   have v6:a.tmps[55]?.getD undef=.string ⟨([40] ++ A ++ [32]).toArray⟩:=dep_val hd 6 55 (by kernel_rfl) (by kernel_rfl)
   have v11:a.tmps[60]?.getD undef=.string ⟨([signB k]).toArray⟩:=dep_val hd 11 60 (by kernel_rfl) (by kernel_rfl)
   exact ⟨_,op_add ([40] ++ A ++ [32]) ([signB k]) W rfl ((eval_tmp a 55).trans v6) ((eval_tmp a 60).trans v11) (by simp;omega),rfl⟩
  | 13,ho =>
   obtain rfl:=Option.some.inj ho
   clear ho
   refine stepOk_val fun a W vs hW he hd=>?_
   have v12:a.tmps[61]?.getD undef=.string ⟨([40] ++ A ++ [32] ++ [signB k]).toArray⟩:=dep_val hd 12 61 (by kernel_rfl) (by kernel_rfl)
   exact ⟨_,op_add ([40] ++ A ++ [32] ++ [signB k]) ([32]) W rfl ((eval_tmp a 61).trans v12) rfl (by simp;omega),rfl⟩
  | 14,ho =>
   obtain rfl:=Option.some.inj ho
   exact stepOk_val fun a W vs hW he hd=>⟨_,rfl,he 0 (by kernel_rfl)⟩
  | 15,ho =>
   obtain rfl:=Option.some.inj ho
   clear ho
   refine stepOk_val fun a W vs hW he hd=>?_
   have e7:a.tmps[7]?.getD undef=.pointer (some ⟨w.heap.size,0,none⟩):=free_val he 7 (by kernel_rfl)
   exact ⟨.pointer (some ⟨w.heap.size,2,none⟩),by simp [execOp,go_sem,e7],rfl⟩
  | 16,ho =>
   obtain rfl:=Option.some.inj ho
   clear ho
   refine stepOk_val fun a W vs hW he hd=>?_
   have v15:a.tmps[64]?.getD undef=.pointer (some ⟨w.heap.size,2,none⟩):=dep_val hd 15 64 (by kernel_rfl) (by kernel_rfl)
   have c2:=cell_keep n2 hW
   exact ⟨.int .i64 xb,by simp [execOp,go_sem,v15,c2],rfl⟩
  | 17,ho =>
   obtain rfl:=Option.some.inj ho
   exact stepOk_val fun a W vs hW he hd=>⟨_,rfl,he 2 (by kernel_rfl)⟩
  | 18,ho =>
   obtain rfl:=Option.some.inj ho
   clear ho
   refine stepOk_call fun a W vs hW he hd=>?_
   have v14:a.tmps[63]?.getD undef=.slice (some ⟨b,off,none⟩) F.length cap:=dep_val hd 14 63 (by kernel_rfl) (by kernel_rfl)
   have v16:a.tmps[65]?.getD undef=.int .i64 xb:=dep_val hd 16 65 (by kernel_rfl) (by kernel_rfl)
   have v17:a.tmps[66]?.getD undef=.bool false:=dep_val hd 17 66 (by kernel_rfl) (by kernel_rfl)
   refine ⟨86,#[.slice (some ⟨b,off,none⟩) F.length cap,.int .i64 xb,.bool false],by simp [execOp,go_sem,v14,v16,v17],(HJ.out W (below_trans HB1.out hW)).mono ?_⟩
   rintro e W' ⟨rfl,hb⟩
   exact ⟨_,rfl,below_trans hW hb,rfl,fun j x h=>negR_keep hb j x h⟩
  | 19,ho =>
   obtain rfl:=Option.some.inj ho
   clear ho
   refine stepOk_val fun a W vs hW he hd=>?_
   have v13:a.tmps[62]?.getD undef=.string ⟨([40] ++ A ++ [32] ++ [signB k] ++ [32]).toArray⟩:=dep_val hd 13 62 (by kernel_rfl) (by kernel_rfl)
   have v18:a.tmps[67]?.getD undef=.string ⟨(B).toArray⟩:=dep_val hd 18 67 (by kernel_rfl) (by kernel_rfl)
   exact ⟨_,op_add ([40] ++ A ++ [32] ++ [signB k] ++ [32]) (B) W rfl ((eval_tmp a 62).trans v13) ((eval_tmp a 67).trans v18) (by simp;omega),rfl⟩
  | 20,ho =>
   obtain rfl:=Option.some.inj ho
   clear ho
   refine stepOk_val fun a W vs hW he hd=>?_
   have v19:a.tmps[68]?.getD undef=.string ⟨([40] ++ A ++ [32] ++ [signB k] ++ [32] ++ B).toArray⟩:=dep_val hd 19 68 (by kernel_rfl) (by kernel_rfl)
   exact ⟨_,op_add ([40] ++ A ++ [32] ++ [signB k] ++ [32] ++ B) ([41]) W rfl ((eval_tmp a 68).trans v19) rfl (by simp;omega),rfl⟩
  | 21,ho =>
   obtain rfl:=Option.some.inj ho
   clear ho
   refine stepOk_val fun a W vs hW he hd=>?_
   have v20:=dep_val hd 20 69 (by kernel_rfl) (by kernel_rfl)
   exact ⟨_,rfl,(eval_tmp a 69).trans v20⟩
  | j+22,ho=>simp at ho
 ·intro vs W hW hR
  have h21:=hR 21 (by decide)
  refine hK _ _ ?_
  go_wp2_with (fail)
  go_ret
  refine ⟨congrArg Ending.returned (Eq.trans (b:=vs 21) (by kernel_rfl) ?_),below_trans HB1.out hW⟩
  rw [show vs 21=_ from h21]
  simp
theorem neg_two_opp4 {F:List Nd} (hF:AllOk F) (h12:F.length≤12) (i:Nat) (hi:i < F.length) (hk:(F.getD i nd0).k=4) (iha:NegOk F (F.getD i nd0).a.toNat true) (ihb:NegOk F (F.getD i nd0).b.toNat true):NegOk F i true:=by
 intro w v hv
 rw [nt_eq hF i hi]
 obtain ⟨-,⟨a0,a1,-⟩,⟨b0,b1,-⟩,-⟩:=node_ok (hF i hi)
 have a2:=a1 (by omega)
 have b2:=b1 (by omega)
 have HV:=hide hv
 obtain ⟨a,cap,rfl,hm,hc,-⟩:=hv
 unfold maxLen at hm
 rcases hc with hc | ⟨b,off,rfl,hc⟩
 ·subst hc;simp at hi
 obtain ⟨c0,c1,c2,c3⟩:=hc i hi
 generalize hx:F.getD i nd0=x at *
 clear hc hx
 obtain ⟨k,xa,xb,xn⟩:=x
 dsimp only at *
 have e:ntS ⟨k,xa,xb,xn⟩ (nt F) true=[40] ++ nt F xa.toNat true ++ [32] ++ [signB 5] ++ [32] ++ nt F xb.toNat true ++ [41]:=by
  unfold ntS
  rw [if_neg (by dsimp only;omega),if_neg (by dsimp only;omega),if_neg (by dsimp only;omega)]
  rw [hk]
  simp [oppK]
 rw [e]
 have exa:((xa.toNat:Nat):Int)=xa:=by omega
 have exb:((xb.toNat:Nat):Int)=xb:=by omega
 have HI:Hid (∀ W,Below w.heap.size w W→Calls Tryz.prog 86 #[.slice (some ⟨b,off,none⟩) F.length cap,.int .i64 xa,.bool true] W fun e w'=>e=.returned (.string ⟨(nt F xa.toNat true).toArray⟩)∧Below W.heap.size W w'):=hide fun W hb=>by
  have:=iha W _ (HV.out.below hb)
  rw [exa] at this
  exact this
 have HJ:Hid (∀ W,Below w.heap.size w W→Calls Tryz.prog 86 #[.slice (some ⟨b,off,none⟩) F.length cap,.int .i64 xb,.bool true] W fun e w'=>e=.returned (.string ⟨(nt F xb.toNat true).toArray⟩)∧Below W.heap.size W w'):=hide fun W hb=>by
  have:=ihb W _ (HV.out.below hb)
  rw [exb] at this
  exact this
 have HK:=hide hk
 have hlA:=nt_len hF xa.toNat (by omega) true
 have hpA:2 ^ (xa.toNat)≤2 ^ 12:=Nat.pow_le_pow_right (by decide) (by omega)
 have hlB:=nt_len hF xb.toNat (by omega) true
 have hpB:2 ^ (xb.toNat)≤2 ^ 12:=Nat.pow_le_pow_right (by decide) (by omega)
 have hAl:(nt F xa.toNat true).length≤100000:=by omega
 have hBl:(nt F xb.toNat true).length≤100000:=by omega
 clear hlA hpA hlB hpB
 clear iha ihb exa exb e a0 a1 a2 b0 b1 b2
 generalize nt F xa.toNat true=A at *
 generalize nt F xb.toNat true=B at *
 subst hk
 clear HK
 go_enter Tryz.func86,Tryz.ntmps86
 go_wp2_with (fail)
 rename_i Q' K hK
 obtain ⟨w1,hw1⟩:∃ w1,w1=(w.alloc (Obj.cells #[.int .i64 4,.int .i64 xa,.int .i64 xb,.int .i64 xn] 55)).alloc (Obj.cells #[.int .i64 0,.int .i64 0,.int .i64 0,.int .i64 0,.int .i64 5,.int .i64 4,.int .i64 0,.int .i64 8,.int .i64 7] 3):=⟨_,rfl⟩
 rw [← hw1]
 have n1:w1.cell? ⟨w.heap.size,1,none⟩=some (.int .i64 xa):=by rw [hw1];exact cell_under _ _ (cell_top _ _ _ _ _ _ rfl rfl)
 have n2:w1.cell? ⟨w.heap.size,2,none⟩=some (.int .i64 xb):=by rw [hw1];exact cell_under _ _ (cell_top _ _ _ _ _ _ rfl rfl)
 have HB1:=hide (show Below w.heap.size w w1 by rw [hw1];exact (by repeat (first | exact Below.refl _ _ | assumption | refine below_drewN ?_ _ | refine Below.drew ?_ | refine Below.alloc ?_ (by simp <;> omega) _ | refine below_trans ?_ (by assumption))))
 clear hw1 c0 c1 c2 c3
 refine wp_region_amid (fun W=>Below w1.heap.size w1 W) (negR (.slice (some ⟨b,off,none⟩) F.length cap) w.heap.size xa xb 5 true (signB 5) A B) (by kernel_rfl) (by kernel_rfl) (Below.drew (Below.refl _ _)) ?_ ?_
 ·intro j o ho
  match j,ho with
  | 0,ho =>
   obtain rfl:=Option.some.inj ho
   exact stepOk_val fun a W vs hW he hd=>⟨_,rfl,he 0 (by kernel_rfl)⟩
  | 1,ho =>
   obtain rfl:=Option.some.inj ho
   clear ho
   refine stepOk_val fun a W vs hW he hd=>?_
   have e7:a.tmps[7]?.getD undef=.pointer (some ⟨w.heap.size,0,none⟩):=free_val he 7 (by kernel_rfl)
   exact ⟨.pointer (some ⟨w.heap.size,1,none⟩),by simp [execOp,go_sem,e7],rfl⟩
  | 2,ho =>
   obtain rfl:=Option.some.inj ho
   clear ho
   refine stepOk_val fun a W vs hW he hd=>?_
   have v1:a.tmps[50]?.getD undef=.pointer (some ⟨w.heap.size,1,none⟩):=dep_val hd 1 50 (by kernel_rfl) (by kernel_rfl)
   have c1:=cell_keep n1 hW
   exact ⟨.int .i64 xa,by simp [execOp,go_sem,v1,c1],rfl⟩
  | 3,ho =>
   obtain rfl:=Option.some.inj ho
   exact stepOk_val fun a W vs hW he hd=>⟨_,rfl,he 2 (by kernel_rfl)⟩
  | 4,ho =>
   obtain rfl:=Option.some.inj ho
   clear ho
   refine stepOk_call fun a W vs hW he hd=>?_
   have v0:a.tmps[49]?.getD undef=.slice (some ⟨b,off,none⟩) F.length cap:=dep_val hd 0 49 (by kernel_rfl) (by kernel_rfl)
   have v2:a.tmps[51]?.getD undef=.int .i64 xa:=dep_val hd 2 51 (by kernel_rfl) (by kernel_rfl)
   have v3:a.tmps[52]?.getD undef=.bool true:=dep_val hd 3 52 (by kernel_rfl) (by kernel_rfl)
   refine ⟨86,#[.slice (some ⟨b,off,none⟩) F.length cap,.int .i64 xa,.bool true],by simp [execOp,go_sem,v0,v2,v3],(HI.out W (below_trans HB1.out hW)).mono ?_⟩
   rintro e W' ⟨rfl,hb⟩
   exact ⟨_,rfl,below_trans hW hb,rfl,fun j x h=>negR_keep hb j x h⟩
  | 5,ho =>
   obtain rfl:=Option.some.inj ho
   clear ho
   refine stepOk_val fun a W vs hW he hd=>?_
   have v4:a.tmps[53]?.getD undef=.string ⟨(A).toArray⟩:=dep_val hd 4 53 (by kernel_rfl) (by kernel_rfl)
   exact ⟨_,op_add ([40]) (A) W rfl rfl ((eval_tmp a 53).trans v4) (by simp;omega),rfl⟩
  | 6,ho =>
   obtain rfl:=Option.some.inj ho
   clear ho
   refine stepOk_val fun a W vs hW he hd=>?_
   have v5:a.tmps[54]?.getD undef=.string ⟨([40] ++ A).toArray⟩:=dep_val hd 5 54 (by kernel_rfl) (by kernel_rfl)
   exact ⟨_,op_add ([40] ++ A) ([32]) W rfl ((eval_tmp a 54).trans v5) rfl (by simp;omega),rfl⟩
  | 7,ho =>
   obtain rfl:=Option.some.inj ho
   exact stepOk_val fun a W vs hW he hd=>⟨_,rfl,he 8 (by kernel_rfl)⟩
  | 8,ho =>
   obtain rfl:=Option.some.inj ho
   clear ho
   refine stepOk_val fun a W vs hW he hd=>?_
   have v7:a.tmps[56]?.getD undef=.int .i64 5:=dep_val hd 7 56 (by kernel_rfl) (by kernel_rfl)
   exact ⟨_,op_sub4 5 W rfl ((eval_tmp a 56).trans v7) rfl,rfl⟩
  | 9,ho =>
   obtain rfl:=Option.some.inj ho
   clear ho
   refine stepOk_val fun a W vs hW he hd=>?_
   have v8:a.tmps[57]?.getD undef=.int .i64 (5 - 4):=dep_val hd 8 57 (by kernel_rfl) (by kernel_rfl)
   exact ⟨_,op_sign 5 W rfl ((eval_tmp a 57).trans v8) (by decide),rfl⟩
  | 10,ho =>
   obtain rfl:=Option.some.inj ho
   clear ho
   refine stepOk_new fun a W vs hW he hd=>?_
   have v9:a.tmps[58]?.getD undef=.int .u8 ((signB 5).toNat:Int):=dep_val hd 9 58 (by kernel_rfl) (by kernel_rfl)
   exact ⟨.slice (some ⟨W.heap.size,0,none⟩) 1 1,W.alloc (Obj.cells #[.int .u8 ((signB 5).toNat:Int)] 5),by simp [execOp,go_sem,v9],hW.alloc hW.size _,⟨_,rfl,cell_top _ _ _ _ _ _ rfl rfl⟩,fun j x h=>negR_keep (below_new _ _) j x h⟩
  | 11,ho =>
   obtain rfl:=Option.some.inj ho
   clear ho
   refine stepOk_val fun a W vs hW he hd=>?_
   obtain ⟨g,v10,hg⟩:negR (.slice (some ⟨b,off,none⟩) F.length cap) w.heap.size xa xb 5 true (signB 5) A B 10 (a.tmps[59]?.getD undef) W:=dep_val hd 10 59 (by kernel_rfl) (by kernel_rfl)
   have hcv:(convert 132 9 (.slice (some ⟨g,0,none⟩) 1 1)).run Tryz.prog W=.ok (.string ⟨#[signB 5]⟩) W:=run_convert_bytes_back (P:=Tryz.prog) W 132 9 5 ⟨g,0,none⟩ 1 [signB 5] (by kernel_rfl) (by kernel_rfl) (by kernel_rfl) (fun j hj=>by
    have:j=0:=by simpa using hj
    subst this
    exact hg)
   exact ⟨.string ⟨#[signB 5]⟩,by simp [execOp,Act.eval,v10,hcv],rfl⟩
  | 12,ho =>
   obtain rfl:=Option.some.inj ho
   clear ho
   refine stepOk_val fun a W vs hW he hd=>?_
   have v6:a.tmps[55]?.getD undef=.string ⟨([40] ++ A ++ [32]).toArray⟩:=dep_val hd 6 55 (by kernel_rfl) (by kernel_rfl)
   have v11:a.tmps[60]?.getD undef=.string ⟨([signB 5]).toArray⟩:=dep_val hd 11 60 (by kernel_rfl) (by kernel_rfl)
   exact ⟨_,op_add ([40] ++ A ++ [32]) ([signB 5]) W rfl ((eval_tmp a 55).trans v6) ((eval_tmp a 60).trans v11) (by simp;omega),rfl⟩
  | 13,ho =>
   obtain rfl:=Option.some.inj ho
   clear ho
   refine stepOk_val fun a W vs hW he hd=>?_
   have v12:a.tmps[61]?.getD undef=.string ⟨([40] ++ A ++ [32] ++ [signB 5]).toArray⟩:=dep_val hd 12 61 (by kernel_rfl) (by kernel_rfl)
   exact ⟨_,op_add ([40] ++ A ++ [32] ++ [signB 5]) ([32]) W rfl ((eval_tmp a 61).trans v12) rfl (by simp;omega),rfl⟩
  | 14,ho =>
   obtain rfl:=Option.some.inj ho
   exact stepOk_val fun a W vs hW he hd=>⟨_,rfl,he 0 (by kernel_rfl)⟩
  | 15,ho =>
   obtain rfl:=Option.some.inj ho
   clear ho
   refine stepOk_val fun a W vs hW he hd=>?_
   have e7:a.tmps[7]?.getD undef=.pointer (some ⟨w.heap.size,0,none⟩):=free_val he 7 (by kernel_rfl)
   exact ⟨.pointer (some ⟨w.heap.size,2,none⟩),by simp [execOp,go_sem,e7],rfl⟩
  | 16,ho =>
   obtain rfl:=Option.some.inj ho
   clear ho
   refine stepOk_val fun a W vs hW he hd=>?_
   have v15:a.tmps[64]?.getD undef=.pointer (some ⟨w.heap.size,2,none⟩):=dep_val hd 15 64 (by kernel_rfl) (by kernel_rfl)
   have c2:=cell_keep n2 hW
   exact ⟨.int .i64 xb,by simp [execOp,go_sem,v15,c2],rfl⟩
  | 17,ho =>
   obtain rfl:=Option.some.inj ho
   exact stepOk_val fun a W vs hW he hd=>⟨_,rfl,he 2 (by kernel_rfl)⟩
  | 18,ho =>
   obtain rfl:=Option.some.inj ho
   clear ho
   refine stepOk_call fun a W vs hW he hd=>?_
   have v14:a.tmps[63]?.getD undef=.slice (some ⟨b,off,none⟩) F.length cap:=dep_val hd 14 63 (by kernel_rfl) (by kernel_rfl)
   have v16:a.tmps[65]?.getD undef=.int .i64 xb:=dep_val hd 16 65 (by kernel_rfl) (by kernel_rfl)
   have v17:a.tmps[66]?.getD undef=.bool true:=dep_val hd 17 66 (by kernel_rfl) (by kernel_rfl)
   refine ⟨86,#[.slice (some ⟨b,off,none⟩) F.length cap,.int .i64 xb,.bool true],by simp [execOp,go_sem,v14,v16,v17],(HJ.out W (below_trans HB1.out hW)).mono ?_⟩
   rintro e W' ⟨rfl,hb⟩
   exact ⟨_,rfl,below_trans hW hb,rfl,fun j x h=>negR_keep hb j x h⟩
  | 19,ho =>
   obtain rfl:=Option.some.inj ho
   clear ho
   refine stepOk_val fun a W vs hW he hd=>?_
   have v13:a.tmps[62]?.getD undef=.string ⟨([40] ++ A ++ [32] ++ [signB 5] ++ [32]).toArray⟩:=dep_val hd 13 62 (by kernel_rfl) (by kernel_rfl)
   have v18:a.tmps[67]?.getD undef=.string ⟨(B).toArray⟩:=dep_val hd 18 67 (by kernel_rfl) (by kernel_rfl)
   exact ⟨_,op_add ([40] ++ A ++ [32] ++ [signB 5] ++ [32]) (B) W rfl ((eval_tmp a 62).trans v13) ((eval_tmp a 67).trans v18) (by simp;omega),rfl⟩
  | 20,ho =>
   obtain rfl:=Option.some.inj ho
   clear ho
   refine stepOk_val fun a W vs hW he hd=>?_
   have v19:a.tmps[68]?.getD undef=.string ⟨([40] ++ A ++ [32] ++ [signB 5] ++ [32] ++ B).toArray⟩:=dep_val hd 19 68 (by kernel_rfl) (by kernel_rfl)
   exact ⟨_,op_add ([40] ++ A ++ [32] ++ [signB 5] ++ [32] ++ B) ([41]) W rfl ((eval_tmp a 68).trans v19) rfl (by simp;omega),rfl⟩
  | 21,ho =>
   obtain rfl:=Option.some.inj ho
   clear ho
   refine stepOk_val fun a W vs hW he hd=>?_
   have v20:=dep_val hd 20 69 (by kernel_rfl) (by kernel_rfl)
   exact ⟨_,rfl,(eval_tmp a 69).trans v20⟩
  | j+22,ho=>simp at ho
 ·intro vs W hW hR
  have h21:=hR 21 (by decide)
  refine hK _ _ ?_
  go_wp2_with (fail)
  go_ret
  refine ⟨congrArg Ending.returned (Eq.trans (b:=vs 21) (by kernel_rfl) ?_),below_trans HB1.out hW⟩
  rw [show vs 21=_ from h21]
  simp
theorem neg_two_opp5 {F:List Nd} (hF:AllOk F) (h12:F.length≤12) (i:Nat) (hi:i < F.length) (hk:(F.getD i nd0).k=5) (iha:NegOk F (F.getD i nd0).a.toNat true) (ihb:NegOk F (F.getD i nd0).b.toNat true):NegOk F i true:=by
 intro w v hv
 rw [nt_eq hF i hi]
 obtain ⟨-,⟨a0,a1,-⟩,⟨b0,b1,-⟩,-⟩:=node_ok (hF i hi)
 have a2:=a1 (by omega)
 have b2:=b1 (by omega)
 have HV:=hide hv
 obtain ⟨a,cap,rfl,hm,hc,-⟩:=hv
 unfold maxLen at hm
 rcases hc with hc | ⟨b,off,rfl,hc⟩
 ·subst hc;simp at hi
 obtain ⟨c0,c1,c2,c3⟩:=hc i hi
 generalize hx:F.getD i nd0=x at *
 clear hc hx
 obtain ⟨k,xa,xb,xn⟩:=x
 dsimp only at *
 have e:ntS ⟨k,xa,xb,xn⟩ (nt F) true=[40] ++ nt F xa.toNat true ++ [32] ++ [signB 4] ++ [32] ++ nt F xb.toNat true ++ [41]:=by
  unfold ntS
  rw [if_neg (by dsimp only;omega),if_neg (by dsimp only;omega),if_neg (by dsimp only;omega)]
  rw [hk]
  simp [oppK]
 rw [e]
 have exa:((xa.toNat:Nat):Int)=xa:=by omega
 have exb:((xb.toNat:Nat):Int)=xb:=by omega
 have HI:Hid (∀ W,Below w.heap.size w W→Calls Tryz.prog 86 #[.slice (some ⟨b,off,none⟩) F.length cap,.int .i64 xa,.bool true] W fun e w'=>e=.returned (.string ⟨(nt F xa.toNat true).toArray⟩)∧Below W.heap.size W w'):=hide fun W hb=>by
  have:=iha W _ (HV.out.below hb)
  rw [exa] at this
  exact this
 have HJ:Hid (∀ W,Below w.heap.size w W→Calls Tryz.prog 86 #[.slice (some ⟨b,off,none⟩) F.length cap,.int .i64 xb,.bool true] W fun e w'=>e=.returned (.string ⟨(nt F xb.toNat true).toArray⟩)∧Below W.heap.size W w'):=hide fun W hb=>by
  have:=ihb W _ (HV.out.below hb)
  rw [exb] at this
  exact this
 have HK:=hide hk
 have hlA:=nt_len hF xa.toNat (by omega) true
 have hpA:2 ^ (xa.toNat)≤2 ^ 12:=Nat.pow_le_pow_right (by decide) (by omega)
 have hlB:=nt_len hF xb.toNat (by omega) true
 have hpB:2 ^ (xb.toNat)≤2 ^ 12:=Nat.pow_le_pow_right (by decide) (by omega)
 have hAl:(nt F xa.toNat true).length≤100000:=by omega
 have hBl:(nt F xb.toNat true).length≤100000:=by omega
 clear hlA hpA hlB hpB
 clear iha ihb exa exb e a0 a1 a2 b0 b1 b2
 generalize nt F xa.toNat true=A at *
 generalize nt F xb.toNat true=B at *
 subst hk
 clear HK
 go_enter Tryz.func86,Tryz.ntmps86
 go_wp2_with (fail)
 rename_i Q' K hK
 obtain ⟨w1,hw1⟩:∃ w1,w1=(w.alloc (Obj.cells #[.int .i64 5,.int .i64 xa,.int .i64 xb,.int .i64 xn] 55)).alloc (Obj.cells #[.int .i64 0,.int .i64 0,.int .i64 0,.int .i64 0,.int .i64 5,.int .i64 4,.int .i64 0,.int .i64 8,.int .i64 7] 3):=⟨_,rfl⟩
 rw [← hw1]
 have n1:w1.cell? ⟨w.heap.size,1,none⟩=some (.int .i64 xa):=by rw [hw1];exact cell_under _ _ (cell_top _ _ _ _ _ _ rfl rfl)
 have n2:w1.cell? ⟨w.heap.size,2,none⟩=some (.int .i64 xb):=by rw [hw1];exact cell_under _ _ (cell_top _ _ _ _ _ _ rfl rfl)
 have HB1:=hide (show Below w.heap.size w w1 by rw [hw1];exact (by repeat (first | exact Below.refl _ _ | assumption | refine below_drewN ?_ _ | refine Below.drew ?_ | refine Below.alloc ?_ (by simp <;> omega) _ | refine below_trans ?_ (by assumption))))
 clear hw1 c0 c1 c2 c3
 refine wp_region_amid (fun W=>Below w1.heap.size w1 W) (negR (.slice (some ⟨b,off,none⟩) F.length cap) w.heap.size xa xb 4 true (signB 4) A B) (by kernel_rfl) (by kernel_rfl) (Below.drew (Below.refl _ _)) ?_ ?_
 ·intro j o ho
  match j,ho with
  | 0,ho =>
   obtain rfl:=Option.some.inj ho
   exact stepOk_val fun a W vs hW he hd=>⟨_,rfl,he 0 (by kernel_rfl)⟩
  | 1,ho =>
   obtain rfl:=Option.some.inj ho
   clear ho
   refine stepOk_val fun a W vs hW he hd=>?_
   have e7:a.tmps[7]?.getD undef=.pointer (some ⟨w.heap.size,0,none⟩):=free_val he 7 (by kernel_rfl)
   exact ⟨.pointer (some ⟨w.heap.size,1,none⟩),by simp [execOp,go_sem,e7],rfl⟩
  | 2,ho =>
   obtain rfl:=Option.some.inj ho
   clear ho
   refine stepOk_val fun a W vs hW he hd=>?_
   have v1:a.tmps[50]?.getD undef=.pointer (some ⟨w.heap.size,1,none⟩):=dep_val hd 1 50 (by kernel_rfl) (by kernel_rfl)
   have c1:=cell_keep n1 hW
   exact ⟨.int .i64 xa,by simp [execOp,go_sem,v1,c1],rfl⟩
  | 3,ho =>
   obtain rfl:=Option.some.inj ho
   exact stepOk_val fun a W vs hW he hd=>⟨_,rfl,he 2 (by kernel_rfl)⟩
  | 4,ho =>
   obtain rfl:=Option.some.inj ho
   clear ho
   refine stepOk_call fun a W vs hW he hd=>?_
   have v0:a.tmps[49]?.getD undef=.slice (some ⟨b,off,none⟩) F.length cap:=dep_val hd 0 49 (by kernel_rfl) (by kernel_rfl)
   have v2:a.tmps[51]?.getD undef=.int .i64 xa:=dep_val hd 2 51 (by kernel_rfl) (by kernel_rfl)
   have v3:a.tmps[52]?.getD undef=.bool true:=dep_val hd 3 52 (by kernel_rfl) (by kernel_rfl)
   refine ⟨86,#[.slice (some ⟨b,off,none⟩) F.length cap,.int .i64 xa,.bool true],by simp [execOp,go_sem,v0,v2,v3],(HI.out W (below_trans HB1.out hW)).mono ?_⟩
   rintro e W' ⟨rfl,hb⟩
   exact ⟨_,rfl,below_trans hW hb,rfl,fun j x h=>negR_keep hb j x h⟩
  | 5,ho =>
   obtain rfl:=Option.some.inj ho
   clear ho
   refine stepOk_val fun a W vs hW he hd=>?_
   have v4:a.tmps[53]?.getD undef=.string ⟨(A).toArray⟩:=dep_val hd 4 53 (by kernel_rfl) (by kernel_rfl)
   exact ⟨_,op_add ([40]) (A) W rfl rfl ((eval_tmp a 53).trans v4) (by simp;omega),rfl⟩
  | 6,ho =>
   obtain rfl:=Option.some.inj ho
   clear ho
   refine stepOk_val fun a W vs hW he hd=>?_
   have v5:a.tmps[54]?.getD undef=.string ⟨([40] ++ A).toArray⟩:=dep_val hd 5 54 (by kernel_rfl) (by kernel_rfl)
   exact ⟨_,op_add ([40] ++ A) ([32]) W rfl ((eval_tmp a 54).trans v5) rfl (by simp;omega),rfl⟩
  | 7,ho =>
   obtain rfl:=Option.some.inj ho
   exact stepOk_val fun a W vs hW he hd=>⟨_,rfl,he 8 (by kernel_rfl)⟩
  | 8,ho =>
   obtain rfl:=Option.some.inj ho
   clear ho
   refine stepOk_val fun a W vs hW he hd=>?_
   have v7:a.tmps[56]?.getD undef=.int .i64 4:=dep_val hd 7 56 (by kernel_rfl) (by kernel_rfl)
   exact ⟨_,op_sub4 4 W rfl ((eval_tmp a 56).trans v7) rfl,rfl⟩
  | 9,ho =>
   obtain rfl:=Option.some.inj ho
   clear ho
   refine stepOk_val fun a W vs hW he hd=>?_
   have v8:a.tmps[57]?.getD undef=.int .i64 (4 - 4):=dep_val hd 8 57 (by kernel_rfl) (by kernel_rfl)
   exact ⟨_,op_sign 4 W rfl ((eval_tmp a 57).trans v8) (by decide),rfl⟩
  | 10,ho =>
   obtain rfl:=Option.some.inj ho
   clear ho
   refine stepOk_new fun a W vs hW he hd=>?_
   have v9:a.tmps[58]?.getD undef=.int .u8 ((signB 4).toNat:Int):=dep_val hd 9 58 (by kernel_rfl) (by kernel_rfl)
   exact ⟨.slice (some ⟨W.heap.size,0,none⟩) 1 1,W.alloc (Obj.cells #[.int .u8 ((signB 4).toNat:Int)] 5),by simp [execOp,go_sem,v9],hW.alloc hW.size _,⟨_,rfl,cell_top _ _ _ _ _ _ rfl rfl⟩,fun j x h=>negR_keep (below_new _ _) j x h⟩
  | 11,ho =>
   obtain rfl:=Option.some.inj ho
   clear ho
   refine stepOk_val fun a W vs hW he hd=>?_
   obtain ⟨g,v10,hg⟩:negR (.slice (some ⟨b,off,none⟩) F.length cap) w.heap.size xa xb 4 true (signB 4) A B 10 (a.tmps[59]?.getD undef) W:=dep_val hd 10 59 (by kernel_rfl) (by kernel_rfl)
   have hcv:(convert 132 9 (.slice (some ⟨g,0,none⟩) 1 1)).run Tryz.prog W=.ok (.string ⟨#[signB 4]⟩) W:=run_convert_bytes_back (P:=Tryz.prog) W 132 9 5 ⟨g,0,none⟩ 1 [signB 4] (by kernel_rfl) (by kernel_rfl) (by kernel_rfl) (fun j hj=>by
    have:j=0:=by simpa using hj
    subst this
    exact hg)
   exact ⟨.string ⟨#[signB 4]⟩,by simp [execOp,Act.eval,v10,hcv],rfl⟩
  | 12,ho =>
   obtain rfl:=Option.some.inj ho
   clear ho
   refine stepOk_val fun a W vs hW he hd=>?_
   have v6:a.tmps[55]?.getD undef=.string ⟨([40] ++ A ++ [32]).toArray⟩:=dep_val hd 6 55 (by kernel_rfl) (by kernel_rfl)
   have v11:a.tmps[60]?.getD undef=.string ⟨([signB 4]).toArray⟩:=dep_val hd 11 60 (by kernel_rfl) (by kernel_rfl)
   exact ⟨_,op_add ([40] ++ A ++ [32]) ([signB 4]) W rfl ((eval_tmp a 55).trans v6) ((eval_tmp a 60).trans v11) (by simp;omega),rfl⟩
  | 13,ho =>
   obtain rfl:=Option.some.inj ho
   clear ho
   refine stepOk_val fun a W vs hW he hd=>?_
   have v12:a.tmps[61]?.getD undef=.string ⟨([40] ++ A ++ [32] ++ [signB 4]).toArray⟩:=dep_val hd 12 61 (by kernel_rfl) (by kernel_rfl)
   exact ⟨_,op_add ([40] ++ A ++ [32] ++ [signB 4]) ([32]) W rfl ((eval_tmp a 61).trans v12) rfl (by simp;omega),rfl⟩
  | 14,ho =>
   obtain rfl:=Option.some.inj ho
   exact stepOk_val fun a W vs hW he hd=>⟨_,rfl,he 0 (by kernel_rfl)⟩
  | 15,ho =>
   obtain rfl:=Option.some.inj ho
   clear ho
   refine stepOk_val fun a W vs hW he hd=>?_
   have e7:a.tmps[7]?.getD undef=.pointer (some ⟨w.heap.size,0,none⟩):=free_val he 7 (by kernel_rfl)
   exact ⟨.pointer (some ⟨w.heap.size,2,none⟩),by simp [execOp,go_sem,e7],rfl⟩
  | 16,ho =>
   obtain rfl:=Option.some.inj ho
   clear ho
   refine stepOk_val fun a W vs hW he hd=>?_
   have v15:a.tmps[64]?.getD undef=.pointer (some ⟨w.heap.size,2,none⟩):=dep_val hd 15 64 (by kernel_rfl) (by kernel_rfl)
   have c2:=cell_keep n2 hW
   exact ⟨.int .i64 xb,by simp [execOp,go_sem,v15,c2],rfl⟩
  | 17,ho =>
   obtain rfl:=Option.some.inj ho
   exact stepOk_val fun a W vs hW he hd=>⟨_,rfl,he 2 (by kernel_rfl)⟩
  | 18,ho =>
   obtain rfl:=Option.some.inj ho
   clear ho
   refine stepOk_call fun a W vs hW he hd=>?_
   have v14:a.tmps[63]?.getD undef=.slice (some ⟨b,off,none⟩) F.length cap:=dep_val hd 14 63 (by kernel_rfl) (by kernel_rfl)
   have v16:a.tmps[65]?.getD undef=.int .i64 xb:=dep_val hd 16 65 (by kernel_rfl) (by kernel_rfl)
   have v17:a.tmps[66]?.getD undef=.bool true:=dep_val hd 17 66 (by kernel_rfl) (by kernel_rfl)
   refine ⟨86,#[.slice (some ⟨b,off,none⟩) F.length cap,.int .i64 xb,.bool true],by simp [execOp,go_sem,v14,v16,v17],(HJ.out W (below_trans HB1.out hW)).mono ?_⟩
   rintro e W' ⟨rfl,hb⟩
   exact ⟨_,rfl,below_trans hW hb,rfl,fun j x h=>negR_keep hb j x h⟩
  | 19,ho =>
   obtain rfl:=Option.some.inj ho
   clear ho
   refine stepOk_val fun a W vs hW he hd=>?_
   have v13:a.tmps[62]?.getD undef=.string ⟨([40] ++ A ++ [32] ++ [signB 4] ++ [32]).toArray⟩:=dep_val hd 13 62 (by kernel_rfl) (by kernel_rfl)
   have v18:a.tmps[67]?.getD undef=.string ⟨(B).toArray⟩:=dep_val hd 18 67 (by kernel_rfl) (by kernel_rfl)
   exact ⟨_,op_add ([40] ++ A ++ [32] ++ [signB 4] ++ [32]) (B) W rfl ((eval_tmp a 62).trans v13) ((eval_tmp a 67).trans v18) (by simp;omega),rfl⟩
  | 20,ho =>
   obtain rfl:=Option.some.inj ho
   clear ho
   refine stepOk_val fun a W vs hW he hd=>?_
   have v19:a.tmps[68]?.getD undef=.string ⟨([40] ++ A ++ [32] ++ [signB 4] ++ [32] ++ B).toArray⟩:=dep_val hd 19 68 (by kernel_rfl) (by kernel_rfl)
   exact ⟨_,op_add ([40] ++ A ++ [32] ++ [signB 4] ++ [32] ++ B) ([41]) W rfl ((eval_tmp a 68).trans v19) rfl (by simp;omega),rfl⟩
  | 21,ho =>
   obtain rfl:=Option.some.inj ho
   clear ho
   refine stepOk_val fun a W vs hW he hd=>?_
   have v20:=dep_val hd 20 69 (by kernel_rfl) (by kernel_rfl)
   exact ⟨_,rfl,(eval_tmp a 69).trans v20⟩
  | j+22,ho=>simp at ho
 ·intro vs W hW hR
  have h21:=hR 21 (by decide)
  refine hK _ _ ?_
  go_wp2_with (fail)
  go_ret
  refine ⟨congrArg Ending.returned (Eq.trans (b:=vs 21) (by kernel_rfl) ?_),below_trans HB1.out hW⟩
  rw [show vs 21=_ from h21]
  simp
theorem neg_two_opp7 {F:List Nd} (hF:AllOk F) (h12:F.length≤12) (i:Nat) (hi:i < F.length) (hk:(F.getD i nd0).k=7) (iha:NegOk F (F.getD i nd0).a.toNat true) (ihb:NegOk F (F.getD i nd0).b.toNat true):NegOk F i true:=by
 intro w v hv
 rw [nt_eq hF i hi]
 obtain ⟨-,⟨a0,a1,-⟩,⟨b0,b1,-⟩,-⟩:=node_ok (hF i hi)
 have a2:=a1 (by omega)
 have b2:=b1 (by omega)
 have HV:=hide hv
 obtain ⟨a,cap,rfl,hm,hc,-⟩:=hv
 unfold maxLen at hm
 rcases hc with hc | ⟨b,off,rfl,hc⟩
 ·subst hc;simp at hi
 obtain ⟨c0,c1,c2,c3⟩:=hc i hi
 generalize hx:F.getD i nd0=x at *
 clear hc hx
 obtain ⟨k,xa,xb,xn⟩:=x
 dsimp only at *
 have e:ntS ⟨k,xa,xb,xn⟩ (nt F) true=[40] ++ nt F xa.toNat true ++ [32] ++ [signB 8] ++ [32] ++ nt F xb.toNat true ++ [41]:=by
  unfold ntS
  rw [if_neg (by dsimp only;omega),if_neg (by dsimp only;omega),if_neg (by dsimp only;omega)]
  rw [hk]
  simp [oppK]
 rw [e]
 have exa:((xa.toNat:Nat):Int)=xa:=by omega
 have exb:((xb.toNat:Nat):Int)=xb:=by omega
 have HI:Hid (∀ W,Below w.heap.size w W→Calls Tryz.prog 86 #[.slice (some ⟨b,off,none⟩) F.length cap,.int .i64 xa,.bool true] W fun e w'=>e=.returned (.string ⟨(nt F xa.toNat true).toArray⟩)∧Below W.heap.size W w'):=hide fun W hb=>by
  have:=iha W _ (HV.out.below hb)
  rw [exa] at this
  exact this
 have HJ:Hid (∀ W,Below w.heap.size w W→Calls Tryz.prog 86 #[.slice (some ⟨b,off,none⟩) F.length cap,.int .i64 xb,.bool true] W fun e w'=>e=.returned (.string ⟨(nt F xb.toNat true).toArray⟩)∧Below W.heap.size W w'):=hide fun W hb=>by
  have:=ihb W _ (HV.out.below hb)
  rw [exb] at this
  exact this
 have HK:=hide hk
 have hlA:=nt_len hF xa.toNat (by omega) true
 have hpA:2 ^ (xa.toNat)≤2 ^ 12:=Nat.pow_le_pow_right (by decide) (by omega)
 have hlB:=nt_len hF xb.toNat (by omega) true
 have hpB:2 ^ (xb.toNat)≤2 ^ 12:=Nat.pow_le_pow_right (by decide) (by omega)
 have hAl:(nt F xa.toNat true).length≤100000:=by omega
 have hBl:(nt F xb.toNat true).length≤100000:=by omega
 clear hlA hpA hlB hpB
 clear iha ihb exa exb e a0 a1 a2 b0 b1 b2
 generalize nt F xa.toNat true=A at *
 generalize nt F xb.toNat true=B at *
 subst hk
 clear HK
 go_enter Tryz.func86,Tryz.ntmps86
 go_wp2_with (fail)
 rename_i Q' K hK
 obtain ⟨w1,hw1⟩:∃ w1,w1=(w.alloc (Obj.cells #[.int .i64 7,.int .i64 xa,.int .i64 xb,.int .i64 xn] 55)).alloc (Obj.cells #[.int .i64 0,.int .i64 0,.int .i64 0,.int .i64 0,.int .i64 5,.int .i64 4,.int .i64 0,.int .i64 8,.int .i64 7] 3):=⟨_,rfl⟩
 rw [← hw1]
 have n1:w1.cell? ⟨w.heap.size,1,none⟩=some (.int .i64 xa):=by rw [hw1];exact cell_under _ _ (cell_top _ _ _ _ _ _ rfl rfl)
 have n2:w1.cell? ⟨w.heap.size,2,none⟩=some (.int .i64 xb):=by rw [hw1];exact cell_under _ _ (cell_top _ _ _ _ _ _ rfl rfl)
 have HB1:=hide (show Below w.heap.size w w1 by rw [hw1];exact (by repeat (first | exact Below.refl _ _ | assumption | refine below_drewN ?_ _ | refine Below.drew ?_ | refine Below.alloc ?_ (by simp <;> omega) _ | refine below_trans ?_ (by assumption))))
 clear hw1 c0 c1 c2 c3
 refine wp_region_amid (fun W=>Below w1.heap.size w1 W) (negR (.slice (some ⟨b,off,none⟩) F.length cap) w.heap.size xa xb 8 true (signB 8) A B) (by kernel_rfl) (by kernel_rfl) (Below.drew (Below.refl _ _)) ?_ ?_
 ·intro j o ho
  match j,ho with
  | 0,ho =>
   obtain rfl:=Option.some.inj ho
   exact stepOk_val fun a W vs hW he hd=>⟨_,rfl,he 0 (by kernel_rfl)⟩
  | 1,ho =>
   obtain rfl:=Option.some.inj ho
   clear ho
   refine stepOk_val fun a W vs hW he hd=>?_
   have e7:a.tmps[7]?.getD undef=.pointer (some ⟨w.heap.size,0,none⟩):=free_val he 7 (by kernel_rfl)
   exact ⟨.pointer (some ⟨w.heap.size,1,none⟩),by simp [execOp,go_sem,e7],rfl⟩
  | 2,ho =>
   obtain rfl:=Option.some.inj ho
   clear ho
   refine stepOk_val fun a W vs hW he hd=>?_
   have v1:a.tmps[50]?.getD undef=.pointer (some ⟨w.heap.size,1,none⟩):=dep_val hd 1 50 (by kernel_rfl) (by kernel_rfl)
   have c1:=cell_keep n1 hW
   exact ⟨.int .i64 xa,by simp [execOp,go_sem,v1,c1],rfl⟩
  | 3,ho =>
   obtain rfl:=Option.some.inj ho
   exact stepOk_val fun a W vs hW he hd=>⟨_,rfl,he 2 (by kernel_rfl)⟩
  | 4,ho =>
   obtain rfl:=Option.some.inj ho
   clear ho
   refine stepOk_call fun a W vs hW he hd=>?_
   have v0:a.tmps[49]?.getD undef=.slice (some ⟨b,off,none⟩) F.length cap:=dep_val hd 0 49 (by kernel_rfl) (by kernel_rfl)
   have v2:a.tmps[51]?.getD undef=.int .i64 xa:=dep_val hd 2 51 (by kernel_rfl) (by kernel_rfl)
   have v3:a.tmps[52]?.getD undef=.bool true:=dep_val hd 3 52 (by kernel_rfl) (by kernel_rfl)
   refine ⟨86,#[.slice (some ⟨b,off,none⟩) F.length cap,.int .i64 xa,.bool true],by simp [execOp,go_sem,v0,v2,v3],(HI.out W (below_trans HB1.out hW)).mono ?_⟩
   rintro e W' ⟨rfl,hb⟩
   exact ⟨_,rfl,below_trans hW hb,rfl,fun j x h=>negR_keep hb j x h⟩
  | 5,ho =>
   obtain rfl:=Option.some.inj ho
   clear ho
   refine stepOk_val fun a W vs hW he hd=>?_
   have v4:a.tmps[53]?.getD undef=.string ⟨(A).toArray⟩:=dep_val hd 4 53 (by kernel_rfl) (by kernel_rfl)
   exact ⟨_,op_add ([40]) (A) W rfl rfl ((eval_tmp a 53).trans v4) (by simp;omega),rfl⟩
  | 6,ho =>
   obtain rfl:=Option.some.inj ho
   clear ho
   refine stepOk_val fun a W vs hW he hd=>?_
   have v5:a.tmps[54]?.getD undef=.string ⟨([40] ++ A).toArray⟩:=dep_val hd 5 54 (by kernel_rfl) (by kernel_rfl)
   exact ⟨_,op_add ([40] ++ A) ([32]) W rfl ((eval_tmp a 54).trans v5) rfl (by simp;omega),rfl⟩
  | 7,ho =>
   obtain rfl:=Option.some.inj ho
   exact stepOk_val fun a W vs hW he hd=>⟨_,rfl,he 8 (by kernel_rfl)⟩
  | 8,ho =>
   obtain rfl:=Option.some.inj ho
   clear ho
   refine stepOk_val fun a W vs hW he hd=>?_
   have v7:a.tmps[56]?.getD undef=.int .i64 8:=dep_val hd 7 56 (by kernel_rfl) (by kernel_rfl)
   exact ⟨_,op_sub4 8 W rfl ((eval_tmp a 56).trans v7) rfl,rfl⟩
  | 9,ho =>
   obtain rfl:=Option.some.inj ho
   clear ho
   refine stepOk_val fun a W vs hW he hd=>?_
   have v8:a.tmps[57]?.getD undef=.int .i64 (8 - 4):=dep_val hd 8 57 (by kernel_rfl) (by kernel_rfl)
   exact ⟨_,op_sign 8 W rfl ((eval_tmp a 57).trans v8) (by decide),rfl⟩
  | 10,ho =>
   obtain rfl:=Option.some.inj ho
   clear ho
   refine stepOk_new fun a W vs hW he hd=>?_
   have v9:a.tmps[58]?.getD undef=.int .u8 ((signB 8).toNat:Int):=dep_val hd 9 58 (by kernel_rfl) (by kernel_rfl)
   exact ⟨.slice (some ⟨W.heap.size,0,none⟩) 1 1,W.alloc (Obj.cells #[.int .u8 ((signB 8).toNat:Int)] 5),by simp [execOp,go_sem,v9],hW.alloc hW.size _,⟨_,rfl,cell_top _ _ _ _ _ _ rfl rfl⟩,fun j x h=>negR_keep (below_new _ _) j x h⟩
  | 11,ho =>
   obtain rfl:=Option.some.inj ho
   clear ho
   refine stepOk_val fun a W vs hW he hd=>?_
   obtain ⟨g,v10,hg⟩:negR (.slice (some ⟨b,off,none⟩) F.length cap) w.heap.size xa xb 8 true (signB 8) A B 10 (a.tmps[59]?.getD undef) W:=dep_val hd 10 59 (by kernel_rfl) (by kernel_rfl)
   have hcv:(convert 132 9 (.slice (some ⟨g,0,none⟩) 1 1)).run Tryz.prog W=.ok (.string ⟨#[signB 8]⟩) W:=run_convert_bytes_back (P:=Tryz.prog) W 132 9 5 ⟨g,0,none⟩ 1 [signB 8] (by kernel_rfl) (by kernel_rfl) (by kernel_rfl) (fun j hj=>by
    have:j=0:=by simpa using hj
    subst this
    exact hg)
   exact ⟨.string ⟨#[signB 8]⟩,by simp [execOp,Act.eval,v10,hcv],rfl⟩
  | 12,ho =>
   obtain rfl:=Option.some.inj ho
   clear ho
   refine stepOk_val fun a W vs hW he hd=>?_
   have v6:a.tmps[55]?.getD undef=.string ⟨([40] ++ A ++ [32]).toArray⟩:=dep_val hd 6 55 (by kernel_rfl) (by kernel_rfl)
   have v11:a.tmps[60]?.getD undef=.string ⟨([signB 8]).toArray⟩:=dep_val hd 11 60 (by kernel_rfl) (by kernel_rfl)
   exact ⟨_,op_add ([40] ++ A ++ [32]) ([signB 8]) W rfl ((eval_tmp a 55).trans v6) ((eval_tmp a 60).trans v11) (by simp;omega),rfl⟩
  | 13,ho =>
   obtain rfl:=Option.some.inj ho
   clear ho
   refine stepOk_val fun a W vs hW he hd=>?_
   have v12:a.tmps[61]?.getD undef=.string ⟨([40] ++ A ++ [32] ++ [signB 8]).toArray⟩:=dep_val hd 12 61 (by kernel_rfl) (by kernel_rfl)
   exact ⟨_,op_add ([40] ++ A ++ [32] ++ [signB 8]) ([32]) W rfl ((eval_tmp a 61).trans v12) rfl (by simp;omega),rfl⟩
  | 14,ho =>
   obtain rfl:=Option.some.inj ho
   exact stepOk_val fun a W vs hW he hd=>⟨_,rfl,he 0 (by kernel_rfl)⟩
  | 15,ho =>
   obtain rfl:=Option.some.inj ho
   clear ho
   refine stepOk_val fun a W vs hW he hd=>?_
   have e7:a.tmps[7]?.getD undef=.pointer (some ⟨w.heap.size,0,none⟩):=free_val he 7 (by kernel_rfl)
   exact ⟨.pointer (some ⟨w.heap.size,2,none⟩),by simp [execOp,go_sem,e7],rfl⟩
  | 16,ho =>
   obtain rfl:=Option.some.inj ho
   clear ho
   refine stepOk_val fun a W vs hW he hd=>?_
   have v15:a.tmps[64]?.getD undef=.pointer (some ⟨w.heap.size,2,none⟩):=dep_val hd 15 64 (by kernel_rfl) (by kernel_rfl)
   have c2:=cell_keep n2 hW
   exact ⟨.int .i64 xb,by simp [execOp,go_sem,v15,c2],rfl⟩
  | 17,ho =>
   obtain rfl:=Option.some.inj ho
   exact stepOk_val fun a W vs hW he hd=>⟨_,rfl,he 2 (by kernel_rfl)⟩
  | 18,ho =>
   obtain rfl:=Option.some.inj ho
   clear ho
   refine stepOk_call fun a W vs hW he hd=>?_
   have v14:a.tmps[63]?.getD undef=.slice (some ⟨b,off,none⟩) F.length cap:=dep_val hd 14 63 (by kernel_rfl) (by kernel_rfl)
   have v16:a.tmps[65]?.getD undef=.int .i64 xb:=dep_val hd 16 65 (by kernel_rfl) (by kernel_rfl)
   have v17:a.tmps[66]?.getD undef=.bool true:=dep_val hd 17 66 (by kernel_rfl) (by kernel_rfl)
   refine ⟨86,#[.slice (some ⟨b,off,none⟩) F.length cap,.int .i64 xb,.bool true],by simp [execOp,go_sem,v14,v16,v17],(HJ.out W (below_trans HB1.out hW)).mono ?_⟩
   rintro e W' ⟨rfl,hb⟩
   exact ⟨_,rfl,below_trans hW hb,rfl,fun j x h=>negR_keep hb j x h⟩
  | 19,ho =>
   obtain rfl:=Option.some.inj ho
   clear ho
   refine stepOk_val fun a W vs hW he hd=>?_
   have v13:a.tmps[62]?.getD undef=.string ⟨([40] ++ A ++ [32] ++ [signB 8] ++ [32]).toArray⟩:=dep_val hd 13 62 (by kernel_rfl) (by kernel_rfl)
   have v18:a.tmps[67]?.getD undef=.string ⟨(B).toArray⟩:=dep_val hd 18 67 (by kernel_rfl) (by kernel_rfl)
   exact ⟨_,op_add ([40] ++ A ++ [32] ++ [signB 8] ++ [32]) (B) W rfl ((eval_tmp a 62).trans v13) ((eval_tmp a 67).trans v18) (by simp;omega),rfl⟩
  | 20,ho =>
   obtain rfl:=Option.some.inj ho
   clear ho
   refine stepOk_val fun a W vs hW he hd=>?_
   have v19:a.tmps[68]?.getD undef=.string ⟨([40] ++ A ++ [32] ++ [signB 8] ++ [32] ++ B).toArray⟩:=dep_val hd 19 68 (by kernel_rfl) (by kernel_rfl)
   exact ⟨_,op_add ([40] ++ A ++ [32] ++ [signB 8] ++ [32] ++ B) ([41]) W rfl ((eval_tmp a 68).trans v19) rfl (by simp;omega),rfl⟩
  | 21,ho =>
   obtain rfl:=Option.some.inj ho
   clear ho
   refine stepOk_val fun a W vs hW he hd=>?_
   have v20:=dep_val hd 20 69 (by kernel_rfl) (by kernel_rfl)
   exact ⟨_,rfl,(eval_tmp a 69).trans v20⟩
  | j+22,ho=>simp at ho
 ·intro vs W hW hR
  have h21:=hR 21 (by decide)
  refine hK _ _ ?_
  go_wp2_with (fail)
  go_ret
  refine ⟨congrArg Ending.returned (Eq.trans (b:=vs 21) (by kernel_rfl) ?_),below_trans HB1.out hW⟩
  rw [show vs 21=_ from h21]
  simp
theorem neg_two_opp8 {F:List Nd} (hF:AllOk F) (h12:F.length≤12) (i:Nat) (hi:i < F.length) (hk:(F.getD i nd0).k=8) (iha:NegOk F (F.getD i nd0).a.toNat true) (ihb:NegOk F (F.getD i nd0).b.toNat true):NegOk F i true:=by
 intro w v hv
 rw [nt_eq hF i hi]
 obtain ⟨-,⟨a0,a1,-⟩,⟨b0,b1,-⟩,-⟩:=node_ok (hF i hi)
 have a2:=a1 (by omega)
 have b2:=b1 (by omega)
 have HV:=hide hv
 obtain ⟨a,cap,rfl,hm,hc,-⟩:=hv
 unfold maxLen at hm
 rcases hc with hc | ⟨b,off,rfl,hc⟩
 ·subst hc;simp at hi
 obtain ⟨c0,c1,c2,c3⟩:=hc i hi
 generalize hx:F.getD i nd0=x at *
 clear hc hx
 obtain ⟨k,xa,xb,xn⟩:=x
 dsimp only at *
 have e:ntS ⟨k,xa,xb,xn⟩ (nt F) true=[40] ++ nt F xa.toNat true ++ [32] ++ [signB 7] ++ [32] ++ nt F xb.toNat true ++ [41]:=by
  unfold ntS
  rw [if_neg (by dsimp only;omega),if_neg (by dsimp only;omega),if_neg (by dsimp only;omega)]
  rw [hk]
  simp [oppK]
 rw [e]
 have exa:((xa.toNat:Nat):Int)=xa:=by omega
 have exb:((xb.toNat:Nat):Int)=xb:=by omega
 have HI:Hid (∀ W,Below w.heap.size w W→Calls Tryz.prog 86 #[.slice (some ⟨b,off,none⟩) F.length cap,.int .i64 xa,.bool true] W fun e w'=>e=.returned (.string ⟨(nt F xa.toNat true).toArray⟩)∧Below W.heap.size W w'):=hide fun W hb=>by
  have:=iha W _ (HV.out.below hb)
  rw [exa] at this
  exact this
 have HJ:Hid (∀ W,Below w.heap.size w W→Calls Tryz.prog 86 #[.slice (some ⟨b,off,none⟩) F.length cap,.int .i64 xb,.bool true] W fun e w'=>e=.returned (.string ⟨(nt F xb.toNat true).toArray⟩)∧Below W.heap.size W w'):=hide fun W hb=>by
  have:=ihb W _ (HV.out.below hb)
  rw [exb] at this
  exact this
 have HK:=hide hk
 have hlA:=nt_len hF xa.toNat (by omega) true
 have hpA:2 ^ (xa.toNat)≤2 ^ 12:=Nat.pow_le_pow_right (by decide) (by omega)
 have hlB:=nt_len hF xb.toNat (by omega) true
 have hpB:2 ^ (xb.toNat)≤2 ^ 12:=Nat.pow_le_pow_right (by decide) (by omega)
 have hAl:(nt F xa.toNat true).length≤100000:=by omega
 have hBl:(nt F xb.toNat true).length≤100000:=by omega
 clear hlA hpA hlB hpB
 clear iha ihb exa exb e a0 a1 a2 b0 b1 b2
 generalize nt F xa.toNat true=A at *
 generalize nt F xb.toNat true=B at *
 subst hk
 clear HK
 go_enter Tryz.func86,Tryz.ntmps86
 go_wp2_with (fail)
 rename_i Q' K hK
 obtain ⟨w1,hw1⟩:∃ w1,w1=(w.alloc (Obj.cells #[.int .i64 8,.int .i64 xa,.int .i64 xb,.int .i64 xn] 55)).alloc (Obj.cells #[.int .i64 0,.int .i64 0,.int .i64 0,.int .i64 0,.int .i64 5,.int .i64 4,.int .i64 0,.int .i64 8,.int .i64 7] 3):=⟨_,rfl⟩
 rw [← hw1]
 have n1:w1.cell? ⟨w.heap.size,1,none⟩=some (.int .i64 xa):=by rw [hw1];exact cell_under _ _ (cell_top _ _ _ _ _ _ rfl rfl)
 have n2:w1.cell? ⟨w.heap.size,2,none⟩=some (.int .i64 xb):=by rw [hw1];exact cell_under _ _ (cell_top _ _ _ _ _ _ rfl rfl)
 have HB1:=hide (show Below w.heap.size w w1 by rw [hw1];exact (by repeat (first | exact Below.refl _ _ | assumption | refine below_drewN ?_ _ | refine Below.drew ?_ | refine Below.alloc ?_ (by simp <;> omega) _ | refine below_trans ?_ (by assumption))))
 clear hw1 c0 c1 c2 c3
 refine wp_region_amid (fun W=>Below w1.heap.size w1 W) (negR (.slice (some ⟨b,off,none⟩) F.length cap) w.heap.size xa xb 7 true (signB 7) A B) (by kernel_rfl) (by kernel_rfl) (Below.drew (Below.refl _ _)) ?_ ?_
 ·intro j o ho
  match j,ho with
  | 0,ho =>
   obtain rfl:=Option.some.inj ho
   exact stepOk_val fun a W vs hW he hd=>⟨_,rfl,he 0 (by kernel_rfl)⟩
  | 1,ho =>
   obtain rfl:=Option.some.inj ho
   clear ho
   refine stepOk_val fun a W vs hW he hd=>?_
   have e7:a.tmps[7]?.getD undef=.pointer (some ⟨w.heap.size,0,none⟩):=free_val he 7 (by kernel_rfl)
   exact ⟨.pointer (some ⟨w.heap.size,1,none⟩),by simp [execOp,go_sem,e7],rfl⟩
  | 2,ho =>
   obtain rfl:=Option.some.inj ho
   clear ho
   refine stepOk_val fun a W vs hW he hd=>?_
   have v1:a.tmps[50]?.getD undef=.pointer (some ⟨w.heap.size,1,none⟩):=dep_val hd 1 50 (by kernel_rfl) (by kernel_rfl)
   have c1:=cell_keep n1 hW
   exact ⟨.int .i64 xa,by simp [execOp,go_sem,v1,c1],rfl⟩
  | 3,ho =>
   obtain rfl:=Option.some.inj ho
   exact stepOk_val fun a W vs hW he hd=>⟨_,rfl,he 2 (by kernel_rfl)⟩
  | 4,ho =>
   obtain rfl:=Option.some.inj ho
   clear ho
   refine stepOk_call fun a W vs hW he hd=>?_
   have v0:a.tmps[49]?.getD undef=.slice (some ⟨b,off,none⟩) F.length cap:=dep_val hd 0 49 (by kernel_rfl) (by kernel_rfl)
   have v2:a.tmps[51]?.getD undef=.int .i64 xa:=dep_val hd 2 51 (by kernel_rfl) (by kernel_rfl)
   have v3:a.tmps[52]?.getD undef=.bool true:=dep_val hd 3 52 (by kernel_rfl) (by kernel_rfl)
   refine ⟨86,#[.slice (some ⟨b,off,none⟩) F.length cap,.int .i64 xa,.bool true],by simp [execOp,go_sem,v0,v2,v3],(HI.out W (below_trans HB1.out hW)).mono ?_⟩
   rintro e W' ⟨rfl,hb⟩
   exact ⟨_,rfl,below_trans hW hb,rfl,fun j x h=>negR_keep hb j x h⟩
  | 5,ho =>
   obtain rfl:=Option.some.inj ho
   clear ho
   refine stepOk_val fun a W vs hW he hd=>?_
   have v4:a.tmps[53]?.getD undef=.string ⟨(A).toArray⟩:=dep_val hd 4 53 (by kernel_rfl) (by kernel_rfl)
   exact ⟨_,op_add ([40]) (A) W rfl rfl ((eval_tmp a 53).trans v4) (by simp;omega),rfl⟩
  | 6,ho =>
   obtain rfl:=Option.some.inj ho
   clear ho
   refine stepOk_val fun a W vs hW he hd=>?_
   have v5:a.tmps[54]?.getD undef=.string ⟨([40] ++ A).toArray⟩:=dep_val hd 5 54 (by kernel_rfl) (by kernel_rfl)
   exact ⟨_,op_add ([40] ++ A) ([32]) W rfl ((eval_tmp a 54).trans v5) rfl (by simp;omega),rfl⟩
  | 7,ho =>
   obtain rfl:=Option.some.inj ho
   exact stepOk_val fun a W vs hW he hd=>⟨_,rfl,he 8 (by kernel_rfl)⟩
  | 8,ho =>
   obtain rfl:=Option.some.inj ho
   clear ho
   refine stepOk_val fun a W vs hW he hd=>?_
   have v7:a.tmps[56]?.getD undef=.int .i64 7:=dep_val hd 7 56 (by kernel_rfl) (by kernel_rfl)
   exact ⟨_,op_sub4 7 W rfl ((eval_tmp a 56).trans v7) rfl,rfl⟩
  | 9,ho =>
   obtain rfl:=Option.some.inj ho
   clear ho
   refine stepOk_val fun a W vs hW he hd=>?_
   have v8:a.tmps[57]?.getD undef=.int .i64 (7 - 4):=dep_val hd 8 57 (by kernel_rfl) (by kernel_rfl)
   exact ⟨_,op_sign 7 W rfl ((eval_tmp a 57).trans v8) (by decide),rfl⟩
  | 10,ho =>
   obtain rfl:=Option.some.inj ho
   clear ho
   refine stepOk_new fun a W vs hW he hd=>?_
   have v9:a.tmps[58]?.getD undef=.int .u8 ((signB 7).toNat:Int):=dep_val hd 9 58 (by kernel_rfl) (by kernel_rfl)
   exact ⟨.slice (some ⟨W.heap.size,0,none⟩) 1 1,W.alloc (Obj.cells #[.int .u8 ((signB 7).toNat:Int)] 5),by simp [execOp,go_sem,v9],hW.alloc hW.size _,⟨_,rfl,cell_top _ _ _ _ _ _ rfl rfl⟩,fun j x h=>negR_keep (below_new _ _) j x h⟩
  | 11,ho =>
   obtain rfl:=Option.some.inj ho
   clear ho
   refine stepOk_val fun a W vs hW he hd=>?_
   obtain ⟨g,v10,hg⟩:negR (.slice (some ⟨b,off,none⟩) F.length cap) w.heap.size xa xb 7 true (signB 7) A B 10 (a.tmps[59]?.getD undef) W:=dep_val hd 10 59 (by kernel_rfl) (by kernel_rfl)
   have hcv:(convert 132 9 (.slice (some ⟨g,0,none⟩) 1 1)).run Tryz.prog W=.ok (.string ⟨#[signB 7]⟩) W:=run_convert_bytes_back (P:=Tryz.prog) W 132 9 5 ⟨g,0,none⟩ 1 [signB 7] (by kernel_rfl) (by kernel_rfl) (by kernel_rfl) (fun j hj=>by
    have:j=0:=by simpa using hj
    subst this
    exact hg)
   exact ⟨.string ⟨#[signB 7]⟩,by simp [execOp,Act.eval,v10,hcv],rfl⟩
  | 12,ho =>
   obtain rfl:=Option.some.inj ho
   clear ho
   refine stepOk_val fun a W vs hW he hd=>?_
   have v6:a.tmps[55]?.getD undef=.string ⟨([40] ++ A ++ [32]).toArray⟩:=dep_val hd 6 55 (by kernel_rfl) (by kernel_rfl)
   have v11:a.tmps[60]?.getD undef=.string ⟨([signB 7]).toArray⟩:=dep_val hd 11 60 (by kernel_rfl) (by kernel_rfl)
   exact ⟨_,op_add ([40] ++ A ++ [32]) ([signB 7]) W rfl ((eval_tmp a 55).trans v6) ((eval_tmp a 60).trans v11) (by simp;omega),rfl⟩
  | 13,ho =>
   obtain rfl:=Option.some.inj ho
   clear ho
   refine stepOk_val fun a W vs hW he hd=>?_
   have v12:a.tmps[61]?.getD undef=.string ⟨([40] ++ A ++ [32] ++ [signB 7]).toArray⟩:=dep_val hd 12 61 (by kernel_rfl) (by kernel_rfl)
   exact ⟨_,op_add ([40] ++ A ++ [32] ++ [signB 7]) ([32]) W rfl ((eval_tmp a 61).trans v12) rfl (by simp;omega),rfl⟩
  | 14,ho =>
   obtain rfl:=Option.some.inj ho
   exact stepOk_val fun a W vs hW he hd=>⟨_,rfl,he 0 (by kernel_rfl)⟩
  | 15,ho =>
   obtain rfl:=Option.some.inj ho
   clear ho
   refine stepOk_val fun a W vs hW he hd=>?_
   have e7:a.tmps[7]?.getD undef=.pointer (some ⟨w.heap.size,0,none⟩):=free_val he 7 (by kernel_rfl)
   exact ⟨.pointer (some ⟨w.heap.size,2,none⟩),by simp [execOp,go_sem,e7],rfl⟩
  | 16,ho =>
   obtain rfl:=Option.some.inj ho
   clear ho
   refine stepOk_val fun a W vs hW he hd=>?_
   have v15:a.tmps[64]?.getD undef=.pointer (some ⟨w.heap.size,2,none⟩):=dep_val hd 15 64 (by kernel_rfl) (by kernel_rfl)
   have c2:=cell_keep n2 hW
   exact ⟨.int .i64 xb,by simp [execOp,go_sem,v15,c2],rfl⟩
  | 17,ho =>
   obtain rfl:=Option.some.inj ho
   exact stepOk_val fun a W vs hW he hd=>⟨_,rfl,he 2 (by kernel_rfl)⟩
  | 18,ho =>
   obtain rfl:=Option.some.inj ho
   clear ho
   refine stepOk_call fun a W vs hW he hd=>?_
   have v14:a.tmps[63]?.getD undef=.slice (some ⟨b,off,none⟩) F.length cap:=dep_val hd 14 63 (by kernel_rfl) (by kernel_rfl)
   have v16:a.tmps[65]?.getD undef=.int .i64 xb:=dep_val hd 16 65 (by kernel_rfl) (by kernel_rfl)
   have v17:a.tmps[66]?.getD undef=.bool true:=dep_val hd 17 66 (by kernel_rfl) (by kernel_rfl)
   refine ⟨86,#[.slice (some ⟨b,off,none⟩) F.length cap,.int .i64 xb,.bool true],by simp [execOp,go_sem,v14,v16,v17],(HJ.out W (below_trans HB1.out hW)).mono ?_⟩
   rintro e W' ⟨rfl,hb⟩
   exact ⟨_,rfl,below_trans hW hb,rfl,fun j x h=>negR_keep hb j x h⟩
  | 19,ho =>
   obtain rfl:=Option.some.inj ho
   clear ho
   refine stepOk_val fun a W vs hW he hd=>?_
   have v13:a.tmps[62]?.getD undef=.string ⟨([40] ++ A ++ [32] ++ [signB 7] ++ [32]).toArray⟩:=dep_val hd 13 62 (by kernel_rfl) (by kernel_rfl)
   have v18:a.tmps[67]?.getD undef=.string ⟨(B).toArray⟩:=dep_val hd 18 67 (by kernel_rfl) (by kernel_rfl)
   exact ⟨_,op_add ([40] ++ A ++ [32] ++ [signB 7] ++ [32]) (B) W rfl ((eval_tmp a 62).trans v13) ((eval_tmp a 67).trans v18) (by simp;omega),rfl⟩
  | 20,ho =>
   obtain rfl:=Option.some.inj ho
   clear ho
   refine stepOk_val fun a W vs hW he hd=>?_
   have v19:a.tmps[68]?.getD undef=.string ⟨([40] ++ A ++ [32] ++ [signB 7] ++ [32] ++ B).toArray⟩:=dep_val hd 19 68 (by kernel_rfl) (by kernel_rfl)
   exact ⟨_,op_add ([40] ++ A ++ [32] ++ [signB 7] ++ [32] ++ B) ([41]) W rfl ((eval_tmp a 68).trans v19) rfl (by simp;omega),rfl⟩
  | 21,ho =>
   obtain rfl:=Option.some.inj ho
   clear ho
   refine stepOk_val fun a W vs hW he hd=>?_
   have v20:=dep_val hd 20 69 (by kernel_rfl) (by kernel_rfl)
   exact ⟨_,rfl,(eval_tmp a 69).trans v20⟩
  | j+22,ho=>simp at ho
 ·intro vs W hW hR
  have h21:=hR 21 (by decide)
  refine hK _ _ ?_
  go_wp2_with (fail)
  go_ret
  refine ⟨congrArg Ending.returned (Eq.trans (b:=vs 21) (by kernel_rfl) ?_),below_trans HB1.out hW⟩
  rw [show vs 21=_ from h21]
  simp
theorem neg_any {F:List Nd} (hF:AllOk F) (h12:F.length≤12):∀ i,i < F.length→∀ o,NegOk F i o:=by
 intro i
 induction i using Nat.strongRecOn with
 | ind i ih =>
  intro hi o
  obtain ⟨hk,⟨a0,a1,-⟩,⟨b0,b1,-⟩,-⟩:=node_ok (hF i hi)
  by_cases h1:(F.getD i nd0).k=1 ∨ (F.getD i nd0).k=2
  ·exact neg_leaf hF h12 i hi h1 o
  have ha:=a1 (by omega)
  have iha:=ih (F.getD i nd0).a.toNat (by omega) (by omega)
  by_cases h3:(F.getD i nd0).k=3 ∨ (F.getD i nd0).k=6
  ·exact neg_one hF h12 i hi h3 iha o
  have hb:=b1 (by omega)
  have ihb:=ih (F.getD i nd0).b.toNat (by omega) (by omega)
  cases o
  ·exact neg_two_as hF h12 i hi (by omega) (iha _) (ihb _)
  ·rcases (show (F.getD i nd0).k=4 ∨ (F.getD i nd0).k=5 ∨ (F.getD i nd0).k=7 ∨ (F.getD i nd0).k=8 by omega) with h | h | h | h
   ·exact neg_two_opp4 hF h12 i hi h (iha _) (ihb _)
   ·exact neg_two_opp5 hF h12 i hi h (iha _) (ihb _)
   ·exact neg_two_opp7 hF h12 i hi h (iha _) (ihb _)
   ·exact neg_two_opp8 hF h12 i hi h (iha _) (ihb _)
end Go.Proofs.YtpiacnnifdjlkabGreatDoor
