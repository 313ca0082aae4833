/-
  What nodes.Auto has laid while it goes, and how it turns.
-/
import Derived.Test.YtpiacnnifdjlkabDoorCz
import Derived.Test.YtpiacnnifdjlkabDoorRt
import Derived.Test.YtpiacnnifdjlkabDoorPb
/-
  A region that calls a function and appends what comes of it to the row of a box's field.
-/
namespace Go.Proofs.YtpiacnnifdjlkabDoor
open Go.RowKit Go.Sort

/-- What operation j has left: a value, told ahead; the element's block; the longer row. -/
def RC (Rp : Nat → Value → Prop) (jB jX : Nat) (Mid : World → Prop) (base e sz n pb : Nat) (ob : Obj) (sv : Value) (news ys : List Value) (j : Nat) (v : Value) (w : World) : Prop :=
  Rp j v ∧ (j = jB → w.heap[pb]? = some ob → ∃ B c, v = .slice (some ⟨B, 0, none⟩) 1 c ∧ some B ≠ sv.ownBlock ∧ ∀ q u, news[q]? = some u → w.cell? ⟨B, q, none⟩ = some u) ∧
  (j = jX → w.heap[pb]? = some ob → ∃ g cap, v = .slice (some ⟨g, 0, none⟩) (n + 1) cap ∧ ∃ w1, Mid w1 ∧ KR base sv.ownBlock w1 w ∧ w.ownsRow base e sz v (n + 1) ys ∧ (sv.ownBlock = some g ∨ w1.heap.size ≤ g))

/-- The phases: ahead of the call, behind it, behind the append, behind the store. -/
def VC (Pre Mid : World → Prop) (base e sz n pb k : Nat) (sv : Value) (ys : List Value) : Nat → World → Prop
  | 0, w => Pre w
  | 1, w => Mid w
  | 2, w => ∃ w1, Mid w1 ∧ KR base sv.ownBlock w1 w
  | _, w => ∃ w1 w2 g cap, Mid w1 ∧ KR base sv.ownBlock w1 w2 ∧ w2.ownsRow base e sz (.slice (some ⟨g, 0, none⟩) (n + 1) cap) (n + 1) ys ∧ (sv.ownBlock = some g ∨ w1.heap.size ≤ g) ∧ w = w2.setCell ⟨pb, k, none⟩ (.slice (some ⟨g, 0, none⟩) (n + 1) cap)

theorem KR.of_below {base : Nat} {r : Option Nat} {w0 w w' : World} (h : KR base r w0 w) (hb : base ≤ w0.heap.size) (hw : Below w.heap.size w w') : KR base r w0 w' :=
  ⟨h.below.trans (hw.mono (Nat.le_trans hb h.size)), Nat.le_trans h.size hw.size, fun b h1 h2 => (hw.block b (Nat.lt_of_lt_of_le h1 h.size)).trans (h.keep b h1 h2)⟩

theorem not_row {W : World} {base e sz n : Nat} {v : Value} {xs : List Value} (h : W.ownsRow base e sz v n xs) {k : Nat} {o : Obj} (hk : W.heap[k]? = some o) (hc : o.isCells = false) : some k ≠ v.ownBlock := fun e1 => by
  obtain ⟨c', fz, hc'⟩ := owns_cells h k e1.symm
  rw [hk] at hc'
  injection hc' with hc'
  subst hc'
  cases hc

section
variable {ops : Array Oper} {Q : Exit → Act → World → Prop} {a0 : Act}

theorem region_callapp {lr : Option Nat} {nn id : Nat} {w0 : World} (jC jB jX jS jA : Nat) (c1 c2 : List Nat) (ds : List (Nat × Tmp)) (Rp : Nat → Value → Prop) (Pre Mid : World → Prop) {base t e sz by_ n : Nat} {sv : Value} {xs : List Value} (news : List Value) (hT : ElT t e sz by_) (hn : n ≤ 900000) (hnl : news.length = sz) (h1 : ∀ u ∈ news, u.oneCell' = true)
    (hds : dstList ops (List.range ops.size) = ds) (hm : Tryd.prog.follows .mixedOrders = true) (h : orderlyG ops a0.tmps.size = true) (hng : (ops.all fun o => o.guard.isNone) = true) (hxo : jC < ops.size ∧ jX < ops.size ∧ jS < ops.size) (hnx : [jC, jX, jS].Nodup) (hph : phasesOk ops [jC, jX, jS] [c1, c2] = true) (hBn : jB ≠ jC ∧ jB ≠ jX ∧ jB ≠ jS) (hneed : needsB ops jB jC = true ∧ needsB ops jX jC = true ∧ needsB ops jX jB = true) (hlast : (List.range ops.size).all (fun i => i == jS || needsB ops jS i) = true)
    (hMs : ∀ W W', Mid W → Below W.heap.size W W' → Mid W') {pb k : Nat} {cs : Array Value} {tb : TypeId} (hM : ∀ W, Mid W → W.ownsRow base e sz sv n xs ∧ W.heap[pb]? = some (.cells cs tb) ∧ base ≤ W.heap.size) (hne : e ≠ tb) (hk : cs[k]? = some sv) (h0 : Pre { w0 with drawn := w0.drawn + 1 })
    (hcall : ∀ o, ops[jC]? = some o → ∀ (a : Act) (w : World) (vs : Nat → Value), Pre w → (∀ t, free ops jC t = true → a.eval (.tmp t) = a0.eval (.tmp t)) → (∀ j, dep o j = true → Rp j (vs j) ∧ ∀ d, dstAt ops j = some d → a.eval (.tmp d) = vs j) → ∃ f args, (execOp a.eval o).run Tryd.prog w = .ok (.enter f args) w ∧ Calls Tryd.prog f args w fun e' w' => ∃ v, e' = .returned v ∧ Rp jC v ∧ Mid w')
    (obj : Obj) (c : Nat) (hnews : ∀ (w : World) j u, news[j]? = some u → (w.alloc obj).cell? ⟨w.heap.size, j, none⟩ = some u) (tB : Rp jB = fun _ => True) (tX : Rp jX = fun _ => True) (tS : Rp jS = fun _ => True)
    (hel : ∀ o, ops[jB]? = some o → ∀ (a : Act) (w : World) (vs : Nat → Value), (∀ t, free ops jB t = true → a.eval (.tmp t) = a0.eval (.tmp t)) → (∀ j, dep o j = true → Rp j (vs j) ∧ ∀ d, dstAt ops j = some d → a.eval (.tmp d) = vs j) → (execOp a.eval o).run Tryd.prog w = .ok (.value (.slice (some ⟨w.heap.size, 0, none⟩) 1 c)) (w.alloc obj))
    (oX : Oper) (hoX : ops[jX]? = some oX) (ks kx : Nat) (jL : Nat) (hopX : oX.op = .call { callee := .builtin .append, args := #[.tmp ks, .tmp kx], argTypes := #[t, t] }) (hdX : dep oX jL = true ∧ dstAt ops jL = some ks ∧ dep oX jB = true ∧ dstAt ops jB = some kx) (hL : ∀ v, Rp jL v → v = sv)
    (hpure : ∀ i o, ops[i]? = some o → i ≠ jC → i ≠ jB → i ≠ jX → i ≠ jS → ∀ (a : Act) (w : World) (vs : Nat → Value), (Pre w ∨ needsB ops jC i = false ∧ (Mid w ∨ ∃ w1, Mid w1 ∧ KR base sv.ownBlock w1 w)) → (∀ t, free ops i t = true → a.eval (.tmp t) = a0.eval (.tmp t)) → (∀ j, dep o j = true → Rp j (vs j) ∧ ∀ d, dstAt ops j = some d → a.eval (.tmp d) = vs j) → ∃ v, (execOp a.eval o).run Tryd.prog w = .ok (.value v) w ∧ Rp i v)
    (oS : Oper) (hoS : ops[jS]? = some oS) {tS' : TypeId} {ka kv : Nat} (hopS : oS.op = .store tS' (.tmp ka) (.tmp kv)) (hszS : ∀ w, (sizeOf tS').run Tryd.prog w = .ok 1 w) (hdS : dep oS jA = true ∧ dstAt ops jA = some ka ∧ dep oS jX = true ∧ dstAt ops jX = some kv) (hA : ∀ v, Rp jA v → v = .pointer (some ⟨pb, k, none⟩))
    (hend : ∀ (vs : Nat → Value) (w1 w2 : World) (g cap : Nat), Mid w1 → KR base sv.ownBlock w1 w2 → (∀ i, i < ops.size → Rp i (vs i)) → w2.ownsRow base e sz (.slice (some ⟨g, 0, none⟩) (n + 1) cap) (n + 1) (xs ++ news) → (sv.ownBlock = some g ∨ w1.heap.size ≤ g) → Q .normal { a0 with tmps := putPairs vs ds a0.tmps } (w2.setCell ⟨pb, k, none⟩ (.slice (some ⟨g, 0, none⟩) (n + 1) cap))) :
    (Code.region id ops true).wpIn (fenceAt lr) nn Tryd.prog Q a0 w0 := by
  have hdeps : ∀ {o : Oper} {vs : Nat → Value} {a : Act} {w : World}, (∀ j, dep o j = true → RC Rp jB jX Mid base e sz n pb (.cells cs tb) sv news (xs ++ news) j (vs j) w ∧ ∀ d, dstAt ops j = some d → a.eval (.tmp d) = vs j) → ∀ j, dep o j = true → Rp j (vs j) ∧ ∀ d, dstAt ops j = some d → a.eval (.tmp d) = vs j := fun hd j hj => ⟨(hd j hj).1.1, (hd j hj).2⟩
  have hst : ∀ {w w' : World} {j : Nat} {x : Value}, w.heap[pb]? = some (.cells cs tb) → RC Rp jB jX Mid base e sz n pb (.cells cs tb) sv news (xs ++ news) j x w → Below w.heap.size w w' → RC Rp jB jX Mid base e sz n pb (.cells cs tb) sv news (xs ++ news) j x w' := fun {w w' j x} hbx hr hb => by
    refine ⟨hr.1, fun e1 _ => ?_, fun e1 _ => ?_⟩
    · obtain ⟨B, c', e2, hB, hc⟩ := hr.2.1 e1 hbx
      exact ⟨B, c', e2, hB, fun q u hu => (hb.cell (p := ⟨B, q, none⟩) (World.block_lt_of_cell? w _ (hc q u hu))).trans (hc q u hu)⟩
    · obtain ⟨g, cap, e2, w1, m1, kr, ho, hor⟩ := hr.2.2 e1 hbx
      exact ⟨g, cap, e2, w1, m1, kr.of_below (hM w1 m1).2.2 hb, owns_below ho hb, hor⟩
  refine region_phases0 ds (VC Pre Mid base e sz n pb k sv (xs ++ news)) (RC Rp jB jX Mid base e sz n pb (.cells cs tb) sv news (xs ++ news)) hds hm h hng [jC, jX, jS] [c1, c2] rfl (fun x hx => by simp at hx; rcases hx with rfl | rfl | rfl; exact hxo.1; exact hxo.2.1; exact hxo.2.2) hnx hph h0 ?_ ?_ ?_
  · intro i o ho hi kk hkk hn1 hn2
    have hi' : i ≠ jC ∧ i ≠ jX ∧ i ≠ jS := by
      simp at hi
      exact ⟨hi.1, hi.2.1, hi.2.2⟩
    have hk3 : kk ≠ 3 := fun e3 => by
      have h4 := hn1 2 (by omega)
      have h5 := List.all_eq_true.1 hlast i (List.mem_range.2 (Array.getElem?_eq_some_iff.1 ho).1)
      rw [Bool.or_eq_true] at h5
      have h4' : needsB ops jS i = false := h4
      rcases h5 with h5 | h5
      · exact hi'.2.2 (by simpa using h5)
      · rw [h4'] at h5; cases h5
    by_cases hiB : i = jB
    · have hk1 : kk = 1 := by
        have h4 := hn2 0 (by simp) (by rw [hiB]; exact hneed.1)
        have h5 : ¬ 1 < kk := fun h6 => by
          have h7 := hn1 1 h6
          have h7' : needsB ops jX i = false := h7
          rw [hiB, hneed.2.2] at h7'
          cases h7'
        omega
      subst hk1
      intro a w vs hV he hd
      have hV' : Mid w := hV
      have hown := (hM w hV').1
      have hb := below_new w obj
      refine Goes.value (hel o (by rw [← hiB]; exact ho) a w vs (by rw [← hiB]; exact he) (hdeps hd)) ⟨hMs _ _ hV' hb, ?_, fun j x hj _ hr => hst (hM w hV').2.1 hr hb⟩
      refine ⟨by rw [hiB, tB]; trivial, fun _ _ => ⟨w.heap.size, c, rfl, fun e1 => ?_, hnews w⟩, fun e1 => absurd (hiB.symm.trans e1) hBn.2.1⟩
      have := (hown.lt w.heap.size e1.symm).2
      omega
    · intro a w vs hV he hd
      have hany : Pre w ∨ needsB ops jC i = false ∧ (Mid w ∨ ∃ w1, Mid w1 ∧ KR base sv.ownBlock w1 w) := by
        have hk2 : kk ≤ 3 := hkk
        match kk, hV, hk3, hk2, hn1 with
        | 0, hV, _, _, _ => exact Or.inl hV
        | 1, hV, _, _, hn1 => exact Or.inr ⟨hn1 0 (by omega), Or.inl hV⟩
        | 2, hV, _, _, hn1 => exact Or.inr ⟨hn1 0 (by omega), Or.inr hV⟩
        | 3, _, h3, _, _ => exact absurd rfl h3
      obtain ⟨v, hr, hv⟩ := hpure i o ho hi'.1 hiB hi'.2.1 hi'.2.2 a w vs hany he (hdeps hd)
      exact Goes.value hr ⟨hV, ⟨hv, fun e1 => absurd e1 hiB, fun e1 => absurd e1 hi'.2.1⟩, fun _ _ _ _ hr => hr⟩
  · intro kk o hkk ho
    have hkk' : kk < 3 := hkk
    match kk, hkk', ho with
    | 0, _, ho =>
      intro a w vs hV he hd
      obtain ⟨f, args, hr, hc⟩ := hcall o ho a w vs hV he (hdeps hd)
      refine Or.inr (Or.inl ⟨f, args, hr, hc.mono ?_⟩)
      rintro e' w' ⟨v, rfl, hv, hm'⟩
      refine ⟨v, rfl, hm', ⟨hv, fun e1 => absurd e1.symm hBn.1, fun e1 => ?_⟩, fun j x hj hnd hr => ⟨hr.1, fun e1 => ?_, fun e1 => ?_⟩⟩
      · have := hneed.2.1
        have e2 : jC = jX := e1
        have h3 := hnx
        simp at h3
        exact absurd e2 h3.1.1
      · have hnd' : needsB ops j jC = false := hnd
        rw [e1, hneed.1] at hnd'
        cases hnd'
      · have hnd' : needsB ops j jC = false := hnd
        rw [e1, hneed.2.1] at hnd'
        cases hnd'
    | 1, _, ho =>
      intro a w vs hV he hd
      have ho' : ops[jX]? = some o := ho
      obtain rfl := Option.some.inj (ho'.symm.trans hoX)
      have hV' : Mid w := hV
      obtain ⟨hown, hbx, hbs⟩ := hM w hV'
      have e1 : a.eval (.tmp ks) = sv := by rw [(hd jL hdX.1).2 ks hdX.2.1]; exact hL _ (hd jL hdX.1).1.1
      obtain ⟨B, c', e2, hB, hc⟩ := (hd jB hdX.2.2.1).1.2.1 rfl hbx
      have e3 : a.eval (.tmp kx) = .slice (some ⟨B, 0, none⟩) 1 c' := by rw [(hd jB hdX.2.2.1).2 kx hdX.2.2.2]; exact e2
      obtain ⟨g', cap', w', hr, h2, h3, h4, h5⟩ := run_append_one w o.type t e base n sz by_ hT sv xs hown B c' news hnl hc h1 hn hbs
      have hkr : KR base sv.ownBlock w w' := (KR.refl base sv.ownBlock w).grown h3 hbs (fun q hq => (hown.lt q hq).1)
      refine Goes.value (v := .slice (some ⟨g', 0, none⟩) (n + 1) cap') (w' := w') ?_ ⟨⟨w, hV', hkr⟩, ⟨?_, fun e4 => ?_, fun _ _ => ⟨g', cap', rfl, w, hV', hkr, h2, h4.imp (fun h => h) (fun e5 => by omega)⟩⟩, fun j x hj hnd hr => ⟨hr.1, fun e4 _ => ?_, fun e4 => absurd e4 hj⟩⟩
      · unfold execOp
        simp only [hopX, resolve, invoke, builtin, Sem.run_bind, Sem.run_pure, Result.andThen_ok, List.map_toArray, List.map_cons, List.map_nil, e1, e3, hr]
      · show Rp jX _
        rw [tX]; trivial
      · exact absurd e4.symm hBn.2.1
      · obtain ⟨B', c'', e5, hB', hc'⟩ := hr.2.1 e4 hbx
        exact ⟨B', c'', e5, hB', fun q u hu => h3.cell (hc' q u hu) hB'⟩
    | 2, _, ho =>
      intro a w vs hV he hd
      have ho' : ops[jS]? = some o := ho
      obtain rfl := Option.some.inj (ho'.symm.trans hoS)
      obtain ⟨w1', m1', kr'⟩ := hV
      have hpb : some pb ≠ sv.ownBlock := fun e2 => row_apart (hM w1' m1').1 (hM w1' m1').2.1 hne pb e2.symm rfl
      have hbx' := kr'.block (hM w1' m1').2.1 hpb
      obtain ⟨g, cap, e1, w1, m1, kr, hown', hor⟩ := (hd jX hdS.2.2.1).1.2.2 rfl hbx'
      have ea : a.eval (.tmp ka) = .pointer (some ⟨pb, k, none⟩) := by rw [(hd jA hdS.1).2 ka hdS.2.1]; exact hA _ (hd jA hdS.1).1.1
      have ev : a.eval (.tmp kv) = .slice (some ⟨g, 0, none⟩) (n + 1) cap := by rw [(hd jX hdS.2.2.1).2 kv hdS.2.2.2]; exact e1
      have ea' : a.tmps[ka]?.getD undef = .pointer (some ⟨pb, k, none⟩) := by rw [← eval_tmp]; exact ea
      have ev' : a.tmps[kv]?.getD undef = .slice (some ⟨g, 0, none⟩) (n + 1) cap := by rw [← eval_tmp]; exact ev
      have hcell : w.cell? ⟨pb, k, none⟩ = some sv := by rw [cell_of_row _ _ k _ _ _ hbx']; exact hk
      have hfz := frozen_of_row _ _ k _ _ hbx'
      rw [e1] at hown'
      have hnew : (w.setCell ⟨pb, k, none⟩ (.slice (some ⟨g, 0, none⟩) (n + 1) cap)).heap[pb]? ≠ some (.cells cs tb) := fun e2 => by
        rw [box_set hbx' k (.slice (some ⟨g, 0, none⟩) (n + 1) cap)] at e2
        injection e2 with e2
        injection e2 with e3
        have hlt := (Array.getElem?_eq_some_iff.1 hk).1
        have e4 := congrArg (fun q => q[k]?) e3
        simp only [Array.getElem?_setIfInBounds, if_pos hlt, if_true, hk] at e4
        obtain ⟨ad, cp, e5⟩ := owns_form (hM w1' m1').1
        rw [e5] at e4
        injection e4 with e4
        injection e4 with _ e6
        omega
      have hrun : ∃ v, ((execOp a.eval o).run Tryd.prog w = .ok (.value v) (w.setCell ⟨pb, k, none⟩ (.slice (some ⟨g, 0, none⟩) (n + 1) cap)) ∨ ((execOp a.eval o).run Tryd.prog w = .ok .skip (w.setCell ⟨pb, k, none⟩ (.slice (some ⟨g, 0, none⟩) (n + 1) cap)) ∧ v = undef)) := by
        refine ⟨undef, Or.inr ⟨?_, rfl⟩⟩
        unfold execOp
        simp [hopS, go_sem, ea', ev', hszS, hcell, hfz]
      obtain ⟨v, hrun⟩ := hrun
      refine Or.inl ⟨v, _, hrun, ⟨w1, w, g, cap, m1, kr, hown', hor, rfl⟩, ⟨by show Rp jS _; rw [tS]; trivial, fun e4 => absurd e4.symm hBn.2.2, fun e4 => ?_⟩, fun j x hj hnd hr => ⟨hr.1, fun e4 e5 => absurd e5 hnew, fun e4 e5 => absurd e5 hnew⟩⟩
      have h3 := hnx
      simp at h3
      exact absurd e4.symm h3.2
  · rintro vs w ⟨w1, w2, g, cap, m1, kr, ho, hor, rfl⟩ hR
    exact hend vs w1 w2 g cap m1 kr (fun i hi => (hR i hi).1) ho hor
end
end Go.Proofs.YtpiacnnifdjlkabDoor

namespace Go.Proofs.YtpiacnnifdjlkabDoor
open Go.RowKit Go.Sort Go.MapKept

/-- A slice of nodes that reads as this list. -/
def prSl (w : World) (v : Value) (zs : List Pair) : Prop :=
  ∃ a cap, v = .slice a zs.length cap ∧ zs.length ≤ maxLen ∧ (zs = [] ∨ ∃ b off, a = some ⟨b, off, none⟩ ∧ ∀ (i : Nat) (x : Pair), zs[i]? = some x → ∀ (q : Nat) (u : Value), (prEnc x)[q]? = some u → w.cell? ⟨b, off + i * 3 + q, none⟩ = some u) ∧ (a = none → cap = 0) ∧ zs.length ≤ cap

theorem prSl.below {w w' : World} {v : Value} {zs : List Pair} (h : prSl w v zs) (hb : Below w.heap.size w w') : prSl w' v zs := by
  obtain ⟨a, cap, rfl, hm, h, hn⟩ := h
  refine ⟨a, cap, rfl, hm, ?_, hn⟩
  rcases h with h | ⟨b, off, rfl, hc⟩
  · exact Or.inl h
  · exact Or.inr ⟨b, off, rfl, fun i x hx q u hu => (hb.cell (p := ⟨b, _, none⟩) (World.block_lt_of_cell? w _ (hc i x hx q u hu))).trans (hc i x hx q u hu)⟩

/-- What nodes.Auto has laid while it goes. -/
structure prNA (w W : World) (BO BN BT BM r : Nat) (fv gv sv : Value) (A : Aut) (met : List Pair) : Prop where
  ra : RA W w.heap.size BO fv gv sv A
  mn : prMN W w.heap.size BN BT r met
  bm : W.heap[BM]? = some (.cells #[.func (.func 73) #[] #[.pointer (some ⟨BN, 0, none⟩), .pointer (some ⟨BT, 0, none⟩)]] 126)
  b0 : W.heap[w.heap.size]? = some (.cells #[.int .i64 0, .int .i64 0, .slice none 0 0, .slice none 0 0, .slice none 0 0] 26)
  ne : BO ≠ w.heap.size ∧ w.heap.size ≤ BM
  bl : Below w.heap.size w W

theorem prNA.below {w W W' : World} {BO BN BT BM r : Nat} {fv gv sv : Value} {A : Aut} {met : List Pair} (h : prNA w W BO BN BT BM r fv gv sv A met) (hb : Below W.heap.size W W') : prNA w W' BO BN BT BM r fv gv sv A met :=
  ⟨h.ra.below hb, h.mn.below hb, belowRow hb h.bm, belowRow hb h.b0, h.ne, h.bl.trans (hb.mono h.bl.size)⟩

/-- Blocks that meet does not turn. -/
theorem prS_not {W : World} {base BN BT r k : Nat} {met : List Pair} (h : prMN W base BN BT r met) {o : Obj} (_hk : W.heap[k]? = some o) (h1 : k ≠ r) (h2 : k ≠ BT) (h3 : ∀ v, W.ownsRow base 70 3 v met.length (met.flatMap prEnc) → some k ≠ v.ownBlock) : ¬ prS BT r W k := by
  rintro (h4 | ⟨p, hp, u, hu, hr⟩)
  · simp at h4
    rcases h4 with h4 | h4
    · exact h1 h4
    · exact h2 h4
  · have ep : p = (BT, 0) := by simpa using hp
    subst ep
    obtain ⟨v, hv, ho⟩ := h.bt
    have eu := prRow_one hv hu
    subst eu
    exact h3 _ ho hr.symm

theorem prS_box {W : World} {base BN BT r k : Nat} {met : List Pair} (h : prMN W base BN BT r met) {c : Array Value} {t : TypeId} (hk : W.heap[k]? = some (.cells c t)) (h1 : t ≠ 68) (h2 : t ≠ 70) : ¬ prS BT r W k := by
  refine prS_not h hk (fun e => ?_) (fun e => ?_) (fun v ho e => row_apart ho hk (Ne.symm h2) k e.symm rfl)
  · obtain ⟨o, ho, hc⟩ := h.mp.not_cells
    rw [e, ho] at hk
    injection hk with hk
    subst hk
    cases hc
  · obtain ⟨v, hv, _⟩ := h.bt
    rw [e, hv] at hk
    injection hk with hk
    injection hk with _ h3
    exact h1 h3.symm

theorem prS_old {W : World} {base BN BT r k : Nat} {met : List Pair} (h : prMN W base BN BT r met) (hk : k < base) : ¬ prS BT r W k := by
  have hlt : k < W.heap.size := Nat.lt_of_lt_of_le hk h.lo.2.2.2
  have ho : W.heap[k]? = some W.heap[k] := Array.getElem?_eq_getElem hlt
  exact prS_not h ho (by have := h.lo.2.2.1; omega) (by have := h.lo.2.1; omega) (fun v hv e => by have := (hv.lt k e.symm).1; omega)

/-- A row that the call owns, of other elements, is kept. -/
theorem prS_row {W W' : World} {base BN BT r : Nat} {met : List Pair} (h : prMN W base BN BT r met) (hk : KE (prS BT r) W W') {e sz n : Nat} {v : Value} {xs : List Value} (ho : W.ownsRow base e sz v n xs) (h1 : e ≠ 68) (h2 : e ≠ 70) : W'.ownsRow base e sz v n xs :=
  owns_kept ho (fun q hq => by
    have hlt := (ho.lt q hq).2
    have hq' : W.heap[q]? = some W.heap[q] := Array.getElem?_eq_getElem hlt
    obtain ⟨c', fz, hc⟩ := owns_cells ho q hq
    rw [hk.keep q _ hq' (prS_not h hq' (fun e1 => ?_) (fun e1 => ?_) (fun v' hv' e1 => rows_apart hv' ho (Ne.symm h2) e1.symm hq)), hq']
    · obtain ⟨o, ho', hcc⟩ := h.mp.not_cells
      rw [e1, ho'] at hc
      injection hc with hc
      subst hc
      cases hcc
    · obtain ⟨v', hv', _⟩ := h.bt
      rw [e1, hv'] at hc
      injection hc with hc
      injection hc with _ h3
      exact h1 h3.symm)

theorem prNA.meet {w W W' : World} {BO BN BT BM r : Nat} {fv gv sv : Value} {A : Aut} {met met' : List Pair} (h : prNA w W BO BN BT BM r fv gv sv A met) (hk : KE (prS BT r) W W') (hm : prMN W' w.heap.size BN BT r met') : prNA w W' BO BN BT BM r fv gv sv A met' :=
  ⟨⟨hk.keep _ _ h.ra.box (prS_box h.mn h.ra.box (by decide) (by decide)), prS_row h.mn hk h.ra.f (by decide) (by decide), prS_row h.mn hk h.ra.g (by decide) (by decide), prS_row h.mn hk h.ra.s (by decide) (by decide), h.ra.hb⟩, hm,
    hk.keep _ _ h.bm (prS_box h.mn h.bm (by decide) (by decide)), hk.keep _ _ h.b0 (prS_box h.mn h.b0 (by decide) (by decide)), h.ne,
    ⟨hk.os.trans h.bl.os, hk.tape.trans h.bl.tape, hk.output.trans h.bl.output, Nat.le_trans h.bl.size hk.size, fun k hk' => by
      have hlt : k < W.heap.size := Nat.lt_of_lt_of_le hk' h.bl.size
      have ho : W.heap[k]? = some W.heap[k] := Array.getElem?_eq_getElem hlt
      rw [hk.keep k _ ho (prS_old h.mn hk'), ← ho]
      exact h.bl.block k hk'⟩⟩

/-- What lies apart from a row of other elements that grew, and from the automaton's box. -/
theorem prNA.rest {w W W2 : World} {BO BN BT BM r : Nat} {fv gv sv : Value} {A : Aut} {met : List Pair} (h : prNA w W BO BN BT BM r fv gv sv A met) {e sz n : Nat} {v : Value} {xs : List Value} (ho : W.ownsRow w.heap.size e sz v n xs) (hk : KR w.heap.size v.ownBlock W W2) (he : e ≠ 68 ∧ e ≠ 70 ∧ e ≠ 124 ∧ e ≠ 126 ∧ e ≠ 26) (k : Nat) (u : Value) :
    prMN (W2.setCell ⟨BO, k, none⟩ u) w.heap.size BN BT r met ∧ (W2.setCell ⟨BO, k, none⟩ u).heap[BM]? = some (.cells #[.func (.func 73) #[] #[.pointer (some ⟨BN, 0, none⟩), .pointer (some ⟨BT, 0, none⟩)]] 126) ∧ (W2.setCell ⟨BO, k, none⟩ u).heap[w.heap.size]? = some (.cells #[.int .i64 0, .int .i64 0, .slice none 0 0, .slice none 0 0, .slice none 0 0] 26) ∧ Below w.heap.size w (W2.setCell ⟨BO, k, none⟩ u) := by
  have keep : ∀ (q : Nat) (o : Obj), W.heap[q]? = some o → some q ≠ v.ownBlock → q ≠ BO → (W2.setCell ⟨BO, k, none⟩ u).heap[q]? = some o := fun q o hq h1 h2 => by
    rw [heap_setCell_other _ _ _ _ h2]
    exact hk.block hq h1
  have hsz : (W2.setCell ⟨BO, k, none⟩ u).heap.size = W2.heap.size := by simp [World.setCell]
  have hbo := h.ra.box
  have neB : ∀ {q : Nat} {c : Array Value} {t : TypeId}, W.heap[q]? = some (.cells c t) → t ≠ 26 → q ≠ BO := fun hq ht e1 => by
    rw [e1, hbo] at hq
    injection hq with hq
    injection hq with _ h3
    exact ht h3.symm
  have rowB : ∀ {q : Nat} {c : Array Value} {t : TypeId}, W.heap[q]? = some (.cells c t) → e ≠ t → some q ≠ v.ownBlock := fun hq ht e1 => row_apart ho hq ht _ e1.symm rfl
  obtain ⟨tv, htv, hto⟩ := h.mn.bt
  obtain ⟨ro, hro, hrc⟩ := h.mn.mp.not_cells
  have hmn := h.mn
  refine ⟨⟨keep _ _ hmn.bn (rowB hmn.bn he.2.2.1) (neB hmn.bn (by decide)), ⟨tv, keep _ _ htv (rowB htv he.1) (neB htv (by decide)), owns_kept hto (fun q hq => ?_)⟩, hmn.mp.keep (fun o ho' => keep _ _ ho' (not_row ho hro hrc) (fun e1 => ?_)), ⟨hmn.lo.1, hmn.lo.2.1, hmn.lo.2.2.1, by rw [hsz]; exact Nat.le_trans hmn.lo.2.2.2 hk.size⟩⟩, keep _ _ h.bm (rowB h.bm he.2.2.2.1) (neB h.bm (by decide)), keep _ _ h.b0 (rowB h.b0 he.2.2.2.2) (Ne.symm h.ne.1), ?_⟩
  · have hlt := (hto.lt q hq).2
    have hq' : W.heap[q]? = some W.heap[q] := Array.getElem?_eq_getElem hlt
    rw [keep q _ hq' (fun e1 => rows_apart hto ho (Ne.symm he.2.1) hq e1.symm) (fun e1 => row_apart hto hbo (by decide) q hq e1), hq']
  · rw [e1, hbo] at hro
    injection hro with hro
    subst hro
    cases hrc
  · exact (h.bl.trans hk.below).setCell h.ra.hb u

theorem prDet {W : World} {base BN BT r : Nat} {met : List Pair} (h : prMN W base BN BT r met) : Det W.heap.size (prS BT r) := det_ownOf (by simp) (by
  intro k hk
  simp at hk
  rcases hk with rfl | rfl
  · exact h.mp.lt
  · obtain ⟨v, hv, _⟩ := h.bt
    exact (Array.getElem?_eq_some_iff.1 hv).1)

theorem prS_lt {W : World} {base BN BT r k : Nat} {met : List Pair} (h : prMN W base BN BT r met) (hk : prS BT r W k) : k < W.heap.size := by
  obtain ⟨v, hv, ho⟩ := h.bt
  rcases hk with h1 | ⟨p, hp, u, hu, hr⟩
  · simp at h1
    rcases h1 with rfl | rfl
    · exact h.mp.lt
    · exact (Array.getElem?_eq_some_iff.1 hv).1
  · have ep : p = (BT, 0) := by simpa using hp
    subst ep
    have eu := prRow_one hv hu
    subst eu
    exact (ho.lt k hr).2

theorem prFlat (zs : List Pair) : ∀ (i : Nat) (x : Pair), zs[i]? = some x → ∀ (q : Nat) (u : Value), (prEnc x)[q]? = some u → (zs.flatMap prEnc)[i * 3 + q]? = some u := by
  induction zs with
  | nil => intro i x hx; simp at hx
  | cons z zs ih =>
    intro i x hx q u hu
    rw [List.flatMap_cons]
    cases i with
    | zero =>
      have e : z = x := by simpa using hx
      subst e
      have hq : q < (prEnc z).length := (List.getElem?_eq_some_iff.1 hu).1
      rw [Nat.zero_mul, Nat.zero_add, List.getElem?_append_left hq]
      exact hu
    | succ i =>
      rw [List.getElem?_append_right (by rw [prEnc_len]; omega), prEnc_len, show (i + 1) * 3 + q - 3 = i * 3 + q by omega]
      exact ih i x (by simpa using hx) q u hu

/-- A node that was met, in its row. -/
theorem prMN.at {W : World} {base BN BT r : Nat} {met : List Pair} (h : prMN W base BN BT r met) {i : Nat} {x : Pair} (hx : met[i]? = some x) : ∃ gm cp, W.heap[BT]? = some (.cells #[.slice (some ⟨gm, 0, none⟩) met.length cp] 68) ∧ met.length ≤ cp ∧ gm < W.heap.size ∧ ∀ (q : Nat) (u : Value), (prEnc x)[q]? = some u → W.cell? ⟨gm, i * 3 + q, none⟩ = some u := by
  obtain ⟨v, hv, ho⟩ := h.bt
  have hi : i < met.length := (List.getElem?_eq_some_iff.1 hx).1
  rcases ho.2 with ⟨rfl, h0⟩ | ⟨g, cap, cur, rfl, hb, hg, hnc, hcm, hcs, ht⟩
  · omega
  · refine ⟨g, cap, hv, hnc, (Array.getElem?_eq_some_iff.1 hg).1, fun q u hu => ?_⟩
    have hf := prFlat met i x hx q u hu
    rw [← ht, List.getElem?_take] at hf
    split at hf
    · have := cell_of_row W g (i * 3 + q) _ _ _ hg
      rw [this]
      simpa using hf
    · cases hf

/-- What a round may turn: the automaton's box, its steps; the map, the nodes that were met. -/
abbrev prSS (BO BT r : Nat) : World → Nat → Prop := ownOf [(BO, 4), (BT, 0)] [BO, r, BT]

theorem prSS_cases {w W : World} {BO BN BT BM r : Nat} {fv gv sv : Value} {A : Aut} {met : List Pair} (h : prNA w W BO BN BT BM r fv gv sv A met) {k : Nat} (hk : prSS BO BT r W k) : k = BO ∨ sv.ownBlock = some k ∨ prS BT r W k := by
  rcases hk with h1 | ⟨p, hp, u, hu, hr⟩
  · simp at h1
    rcases h1 with rfl | rfl | rfl
    · exact Or.inl rfl
    · exact Or.inr (Or.inr (Or.inl (by simp)))
    · exact Or.inr (Or.inr (Or.inl (by simp)))
  · simp at hp
    rcases hp with rfl | rfl
    · have e := (cell_of_row W BO 4 _ _ _ h.ra.box).symm.trans hu
      have e2 : sv = u := by simpa using e
      subst e2
      exact Or.inr (Or.inl hr)
    · exact Or.inr (Or.inr (Or.inr ⟨(BT, 0), by simp, u, hu, hr⟩))

theorem prSS_in {w W : World} {BO BN BT BM r : Nat} {fv gv sv : Value} {A : Aut} {met : List Pair} (h : prNA w W BO BN BT BM r fv gv sv A met) {k : Nat} (hk : prSS BO BT r W k) : w.heap.size ≤ k ∧ k < W.heap.size := by
  rcases prSS_cases h hk with rfl | h1 | h1
  · exact ⟨h.ra.hb, (Array.getElem?_eq_some_iff.1 h.ra.box).1⟩
  · exact h.ra.s.lt k h1
  · refine ⟨?_, prS_lt h.mn h1⟩
    rcases Nat.lt_or_ge k w.heap.size with h2 | h2
    · exact absurd h1 (prS_old h.mn h2)
    · exact h2

theorem prSS_det {w W : World} {BO BN BT BM r : Nat} {fv gv sv : Value} {A : Aut} {met : List Pair} (h : prNA w W BO BN BT BM r fv gv sv A met) : Det W.heap.size (prSS BO BT r) := det_ownOf (by simp) (by
  intro k hk
  simp at hk
  rcases hk with rfl | rfl | rfl
  · exact (Array.getElem?_eq_some_iff.1 h.ra.box).1
  · exact h.mn.mp.lt
  · obtain ⟨v, hv, _⟩ := h.mn.bt
    exact (Array.getElem?_eq_some_iff.1 hv).1)

/-- What the iterator does by itself leaves it. -/
theorem prNA.ki {w W W' : World} {BO BN BT BM r s : Nat} {fv gv sv : Value} {A : Aut} {met : List Pair} (h : prNA w W BO BN BT BM r fv gv sv A met) (hk : KI s (prSS BO BT r) W W') (hf : ∀ k, fv.ownBlock = some k → k < s) (hg : ∀ k, gv.ownBlock = some k → k < s) (hs : BM < s ∧ BN < s ∧ w.heap.size < s) : prNA w W' BO BN BT BM r fv gv sv A met := by
  have hrow : ∀ {e sz n : Nat} {v : Value} {xs : List Value}, W.ownsRow w.heap.size e sz v n xs → (∀ k, v.ownBlock = some k → k < s ∨ prSS BO BT r W k) → W'.ownsRow w.heap.size e sz v n xs := fun ho hv => owns_kept ho (fun q hq => by
    have hlt := (ho.lt q hq).2
    have hq' : W.heap[q]? = some W.heap[q] := Array.getElem?_eq_getElem hlt
    rw [hk.keep q _ hq' (hv q hq), hq'])
  have hX : ∀ k, k ∈ [BO, r, BT] → k < s ∨ prSS BO BT r W k := fun k hk => Or.inr (Or.inl hk)
  refine ⟨⟨hk.keep _ _ h.ra.box (hX _ (by simp)), hrow h.ra.f (fun k hk => Or.inl (hf k hk)), hrow h.ra.g (fun k hk => Or.inl (hg k hk)), hrow h.ra.s (fun k hk => Or.inr (Or.inr ⟨(BO, 4), by simp, sv, cell_of_row W BO 4 _ _ _ h.ra.box, hk⟩)), h.ra.hb⟩,
    h.mn.keep hk.size (fun k o ho hor => hk.keep k o ho ?_), hk.keep _ _ h.bm (Or.inl hs.1), hk.keep _ _ h.b0 (Or.inl hs.2.2), h.ne, ⟨hk.os.trans h.bl.os, hk.tape.trans h.bl.tape, hk.output.trans h.bl.output, Nat.le_trans h.bl.size hk.size, fun k hk' => ?_⟩⟩
  · rcases hor with rfl | h1
    · exact Or.inl hs.2.1
    · rcases h1 with h2 | ⟨p, hp, u, hu, hr⟩
      · simp at h2
        exact hX k (by simp; rcases h2 with h2 | h2; exact Or.inr (Or.inl h2); exact Or.inr (Or.inr h2))
      · have ep : p = (BT, 0) := by simpa using hp
        subst ep
        exact Or.inr (Or.inr ⟨(BT, 0), by simp, u, hu, hr⟩)
  · have hlt : k < W.heap.size := Nat.lt_of_lt_of_le hk' h.bl.size
    have ho : W.heap[k]? = some W.heap[k] := Array.getElem?_eq_getElem hlt
    rw [hk.keep k _ ho (Or.inl (by omega)), ← ho]
    exact h.bl.block k hk'

theorem prSS_meet {w W W' : World} {BO BN BT BM r : Nat} {fv gv sv : Value} {A : Aut} {met : List Pair} (h : prNA w W BO BN BT BM r fv gv sv A met) (hk : KE (prS BT r) W W') : KE (prSS BO BT r) W W' :=
  hk.more (fun k hk => by simp at hk ⊢; rcases hk with h1 | h1; exact Or.inr (Or.inl h1); exact Or.inr (Or.inr h1)) (fun p hp => by simp at hp ⊢; exact Or.inr hp) (fun p hp => by
    simp at hp
    rcases hp with rfl | rfl
    · exact Or.inr ⟨(Array.getElem?_eq_some_iff.1 h.ra.box).1, prS_box h.mn h.ra.box (by decide) (by decide)⟩
    · exact Or.inl (by simp))

/-- A step more. -/
theorem prSS_put {w W W2 : World} {BO BN BT BM r g8 cap8 n : Nat} {fv gv sv : Value} {A : Aut} {met : List Pair} (h : prNA w W BO BN BT BM r fv gv sv A met) (hk : KR w.heap.size sv.ownBlock W W2) (hor : sv.ownBlock = some g8 ∨ W.heap.size ≤ g8) (hg8 : g8 < W2.heap.size) : KE (prSS BO BT r) W (W2.setCell ⟨BO, 4, none⟩ (.slice (some ⟨g8, 0, none⟩) n cap8)) := by
  have hbo := hk.block h.ra.box h.ra.apart.2.2
  have hset := box_set hbo 4 (.slice (some ⟨g8, 0, none⟩) n cap8)
  have hsz : (W2.setCell ⟨BO, 4, none⟩ (.slice (some ⟨g8, 0, none⟩) n cap8)).heap.size = W2.heap.size := by simp [World.setCell]
  have hsv : ∀ k, sv.ownBlock = some k → prSS BO BT r W k := fun k hk => Or.inr ⟨(BO, 4), by simp, sv, cell_of_row W BO 4 _ _ _ h.ra.box, hk⟩
  refine ⟨hk.below.os, hk.below.tape, hk.below.output, by rw [hsz]; exact hk.size, fun k o ho hs => ?_, fun k hs => ?_⟩
  · rw [heap_setCell_other _ _ _ _ (fun e => hs (Or.inl (by simp [e])))]
    exact hk.block ho (fun e => hs (hsv k e.symm))
  · rcases hs with h1 | ⟨p, hp, u, hu, hr⟩
    · exact Or.inl (Or.inl h1)
    · simp at hp
      rcases hp with rfl | rfl
      · have e := (cell_of_row _ BO 4 _ _ _ hset).symm.trans hu
        have e2 : (.slice (some ⟨g8, 0, none⟩) n cap8 : Value) = u := by simpa using e
        subst e2
        have ek : g8 = k := by simpa [Value.ownBlock] using hr
        subst ek
        rcases hor with h1 | h1
        · exact Or.inl (hsv _ h1)
        · exact Or.inr ⟨h1, by rw [hsz]; exact hg8⟩
      · obtain ⟨v, hv, ho⟩ := h.mn.bt
        have hne : BT ≠ BO := fun e => by
          have h1 := h.ra.box
          rw [← e, hv] at h1
          injection h1 with h1
          injection h1 with _ h2
          exact absurd h2 (by decide)
        have hbt : (W2.setCell ⟨BO, 4, none⟩ (.slice (some ⟨g8, 0, none⟩) n cap8)).heap[BT]? = some (.cells #[v] 68) := by
          rw [heap_setCell_other _ _ _ _ hne]
          exact hk.block hv (fun e => row_apart h.ra.s hv (by decide) BT e.symm rfl)
        have eu := prRow_one hbt hu
        subst eu
        exact Or.inl (Or.inr ⟨(BT, 0), by simp, _, cell_of_row W BT 0 _ _ _ hv, hr⟩)

end Go.Proofs.YtpiacnnifdjlkabDoor
