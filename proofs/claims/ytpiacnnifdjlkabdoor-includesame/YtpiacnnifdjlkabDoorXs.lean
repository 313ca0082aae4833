/-
  Package include: a word that one takes alone.
-/
import Derived.Test.YtpiacnnifdjlkabDoorXq
/-
  A region that draws its order: two calls that answer slices of ints of their own, a struct of both, stored; and what is assigned at the end.
-/
namespace Go.Proofs.YtpiacnnifdjlkabDoor
open Go.RowKit Go.Sort

/-- A slice of ints of one's own. -/
def SpOk (W : World) (base : Nat) (v : Value) (zs : List Int) : Prop := W.ownsRow base 3 1 v zs.length (zs.map (.int .i64))

theorem SpOk.below {W W' : World} {base : Nat} {v : Value} {zs : List Int} (h : SpOk W base v zs) (hb : Below W.heap.size W W') : SpOk W' base v zs := owns_below h hb

theorem gb_below {W1 W W' : World} {r : Option Nat} (h : W1.grownBy W r) (hb : Below W.heap.size W W') : W1.grownBy W' r :=
  ⟨hb.os.trans h.os, hb.tape.trans h.tape, hb.output.trans h.output, Nat.le_trans h.size hb.size, fun k hk hn => (hb.block k (Nat.lt_of_lt_of_le hk h.size)).trans (h.block k hk hn)⟩

def VTwo (W1 : World) (Y : Nat) (ty : TypeId) (zs ys : List Int) (b : Bool) (W : World) : Prop :=
  W1.grownBy W (some Y) ∧ (b = false → Below W1.heap.size W1 W) ∧ (b = true → ∃ hv lv, W.heap[Y]? = some (.cells #[hv, lv] ty) ∧ SpOk W W1.heap.size hv zs ∧ SpOk W W1.heap.size lv ys)

def RTwo (val : Nat → Value) (c1 c2 jb X base : Nat) (zs ys : List Int) (i : Nat) (v : Value) (W : World) : Prop :=
  if i = c1 then SpOk W base v zs else if i = c2 then SpOk W base v ys else if i = jb then ∃ hv lv, v = .agg #[hv, lv] ∧ SpOk W base hv zs ∧ SpOk W base lv ys else i = X ∨ v = val i

theorem RTwo.keep {val : Nat → Value} {c1 c2 jb X base : Nat} {zs ys : List Int} {i : Nat} {v : Value} {W W' : World} (h : RTwo val c1 c2 jb X base zs ys i v W) (hk : ∀ u us, SpOk W base u us → SpOk W' base u us) : RTwo val c1 c2 jb X base zs ys i v W' := by
  unfold RTwo at h ⊢
  by_cases e1 : i = c1
  · rw [if_pos e1] at h ⊢; exact hk _ _ h
  · rw [if_neg e1] at h ⊢
    by_cases e2 : i = c2
    · rw [if_pos e2] at h ⊢; exact hk _ _ h
    · rw [if_neg e2] at h ⊢
      by_cases e3 : i = jb
      · rw [if_pos e3] at h ⊢
        obtain ⟨hv, lv, h1, h2, h3⟩ := h
        exact ⟨hv, lv, h1, hk _ _ h2, hk _ _ h3⟩
      · rw [if_neg e3] at h ⊢; exact h

theorem VTwo.below {W1 : World} {Y : Nat} {ty : TypeId} {zs ys : List Int} {b : Bool} {W W' : World} (h : VTwo W1 Y ty zs ys b W) (hb : Below W.heap.size W W') : VTwo W1 Y ty zs ys b W' :=
  ⟨gb_below h.1 hb, fun e => below_trans (h.2.1 e) hb, fun e => by
    obtain ⟨hv, lv, h1, h2, h3⟩ := h.2.2 e
    exact ⟨hv, lv, belowRow hb h1, h2.below hb, h3.below hb⟩⟩

theorem spOk_setRow {W W1 : World} {Y : Nat} {cs : Array Value} (hY : Y < W1.heap.size) {u : Value} {us : List Int} (h : SpOk W W1.heap.size u us) : SpOk (W.setRow Y cs) W1.heap.size u us :=
  owns_kept h (fun q hq => setRow_other W Y q cs (by have := (h.lt q hq).1; omega))

section
variable {ops : Array Oper} {Q : Exit → Act → World → Prop} {a0 : Act}

theorem wp_region_two {id : Nat} {w : World} (c1 c2 jb X L : Nat) (ds : List (Nat × Tmp)) (val : Nat → Value) {ty : TypeId} {k1 k2 ka kb kd Y : Nat} {cv : Value} {old : Array Value} (zs ys : List Int)
    (hds : dstList ops (List.range L) = ds) (hm : Tryd.prog.follows .mixedOrders = true) (h : orderly ops a0.tmps.size = true) (hh : hung ops = true) (hsz : ops.size = L + 1) (hne : X < L ∧ c1 ≠ c2 ∧ c1 ≠ jb ∧ c2 ≠ jb ∧ X ≠ c1 ∧ X ≠ c2 ∧ X ≠ jb)
    (hopb : ops[jb]?.map (fun o => (o.op, dep o c1, dstAt ops c1, dep o c2, dstAt ops c2)) = some (.build ty #[(0, .tmp k1), (1, .tmp k2)], true, some k1, true, some k2))
    (hopX : ops[X]?.map (fun o => (o.op, o.dst, dep o jb, dstAt ops jb)) = some (.store ty (.tmp ka) (.tmp kb), none, true, some kb)) (hfree : free ops X ka = true) (hka : a0.tmps[ka]?.getD undef = .pointer (some ⟨Y, 0, none⟩))
    (hopL : ops[L]?.map (fun o => (o.op, o.dst)) = some (.assign (.const cv), some kd)) (hY : w.heap[Y]? = some (.cells old ty)) (hold : old.size = 2) (hty : (Tryd.prog.info? ty).map (·.size) = some 2)
    (hbuild : ∀ W a1 n1 p1 a2 n2 p2, (Instr.build ty #[(0, .slice a1 n1 p1), (1, .slice a2 n2 p2)]).run Tryd.prog W = .ok (.agg #[.slice a1 n1 p1, .slice a2 n2 p2]) W)
    (hcall : ∀ i o zs', (i = c1 ∧ zs' = zs ∨ i = c2 ∧ zs' = ys) → ops[i]? = some o → ∀ (a : Act) (W : World), w.grownBy W (some Y) → (∀ t, free ops i t = true → a.tmps[t]?.getD undef = a0.tmps[t]?.getD undef) → (∀ j d, j ≠ c1 → j ≠ c2 → j ≠ jb → j ≠ X → dep o j = true → dstAt ops j = some d → a.tmps[d]?.getD undef = val j) →
      ∃ f args, (execOp a.eval o).run Tryd.prog W = .ok (.enter f args) W ∧ Calls Tryd.prog f args W fun e w' => ∃ v, e = .returned v ∧ SpOk w' W.heap.size v zs' ∧ Below W.heap.size W w')
    (hstep : ∀ i o, i < L → i ≠ c1 → i ≠ c2 → i ≠ jb → i ≠ X → ops[i]? = some o → ∀ (a : Act) (W : World), w.grownBy W (some Y) → (∀ t, free ops i t = true → a.tmps[t]?.getD undef = a0.tmps[t]?.getD undef) → (∀ j d, j ≠ c1 → j ≠ c2 → j ≠ jb → j ≠ X → dep o j = true → dstAt ops j = some d → a.tmps[d]?.getD undef = val j) → (execOp a.eval o).run Tryd.prog W = .ok (.value (val i)) W)
    (hend : ∀ (vs : Nat → Value) (W : World) (hv lv : Value), w.grownBy W (some Y) → W.heap[Y]? = some (.cells #[hv, lv] ty) → SpOk W w.heap.size hv zs → SpOk W w.heap.size lv ys → Q .normal (Act.put { a0 with tmps := putPairs vs ds a0.tmps } (some kd) cv) W) :
    (Code.region id ops true).wp Tryd.prog Q a0 w := by
  have hYlt : Y < w.heap.size := (Array.getElem?_eq_some_iff.1 hY).1
  have toldOf : ∀ {o : Oper} {a : Act} {W : World} {vs : Nat → Value}, (∀ j, dep o j = true → RTwo val c1 c2 jb X w.heap.size zs ys j (vs j) W ∧ ∀ d, dstAt ops j = some d → a.eval (.tmp d) = vs j) → ∀ j d, j ≠ c1 → j ≠ c2 → j ≠ jb → j ≠ X → dep o j = true → dstAt ops j = some d → a.tmps[d]?.getD undef = val j := fun hd j d n1 n2 n3 n4 h1 h2 => by
    have h5 := hd j h1
    rw [← eval_tmp, h5.2 d h2]
    have := h5.1
    unfold RTwo at this
    rw [if_neg n1, if_neg n2, if_neg n3] at this
    rcases this with h | h
    · exact absurd h n4
    · exact h
  cases ho : ops[L]? with
  | none => rw [ho] at hopL; cases hopL
  | some oL =>
    rw [ho] at hopL
    injection hopL with hopL
    injection hopL with hop1 hop2
    refine wp_region_last L X oL ds (VTwo w Y ty zs ys) (RTwo val c1 c2 jb X w.heap.size zs ys) hds hm h hh hsz ho hne.1 ⟨⟨rfl, rfl, rfl, Nat.le_refl _, fun _ _ _ => rfl⟩, fun _ => Below.drew (Below.refl _ _), fun e => by cases e⟩ (fun i o hi hiX hoi b => ?_) (fun o hoX => ?_) fun vs W hW hR => ?_
    · intro a W vs hV he hd
      have kk1 : ∀ t, free ops i t = true → a.tmps[t]?.getD undef = a0.tmps[t]?.getD undef := fun t ht => free_val he t ht
      have kk2 := toldOf hd
      have lowS : ∀ {W' : World} {v : Value} {us : List Int}, SpOk W' W.heap.size v us → SpOk W' w.heap.size v us := fun hs => owns_lowX hs hV.1.size
      by_cases e1 : i = c1 ∨ i = c2
      · obtain ⟨zs', hz⟩ : ∃ zs', (i = c1 ∧ zs' = zs ∨ i = c2 ∧ zs' = ys) := by
          rcases e1 with e | e
          · exact ⟨zs, Or.inl ⟨e, rfl⟩⟩
          · exact ⟨ys, Or.inr ⟨e, rfl⟩⟩
        obtain ⟨f, args, hr, hc⟩ := hcall i o zs' hz hoi a W hV.1 kk1 kk2
        unfold Oper.wp
        rw [hr, Oper.upon_enter]
        refine hc.mono fun e' w' ⟨v, he', hs, hb⟩ => ?_
        subst he'
        refine ⟨_, rfl, hV.below hb, ?_, fun j x hr => hr.keep (fun u us h => h.below hb)⟩
        unfold RTwo
        rcases hz with ⟨e, rfl⟩ | ⟨e, rfl⟩
        · rw [if_pos e]; exact lowS hs
        · rw [if_neg (by rw [e]; exact Ne.symm hne.2.1), if_pos e]; exact lowS hs
      · have n1 : i ≠ c1 := fun e => e1 (Or.inl e)
        have n2 : i ≠ c2 := fun e => e1 (Or.inr e)
        by_cases e3 : i = jb
        · rw [← e3] at hopb
          rw [hoi] at hopb
          injection hopb with hopb
          injection hopb with o1 o2
          injection o2 with o2 o3
          injection o3 with o3 o4
          injection o4 with o4 o5
          have s1 : SpOk W w.heap.size (a.tmps[k1]?.getD undef) zs := by
            have h5 := hd c1 o2
            have h6 := h5.1
            unfold RTwo at h6
            rw [if_pos rfl] at h6
            rw [← eval_tmp, h5.2 k1 o3]
            exact h6
          have s2 : SpOk W w.heap.size (a.tmps[k2]?.getD undef) ys := by
            have h5 := hd c2 o4
            have h6 := h5.1
            unfold RTwo at h6
            rw [if_neg (Ne.symm hne.2.1), if_pos rfl] at h6
            rw [← eval_tmp, h5.2 k2 o5]
            exact h6
          obtain ⟨a1, p1, e1⟩ := owns_form s1
          obtain ⟨a2, p2, e2⟩ := owns_form s2
          unfold Oper.wp execOp
          simp only [o1, List.map_toArray, List.map_cons, List.map_nil, eval_tmp, e1, e2, Sem.run_bind, hbuild, Sem.run_pure, Result.andThen_ok]
          refine ⟨_, rfl, hV, ?_, fun _ _ h => h⟩
          unfold RTwo
          rw [if_neg n1, if_neg n2, if_pos e3]
          exact ⟨_, _, rfl, by rw [e1] at s1; exact s1, by rw [e2] at s2; exact s2⟩
        · have hr := hstep i o hi n1 n2 e3 hiX hoi a W hV.1 kk1 kk2
          unfold Oper.wp
          rw [hr]
          refine ⟨_, rfl, hV, ?_, fun _ _ h => h⟩
          unfold RTwo
          rw [if_neg n1, if_neg n2, if_neg e3]
          exact Or.inr rfl
    · intro a W vs hV he hd
      rw [hoX] at hopX
      injection hopX with hopX
      injection hopX with o1 o2
      injection o2 with o2 o3
      injection o3 with o3 o4
      obtain ⟨hv, lv, e8, s1, s2⟩ : ∃ hv lv, a.tmps[kb]?.getD undef = .agg #[hv, lv] ∧ SpOk W w.heap.size hv zs ∧ SpOk W w.heap.size lv ys := by
        have h5 := hd jb o3
        have h6 := h5.1
        unfold RTwo at h6
        rw [if_neg (Ne.symm hne.2.2.1), if_neg (Ne.symm hne.2.2.2.1), if_pos rfl] at h6
        obtain ⟨hv, lv, h7, h8, h9⟩ := h6
        exact ⟨hv, lv, by rw [← eval_tmp, h5.2 kb o4, h7], h8, h9⟩
      have hk := (free_val he ka hfree).trans hka
      have hYW := belowRow (hV.2.1 rfl) hY
      obtain ⟨a1, p1, e1⟩ := owns_form s1
      obtain ⟨a2, p2, e2⟩ := owns_form s2
      have hst := store_row (cs := #[hv, lv]) (ty := ty) hYW (by rw [hty]; rfl) (by rw [hold]; rfl) (by rw [e1, e2]; simp [Value.oneCell'])
      unfold Oper.wp execOp
      simp only [o1, eval_tmp, hk, e8, Sem.run_bind, hst, Result.andThen_ok, Sem.run_pure]
      show ∃ v, Act.put a o.dst undef = a.put o.dst v ∧ _
      refine ⟨_, rfl, ⟨⟨hV.1.os, hV.1.tape, hV.1.output, by rw [setRow_size]; exact hV.1.size, fun k hk' hn => ?_⟩, fun e => Bool.noConfusion e, fun _ => ⟨hv, lv, setRow_heap W Y _ #[hv, lv] _ _ hYW, spOk_setRow hYlt s1, spOk_setRow hYlt s2⟩⟩, ?_, fun j x _ hr => hr.keep (fun u us h => spOk_setRow hYlt h)⟩
      · rw [setRow_other W Y k _ (fun e => hn (by rw [e]))]
        exact hV.1.block k hk' hn
      · unfold RTwo
        rw [if_neg hne.2.2.2.2.1, if_neg hne.2.2.2.2.2.1, if_neg hne.2.2.2.2.2.2]
        exact Or.inl rfl
    · obtain ⟨hv, lv, h1, h2, h3⟩ := hW.2.2 rfl
      unfold Oper.wp execOp
      simp only [hop1, Act.eval, Sem.run_pure]
      show Q .normal (Act.put _ oL.dst cv) W
      rw [hop2]
      exact hend vs W hv lv hW.1 h1 h2 h3
end

end Go.Proofs.YtpiacnnifdjlkabDoor

namespace Go.Proofs.YtpiacnnifdjlkabDoor
open Go.RowKit Go.Sort

theorem own_remark {W : World} {base g n cap : Nat} {all : List Rm} (h : W.ownsRow base 119 3 (.slice (some ⟨g, 0, none⟩) n cap) n (all.flatMap rmE)) {c : Nat} (hc : c < all.length) : W.cell? ⟨g, c * 3, none⟩ = some (.int .u8 (all[c].1.1 : Nat)) ∧ W.cell? ⟨g, c * 3 + 1, none⟩ = some (.int .u8 (all[c].1.2 : Nat)) ∧ W.cell? ⟨g, c * 3 + 2, none⟩ = some (.int .i64 (all[c].2 : Nat)) := by
  have hr := own_range h (c * 3) 3
  rw [flat_part (f := rmE) (k := 3) all c hc (fun _ _ => rfl)] at hr
  exact ⟨hr 0 _ rfl, hr 1 _ rfl, hr 2 _ rfl⟩

/-- What is told of a word that one takes alone. -/
structure AloneMade (A B : Aut) (m : Nat) (w w' : World) (b : Bool) (hv lv : Value) : Prop where
  yes : b = true → ∃ hs ls : List Int, IntSl w' hv hs ∧ IntSl w' lv ls ∧ hs.length < 64 ∧ 0 < ls.length ∧ ls.length < 3888 ∧ (∀ c ∈ hs, 0 ≤ c ∧ c < m) ∧ (∀ c ∈ ls, 0 ≤ c ∧ c < m) ∧ TakesI A (lat hs ls) ∧ ¬ TakesI B (lat hs ls)
  no : b = false → hv = .slice none 0 0 ∧ lv = .slice none 0 0 ∧ ∀ hs ls : List Int, 0 < ls.length → (∀ c ∈ hs, 0 ≤ c ∧ c < m) → (∀ c ∈ ls, 0 ≤ c ∧ c < m) → TakesI A (lat hs ls) → TakesI B (lat hs ls)
  bl : Below w.heap.size w w'

theorem threeOf {A : Aut} (hR : Right A) (h3 : A.n ≤ 3) : Three A ∧ ∀ z ∈ A.first, 0 ≤ z ∧ z < 3 := by
  have h1 : ∀ z ∈ A.first, 0 ≤ z ∧ z < 3 := fun z hz => by have := hR.first z hz; omega
  refine ⟨⟨fun z hz => by have := h1 z hz; omega, fun s hs y hy => by have := hR.steps s hs; omega⟩, h1⟩

set_option maxRecDepth 100000 in
set_option maxHeartbeats 1000000 in
theorem alone_any {w : World} {va vb : Value} {A B : Aut} {mN : Nat} (hA : AutV w va A) (hB : AutV w vb B) (hRA : Right A) (hRB : Right B) (h3A : A.n ≤ 3) (h3B : B.n ≤ 3) (hm : A.m = (mN : Nat)) (hm2 : mN ≤ 2) :
    Calls Tryd.prog 36 #[va, vb] w fun e w' => ∃ b hv lv, e = .returned (.tuple #[.agg #[hv, lv], .bool b]) ∧ AloneMade A B mN w w' b hv lv := by
  have HBx := hide (fun W (hb : Below w.heap.size w W) => boxes_any (hA.below hb) (hB.below hb) hRA hRB h3A h3B hm hm2)
  obtain ⟨t3A, f3A⟩ := threeOf hRA h3A
  obtain ⟨t3B, f3B⟩ := threeOf hRB h3B
  have HT := hide (And.intro t3A t3B)
  have HF := hide (And.intro f3A f3B)
  clear hRA hRB h3A h3B hm t3A t3B f3A f3B
  obtain ⟨fv, gv, sv, rfl, h1, h2, h3⟩ := hA
  have HfA := hide h1
  obtain ⟨a1, c1, rfl, -⟩ := h1
  obtain ⟨a2, c2, rfl, -⟩ := h2
  obtain ⟨a3, c3, rfl, -⟩ := h3
  obtain ⟨fv, gv, sv, rfl, h1, h2, h3⟩ := hB
  have HfB := hide h1
  obtain ⟨a4, c4, rfl, -⟩ := h1
  obtain ⟨a5, c5, rfl, -⟩ := h2
  obtain ⟨a6, c6, rfl, -⟩ := h3
  generalize A.n = nA at *
  generalize A.m = mA at *
  generalize B.n = nB at *
  generalize B.m = mB at *
  generalize A.first.length = l1 at *
  generalize A.good.length = l2 at *
  generalize A.steps.length = l3 at *
  generalize B.first.length = l4 at *
  generalize B.good.length = l5 at *
  generalize B.steps.length = l6 at *
  have hR3 := three_alloc w (Obj.cells #[Value.int .i64 nA, .int .i64 mA, .slice a1 l1 c1, .slice a2 l2 c2, .slice a3 l3 c3] 26) (Obj.cells #[Value.int .i64 nB, .int .i64 mB, .slice a4 l4 c4, .slice a5 l5 c5, .slice a6 l6 c6] 26) (Obj.cells #[Value.slice none 0 0, .slice none 0 0] 28)
  have HR := hide hR3
  have HW0 : Hid (Below w.heap.size w (((w.alloc (Obj.cells #[Value.int .i64 nA, .int .i64 mA, .slice a1 l1 c1, .slice a2 l2 c2, .slice a3 l3 c3] 26)).alloc (Obj.cells #[Value.int .i64 nB, .int .i64 mB, .slice a4 l4 c4, .slice a5 l5 c5, .slice a6 l6 c6] 26)).alloc (Obj.cells #[Value.slice none 0 0, .slice none 0 0] 28))) := hide (by repeat (first | exact Below.refl _ _ | assumption | refine below_drewN ?_ _ | refine Below.drew ?_ | refine Below.alloc ?_ (by simp <;> omega) _ | refine below_trans ?_ (by assumption)))
  have HLa := hide (auto_load hR3.1 rfl)
  have HLb := hide (auto_load hR3.2.1 rfl)
  have HZ : Hid ((((w.alloc (Obj.cells #[Value.int .i64 nA, .int .i64 mA, .slice a1 l1 c1, .slice a2 l2 c2, .slice a3 l3 c3] 26)).alloc (Obj.cells #[Value.int .i64 nB, .int .i64 mB, .slice a4 l4 c4, .slice a5 l5 c5, .slice a6 l6 c6] 26)).alloc (Obj.cells #[Value.slice none 0 0, .slice none 0 0] 28)).heap.size = w.heap.size + 1 + 1 + 1) := hide (by simp)
  clear hR3
  go_enter Tryd.func36, Tryd.ntmps36
  go_upto_region 1 with (fail)
  generalize (((w.alloc (Obj.cells #[Value.int .i64 nA, .int .i64 mA, .slice a1 l1 c1, .slice a2 l2 c2, .slice a3 l3 c3] 26)).alloc (Obj.cells #[Value.int .i64 nB, .int .i64 mB, .slice a4 l4 c4, .slice a5 l5 c5, .slice a6 l6 c6] 26)).alloc (Obj.cells #[Value.slice none 0 0, .slice none 0 0] 28)) = W0 at *
  go_wp2_with (first | (show wpList _ _ _ (⟨some 13, _, _, _, _, _⟩ :: _) _ _; refine wpl_load HLa.out rfl rfl rfl ?_) | (show wpList _ _ _ (⟨some 14, _, _, _, _, _⟩ :: _) _ _; refine wpl_load HLb.out rfl rfl rfl ?_))
  go_fit (HBx.out W0 HW0.out)
  rintro e w1 ⟨mv, E, rfl, hM⟩
  obtain ⟨am, cm, rfl⟩ := owns_form hM.own
  have HM := hide hM
  have HW1 := hide (below_trans HW0.out hM.bl)
  have HR1 := hide (And.intro (belowRow hM.bl HR.out.1) (And.intro (belowRow hM.bl HR.out.2.1) (belowRow hM.bl HR.out.2.2)))
  have hZ1 : w.heap.size + 1 + 1 + 1 ≤ w1.heap.size := by have := hM.bl.size; rw [HZ.out] at this; exact this
  have HH := hide (notedHeads_any (f := headS A B) (pa := .pointer (some ⟨w.heap.size, 0, none⟩)) (pb := .pointer (some ⟨w.heap.size + 1, 0, none⟩)) hM.own hM.ok hM.few (fun W b hb hk => headPair_any hk (belowRow hb HR1.out.1) (belowRow hb HR1.out.2.1) (HfA.out.below (below_trans HW1.out hb)) (HfB.out.below (below_trans HW1.out hb)) HF.out.1 HF.out.2))
  clear hM HLa HLb HBx HR
  go_wp2_with (fail)
  go_fit HH.out
  rintro e w2 ⟨hv, heads, rfl, hoH, hnH, hb2⟩
  obtain ⟨ah, ch, rfl⟩ := owns_form hoH
  have HoH := hide hoH
  have HnH := hide hnH
  have HM2 := hide (owns_below HM.out.own hb2)
  have HLo := hide (notedLoops_any (f := loopS) HM2.out HM.out.ok HM.out.few (fun W b hb hk => loopPair_any hk))
  have HB2 := hide hb2
  clear hoH hnH hb2 HH
  go_wp2_with (fail)
  go_fit HLo.out
  rintro e w3 ⟨lv, loops, rfl, hoL, hnL, hb3⟩
  obtain ⟨al, cl, rfl⟩ := owns_form hoL
  have HoL := hide hoL
  have HnL := hide hnL
  have HoH3 := hide (owns_below HoH.out hb3)
  have HM3 := hide (owns_below HM2.out hb3)
  have HB3 := hide (below_trans HB2.out hb3)
  have HR3 := hide (belowRow HB3.out HR1.out.2.2)
  have HW3 := hide (below_trans HW1.out HB3.out)
  have hZ3 : w.heap.size + 1 + 1 + 1 ≤ w3.heap.size := Nat.le_trans hZ1 HB3.out.size
  clear hoL hnL hb3 HLo HB2 HoH HM2 hZ1
  have hfL : loops.length ≤ 387420489 := by have := noted_len HnL.out; have := HM.out.few; omega
  have hfH : heads.length ≤ 387420489 := by have := noted_len HnH.out; have := HM.out.few; omega
  go_wp2_with (fail)
  go_loopw [23] (fun kv wr => ∃ k : Nat, k ≤ loops.length ∧ kv = .int .i64 k ∧ Hid (Below w3.heap.size w3 wr ∧ ∀ y' ∈ loops.take k, ∀ x' ∈ heads, hitS x'.1 y'.1 = false)) (fun kv _ => loops.length - (intOf kv).toNat)
  case atStart => exact ⟨0, by omega, rfl, hide ⟨Below.refl _ _, fun y' hy' => by simp at hy'⟩⟩
  case round =>
    obtain ⟨k, hk, rfl, hS⟩ := hrel
    by_cases hkl : k < loops.length
    · obtain ⟨gl, cl', hl⟩ := owns_some HoL.out (by omega)
      injection hl with hl1 hl2 hl3
      subst hl1
      subst hl3
      obtain ⟨y, hy⟩ : ∃ y, y = loops[k] := ⟨_, rfl⟩
      obtain ⟨d0, d1, d2⟩ := own_remark (owns_below HoL.out hS.out.1) hkl
      rw [← hy] at d0 d1 d2
      have HY := hide hy
      have hb4 := below_new wr (Obj.cells #[Value.int .u8 (y.1.1 : Nat), .int .u8 (y.1.2 : Nat), .int .i64 (y.2 : Nat)] 119)
      have HNy0 := hide (one_new wr (Obj.cells #[Value.int .u8 (y.1.1 : Nat), .int .u8 (y.1.2 : Nat), .int .i64 (y.2 : Nat)] 119))
      have HB4 := hide (below_trans hS.out.1 hb4)
      have HNo := hide hS.out.2
      have HB4k : Hid (w.heap.size + 1 + 1 + 1 ≤ wr.heap.size) := hide (Nat.le_trans hZ3 hS.out.1.size)
      clear hy hb4 hS
      go_wp2_with (fail)
      obtain ⟨wk, hwk⟩ : ∃ wk, wk = wr := ⟨_, rfl⟩
      subst hwk
      clear d0 d1 d2
      have hwk4 : (wk.alloc (Obj.cells #[Value.int .u8 (y.1.1 : Nat), .int .u8 (y.1.2 : Nat), .int .i64 (y.2 : Nat)] 119)).heap.size = wk.heap.size + 1 := by simp
      have HWK := hide hwk4
      clear hwk4
      generalize wk.alloc (Obj.cells #[Value.int .u8 (y.1.1 : Nat), .int .u8 (y.1.2 : Nat), .int .i64 (y.2 : Nat)] 119) = W4 at *
      go_loopw [29] (fun jv wr => ∃ j : Nat, j ≤ heads.length ∧ jv = .int .i64 j ∧ Hid (Below W4.heap.size W4 wr ∧ ∀ x' ∈ heads.take j, hitS x'.1 y.1 = false)) (fun jv _ => heads.length - (intOf jv).toNat)
      case atStart => exact ⟨0, by omega, rfl, hide ⟨Below.refl _ _, fun x' hx' => by simp at hx'⟩⟩
      case round =>
        obtain ⟨j, hj, rfl, hS⟩ := hrel
        by_cases hjl : j < heads.length
        · obtain ⟨gh, ch', hh⟩ := owns_some HoH3.out (by omega)
          injection hh with hh1 hh2 hh3
          subst hh1
          subst hh3
          obtain ⟨x, hx⟩ : ∃ x, x = heads[j] := ⟨_, rfl⟩
          obtain ⟨d0, d1, d2⟩ := own_remark (owns_below HoH3.out (below_trans HB4.out hS.out.1)) hjl
          rw [← hx] at d0 d1 d2
          have HX := hide hx
          have hxm : x ∈ heads := by rw [hx]; exact List.getElem_mem hjl
          have hym : y ∈ loops := by rw [HY.out]; exact List.getElem_mem hkl
          have hxn := HnH.out.mem x hxm
          have hyn := HnL.out.mem y hym
          have b1 : x.1.1 < 8 ∧ x.1.2 < 8 := by rw [← hxn.2.1]; exact ⟨bits3_lt _, bits3_lt _⟩
          have b2 : y.1.1 < 8 ∧ y.1.2 < 8 := by rw [← hyn.2.1]; exact ⟨bits3_lt _, bits3_lt _⟩
          have Hlt : Hid (x.2 < E.length ∧ y.2 < E.length) := hide ⟨hxn.1, hyn.1⟩
          have hb5 := below_new wr (Obj.cells #[Value.int .u8 (x.1.1 : Nat), .int .u8 (x.1.2 : Nat), .int .i64 (x.2 : Nat)] 119)
          have HNx := hide (one_new wr (Obj.cells #[Value.int .u8 (x.1.1 : Nat), .int .u8 (x.1.2 : Nat), .int .i64 (x.2 : Nat)] 119))
          have HNy := hide (belowRow (below_trans hS.out.1 hb5) HNy0.out)
          have HB5 := hide (below_trans (below_trans HB4.out hS.out.1) hb5)
          have HB45 := hide (below_trans hS.out.1 hb5)
          have HNoJ := hide hS.out.2
          have hwr : wk.heap.size < wr.heap.size := by have := hS.out.1.size; have := HWK.out; omega
          have HXM := hide hxm
          clear hx hxn hyn hb5 hS hym hxm
          obtain ⟨h11, h12⟩ := b1
          obtain ⟨h21, h22⟩ := b2
          have q0 := cell_of_row _ _ 0 _ _ _ HNx.out
          have q1 := cell_of_row _ _ 1 _ _ _ HNx.out
          have p0 := cell_of_row _ _ 0 _ _ _ HNy.out
          have p1 := cell_of_row _ _ 1 _ _ _ HNy.out
          go_wp2_with (fail)
          have HW5 : Hid ((wr.alloc (Obj.cells #[Value.int .u8 (x.1.1 : Nat), .int .u8 (x.1.2 : Nat), .int .i64 (x.2 : Nat)] 119)).heap.size = wr.heap.size + 1) := hide (by simp)
          clear q0 q1 p0 p1 d0 d1 d2
          generalize wr.alloc (Obj.cells #[Value.int .u8 (x.1.1 : Nat), .int .u8 (x.1.2 : Nat), .int .i64 (x.2 : Nat)] 119) = W5 at *
          refine (iMeets_any h11 h21).mono ?_
          rintro e w6 ⟨rfl, hb6⟩
          have HB56 := hide hb6
          have q1 := cell_of_row _ _ 1 _ _ _ (belowRow hb6 HNx.out)
          have p1 := cell_of_row _ _ 1 _ _ _ (belowRow hb6 HNy.out)
          have HHit : Hid (hitS x.1 y.1 = ((x.1.1 &&& y.1.1 != 0) && !(x.1.2 &&& y.1.2 != 0))) := hide rfl
          clear hb6
          generalize hbA : (x.1.1 &&& y.1.1 != 0) = bA at *
          clear hbA
          cases bA with
          | false =>
            have HS7 : Hid (Below W4.heap.size W4 w6 ∧ ∀ x' ∈ heads.take (j + 1), hitS x'.1 y.1 = false) := hide ⟨below_trans HB45.out HB56.out, fun x' hx' => by
              rw [List.take_succ_eq_append_getElem hjl] at hx'
              rcases List.mem_append.1 hx' with h | h
              · exact HNoJ.out x' h
              · have e : x' = x := by rw [HX.out]; simpa using h
                rw [e, HHit.out]
                rfl⟩
            go_wp2_with (fail)
            go_roundw
            case rel => exact ⟨j + 1, by omega, by go_num, HS7⟩
            case measure => simp [intOf]; omega
          | true =>
            go_wp2_with (fail)
            refine (iMeets_any h12 h22).mono ?_
            rintro e w7 ⟨rfl, hb7⟩
            have HB57 := hide (below_trans HB56.out hb7)
            clear hb7 q1 p1
            generalize hbB : (x.1.2 &&& y.1.2 != 0) = bB at *
            clear hbB
            cases bB with
            | true =>
              have HS7 : Hid (Below W4.heap.size W4 w7 ∧ ∀ x' ∈ heads.take (j + 1), hitS x'.1 y.1 = false) := hide ⟨below_trans HB45.out HB57.out, fun x' hx' => by
                rw [List.take_succ_eq_append_getElem hjl] at hx'
                rcases List.mem_append.1 hx' with h | h
                · exact HNoJ.out x' h
                · have e : x' = x := by rw [HX.out]; simpa using h
                  rw [e, HHit.out]
                  rfl⟩
              go_wp2_with (fail)
              go_roundw
              case rel => exact ⟨j + 1, by omega, by go_num, HS7⟩
              case measure => simp [intOf]; omega
            | false =>
              have HNx7 := hide (belowRow HB57.out HNx.out)
              have HNy7 := hide (belowRow HB57.out HNy.out)
              have HB7 := hide (below_trans HB5.out HB57.out)
              have hsz7 := HB57.out.size
              rw [HW5.out] at hsz7
              have hlx : wr.heap.size < w7.heap.size := by omega
              have hly : wk.heap.size < w7.heap.size := by omega
              have hsk : w.heap.size + 1 + 1 + 1 ≤ wk.heap.size := by have := HB4k.out; omega
              have hnx : wr.heap.size ≠ w.heap.size + 1 + 1 := by omega
              have hny : wk.heap.size ≠ w.heap.size + 1 + 1 := by omega
              have HM7 := hide (owns_below HM3.out HB7.out)
              have HMy : Hid (∀ W, w7.grownBy W (some (w.heap.size + 1 + 1)) → W.ownsRow W0.heap.size 144 20 (.slice am E.length cm) E.length (E.flatMap enE)) := hide fun W hg => owns_kept HM7.out (fun q hq => by
                have h1 := HM7.out.lt q hq
                have h2 := HZ.out
                exact hg.block q h1.2 (by simp; omega))
              have HY7 := hide (belowRow HB7.out HR3.out)
              have HF1 := hide (first_found HT.out.1 HT.out.2 HM.out.bfs HnH.out HnL.out HXM.out (done := loops.take k) (rest := loops.drop (k + 1)) (y := y) (by rw [HY.out, ← List.drop_eq_getElem_cons hkl, List.take_append_drop]) HNo.out (by rw [HHit.out]; rfl))
              have HWl := hide (below_trans HW3.out HB7.out)
              clear hsz7 hsk
              go_wp2_with (fail)
              rename_i Q' K hK
              refine wp_region_two 3 7 8 9 10 [(0, 50), (1, 51), (2, 52), (3, 53), (4, 54), (5, 55), (6, 56), (7, 57), (8, 58)] (fun j => match j with | 0 => .slice am E.length cm | 1 => .pointer (some ⟨wr.heap.size, 2, none⟩) | 2 => .int .i64 (x.2 : Nat) | 3 => undef | 4 => .slice am E.length cm | 5 => .pointer (some ⟨wk.heap.size, 2, none⟩) | 6 => .int .i64 (y.2 : Nat) | 7 => undef | 8 => undef | _ => undef) (ty := 28) (k1 := 53) (k2 := 57) (ka := 4) (kb := 58) (kd := 5) (Y := w.heap.size + 1 + 1) (cv := .bool true) (old := #[Value.slice none 0 0, .slice none 0 0]) (toZ (spB (enA bxNone E) (enL bxNone E) E.length x.2)) (toZ (spB (enA bxNone E) (enL bxNone E) E.length y.2)) (by kernel_rfl) (by kernel_rfl) (by kernel_rfl) (by kernel_rfl) (by kernel_rfl) (by omega) (by kernel_rfl) (by kernel_rfl) (by kernel_rfl) (by kernel_rfl) (by kernel_rfl) HY7.out rfl (by kernel_rfl) (fun W a1 n1 p1 a2 n2 p2 => by simp [go_sem]) ?_ ?_ ?_
              · clear hK
                intro i o zs' hz ho
                rcases hz with ⟨rfl, rfl⟩ | ⟨rfl, rfl⟩
                · obtain rfl := Option.some.inj ho
                  intro a W hW he hd
                  have v0 : a.tmps[50]?.getD undef = .slice am E.length cm := hd 0 50 (by omega) (by omega) (by omega) (by omega) (by kernel_rfl) (by kernel_rfl)
                  have v2 : a.tmps[52]?.getD undef = .int .i64 (x.2 : Nat) := hd 2 52 (by omega) (by omega) (by omega) (by omega) (by kernel_rfl) (by kernel_rfl)
                  refine ⟨71, #[.slice am E.length cm, .int .i64 (x.2 : Nat)], by simp [execOp, go_sem, v0, v2], (spell_any (HMy.out W hW) HM.out.ok HM.out.bfs (Hlt.out.1) HM.out.few).mono ?_⟩
                  rintro e w' ⟨v, rfl, h1, h2⟩
                  exact ⟨v, rfl, by unfold SpOk; rw [toZ_length]; exact h1, h2⟩
                · obtain rfl := Option.some.inj ho
                  intro a W hW he hd
                  have v4 : a.tmps[54]?.getD undef = .slice am E.length cm := hd 4 54 (by omega) (by omega) (by omega) (by omega) (by kernel_rfl) (by kernel_rfl)
                  have v6 : a.tmps[56]?.getD undef = .int .i64 (y.2 : Nat) := hd 6 56 (by omega) (by omega) (by omega) (by omega) (by kernel_rfl) (by kernel_rfl)
                  refine ⟨71, #[.slice am E.length cm, .int .i64 (y.2 : Nat)], by simp [execOp, go_sem, v4, v6], (spell_any (HMy.out W hW) HM.out.ok HM.out.bfs (Hlt.out.2) HM.out.few).mono ?_⟩
                  rintro e w' ⟨v, rfl, h1, h2⟩
                  exact ⟨v, rfl, by unfold SpOk; rw [toZ_length]; exact h1, h2⟩
              · clear hK
                intro j o hj n1 n2 n3 n4 ho
                match j, ho with
                | 0, ho =>
                  obtain rfl := Option.some.inj ho
                  intro a W hW he hd
                  have e6 : a.tmps[6]?.getD undef = .slice am E.length cm := he 6 (by kernel_rfl)
                  simp [execOp, go_sem, e6]
                | 1, ho =>
                  obtain rfl := Option.some.inj ho
                  intro a W hW he hd
                  have e12 : a.tmps[12]?.getD undef = .pointer (some ⟨wr.heap.size, 0, none⟩) := he 12 (by kernel_rfl)
                  simp [execOp, go_sem, e12]
                | 2, ho =>
                  obtain rfl := Option.some.inj ho
                  intro a W hW he hd
                  have v1 : a.tmps[51]?.getD undef = .pointer (some ⟨wr.heap.size, 2, none⟩) := hd 1 51 (by omega) (by omega) (by omega) (by omega) (by kernel_rfl) (by kernel_rfl)
                  have q2 := cell_of_row W _ 2 _ _ _ ((hW.block _ hlx (by simpa using hnx)).trans HNx7.out)
                  simp [execOp, go_sem, v1, q2]
                | 3, _ => exact absurd rfl (by first | exact n1 | exact n2 | exact n3)
                | 4, ho =>
                  obtain rfl := Option.some.inj ho
                  intro a W hW he hd
                  have e6 : a.tmps[6]?.getD undef = .slice am E.length cm := he 6 (by kernel_rfl)
                  simp [execOp, go_sem, e6]
                | 5, ho =>
                  obtain rfl := Option.some.inj ho
                  intro a W hW he hd
                  have e10 : a.tmps[10]?.getD undef = .pointer (some ⟨wk.heap.size, 0, none⟩) := he 10 (by kernel_rfl)
                  simp [execOp, go_sem, e10]
                | 6, ho =>
                  obtain rfl := Option.some.inj ho
                  intro a W hW he hd
                  have v5 : a.tmps[55]?.getD undef = .pointer (some ⟨wk.heap.size, 2, none⟩) := hd 5 55 (by omega) (by omega) (by omega) (by omega) (by kernel_rfl) (by kernel_rfl)
                  have q2 := cell_of_row W _ 2 _ _ _ ((hW.block _ hly (by simpa using hny)).trans HNy7.out)
                  simp [execOp, go_sem, v5, q2]
                | 7, _ => exact absurd rfl (by first | exact n1 | exact n2 | exact n3)
                | 8, _ => exact absurd rfl (by first | exact n1 | exact n2 | exact n3)
                | 9, _ => exact absurd rfl n4
                | n + 10, _ => exact absurd hj (by omega)
              · intro vs W hv lv hg hYr s1 s2
                obtain ⟨ah', ph', rfl⟩ := owns_form s1
                obtain ⟨al', pl', rfl⟩ := owns_form s2
                have z0 := cell_of_row _ _ 0 _ _ _ hYr
                have z1 := cell_of_row _ _ 1 _ _ _ hYr
                have HMade : Hid (AloneMade A B mN w W true (.slice ah' (toZ (spB (enA bxNone E) (enL bxNone E) E.length x.2)).length ph') (.slice al' (toZ (spB (enA bxNone E) (enL bxNone E) E.length y.2)).length pl')) := hide ⟨fun _ => ⟨toZ (spB (enA bxNone E) (enL bxNone E) E.length x.2), toZ (spB (enA bxNone E) (enL bxNone E) E.length y.2), intSl_of_owns s1, intSl_of_owns s2, by rw [toZ_length]; exact HF1.out.2.2.1, by rw [toZ_length]; exact HF1.out.2.2.2.1, by rw [toZ_length]; exact HF1.out.2.2.2.2.1, HF1.out.2.2.2.2.2.1, HF1.out.2.2.2.2.2.2.1, HF1.out.2.2.2.2.2.2.2.1, HF1.out.2.2.2.2.2.2.2.2⟩, fun e => (by cases e), Below.grown HWl.out hg HWl.out.size (fun k hk => by have h9 : w.heap.size + 1 + 1 = k := (by simpa using hk); omega)⟩
                clear hg hYr s1 s2
                simp only [putPairs, Act.put, List.setIfInBounds_toArray, List.set_cons_succ, List.set_cons_zero]
                go_wp2_with (fail)
                exact bodyPost_ret (v := .tuple #[.agg #[.slice ah' (toZ (spB (enA bxNone E) (enL bxNone E) E.length x.2)).length ph', .slice al' (toZ (spB (enA bxNone E) (enL bxNone E) E.length y.2)).length pl'], .bool true]) (by simp [results, Tryd.results36, go_sem, z0, z1]) rfl ⟨true, _, _, rfl, HMade.out⟩
        · have hjH : j = heads.length := by omega
          have HS7 : Hid (Below w3.heap.size w3 wr ∧ ∀ y' ∈ loops.take (k + 1), ∀ x' ∈ heads, hitS x'.1 y'.1 = false) := hide ⟨below_trans HB4.out hS.out.1, fun y' hy' x' hx' => by
            rw [List.take_succ_eq_append_getElem hkl] at hy'
            rcases List.mem_append.1 hy' with h | h
            · exact HNo.out y' h x' hx'
            · have e : y' = y := by rw [HY.out]; simpa using h
              rw [e]
              exact hS.out.2 x' (by rw [hjH, List.take_length]; exact hx')⟩
          clear hjH
          go_wp2_with (fail)
          go_roundw
          case rel => exact ⟨k + 1, by omega, by go_num, HS7⟩
          case measure => simp [intOf]; omega
    · have hkL : k = loops.length := by omega
      have hyr := belowRow hS.out.1 HR3.out
      have z0 := cell_of_row _ _ 0 _ _ _ hyr
      have z1 := cell_of_row _ _ 1 _ _ _ hyr
      have zf : ∀ o, wr.frozen? ⟨w.heap.size + 1 + 1, o, none⟩ = false := fun o => by simp [World.frozen?, hyr]
      have HNF : Hid (∀ hs ls : List Int, 0 < ls.length → (∀ c ∈ hs, 0 ≤ c ∧ c < mN) → (∀ c ∈ ls, 0 ≤ c ∧ c < mN) → TakesI A (lat hs ls) → TakesI B (lat hs ls)) := hide fun hs ls h1 h2 h3 h4 => none_found HT.out.1 HT.out.2 HM.out.bfs HnH.out HnL.out (fun y' hy' x' hx' => hS.out.2 y' (by rw [hkL, List.take_length]; exact hy') x' hx') h1 h2 h3 h4
      have HB8 := hide (below_trans HW3.out hS.out.1)
      clear hkL hyr
      go_wp2_with (fail)
      exact bodyPost_ret (v := .tuple #[.agg #[.slice none 0 0, .slice none 0 0], .bool false]) (by simp [results, Tryd.results36, go_sem, z0, z1]) rfl ⟨false, _, _, rfl, ⟨fun e => (by cases e), fun _ => ⟨rfl, rfl, HNF.out⟩, (HB8.out.setCell (by show w.heap.size ≤ w.heap.size + 1 + 1; omega) _).setCell (by show w.heap.size ≤ w.heap.size + 1 + 1; omega) _⟩⟩

end Go.Proofs.YtpiacnnifdjlkabDoor
