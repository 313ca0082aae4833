/-
  Package include: what is noted of all boxes.
-/
import Derived.Test.YtpiacnnifdjlkabDoorXo
/-
  Package include: what is noted of a box.
-/
namespace Go.Proofs.YtpiacnnifdjlkabDoor
open Go.RowKit Go.Sort

theorem prSize : (Tryd.prog.info? 114).map (·.size) = some 2 := by kernel_rfl

set_option maxRecDepth 100000 in
set_option maxHeartbeats 1000000 in
theorem headPair_any {w : World} {x : Bx} {A B : Aut} {pa pb : Nat} {n1 m1 n2 m2 : Int} {fA gA sA fB gB sB : Value} (hx : bOk x) (ha : w.heap[pa]? = some (.cells #[.int .i64 n1, .int .i64 m1, fA, gA, sA] 26)) (hb : w.heap[pb]? = some (.cells #[.int .i64 n2, .int .i64 m2, fB, gB, sB] 26)) (hfA : IntSl w fA A.first) (hfB : IntSl w fB B.first) (h3A : ∀ z ∈ A.first, 0 ≤ z ∧ z < 3) (h3B : ∀ z ∈ B.first, 0 ≤ z ∧ z < 3) :
    Calls Tryd.prog 66 #[bxV x, .pointer (some ⟨pa, 0, none⟩), .pointer (some ⟨pb, 0, none⟩)] w fun e w' => e = .returned (pV (headS A B x)) ∧ Below w.heap.size w w' := by
  have HX := hide hx
  have HR := hide (two_alloc w (Obj.cells (bxE x).toArray 111) (Obj.cells #[Value.int .u8 0, .int .u8 0] 114))
  have HW : Hid (Below w.heap.size w ((w.alloc (Obj.cells (bxE x).toArray 111)).alloc (Obj.cells #[Value.int .u8 0, .int .u8 0] 114))) := hide (by repeat (first | exact Below.refl _ _ | assumption | refine below_drewN ?_ _ | refine Below.drew ?_ | refine Below.alloc ?_ (by simp <;> omega) _ | refine below_trans ?_ (by assumption)))
  have Ha := hide ha
  have Hb := hide hb
  have HfA := hide hfA
  have HfB := hide hfB
  have H3A := hide h3A
  have H3B := hide h3B
  clear hx ha hb hfA hfB h3A h3B
  go_enter Tryd.func66, Tryd.ntmps66
  go_upto_region 1 with (fail)
  generalize ((w.alloc (Obj.cells (bxE x).toArray 111)).alloc (Obj.cells #[Value.int .u8 0, .int .u8 0] 114)) = W0 at *
  refine wp_region_vals 11 [(0, 5), (1, 6), (2, 7), (3, 8), (4, 9), (5, 10), (6, 11), (7, 12), (8, 13), (9, 14), (10, 15)] (fun j => match j with | 0 => .pointer (some ⟨w.heap.size, 0, none⟩) | 1 => tV x.1 | 2 => .pointer (some ⟨pa, 2, none⟩) | 3 => fA | 4 => .int .u8 (bits3 (ledB3 A x.1) : Nat) | 5 => .pointer (some ⟨w.heap.size, 9, none⟩) | 6 => tV x.2 | 7 => .pointer (some ⟨pb, 2, none⟩) | 8 => fB | 9 => .int .u8 (bits3 (ledB3 B x.2) : Nat) | 10 => pV (headS A B x) | _ => undef) (fun W => Below W0.heap.size W0 W) 114 4 15 (w.heap.size + 1) #[Value.int .u8 ((headS A B x).1 : Nat), .int .u8 ((headS A B x).2 : Nat)] (by kernel_rfl) (by kernel_rfl) (by kernel_rfl) (by kernel_rfl) (by kernel_rfl) (by kernel_rfl) (by kernel_rfl) (by omega) (Below.drew (Below.refl _ _)) ?_ (by kernel_rfl) (by kernel_rfl) (fun W hW => ?_) (fun W hW => ?_)
  · intro j o hj ho
    match j, ho with
    | 0, ho =>
      obtain rfl := Option.some.inj ho
      intro a W hW he hd
      have e3 : a.tmps[3]?.getD undef = .pointer (some ⟨w.heap.size, 0, none⟩) := he 3 (by kernel_rfl)
      exact Or.inl (by simp [execOp, go_sem, e3])
    | 1, ho =>
      obtain rfl := Option.some.inj ho
      intro a W hW he hd
      have v0 : a.tmps[5]?.getD undef = .pointer (some ⟨w.heap.size, 0, none⟩) := hd 0 5 (by kernel_rfl) (by kernel_rfl)
      exact Or.inl (exec_load (half_load HX.out (belowRow hW HR.out.1)).1 rfl ((eval_tmp a 5).trans v0))
    | 2, ho =>
      obtain rfl := Option.some.inj ho
      intro a W hW he hd
      have e1 : a.tmps[1]?.getD undef = .pointer (some ⟨pa, 0, none⟩) := he 1 (by kernel_rfl)
      exact Or.inl (by simp [execOp, go_sem, e1])
    | 3, ho =>
      obtain rfl := Option.some.inj ho
      intro a W hW he hd
      have v2 : a.tmps[7]?.getD undef = .pointer (some ⟨pa, 2, none⟩) := hd 2 7 (by kernel_rfl) (by kernel_rfl)
      have q2 := cell_of_row W _ 2 _ _ _ (belowRow (below_trans HW.out hW) Ha.out)
      exact Or.inl (by simp [execOp, go_sem, v2, q2])
    | 4, ho =>
      obtain rfl := Option.some.inj ho
      intro a W hW he hd
      have v1 : a.tmps[6]?.getD undef = tV x.1 := hd 1 6 (by kernel_rfl) (by kernel_rfl)
      have v3 : a.tmps[8]?.getD undef = fA := hd 3 8 (by kernel_rfl) (by kernel_rfl)
      refine Or.inr ⟨67, #[tV x.1, fA], by simp [execOp, go_sem, v1, v3], (iLeads_any HX.out.1 (HfA.out.below (below_trans HW.out hW)) H3A.out).mono ?_⟩
      rintro e W' ⟨rfl, hb'⟩
      exact ⟨by rw [leadSt_all]; rfl, below_trans hW hb'⟩
    | 5, ho =>
      obtain rfl := Option.some.inj ho
      intro a W hW he hd
      have e3 : a.tmps[3]?.getD undef = .pointer (some ⟨w.heap.size, 0, none⟩) := he 3 (by kernel_rfl)
      exact Or.inl (by simp [execOp, go_sem, e3])
    | 6, ho =>
      obtain rfl := Option.some.inj ho
      intro a W hW he hd
      have v5 : a.tmps[10]?.getD undef = .pointer (some ⟨w.heap.size, 9, none⟩) := hd 5 10 (by kernel_rfl) (by kernel_rfl)
      exact Or.inl (exec_load (half_load HX.out (belowRow hW HR.out.1)).2 rfl ((eval_tmp a 10).trans v5))
    | 7, ho =>
      obtain rfl := Option.some.inj ho
      intro a W hW he hd
      have e2 : a.tmps[2]?.getD undef = .pointer (some ⟨pb, 0, none⟩) := he 2 (by kernel_rfl)
      exact Or.inl (by simp [execOp, go_sem, e2])
    | 8, ho =>
      obtain rfl := Option.some.inj ho
      intro a W hW he hd
      have v7 : a.tmps[12]?.getD undef = .pointer (some ⟨pb, 2, none⟩) := hd 7 12 (by kernel_rfl) (by kernel_rfl)
      have q2 := cell_of_row W _ 2 _ _ _ (belowRow (below_trans HW.out hW) Hb.out)
      exact Or.inl (by simp [execOp, go_sem, v7, q2])
    | 9, ho =>
      obtain rfl := Option.some.inj ho
      intro a W hW he hd
      have v6 : a.tmps[11]?.getD undef = tV x.2 := hd 6 11 (by kernel_rfl) (by kernel_rfl)
      have v8 : a.tmps[13]?.getD undef = fB := hd 8 13 (by kernel_rfl) (by kernel_rfl)
      refine Or.inr ⟨67, #[tV x.2, fB], by simp [execOp, go_sem, v6, v8], (iLeads_any HX.out.2 (HfB.out.below (below_trans HW.out hW)) H3B.out).mono ?_⟩
      rintro e W' ⟨rfl, hb'⟩
      exact ⟨by rw [leadSt_all]; rfl, below_trans hW hb'⟩
    | 10, ho =>
      obtain rfl := Option.some.inj ho
      intro a W hW he hd
      have v4 : a.tmps[9]?.getD undef = .int .u8 (bits3 (ledB3 A x.1) : Nat) := hd 4 9 (by kernel_rfl) (by kernel_rfl)
      have v9 : a.tmps[14]?.getD undef = .int .u8 (bits3 (ledB3 B x.2) : Nat) := hd 9 14 (by kernel_rfl) (by kernel_rfl)
      exact Or.inl (by simp [execOp, go_sem, v4, v9, headS])
    | n + 11, _ => exact absurd hj (by omega)
  · exact store_row (belowRow hW HR.out.2) (by rw [prSize]; rfl) rfl (by simp [Value.oneCell'])
  · have hrow := setRow_heap W (w.heap.size + 1) _ #[Value.int .u8 ((headS A B x).1 : Nat), .int .u8 ((headS A B x).2 : Nat)] _ _ (belowRow hW HR.out.2)
    have hbl := below_setRow (below_trans HW.out hW) (b := w.heap.size + 1) (by omega) #[Value.int .u8 ((headS A B x).1 : Nat), .int .u8 ((headS A B x).2 : Nat)]
    simp only [putPairs, List.setIfInBounds_toArray, List.set_cons_succ, List.set_cons_zero]
    go_wp2_with (fail)
    exact bodyPost_ret (v := pV (headS A B x)) (res_cell (loadV_row hrow Tryd.underlying114 rfl (by rw [prSize]; rfl)) Tryd.results66 rfl) rfl ⟨rfl, hbl⟩

set_option maxRecDepth 100000 in
set_option maxHeartbeats 1000000 in
theorem loopPair_any {w : World} {x : Bx} (hx : bOk x) :
    Calls Tryd.prog 68 #[bxV x] w fun e w' => e = .returned (pV (loopS x)) ∧ Below w.heap.size w w' := by
  have HX := hide hx
  have HR := hide (two_alloc w (Obj.cells (bxE x).toArray 111) (Obj.cells #[Value.int .u8 0, .int .u8 0] 114))
  have HW : Hid (Below w.heap.size w ((w.alloc (Obj.cells (bxE x).toArray 111)).alloc (Obj.cells #[Value.int .u8 0, .int .u8 0] 114))) := hide (by repeat (first | exact Below.refl _ _ | assumption | refine below_drewN ?_ _ | refine Below.drew ?_ | refine Below.alloc ?_ (by simp <;> omega) _ | refine below_trans ?_ (by assumption)))
  clear hx
  go_enter Tryd.func68, Tryd.ntmps68
  go_upto_region 1 with (fail)
  generalize ((w.alloc (Obj.cells (bxE x).toArray 111)).alloc (Obj.cells #[Value.int .u8 0, .int .u8 0] 114)) = W0 at *
  refine wp_region_vals 7 [(0, 3), (1, 4), (2, 5), (3, 6), (4, 7), (5, 8), (6, 9)] (fun j => match j with | 0 => .pointer (some ⟨w.heap.size, 0, none⟩) | 1 => tV x.1 | 2 => .int .u8 (bits3 (takB3 x.1) : Nat) | 3 => .pointer (some ⟨w.heap.size, 9, none⟩) | 4 => tV x.2 | 5 => .int .u8 (bits3 (takB3 x.2) : Nat) | 6 => pV (loopS x) | _ => undef) (fun W => Below W0.heap.size W0 W) 114 2 9 (w.heap.size + 1) #[Value.int .u8 ((loopS x).1 : Nat), .int .u8 ((loopS x).2 : Nat)] (by kernel_rfl) (by kernel_rfl) (by kernel_rfl) (by kernel_rfl) (by kernel_rfl) (by kernel_rfl) (by kernel_rfl) (by omega) (Below.drew (Below.refl _ _)) ?_ (by kernel_rfl) (by kernel_rfl) (fun W hW => ?_) (fun W hW => ?_)
  · intro j o hj ho
    match j, ho with
    | 0, ho =>
      obtain rfl := Option.some.inj ho
      intro a W hW he hd
      have e1 : a.tmps[1]?.getD undef = .pointer (some ⟨w.heap.size, 0, none⟩) := he 1 (by kernel_rfl)
      exact Or.inl (by simp [execOp, go_sem, e1])
    | 1, ho =>
      obtain rfl := Option.some.inj ho
      intro a W hW he hd
      have v0 : a.tmps[3]?.getD undef = .pointer (some ⟨w.heap.size, 0, none⟩) := hd 0 3 (by kernel_rfl) (by kernel_rfl)
      exact Or.inl (exec_load (half_load HX.out (belowRow hW HR.out.1)).1 rfl ((eval_tmp a 3).trans v0))
    | 2, ho =>
      obtain rfl := Option.some.inj ho
      intro a W hW he hd
      have v1 : a.tmps[4]?.getD undef = tV x.1 := hd 1 4 (by kernel_rfl) (by kernel_rfl)
      refine Or.inr ⟨69, #[tV x.1], by simp [execOp, go_sem, v1], (iTakes_any HX.out.1).mono ?_⟩
      rintro e W' ⟨rfl, hb'⟩
      exact ⟨rfl, below_trans hW hb'⟩
    | 3, ho =>
      obtain rfl := Option.some.inj ho
      intro a W hW he hd
      have e1 : a.tmps[1]?.getD undef = .pointer (some ⟨w.heap.size, 0, none⟩) := he 1 (by kernel_rfl)
      exact Or.inl (by simp [execOp, go_sem, e1])
    | 4, ho =>
      obtain rfl := Option.some.inj ho
      intro a W hW he hd
      have v3 : a.tmps[6]?.getD undef = .pointer (some ⟨w.heap.size, 9, none⟩) := hd 3 6 (by kernel_rfl) (by kernel_rfl)
      exact Or.inl (exec_load (half_load HX.out (belowRow hW HR.out.1)).2 rfl ((eval_tmp a 6).trans v3))
    | 5, ho =>
      obtain rfl := Option.some.inj ho
      intro a W hW he hd
      have v4 : a.tmps[7]?.getD undef = tV x.2 := hd 4 7 (by kernel_rfl) (by kernel_rfl)
      refine Or.inr ⟨69, #[tV x.2], by simp [execOp, go_sem, v4], (iTakes_any HX.out.2).mono ?_⟩
      rintro e W' ⟨rfl, hb'⟩
      exact ⟨rfl, below_trans hW hb'⟩
    | 6, ho =>
      obtain rfl := Option.some.inj ho
      intro a W hW he hd
      have v2 : a.tmps[5]?.getD undef = .int .u8 (bits3 (takB3 x.1) : Nat) := hd 2 5 (by kernel_rfl) (by kernel_rfl)
      have v5 : a.tmps[8]?.getD undef = .int .u8 (bits3 (takB3 x.2) : Nat) := hd 5 8 (by kernel_rfl) (by kernel_rfl)
      exact Or.inl (by simp [execOp, go_sem, v2, v5, loopS])
    | n + 7, _ => exact absurd hj (by omega)
  · exact store_row (belowRow hW HR.out.2) (by rw [prSize]; rfl) rfl (by simp [Value.oneCell'])
  · have hrow := setRow_heap W (w.heap.size + 1) _ #[Value.int .u8 ((loopS x).1 : Nat), .int .u8 ((loopS x).2 : Nat)] _ _ (belowRow hW HR.out.2)
    have hbl := below_setRow (below_trans HW.out hW) (b := w.heap.size + 1) (by omega) #[Value.int .u8 ((loopS x).1 : Nat), .int .u8 ((loopS x).2 : Nat)]
    simp only [putPairs, List.setIfInBounds_toArray, List.set_cons_succ, List.set_cons_zero]
    go_wp2_with (fail)
    exact bodyPost_ret (v := pV (loopS x)) (res_cell (loadV_row hrow Tryd.underlying114 rfl (by rw [prSize]; rfl)) Tryd.results68 rfl) rfl ⟨rfl, hbl⟩

end Go.Proofs.YtpiacnnifdjlkabDoor

namespace Go.Proofs.YtpiacnnifdjlkabDoor
open Go.RowKit Go.Sort Go.MapKept

theorem own_entry {W : World} {base g n cap : Nat} {E : List En} (h : W.ownsRow base 144 20 (.slice (some ⟨g, 0, none⟩) n cap) n (E.flatMap enE)) (hok : ∀ x ∈ E, bOk x.1) {c : Nat} (hc : c < E.length) : (Instr.loadAt 144 (.pointer (some ⟨g, c * 20, none⟩))).run Tryd.prog W = .ok (enV E[c]) W := by
  have hr := own_range h (c * 20) 20
  have hk := hok _ (List.getElem_mem hc)
  rw [flat_part E c hc (fun x hx => enE_len (hok x hx))] at hr
  obtain ⟨d, hu, hd⟩ := enRow
  exact run_loadAt_mid (P := Tryd.prog) W g (c * 20) 144 (enE E[c]) d hr hu hd (by rw [enSize, enE_len hk])

theorem run_storeAt_new2 (w : World) (cs : List Value) (hc : cs.length = 20) (h1 : ∀ v ∈ cs, v.oneCell' = true) : (Instr.storeAt 144 (.pointer (some ⟨w.heap.size, 0, none⟩)) (.agg cs.toArray)).run Tryd.prog (w.alloc (.cells #[Value.int .u8 0, Value.int .u8 0, Value.int .u8 0, Value.int .u8 0, Value.int .u8 0, Value.int .u8 0, Value.int .u8 0, Value.int .u8 0, Value.int .u8 0, Value.int .u8 0, Value.int .u8 0, Value.int .u8 0, Value.int .u8 0, Value.int .u8 0, Value.int .u8 0, Value.int .u8 0, Value.int .u8 0, Value.int .u8 0, .int .i64 0, .int .i64 0] 144)) = .ok () (w.alloc (.cells cs.toArray 144)) := by
  rw [store_row (cs := cs.toArray) (ty := 144) (one_new w (Obj.cells #[Value.int .u8 0, Value.int .u8 0, Value.int .u8 0, Value.int .u8 0, Value.int .u8 0, Value.int .u8 0, Value.int .u8 0, Value.int .u8 0, Value.int .u8 0, Value.int .u8 0, Value.int .u8 0, Value.int .u8 0, Value.int .u8 0, Value.int .u8 0, Value.int .u8 0, Value.int .u8 0, Value.int .u8 0, Value.int .u8 0, .int .i64 0, .int .i64 0] 144)) (by rw [enSize]; simp [hc]) (by simp [hc]) (by rw [Array.all_eq_true_iff_forall_mem]; intro v hv; exact h1 v (by simpa using hv)), World.setRow_alloc_new]

/-- What noted has before it. -/
structure NtI (w wr : World) (r : Nat) (E : List En) (f : Bx → Nat × Nat) (k : Nat) (v : Value) (all : List Rm) : Prop where
  own : wr.ownsRow w.heap.size 119 3 v all.length (all.flatMap rmE)
  mp : pMap wr r (all.map (·.1))
  nt : Noted (fun k => f (enB bxNone E k)) k all
  bl : Below w.heap.size w wr

theorem NtI.below {w wr w2 : World} {r : Nat} {E : List En} {f : Bx → Nat × Nat} {k : Nat} {v : Value} {all : List Rm} (h : NtI w wr r E f k v all) (hb : Below wr.heap.size wr w2) : NtI w w2 r E f k v all :=
  ⟨owns_below h.own hb, h.mp.keep (fun _ ho => belowRow hb ho), h.nt, below_trans h.bl hb⟩

theorem noted_len {γ : Type} {f : Nat → γ} {n : Nat} {all : List (γ × Nat)} (h : Noted f n all) : all.length ≤ n := by
  have hn : (all.map (·.2)).Nodup := by
    rw [List.Nodup, List.pairwise_map]
    exact h.up.imp (fun hab e => by omega)
  have := nodup_le n _ hn (fun q hq => by
    obtain ⟨r, hr, rfl⟩ := List.mem_map.1 hq
    exact (h.mem r hr).1)
  simpa using this

theorem nt_push {w W w8 : World} {E : List En} {f : Bx → Nat × Nat} {k g8 cap8 : Nat} {v : Value} {all : List Rm} {s : Nat × Nat} (hown : W.ownsRow w.heap.size 119 3 v all.length (all.flatMap rmE)) (hbl : Below w.heap.size w W) (hmp : pMap W w.heap.size (all.map (·.1) ++ [s])) (hnt : Noted (fun k => f (enB bxNone E k)) (k + 1) (all ++ [(s, k)])) (hg : W.grownBy w8 v.ownBlock) (h8 : w8.ownsRow w.heap.size 119 3 (.slice (some ⟨g8, 0, none⟩) (all.length + 1) cap8) (all.length + 1) (all.flatMap rmE ++ rmE (s, k))) :
    NtI w w8 w.heap.size E f (k + 1) (.slice (some ⟨g8, 0, none⟩) (all.length + 1) cap8) (all ++ [(s, k)]) := by
  refine ⟨?_, ?_, hnt, Below.grown hbl hg hbl.size (fun k hk => (hown.lt k hk).1)⟩
  · rw [List.length_append, List.flatMap_append]
    simpa using h8
  · rw [List.map_append]
    refine hmp.keep (fun o ho => (hg.block _ hmp.lt (fun e => ?_)).trans ho)
    obtain ⟨c', fz, hc⟩ := owns_cells hown _ e.symm
    obtain ⟨o2, ho2, hcc⟩ := hmp.not_cells
    rw [ho2] at hc
    injection hc with hc
    subst hc
    cases hcc

set_option maxRecDepth 100000 in
set_option maxHeartbeats 1000000 in
theorem notedHeads_any {w : World} {base : Nat} {mv : Value} {E : List En} {f : Bx → Nat × Nat} {pa pb : Value} (hown : w.ownsRow base 144 20 mv E.length (E.flatMap enE)) (hok : ∀ x ∈ E, bOk x.1) (hfew : E.length ≤ 387420489)
    (hc : ∀ W b, Below w.heap.size w W → bOk b → Calls Tryd.prog 66 #[bxV b, pa, pb] W fun e w' => e = .returned (pV (f b)) ∧ Below W.heap.size W w') :
    Calls Tryd.prog 65 #[mv, .func (.func 66) #[] #[pa, pb]] w fun e w' => ∃ v all, e = .returned v ∧ w'.ownsRow w.heap.size 119 3 v all.length (all.flatMap rmE) ∧ Noted (fun k => f (enB bxNone E k)) E.length all ∧ Below w.heap.size w w' := by
  obtain ⟨am, cm, rfl⟩ := owns_form hown
  have HO := hide hown
  have HK := hide hok
  have HC := hide hc
  have hmk : ∀ w : World, (Instr.makeMap 148 none).run Tryd.prog w = .ok (.map (some w.heap.size)) (w.alloc (.map #[] 0)) := fun _ => rfl
  clear hown hok hc
  have HS : Hid (NtI w (w.alloc (.map #[] 0)) w.heap.size E f 0 (.slice none 0 0) []) := hide ⟨⟨rfl, .inl ⟨rfl, rfl⟩⟩, ⟨#[], 0, one_new w _, rfl, fun i x hx => by simp at hx⟩, Noted.nil _, (by repeat (first | exact Below.refl _ _ | assumption | refine below_drewN ?_ _ | refine Below.drew ?_ | refine Below.alloc ?_ (by simp <;> omega) _ | refine below_trans ?_ (by assumption)))⟩
  go_enter Tryd.func65, Tryd.ntmps65
  go_wp2_with (fail)
  clear hmk
  generalize w.alloc (.map #[] 0) = W0 at *
  go_loopw [5, 15] (fun av kv wr => ∃ (k : Nat) (all : List Rm), k ≤ E.length ∧ kv = .int .i64 k ∧ Hid (NtI w wr w.heap.size E f k av all)) (fun _ kv _ => E.length - (intOf kv).toNat)
  case atStart => exact ⟨0, [], by omega, rfl, HS⟩
  case round =>
    obtain ⟨k, all, hk, rfl, hS⟩ := hrel
    by_cases hlt : k < E.length
    · obtain ⟨gm, cm', hm⟩ := owns_some HO.out (by omega)
      injection hm with hm1 hm2 hm3
      subst hm1
      subst hm3
      obtain ⟨x, hx⟩ : ∃ x, x = E[k] := ⟨_, rfl⟩
      have hxk : bOk x.1 := by rw [hx]; exact HK.out _ (List.getElem_mem hlt)
      have HL1 : Hid ((Instr.loadAt 144 (.pointer (some ⟨gm, k * 20, none⟩))).run Tryd.prog wr = .ok (enV x) wr) := hide (by rw [hx]; exact own_entry (owns_below HO.out hS.out.bl) HK.out hlt)
      have hxe : enB bxNone E k = x.1 := by rw [hx]; exact enB_at hlt
      have HXE := hide hxe
      have hen := enE_len hxk
      have HS1 := hide (run_storeAt_new2 wr (enE x) hen (enE_one x))
      have hb1 := below_new wr (Obj.cells (enE x).toArray 144)
      have HL2 := hide (enBox_load hxk (one_new wr (Obj.cells (enE x).toArray 144)))
      have HC1 := hide (HC.out _ x.1 (below_trans hS.out.bl hb1) hxk)
      have HI1 := hide (hS.out.below hb1)
      clear hx hxe hen hb1 hS hxk
      go_wp2_with (first | (show wpList _ _ _ (⟨some 19, _, _, _, _, _⟩ :: _) _ _; refine wpl_load HL1.out rfl rfl rfl ?_) | (show wpList _ _ _ (⟨some 22, _, _, _, _, _⟩ :: _) _ _; refine wpl_load HL2.out rfl rfl rfl ?_) | (show wpList _ _ _ [⟨none, .store 144 _ _, _, _, _, _⟩] _ _; refine wpl_store HS1.out rfl rfl rfl rfl ?_))
      generalize wr.alloc (Obj.cells (enE x).toArray 144) = W1 at *
      refine HC1.out.mono ?_
      rintro e w2 ⟨rfl, hb2⟩
      generalize hs : f x.1 = s at *
      have HSx := hide hs
      have hb3 := below_new w2 (Obj.cells #[Value.int .u8 (s.1 : Nat), .int .u8 (s.2 : Nat)] 114)
      have hN3 := one_new w2 (Obj.cells #[Value.int .u8 (s.1 : Nat), .int .u8 (s.2 : Nat)] 114)
      have hI3 := (HI1.out.below hb2).below hb3
      obtain ⟨lv, hlk⟩ := pLookup hI3.mp s
      clear HL1 HL2 HS1 HC1 HI1 hs hb2 hb3
      have q0 := cell_of_row _ _ 0 _ _ _ hN3
      have q1 := cell_of_row _ _ 1 _ _ _ hN3
      by_cases hin : s ∈ all.map (·.1)
      · rw [decide_eq_true hin] at hlk
        have HI4 : Hid (NtI w (w2.alloc (Obj.cells #[Value.int .u8 (s.1 : Nat), .int .u8 (s.2 : Nat)] 114)) w.heap.size E f (k + 1) _ all) := hide ⟨hI3.own, hI3.mp, hI3.nt.old (by show f (enB bxNone E k) ∈ _; rw [HXE.out, HSx.out]; exact hin), hI3.bl⟩
        clear hI3 hN3 hin q0 q1
        go_wp2_with (fail)
        go_roundw
        case rel => exact ⟨k + 1, all, by omega, by go_num, HI4⟩
        case measure => simp [intOf]; omega
      · rw [decide_eq_false hin] at hlk
        obtain ⟨o, hup, hmp⟩ := pUpdate hI3.mp s hin (.int .i64 (k : Nat))
        have hn5 := hI3.nt.new (by show f (enB bxNone E k) ∉ _; rw [HXE.out, HSx.out]; exact hin)
        rw [HXE.out, HSx.out] at hn5
        have hne : ∀ j, j ≠ w.heap.size → ((w2.alloc (Obj.cells #[Value.int .u8 (s.1 : Nat), .int .u8 (s.2 : Nat)] 114)).putObj w.heap.size o).heap[j]? = (w2.alloc (Obj.cells #[Value.int .u8 (s.1 : Nat), .int .u8 (s.2 : Nat)] 114)).heap[j]? := fun j hj => World.putObj_heap_other hj
        have hs2 : ((w2.alloc (Obj.cells #[Value.int .u8 (s.1 : Nat), .int .u8 (s.2 : Nat)] 114)).putObj w.heap.size o).heap.size = w2.heap.size + 1 := by simp
        have hr2 : w.heap.size < w2.heap.size + 1 := by have := hI3.mp.lt; simpa using this
        have hne2 : w2.heap.size ≠ w.heap.size := fun e => by
          obtain ⟨o', h1, h2⟩ := hI3.mp.not_cells
          rw [← e, hN3] at h1
          injection h1 with h1
          subst h1
          cases h2
        have hN5 := (hne w2.heap.size hne2).trans hN3
        have hown5 : ((w2.alloc (Obj.cells #[Value.int .u8 (s.1 : Nat), .int .u8 (s.2 : Nat)] 114)).putObj w.heap.size o).ownsRow w.heap.size 119 3 u5 all.length (all.flatMap rmE) := owns_kept hI3.own (fun q hq => hne q (fun e => by
          obtain ⟨c', fz, hc⟩ := owns_cells hI3.own q hq
          obtain ⟨o2, ho2, hcc⟩ := hI3.mp.not_cells
          rw [e, ho2] at hc
          injection hc with hc
          subst hc
          cases hcc))
        have hB5 : Below w.heap.size w ((w2.alloc (Obj.cells #[Value.int .u8 (s.1 : Nat), .int .u8 (s.2 : Nat)] 114)).putObj w.heap.size o) := ⟨hI3.bl.os, hI3.bl.tape, hI3.bl.output, by rw [hs2]; omega, fun j hj => (hne j (by omega)).trans (hI3.bl.block j hj)⟩
        have p0 := cell_of_row _ _ 0 _ _ _ hN5
        have p1 := cell_of_row _ _ 1 _ _ _ hN5
        have hlen : all.length ≤ 1000000000 := by
          have hn := noted_len hI3.nt
          omega
        obtain ⟨av, cv, hav⟩ := owns_form hown5
        subst hav
        generalize hW5 : (w2.alloc (Obj.cells #[Value.int .u8 (s.1 : Nat), .int .u8 (s.2 : Nat)] 114)).putObj w.heap.size o = W5 at *
        have hb6 := below_new W5 (Obj.cells #[Value.int .u8 (s.1 : Nat), .int .u8 (s.2 : Nat), .int .i64 (k : Nat)] 119)
        have HN6 := hide (one_new W5 (Obj.cells #[Value.int .u8 (s.1 : Nat), .int .u8 (s.2 : Nat), .int .i64 (k : Nat)] 119))
        have Hown6 := hide (owns_below hown5 hb6)
        have HB6 := hide (below_trans hB5 hb6)
        have Hmp6 := hide (hmp.keep (fun _ ho => belowRow hb6 ho))
        have Hnt := hide hn5
        have hsz6 : w.heap.size ≤ (W5.alloc (Obj.cells #[Value.int .u8 (s.1 : Nat), .int .u8 (s.2 : Nat), .int .i64 (k : Nat)] 119)).heap.size := HB6.out.size
        clear hne hs2 hr2 hne2 hN5 hown5 hB5 hI3 hN3 hin hmp hn5 hb6 hW5
        go_wp2_with (first | (show wpList _ _ _ (⟨some 40, _, _, _, _, _⟩ :: _) _ _; refine wpList_append_big _ rfl (.tmp 35) (.tmp 39) 104 119 3 16 rfl rmEl w.heap.size _ _ _ rfl Hown6.out W5.heap.size 1 (rmE (s, k)) rfl rfl (fun j u hu => (cell_of_row _ W5.heap.size j _ _ _ HN6.out).trans (by simpa [rmE] using hu)) (rmE_one _) hlen hsz6 ?_; intro g8 cap8 w8 hown8 hgrow8 hor8 hbase8; have HI8 := hide (nt_push Hown6.out HB6.out Hmp6.out Hnt.out hgrow8 hown8); clear hown8 hgrow8 hor8 hbase8))
        go_roundw
        case rel => exact ⟨k + 1, _, by omega, by go_num, HI8⟩
        case measure => simp [intOf]; omega
    · have hkE : k = E.length := by omega
      obtain ⟨av, cv, hav⟩ := owns_form hS.out.own
      subst hav
      have HN := hS.out.nt
      rw [hkE] at HN
      have HF := hide (And.intro hS.out.own (And.intro HN hS.out.bl))
      clear HN
      go_wp2_with (fail)
      go_ret
      exact ⟨_, all, rfl, HF.out⟩

set_option maxRecDepth 100000 in
set_option maxHeartbeats 1000000 in
theorem notedLoops_any {w : World} {base : Nat} {mv : Value} {E : List En} {f : Bx → Nat × Nat}  (hown : w.ownsRow base 144 20 mv E.length (E.flatMap enE)) (hok : ∀ x ∈ E, bOk x.1) (hfew : E.length ≤ 387420489)
    (hc : ∀ W b, Below w.heap.size w W → bOk b → Calls Tryd.prog 68 #[bxV b] W fun e w' => e = .returned (pV (f b)) ∧ Below W.heap.size W w') :
    Calls Tryd.prog 65 #[mv, .func (.func 68) #[] #[]] w fun e w' => ∃ v all, e = .returned v ∧ w'.ownsRow w.heap.size 119 3 v all.length (all.flatMap rmE) ∧ Noted (fun k => f (enB bxNone E k)) E.length all ∧ Below w.heap.size w w' := by
  obtain ⟨am, cm, rfl⟩ := owns_form hown
  have HO := hide hown
  have HK := hide hok
  have HC := hide hc
  have hmk : ∀ w : World, (Instr.makeMap 148 none).run Tryd.prog w = .ok (.map (some w.heap.size)) (w.alloc (.map #[] 0)) := fun _ => rfl
  clear hown hok hc
  have HS : Hid (NtI w (w.alloc (.map #[] 0)) w.heap.size E f 0 (.slice none 0 0) []) := hide ⟨⟨rfl, .inl ⟨rfl, rfl⟩⟩, ⟨#[], 0, one_new w _, rfl, fun i x hx => by simp at hx⟩, Noted.nil _, (by repeat (first | exact Below.refl _ _ | assumption | refine below_drewN ?_ _ | refine Below.drew ?_ | refine Below.alloc ?_ (by simp <;> omega) _ | refine below_trans ?_ (by assumption)))⟩
  go_enter Tryd.func65, Tryd.ntmps65
  go_wp2_with (fail)
  clear hmk
  generalize w.alloc (.map #[] 0) = W0 at *
  go_loopw [5, 15] (fun av kv wr => ∃ (k : Nat) (all : List Rm), k ≤ E.length ∧ kv = .int .i64 k ∧ Hid (NtI w wr w.heap.size E f k av all)) (fun _ kv _ => E.length - (intOf kv).toNat)
  case atStart => exact ⟨0, [], by omega, rfl, HS⟩
  case round =>
    obtain ⟨k, all, hk, rfl, hS⟩ := hrel
    by_cases hlt : k < E.length
    · obtain ⟨gm, cm', hm⟩ := owns_some HO.out (by omega)
      injection hm with hm1 hm2 hm3
      subst hm1
      subst hm3
      obtain ⟨x, hx⟩ : ∃ x, x = E[k] := ⟨_, rfl⟩
      have hxk : bOk x.1 := by rw [hx]; exact HK.out _ (List.getElem_mem hlt)
      have HL1 : Hid ((Instr.loadAt 144 (.pointer (some ⟨gm, k * 20, none⟩))).run Tryd.prog wr = .ok (enV x) wr) := hide (by rw [hx]; exact own_entry (owns_below HO.out hS.out.bl) HK.out hlt)
      have hxe : enB bxNone E k = x.1 := by rw [hx]; exact enB_at hlt
      have HXE := hide hxe
      have hen := enE_len hxk
      have HS1 := hide (run_storeAt_new2 wr (enE x) hen (enE_one x))
      have hb1 := below_new wr (Obj.cells (enE x).toArray 144)
      have HL2 := hide (enBox_load hxk (one_new wr (Obj.cells (enE x).toArray 144)))
      have HC1 := hide (HC.out _ x.1 (below_trans hS.out.bl hb1) hxk)
      have HI1 := hide (hS.out.below hb1)
      clear hx hxe hen hb1 hS hxk
      go_wp2_with (first | (show wpList _ _ _ (⟨some 19, _, _, _, _, _⟩ :: _) _ _; refine wpl_load HL1.out rfl rfl rfl ?_) | (show wpList _ _ _ (⟨some 22, _, _, _, _, _⟩ :: _) _ _; refine wpl_load HL2.out rfl rfl rfl ?_) | (show wpList _ _ _ [⟨none, .store 144 _ _, _, _, _, _⟩] _ _; refine wpl_store HS1.out rfl rfl rfl rfl ?_))
      generalize wr.alloc (Obj.cells (enE x).toArray 144) = W1 at *
      refine HC1.out.mono ?_
      rintro e w2 ⟨rfl, hb2⟩
      generalize hs : f x.1 = s at *
      have HSx := hide hs
      have hb3 := below_new w2 (Obj.cells #[Value.int .u8 (s.1 : Nat), .int .u8 (s.2 : Nat)] 114)
      have hN3 := one_new w2 (Obj.cells #[Value.int .u8 (s.1 : Nat), .int .u8 (s.2 : Nat)] 114)
      have hI3 := (HI1.out.below hb2).below hb3
      obtain ⟨lv, hlk⟩ := pLookup hI3.mp s
      clear HL1 HL2 HS1 HC1 HI1 hs hb2 hb3
      have q0 := cell_of_row _ _ 0 _ _ _ hN3
      have q1 := cell_of_row _ _ 1 _ _ _ hN3
      by_cases hin : s ∈ all.map (·.1)
      · rw [decide_eq_true hin] at hlk
        have HI4 : Hid (NtI w (w2.alloc (Obj.cells #[Value.int .u8 (s.1 : Nat), .int .u8 (s.2 : Nat)] 114)) w.heap.size E f (k + 1) _ all) := hide ⟨hI3.own, hI3.mp, hI3.nt.old (by show f (enB bxNone E k) ∈ _; rw [HXE.out, HSx.out]; exact hin), hI3.bl⟩
        clear hI3 hN3 hin q0 q1
        go_wp2_with (fail)
        go_roundw
        case rel => exact ⟨k + 1, all, by omega, by go_num, HI4⟩
        case measure => simp [intOf]; omega
      · rw [decide_eq_false hin] at hlk
        obtain ⟨o, hup, hmp⟩ := pUpdate hI3.mp s hin (.int .i64 (k : Nat))
        have hn5 := hI3.nt.new (by show f (enB bxNone E k) ∉ _; rw [HXE.out, HSx.out]; exact hin)
        rw [HXE.out, HSx.out] at hn5
        have hne : ∀ j, j ≠ w.heap.size → ((w2.alloc (Obj.cells #[Value.int .u8 (s.1 : Nat), .int .u8 (s.2 : Nat)] 114)).putObj w.heap.size o).heap[j]? = (w2.alloc (Obj.cells #[Value.int .u8 (s.1 : Nat), .int .u8 (s.2 : Nat)] 114)).heap[j]? := fun j hj => World.putObj_heap_other hj
        have hs2 : ((w2.alloc (Obj.cells #[Value.int .u8 (s.1 : Nat), .int .u8 (s.2 : Nat)] 114)).putObj w.heap.size o).heap.size = w2.heap.size + 1 := by simp
        have hr2 : w.heap.size < w2.heap.size + 1 := by have := hI3.mp.lt; simpa using this
        have hne2 : w2.heap.size ≠ w.heap.size := fun e => by
          obtain ⟨o', h1, h2⟩ := hI3.mp.not_cells
          rw [← e, hN3] at h1
          injection h1 with h1
          subst h1
          cases h2
        have hN5 := (hne w2.heap.size hne2).trans hN3
        have hown5 : ((w2.alloc (Obj.cells #[Value.int .u8 (s.1 : Nat), .int .u8 (s.2 : Nat)] 114)).putObj w.heap.size o).ownsRow w.heap.size 119 3 u5 all.length (all.flatMap rmE) := owns_kept hI3.own (fun q hq => hne q (fun e => by
          obtain ⟨c', fz, hc⟩ := owns_cells hI3.own q hq
          obtain ⟨o2, ho2, hcc⟩ := hI3.mp.not_cells
          rw [e, ho2] at hc
          injection hc with hc
          subst hc
          cases hcc))
        have hB5 : Below w.heap.size w ((w2.alloc (Obj.cells #[Value.int .u8 (s.1 : Nat), .int .u8 (s.2 : Nat)] 114)).putObj w.heap.size o) := ⟨hI3.bl.os, hI3.bl.tape, hI3.bl.output, by rw [hs2]; omega, fun j hj => (hne j (by omega)).trans (hI3.bl.block j hj)⟩
        have p0 := cell_of_row _ _ 0 _ _ _ hN5
        have p1 := cell_of_row _ _ 1 _ _ _ hN5
        have hlen : all.length ≤ 1000000000 := by
          have hn := noted_len hI3.nt
          omega
        obtain ⟨av, cv, hav⟩ := owns_form hown5
        subst hav
        generalize hW5 : (w2.alloc (Obj.cells #[Value.int .u8 (s.1 : Nat), .int .u8 (s.2 : Nat)] 114)).putObj w.heap.size o = W5 at *
        have hb6 := below_new W5 (Obj.cells #[Value.int .u8 (s.1 : Nat), .int .u8 (s.2 : Nat), .int .i64 (k : Nat)] 119)
        have HN6 := hide (one_new W5 (Obj.cells #[Value.int .u8 (s.1 : Nat), .int .u8 (s.2 : Nat), .int .i64 (k : Nat)] 119))
        have Hown6 := hide (owns_below hown5 hb6)
        have HB6 := hide (below_trans hB5 hb6)
        have Hmp6 := hide (hmp.keep (fun _ ho => belowRow hb6 ho))
        have Hnt := hide hn5
        have hsz6 : w.heap.size ≤ (W5.alloc (Obj.cells #[Value.int .u8 (s.1 : Nat), .int .u8 (s.2 : Nat), .int .i64 (k : Nat)] 119)).heap.size := HB6.out.size
        clear hne hs2 hr2 hne2 hN5 hown5 hB5 hI3 hN3 hin hmp hn5 hb6 hW5
        go_wp2_with (first | (show wpList _ _ _ (⟨some 40, _, _, _, _, _⟩ :: _) _ _; refine wpList_append_big _ rfl (.tmp 35) (.tmp 39) 104 119 3 16 rfl rmEl w.heap.size _ _ _ rfl Hown6.out W5.heap.size 1 (rmE (s, k)) rfl rfl (fun j u hu => (cell_of_row _ W5.heap.size j _ _ _ HN6.out).trans (by simpa [rmE] using hu)) (rmE_one _) hlen hsz6 ?_; intro g8 cap8 w8 hown8 hgrow8 hor8 hbase8; have HI8 := hide (nt_push Hown6.out HB6.out Hmp6.out Hnt.out hgrow8 hown8); clear hown8 hgrow8 hor8 hbase8))
        go_roundw
        case rel => exact ⟨k + 1, _, by omega, by go_num, HI8⟩
        case measure => simp [intOf]; omega
    · have hkE : k = E.length := by omega
      obtain ⟨av, cv, hav⟩ := owns_form hS.out.own
      subst hav
      have HN := hS.out.nt
      rw [hkE] at HN
      have HF := hide (And.intro hS.out.own (And.intro HN hS.out.bl))
      clear HN
      go_wp2_with (fail)
      go_ret
      exact ⟨_, all, rfl, HF.out⟩

end Go.Proofs.YtpiacnnifdjlkabDoor
