/-
  What newRun of package word makes.
-/
import Derived.Test.YtpiacnnifdjlkabDoorCc
import Derived.Deep.DeepCutAuto
import Derived.Deep.LoopGhost
import Derived.Shelf.Abstract
namespace Go.Proofs.YtpiacnnifdjlkabDoor
open Go.RowKit Go.Sort
attribute [local go_sem] Oper.semAt_some

/-- The lists as they are laid, in the midst of newRun. -/
structure NR (w W : World) (N B5 g : Nat) (v5 v8 : Array Value) (D : Nat → Nat → Nat → Nat) : Prop where
  below : Below w.heap.size w W
  auto : W.heap[w.heap.size]? = some (.cells v5 26)
  res : W.heap[w.heap.size + 1 + 1]? = some (.cells #[.int .i64 0, .int .i64 0, .slice none 0 0, .slice none 0 0, .slice none 0 0, .slice none 0 0, .slice none 0 0, .slice none 0 0] 60)
  run : W.heap[B5]? = some (.cells v8 60)
  lc : LC W g N D
  b5 : w.heap.size + 2 < B5
  gl : w.heap.size + 2 < g
  ne : B5 ≠ g

theorem three_alloc (w : World) (a b c : Obj) : (((w.alloc a).alloc b).alloc c).heap[w.heap.size]? = some a ∧ (((w.alloc a).alloc b).alloc c).heap[w.heap.size + 1]? = some b ∧ (((w.alloc a).alloc b).alloc c).heap[w.heap.size + 1 + 1]? = some c := by
  refine ⟨?_, ?_, ?_⟩
  · rw [heap_alloc_old _ _ (by simp; omega), heap_alloc_old _ _ (by simp)]
    exact heap_alloc_new w a
  · rw [heap_alloc_old _ _ (by simp)]
    have := heap_alloc_new (w.alloc a) b
    rwa [World.size_alloc] at this
  · have := heap_alloc_new ((w.alloc a).alloc b) c
    rwa [World.size_alloc, World.size_alloc] at this

theorem wpIn_region_tail_below {P : Program} {l n id : Nat} {ops l' : List Oper} {oL : Oper} {Q' : Exit → Act → World → Prop} {a : Act} {w : World} (hops : ops.toArray = l'.toArray.push oL) (hm : P.follows .mixedOrders = true) (hB : Region.lexB .any l'.toArray = true) (hT : tailOk l' oL = true) (hg : oL.guard = none)
    (h : wpQuiet P l'.toArray (fun w' => ∃ p : Regrown, w' = grow (redrawn w p.d) p.os) (fun a' => ∀ w', (∃ p : Regrown, w' = grow (redrawn w p.d) p.os) → wpListIn (Fence.wide.inRound l) n P #[] Q' [oL] a' w') l' a) :
    (Code.region id ops.toArray true).wpIn (Fence.wide.inRound l) n P Q' a w := by
  rw [hops]
  refine wpIn_region_tail hm hB hT ⟨⟨w.drawn + 1, #[]⟩, by rw [grow_empty]; rfl⟩ h ?_
  intro a' w' hc hq
  have := hq w' hc
  unfold wpListIn at this
  rw [wanted_free hg] at this
  exact this

theorem KB.mono {m m' g : Nat} {W W' : World} (h : KB m g W W') (hm : m' ≤ m) : KB m' g W W' := ⟨h.os, h.tape, h.output, h.size, fun k hk hn => h.block k (by omega) hn⟩

theorem eight_set {W : World} {b : Nat} {t : TypeId} {u0 u1 u2 u3 u4 u5 u6 u7 : Value} (m : Nat) (v0 v1 v2 v3 v4 v5 v6 v7 : Value) (h : W.heap[b]? = some (.cells #[u0, u1, u2, u3, u4, u5, u6, u7] t)) :
    KB m b W ((((((((W.setCell ⟨b, 0, none⟩ v0).setCell ⟨b, 1, none⟩ v1).setCell ⟨b, 2, none⟩ v2).setCell ⟨b, 3, none⟩ v3).setCell ⟨b, 4, none⟩ v4).setCell ⟨b, 5, none⟩ v5).setCell ⟨b, 6, none⟩ v6).setCell ⟨b, 7, none⟩ v7) ∧
    ((((((((W.setCell ⟨b, 0, none⟩ v0).setCell ⟨b, 1, none⟩ v1).setCell ⟨b, 2, none⟩ v2).setCell ⟨b, 3, none⟩ v3).setCell ⟨b, 4, none⟩ v4).setCell ⟨b, 5, none⟩ v5).setCell ⟨b, 6, none⟩ v6).setCell ⟨b, 7, none⟩ v7).heap[b]? = some (.cells #[v0, v1, v2, v3, v4, v5, v6, v7] t) := by
  refine ⟨(((((((KB.set m b 0 _ _).trans (KB.set m b 1 _ _)).trans (KB.set m b 2 _ _)).trans (KB.set m b 3 _ _)).trans (KB.set m b 4 _ _)).trans (KB.set m b 5 _ _)).trans (KB.set m b 6 _ _)).trans (KB.set m b 7 _ _), ?_⟩
  simpa using heap_setCell_row 7 v7 (heap_setCell_row 6 v6 (heap_setCell_row 5 v5 (heap_setCell_row 4 v4 (heap_setCell_row 3 v3 (heap_setCell_row 2 v2 (heap_setCell_row 1 v1 (heap_setCell_row 0 v0 h)))))))

theorem zero_LC {W : World} {g N : Nat} (h : W.heap[g]? = some (.cells (zeroW (N * 40)) 90)) : LC W g N (fun _ _ _ => 0) := by
  refine ⟨fun s l i hs hl hi => ?_, fun o => by simp [World.frozen?, h], ⟨_, h, rfl⟩⟩
  have hlt : s * 40 + l * 5 + i < N * 40 := by omega
  rw [cell_of_row W g (s * 40 + l * 5 + i) _ _ _ h]
  unfold zeroW
  rw [Array.getElem?_replicate, if_pos hlt]
  rfl

set_option maxRecDepth 100000 in
set_option maxHeartbeats 4000000 in
theorem newRun_any {w : World} {ss : List Stp} (m : Int) (a1 a2 a3 a4 a5 : Option Addr) (l1 l2 l4 l5 c1 c2 c3 c4 c5 N l3 : Nat) (hl3 : l3 = ss.length) (hN : N ≤ 300) (hS : StepSl w (.slice a3 l3 c3) ss) (hlen : ss.length ≤ 6000)
    (hmono : ∀ i j, i ≤ j → j < ss.length → (ss.getD i stp0).f ≤ (ss.getD j stp0).f) (hgs : ∀ x, x ∈ ss → 0 ≤ x.f ∧ x.f < N ∧ 0 ≤ x.l ∧ x.l < 8 ∧ 0 ≤ x.t ∧ x.t < N) :
    Calls Tryd.prog 32 #[.agg #[.int .i64 (N : Nat), .int .i64 m, .slice a1 l1 c1, .slice a2 l2 c2, .slice a3 l3 c3], .agg #[.slice a4 l4 c4, .slice a5 l5 c5]] w fun e w' => ∃ g D, e = .returned (.agg #[.int .i64 (N : Nat), .int .i64 m, .slice a1 l1 c1, .slice a2 l2 c2, .slice a3 l3 c3, .slice a4 l4 c4, .slice a5 l5 c5, .slice (some ⟨g, 0, none⟩) N N]) ∧ Below w.heap.size w w' ∧ SD ss N D ∧ (∀ s l i, s < N → l < 8 → i < 5 → w'.cell? ⟨g, s * 40 + l * 5 + i, none⟩ = some (.int .u64 (D s l i))) := by
  refine (callsIn_wide (n := 10)).1 ?_
  refine callsIn_of_wp_marks Tryd.func32 rfl trivial ?_ rfl
  simp only [Tryd.ntmps32, List.size_toArray, List.length_cons, List.length_nil, Nat.reduceAdd, Nat.reduceSub, Array.replicate_succ, Array.replicate_zero, List.push_toArray, List.append_toArray, List.nil_append, List.cons_append]
  refine wpIn_wide.2 ?_
  have hmk := make_leads N hN
  have Hall := hide (And.intro hl3 (And.intro hS (And.intro hlen (And.intro hmono hgs))))
  clear hl3 hS hlen hmono hgs
  go_wp2_with (fail)
  rename_i K hK
  have key : ∀ (B5 g : Nat) (W : World), NR w W N B5 g #[.int .i64 (N : Nat), .int .i64 m, .slice a1 l1 c1, .slice a2 l2 c2, .slice a3 l3 c3] #[.int .i64 (N : Nat), .int .i64 m, .slice a1 l1 c1, .slice a2 l2 c2, .slice a3 l3 c3, .slice a4 l4 c4, .slice a5 l5 c5, .slice (some ⟨g, 0, none⟩) N N] (fun _ _ _ => 0) → K { tmps := #[.agg #[.int .i64 (N : Nat), .int .i64 m, .slice a1 l1 c1, .slice a2 l2 c2, .slice a3 l3 c3], .agg #[.slice a4 l4 c4, .slice a5 l5 c5], .pointer (some ⟨w.heap.size, 0, none⟩), .pointer (some ⟨w.heap.size + 1, 0, none⟩), .pointer (some ⟨w.heap.size + 1 + 1, 0, none⟩), .pointer (some ⟨B5, 0, none⟩), undef, undef, .agg #[.int .i64 (N : Nat), .int .i64 m, .slice a1 l1 c1, .slice a2 l2 c2, .slice a3 l3 c3], .agg #[.slice a4 l4 c4, .slice a5 l5 c5], .pointer (some ⟨w.heap.size, 0, none⟩), .int .i64 (N : Nat), .slice (some ⟨g, 0, none⟩) N N, .agg #[.int .i64 (N : Nat), .int .i64 m, .slice a1 l1 c1, .slice a2 l2 c2, .slice a3 l3 c3, .slice a4 l4 c4, .slice a5 l5 c5, .slice (some ⟨g, 0, none⟩) N N], undef, undef, undef, undef, undef, undef, undef, undef, undef, undef, undef, undef, undef, undef, undef, undef, undef, undef, undef, undef, undef, undef, undef, undef, undef, undef, undef, undef, undef, undef], defers := [] } W := by
    intro B5 g W hnr
    refine hK _ _ ?_
    clear hK hmk
    have r7 := cell_of_row W B5 7 _ _ _ hnr.run
    have Hnr := hide hnr
    clear hnr
    go_wp2_with (fail)
    refine wp_loop_ghost_k (fun gk a Wk => ∃ (k : Nat) (u6 u18 u19 u20 u21 u22 u42 : Value) (Ds : List Nat) (D : Nat → Nat → Nat → Nat), k ≤ N ∧ gk = N - k ∧ a = { tmps := #[.agg #[.int .i64 (N : Nat), .int .i64 m, .slice a1 l1 c1, .slice a2 l2 c2, .slice a3 l3 c3], .agg #[.slice a4 l4 c4, .slice a5 l5 c5], .pointer (some ⟨w.heap.size, 0, none⟩), .pointer (some ⟨w.heap.size + 1, 0, none⟩), .pointer (some ⟨w.heap.size + 1 + 1, 0, none⟩), .pointer (some ⟨B5, 0, none⟩), u6, undef, .agg #[.int .i64 (N : Nat), .int .i64 m, .slice a1 l1 c1, .slice a2 l2 c2, .slice a3 l3 c3], .agg #[.slice a4 l4 c4, .slice a5 l5 c5], .pointer (some ⟨w.heap.size, 0, none⟩), .int .i64 (N : Nat), .slice (some ⟨g, 0, none⟩) N N, .agg #[.int .i64 (N : Nat), .int .i64 m, .slice a1 l1 c1, .slice a2 l2 c2, .slice a3 l3 c3, .slice a4 l4 c4, .slice a5 l5 c5, .slice (some ⟨g, 0, none⟩) N N], .pointer (some ⟨B5, 7, none⟩), .slice (some ⟨g, 0, none⟩) N N, .int .i64 (N : Nat), .int .i64 (k : Nat), u18, u19, u20, u21, u22, undef, undef, undef, undef, undef, undef, undef, undef, undef, undef, undef, undef, undef, undef, undef, undef, undef, undef, undef, u42, undef], defers := marksOf Ds } ∧ NR w Wk N B5 g #[.int .i64 (N : Nat), .int .i64 m, .slice a1 l1 c1, .slice a2 l2 c2, .slice a3 l3 c3] #[.int .i64 (N : Nat), .int .i64 m, .slice a1 l1 c1, .slice a2 l2 c2, .slice a3 l3 c3, .slice a4 l4 c4, .slice a5 l5 c5, .slice (some ⟨g, 0, none⟩) N N] D ∧ SD ss k D ∧ Marks Wk (w.heap.size + 3) Ds) N ?_ ?_
    · exact ⟨0, undef, undef, undef, undef, undef, undef, undef, [], _, Nat.zero_le _, rfl, rfl, Hnr.out, SD_zero ss (fun x hx => (Hall.out.2.2.2.2 x hx).1), List.nodup_nil, fun D h => by cases h⟩
    rintro gk a Wk ⟨k, u6, u18, u19, u20, u21, u22, u42, Ds, D, hk, rfl, rfl, hnr, hsd, hmk⟩ J K hJ hK
    have Hnr := hide hnr
    have Hsd := hide hsd
    have Hmk := hide hmk
    clear hsd hmk
    have hH := (Array.getElem?_eq_some_iff.1 hnr.auto).1
    have hH5 := (Array.getElem?_eq_some_iff.1 hnr.run).1
    have p0 := cell_of_row Wk _ 0 _ _ _ hnr.auto
    have p1 := cell_of_row Wk _ 1 _ _ _ hnr.auto
    have p2 := cell_of_row Wk _ 2 _ _ _ hnr.auto
    have p3 := cell_of_row Wk _ 3 _ _ _ hnr.auto
    have p4 := cell_of_row Wk _ 4 _ _ _ hnr.auto
    by_cases hkN : k < N
    · clear hnr
      go_wp2_with (refine (from_any _ _ _ _ _ _ _).mono ?_; rintro e w1 ⟨rfl, rfl⟩)
      obtain ⟨hl3, hS, hlen, hmono, hgs⟩ := Hall.out
      subst hl3
      obtain ⟨e0, e1, e2⟩ := three_alloc Wk (Obj.cells #[Value.int .i64 (k : Nat)] 3) (Obj.cells #[Value.int .i64 (N : Nat), .int .i64 m, .slice a1 l1 c1, .slice a2 l2 c2, .slice a3 ss.length c3] 26) (Obj.cells #[Value.int .i64 (k : Nat)] 3)
      have hbk : Below Wk.heap.size Wk (((Wk.alloc (Obj.cells #[Value.int .i64 (k : Nat)] 3)).alloc (Obj.cells #[Value.int .i64 (N : Nat), .int .i64 m, .slice a1 l1 c1, .slice a2 l2 c2, .slice a3 ss.length c3] 26)).alloc (Obj.cells #[Value.int .i64 (k : Nat)] 3)) := (by repeat (first | exact Below.refl _ _ | assumption | refine below_drewN ?_ _ | refine Below.drew ?_ | refine Below.alloc ?_ (by simp <;> omega) _ | refine below_trans ?_ (by assumption)))
      have hsz : (((Wk.alloc (Obj.cells #[Value.int .i64 (k : Nat)] 3)).alloc (Obj.cells #[Value.int .i64 (N : Nat), .int .i64 m, .slice a1 l1 c1, .slice a2 l2 c2, .slice a3 ss.length c3] 26)).alloc (Obj.cells #[Value.int .i64 (k : Nat)] 3)).heap.size = Wk.heap.size + 3 := by simp
      generalize (((Wk.alloc (Obj.cells #[Value.int .i64 (k : Nat)] 3)).alloc (Obj.cells #[Value.int .i64 (N : Nat), .int .i64 m, .slice a1 l1 c1, .slice a2 l2 c2, .slice a3 ss.length c3] 26)).alloc (Obj.cells #[Value.int .i64 (k : Nat)] 3)) = W0 at e0 e1 e2 hbk hsz ⊢
      have hgl := Hnr.out.gl
      have hlc := Hnr.out.lc
      have hgk := hlc.lt
      have hb0 : Below w.heap.size w W0 := below_trans Hnr.out.below hbk
      have hlt : ∀ b off, ss ≠ [] → a3 = some ⟨b, off, none⟩ → b < W0.heap.size ∧ b ≠ g := by
        intro b off hne ha
        subst ha
        obtain ⟨a', cap', e, _, hz, _⟩ := hS
        cases e
        rcases hz with h | ⟨b', off', e, hc⟩
        · exact absurd h hne
        · cases e
          have := World.block_lt_of_cell? w _ (hc 0 (List.length_pos_iff.2 hne)).1
          dsimp only at this
          omega
      refine wpIn_wide.1 (wpIn_rangeFunc_ownH (n := 10) rfl (by decide) (gf := 76) (lb := #[.pointer (some ⟨Wk.heap.size + 1, 0, none⟩), .pointer (some ⟨Wk.heap.size + 1 + 1, 0, none⟩)]) rfl trivial (enters_of Tryd.func76 (by kernel_rfl) rfl)
        (fromSeq 9 (Wk.heap.size + 1) (Wk.heap.size + 1 + 1) W0.heap.size g N (k : Nat) W0 (Nat.le_refl _) (cell_of_row W0 _ 4 _ _ _ e1) (cell_of_row W0 _ 0 _ _ _ e2) ⟨by omega, by omega⟩ (hS.below hb0) hlt hlen hmono (fun x hx hf => ⟨hf, (hgs x hx).2.2.1, (hgs x hx).2.2.2.1, (hgs x hx).2.2.2.2⟩))
        (fun h h' => h.trans h') (fun W l o o' hl ho hc hw => (KB.refl _ _ _).grown (by have := (Array.getElem?_eq_some_iff.1 ho).1; omega) (grownBy_putObj' W l o') (fun r e => by cases e; exact hl)) (Below.refl _ _) (fun _ => rfl)
        (IW W0 g N W0.heap.size ss (k : Nat)) (fun _ _ _ => False) (IW_own W0 g N ss k (by omega)) (fun _ _ _ _ _ h _ _ => h) ?start
        (fun x a' W => ∃ Bx, W0.heap.size ≤ Bx ∧ W.heap[Bx]? = some (.cells #[.int .i64 x.1.f, .int .i64 x.1.l, .int .i64 x.1.t] 49) ∧ a' = { tmps := #[.agg #[.int .i64 (N : Nat), .int .i64 m, .slice a1 l1 c1, .slice a2 l2 c2, .slice a3 ss.length c3], .agg #[.slice a4 l4 c4, .slice a5 l5 c5], .pointer (some ⟨w.heap.size, 0, none⟩), .pointer (some ⟨w.heap.size + 1, 0, none⟩), .pointer (some ⟨w.heap.size + 1 + 1, 0, none⟩), .pointer (some ⟨B5, 0, none⟩), .pointer (some ⟨Wk.heap.size, 0, none⟩), .pointer (some ⟨Bx, 0, none⟩), .agg #[.int .i64 (N : Nat), .int .i64 m, .slice a1 l1 c1, .slice a2 l2 c2, .slice a3 ss.length c3], .agg #[.slice a4 l4 c4, .slice a5 l5 c5], .pointer (some ⟨w.heap.size, 0, none⟩), .int .i64 (N : Nat), .slice (some ⟨g, 0, none⟩) N N, .agg #[.int .i64 (N : Nat), .int .i64 m, .slice a1 l1 c1, .slice a2 l2 c2, .slice a3 ss.length c3, .slice a4 l4 c4, .slice a5 l5 c5, .slice (some ⟨g, 0, none⟩) N N], .pointer (some ⟨B5, 7, none⟩), .slice (some ⟨g, 0, none⟩) N N, .int .i64 (N : Nat), .int .i64 (k : Nat), .bool true, .int .i64 (k : Nat), .agg #[.int .i64 (N : Nat), .int .i64 m, .slice a1 l1 c1, .slice a2 l2 c2, .slice a3 ss.length c3], .int .i64 (k : Nat), .func (.func 76) #[] #[.pointer (some ⟨Wk.heap.size + 1, 0, none⟩), .pointer (some ⟨Wk.heap.size + 1 + 1, 0, none⟩)], .agg #[.int .i64 x.1.f, .int .i64 x.1.l, .int .i64 x.1.t], undef, undef, undef, undef, undef, undef, undef, undef, undef, undef, undef, undef, undef, undef, undef, undef, undef, undef, u42, undef], defers := [] }) ?own ?assign ?body ?done ?stop)
      case start =>
        refine ⟨KB.refl _ _ _, D, hlc.of_block (hbk.block g hgk), Hsd.out.1, fun s l t => ?_⟩
        rw [Hsd.out.2 s l t]
        exact ⟨.inl, fun h => h.elim id (fun ⟨y, hy, _⟩ => by cases hy)⟩
      case own =>
        rintro x a' _ A B row ⟨Bx, h1, h2, h3⟩ hg hr
        refine ⟨Bx, h1, (hg.block Bx (Array.getElem?_eq_some_iff.1 h2).1 (fun e => ?_)).trans h2, h3⟩
        obtain ⟨_, o, ho, hc⟩ := hr Bx e.symm
        rw [h2] at ho
        cases ho
        cases hc
      case assign =>
        rintro l pre x W K' hi hK'
        have HK' := hide hK'
        have Hi := hide hi
        clear hK' hi e0 e1 e2 hbk hb0 hS hlt hgs hmono
        gi_wp2
        exact HK'.out _ _ ((KeepsOthers.alloc _ _).from _) (KB.of_below (below_new W _) Hi.out.1.size) ((IW_own W0 g N ss k (by omega)).alloc _ Hi.out) ⟨W.heap.size, Hi.out.1.size, heap_alloc_new W _, rfl⟩
      case body =>
        rintro l pre x a' W hl ⟨r, hr⟩ hi ⟨Bx, hBx, hbx, rfl⟩ hlt'
        generalize hQ2 : ownPostG W0.heap.size (KB W0.heap.size g) (IW W0 g N W0.heap.size ss (k : Nat)) (fun _ _ _ => False) (pre ++ [x]) W = Q2
        have HQ2 := hide (show ∀ a W', (KeepsFrom W0.heap.size W W' ∧ KB W0.heap.size g W W' ∧ IW W0 g N W0.heap.size ss (k : Nat) (pre ++ [x]) W') → Q2 .normal a W' from by rw [← hQ2]; exact fun _ _ h => h)
        clear hQ2
        obtain ⟨⟨xf, xl, xt⟩, hx⟩ := x
        obtain ⟨hKB, D', hL, hw, hD⟩ := hi
        have hx' := hx
        obtain ⟨hx1, hx2, hx3, hx4, hx5⟩ := hx'
        dsimp only at hx1 hx2 hx3 hx4 hx5 hbx ⊢
        subst hx1
        obtain ⟨ln, rfl⟩ := Int.eq_ofNat_of_zero_le hx2
        obtain ⟨tn, rfl⟩ := Int.eq_ofNat_of_zero_le hx4
        have hln : ln < 8 := by omega
        have htn : tn < 300 := by omega
        have f5 : W.heap[B5]? = some (.cells #[.int .i64 (N : Nat), .int .i64 m, .slice a1 l1 c1, .slice a2 l2 c2, .slice a3 ss.length c3, .slice a4 l4 c4, .slice a5 l5 c5, .slice (some ⟨g, 0, none⟩) N N] 60) := by
          rw [hKB.block B5 (by omega) Hnr.out.ne, hbk.block B5 hH5]
          exact Hnr.out.run
        have f6 : W.heap[Wk.heap.size]? = some (.cells #[.int .i64 (k : Nat)] 3) := by
          rw [hKB.block _ (by omega) (by omega)]
          exact e0
        have k7 := cell_regrown (cell_of_row W B5 7 _ _ _ f5)
        have k0 := cell_regrown (cell_of_row W _ 0 _ _ _ f6)
        have x1 := cell_regrown (cell_of_row W Bx 1 _ _ _ hbx)
        have x2 := cell_regrown (cell_of_row W Bx 2 _ _ _ hbx)
        have d00 := hL.lead k ln 0 hkN hln (by omega)
        rw [Nat.add_zero] at d00
        have d0 := cell_regrown d00
        have d1 := cell_regrown (hL.lead k ln 1 hkN hln (by omega))
        have d2 := cell_regrown (hL.lead k ln 2 hkN hln (by omega))
        have d3 := cell_regrown (hL.lead k ln 3 hkN hln (by omega))
        have d4 := cell_regrown (hL.lead k ln 4 hkN hln (by omega))
        have CW := hide (fun d os => Calls.regrown_of (with_any (D' k ln) tn (grow (redrawn W d) os) htn (hw k ln)))
        have HK := hide (And.intro hKB (And.intro hL (And.intro hw hD)))
        clear hKB hL hw hD hx2 hx3 hx4 hx5 e0 e1 e2 hbk hb0 hS hlt hgs hmono hbx f5 f6 hlc
        gi_wp2_with (fail)
        refine wpIn_region_tail_below (l' := [_, _, _, _, _, _, _, _, _, _, _, _, _, _, _, _, _, _]) rfl (by kernel_rfl) (by kernel_rfl) (by kernel_rfl) rfl ?_
        (repeat (go_big_quiet_step (first | exact CW.out _ _)))
        refine wpQuiet_nil ?_
        intro _ hw'
        obtain ⟨⟨dq, osq⟩, hw''⟩ := hw'
        subst hw''
        have hbq := below_regrown W dq osq
        clear k7 k0 x1 x2 d0 d1 d2 d3 d4 CW
        dsimp only at hbq ⊢
        generalize hwq : grow (redrawn W dq) osq = wq at hbq ⊢
        clear hwq
        have hgW := HK.out.2.1.lt
        have hlq : LC wq g N D' := HK.out.2.1.of_block (hbq.block g hgW)
        have q0 := hlq.lead k ln 0 hkN hln (by omega)
        rw [Nat.add_zero] at q0
        have q1 := hlq.lead k ln 1 hkN hln (by omega)
        have q2 := hlq.lead k ln 2 hkN hln (by omega)
        have q3 := hlq.lead k ln 3 hkN hln (by omega)
        have q4 := hlq.lead k ln 4 hkN hln (by omega)
        have qs := hlq.soft
        gi_wp2
        obtain ⟨hKB, hL, hw, hD⟩ := HK.out
        have hkq : KB W0.heap.size g W wq := KB.of_below hbq hKB.size
        exact HQ2.out _ (five wq g (k * 40 + ln * 5) (addB (D' k ln) tn)) ⟨KeepsFrom.trans ⟨hbq.size, fun i o _ hi _ => (hbq.block i (Array.getElem?_eq_some_iff.1 hi).1).trans hi⟩ ((keeps_five _ _ _ _).from _), hkq.trans (KB.five _ _ _ _ _), IW.step hKB hL hw hD ⟨⟨k, ln, tn⟩, hx⟩ hkN ln tn rfl rfl hkq (hbq.block g hgW)⟩
      case done =>
        rintro D2 xs W hD2 hxs ⟨hKB, D', hL, hw, hD⟩ hdef
        have HS2 := hide (SD_next hw hxs hD)
        have Hd := hide hdef
        have Hb0 := hide hb0
        clear hxs hw hD hdef e0 e1 e2 hb0 hS hlt hgs hmono
        have Hbk := hide hbk
        clear hbk
        go_wp2
        have hB0 := Hb0.out
        have hBk := Hbk.out
        have h5 := Hnr.out.b5
        have hn5 := Hnr.out.ne
        have hr2 := (Array.getElem?_eq_some_iff.1 Hnr.out.res).1
        have hmk2 : Marks W (w.heap.size + 3) Ds := Hmk.out.of_kb ((KB.of_below (g := g) hBk (Nat.le_refl _)).trans (hKB.mono (by omega))) (Nat.le_refl _) (.inr Hnr.out.lc.isC)
        refine Handed.intro (N - (k + 1)) (by omega) (hJ _ _ _ ⟨k + 1, _, _, _, _, _, _, _, D2 :: Ds, D', by omega, rfl, rfl, ⟨⟨hKB.os.trans hB0.os, hKB.tape.trans hB0.tape, hKB.output.trans hB0.output, Nat.le_trans hB0.size hKB.size, fun i hi => ?_⟩, ?_, ?_, ?_, hL, h5, hgl, hn5⟩, HS2.out, hmk2.cons (by omega) Hd.out (fun hm => ?_)⟩)
        · rw [hKB.block i (by omega) (by omega)]
          exact hB0.block i hi
        · rw [hKB.block _ (by omega) (by omega), hBk.block _ hH]
          exact Hnr.out.auto
        · rw [hKB.block _ (by omega) (by omega), hBk.block _ hr2]
          exact Hnr.out.res
        · rw [hKB.block _ (by omega) hn5, hBk.block _ hH5]
          exact Hnr.out.run
        · have := (Array.getElem?_eq_some_iff.1 (Hmk.out.2 D2 hm).2).1
          omega
      case stop =>
        rintro D2 c pre W _ _ h _
        exact h.elim
    · have hkN' : k = N := by omega
      subst hkN'
      have hH2 := (Array.getElem?_eq_some_iff.1 hnr.res).1
      have r0 := cell_of_row Wk B5 0 _ _ _ hnr.run
      have r1 := cell_of_row Wk B5 1 _ _ _ hnr.run
      have r2 := cell_of_row Wk B5 2 _ _ _ hnr.run
      have r3 := cell_of_row Wk B5 3 _ _ _ hnr.run
      have r4 := cell_of_row Wk B5 4 _ _ _ hnr.run
      have r5 := cell_of_row Wk B5 5 _ _ _ hnr.run
      have r6 := cell_of_row Wk B5 6 _ _ _ hnr.run
      have r7 := cell_of_row Wk B5 7 _ _ _ hnr.run
      have s0 := cell_of_row Wk _ 0 _ _ _ hnr.res
      have s1 := cell_of_row Wk _ 1 _ _ _ hnr.res
      have s2 := cell_of_row Wk _ 2 _ _ _ hnr.res
      have s3 := cell_of_row Wk _ 3 _ _ _ hnr.res
      have s4 := cell_of_row Wk _ 4 _ _ _ hnr.res
      have s5 := cell_of_row Wk _ 5 _ _ _ hnr.res
      have s6 := cell_of_row Wk _ 6 _ _ _ hnr.res
      have s7 := cell_of_row Wk _ 7 _ _ _ hnr.res
      have sf : ∀ i, Wk.frozen? ⟨w.heap.size + 1 + 1, i, none⟩ = false := fun i => by simp [World.frozen?, hnr.res]
      clear hnr
      go_wp2
      clear r0 r1 r2 r3 r4 r5 r6 r7 s0 s1 s2 s3 s4 s5 s6 s7 sf
      have hnr := Hnr.out
      have hgl := hnr.gl
      obtain ⟨hkb8, h8⟩ := eight_set Wk.heap.size (.int .i64 (k : Nat)) (.int .i64 m) (.slice a1 l1 c1) (.slice a2 l2 c2) (.slice a3 l3 c3) (.slice a4 l4 c4) (.slice a5 l5 c5) (.slice (some ⟨g, 0, none⟩) k k) hnr.res
      refine leaves_marks (w.heap.size + 3) Ds _ (Hmk.out.of_kb hkb8 (Nat.le_refl _) (.inl (by omega))) ?_
      intro W' hS
      have hr8 := (hS.low (w.heap.size + 1 + 1) (by omega)).trans h8
      have q0 := cell_of_row W' _ 0 _ _ _ hr8
      have q1 := cell_of_row W' _ 1 _ _ _ hr8
      have q2 := cell_of_row W' _ 2 _ _ _ hr8
      have q3 := cell_of_row W' _ 3 _ _ _ hr8
      have q4 := cell_of_row W' _ 4 _ _ _ hr8
      have q5 := cell_of_row W' _ 5 _ _ _ hr8
      have q6 := cell_of_row W' _ 6 _ _ _ hr8
      have q7 := cell_of_row W' _ 7 _ _ _ hr8
      have hlg := hnr.lc.lt
      have hlcW : LC W' g k D := by
        obtain ⟨o, ho, hc⟩ := hnr.lc.isC
        have h1 := hkb8.block g hlg (by omega)
        have h2 := hS.cells g o (h1.trans ho) hc
        exact hnr.lc.of_block (h2.trans ho.symm)
      refine ⟨.agg #[.int .i64 (k : Nat), .int .i64 m, .slice a1 l1 c1, .slice a2 l2 c2, .slice a3 l3 c3, .slice a4 l4 c4, .slice a5 l5 c5, .slice (some ⟨g, 0, none⟩) k k], by simp [results, Tryd.results32, go_sem, q0, q1, q2, q3, q4, q5, q6, q7], g, rfl, ⟨(hS.os.trans hkb8.os).trans hnr.below.os, (hS.tape.trans hkb8.tape).trans hnr.below.tape, (hS.output.trans hkb8.output).trans hnr.below.output, Nat.le_trans (Nat.le_trans hnr.below.size hkb8.size) hS.size, fun i hi => ?_⟩, D, Hsd.out, hlcW.lead⟩
      rw [hS.low i (by omega), hkb8.block i (by omega) (by omega)]
      exact hnr.below.block i hi
  clear hK
  go_region
  · obtain ⟨f0, _, f2, f3, f4⟩ := (five_alloc w (.cells #[.int .i64 (N : Nat), .int .i64 m, .slice a1 l1 c1, .slice a2 l2 c2, .slice a3 l3 c3] 26) (.cells #[.slice a4 l4 c4, .slice a5 l5 c5] 28) (.cells #[.int .i64 0, .int .i64 0, .slice none 0 0, .slice none 0 0, .slice none 0 0, .slice none 0 0, .slice none 0 0, .slice none 0 0] 60) (.cells (zeroW (N * 40)) 90) (.cells #[.int .i64 (N : Nat), .int .i64 m, .slice a1 l1 c1, .slice a2 l2 c2, .slice a3 l3 c3, .slice a4 l4 c4, .slice a5 l5 c5, .slice (some ⟨w.heap.size + 1 + 1 + 1, 0, none⟩) N N] 60))
    exact key (w.heap.size + 1 + 1 + 1 + 1) (w.heap.size + 1 + 1 + 1) _ ⟨(by repeat (first | exact Below.refl _ _ | assumption | refine below_drewN ?_ _ | refine Below.drew ?_ | refine Below.alloc ?_ (by simp <;> omega) _ | refine below_trans ?_ (by assumption))), f0, f2, f4, zero_LC f3, by omega, by omega, by omega⟩
  · obtain ⟨f0, _, f2, f3, f4⟩ := (five_alloc w (.cells #[.int .i64 (N : Nat), .int .i64 m, .slice a1 l1 c1, .slice a2 l2 c2, .slice a3 l3 c3] 26) (.cells #[.slice a4 l4 c4, .slice a5 l5 c5] 28) (.cells #[.int .i64 0, .int .i64 0, .slice none 0 0, .slice none 0 0, .slice none 0 0, .slice none 0 0, .slice none 0 0, .slice none 0 0] 60) (.cells #[.int .i64 (N : Nat), .int .i64 m, .slice a1 l1 c1, .slice a2 l2 c2, .slice a3 l3 c3, .slice a4 l4 c4, .slice a5 l5 c5, .slice (some ⟨w.heap.size + 1 + 1 + 1 + 1, 0, none⟩) N N] 60) (.cells (zeroW (N * 40)) 90))
    exact key (w.heap.size + 1 + 1 + 1) (w.heap.size + 1 + 1 + 1 + 1) _ ⟨(by repeat (first | exact Below.refl _ _ | assumption | refine below_drewN ?_ _ | refine Below.drew ?_ | refine Below.alloc ?_ (by simp <;> omega) _ | refine below_trans ?_ (by assumption))), f0, f2, f3, zero_LC f4, by omega, by omega, by omega⟩
end Go.Proofs.YtpiacnnifdjlkabDoor
