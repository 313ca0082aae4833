/-
  A formula that is being turned: what lies where; what (turner).leaf answers.
-/
import Derived.Test.YtpiacnnifdjlkaaDoorEj
import Derived.Deep.RegionLaw
/-
  Rows of rows; small facts on cells and blocks of worlds that have grown.
-/
namespace Go.Proofs.YtpiacnnifdjlkaaDoor
open Go.RowKit Go.Sort

def nilRows (c : Nat) : Array Value := Array.replicate c (.slice none 0 0)

theorem rowInfo : Tryd.prog.info? 23 = some Tryd.t23 := by kernel_rfl

theorem make_rows (c : Nat) (h : c ≤ 1000000) (w : World) : (Instr.makeSlice 70 (.int .i64 c) (.int .i64 c)).run Tryd.prog w = .ok (.slice (some ⟨w.heap.size, 0, none⟩) c c) (w.alloc (.cells (nilRows c) 23)) := by
  have hz : Tryd.t23.zero = some (.slice none 0 0) := by kernel_rfl
  have hb : Tryd.t23.bytes = 24 := by kernel_rfl
  have hs : Tryd.t23.size = 1 := by kernel_rfl
  rw [run_make w 70 23 Tryd.t23 (.slice none 0 0) Tryd.underlying70 rowInfo hz .i64 .i64 c c (by omega) (by omega) (by rw [hb]; omega) (by omega)]
  have e : madeCells (Value.cells (.slice none 0 0)) (c * 1) = nilRows c := by
    apply Array.ext
    · simp [size_madeCells, nilRows]
    · intro i h1 h2
      simp [madeCells, nilRows, Value.cells, Nat.mod_one]
  rw [hs, Int.toNat_natCast, e]

theorem cell_top (w : World) (cs : Array Value) (t : TypeId) (n i : Nat) (v : Value) (hn : n = w.heap.size) (hi : cs[i]? = some v) : (w.alloc (Obj.cells cs t)).cell? ⟨n, i, none⟩ = some v := by
  subst hn
  rw [World.cell?_alloc_new]; exact hi

theorem old_cells {W w1 : World} (hb : Below W.heap.size W w1) : (∀ b o, b < W.heap.size → w1.cell? ⟨b, o, none⟩ = W.cell? ⟨b, o, none⟩) ∧ (∀ b o, b < W.heap.size → w1.frozen? ⟨b, o, none⟩ = W.frozen? ⟨b, o, none⟩) :=
  ⟨fun b o h => hb.cell (p := ⟨b, o, none⟩) h, fun b o h => hb.frozen (p := ⟨b, o, none⟩) h⟩

theorem cell_set_ne {w : World} {b g o o' : Nat} {v u : Value} (hne : b ≠ g) (h : w.cell? ⟨b, o, none⟩ = some v) : (w.setCell ⟨g, o', none⟩ u).cell? ⟨b, o, none⟩ = some v := by
  rw [World.cell?_setCell_other _ _ _ _ (fun e => hne (congrArg Addr.block e).symm)]; exact h

theorem zero_tab {w : World} {g : Nat} (h : w.heap[g]? = some (Obj.cells #[.slice none 0 0, .int .i64 0, .slice none 0 0] 124)) : w.cell? ⟨g, 0, none⟩ = some (.slice none 0 0) ∧ w.cell? ⟨g, 1, none⟩ = some (.int .i64 0) ∧ w.cell? ⟨g, 2, none⟩ = some (.slice none 0 0) ∧ (∀ o, w.frozen? ⟨g, o, none⟩ = false) ∧ g < w.heap.size :=
  ⟨cell_of_row w g 0 _ _ _ h, cell_of_row w g 1 _ _ _ h, cell_of_row w g 2 _ _ _ h, fun o => by simp [World.frozen?, h], (Array.getElem?_eq_some_iff.1 h).1⟩

theorem with_tab {w : World} {p : Prop} (g : Nat) (h : w.heap[g]? = some (Obj.cells #[.slice none 0 0, .int .i64 0, .slice none 0 0] 124)) (k : w.cell? ⟨g, 0, none⟩ = some (.slice none 0 0) ∧ w.cell? ⟨g, 1, none⟩ = some (.int .i64 0) ∧ w.cell? ⟨g, 2, none⟩ = some (.slice none 0 0) ∧ (∀ o, w.frozen? ⟨g, o, none⟩ = false) ∧ g < w.heap.size → p) : p := k (zero_tab h)

theorem heap_under {w : World} {g : Nat} {o : Obj} (o' : Obj) (h : w.heap[g]? = some o) : (w.alloc o').heap[g]? = some o := block_keep h (below_new w o')

theorem heap_top (w : World) (o : Obj) (n : Nat) (hn : n = w.heap.size) : (w.alloc o).heap[n]? = some o := by
  subst hn; exact heap_alloc_new w o

theorem heap_drew {w : World} {g : Nat} {o : Obj} (h : w.heap[g]? = some o) : w.drew.heap[g]? = some o := h

theorem heap_set_ne {w : World} {g g' o : Nat} {v : Value} {ob : Obj} (hne : g ≠ g') (h : w.heap[g]? = some ob) : (w.setCell ⟨g', o, none⟩ v).heap[g]? = some ob := (set_far w _ v g hne).trans h

theorem cell_set_eq {w : World} {g o : Nat} {v u : Value} (h : w.cell? ⟨g, o, none⟩ = some u) : (w.setCell ⟨g, o, none⟩ v).cell? ⟨g, o, none⟩ = some v := World.cell?_setCell_same _ _ _ h

theorem cell_set_off {w : World} {g o o' : Nat} {v u : Value} (hne : o ≠ o') (h : w.cell? ⟨g, o, none⟩ = some u) : (w.setCell ⟨g, o', none⟩ v).cell? ⟨g, o, none⟩ = some u := by
  rw [World.cell?_setCell_other _ _ _ _ (fun e => hne (congrArg Addr.off e).symm)]; exact h

theorem ints_under {w : World} {v : Value} {zs : List Int} (o : Obj) (h : IntSl w v zs) : IntSl (w.alloc o) v zs := h.below (below_new w o)

theorem ints_drew {w : World} {v : Value} {zs : List Int} (h : IntSl w v zs) : IntSl w.drew v zs := h.below (Below.drew (Below.refl _ _))

theorem ints_set {w : World} {g g' o n c : Nat} {u : Value} {zs : List Int} (hne : g ≠ g') (h : IntSl w (.slice (some ⟨g, 0, none⟩) n c) zs) : IntSl (w.setCell ⟨g', o, none⟩ u) (.slice (some ⟨g, 0, none⟩) n c) zs :=
  h.setCell (a := ⟨g', o, none⟩) (fun k hk => by cases hk; exact hne) u

theorem intsl_lt {w : World} {g n c : Nat} {zs : List Int} (h : IntSl w (.slice (some ⟨g, 0, none⟩) n c) zs) (hn : 0 < n) : g < w.heap.size := by
  obtain ⟨a, cap, he, _, h, _⟩ := h
  injection he with e1 e2 e3
  rcases h with h | ⟨b, off, h, hc⟩
  · subst h; simp at e2; omega
  · rw [← e1] at h
    cases h
    have := hc 0 (by omega)
    exact World.block_lt_of_cell? w _ this

theorem with_nil {w : World} {p : Prop} (g : Nat) (M : Nat) (h : w.heap[g]? = some (Obj.cells (nilRows M) 23)) (k : w.heap[g]? = some (Obj.cells (nilRows M) 23) ∧ g < w.heap.size → p) : p := k ⟨h, (Array.getElem?_eq_some_iff.1 h).1⟩

theorem cell_drew {w : World} {a : Addr} {v : Value} (h : w.cell? a = some v) : w.drew.cell? a = some v := h

theorem tab_set {w : World} {g : Nat} {a b c : Value} (h0 : w.cell? ⟨g, 0, none⟩ = some (.slice none 0 0)) (h1 : w.cell? ⟨g, 1, none⟩ = some (.int .i64 0)) (h2 : w.cell? ⟨g, 2, none⟩ = some (.slice none 0 0)) :
    (((w.setCell ⟨g, 0, none⟩ a).setCell ⟨g, 1, none⟩ b).setCell ⟨g, 2, none⟩ c).cell? ⟨g, 0, none⟩ = some a ∧ (((w.setCell ⟨g, 0, none⟩ a).setCell ⟨g, 1, none⟩ b).setCell ⟨g, 2, none⟩ c).cell? ⟨g, 1, none⟩ = some b ∧ (((w.setCell ⟨g, 0, none⟩ a).setCell ⟨g, 1, none⟩ b).setCell ⟨g, 2, none⟩ c).cell? ⟨g, 2, none⟩ = some c :=
  ⟨cell_set_off (by decide) (cell_set_off (by decide) (cell_set_eq h0)), cell_set_off (by decide) (cell_set_eq (cell_set_off (by decide) h1)), cell_set_eq (cell_set_off (by decide) (cell_set_off (by decide) h2))⟩
end Go.Proofs.YtpiacnnifdjlkaaDoor

/-
  While newTable fills its rows: what lies where.
-/
namespace Go.Proofs.YtpiacnnifdjlkaaDoor
open Go.RowKit Go.Sort

theorem ruleB_congr {T T' : List (List Bool)} {h p : Nat} {L : Nat → Int} {x : Nd} (ha : 3 ≤ x.k ∧ x.k ≤ 8 → T.getD x.a.toNat [] = T'.getD x.a.toNat []) (hb : x.k = 4 ∨ x.k = 5 ∨ x.k = 7 ∨ x.k = 8 → T.getD x.b.toNat [] = T'.getD x.b.toNat []) : ruleB T h p L x = ruleB T' h p L x := by
  funext i nx
  unfold ruleB bt
  by_cases h2 : x.k = 2
  · simp only [if_pos h2]
  by_cases h3 : x.k = 3
  · simp only [if_neg h2, if_pos h3, ha (by omega)]
  by_cases h4 : x.k = 4
  · simp only [if_neg h2, if_neg h3, if_pos h4, ha (by omega), hb (by omega)]
  by_cases h5 : x.k = 5
  · simp only [if_neg h2, if_neg h3, if_neg h4, if_pos h5, ha (by omega), hb (by omega)]
  by_cases h6 : x.k = 6
  · simp only [if_neg h2, if_neg h3, if_neg h4, if_neg h5, if_pos h6, ha (by omega)]
  by_cases h7 : x.k = 7
  · simp only [if_neg h2, if_neg h3, if_neg h4, if_neg h5, if_neg h6, if_pos h7, ha (by omega), hb (by omega)]
  by_cases h8 : x.k = 8
  · simp only [if_neg h2, if_neg h3, if_neg h4, if_neg h5, if_neg h6, if_neg h7, if_pos h8, ha (by omega), hb (by omega)]
  simp only [if_neg h2, if_neg h3, if_neg h4, if_neg h5, if_neg h6, if_neg h7, if_neg h8]

/-- A node that is right. -/
theorem node_ok {x : Nd} {m : Nat} (h : nodeErr x m = 0) : (1 ≤ x.k ∧ x.k ≤ 8) ∧ (0 ≤ x.a ∧ (3 ≤ x.k → x.a < m) ∧ (x.k < 3 → x.a = 0)) ∧ (0 ≤ x.b ∧ (x.k = 4 ∨ x.k = 5 ∨ x.k = 7 ∨ x.k = 8 → x.b < m) ∧ (¬ (x.k = 4 ∨ x.k = 5 ∨ x.k = 7 ∨ x.k = 8) → x.b = 0)) ∧ (x.k = 2 → 0 ≤ x.n ∧ x.n ≤ 2) := by
  unfold nodeErr at h
  by_cases h1 : 1 ≤ x.k ∧ x.k ≤ 8
  · rw [if_pos h1] at h
    unfold chkN at h
    split at h
    · omega
    · split at h
      · omega
      · split at h
        · omega
        · rename_i q1 q2 q3
          refine ⟨h1, ⟨?_, ?_, ?_⟩, ⟨?_, ?_, ?_⟩, ?_⟩ <;> omega
  · rw [if_neg h1] at h; omega

/-- All nodes are right. -/
def AllOk (F : List Nd) : Prop := ∀ m, m < F.length → nodeErr (F.getD m nd0) m = 0

theorem chkFrom_ok (F : List Nd) : ∀ d m, m + d = F.length → chkFrom (F.drop m) m = 0 → ∀ j, m ≤ j → j < F.length → nodeErr (F.getD j nd0) j = 0
  | 0, m, hm, _, j, h1, h2 => by omega
  | d + 1, m, hm, h, j, h1, h2 => by
    rw [chkFrom_drop F m (by omega)] at h
    by_cases e : nodeErr (F.getD m nd0) m = 0
    · rw [if_pos e] at h
      by_cases ej : j = m
      · subst ej; exact e
      · exact chkFrom_ok F d (m + 1) (by omega) h j (by omega) h2
    · rw [if_neg e] at h; exact absurd h e

theorem chkF_ok {F : List Nd} (h : chkF F = 0) : 0 < F.length ∧ F.length ≤ 12 ∧ AllOk F := by
  unfold chkF at h
  split at h
  · omega
  · split at h
    · omega
    · rename_i h0 h1
      exact ⟨by omega, by omega, fun m hm => chkFrom_ok F F.length 0 (by omega) h m (by omega) hm⟩

/-- A row of the whole table. -/
theorem tab_row {F : List Nd} (hF : AllOk F) (h p : Nat) (L : Nat → Int) (m : Nat) (hm : m < F.length) : (tabN F h p L F.length).getD m [] = rowU (ruleB (tabN F h p L F.length) h p L (F.getD m nd0)) (decide ((F.getD m nd0).k = 8)) h p := by
  rw [tabN_get F h p L m F.length hm]
  obtain ⟨_, ⟨a0, a1, _⟩, ⟨b0, b1, _⟩, _⟩ := node_ok (hF m hm)
  have e : ruleB (tabN F h p L m) h p L (F.getD m nd0) = ruleB (tabN F h p L F.length) h p L (F.getD m nd0) := by
    refine ruleB_congr (fun hk => ?_) (fun hk => ?_)
    · have := a1 hk.1
      rw [tabN_get F h p L _ m (by omega), tabN_get F h p L _ F.length (by omega)]
    · have := b1 hk
      rw [tabN_get F h p L _ m (by omega), tabN_get F h p L _ F.length (by omega)]
  rw [← e]
  rfl

theorem tab_len (F : List Nd) (h p : Nat) (L : Nat → Int) (m : Nat) (hm : m < F.length) : ((tabN F h p L F.length).getD m []).length = h + p := tabN_row F h p L m F.length hm

/-- What lies where while rows are filled: m of M. -/
structure TR (w wr : World) (gT R g lc n0 N M m : Nat) (Ls : List Int) (T : List (List Bool)) : Prop where
  below : Below w.heap.size w wr
  t0 : wr.cell? ⟨gT, 0, none⟩ = some (.slice (some ⟨g, 0, none⟩) N lc)
  t1 : wr.cell? ⟨gT, 1, none⟩ = some (.int .i64 n0)
  t2 : wr.cell? ⟨gT, 2, none⟩ = some (.slice (some ⟨R, 0, none⟩) M M)
  res : wr.heap[w.heap.size + 1]? = some (Obj.cells #[.slice none 0 0, .int .i64 0, .slice none 0 0] 124)
  ints : IntSl wr (.slice (some ⟨g, 0, none⟩) N lc) Ls
  rows : ∀ j, j < M → ∃ a n c, wr.cell? ⟨R, j, none⟩ = some (.slice a n c) ∧ (j < m → RowSl wr (.slice a n c) (T.getD j []) ∧ ∀ b, (Value.slice a n c).ownBlock = some b → b ≠ R ∧ b ≠ w.heap.size + 1)
  soft : ∀ o, wr.frozen? ⟨R, o, none⟩ = false

theorem TR.start {w W : World} {gT R g lc n0 N M : Nat} {Ls : List Int} (T : List (List Bool)) (hb : Below w.heap.size w W) (c0 : W.cell? ⟨gT, 0, none⟩ = some (.slice (some ⟨g, 0, none⟩) N lc)) (c1 : W.cell? ⟨gT, 1, none⟩ = some (.int .i64 n0)) (c2 : W.cell? ⟨gT, 2, none⟩ = some (.slice (some ⟨R, 0, none⟩) M M)) (hR : W.heap[R]? = some (Obj.cells (nilRows M) 23)) (hq : W.heap[w.heap.size + 1]? = some (Obj.cells #[.slice none 0 0, .int .i64 0, .slice none 0 0] 124)) (hz : IntSl W (.slice (some ⟨g, 0, none⟩) N lc) Ls) :
    TR w W gT R g lc n0 N M 0 Ls T :=
  ⟨hb, c0, c1, c2, hq, hz, fun j hj => ⟨none, 0, 0, by rw [cell_of_row W R j _ _ _ hR]; simp [nilRows, hj], fun h => by omega⟩, fun o => by simp [World.frozen?, hR]⟩

theorem TR.grown {w wr wr' : World} {gT R g lc n0 N M m : Nat} {Ls : List Int} {T : List (List Bool)} (h : TR w wr gT R g lc n0 N M m Ls T) (hM : 0 < M) (hb : Below wr.heap.size wr wr') : TR w wr' gT R g lc n0 N M m Ls T :=
  ⟨below_trans h.below hb, cell_keep h.t0 hb, cell_keep h.t1 hb, cell_keep h.t2 hb, block_keep h.res hb, h.ints.below hb, fun j hj => by
    obtain ⟨a, n, c, hc, hr⟩ := h.rows j hj
    exact ⟨a, n, c, cell_keep hc hb, fun hjm => ⟨(hr hjm).1.below hb, (hr hjm).2⟩⟩, fun o => by
    obtain ⟨a, n, c, hc, _⟩ := h.rows 0 hM
    rw [hb.frozen (p := ⟨R, o, none⟩) (show R < _ from World.block_lt_of_cell? wr ⟨R, 0, none⟩ hc)]; exact h.soft o⟩

theorem RowSl.setCell {w : World} {v : Value} {zs : List Bool} (h : RowSl w v zs) {a : Addr} (hne : ∀ k, v.ownBlock = some k → k ≠ a.block) (u : Value) : RowSl (w.setCell a u) v zs := by
  obtain ⟨b, cap, rfl, hm, h, hn⟩ := h
  refine ⟨b, cap, rfl, hm, ?_, hn⟩
  rcases h with h | ⟨b, off, rfl, hc⟩
  · exact Or.inl h
  · refine Or.inr ⟨b, off, rfl, fun i hi => ?_⟩
    rw [World.cell?_setCell_other _ _ _ _ (fun e => hne b rfl (by rw [e]))]
    exact hc i hi

theorem TR.set {w wr : World} {gT R g lc n0 N M m : Nat} {Ls : List Int} {T : List (List Bool)} (h : TR w wr gT R g lc n0 N M m Ls T) (hne : gT ≠ R ∧ w.heap.size + 1 < R ∧ g ≠ R) (hm : m < M) {a : Option Addr} {n c : Nat} (hr : RowSl wr (.slice a n c) (T.getD m [])) (ho : ∀ b, (Value.slice a n c).ownBlock = some b → b ≠ R ∧ b ≠ w.heap.size + 1) :
    TR w (wr.setCell ⟨R, m, none⟩ (.slice a n c)) gT R g lc n0 N M (m + 1) Ls T :=
  ⟨h.below.setCell (by show w.heap.size ≤ R; omega) _, cell_set_ne hne.1 h.t0, cell_set_ne hne.1 h.t1, cell_set_ne hne.1 h.t2, heap_set_ne (by omega) h.res, ints_set hne.2.2 h.ints, fun j hj => by
    by_cases e : j = m
    · subst e
      obtain ⟨a', n', c', hc, _⟩ := h.rows j hj
      exact ⟨a, n, c, cell_set_eq hc, fun _ => ⟨hr.setCell (fun k hk => (ho k hk).1) _, ho⟩⟩
    · obtain ⟨a', n', c', hc, hrow⟩ := h.rows j hj
      refine ⟨a', n', c', cell_set_off e hc, fun hjm => ?_⟩
      have := hrow (by omega)
      exact ⟨this.1.setCell (fun k hk => (this.2 k hk).1) _, this.2⟩, fun o => by rw [World.frozen?_setCell]; exact h.soft o⟩

theorem in_w3 {w wr w2 w3 : World} {gT R g lc n0 N M m : Nat} {Ls : List Int} {T : List (List Bool)} {o : Obj} (h : TR w wr gT R g lc n0 N M m Ls T) (hM : 0 < M) (hm : m < M) (hb2 : Below (wr.alloc o).drew.heap.size (wr.alloc o).drew w2) (hb3 : Below w2.heap.size w2 w3) :
    (∃ a n c, w3.cell? ⟨R, m, none⟩ = some (.slice a n c)) ∧ w3.frozen? ⟨R, m, none⟩ = false ∧ TR w w3 gT R g lc n0 N M m Ls T ∧ R < w2.heap.size := by
  have h2 := ((h.grown hM (below_new wr o)).grown hM (Below.drew (Below.refl _ _))).grown hM hb2
  have h3 := h2.grown hM hb3
  obtain ⟨a, n, c, hc, _⟩ := h3.rows m hm
  obtain ⟨a', n', c', hc', _⟩ := h2.rows m hm
  exact ⟨⟨a, n, c, hc⟩, h3.soft m, h3, World.block_lt_of_cell? w2 _ hc'⟩

theorem own_new {w w2 : World} {R gr n c : Nat} (h1 : R < w2.heap.size) (h2 : w.heap.size + 1 < R) (h3 : w2.heap.size ≤ gr) : ∀ b, (Value.slice (some ⟨gr, 0, none⟩) n c).ownBlock = some b → b ≠ R ∧ b ≠ w.heap.size + 1 := by
  intro b hb
  have : gr = b := by simpa [Value.ownBlock] using hb
  omega

theorem TR.done {w wr : World} {gT R g lc n0 N M : Nat} {Ls : List Int} {T : List (List Bool)} (h : TR w wr gT R g lc n0 N M M Ls T) (hne : w.heap.size + 1 < R) (a b c : Value) :
    (∀ j, j < M → ∃ a' n c', (((wr.setCell ⟨w.heap.size + 1, 0, none⟩ a).setCell ⟨w.heap.size + 1, 1, none⟩ b).setCell ⟨w.heap.size + 1, 2, none⟩ c).cell? ⟨R, j, none⟩ = some (.slice a' n c') ∧ RowSl (((wr.setCell ⟨w.heap.size + 1, 0, none⟩ a).setCell ⟨w.heap.size + 1, 1, none⟩ b).setCell ⟨w.heap.size + 1, 2, none⟩ c) (.slice a' n c') (T.getD j [])) ∧
    Below w.heap.size w (((wr.setCell ⟨w.heap.size + 1, 0, none⟩ a).setCell ⟨w.heap.size + 1, 1, none⟩ b).setCell ⟨w.heap.size + 1, 2, none⟩ c) := by
  refine ⟨fun j hj => ?_, ?_⟩
  · obtain ⟨a', n, c', hc, hr⟩ := h.rows j hj
    obtain ⟨hr, ho⟩ := hr hj
    exact ⟨a', n, c', cell_set_ne (by omega) (cell_set_ne (by omega) (cell_set_ne (by omega) hc)), ((hr.setCell (fun k hk => (ho k hk).2) _).setCell (fun k hk => (ho k hk).2) _).setCell (fun k hk => (ho k hk).2) _⟩
  · exact ((h.below.setCell (by show w.heap.size ≤ w.heap.size + 1; omega) _).setCell (by show w.heap.size ≤ w.heap.size + 1; omega) _).setCell (by show w.heap.size ≤ w.heap.size + 1; omega) _
end Go.Proofs.YtpiacnnifdjlkaaDoor

/-
  The nodes of a formula's part, or of its opposite, without Nots but at the leaves: each behind all that it is made of, nothing twice.
-/
namespace Go.Proofs.YtpiacnnifdjlkaaDoor

def oppK (k : Int) : Int := if k = 4 then 5 else if k = 5 then 4 else if k = 7 then 8 else if k = 8 then 7 else k

/-- One step: g is what the parts come to. -/
def flS (x : Nd) (g : Nat → Bool → Nat → List Nd) (o : Bool) (m : Nat) : List Nd :=
  if x.k = 1 ∨ x.k = 2 then (if o = true then [⟨x.k, 0, 0, x.n⟩, ⟨3, (m : Nat), 0, 0⟩] else [⟨x.k, 0, 0, x.n⟩])
  else if x.k = 3 then g x.a.toNat (!o) m
  else if x.k = 6 then g x.a.toNat o m ++ [⟨6, (m + (g x.a.toNat o m).length - 1 : Nat), 0, 0⟩]
  else g x.a.toNat o m ++ (g x.b.toNat o (m + (g x.a.toNat o m).length) ++ [⟨if o = true then oppK x.k else x.k, (m + (g x.a.toNat o m).length - 1 : Nat), (m + (g x.a.toNat o m).length + (g x.b.toNat o (m + (g x.a.toNat o m).length)).length - 1 : Nat), 0⟩])

def flN (F : List Nd) : Nat → Nat → Bool → Nat → List Nd
  | 0, _, _, _ => []
  | f + 1, i, o, m => flS (F.getD i nd0) (flN F f) o m

theorem flS_congr {x : Nd} {g g' : Nat → Bool → Nat → List Nd} (ha : 3 ≤ x.k → g x.a.toNat = g' x.a.toNat) (hb : x.k = 4 ∨ x.k = 5 ∨ x.k = 7 ∨ x.k = 8 → g x.b.toNat = g' x.b.toNat) (hk : 1 ≤ x.k ∧ x.k ≤ 8) (o : Bool) (m : Nat) : flS x g o m = flS x g' o m := by
  unfold flS
  by_cases h1 : x.k = 1 ∨ x.k = 2
  · rw [if_pos h1, if_pos h1]
  rw [if_neg h1, if_neg h1, ha (by omega)]
  by_cases h3 : x.k = 3
  · rw [if_pos h3, if_pos h3]
  rw [if_neg h3, if_neg h3]
  by_cases h6 : x.k = 6
  · rw [if_pos h6, if_pos h6]
  rw [if_neg h6, if_neg h6, hb (by omega)]

theorem flN_fuel {F : List Nd} (hF : AllOk F) : ∀ i f, i < F.length → i < f → flN F f i = flN F (i + 1) i := by
  intro i
  induction i using Nat.strongRecOn with
  | ind i ih =>
    intro f hi hf
    obtain ⟨g, rfl⟩ : ∃ g, f = g + 1 := ⟨f - 1, by omega⟩
    obtain ⟨hk, ⟨a0, a1, _⟩, ⟨b0, b1, _⟩, _⟩ := node_ok (hF i hi)
    funext o m
    show flS (F.getD i nd0) (flN F g) o m = flS (F.getD i nd0) (flN F i) o m
    refine flS_congr (fun h3 => ?_) (fun h3 => ?_) hk o m
    · have := a1 h3
      rw [ih _ (by omega) g (by omega) (by omega), ih _ (by omega) i (by omega) (by omega)]
    · have := b1 h3
      rw [ih _ (by omega) g (by omega) (by omega), ih _ (by omega) i (by omega) (by omega)]

/-- The nodes of node i, or of its opposite, the first one of number m. -/
def fl (F : List Nd) (i : Nat) (o : Bool) (m : Nat) : List Nd := flN F (i + 1) i o m

theorem fl_eq {F : List Nd} (hF : AllOk F) (i : Nat) (hi : i < F.length) (o : Bool) (m : Nat) : fl F i o m = flS (F.getD i nd0) (fl F) o m := by
  obtain ⟨hk, ⟨a0, a1, _⟩, ⟨b0, b1, _⟩, _⟩ := node_ok (hF i hi)
  show flS (F.getD i nd0) (flN F i) o m = _
  refine flS_congr (fun h3 => ?_) (fun h3 => ?_) hk o m
  · have := a1 h3
    rw [flN_fuel hF _ i (by omega) (by omega)]
    rfl
  · have := b1 h3
    rw [flN_fuel hF _ i (by omega) (by omega)]
    rfl

theorem fl_len {F : List Nd} (hF : AllOk F) : ∀ i, i < F.length → ∀ o m, (fl F i o m).length = (fl F i o 0).length ∧ 0 < (fl F i o m).length ∧ (fl F i o m).length + 2 ≤ 2 ^ (i + 2) := by
  intro i
  induction i using Nat.strongRecOn with
  | ind i ih =>
    intro hi o m
    obtain ⟨hk, ⟨a0, a1, _⟩, ⟨b0, b1, _⟩, _⟩ := node_ok (hF i hi)
    rw [fl_eq hF i hi o m, fl_eq hF i hi o 0]
    have h2i : ∀ j, j < i → 2 ^ (j + 2) ≤ 2 ^ (i + 1) := fun j hj => Nat.pow_le_pow_right (by decide) (by omega)
    have h2 : 2 ^ (i + 2) = 2 * 2 ^ (i + 1) := by rw [Nat.pow_succ]; omega
    have hp : 2 ≤ 2 ^ (i + 1) := by rw [Nat.pow_succ]; have := Nat.one_le_two_pow (n := i); omega
    generalize F.getD i nd0 = x at *
    unfold flS
    by_cases h1 : x.k = 1 ∨ x.k = 2
    · rw [if_pos h1, if_pos h1]
      cases o <;> simp <;> omega
    rw [if_neg h1, if_neg h1]
    have ha := a1 (by omega)
    have ja := h2i x.a.toNat (by omega)
    by_cases h3 : x.k = 3
    · rw [if_pos h3, if_pos h3]
      have ia := ih x.a.toNat (by omega) (by omega) (!o) m
      exact ⟨ia.1, ia.2.1, by omega⟩
    rw [if_neg h3, if_neg h3]
    have ia := ih x.a.toNat (by omega) (by omega) o m
    have ia0 := ih x.a.toNat (by omega) (by omega) o 0
    by_cases h6 : x.k = 6
    · rw [if_pos h6, if_pos h6]
      simp only [List.length_append, List.length_cons, List.length_nil]
      omega
    rw [if_neg h6, if_neg h6]
    have hb := b1 (by omega)
    have jb := h2i x.b.toNat (by omega)
    have ib := ih x.b.toNat (by omega) (by omega) o (m + (fl F x.a.toNat o m).length)
    have ib0 := ih x.b.toNat (by omega) (by omega) o (0 + (fl F x.a.toNat o 0).length)
    simp only [List.length_append, List.length_cons, List.length_nil]
    omega
end Go.Proofs.YtpiacnnifdjlkaaDoor

/-
  What formula.grow answers: a formula is one node longer.
-/
namespace Go.Proofs.YtpiacnnifdjlkaaDoor
open Go.RowKit Go.Sort

/-- The cells of nodes, one behind the other. -/
def ndCells (F : List Nd) : List Value := F.flatMap fun x => [.int .i64 x.k, .int .i64 x.a, .int .i64 x.b, .int .i64 x.n]

theorem ndCells_len (F : List Nd) : (ndCells F).length = F.length * 4 := by
  unfold ndCells
  induction F with
  | nil => rfl
  | cons x F ih => simp [List.flatMap_cons, ih]; omega

theorem ndCells_snoc (F : List Nd) (x : Nd) : ndCells (F ++ [x]) = ndCells F ++ [.int .i64 x.k, .int .i64 x.a, .int .i64 x.b, .int .i64 x.n] := by
  simp [ndCells, List.flatMap_append]

theorem nodeInfo : Tryd.prog.info? 74 = some Tryd.t74 := by kernel_rfl

theorem run_app_node (w : World) (ty base n : Nat) (v : Value) (xs : List Value) (hown : w.ownsRow base 74 4 v n xs) (B c : Nat) (x : Nd) (h0 : w.cell? ⟨B, 0, none⟩ = some (.int .i64 x.k)) (h1 : w.cell? ⟨B, 1, none⟩ = some (.int .i64 x.a)) (h2 : w.cell? ⟨B, 2, none⟩ = some (.int .i64 x.b)) (h3 : w.cell? ⟨B, 3, none⟩ = some (.int .i64 x.n)) (hn : n ≤ 900000) (hbase : base ≤ w.heap.size) :
    ∃ g cap w', (Builtin.append_ #[59, 59] ty #[v, .slice (some ⟨B, 0, none⟩) 1 c]).run Tryd.prog w = .ok (.slice (some ⟨g, 0, none⟩) (n + 1) cap) w' ∧ w'.ownsRow base 74 4 (.slice (some ⟨g, 0, none⟩) (n + 1) cap) (n + 1) (xs ++ [.int .i64 x.k, .int .i64 x.a, .int .i64 x.b, .int .i64 x.n]) ∧ w.grownBy w' v.ownBlock ∧ (v.ownBlock = some g ∨ g = w.heap.size) := by
  obtain ⟨v', w', hr, h2', h3', _, h5⟩ := run_append_own_at (P := Tryd.prog) w base 59 ty 74 Tryd.t74 (.agg #[.int .i64 0, .int .i64 0, .int .i64 0, .int .i64 0]) 4 32 Tryd.underlying59 nodeInfo (by kernel_rfl) (by kernel_rfl) (by kernel_rfl) rfl (by decide) v n xs hown ⟨B, 0, none⟩ 1 c [.int .i64 x.k, .int .i64 x.a, .int .i64 x.b, .int .i64 x.n] rfl (fun j u hu => by
    rw [add_none, Nat.zero_add]
    match j, hu with
    | 0, hu => simp at hu; rw [← hu]; exact h0
    | 1, hu => simp at hu; rw [← hu]; exact h1
    | 2, hu => simp at hu; rw [← hu]; exact h2
    | 3, hu => simp at hu; rw [← hu]; exact h3
    | j + 4, hu => simp at hu) (fun u hu => by simp at hu; rcases hu with rfl | rfl | rfl | rfl <;> rfl) (by unfold maxLen; omega) (by omega) hbase
  rcases h2'.2 with ⟨rfl, h0'⟩ | ⟨g, cap, cur, rfl, _⟩
  · omega
  · refine ⟨g, cap, w', hr, h2', h3', ?_⟩
    rcases h5 with h5 | h5
    · left; rw [← h5]; rfl
    · right; simpa [Value.ownBlock] using h5

theorem step_app_node {ops : Array Oper} {o : Oper} {a : Act} {K : Act → World → Prop} {Q : Exit → Act → World → Prop} {E : Prop} {w : World} (hgd : o.guard = none) (s x : Operand)
    (ho : o.op = .call { callee := .builtin .append, args := #[s, x], argTypes := #[59, 59] }) (base n : Nat) (v : Value) (xs : List Value) (hs : a.eval s = v)
    (hown : w.ownsRow base 74 4 v n xs) (B c : Nat) (nd : Nd) (hx : a.eval x = .slice (some ⟨B, 0, none⟩) 1 c) (h0 : w.cell? ⟨B, 0, none⟩ = some (.int .i64 nd.k)) (h1 : w.cell? ⟨B, 1, none⟩ = some (.int .i64 nd.a)) (h2 : w.cell? ⟨B, 2, none⟩ = some (.int .i64 nd.b)) (h3 : w.cell? ⟨B, 3, none⟩ = some (.int .i64 nd.n)) (hn : n ≤ 900000) (hbase : base ≤ w.heap.size)
    (h : ∀ g cap w', w'.ownsRow base 74 4 (.slice (some ⟨g, 0, none⟩) (n + 1) cap) (n + 1) (xs ++ [.int .i64 nd.k, .int .i64 nd.a, .int .i64 nd.b, .int .i64 nd.n]) → w.grownBy w' v.ownBlock → (v.ownBlock = some g ∨ g = w.heap.size) → K (a.put o.dst (.slice (some ⟨g, 0, none⟩) (n + 1) cap)) w') :
    if Region.wanted o (yielded ops a.tmps) = true then Oper.wp Tryd.prog o a w K Q else E := by
  have hw : Region.wanted o (yielded ops a.tmps) = true := by simp [Region.wanted, hgd]
  rw [if_pos hw]
  obtain ⟨g, cap, w', hr, h4, h5, h6⟩ := run_app_node w o.type base n v xs hown B c nd h0 h1 h2 h3 hn hbase
  unfold Oper.wp execOp
  simp only [ho, resolve, invoke, builtin, Sem.run_bind, Sem.run_pure, Result.andThen_ok, List.map_toArray, List.map_cons, List.map_nil, hs, hx, hr]
  exact h g cap w' h4 h5 h6

theorem grown_cell {w w' : World} {row : Option Nat} {b o : Nat} {v : Value} (hg : w.grownBy w' row) (hc : w.cell? ⟨b, o, none⟩ = some v) (hne : some b ≠ row) : w'.cell? ⟨b, o, none⟩ = some v := by
  rw [World.cell?_of_block (a := ⟨b, o, none⟩) (hg.block b (World.block_lt_of_cell? w _ hc) hne)]; exact hc

theorem grown_frozen {w w' : World} {row : Option Nat} {b o : Nat} (hg : w.grownBy w' row) (hb : b < w.heap.size) (hne : some b ≠ row) (hf : w.frozen? ⟨b, o, none⟩ = false) : w'.frozen? ⟨b, o, none⟩ = false := by
  rw [World.frozen?_of_block (a := ⟨b, o, none⟩) (hg.block b hb hne)]; exact hf

theorem grown_from {w w0 w' : World} {row : Option Nat} (hb : Below w.heap.size w w0) (hg : w0.grownBy w' row) : w.grownBy w' row :=
  ⟨hg.os.trans hb.os, hg.tape.trans hb.tape, hg.output.trans hb.output, Nat.le_trans hb.size hg.size, fun k hk hne => (hg.block k (Nat.lt_of_lt_of_le hk hb.size) hne).trans (hb.block k hk)⟩

set_option maxRecDepth 100000 in
set_option maxHeartbeats 2000000 in
theorem grow_any {w : World} {base pb po n : Nat} {a : Option Addr} {c : Nat} {xs : List Value} (x : Nd) (hc : w.cell? ⟨pb, po, none⟩ = some (.slice a n c)) (hf : w.frozen? ⟨pb, po, none⟩ = false) (hown : w.ownsRow base 74 4 (.slice a n c) n xs) (hne : ∀ g, (Value.slice a n c).ownBlock = some g → g ≠ pb) (hn : n ≤ 900000) (hbase : base ≤ w.heap.size) :
    Calls Tryd.prog 107 #[.pointer (some ⟨pb, po, none⟩), .agg #[.int .i64 x.k, .int .i64 x.a, .int .i64 x.b, .int .i64 x.n]] w fun e w' => e = .returned (.int .i64 n) ∧ ∃ g cap w1, w' = w1.setCell ⟨pb, po, none⟩ (.slice (some ⟨g, 0, none⟩) (n + 1) cap) ∧ w1.ownsRow base 74 4 (.slice (some ⟨g, 0, none⟩) (n + 1) cap) (n + 1) (xs ++ [.int .i64 x.k, .int .i64 x.a, .int .i64 x.b, .int .i64 x.n]) ∧ w.grownBy w1 (Value.slice a n c).ownBlock ∧ ((Value.slice a n c).ownBlock = some g ∨ w.heap.size ≤ g) := by
  obtain ⟨k, xa, xb, xn⟩ := x
  dsimp only
  have hpl := World.block_lt_of_cell? w _ hc
  dsimp only at hpl
  have HOk : Hid (∀ W, Below w.heap.size w W → W.ownsRow base 74 4 (.slice a n c) n xs) := hide fun W hb => hown.kept (row := none) ⟨hb.os, hb.tape, hb.output, hb.size, fun k hk _ => hb.block k hk⟩ (by cases hv : (Value.slice a n c).ownBlock <;> simp)
  have HNp : Hid (some pb ≠ (Value.slice a n c).ownBlock) := hide fun e => hne pb e.symm rfl
  have HNw : Hid (some w.heap.size ≠ (Value.slice a n c).ownBlock) := hide fun e => by have := (hown.lt _ e.symm).2; omega
  clear hown hne
  have z1 : pb < w.heap.size + 1 := by omega
  have z2 : pb < w.heap.size + 1 + 1 := by omega
  go_enter Tryd.func107, Tryd.ntmps107
  go_wp2_with (fail)
  go_region_law (first | (refine step_app_node rfl (.tmp 8) (.tmp 10) rfl base n _ xs rfl ?_ _ _ ⟨k, xa, xb, xn⟩ rfl ?_ ?_ ?_ ?_ hn ?_ ?_; (focus (exact HOk.out _ (by repeat (first | exact Below.refl _ _ | assumption | refine below_drewN ?_ _ | refine Below.drew ?_ | refine Below.alloc ?_ (by simp <;> omega) _ | refine below_trans ?_ (by assumption))))); (focus ((repeat (first | (with_reducible exact hc) | ((with_reducible refine cell_top _ _ _ _ _ _ ?_ ?_); (focus (first | rfl | (simp; done))); exact rfl) | (with_reducible refine cell_drew ?_) | (with_reducible refine cell_under _ _ ?_))))); (focus ((repeat (first | (with_reducible exact hc) | ((with_reducible refine cell_top _ _ _ _ _ _ ?_ ?_); (focus (first | rfl | (simp; done))); exact rfl) | (with_reducible refine cell_drew ?_) | (with_reducible refine cell_under _ _ ?_))))); (focus ((repeat (first | (with_reducible exact hc) | ((with_reducible refine cell_top _ _ _ _ _ _ ?_ ?_); (focus (first | rfl | (simp; done))); exact rfl) | (with_reducible refine cell_drew ?_) | (with_reducible refine cell_under _ _ ?_))))); (focus ((repeat (first | (with_reducible exact hc) | ((with_reducible refine cell_top _ _ _ _ _ _ ?_ ?_); (focus (first | rfl | (simp; done))); exact rfl) | (with_reducible refine cell_drew ?_) | (with_reducible refine cell_under _ _ ?_))))); (focus (simp <;> omega)); intro g cap w5 ho5 hg5 hd5; have c5 : w5.cell? ⟨pb, po, none⟩ = some (.slice a n c) := grown_cell hg5 (by (repeat (first | (with_reducible exact hc) | ((with_reducible refine cell_top _ _ _ _ _ _ ?_ ?_); (focus (first | rfl | (simp; done))); exact rfl) | (with_reducible refine cell_drew ?_) | (with_reducible refine cell_under _ _ ?_)))) HNp.out; have f5 : w5.frozen? ⟨pb, po, none⟩ = false := grown_frozen hg5 (by simp; omega) HNp.out ((Below.frozen (B := w.heap.size) (w := w) (p := ⟨pb, po, none⟩) (by repeat (first | exact Below.refl _ _ | assumption | refine below_drewN ?_ _ | refine Below.drew ?_ | refine Below.alloc ?_ (by simp <;> omega) _ | refine below_trans ?_ (by assumption))) hpl).trans hf); have hgw := grown_from (w := w) (by repeat (first | exact Below.refl _ _ | assumption | refine below_drewN ?_ _ | refine Below.drew ?_ | refine Below.alloc ?_ (by simp <;> omega) _ | refine below_trans ?_ (by assumption))) hg5; have hdw : (Value.slice a n c).ownBlock = some g ∨ w.heap.size ≤ g := (by rcases hd5 with h | h; exact Or.inl h; exact Or.inr (by rw [h]; simp <;> omega))))
  all_goals
    have HF := hide (And.intro ho5 (And.intro hgw hdw))
    clear ho5 hgw hdw hg5 hd5
    go_wp2_with (fail)
    go_ret
    exact ⟨ret_eq (by omega), g, cap, w5, rfl, HF.out⟩
end Go.Proofs.YtpiacnnifdjlkaaDoor

namespace Go.Proofs.YtpiacnnifdjlkaaDoor
open Go.RowKit Go.Sort

/-- All but the turner's own cells, and the row that grows, is as it was. -/
structure GTf (tb : Nat) (row : Option Nat) (w w' : World) : Prop where
  os : w'.os = w.os
  tape : w'.tape = w.tape
  output : w'.output = w.output
  size : w.heap.size ≤ w'.heap.size
  block : ∀ k, k < w.heap.size → k ≠ tb → some k ≠ row → w'.heap[k]? = w.heap[k]?

/-- A turner: its map, the formula that it turns, the nodes that it has made. -/
structure TN (w : World) (tb r base : Nat) (fv : Value) (F : List Nd) (a : Option Addr) (c : Nat) (out : List Nd) : Prop where
  c0 : w.cell? ⟨tb, 0, none⟩ = some (.map (some r))
  c1 : w.cell? ⟨tb, 1, none⟩ = some fv
  c2 : w.cell? ⟨tb, 2, none⟩ = some (.slice a out.length c)
  soft : w.frozen? ⟨tb, 2, none⟩ = false
  sg : SgMap w r
  nodes : NodeSl w fv F
  own : w.ownsRow base 74 4 (.slice a out.length c) out.length (ndCells out)
  hb : base ≤ w.heap.size
  lt1 : tb < base
  lt2 : r < base
  ne2 : r ≠ tb
  lt3 : ∀ b, fv.ownBlock = some b → b < base ∧ b ≠ tb

theorem NodeSl.of_block {w w' : World} {v : Value} {zs : List Nd} (h : NodeSl w v zs) (hb : ∀ b, v.ownBlock = some b → w'.heap[b]? = w.heap[b]?) : NodeSl w' v zs := by
  obtain ⟨a, cap, rfl, hm, h, hn⟩ := h
  refine ⟨a, cap, rfl, hm, ?_, hn⟩
  rcases h with h | ⟨b, off, rfl, hc⟩
  · exact Or.inl h
  · have e := hb b rfl
    refine Or.inr ⟨b, off, rfl, fun i hi => ?_⟩
    obtain ⟨h1, h2, h3, h4⟩ := hc i hi
    exact ⟨(World.cell?_of_block (a := ⟨b, _, none⟩) e).trans h1, (World.cell?_of_block (a := ⟨b, _, none⟩) e).trans h2, (World.cell?_of_block (a := ⟨b, _, none⟩) e).trans h3, (World.cell?_of_block (a := ⟨b, _, none⟩) e).trans h4⟩

theorem TN.below {w w' : World} {tb r base : Nat} {fv : Value} {F : List Nd} {a : Option Addr} {c : Nat} {out : List Nd} (h : TN w tb r base fv F a c out) (hb : Below w.heap.size w w') : TN w' tb r base fv F a c out :=
  ⟨cell_keep h.c0 hb, cell_keep h.c1 hb, cell_keep h.c2 hb, (hb.frozen (p := ⟨tb, 2, none⟩) (World.block_lt_of_cell? w _ h.c2)).trans h.soft, h.sg.below hb, h.nodes.below hb,
    h.own.kept (row := none) ⟨hb.os, hb.tape, hb.output, hb.size, fun k hk _ => hb.block k hk⟩ (by cases hv : (Value.slice a out.length c).ownBlock <;> simp), Nat.le_trans h.hb hb.size, h.lt1, h.lt2, h.ne2, h.lt3⟩

theorem TN.row_ne {w : World} {tb r base : Nat} {fv : Value} {F : List Nd} {a : Option Addr} {c : Nat} {out : List Nd} (h : TN w tb r base fv F a c out) (k : Nat) (hk : k < base) : some k ≠ (Value.slice a out.length c).ownBlock := fun e => by
  have := (h.own.lt k e.symm).1
  omega

theorem TN.grown {w w1 : World} {tb r base : Nat} {fv : Value} {F : List Nd} {a : Option Addr} {c : Nat} {out : List Nd} (h : TN w tb r base fv F a c out) (x : Nd) {g cap : Nat} (ho : w1.ownsRow base 74 4 (.slice (some ⟨g, 0, none⟩) (out.length + 1) cap) (out.length + 1) (ndCells out ++ [.int .i64 x.k, .int .i64 x.a, .int .i64 x.b, .int .i64 x.n])) (hg : w.grownBy w1 (Value.slice a out.length c).ownBlock) :
    TN (w1.setCell ⟨tb, 2, none⟩ (.slice (some ⟨g, 0, none⟩) (out.length + 1) cap)) tb r base fv F (some ⟨g, 0, none⟩) cap (out ++ [x]) ∧ GTf tb (Value.slice a out.length c).ownBlock w (w1.setCell ⟨tb, 2, none⟩ (.slice (some ⟨g, 0, none⟩) (out.length + 1) cap)) := by
  have hlen : (out ++ [x]).length = out.length + 1 := by simp
  have htb := World.block_lt_of_cell? w _ h.c2
  dsimp only at htb
  have hrl := h.sg.lt
  have n1 := h.row_ne tb h.lt1
  have n2 := h.row_ne r h.lt2
  have hgb := (ho.lt g rfl).1
  have hl1 := h.lt1
  have hblk : ∀ k, k < w.heap.size → k ≠ tb → some k ≠ (Value.slice a out.length c).ownBlock → (w1.setCell ⟨tb, 2, none⟩ (.slice (some ⟨g, 0, none⟩) (out.length + 1) cap)).heap[k]? = w.heap[k]? := fun k hk h1 h2 => (set_far w1 _ _ k h1).trans (hg.block k hk h2)
  refine ⟨⟨cell_set_off (by decide) (grown_cell hg h.c0 n1), cell_set_off (by decide) (grown_cell hg h.c1 n1), by rw [hlen]; exact cell_set_eq (grown_cell hg h.c2 n1), by rw [World.frozen?_setCell]; exact grown_frozen hg htb n1 h.soft, (hblk r hrl h.ne2 n2).trans h.sg, ?_, ?_, ?_, h.lt1, h.lt2, h.ne2, h.lt3⟩, ⟨hg.os, hg.tape, hg.output, by simpa [World.setCell] using hg.size, hblk⟩⟩
  · refine h.nodes.of_block fun b hb => ?_
    obtain ⟨q1, q2⟩ := h.lt3 b hb
    exact hblk b (Nat.lt_of_lt_of_le q1 h.hb) q2 (h.row_ne b q1)
  · rw [hlen, ndCells_snoc]
    refine ho.kept (row := some tb) ⟨rfl, rfl, rfl, by simp [World.setCell], fun k hk hne => set_far w1 _ _ k (fun e => hne (by rw [e]))⟩ (Or.inr ?_)
    intro e
    have : g = tb := by simpa [Value.ownBlock] using e
    omega
  · have := hg.size
    have := h.hb
    simp only [World.setCell, Array.size_modify]
    omega
end Go.Proofs.YtpiacnnifdjlkaaDoor
