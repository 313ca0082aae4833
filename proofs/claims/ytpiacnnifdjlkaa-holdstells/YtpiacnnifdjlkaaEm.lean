/-
  While newTable fills its rows: what lies where.
-/
import Derived.Test.YtpiacnnifdjlkaaEk
namespace Go.Proofs.Ytpiacnnifdjlkaa
open Go.RowKit Go.Sort

theorem ruleB_congr {T T' : List (List Bool)} {h p : Nat} {L : Nat → Int} {x : Nd} (ha : 3 ≤ x.k ∧ x.k ≤ 8 → T.getD x.a.toNat [] = T'.getD x.a.toNat []) (hb : x.k = 4 ∨ x.k = 5 ∨ x.k = 7 ∨ x.k = 8 → T.getD x.b.toNat [] = T'.getD x.b.toNat []) : ruleB T h p L x = ruleB T' h p L x := by
  funext i nx
  unfold ruleB bt
  by_cases h2 : x.k = 2
  · simp only [if_pos h2]
  by_cases h3 : x.k = 3
  · simp only [if_neg h2, if_pos h3, ha (by omega)]
  by_cases h4 : x.k = 4
  · simp only [if_neg h2, if_neg h3, if_pos h4, ha (by omega), hb (by omega)]
  by_cases h5 : x.k = 5
  · simp only [if_neg h2, if_neg h3, if_neg h4, if_pos h5, ha (by omega), hb (by omega)]
  by_cases h6 : x.k = 6
  · simp only [if_neg h2, if_neg h3, if_neg h4, if_neg h5, if_pos h6, ha (by omega)]
  by_cases h7 : x.k = 7
  · simp only [if_neg h2, if_neg h3, if_neg h4, if_neg h5, if_neg h6, if_pos h7, ha (by omega), hb (by omega)]
  by_cases h8 : x.k = 8
  · simp only [if_neg h2, if_neg h3, if_neg h4, if_neg h5, if_neg h6, if_neg h7, if_pos h8, ha (by omega), hb (by omega)]
  simp only [if_neg h2, if_neg h3, if_neg h4, if_neg h5, if_neg h6, if_neg h7, if_neg h8]

/-- A node that is right. -/
theorem node_ok {x : Nd} {m : Nat} (h : nodeErr x m = 0) : (1 ≤ x.k ∧ x.k ≤ 8) ∧ (0 ≤ x.a ∧ (3 ≤ x.k → x.a < m) ∧ (x.k < 3 → x.a = 0)) ∧ (0 ≤ x.b ∧ (x.k = 4 ∨ x.k = 5 ∨ x.k = 7 ∨ x.k = 8 → x.b < m) ∧ (¬ (x.k = 4 ∨ x.k = 5 ∨ x.k = 7 ∨ x.k = 8) → x.b = 0)) ∧ (x.k = 2 → 0 ≤ x.n ∧ x.n ≤ 2) := by
  unfold nodeErr at h
  by_cases h1 : 1 ≤ x.k ∧ x.k ≤ 8
  · rw [if_pos h1] at h
    unfold chkN at h
    split at h
    · omega
    · split at h
      · omega
      · split at h
        · omega
        · rename_i q1 q2 q3
          refine ⟨h1, ⟨?_, ?_, ?_⟩, ⟨?_, ?_, ?_⟩, ?_⟩ <;> omega
  · rw [if_neg h1] at h; omega

/-- All nodes are right. -/
def AllOk (F : List Nd) : Prop := ∀ m, m < F.length → nodeErr (F.getD m nd0) m = 0

theorem chkFrom_ok (F : List Nd) : ∀ d m, m + d = F.length → chkFrom (F.drop m) m = 0 → ∀ j, m ≤ j → j < F.length → nodeErr (F.getD j nd0) j = 0
  | 0, m, hm, _, j, h1, h2 => by omega
  | d + 1, m, hm, h, j, h1, h2 => by
    rw [chkFrom_drop F m (by omega)] at h
    by_cases e : nodeErr (F.getD m nd0) m = 0
    · rw [if_pos e] at h
      by_cases ej : j = m
      · subst ej; exact e
      · exact chkFrom_ok F d (m + 1) (by omega) h j (by omega) h2
    · rw [if_neg e] at h; exact absurd h e

theorem chkF_ok {F : List Nd} (h : chkF F = 0) : 0 < F.length ∧ F.length ≤ 12 ∧ AllOk F := by
  unfold chkF at h
  split at h
  · omega
  · split at h
    · omega
    · rename_i h0 h1
      exact ⟨by omega, by omega, fun m hm => chkFrom_ok F F.length 0 (by omega) h m (by omega) hm⟩

/-- A row of the whole table. -/
theorem tab_row {F : List Nd} (hF : AllOk F) (h p : Nat) (L : Nat → Int) (m : Nat) (hm : m < F.length) : (tabN F h p L F.length).getD m [] = rowU (ruleB (tabN F h p L F.length) h p L (F.getD m nd0)) (decide ((F.getD m nd0).k = 8)) h p := by
  rw [tabN_get F h p L m F.length hm]
  obtain ⟨_, ⟨a0, a1, _⟩, ⟨b0, b1, _⟩, _⟩ := node_ok (hF m hm)
  have e : ruleB (tabN F h p L m) h p L (F.getD m nd0) = ruleB (tabN F h p L F.length) h p L (F.getD m nd0) := by
    refine ruleB_congr (fun hk => ?_) (fun hk => ?_)
    · have := a1 hk.1
      rw [tabN_get F h p L _ m (by omega), tabN_get F h p L _ F.length (by omega)]
    · have := b1 hk
      rw [tabN_get F h p L _ m (by omega), tabN_get F h p L _ F.length (by omega)]
  rw [← e]
  rfl

theorem tab_len (F : List Nd) (h p : Nat) (L : Nat → Int) (m : Nat) (hm : m < F.length) : ((tabN F h p L F.length).getD m []).length = h + p := tabN_row F h p L m F.length hm

/-- What lies where while rows are filled: m of M. -/
structure TR (w wr : World) (gT R g lc n0 N M m : Nat) (Ls : List Int) (T : List (List Bool)) : Prop where
  below : Below w.heap.size w wr
  t0 : wr.cell? ⟨gT, 0, none⟩ = some (.slice (some ⟨g, 0, none⟩) N lc)
  t1 : wr.cell? ⟨gT, 1, none⟩ = some (.int .i64 n0)
  t2 : wr.cell? ⟨gT, 2, none⟩ = some (.slice (some ⟨R, 0, none⟩) M M)
  res : wr.heap[w.heap.size + 1]? = some (Obj.cells #[.slice none 0 0, .int .i64 0, .slice none 0 0] 40)
  ints : IntSl wr (.slice (some ⟨g, 0, none⟩) N lc) Ls
  rows : ∀ j, j < M → ∃ a n c, wr.cell? ⟨R, j, none⟩ = some (.slice a n c) ∧ (j < m → RowSl wr (.slice a n c) (T.getD j []) ∧ ∀ b, (Value.slice a n c).ownBlock = some b → b ≠ R ∧ b ≠ w.heap.size + 1)
  soft : ∀ o, wr.frozen? ⟨R, o, none⟩ = false

theorem TR.start {w W : World} {gT R g lc n0 N M : Nat} {Ls : List Int} (T : List (List Bool)) (hb : Below w.heap.size w W) (c0 : W.cell? ⟨gT, 0, none⟩ = some (.slice (some ⟨g, 0, none⟩) N lc)) (c1 : W.cell? ⟨gT, 1, none⟩ = some (.int .i64 n0)) (c2 : W.cell? ⟨gT, 2, none⟩ = some (.slice (some ⟨R, 0, none⟩) M M)) (hR : W.heap[R]? = some (Obj.cells (nilRows M) 37)) (hq : W.heap[w.heap.size + 1]? = some (Obj.cells #[.slice none 0 0, .int .i64 0, .slice none 0 0] 40)) (hz : IntSl W (.slice (some ⟨g, 0, none⟩) N lc) Ls) :
    TR w W gT R g lc n0 N M 0 Ls T :=
  ⟨hb, c0, c1, c2, hq, hz, fun j hj => ⟨none, 0, 0, by rw [cell_of_row W R j _ _ _ hR]; simp [nilRows, hj], fun h => by omega⟩, fun o => by simp [World.frozen?, hR]⟩

theorem TR.grown {w wr wr' : World} {gT R g lc n0 N M m : Nat} {Ls : List Int} {T : List (List Bool)} (h : TR w wr gT R g lc n0 N M m Ls T) (hM : 0 < M) (hb : Below wr.heap.size wr wr') : TR w wr' gT R g lc n0 N M m Ls T :=
  ⟨below_trans h.below hb, cell_keep h.t0 hb, cell_keep h.t1 hb, cell_keep h.t2 hb, block_keep h.res hb, h.ints.below hb, fun j hj => by
    obtain ⟨a, n, c, hc, hr⟩ := h.rows j hj
    exact ⟨a, n, c, cell_keep hc hb, fun hjm => ⟨(hr hjm).1.below hb, (hr hjm).2⟩⟩, fun o => by
    obtain ⟨a, n, c, hc, _⟩ := h.rows 0 hM
    rw [hb.frozen (p := ⟨R, o, none⟩) (show R < _ from World.block_lt_of_cell? wr ⟨R, 0, none⟩ hc)]; exact h.soft o⟩

theorem RowSl.setCell {w : World} {v : Value} {zs : List Bool} (h : RowSl w v zs) {a : Addr} (hne : ∀ k, v.ownBlock = some k → k ≠ a.block) (u : Value) : RowSl (w.setCell a u) v zs := by
  obtain ⟨b, cap, rfl, hm, h, hn⟩ := h
  refine ⟨b, cap, rfl, hm, ?_, hn⟩
  rcases h with h | ⟨b, off, rfl, hc⟩
  · exact Or.inl h
  · refine Or.inr ⟨b, off, rfl, fun i hi => ?_⟩
    rw [World.cell?_setCell_other _ _ _ _ (fun e => hne b rfl (by rw [e]))]
    exact hc i hi

theorem TR.set {w wr : World} {gT R g lc n0 N M m : Nat} {Ls : List Int} {T : List (List Bool)} (h : TR w wr gT R g lc n0 N M m Ls T) (hne : gT ≠ R ∧ w.heap.size + 1 < R ∧ g ≠ R) (hm : m < M) {a : Option Addr} {n c : Nat} (hr : RowSl wr (.slice a n c) (T.getD m [])) (ho : ∀ b, (Value.slice a n c).ownBlock = some b → b ≠ R ∧ b ≠ w.heap.size + 1) :
    TR w (wr.setCell ⟨R, m, none⟩ (.slice a n c)) gT R g lc n0 N M (m + 1) Ls T :=
  ⟨h.below.setCell (by show w.heap.size ≤ R; omega) _, cell_set_ne hne.1 h.t0, cell_set_ne hne.1 h.t1, cell_set_ne hne.1 h.t2, heap_set_ne (by omega) h.res, ints_set hne.2.2 h.ints, fun j hj => by
    by_cases e : j = m
    · subst e
      obtain ⟨a', n', c', hc, _⟩ := h.rows j hj
      exact ⟨a, n, c, cell_set_eq hc, fun _ => ⟨hr.setCell (fun k hk => (ho k hk).1) _, ho⟩⟩
    · obtain ⟨a', n', c', hc, hrow⟩ := h.rows j hj
      refine ⟨a', n', c', cell_set_off e hc, fun hjm => ?_⟩
      have := hrow (by omega)
      exact ⟨this.1.setCell (fun k hk => (this.2 k hk).1) _, this.2⟩, fun o => by rw [World.frozen?_setCell]; exact h.soft o⟩

theorem in_w3 {w wr w2 w3 : World} {gT R g lc n0 N M m : Nat} {Ls : List Int} {T : List (List Bool)} {o : Obj} (h : TR w wr gT R g lc n0 N M m Ls T) (hM : 0 < M) (hm : m < M) (hb2 : Below (wr.alloc o).drew.heap.size (wr.alloc o).drew w2) (hb3 : Below w2.heap.size w2 w3) :
    (∃ a n c, w3.cell? ⟨R, m, none⟩ = some (.slice a n c)) ∧ w3.frozen? ⟨R, m, none⟩ = false ∧ TR w w3 gT R g lc n0 N M m Ls T ∧ R < w2.heap.size := by
  have h2 := ((h.grown hM (below_new wr o)).grown hM (Below.drew (Below.refl _ _))).grown hM hb2
  have h3 := h2.grown hM hb3
  obtain ⟨a, n, c, hc, _⟩ := h3.rows m hm
  obtain ⟨a', n', c', hc', _⟩ := h2.rows m hm
  exact ⟨⟨a, n, c, hc⟩, h3.soft m, h3, World.block_lt_of_cell? w2 _ hc'⟩

theorem own_new {w w2 : World} {R gr n c : Nat} (h1 : R < w2.heap.size) (h2 : w.heap.size + 1 < R) (h3 : w2.heap.size ≤ gr) : ∀ b, (Value.slice (some ⟨gr, 0, none⟩) n c).ownBlock = some b → b ≠ R ∧ b ≠ w.heap.size + 1 := by
  intro b hb
  have : gr = b := by simpa [Value.ownBlock] using hb
  omega

theorem TR.done {w wr : World} {gT R g lc n0 N M : Nat} {Ls : List Int} {T : List (List Bool)} (h : TR w wr gT R g lc n0 N M M Ls T) (hne : w.heap.size + 1 < R) (a b c : Value) :
    (∀ j, j < M → ∃ a' n c', (((wr.setCell ⟨w.heap.size + 1, 0, none⟩ a).setCell ⟨w.heap.size + 1, 1, none⟩ b).setCell ⟨w.heap.size + 1, 2, none⟩ c).cell? ⟨R, j, none⟩ = some (.slice a' n c') ∧ RowSl (((wr.setCell ⟨w.heap.size + 1, 0, none⟩ a).setCell ⟨w.heap.size + 1, 1, none⟩ b).setCell ⟨w.heap.size + 1, 2, none⟩ c) (.slice a' n c') (T.getD j [])) ∧
    Below w.heap.size w (((wr.setCell ⟨w.heap.size + 1, 0, none⟩ a).setCell ⟨w.heap.size + 1, 1, none⟩ b).setCell ⟨w.heap.size + 1, 2, none⟩ c) := by
  refine ⟨fun j hj => ?_, ?_⟩
  · obtain ⟨a', n, c', hc, hr⟩ := h.rows j hj
    obtain ⟨hr, ho⟩ := hr hj
    exact ⟨a', n, c', cell_set_ne (by omega) (cell_set_ne (by omega) (cell_set_ne (by omega) hc)), ((hr.setCell (fun k hk => (ho k hk).2) _).setCell (fun k hk => (ho k hk).2) _).setCell (fun k hk => (ho k hk).2) _⟩
  · exact ((h.below.setCell (by show w.heap.size ≤ w.heap.size + 1; omega) _).setCell (by show w.heap.size ≤ w.heap.size + 1; omega) _).setCell (by show w.heap.size ≤ w.heap.size + 1; omega) _
end Go.Proofs.Ytpiacnnifdjlkaa
