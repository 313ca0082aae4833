/-
  What formula.grow answers: a formula is one node longer.
-/
import Derived.Test.YtphoifgcmpjnoaaDoorEm
import Derived.Deep.RegionLaw
namespace Go.Proofs.YtphoifgcmpjnoaaDoor
open Go.RowKit Go.Sort

/-- The cells of nodes, one behind the other. -/
def ndCells (F : List Nd) : List Value := F.flatMap fun x => [.int .i64 x.k, .int .i64 x.a, .int .i64 x.b, .int .i64 x.n]

theorem ndCells_len (F : List Nd) : (ndCells F).length = F.length * 4 := by
  unfold ndCells
  induction F with
  | nil => rfl
  | cons x F ih => simp [List.flatMap_cons, ih]; omega

theorem ndCells_snoc (F : List Nd) (x : Nd) : ndCells (F ++ [x]) = ndCells F ++ [.int .i64 x.k, .int .i64 x.a, .int .i64 x.b, .int .i64 x.n] := by
  simp [ndCells, List.flatMap_append]

theorem nodeInfo : Tryd.prog.info? 74 = some Tryd.t74 := by kernel_rfl

theorem run_app_node (w : World) (ty base n : Nat) (v : Value) (xs : List Value) (hown : w.ownsRow base 74 4 v n xs) (B c : Nat) (x : Nd) (h0 : w.cell? ⟨B, 0, none⟩ = some (.int .i64 x.k)) (h1 : w.cell? ⟨B, 1, none⟩ = some (.int .i64 x.a)) (h2 : w.cell? ⟨B, 2, none⟩ = some (.int .i64 x.b)) (h3 : w.cell? ⟨B, 3, none⟩ = some (.int .i64 x.n)) (hn : n ≤ 900000) (hbase : base ≤ w.heap.size) :
    ∃ g cap w', (Builtin.append_ #[59, 59] ty #[v, .slice (some ⟨B, 0, none⟩) 1 c]).run Tryd.prog w = .ok (.slice (some ⟨g, 0, none⟩) (n + 1) cap) w' ∧ w'.ownsRow base 74 4 (.slice (some ⟨g, 0, none⟩) (n + 1) cap) (n + 1) (xs ++ [.int .i64 x.k, .int .i64 x.a, .int .i64 x.b, .int .i64 x.n]) ∧ w.grownBy w' v.ownBlock ∧ (v.ownBlock = some g ∨ g = w.heap.size) := by
  obtain ⟨v', w', hr, h2', h3', _, h5⟩ := run_append_own_at (P := Tryd.prog) w base 59 ty 74 Tryd.t74 (.agg #[.int .i64 0, .int .i64 0, .int .i64 0, .int .i64 0]) 4 32 Tryd.underlying59 nodeInfo (by kernel_rfl) (by kernel_rfl) (by kernel_rfl) rfl (by decide) v n xs hown ⟨B, 0, none⟩ 1 c [.int .i64 x.k, .int .i64 x.a, .int .i64 x.b, .int .i64 x.n] rfl (fun j u hu => by
    rw [add_none, Nat.zero_add]
    match j, hu with
    | 0, hu => simp at hu; rw [← hu]; exact h0
    | 1, hu => simp at hu; rw [← hu]; exact h1
    | 2, hu => simp at hu; rw [← hu]; exact h2
    | 3, hu => simp at hu; rw [← hu]; exact h3
    | j + 4, hu => simp at hu) (fun u hu => by simp at hu; rcases hu with rfl | rfl | rfl | rfl <;> rfl) (by unfold maxLen; omega) (by omega) hbase
  rcases h2'.2 with ⟨rfl, h0'⟩ | ⟨g, cap, cur, rfl, _⟩
  · omega
  · refine ⟨g, cap, w', hr, h2', h3', ?_⟩
    rcases h5 with h5 | h5
    · left; rw [← h5]; rfl
    · right; simpa [Value.ownBlock] using h5

theorem step_app_node {ops : Array Oper} {o : Oper} {a : Act} {K : Act → World → Prop} {Q : Exit → Act → World → Prop} {E : Prop} {w : World} (hgd : o.guard = none) (s x : Operand)
    (ho : o.op = .call { callee := .builtin .append, args := #[s, x], argTypes := #[59, 59] }) (base n : Nat) (v : Value) (xs : List Value) (hs : a.eval s = v)
    (hown : w.ownsRow base 74 4 v n xs) (B c : Nat) (nd : Nd) (hx : a.eval x = .slice (some ⟨B, 0, none⟩) 1 c) (h0 : w.cell? ⟨B, 0, none⟩ = some (.int .i64 nd.k)) (h1 : w.cell? ⟨B, 1, none⟩ = some (.int .i64 nd.a)) (h2 : w.cell? ⟨B, 2, none⟩ = some (.int .i64 nd.b)) (h3 : w.cell? ⟨B, 3, none⟩ = some (.int .i64 nd.n)) (hn : n ≤ 900000) (hbase : base ≤ w.heap.size)
    (h : ∀ g cap w', w'.ownsRow base 74 4 (.slice (some ⟨g, 0, none⟩) (n + 1) cap) (n + 1) (xs ++ [.int .i64 nd.k, .int .i64 nd.a, .int .i64 nd.b, .int .i64 nd.n]) → w.grownBy w' v.ownBlock → (v.ownBlock = some g ∨ g = w.heap.size) → K (a.put o.dst (.slice (some ⟨g, 0, none⟩) (n + 1) cap)) w') :
    if Region.wanted o (yielded ops a.tmps) = true then Oper.wp Tryd.prog o a w K Q else E := by
  have hw : Region.wanted o (yielded ops a.tmps) = true := by simp [Region.wanted, hgd]
  rw [if_pos hw]
  obtain ⟨g, cap, w', hr, h4, h5, h6⟩ := run_app_node w o.type base n v xs hown B c nd h0 h1 h2 h3 hn hbase
  unfold Oper.wp execOp
  simp only [ho, resolve, invoke, builtin, Sem.run_bind, Sem.run_pure, Result.andThen_ok, List.map_toArray, List.map_cons, List.map_nil, hs, hx, hr]
  exact h g cap w' h4 h5 h6

theorem grown_cell {w w' : World} {row : Option Nat} {b o : Nat} {v : Value} (hg : w.grownBy w' row) (hc : w.cell? ⟨b, o, none⟩ = some v) (hne : some b ≠ row) : w'.cell? ⟨b, o, none⟩ = some v := by
  rw [World.cell?_of_block (a := ⟨b, o, none⟩) (hg.block b (World.block_lt_of_cell? w _ hc) hne)]; exact hc

theorem grown_frozen {w w' : World} {row : Option Nat} {b o : Nat} (hg : w.grownBy w' row) (hb : b < w.heap.size) (hne : some b ≠ row) (hf : w.frozen? ⟨b, o, none⟩ = false) : w'.frozen? ⟨b, o, none⟩ = false := by
  rw [World.frozen?_of_block (a := ⟨b, o, none⟩) (hg.block b hb hne)]; exact hf

theorem grown_from {w w0 w' : World} {row : Option Nat} (hb : Below w.heap.size w w0) (hg : w0.grownBy w' row) : w.grownBy w' row :=
  ⟨hg.os.trans hb.os, hg.tape.trans hb.tape, hg.output.trans hb.output, Nat.le_trans hb.size hg.size, fun k hk hne => (hg.block k (Nat.lt_of_lt_of_le hk hb.size) hne).trans (hb.block k hk)⟩

set_option maxRecDepth 100000 in
set_option maxHeartbeats 2000000 in
theorem grow_any {w : World} {base pb po n : Nat} {a : Option Addr} {c : Nat} {xs : List Value} (x : Nd) (hc : w.cell? ⟨pb, po, none⟩ = some (.slice a n c)) (hf : w.frozen? ⟨pb, po, none⟩ = false) (hown : w.ownsRow base 74 4 (.slice a n c) n xs) (hne : ∀ g, (Value.slice a n c).ownBlock = some g → g ≠ pb) (hn : n ≤ 900000) (hbase : base ≤ w.heap.size) :
    Calls Tryd.prog 107 #[.pointer (some ⟨pb, po, none⟩), .agg #[.int .i64 x.k, .int .i64 x.a, .int .i64 x.b, .int .i64 x.n]] w fun e w' => e = .returned (.int .i64 n) ∧ ∃ g cap w1, w' = w1.setCell ⟨pb, po, none⟩ (.slice (some ⟨g, 0, none⟩) (n + 1) cap) ∧ w1.ownsRow base 74 4 (.slice (some ⟨g, 0, none⟩) (n + 1) cap) (n + 1) (xs ++ [.int .i64 x.k, .int .i64 x.a, .int .i64 x.b, .int .i64 x.n]) ∧ w.grownBy w1 (Value.slice a n c).ownBlock ∧ ((Value.slice a n c).ownBlock = some g ∨ w.heap.size ≤ g) := by
  obtain ⟨k, xa, xb, xn⟩ := x
  dsimp only
  have hpl := World.block_lt_of_cell? w _ hc
  dsimp only at hpl
  have HOk : Hid (∀ W, Below w.heap.size w W → W.ownsRow base 74 4 (.slice a n c) n xs) := hide fun W hb => hown.kept (row := none) ⟨hb.os, hb.tape, hb.output, hb.size, fun k hk _ => hb.block k hk⟩ (by cases hv : (Value.slice a n c).ownBlock <;> simp)
  have HNp : Hid (some pb ≠ (Value.slice a n c).ownBlock) := hide fun e => hne pb e.symm rfl
  have HNw : Hid (some w.heap.size ≠ (Value.slice a n c).ownBlock) := hide fun e => by have := (hown.lt _ e.symm).2; omega
  clear hown hne
  have z1 : pb < w.heap.size + 1 := by omega
  have z2 : pb < w.heap.size + 1 + 1 := by omega
  go_enter Tryd.func107, Tryd.ntmps107
  go_wp2_with (fail)
  go_region_law (first | (refine step_app_node rfl (.tmp 8) (.tmp 10) rfl base n _ xs rfl ?_ _ _ ⟨k, xa, xb, xn⟩ rfl ?_ ?_ ?_ ?_ hn ?_ ?_; (focus (exact HOk.out _ (by repeat (first | exact Below.refl _ _ | assumption | refine below_drewN ?_ _ | refine Below.drew ?_ | refine Below.alloc ?_ (by simp <;> omega) _ | refine below_trans ?_ (by assumption))))); (focus ((repeat (first | (with_reducible exact hc) | ((with_reducible refine cell_top _ _ _ _ _ _ ?_ ?_); (focus (first | rfl | (simp; done))); exact rfl) | (with_reducible refine cell_drew ?_) | (with_reducible refine cell_under _ _ ?_))))); (focus ((repeat (first | (with_reducible exact hc) | ((with_reducible refine cell_top _ _ _ _ _ _ ?_ ?_); (focus (first | rfl | (simp; done))); exact rfl) | (with_reducible refine cell_drew ?_) | (with_reducible refine cell_under _ _ ?_))))); (focus ((repeat (first | (with_reducible exact hc) | ((with_reducible refine cell_top _ _ _ _ _ _ ?_ ?_); (focus (first | rfl | (simp; done))); exact rfl) | (with_reducible refine cell_drew ?_) | (with_reducible refine cell_under _ _ ?_))))); (focus ((repeat (first | (with_reducible exact hc) | ((with_reducible refine cell_top _ _ _ _ _ _ ?_ ?_); (focus (first | rfl | (simp; done))); exact rfl) | (with_reducible refine cell_drew ?_) | (with_reducible refine cell_under _ _ ?_))))); (focus (simp <;> omega)); intro g cap w5 ho5 hg5 hd5; have c5 : w5.cell? ⟨pb, po, none⟩ = some (.slice a n c) := grown_cell hg5 (by (repeat (first | (with_reducible exact hc) | ((with_reducible refine cell_top _ _ _ _ _ _ ?_ ?_); (focus (first | rfl | (simp; done))); exact rfl) | (with_reducible refine cell_drew ?_) | (with_reducible refine cell_under _ _ ?_)))) HNp.out; have f5 : w5.frozen? ⟨pb, po, none⟩ = false := grown_frozen hg5 (by simp; omega) HNp.out ((Below.frozen (B := w.heap.size) (w := w) (p := ⟨pb, po, none⟩) (by repeat (first | exact Below.refl _ _ | assumption | refine below_drewN ?_ _ | refine Below.drew ?_ | refine Below.alloc ?_ (by simp <;> omega) _ | refine below_trans ?_ (by assumption))) hpl).trans hf); have hgw := grown_from (w := w) (by repeat (first | exact Below.refl _ _ | assumption | refine below_drewN ?_ _ | refine Below.drew ?_ | refine Below.alloc ?_ (by simp <;> omega) _ | refine below_trans ?_ (by assumption))) hg5; have hdw : (Value.slice a n c).ownBlock = some g ∨ w.heap.size ≤ g := (by rcases hd5 with h | h; exact Or.inl h; exact Or.inr (by rw [h]; simp <;> omega))))
  all_goals
    have HF := hide (And.intro ho5 (And.intro hgw hdw))
    clear ho5 hgw hdw hg5 hd5
    go_wp2_with (fail)
    go_ret
    exact ⟨ret_eq (by omega), g, cap, w5, rfl, HF.out⟩
end Go.Proofs.YtphoifgcmpjnoaaDoor
