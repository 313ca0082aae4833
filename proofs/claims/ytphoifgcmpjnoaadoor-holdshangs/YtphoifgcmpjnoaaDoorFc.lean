/-
  A formula that is being turned: what lies where; what (turner).leaf answers.
-/
import Derived.Test.YtphoifgcmpjnoaaDoorFa
import Derived.Test.YtphoifgcmpjnoaaDoorFb
namespace Go.Proofs.YtphoifgcmpjnoaaDoor
open Go.RowKit Go.Sort

/-- All but the turner's own cells, and the row that grows, is as it was. -/
structure GT (tb : Nat) (row : Option Nat) (w w' : World) : Prop where
  os : w'.os = w.os
  tape : w'.tape = w.tape
  output : w'.output = w.output
  size : w.heap.size ≤ w'.heap.size
  block : ∀ k, k < w.heap.size → k ≠ tb → some k ≠ row → w'.heap[k]? = w.heap[k]?

/-- A turner: its map, the formula that it turns, the nodes that it has made. -/
structure TN (w : World) (tb r base : Nat) (fv : Value) (F : List Nd) (a : Option Addr) (c : Nat) (out : List Nd) : Prop where
  c0 : w.cell? ⟨tb, 0, none⟩ = some (.map (some r))
  c1 : w.cell? ⟨tb, 1, none⟩ = some fv
  c2 : w.cell? ⟨tb, 2, none⟩ = some (.slice a out.length c)
  soft : w.frozen? ⟨tb, 2, none⟩ = false
  sg : SgMap w r
  nodes : NodeSl w fv F
  own : w.ownsRow base 74 4 (.slice a out.length c) out.length (ndCells out)
  hb : base ≤ w.heap.size
  lt1 : tb < base
  lt2 : r < base
  ne2 : r ≠ tb
  lt3 : ∀ b, fv.ownBlock = some b → b < base ∧ b ≠ tb

theorem NodeSl.of_block {w w' : World} {v : Value} {zs : List Nd} (h : NodeSl w v zs) (hb : ∀ b, v.ownBlock = some b → w'.heap[b]? = w.heap[b]?) : NodeSl w' v zs := by
  obtain ⟨a, cap, rfl, hm, h, hn⟩ := h
  refine ⟨a, cap, rfl, hm, ?_, hn⟩
  rcases h with h | ⟨b, off, rfl, hc⟩
  · exact Or.inl h
  · have e := hb b rfl
    refine Or.inr ⟨b, off, rfl, fun i hi => ?_⟩
    obtain ⟨h1, h2, h3, h4⟩ := hc i hi
    exact ⟨(World.cell?_of_block (a := ⟨b, _, none⟩) e).trans h1, (World.cell?_of_block (a := ⟨b, _, none⟩) e).trans h2, (World.cell?_of_block (a := ⟨b, _, none⟩) e).trans h3, (World.cell?_of_block (a := ⟨b, _, none⟩) e).trans h4⟩

theorem TN.below {w w' : World} {tb r base : Nat} {fv : Value} {F : List Nd} {a : Option Addr} {c : Nat} {out : List Nd} (h : TN w tb r base fv F a c out) (hb : Below w.heap.size w w') : TN w' tb r base fv F a c out :=
  ⟨cell_keep h.c0 hb, cell_keep h.c1 hb, cell_keep h.c2 hb, (hb.frozen (p := ⟨tb, 2, none⟩) (World.block_lt_of_cell? w _ h.c2)).trans h.soft, h.sg.below hb, h.nodes.below hb,
    h.own.kept (row := none) ⟨hb.os, hb.tape, hb.output, hb.size, fun k hk _ => hb.block k hk⟩ (by cases hv : (Value.slice a out.length c).ownBlock <;> simp), Nat.le_trans h.hb hb.size, h.lt1, h.lt2, h.ne2, h.lt3⟩

theorem TN.row_ne {w : World} {tb r base : Nat} {fv : Value} {F : List Nd} {a : Option Addr} {c : Nat} {out : List Nd} (h : TN w tb r base fv F a c out) (k : Nat) (hk : k < base) : some k ≠ (Value.slice a out.length c).ownBlock := fun e => by
  have := (h.own.lt k e.symm).1
  omega

theorem TN.grown {w w1 : World} {tb r base : Nat} {fv : Value} {F : List Nd} {a : Option Addr} {c : Nat} {out : List Nd} (h : TN w tb r base fv F a c out) (x : Nd) {g cap : Nat} (ho : w1.ownsRow base 74 4 (.slice (some ⟨g, 0, none⟩) (out.length + 1) cap) (out.length + 1) (ndCells out ++ [.int .i64 x.k, .int .i64 x.a, .int .i64 x.b, .int .i64 x.n])) (hg : w.grownBy w1 (Value.slice a out.length c).ownBlock) :
    TN (w1.setCell ⟨tb, 2, none⟩ (.slice (some ⟨g, 0, none⟩) (out.length + 1) cap)) tb r base fv F (some ⟨g, 0, none⟩) cap (out ++ [x]) ∧ GT tb (Value.slice a out.length c).ownBlock w (w1.setCell ⟨tb, 2, none⟩ (.slice (some ⟨g, 0, none⟩) (out.length + 1) cap)) := by
  have hlen : (out ++ [x]).length = out.length + 1 := by simp
  have htb := World.block_lt_of_cell? w _ h.c2
  dsimp only at htb
  have hrl := h.sg.lt
  have n1 := h.row_ne tb h.lt1
  have n2 := h.row_ne r h.lt2
  have hgb := (ho.lt g rfl).1
  have hl1 := h.lt1
  have hblk : ∀ k, k < w.heap.size → k ≠ tb → some k ≠ (Value.slice a out.length c).ownBlock → (w1.setCell ⟨tb, 2, none⟩ (.slice (some ⟨g, 0, none⟩) (out.length + 1) cap)).heap[k]? = w.heap[k]? := fun k hk h1 h2 => (set_far w1 _ _ k h1).trans (hg.block k hk h2)
  refine ⟨⟨cell_set_off (by decide) (grown_cell hg h.c0 n1), cell_set_off (by decide) (grown_cell hg h.c1 n1), by rw [hlen]; exact cell_set_eq (grown_cell hg h.c2 n1), by rw [World.frozen?_setCell]; exact grown_frozen hg htb n1 h.soft, (hblk r hrl h.ne2 n2).trans h.sg, ?_, ?_, ?_, h.lt1, h.lt2, h.ne2, h.lt3⟩, ⟨hg.os, hg.tape, hg.output, by simpa [World.setCell] using hg.size, hblk⟩⟩
  · refine h.nodes.of_block fun b hb => ?_
    obtain ⟨q1, q2⟩ := h.lt3 b hb
    exact hblk b (Nat.lt_of_lt_of_le q1 h.hb) q2 (h.row_ne b q1)
  · rw [hlen, ndCells_snoc]
    refine ho.kept (row := some tb) ⟨rfl, rfl, rfl, by simp [World.setCell], fun k hk hne => set_far w1 _ _ k (fun e => hne (by rw [e]))⟩ (Or.inr ?_)
    intro e
    have : g = tb := by simpa [Value.ownBlock] using e
    omega
  · have := hg.size
    have := h.hb
    simp only [World.setCell, Array.size_modify]
    omega
end Go.Proofs.YtphoifgcmpjnoaaDoor
