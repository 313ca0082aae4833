/-
  A reader of a formula's text: what lies where.
-/
import Derived.Test.YtphoifgcmpjnoaaDoorGb
namespace Go.Proofs.YtphoifgcmpjnoaaDoor
open Go.RowKit Go.Sort

/-- A reader: its map, its text, the place, the nodes that it has made. -/
structure RD (w : World) (rb r base : Nat) (T : List UInt8) (at_ : Nat) (a : Option Addr) (c : Nat) (out : List Nd) : Prop where
  c0 : w.cell? ⟨rb, 0, none⟩ = some (.map (some r))
  c1 : w.cell? ⟨rb, 1, none⟩ = some (.string ⟨T.toArray⟩)
  c2 : w.cell? ⟨rb, 2, none⟩ = some (.int .i64 at_)
  c3 : w.cell? ⟨rb, 3, none⟩ = some (.slice a out.length c)
  soft : ∀ o, w.frozen? ⟨rb, o, none⟩ = false
  sg : SgMap w r
  own : w.ownsRow base 74 4 (.slice a out.length c) out.length (ndCells out)
  hb : base ≤ w.heap.size
  lt1 : rb < base
  lt2 : r < base
  ne2 : r ≠ rb

theorem RD.below {w w' : World} {rb r base : Nat} {T : List UInt8} {at_ : Nat} {a : Option Addr} {c : Nat} {out : List Nd} (h : RD w rb r base T at_ a c out) (hb : Below w.heap.size w w') : RD w' rb r base T at_ a c out :=
  ⟨cell_keep h.c0 hb, cell_keep h.c1 hb, cell_keep h.c2 hb, cell_keep h.c3 hb, fun o => (hb.frozen (p := ⟨rb, o, none⟩) (Nat.lt_of_lt_of_le h.lt1 h.hb)).trans (h.soft o), h.sg.below hb,
    h.own.kept (row := none) ⟨hb.os, hb.tape, hb.output, hb.size, fun k hk _ => hb.block k hk⟩ (by cases hv : (Value.slice a out.length c).ownBlock <;> simp), Nat.le_trans h.hb hb.size, h.lt1, h.lt2, h.ne2⟩

theorem RD.row_ne {w : World} {rb r base : Nat} {T : List UInt8} {at_ : Nat} {a : Option Addr} {c : Nat} {out : List Nd} (h : RD w rb r base T at_ a c out) (k : Nat) (hk : k < base) : some k ≠ (Value.slice a out.length c).ownBlock := fun e => by
  have := (h.own.lt k e.symm).1
  omega

theorem RD.fresh {w : World} {rb r base : Nat} {T : List UInt8} {at_ : Nat} {a : Option Addr} {c : Nat} {out : List Nd} (h : RD w rb r base T at_ a c out) (j : Nat) (hj : w.heap.size ≤ j) : some j ≠ rowOf a ∧ j ≠ rb := by
  refine ⟨fun e => ?_, ?_⟩
  · rw [← row_eq a out.length c] at e
    have := (h.own.lt _ e.symm).2
    omega
  · have := h.lt1
    have := h.hb
    omega

theorem RD.lt {w : World} {rb r base : Nat} {T : List UInt8} {at_ : Nat} {a : Option Addr} {c : Nat} {out : List Nd} (h : RD w rb r base T at_ a c out) : rb < w.heap.size := Nat.lt_of_lt_of_le h.lt1 h.hb

/-- The place moves on. -/
theorem RD.move {w : World} {rb r base : Nat} {T : List UInt8} {at_ : Nat} {a : Option Addr} {c : Nat} {out : List Nd} (h : RD w rb r base T at_ a c out) (at' : Nat) : RD (w.setCell ⟨rb, 2, none⟩ (.int .i64 at')) rb r base T at' a c out := by
  refine ⟨cell_set_off (by decide) h.c0, cell_set_off (by decide) h.c1, cell_set_eq h.c2, cell_set_off (by decide) h.c3, fun o => by rw [World.frozen?_setCell]; exact h.soft o, (set_far w _ _ r h.ne2).trans h.sg, ?_, by simp only [World.setCell, Array.size_modify]; exact h.hb, h.lt1, h.lt2, h.ne2⟩
  refine h.own.kept (row := some rb) ⟨rfl, rfl, rfl, by simp [World.setCell], fun k hk hne => set_far w _ _ k (fun e => hne (by rw [e]))⟩ ?_
  cases hv : (Value.slice a out.length c).ownBlock with
  | none => simp
  | some g =>
    right
    intro e
    have := (h.own.lt g hv).1
    have := h.lt1
    injection e with e
    omega

theorem GT.own {rb : Nat} {row : Option Nat} {w w' : World} (h : GT rb row w w') (o : Nat) (v : Value) : GT rb row w (w'.setCell ⟨rb, o, none⟩ v) :=
  ⟨h.os, h.tape, h.output, by simp only [World.setCell, Array.size_modify]; exact h.size, fun k hk h1 h2 => (set_far w' _ _ k h1).trans (h.block k hk h1 h2)⟩

theorem RD.grown {w w1 : World} {rb r base : Nat} {T : List UInt8} {at_ : Nat} {a : Option Addr} {c : Nat} {out : List Nd} (h : RD w rb r base T at_ a c out) (x : Nd) {g cap : Nat} (ho : w1.ownsRow base 74 4 (.slice (some ⟨g, 0, none⟩) (out.length + 1) cap) (out.length + 1) (ndCells out ++ [.int .i64 x.k, .int .i64 x.a, .int .i64 x.b, .int .i64 x.n])) (hg : w.grownBy w1 (Value.slice a out.length c).ownBlock) :
    RD (w1.setCell ⟨rb, 3, none⟩ (.slice (some ⟨g, 0, none⟩) (out.length + 1) cap)) rb r base T at_ (some ⟨g, 0, none⟩) cap (out ++ [x]) ∧ GT rb (Value.slice a out.length c).ownBlock w (w1.setCell ⟨rb, 3, none⟩ (.slice (some ⟨g, 0, none⟩) (out.length + 1) cap)) := by
  have hlen : (out ++ [x]).length = out.length + 1 := by simp
  have htb := h.lt
  have hrl := h.sg.lt
  have n1 := h.row_ne rb h.lt1
  have n2 := h.row_ne r h.lt2
  have hgb := (ho.lt g rfl).1
  have hl1 := h.lt1
  have hblk : ∀ k, k < w.heap.size → k ≠ rb → some k ≠ (Value.slice a out.length c).ownBlock → (w1.setCell ⟨rb, 3, none⟩ (.slice (some ⟨g, 0, none⟩) (out.length + 1) cap)).heap[k]? = w.heap[k]? := fun k hk h1 h2 => (set_far w1 _ _ k h1).trans (hg.block k hk h2)
  refine ⟨⟨cell_set_off (by decide) (grown_cell hg h.c0 n1), cell_set_off (by decide) (grown_cell hg h.c1 n1), cell_set_off (by decide) (grown_cell hg h.c2 n1), by rw [hlen]; exact cell_set_eq (grown_cell hg h.c3 n1), fun o => by rw [World.frozen?_setCell]; exact grown_frozen hg htb n1 (h.soft o), (hblk r hrl h.ne2 n2).trans h.sg, ?_, ?_, h.lt1, h.lt2, h.ne2⟩, ⟨hg.os, hg.tape, hg.output, by simpa [World.setCell] using hg.size, hblk⟩⟩
  · rw [hlen, ndCells_snoc]
    refine ho.kept (row := some rb) ⟨rfl, rfl, rfl, by simp [World.setCell], fun k hk hne => set_far w1 _ _ k (fun e => hne (by rw [e]))⟩ (Or.inr ?_)
    intro e
    have : g = rb := by simpa [Value.ownBlock] using e
    omega
  · have := hg.size
    have := h.hb
    simp only [World.setCell, Array.size_modify]
    omega

/-- What a reader's step leaves. -/
structure RS (w w' : World) (rb r base : Nat) (T : List UInt8) (at' : Nat) (a a' : Option Addr) (c' : Nat) (out' : List Nd) : Prop where
  rd : RD w' rb r base T at' a' c' out'
  gt : GT rb (rowOf a) w w'
  new : RowNew w (rowOf a) (rowOf a')

theorem RS.refl {w : World} {rb r base : Nat} {T : List UInt8} {at_ : Nat} {a : Option Addr} {c : Nat} {out : List Nd} (h : RD w rb r base T at_ a c out) : RS w w rb r base T at_ a a c out := ⟨h, GT.refl _ _ _, Or.inl rfl⟩

theorem RS.of_below {w w' : World} {rb r base : Nat} {T : List UInt8} {at_ : Nat} {a : Option Addr} {c : Nat} {out : List Nd} (h : RD w rb r base T at_ a c out) (hb : Below w.heap.size w w') : RS w w' rb r base T at_ a a c out := ⟨h.below hb, GT.of_below hb, Or.inl rfl⟩

theorem RS.trans {w w1 w2 : World} {rb r base : Nat} {T : List UInt8} {at1 at2 : Nat} {a a1 a2 : Option Addr} {c1 c2 : Nat} {o1 o2 : List Nd} (h : RS w w1 rb r base T at1 a a1 c1 o1) (k : RS w1 w2 rb r base T at2 a1 a2 c2 o2) : RS w w2 rb r base T at2 a a2 c2 o2 :=
  ⟨k.rd, GT.trans h.gt k.gt h.new, RowNew.trans h.new h.gt.size k.new⟩

theorem RS.move {w w1 : World} {rb r base : Nat} {T : List UInt8} {at1 : Nat} {a a1 : Option Addr} {c1 : Nat} {o1 : List Nd} (h : RS w w1 rb r base T at1 a a1 c1 o1) (at' : Nat) : RS w (w1.setCell ⟨rb, 2, none⟩ (.int .i64 at')) rb r base T at' a a1 c1 o1 :=
  ⟨h.rd.move at', h.gt.own 2 _, h.new⟩

theorem growR {w : World} {rb r base : Nat} {T : List UInt8} {at_ : Nat} {a : Option Addr} {c : Nat} {out : List Nd} (h : RD w rb r base T at_ a c out) (x : Nd) (hn : out.length ≤ 900000) :
    Calls Tryd.prog 107 #[.pointer (some ⟨rb, 3, none⟩), .agg #[.int .i64 x.k, .int .i64 x.a, .int .i64 x.b, .int .i64 x.n]] w fun e w' => e = .returned (.int .i64 out.length) ∧ ∃ a' c', RS w w' rb r base T at_ a a' c' (out ++ [x]) := by
  refine (grow_any x h.c3 (h.soft 3) h.own (fun g hg e => by have := (h.own.lt g hg).1; have := h.lt1; omega) hn h.hb).mono ?_
  rintro e w' ⟨rfl, g, cap, w1, rfl, ho, hg, hd⟩
  obtain ⟨h1, h2⟩ := h.grown x ho hg
  rw [row_eq] at h2 hd
  refine ⟨rfl, some ⟨g, 0, none⟩, cap, h1, h2, ?_⟩
  rcases hd with hd | hd
  · left; rw [hd]; rfl
  · right
    intro k hk
    have : g = k := by simpa [rowOf, Value.ownBlock] using hk
    omega
end Go.Proofs.YtphoifgcmpjnoaaDoor
