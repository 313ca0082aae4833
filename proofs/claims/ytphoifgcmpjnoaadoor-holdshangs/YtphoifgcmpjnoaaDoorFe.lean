/-
  What (turner).turn answers.
-/
import Derived.Test.YtphoifgcmpjnoaaDoorFd
namespace Go.Proofs.YtphoifgcmpjnoaaDoor
open Go.RowKit Go.Sort

def rowOf (a : Option Addr) : Option Nat := (Value.slice a 0 0).ownBlock

theorem row_eq (a : Option Addr) (n c : Nat) : (Value.slice a n c).ownBlock = rowOf a := by cases a <;> rfl

theorem TN.far {w : World} {tb r base : Nat} {fv : Value} {F : List Nd} {a : Option Addr} {c : Nat} {out : List Nd} (h : TN w tb r base fv F a c out) (nb o : Nat) (v : Value) (hnb : base ≤ nb) (hrow : some nb ≠ rowOf a) : TN (w.setCell ⟨nb, o, none⟩ v) tb r base fv F a c out := by
  have h1 := h.lt1
  have h2 := h.lt2
  refine ⟨cell_set_ne (by omega) h.c0, cell_set_ne (by omega) h.c1, cell_set_ne (by omega) h.c2, by rw [World.frozen?_setCell]; exact h.soft, heap_set_ne (by omega) h.sg, h.nodes.of_block fun b hb => set_far w _ _ b (by have := (h.lt3 b hb).1; show b ≠ nb; omega), ?_, by simpa [World.setCell] using h.hb, h.lt1, h.lt2, h.ne2, h.lt3⟩
  refine h.own.kept (row := some nb) ⟨rfl, rfl, rfl, by simp [World.setCell], fun k hk hne => set_far w _ _ k (fun e => hne (by rw [e]))⟩ (Or.inr ?_)
  rw [row_eq]
  exact fun e => hrow e.symm

theorem GT.set {tb : Nat} {row : Option Nat} {w w' : World} (h : GT tb row w w') (nb o : Nat) (v : Value) (hnb : w.heap.size ≤ nb) : GT tb row w (w'.setCell ⟨nb, o, none⟩ v) :=
  ⟨h.os, h.tape, h.output, by simpa [World.setCell] using h.size, fun k hk h1 h2 => (set_far w' _ _ k (by show k ≠ nb; omega)).trans (h.block k hk h1 h2)⟩

theorem GT.frozen {tb : Nat} {row : Option Nat} {w w' : World} (h : GT tb row w w') {b o : Nat} (hb : b < w.heap.size) (h1 : b ≠ tb) (h2 : some b ≠ row) : w'.frozen? ⟨b, o, none⟩ = w.frozen? ⟨b, o, none⟩ := World.frozen?_of_block (a := ⟨b, o, none⟩) (h.block b hb h1 h2)

/-- What turn must answer at a node. -/
def TurnOk (F : List Nd) (i : Nat) : Prop := ∀ (w : World) (tb r base : Nat) (fv : Value) (a : Option Addr) (c : Nat) (out : List Nd) (o : Bool), TN w tb r base fv F a c out → out.length + 2 ^ (i + 2) ≤ 100000 →
  Calls Tryd.prog 73 #[.pointer (some ⟨tb, 0, none⟩), .int .i64 (i : Nat), .bool o] w fun e w' => e = .returned (.int .i64 (out.length + (fl F i o out.length).length - 1 : Nat)) ∧ ∃ a' c', TN w' tb r base fv F a' c' (out ++ fl F i o out.length) ∧ GT tb (rowOf a) w w' ∧ RowNew w (rowOf a) (rowOf a')

theorem fl_leaf {F : List Nd} (hF : AllOk F) {i : Nat} (hi : i < F.length) (hk : (F.getD i nd0).k = 1 ∨ (F.getD i nd0).k = 2) (o : Bool) (m : Nat) : fl F i o m = if o = true then [F.getD i nd0, ⟨3, (m : Nat), 0, 0⟩] else [F.getD i nd0] := by
  rw [fl_eq hF i hi]
  obtain ⟨_, ⟨_, _, a2⟩, ⟨_, _, b2⟩, _⟩ := node_ok (hF i hi)
  have ha := a2 (by omega)
  have hb := b2 (by omega)
  generalize F.getD i nd0 = x at *
  obtain ⟨k, xa, xb, xn⟩ := x
  dsimp only at *
  subst ha
  subst hb
  unfold flS
  rw [if_pos hk]

set_option maxRecDepth 100000 in
set_option maxHeartbeats 4000000 in
theorem turn_leaf {F : List Nd} (hF : AllOk F) (i : Nat) (hi : i < F.length) (hk : (F.getD i nd0).k = 1 ∨ (F.getD i nd0).k = 2) : TurnOk F i := by
  intro w tb r base fv a c out o h hlen
  rw [fl_leaf hF hi hk]
  have HT := hide h
  have hp : 1 ≤ 2 ^ (i + 2) := Nat.one_le_two_pow
  have hol : out.length ≤ 100000 := by omega
  obtain ⟨fa, fc, hfv, hfm, hc, -⟩ := h.nodes
  subst hfv
  rcases hc with hc | ⟨b, off, rfl, hc⟩
  · rw [hc] at hi; simp at hi
  obtain ⟨d0, d1, d2, d3⟩ := hc i hi
  have hlk0 := (run_lookup_sign (w := (w.alloc (Obj.cells #[.int .i64 (F.getD i nd0).k, .int .i64 (F.getD i nd0).a, .int .i64 (F.getD i nd0).b, .int .i64 (F.getD i nd0).n] 74)).drew) (h.sg.below (Below.drew (below_new w _))) (F.getD i nd0).k).1
  have hlk1 := (run_lookup_sign (w := ((w.alloc (Obj.cells #[.int .i64 (F.getD i nd0).k, .int .i64 (F.getD i nd0).a, .int .i64 (F.getD i nd0).b, .int .i64 (F.getD i nd0).n] 74)).alloc (Obj.cells #[.string ⟨#[]⟩, .int .i64 0, .bool false, .bool false, .int .i64 0] 119)).drew) (h.sg.below (Below.drew (Below.alloc (below_new w _) (by simp) _))) (F.getD i nd0).k).1
  have hsg : ∃ st num, (sgOf (F.getD i nd0).k).getD sg0 = ⟨st, 0, num, false, 0⟩ := by
    rcases hk with hk | hk <;> rw [hk] <;> exact ⟨_, _, rfl⟩
  obtain ⟨st, num, hsg⟩ := hsg
  rw [hsg] at hlk0 hlk1
  unfold sgV at hlk0 hlk1
  have c0 := h.c0
  have c1 := h.c1
  have htb := World.block_lt_of_cell? w _ c0
  dsimp only at htb
  have HLf := hide (fun W hb => leafT (h.below (w' := W) hb) (F.getD i nd0) o (by omega))
  have hbk : ((F.getD i nd0).k == 3) = false := by rw [beq_eq_false_iff_ne]; omega
  clear hc hlen hsg h
  generalize hll : (if o = true then [F.getD i nd0, ⟨3, (out.length : Nat), 0, 0⟩] else [F.getD i nd0]) = ll at *
  generalize hnn : out.length + (if o = true then 1 else 0) = nn at *
  have HNN : Hid (nn = out.length + ll.length - 1) := hide (by rw [← hnn, ← hll]; cases o <;> simp)
  clear hll hnn
  generalize F.getD i nd0 = x at *
  obtain ⟨k, xa, xb, xn⟩ := x
  dsimp only at *
  have z1 : tb < w.heap.size + 1 := by omega
  have z2 : tb < w.heap.size + 1 + 1 := by omega
  go_enter Tryd.func73, Tryd.ntmps73
  go_wp2_with (fail)
  go_region
  all_goals
    go_wp2_with (fail)
    refine (HLf.out _ ?_).mono ?_
    · exact (by repeat (first | exact Below.refl _ _ | assumption | refine below_drewN ?_ _ | refine Below.drew ?_ | refine Below.alloc ?_ (by simp <;> omega) _ | refine below_trans ?_ (by assumption)))
    rintro e w2 ⟨rfl, a2, c2, ht2, hg2, hr2⟩
    rw [row_eq] at hg2 hr2
    rw [row_eq] at hr2
    have hgw := GT.trans (GT.of_below (tb := tb) (row := rowOf a) (w := w) (by repeat (first | exact Below.refl _ _ | assumption | refine below_drewN ?_ _ | refine Below.drew ?_ | refine Below.alloc ?_ (by simp <;> omega) _ | refine below_trans ?_ (by assumption)))) hg2 (Or.inl rfl)
    have hrw : RowNew w (rowOf a) (rowOf a2) := RowNew.trans (Or.inl rfl) (by simp <;> omega) hr2
    have HF := hide (And.intro ht2 (And.intro hgw hrw))
    clear ht2 hgw hrw hg2 hr2 HLf hlk0 hlk1
    go_wp2_with (fail)
    go_ret
    exact ⟨ret_eq (by rw [HNN.out]), a2, c2, HF.out⟩
end Go.Proofs.YtphoifgcmpjnoaaDoor
