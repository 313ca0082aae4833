/-
  What (turner).leaf answers.
-/
import Derived.Test.YtphoifgcmpjnoaaDoorFc
namespace Go.Proofs.YtphoifgcmpjnoaaDoor
open Go.RowKit Go.Sort

/-- The row that grows: as it was, or new. -/
def RowNew (w : World) (row row' : Option Nat) : Prop := row' = row ∨ ∀ k, row' = some k → w.heap.size ≤ k

theorem GT.refl (tb : Nat) (row : Option Nat) (w : World) : GT tb row w w := ⟨rfl, rfl, rfl, Nat.le_refl _, fun _ _ _ _ => rfl⟩

theorem GT.of_below {tb : Nat} {row : Option Nat} {w w' : World} (h : Below w.heap.size w w') : GT tb row w w' := ⟨h.os, h.tape, h.output, h.size, fun k hk _ _ => h.block k hk⟩

theorem GT.trans {tb : Nat} {row row' : Option Nat} {w w1 w2 : World} (h : GT tb row w w1) (k : GT tb row' w1 w2) (hr : RowNew w row row') : GT tb row w w2 :=
  ⟨k.os.trans h.os, k.tape.trans h.tape, k.output.trans h.output, Nat.le_trans h.size k.size, fun i hi h1 h2 => by
    refine (k.block i (Nat.lt_of_lt_of_le hi h.size) h1 ?_).trans (h.block i hi h1 h2)
    rcases hr with hr | hr
    · rw [hr]; exact h2
    · intro e
      have := hr i e.symm
      omega⟩

theorem RowNew.trans {w w1 : World} {a b c : Option Nat} (h : RowNew w a b) (hs : w.heap.size ≤ w1.heap.size) (k : RowNew w1 b c) : RowNew w a c := by
  rcases k with k | k
  · rw [k]; exact h
  · exact Or.inr fun i hi => Nat.le_trans hs (k i hi)

theorem GT.cell {tb : Nat} {row : Option Nat} {w w' : World} (h : GT tb row w w') {b o : Nat} {v : Value} (hc : w.cell? ⟨b, o, none⟩ = some v) (h1 : b ≠ tb) (h2 : some b ≠ row) : w'.cell? ⟨b, o, none⟩ = some v := by
  rw [World.cell?_of_block (a := ⟨b, o, none⟩) (h.block b (World.block_lt_of_cell? w _ hc) h1 h2)]; exact hc

theorem growT {w : World} {tb r base : Nat} {fv : Value} {F : List Nd} {a : Option Addr} {c : Nat} {out : List Nd} (h : TN w tb r base fv F a c out) (x : Nd) (hn : out.length ≤ 900000) :
    Calls Tryd.prog 107 #[.pointer (some ⟨tb, 2, none⟩), .agg #[.int .i64 x.k, .int .i64 x.a, .int .i64 x.b, .int .i64 x.n]] w fun e w' => e = .returned (.int .i64 out.length) ∧ ∃ a' c', TN w' tb r base fv F a' c' (out ++ [x]) ∧ GT tb (Value.slice a out.length c).ownBlock w w' ∧ RowNew w (Value.slice a out.length c).ownBlock (Value.slice a' (out ++ [x]).length c').ownBlock := by
  refine (grow_any x h.c2 h.soft h.own (fun g hg e => by have := (h.own.lt g hg).1; have := h.lt1; omega) hn h.hb).mono ?_
  rintro e w' ⟨rfl, g, cap, w1, rfl, ho, hg, hd⟩
  obtain ⟨h1, h2⟩ := h.grown x ho hg
  refine ⟨rfl, some ⟨g, 0, none⟩, cap, h1, h2, ?_⟩
  rcases hd with hd | hd
  · left; rw [hd]; rfl
  · right
    intro k hk
    have : g = k := by simpa [Value.ownBlock] using hk
    omega

theorem TN.fresh {w : World} {tb r base : Nat} {fv : Value} {F : List Nd} {a : Option Addr} {c : Nat} {out : List Nd} (h : TN w tb r base fv F a c out) : some w.heap.size ≠ (Value.slice a out.length c).ownBlock ∧ w.heap.size ≠ tb := by
  refine ⟨fun e => ?_, ?_⟩
  · have := (h.own.lt _ e.symm).2
    omega
  · have := h.lt1
    have := h.hb
    omega

set_option maxRecDepth 100000 in
set_option maxHeartbeats 2000000 in
theorem leafT {w : World} {tb r base : Nat} {fv : Value} {F : List Nd} {a : Option Addr} {c : Nat} {out : List Nd} (h : TN w tb r base fv F a c out) (x : Nd) (o : Bool) (hn : out.length ≤ 800000) :
    Calls Tryd.prog 106 #[.pointer (some ⟨tb, 0, none⟩), .agg #[.int .i64 x.k, .int .i64 x.a, .int .i64 x.b, .int .i64 x.n], .bool o] w fun e w' => e = .returned (.int .i64 (out.length + (if o = true then 1 else 0) : Nat)) ∧ ∃ a' c', TN w' tb r base fv F a' c' (out ++ (if o = true then [x, ⟨3, (out.length : Nat), 0, 0⟩] else [x])) ∧ GT tb (Value.slice a out.length c).ownBlock w w' ∧ RowNew w (Value.slice a out.length c).ownBlock (Value.slice a' (out ++ (if o = true then [x, ⟨3, (out.length : Nat), 0, 0⟩] else [x])).length c').ownBlock := by
  have HT := hide h
  have HN := hide h.fresh
  have hn' := hn
  clear h
  obtain ⟨k, xa, xb, xn⟩ := x
  dsimp only
  have HG : Hid (∀ W, Below w.heap.size w W → Calls Tryd.prog 107 #[.pointer (some ⟨tb, 2, none⟩), .agg #[.int .i64 k, .int .i64 xa, .int .i64 xb, .int .i64 xn]] W fun e w' => e = .returned (.int .i64 out.length) ∧ ∃ a' c', TN w' tb r base fv F a' c' (out ++ [⟨k, xa, xb, xn⟩]) ∧ GT tb (Value.slice a out.length c).ownBlock W w' ∧ RowNew W (Value.slice a out.length c).ownBlock (Value.slice a' (out ++ ([⟨k, xa, xb, xn⟩] : List Nd)).length c').ownBlock) := hide fun W hb => growT (HT.out.below hb) ⟨k, xa, xb, xn⟩ (by omega)
  cases o with
  | false =>
    go_enter Tryd.func106, Tryd.ntmps106
    go_wp2_with (fail)
    go_region_held3 (fun w' => w'.cell? ⟨w.heap.size, 0, none⟩ = some (.int .i64 k) ∧ w'.cell? ⟨w.heap.size, 1, none⟩ = some (.int .i64 xa) ∧ w'.cell? ⟨w.heap.size, 2, none⟩ = some (.int .i64 xb) ∧ w'.cell? ⟨w.heap.size, 3, none⟩ = some (.int .i64 xn)) ((first | (with_reducible exact s2) | (refine ⟨?_, ?_, ?_, ?_⟩ <;> (repeat (first | ((with_reducible refine cell_top _ _ _ _ _ _ ?_ ?_); (focus (first | rfl | (simp; done))); exact rfl) | (with_reducible refine cell_drew ?_) | (with_reducible refine cell_under _ _ ?_)))))) (first | (go_at_call 107; refine (HG.out _ ?_).mono ?_; (focus (exact (by repeat (first | exact Below.refl _ _ | assumption | refine below_drewN ?_ _ | refine Below.drew ?_ | refine Below.alloc ?_ (by simp <;> omega) _ | refine below_trans ?_ (by assumption))))); rintro e w2 ⟨rfl, a2, c2, ht2, hgt2, hrn2⟩; have s2 : w2.cell? ⟨w.heap.size, 0, none⟩ = some (.int .i64 k) ∧ w2.cell? ⟨w.heap.size, 1, none⟩ = some (.int .i64 xa) ∧ w2.cell? ⟨w.heap.size, 2, none⟩ = some (.int .i64 xb) ∧ w2.cell? ⟨w.heap.size, 3, none⟩ = some (.int .i64 xn) := ⟨hgt2.cell (by (repeat (first | ((with_reducible refine cell_top _ _ _ _ _ _ ?_ ?_); (focus (first | rfl | (simp; done))); exact rfl) | (with_reducible refine cell_drew ?_) | (with_reducible refine cell_under _ _ ?_)))) HN.out.2 HN.out.1, hgt2.cell (by (repeat (first | ((with_reducible refine cell_top _ _ _ _ _ _ ?_ ?_); (focus (first | rfl | (simp; done))); exact rfl) | (with_reducible refine cell_drew ?_) | (with_reducible refine cell_under _ _ ?_)))) HN.out.2 HN.out.1, hgt2.cell (by (repeat (first | ((with_reducible refine cell_top _ _ _ _ _ _ ?_ ?_); (focus (first | rfl | (simp; done))); exact rfl) | (with_reducible refine cell_drew ?_) | (with_reducible refine cell_under _ _ ?_)))) HN.out.2 HN.out.1, hgt2.cell (by (repeat (first | ((with_reducible refine cell_top _ _ _ _ _ _ ?_ ?_); (focus (first | rfl | (simp; done))); exact rfl) | (with_reducible refine cell_drew ?_) | (with_reducible refine cell_under _ _ ?_)))) HN.out.2 HN.out.1⟩; have hgw := GT.trans (GT.of_below (tb := tb) (row := (Value.slice a out.length c).ownBlock) (w := w) (by repeat (first | exact Below.refl _ _ | assumption | refine below_drewN ?_ _ | refine Below.drew ?_ | refine Below.alloc ?_ (by simp <;> omega) _ | refine below_trans ?_ (by assumption)))) hgt2 (Or.inl rfl); have hrw : RowNew w (Value.slice a out.length c).ownBlock (Value.slice a2 (out ++ ([⟨k, xa, xb, xn⟩] : List Nd)).length c2).ownBlock := RowNew.trans (Or.inl rfl) (by simp <;> omega) hrn2))
    have HF := hide (And.intro ht2 (And.intro hgw hrw))
    clear ht2 hgw hrw hgt2 hrn2 s2 HG
    go_wp2_with (fail)
    go_ret
    exact ⟨rfl, a2, c2, HF.out.1, HF.out.2.1, by simpa using HF.out.2.2⟩
  | true =>
    go_enter Tryd.func106, Tryd.ntmps106
    go_wp2_with (fail)
    go_region_held3 (fun w' => w'.cell? ⟨w.heap.size, 0, none⟩ = some (.int .i64 k) ∧ w'.cell? ⟨w.heap.size, 1, none⟩ = some (.int .i64 xa) ∧ w'.cell? ⟨w.heap.size, 2, none⟩ = some (.int .i64 xb) ∧ w'.cell? ⟨w.heap.size, 3, none⟩ = some (.int .i64 xn)) ((first | (with_reducible exact s2) | (refine ⟨?_, ?_, ?_, ?_⟩ <;> (repeat (first | ((with_reducible refine cell_top _ _ _ _ _ _ ?_ ?_); (focus (first | rfl | (simp; done))); exact rfl) | (with_reducible refine cell_drew ?_) | (with_reducible refine cell_under _ _ ?_)))))) (first | (go_at_call 107; refine (HG.out _ ?_).mono ?_; (focus (exact (by repeat (first | exact Below.refl _ _ | assumption | refine below_drewN ?_ _ | refine Below.drew ?_ | refine Below.alloc ?_ (by simp <;> omega) _ | refine below_trans ?_ (by assumption))))); rintro e w2 ⟨rfl, a2, c2, ht2, hgt2, hrn2⟩; have s2 : w2.cell? ⟨w.heap.size, 0, none⟩ = some (.int .i64 k) ∧ w2.cell? ⟨w.heap.size, 1, none⟩ = some (.int .i64 xa) ∧ w2.cell? ⟨w.heap.size, 2, none⟩ = some (.int .i64 xb) ∧ w2.cell? ⟨w.heap.size, 3, none⟩ = some (.int .i64 xn) := ⟨hgt2.cell (by (repeat (first | ((with_reducible refine cell_top _ _ _ _ _ _ ?_ ?_); (focus (first | rfl | (simp; done))); exact rfl) | (with_reducible refine cell_drew ?_) | (with_reducible refine cell_under _ _ ?_)))) HN.out.2 HN.out.1, hgt2.cell (by (repeat (first | ((with_reducible refine cell_top _ _ _ _ _ _ ?_ ?_); (focus (first | rfl | (simp; done))); exact rfl) | (with_reducible refine cell_drew ?_) | (with_reducible refine cell_under _ _ ?_)))) HN.out.2 HN.out.1, hgt2.cell (by (repeat (first | ((with_reducible refine cell_top _ _ _ _ _ _ ?_ ?_); (focus (first | rfl | (simp; done))); exact rfl) | (with_reducible refine cell_drew ?_) | (with_reducible refine cell_under _ _ ?_)))) HN.out.2 HN.out.1, hgt2.cell (by (repeat (first | ((with_reducible refine cell_top _ _ _ _ _ _ ?_ ?_); (focus (first | rfl | (simp; done))); exact rfl) | (with_reducible refine cell_drew ?_) | (with_reducible refine cell_under _ _ ?_)))) HN.out.2 HN.out.1⟩; have hgw := GT.trans (GT.of_below (tb := tb) (row := (Value.slice a out.length c).ownBlock) (w := w) (by repeat (first | exact Below.refl _ _ | assumption | refine below_drewN ?_ _ | refine Below.drew ?_ | refine Below.alloc ?_ (by simp <;> omega) _ | refine below_trans ?_ (by assumption)))) hgt2 (Or.inl rfl); have hrw : RowNew w (Value.slice a out.length c).ownBlock (Value.slice a2 (out ++ ([⟨k, xa, xb, xn⟩] : List Nd)).length c2).ownBlock := RowNew.trans (Or.inl rfl) (by simp <;> omega) hrn2))
    have HF := hide (And.intro ht2 (And.intro hgw hrw))
    have HG2 := hide (growT ht2 ⟨3, (out.length : Nat), 0, 0⟩ (by simp; omega))
    clear ht2 hgw hrw hgt2 hrn2 s2 HG
    go_wp2_with (fail)
    refine HG2.out.mono ?_
    rintro e w3 ⟨rfl, a3, c3, ht3, hgt3, hrn3⟩
    have hgw := GT.trans HF.out.2.1 hgt3 HF.out.2.2
    have hrw := RowNew.trans HF.out.2.2 HF.out.2.1.size hrn3
    rw [List.append_assoc] at ht3 hrw
    have HF3 := hide (And.intro ht3 (And.intro hgw hrw))
    clear ht3 hgw hrw hgt3 hrn3
    go_wp2_with (fail)
    go_ret
    exact ⟨by simp, a3, c3, HF3.out.1, HF3.out.2.1, by simpa using HF3.out.2.2⟩
end Go.Proofs.YtphoifgcmpjnoaaDoor
