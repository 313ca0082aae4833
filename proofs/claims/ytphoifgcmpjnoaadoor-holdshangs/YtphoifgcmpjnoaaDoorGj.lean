/-
  What (reader).node answers where a proposition stands.
-/
import Derived.Test.YtphoifgcmpjnoaaDoorGi
namespace Go.Proofs.YtphoifgcmpjnoaaDoor
open Go.RowKit Go.Sort

theorem RD.far {w : World} {rb r base : Nat} {T : List UInt8} {at_ : Nat} {a : Option Addr} {c : Nat} {out : List Nd} (h : RD w rb r base T at_ a c out) (nb o : Nat) (v : Value) (hnb : base ≤ nb) (hrow : some nb ≠ rowOf a) : RD (w.setCell ⟨nb, o, none⟩ v) rb r base T at_ a c out := by
  have n1 : rb ≠ nb := by have := h.lt1; omega
  have n2 : r ≠ nb := by have := h.lt2; omega
  have hc : ∀ i, (w.setCell ⟨nb, o, none⟩ v).cell? ⟨rb, i, none⟩ = w.cell? ⟨rb, i, none⟩ := fun i => World.cell?_of_block (a := ⟨rb, i, none⟩) (set_far w _ _ rb n1)
  refine ⟨(hc 0).trans h.c0, (hc 1).trans h.c1, (hc 2).trans h.c2, (hc 3).trans h.c3, fun i => by rw [World.frozen?_setCell]; exact h.soft i, (set_far w _ _ r n2).trans h.sg, ?_, by simp only [World.setCell, Array.size_modify]; exact h.hb, h.lt1, h.lt2, h.ne2⟩
  refine h.own.kept (row := some nb) ⟨rfl, rfl, rfl, by simp [World.setCell], fun k hk hne => set_far w _ _ k (fun e => hne (by rw [e]))⟩ ?_
  rw [row_eq]
  right
  exact fun e => hrow e.symm

theorem RS.far {w w1 : World} {rb r base : Nat} {T : List UInt8} {at1 : Nat} {a a1 : Option Addr} {c1 : Nat} {o1 : List Nd} (h : RS w w1 rb r base T at1 a a1 c1 o1) (nb o : Nat) (v : Value) (hnb : base ≤ nb) (hw : w.heap.size ≤ nb) (hrow : some nb ≠ rowOf a1) : RS w (w1.setCell ⟨nb, o, none⟩ v) rb r base T at1 a a1 c1 o1 :=
  ⟨h.rd.far nb o v hnb hrow, h.gt.set nb o v hw, h.new⟩

/-- From one place of a text to another one the reader makes these nodes. -/
def NodeAt (T : List UInt8) (p q : Nat) (g : Nat → List Nd) : Prop := ∀ (w : World) (rb r base : Nat) (a : Option Addr) (c : Nat) (out : List Nd), RD w rb r base T p a c out → out.length + (g out.length).length ≤ 100000 →
  Calls Tryd.prog 110 #[.pointer (some ⟨rb, 0, none⟩)] w fun e w' => e = .returned (.int .i64 (out.length + (g out.length).length - 1 : Nat)) ∧ ∃ a' c', RS w w' rb r base T q a a' c' (out ++ g out.length)

theorem here_node (d : UInt8) (k K : Nat) (h : here (fun s => decide (s.parts < 2)) d K = true) (hk : 1 ≤ k ∧ k < K) (hK : K ≤ 8) : here (fun s => decide (s.parts < 2)) d k = false := by
  obtain rfl | rfl | rfl | rfl | rfl | rfl | rfl | rfl : K = 1 ∨ K = 2 ∨ K = 3 ∨ K = 4 ∨ K = 5 ∨ K = 6 ∨ K = 7 ∨ K = 8 := by omega
  all_goals
    obtain rfl | rfl | rfl | rfl | rfl | rfl | rfl : k = 1 ∨ k = 2 ∨ k = 3 ∨ k = 4 ∨ k = 5 ∨ k = 6 ∨ k = 7 := by omega
  all_goals (first | omega | (simp [here, sgOf] at h ⊢; try (first | (intro e; rw [← h] at e; exact absurd e (by decide)) | (rw [← h]; decide) | done)))

theorem kind_prop {w : World} {rb r base : Nat} {T : List UInt8} {p : Nat} {a : Option Addr} {c : Nat} {out : List Nd} (h : RD w rb r base T p a c out) (h0 : T[p]? = some 112) (hT : T.length ≤ 2000) :
    Calls Tryd.prog 132 #[.pointer (some ⟨rb, 0, none⟩), .func (.func 133) #[] #[]] w fun e w' => e = .returned (.int .i64 2) ∧ RS w w' rb r base T (p + 1) a a c out := by
  refine kind_ok h fits_node 2 (by omega) 112 h0 (fun k k1 k2 => ?_) (by decide) (fun j hj => ?_) hT
  · have e : k = 1 := by omega
    subst e
    decide
  · have e : j = 0 := by simpa [sgOf] using hj
    subst e
    exact ⟨112, h0, rfl⟩

set_option maxRecDepth 100000 in
set_option maxHeartbeats 4000000 in
theorem node_prop {T : List UInt8} {p : Nat} (d : UInt8) (hd : 48 ≤ d.toNat ∧ d.toNat ≤ 50) (h0 : T[p]? = some 112) (h1 : T[p + 1]? = some d) (hn : ∀ b, T[p + 2]? = some b → digB b = false) (hT : T.length ≤ 2000) : NodeAt T p (p + 2) (fun _ => [⟨2, 0, 0, (d.toNat : Int) - 48⟩]) := by
  intro w rb r base a c out h hlen
  have H := hide h
  have hal : p < T.length := (List.getElem?_eq_some_iff.1 h0).1
  have hlt : ((p : Nat) : Int) ≤ (T.length : Int) := by omega
  have i1 := fun W => run_from W T p (by omega)
  have HPre : Hid (∀ W, Calls Tryd.prog 130 #[.string ⟨(T.drop p).toArray⟩, .string ⟨#[40]⟩] W fun e w' => e = .returned (.bool false) ∧ w' = W) := hide fun W => (hasPrefix_any ⟨(T.drop p).toArray⟩ ⟨[40].toArray⟩ W).mono fun e w' ⟨h1, h2⟩ => ⟨h1.trans (congrArg (fun z => Ending.returned (.bool z)) ((prefix_one T p 112 40 h0).trans rfl)), h2⟩
  have HKind : Hid (∀ W, RD W rb r base T p a c out → Calls Tryd.prog 132 #[.pointer (some ⟨rb, 0, none⟩), .func (.func 133) #[] #[]] W fun e w' => e = .returned (.int .i64 2) ∧ RS W w' rb r base T (p + 1) a a c out) := hide fun W hW => kind_prop hW h0 hT
  have HNum : Hid (∀ W, RD W rb r base T (p + 1) a c out → Calls Tryd.prog 134 #[.pointer (some ⟨rb, 0, none⟩)] W fun e w' => e = .returned (.int .i64 ((d.toNat : Int) - 48)) ∧ RS W w' rb r base T (p + 2) a a c out) := hide fun W hW => number_ok hW d hd h1 hn hT
  have hfd1 : ∀ (a b c d e : Value) (w : World), (Instr.field 119 (.agg #[a, b, c, d, e]) 1).run Tryd.prog w = .ok b w := fun _ _ _ _ _ _ => rfl
  have hfd2 : ∀ (a b c d e : Value) (w : World), (Instr.field 119 (.agg #[a, b, c, d, e]) 2).run Tryd.prog w = .ok c w := fun _ _ _ _ _ _ => rfl
  have k0 := h.c0
  have k1 := h.c1
  have k2 := h.c2
  generalize (d.toNat : Int) - 48 = dz at *
  simp only [List.length_cons, List.length_nil] at hlen ⊢
  clear h h0 h1 hn hd
  go_enter Tryd.func110, Tryd.ntmps110
  go_wp2_with (fail)
  refine wp_region_quiet_lit (by kernel_rfl) (by kernel_rfl) ?_
  (repeat (go_big_quiet_step ((refine Calls.quiet_of_same (HPre.out _)))))
  refine wpQuiet_nil ?_
  intro _ hw'
  obtain ⟨nq, hw''⟩ := hw'
  subst hw''
  have HR1 := hide ((RS.refl H.out).drewN nq)
  clear k0 k1 k2 HPre
  generalize w.drewN nq = w1 at *
  go_wp2_with (fail)
  refine (HKind.out w1 HR1.out.rd).mono ?_
  rintro e w2 ⟨rfl, hrs2⟩
  have HR2 := hide (HR1.out.trans hrs2)
  have hlk := (run_lookup_sign (hrs2.rd.sg.below (below_new w2 (Obj.cells #[.int .i64 2, .int .i64 0, .int .i64 0, .int .i64 0] 74))) 2).1
  have k0 := cell_keep hrs2.rd.c0 (below_new w2 (Obj.cells #[.int .i64 2, .int .i64 0, .int .i64 0, .int .i64 0] 74))
  have hsg : (sgOf 2).getD sg0 = ⟨[112], 0, true, false, 0⟩ := rfl
  rw [hsg] at hlk
  unfold sgV at hlk
  dsimp only at hlk
  clear hrs2 HKind hsg
  go_wp2_with (fail)
  have hb3 := below_new w2 (Obj.cells #[.int .i64 2, .int .i64 0, .int .i64 0, .int .i64 0] 74)
  have HR3 := hide (HR2.out.trans (RS.of_below HR2.out.rd hb3))
  refine (HNum.out _ HR3.out.rd).mono ?_
  rintro e w5 ⟨rfl, hrs5⟩
  obtain ⟨f1, f2⟩ := HR2.out.rd.fresh w2.heap.size (Nat.le_refl _)
  have n0 := hrs5.gt.cell (cell_top w2 #[.int .i64 2, .int .i64 0, .int .i64 0, .int .i64 0] 74 w2.heap.size 0 _ rfl rfl) f2 f1
  have n1 := hrs5.gt.cell (cell_top w2 #[.int .i64 2, .int .i64 0, .int .i64 0, .int .i64 0] 74 w2.heap.size 1 _ rfl rfl) f2 f1
  have n2 := hrs5.gt.cell (cell_top w2 #[.int .i64 2, .int .i64 0, .int .i64 0, .int .i64 0] 74 w2.heap.size 2 _ rfl rfl) f2 f1
  have n3 := hrs5.gt.cell (cell_top w2 #[.int .i64 2, .int .i64 0, .int .i64 0, .int .i64 0] 74 w2.heap.size 3 _ rfl rfl) f2 f1
  have nf : w5.frozen? ⟨w2.heap.size, 3, none⟩ = false := (hrs5.gt.frozen (b := w2.heap.size) (o := 3) (by simp) f2 f1).trans (World.frozen?_alloc_new _ _ _ _)
  have HR5 := hide (HR3.out.trans hrs5)
  obtain ⟨w6, hw6⟩ : ∃ w6, w6 = w5.setCell ⟨w2.heap.size, 3, none⟩ (.int .i64 dz) := ⟨_, rfl⟩
  have HR6 := hide (show RS w w6 rb r base T (p + 2) a a c out by rw [hw6]; exact HR5.out.far w2.heap.size 3 _ HR2.out.rd.hb HR2.out.gt.size f1)
  have p0 : w6.cell? ⟨w2.heap.size, 0, none⟩ = some (.int .i64 2) := by rw [hw6]; exact cell_set_off (by decide) n0
  have p1 : w6.cell? ⟨w2.heap.size, 1, none⟩ = some (.int .i64 0) := by rw [hw6]; exact cell_set_off (by decide) n1
  have p2 : w6.cell? ⟨w2.heap.size, 2, none⟩ = some (.int .i64 0) := by rw [hw6]; exact cell_set_off (by decide) n2
  have p3 : w6.cell? ⟨w2.heap.size, 3, none⟩ = some (.int .i64 dz) := by rw [hw6]; exact cell_set_eq n3
  clear hrs5 n0 n1 n2 k0 hlk HNum
  go_wp2_with (fail)
  rw [← hw6]
  clear hw6 n3 nf
  have HG : Hid (∀ W, Below w6.heap.size w6 W → Calls Tryd.prog 107 #[.pointer (some ⟨rb, 3, none⟩), .agg #[.int .i64 2, .int .i64 0, .int .i64 0, .int .i64 dz]] W fun e w' => e = .returned (.int .i64 out.length) ∧ ∃ a' c', RS w w' rb r base T (p + 2) a a' c' (out ++ [⟨2, 0, 0, dz⟩])) := hide fun W hb => (growR (HR6.out.rd.below hb) ⟨2, 0, 0, dz⟩ (by omega)).mono fun e w' ⟨h1, a', c', h2⟩ => ⟨h1, a', c', (HR6.out.trans (RS.of_below HR6.out.rd hb)).trans h2⟩
  go_region_law (refine step_callG rfl 107 [.tmp 44, .tmp 45] _ rfl Tryd.call107 ?_; refine (HG.out _ ?_).mono ?_; (focus (exact (by repeat (first | exact Below.refl _ _ | assumption | refine below_drewN ?_ _ | refine Below.drew ?_ | refine Below.alloc ?_ (by simp <;> omega) _ | refine below_trans ?_ (by assumption))))); rintro e w7 ⟨rfl, a7, c7, hrs7⟩; refine ⟨_, rfl, ?_⟩)
  all_goals
    have HR7 := hide hrs7
    clear hrs7 HG p0 p1 p2 p3
    go_wp2_with (fail)
    go_ret
    exact ⟨ret_eq (by omega), a7, c7, HR7.out⟩
end Go.Proofs.YtphoifgcmpjnoaaDoor
