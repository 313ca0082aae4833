/-
  What the reference's nodeAt makes of a text that is a formula: propositions, and kinds of one part.
-/
import Derived.Test.YtpiacnnifdjlkaaDoorGk
import Derived.Test.YtpiacnnifdjlkaaDoorAz
import Derived.Test.YtpiacnnifdjlkaaDoorEg
/-
  What (reader).node answers where `true`, a Not, a Next stands.
-/
namespace Go.Proofs.YtpiacnnifdjlkaaDoor
open Go.RowKit Go.Sort

theorem kind_true {w : World} {rb r base : Nat} {T : List UInt8} {p : Nat} {a : Option Addr} {c : Nat} {out : List Nd} (h : RD w rb r base T p a c out) (h0 : T[p]? = some 116) (h1 : T[p + 1]? = some 114) (h2 : T[p + 2]? = some 117) (h3 : T[p + 3]? = some 101) (hT : T.length ≤ 2000) :
    Calls Tryd.prog 132 #[.pointer (some ⟨rb, 0, none⟩), .func (.func 133) #[] #[]] w fun e w' => e = .returned (.int .i64 1) ∧ RS w w' rb r base T (p + 4) a a c out := by
  refine kind_ok h fits_node 1 (by omega) 116 h0 (fun k k1 k2 => ?_) (by decide) (fun j hj => ?_) hT
  · omega
  · have e : j = 0 ∨ j = 1 ∨ j = 2 ∨ j = 3 := by
      have : j < 4 := by simpa [sgOf] using hj
      omega
    rcases e with rfl | rfl | rfl | rfl
    · exact ⟨116, h0, rfl⟩
    · exact ⟨114, h1, rfl⟩
    · exact ⟨117, h2, rfl⟩
    · exact ⟨101, h3, rfl⟩

def oneB (K : Nat) : UInt8 := if K = 3 then 33 else 88

theorem kind_one {w : World} {rb r base : Nat} {T : List UInt8} {p : Nat} {a : Option Addr} {c : Nat} {out : List Nd} (h : RD w rb r base T p a c out) (K : Nat) (hK : K = 3 ∨ K = 6) (h0 : T[p]? = some (oneB K)) (hT : T.length ≤ 2000) :
    Calls Tryd.prog 132 #[.pointer (some ⟨rb, 0, none⟩), .func (.func 133) #[] #[]] w fun e w' => e = .returned (.int .i64 K) ∧ RS w w' rb r base T (p + 1) a a c out := by
  have key : ∀ k : Nat, 1 ≤ k → k < K → here (fun s => decide (s.parts < 2)) (oneB K) k = false := by
    intro k k1 k2
    rcases hK with rfl | rfl
    · obtain rfl | rfl : k = 1 ∨ k = 2 := by omega
      all_goals decide
    · obtain rfl | rfl | rfl | rfl | rfl : k = 1 ∨ k = 2 ∨ k = 3 ∨ k = 4 ∨ k = 5 := by omega
      all_goals decide
  have hsg : ((sgOf K).getD sg0).text = [oneB K] := by rcases hK with rfl | rfl <;> rfl
  have hy : here (fun s => decide (s.parts < 2)) (oneB K) K = true := by rcases hK with rfl | rfl <;> decide
  have := kind_ok h fits_node K (by omega) (oneB K) h0 key hy (fun j hj => by
    rw [hsg] at hj ⊢
    have e : j = 0 := by simpa using hj
    subst e
    exact ⟨_, h0, rfl⟩) hT
  rw [hsg] at this
  exact this

set_option maxRecDepth 100000 in
set_option maxHeartbeats 4000000 in
theorem node_true {T : List UInt8} {p : Nat} (h0 : T[p]? = some 116) (h1 : T[p + 1]? = some 114) (h2 : T[p + 2]? = some 117) (h3 : T[p + 3]? = some 101) (hT : T.length ≤ 2000) : NodeAt T p (p + 4) (fun _ => [⟨1, 0, 0, 0⟩]) := by
  intro w rb r base a c out h hlen
  have H := hide h
  have hal : p < T.length := (List.getElem?_eq_some_iff.1 h0).1
  have hlt : ((p : Nat) : Int) ≤ (T.length : Int) := by omega
  have i1 := fun W => run_from W T p (by omega)
  have HPre : Hid (∀ W, Calls Tryd.prog 130 #[.string ⟨(T.drop p).toArray⟩, .string ⟨#[40]⟩] W fun e w' => e = .returned (.bool false) ∧ w' = W) := hide fun W => (hasPrefix_any ⟨(T.drop p).toArray⟩ ⟨[40].toArray⟩ W).mono fun e w' ⟨h1, h2⟩ => ⟨h1.trans (congrArg (fun z => Ending.returned (.bool z)) ((prefix_one T p 116 40 h0).trans rfl)), h2⟩
  have HKind : Hid (∀ W, RD W rb r base T p a c out → Calls Tryd.prog 132 #[.pointer (some ⟨rb, 0, none⟩), .func (.func 133) #[] #[]] W fun e w' => e = .returned (.int .i64 1) ∧ RS W w' rb r base T (p + 4) a a c out) := hide fun W hW => kind_true hW h0 h1 h2 h3 hT
  have hfd1 : ∀ (a b c d e : Value) (w : World), (Instr.field 119 (.agg #[a, b, c, d, e]) 1).run Tryd.prog w = .ok b w := fun _ _ _ _ _ _ => rfl
  have hfd2 : ∀ (a b c d e : Value) (w : World), (Instr.field 119 (.agg #[a, b, c, d, e]) 2).run Tryd.prog w = .ok c w := fun _ _ _ _ _ _ => rfl
  have k1 := h.c1
  have k2 := h.c2
  simp only [List.length_cons, List.length_nil] at hlen ⊢
  clear h h0 h1 h2 h3
  go_enter Tryd.func110, Tryd.ntmps110
  go_wp2_with (fail)
  refine wp_region_quiet_lit (by kernel_rfl) (by kernel_rfl) ?_
  (repeat (go_big_quiet_step ((refine Calls.quiet_of_same (HPre.out _)))))
  refine wpQuiet_nil ?_
  intro _ hw'
  obtain ⟨nq, hw''⟩ := hw'
  subst hw''
  have HR1 := hide ((RS.refl H.out).drewN nq)
  clear k1 k2 HPre
  generalize w.drewN nq = w1 at *
  go_wp2_with (fail)
  refine (HKind.out w1 HR1.out.rd).mono ?_
  rintro e w2 ⟨rfl, hrs2⟩
  have HR2 := hide (HR1.out.trans hrs2)
  have hlk := (run_lookup_sign (hrs2.rd.sg.below (below_new w2 (Obj.cells #[.int .i64 1, .int .i64 0, .int .i64 0, .int .i64 0] 74))) 1).1
  have k0 := cell_keep hrs2.rd.c0 (below_new w2 (Obj.cells #[.int .i64 1, .int .i64 0, .int .i64 0, .int .i64 0] 74))
  have hsg : (sgOf 1).getD sg0 = ⟨[116, 114, 117, 101], 0, false, false, 0⟩ := rfl
  rw [hsg] at hlk
  unfold sgV at hlk
  dsimp only at hlk
  have hb3 := below_new w2 (Obj.cells #[.int .i64 1, .int .i64 0, .int .i64 0, .int .i64 0] 74)
  have HR3 := hide (HR2.out.trans (RS.of_below HR2.out.rd hb3))
  have p0 := cell_top w2 #[.int .i64 1, .int .i64 0, .int .i64 0, .int .i64 0] 74 w2.heap.size 0 _ rfl rfl
  have p1 := cell_top w2 #[.int .i64 1, .int .i64 0, .int .i64 0, .int .i64 0] 74 w2.heap.size 1 _ rfl rfl
  have p2 := cell_top w2 #[.int .i64 1, .int .i64 0, .int .i64 0, .int .i64 0] 74 w2.heap.size 2 _ rfl rfl
  have p3 := cell_top w2 #[.int .i64 1, .int .i64 0, .int .i64 0, .int .i64 0] 74 w2.heap.size 3 _ rfl rfl
  clear hrs2 HKind hsg hb3
  go_wp2_with (fail)
  generalize w2.alloc (Obj.cells #[.int .i64 1, .int .i64 0, .int .i64 0, .int .i64 0] 74) = w6 at *
  have HG : Hid (∀ W, Below w6.heap.size w6 W → Calls Tryd.prog 107 #[.pointer (some ⟨rb, 3, none⟩), .agg #[.int .i64 1, .int .i64 0, .int .i64 0, .int .i64 0]] W fun e w' => e = .returned (.int .i64 out.length) ∧ ∃ a' c', RS w w' rb r base T (p + 4) a a' c' (out ++ [⟨1, 0, 0, 0⟩])) := hide fun W hb => (growR (HR3.out.rd.below hb) ⟨1, 0, 0, 0⟩ (by omega)).mono fun e w' ⟨h1, a', c', h2⟩ => ⟨h1, a', c', (HR3.out.trans (RS.of_below HR3.out.rd hb)).trans h2⟩
  go_region_law (refine step_callG rfl 107 [.tmp 44, .tmp 45] _ rfl Tryd.call107 ?_; refine (HG.out _ ?_).mono ?_; (focus (exact (by repeat (first | exact Below.refl _ _ | assumption | refine below_drewN ?_ _ | refine Below.drew ?_ | refine Below.alloc ?_ (by simp <;> omega) _ | refine below_trans ?_ (by assumption))))); rintro e w7 ⟨rfl, a7, c7, hrs7⟩; refine ⟨_, rfl, ?_⟩)
  all_goals
    have HR7 := hide hrs7
    clear hrs7 HG p0 p1 p2 p3
    go_wp2_with (fail)
    go_ret
    exact ⟨ret_eq (by omega), a7, c7, HR7.out⟩

/-- The nodes of a node of one part. -/
def gOne (K : Nat) (g : Nat → List Nd) (m : Nat) : List Nd := g m ++ [⟨K, (m + (g m).length - 1 : Nat), 0, 0⟩]

set_option maxRecDepth 100000 in
set_option maxHeartbeats 4000000 in
theorem node_one {T : List UInt8} {p q : Nat} {g : Nat → List Nd} (K : Nat) (hK : K = 3 ∨ K = 6) (h0 : T[p]? = some (oneB K)) (hN : NodeAt T (p + 1) q g) (hT : T.length ≤ 2000) : NodeAt T p q (gOne K g) := by
  intro w rb r base a c out h hlen
  have H := hide h
  have hal : p < T.length := (List.getElem?_eq_some_iff.1 h0).1
  have hlt : ((p : Nat) : Int) ≤ (T.length : Int) := by omega
  have i1 := fun W => run_from W T p (by omega)
  have hne : (40 == oneB K) = false := by rcases hK with rfl | rfl <;> decide
  have HPre : Hid (∀ W, Calls Tryd.prog 130 #[.string ⟨(T.drop p).toArray⟩, .string ⟨#[40]⟩] W fun e w' => e = .returned (.bool false) ∧ w' = W) := hide fun W => (hasPrefix_any ⟨(T.drop p).toArray⟩ ⟨[40].toArray⟩ W).mono fun e w' ⟨h1, h2⟩ => ⟨h1.trans (congrArg (fun z => Ending.returned (.bool z)) ((prefix_one T p (oneB K) 40 h0).trans hne)), h2⟩
  have HKind : Hid (∀ W, RD W rb r base T p a c out → Calls Tryd.prog 132 #[.pointer (some ⟨rb, 0, none⟩), .func (.func 133) #[] #[]] W fun e w' => e = .returned (.int .i64 K) ∧ RS W w' rb r base T (p + 1) a a c out) := hide fun W hW => kind_one hW K hK h0 hT
  have HN := hide hN
  have hfd1 : ∀ (a b c d e : Value) (w : World), (Instr.field 119 (.agg #[a, b, c, d, e]) 1).run Tryd.prog w = .ok b w := fun _ _ _ _ _ _ => rfl
  have hfd2 : ∀ (a b c d e : Value) (w : World), (Instr.field 119 (.agg #[a, b, c, d, e]) 2).run Tryd.prog w = .ok c w := fun _ _ _ _ _ _ => rfl
  have k1 := h.c1
  have k2 := h.c2
  have hgl : (gOne K g out.length).length = (g out.length).length + 1 := by simp [gOne]
  have hgo : out ++ gOne K g out.length = out ++ g out.length ++ [⟨K, (out.length + (g out.length).length - 1 : Nat), 0, 0⟩] := by simp [gOne]
  rw [hgl] at hlen
  rw [hgl, hgo]
  obtain ⟨st, tp, op, hsg⟩ : ∃ st tp op, (sgOf (K : Int)).getD sg0 = ⟨st, 1, false, tp, op⟩ := by rcases hK with rfl | rfl <;> exact ⟨_, _, _, rfl⟩
  have HSG := hide hsg
  clear h h0 hN hK hne hgl hgo hsg
  go_enter Tryd.func110, Tryd.ntmps110
  go_wp2_with (fail)
  refine wp_region_quiet_lit (by kernel_rfl) (by kernel_rfl) ?_
  (repeat (go_big_quiet_step ((refine Calls.quiet_of_same (HPre.out _)))))
  refine wpQuiet_nil ?_
  intro _ hw'
  obtain ⟨nq, hw''⟩ := hw'
  subst hw''
  have HR1 := hide ((RS.refl H.out).drewN nq)
  clear k1 k2 HPre
  generalize w.drewN nq = w1 at *
  go_wp2_with (fail)
  refine (HKind.out w1 HR1.out.rd).mono ?_
  rintro e w2 ⟨rfl, hrs2⟩
  have HR2 := hide (HR1.out.trans hrs2)
  have hlk := (run_lookup_sign (hrs2.rd.sg.below (below_new w2 (Obj.cells #[.int .i64 (K : Int), .int .i64 0, .int .i64 0, .int .i64 0] 74))) K).1
  have k0 := cell_keep hrs2.rd.c0 (below_new w2 (Obj.cells #[.int .i64 (K : Int), .int .i64 0, .int .i64 0, .int .i64 0] 74))
  rw [HSG.out] at hlk
  unfold sgV at hlk
  dsimp only at hlk
  clear hrs2 HKind
  go_wp2_with (fail)
  have hb3 := below_new w2 (Obj.cells #[.int .i64 (K : Int), .int .i64 0, .int .i64 0, .int .i64 0] 74)
  have HR3 := hide (HR2.out.trans (RS.of_below HR2.out.rd hb3))
  refine (HN.out _ _ _ _ _ _ _ HR3.out.rd (by omega)).mono ?_
  rintro e w5 ⟨rfl, a5, c5, hrs5⟩
  obtain ⟨f1, f2⟩ := HR2.out.rd.fresh w2.heap.size (Nat.le_refl _)
  have n0 := hrs5.gt.cell (cell_top w2 #[.int .i64 (K : Int), .int .i64 0, .int .i64 0, .int .i64 0] 74 w2.heap.size 0 _ rfl rfl) f2 f1
  have n1 := hrs5.gt.cell (cell_top w2 #[.int .i64 (K : Int), .int .i64 0, .int .i64 0, .int .i64 0] 74 w2.heap.size 1 _ rfl rfl) f2 f1
  have n2 := hrs5.gt.cell (cell_top w2 #[.int .i64 (K : Int), .int .i64 0, .int .i64 0, .int .i64 0] 74 w2.heap.size 2 _ rfl rfl) f2 f1
  have n3 := hrs5.gt.cell (cell_top w2 #[.int .i64 (K : Int), .int .i64 0, .int .i64 0, .int .i64 0] 74 w2.heap.size 3 _ rfl rfl) f2 f1
  have nf : w5.frozen? ⟨w2.heap.size, 1, none⟩ = false := (hrs5.gt.frozen (b := w2.heap.size) (o := 1) (by simp) f2 f1).trans (World.frozen?_alloc_new _ _ _ _)
  have f5 := row_ne_new hrs5.new (j := w2.heap.size) f1 (by simp)
  have HR5 := hide (HR3.out.trans hrs5)
  generalize hz : (out.length + (g out.length).length - 1 : Nat) = z at *
  obtain ⟨w6, hw6⟩ : ∃ w6, w6 = w5.setCell ⟨w2.heap.size, 1, none⟩ (.int .i64 (z : Int)) := ⟨_, rfl⟩
  have HR6 := hide (show RS w w6 rb r base T q a a5 c5 (out ++ g out.length) by rw [hw6]; exact HR5.out.far w2.heap.size 1 _ HR2.out.rd.hb HR2.out.gt.size f5)
  have p0 : w6.cell? ⟨w2.heap.size, 0, none⟩ = some (.int .i64 (K : Int)) := by rw [hw6]; exact cell_set_off (by decide) n0
  have p1 : w6.cell? ⟨w2.heap.size, 1, none⟩ = some (.int .i64 (z : Int)) := by rw [hw6]; exact cell_set_eq n1
  have p2 : w6.cell? ⟨w2.heap.size, 2, none⟩ = some (.int .i64 0) := by rw [hw6]; exact cell_set_off (by decide) n2
  have p3 : w6.cell? ⟨w2.heap.size, 3, none⟩ = some (.int .i64 0) := by rw [hw6]; exact cell_set_off (by decide) n3
  have hlk6 := (run_lookup_sign (HR6.out.rd.sg) K).1
  rw [HSG.out] at hlk6
  unfold sgV at hlk6
  dsimp only at hlk6
  have k06 := HR6.out.rd.c0
  have HZ := hide hz
  rw [hw6] at hlk6 k06
  clear hrs5 n0 n2 n3 k0 hlk HN hz
  go_wp2_with (fail)
  rw [← hw6]
  clear hw6 n1 nf hlk6 k06
  have HG : Hid (∀ W, Below w6.heap.size w6 W → Calls Tryd.prog 107 #[.pointer (some ⟨rb, 3, none⟩), .agg #[.int .i64 (K : Int), .int .i64 (z : Int), .int .i64 0, .int .i64 0]] W fun e w' => e = .returned (.int .i64 (out ++ g out.length).length) ∧ ∃ a' c', RS w w' rb r base T q a a' c' (out ++ g out.length ++ [⟨K, z, 0, 0⟩])) := hide fun W hb => (growR (HR6.out.rd.below hb) ⟨K, z, 0, 0⟩ (by simp; omega)).mono fun e w' ⟨h1, a', c', h2⟩ => ⟨h1, a', c', (HR6.out.trans (RS.of_below HR6.out.rd hb)).trans h2⟩
  go_region_law (refine step_callG rfl 107 [.tmp 44, .tmp 45] _ rfl Tryd.call107 ?_; refine (HG.out _ ?_).mono ?_; (focus (exact (by repeat (first | exact Below.refl _ _ | assumption | refine below_drewN ?_ _ | refine Below.drew ?_ | refine Below.alloc ?_ (by simp <;> omega) _ | refine below_trans ?_ (by assumption))))); rintro e w7 ⟨rfl, a7, c7, hrs7⟩; refine ⟨_, rfl, ?_⟩)
  all_goals
    have HR7 := hide hrs7
    clear hrs7 HG p0 p1 p2 p3
    go_wp2_with (fail)
    go_ret
    exact ⟨ret_eq (by simp), a7, c7, by rw [HZ.out]; exact HR7.out⟩
end Go.Proofs.YtpiacnnifdjlkaaDoor

/-
  What (reader).node makes of a printed formula's text: its nodes, each behind all that it is made of, nothing twice.
-/
namespace Go.Proofs.YtpiacnnifdjlkaaDoor
open Go.RowKit Go.Sort

/-- One step: g is what the parts come to. -/
def unS (x : Nd) (g : Nat → Nat → List Nd) : Nat → List Nd :=
  if x.k = 1 then fun _ => [⟨1, 0, 0, 0⟩]
  else if x.k = 2 then fun _ => [⟨2, 0, 0, x.n⟩]
  else if x.k = 3 ∨ x.k = 6 then gOne x.k.toNat (g x.a.toNat)
  else gTwo x.k.toNat (g x.a.toNat) (g x.b.toNat)

def unN (F : List Nd) : Nat → Nat → Nat → List Nd
  | 0, _ => fun _ => []
  | f + 1, i => unS (F.getD i nd0) (unN F f)

theorem unS_congr {x : Nd} {g g' : Nat → Nat → List Nd} (ha : 3 ≤ x.k → g x.a.toNat = g' x.a.toNat) (hb : x.k = 4 ∨ x.k = 5 ∨ x.k = 7 ∨ x.k = 8 → g x.b.toNat = g' x.b.toNat) (hk : 1 ≤ x.k ∧ x.k ≤ 8) : unS x g = unS x g' := by
  unfold unS
  by_cases h1 : x.k = 1
  · rw [if_pos h1, if_pos h1]
  by_cases h2 : x.k = 2
  · rw [if_neg h1, if_pos h2, if_neg h1, if_pos h2]
  rw [if_neg h1, if_neg h1, if_neg h2, if_neg h2, ha (by omega)]
  by_cases h3 : x.k = 3 ∨ x.k = 6
  · rw [if_pos h3, if_pos h3]
  rw [if_neg h3, if_neg h3, hb (by omega)]

theorem unN_fuel {F : List Nd} (hF : AllOk F) : ∀ i f, i < F.length → i < f → unN F f i = unN F (i + 1) i := by
  intro i
  induction i using Nat.strongRecOn with
  | ind i ih =>
    intro f hi hf
    obtain ⟨g, rfl⟩ : ∃ g, f = g + 1 := ⟨f - 1, by omega⟩
    obtain ⟨hk, ⟨a0, a1, _⟩, ⟨b0, b1, _⟩, _⟩ := node_ok (hF i hi)
    show unS (F.getD i nd0) (unN F g) = unS (F.getD i nd0) (unN F i)
    refine unS_congr (fun h3 => ?_) (fun h3 => ?_) hk
    · have := a1 h3
      rw [ih _ (by omega) g (by omega) (by omega), ih _ (by omega) i (by omega) (by omega)]
    · have := b1 h3
      rw [ih _ (by omega) g (by omega) (by omega), ih _ (by omega) i (by omega) (by omega)]

/-- The nodes of node i, the first one of number m. -/
def un (F : List Nd) (i : Nat) : Nat → List Nd := unN F (i + 1) i

theorem un_eq {F : List Nd} (hF : AllOk F) (i : Nat) (hi : i < F.length) : un F i = unS (F.getD i nd0) (un F) := by
  obtain ⟨hk, ⟨a0, a1, _⟩, ⟨b0, b1, _⟩, _⟩ := node_ok (hF i hi)
  show unS (F.getD i nd0) (unN F i) = _
  refine unS_congr (fun h3 => ?_) (fun h3 => ?_) hk
  · have := a1 h3
    rw [unN_fuel hF _ i (by omega) (by omega)]
    rfl
  · have := b1 h3
    rw [unN_fuel hF _ i (by omega) (by omega)]
    rfl

/-- A text goes on so from a place. -/
def Sub (T : List UInt8) (p : Nat) (s : List UInt8) : Prop := ∀ j, j < s.length → T[p + j]? = s[j]?

theorem Sub.head {T : List UInt8} {p : Nat} {b : UInt8} {s : List UInt8} (h : Sub T p (b :: s)) : T[p]? = some b ∧ Sub T (p + 1) s := by
  refine ⟨by simpa using h 0 (by simp), fun j hj => ?_⟩
  have := h (j + 1) (by simpa using hj)
  rw [List.getElem?_cons_succ] at this
  rw [← this, show p + 1 + j = p + (j + 1) by omega]

theorem Sub.app {T : List UInt8} {p : Nat} {s t : List UInt8} (h : Sub T p (s ++ t)) : Sub T p s ∧ Sub T (p + s.length) t := by
  refine ⟨fun j hj => ?_, fun j hj => ?_⟩
  · rw [h j (by simp; omega), List.getElem?_append_left hj]
  · have := h (s.length + j) (by simp; omega)
    rw [show p + s.length + j = p + (s.length + j) by omega, this, List.getElem?_append_right (by omega), Nat.add_sub_cancel_left]

theorem node_un {F : List Nd} (hF : AllOk F) {T : List UInt8} (hT : T.length ≤ 2000) : ∀ i, i < F.length → ∀ p, Sub T p (sh F i) → (∀ b, T[p + (sh F i).length]? = some b → digB b = false) → NodeAt T p (p + (sh F i).length) (un F i) := by
  intro i
  induction i using Nat.strongRecOn with
  | ind i ih =>
    intro hi p hs hn
    obtain ⟨hk, ⟨a0, a1, _⟩, ⟨b0, b1, _⟩, hxn⟩ := node_ok (hF i hi)
    rw [un_eq hF i hi]
    rw [sh_eq hF i hi] at hs hn ⊢
    generalize F.getD i nd0 = x at *
    unfold shS at hs hn ⊢
    unfold unS
    by_cases h1 : x.k = 1
    · rw [if_pos h1] at hs hn ⊢
      rw [if_pos h1]
      obtain ⟨t0, hs⟩ := hs.head
      obtain ⟨t1, hs⟩ := hs.head
      obtain ⟨t2, hs⟩ := hs.head
      obtain ⟨t3, hs⟩ := hs.head
      exact node_true t0 t1 t2 t3 hT
    rw [if_neg h1] at hs hn ⊢
    rw [if_neg h1]
    by_cases h2 : x.k = 2
    · rw [if_pos h2] at hs hn ⊢
      rw [if_pos h2]
      obtain ⟨t0, hs⟩ := hs.head
      obtain ⟨t1, hs⟩ := hs.head
      have hx := hxn h2
      have hd : (UInt8.ofNat (48 + x.n.toNat)).toNat = 48 + x.n.toNat := by
        have : x.n.toNat ≤ 2 := by omega
        simp [UInt8.toNat_ofNat]
        omega
      have := node_prop (T := T) (p := p) (UInt8.ofNat (48 + x.n.toNat)) (by rw [hd]; omega) t0 t1 (by simpa using hn) hT
      rw [hd] at this
      have e : ((48 + x.n.toNat : Nat) : Int) - 48 = x.n := by omega
      rw [e] at this
      exact this
    rw [if_neg h2] at hs hn ⊢
    rw [if_neg h2]
    have ha := a1 (by omega)
    by_cases h3 : x.k = 3
    · rw [if_pos h3] at hs hn ⊢
      rw [if_pos (Or.inl h3), h3]
      obtain ⟨t0, hs⟩ := hs.head
      have := ih x.a.toNat (by omega) (by omega) (p + 1) hs (fun b hb => hn b (by rw [List.length_cons, ← hb]; congr 1; omega))
      rw [show p + 1 + (sh F x.a.toNat).length = p + (33 :: sh F x.a.toNat).length by simp; omega] at this
      exact node_one 3 (Or.inl rfl) t0 this hT
    rw [if_neg h3] at hs hn ⊢
    by_cases h6 : x.k = 6
    · rw [if_pos h6] at hs hn ⊢
      rw [if_pos (Or.inr h6), h6]
      obtain ⟨t0, hs⟩ := hs.head
      have := ih x.a.toNat (by omega) (by omega) (p + 1) hs (fun b hb => hn b (by rw [List.length_cons, ← hb]; congr 1; omega))
      rw [show p + 1 + (sh F x.a.toNat).length = p + (88 :: sh F x.a.toNat).length by simp; omega] at this
      exact node_one 6 (Or.inr rfl) t0 this hT
    rw [if_neg h6] at hs hn ⊢
    rw [if_neg (by omega)]
    have hb := b1 (by omega)
    obtain ⟨t0, hs⟩ := hs.head
    obtain ⟨sa, hs⟩ := hs.app
    obtain ⟨t1, hs⟩ := hs.head
    obtain ⟨t2, hs⟩ := hs.head
    obtain ⟨t3, hs⟩ := hs.head
    obtain ⟨sb, hs⟩ := hs.app
    obtain ⟨t4, -⟩ := hs.head
    have n1 := ih x.a.toNat (by omega) (by omega) (p + 1) sa (fun b hb => by
      rw [t1] at hb
      injection hb with hb
      subst hb
      decide)
    have n2 := ih x.b.toNat (by omega) (by omega) _ sb (fun b hb => by
      rw [t4] at hb
      injection hb with hb
      subst hb
      decide)
    have hK : x.k.toNat = 4 ∨ x.k.toNat = 5 ∨ x.k.toNat = 7 ∨ x.k.toNat = 8 := by omega
    have e : ((x.k.toNat : Nat) : Int) = x.k := by omega
    have := node_two x.k.toNat hK t0 n1 t1 (by rw [e]; exact t2) t3 n2 t4 hT
    refine cast (congrArg (fun q => NodeAt T p q _) ?_) this
    simp
    omega
end Go.Proofs.YtpiacnnifdjlkaaDoor

/-
  What the reference's nodeAt makes of a text that is a formula: its leaves.
-/
namespace Go.Proofs.YtpiacnnifdjlkaaDoor
open Go.RowKit Go.Sort

/-- From one place to another there stand these nodes (g: by the number of the first). -/
def RefAt (T : List UInt8) (p q : Nat) (g : Nat → List Nd) : Prop := ∀ (w : World) (base : Nat) (a : Option Addr) (c : Nat) (out : List Nd), w.ownsRow base 74 4 (.slice a out.length c) out.length (ndCells out) → base ≤ w.heap.size → out.length + (g out.length).length ≤ 100000 →
  Calls Tryd.prog 77 #[.slice a out.length c, .string ⟨T.toArray⟩, .int .i64 p] w fun e w' => ∃ a' c', e = .returned (.tuple #[.slice a' (out ++ g out.length).length c', .int .i64 q, .bool true]) ∧ w'.ownsRow base 74 4 (.slice a' (out ++ g out.length).length c') (out ++ g out.length).length (ndCells (out ++ g out.length)) ∧ Below base w w'

theorem wp_app_node {w : World} {ops : Array Oper} {rest : List Oper} {o : Oper} {a : Act} {Q : Exit → Act → World → Prop} (hgd : o.guard = none) (s x : Operand)
    (ho : o.op = .call { callee := .builtin .append, args := #[s, x], argTypes := #[59, 59] }) (base n : Nat) (v : Value) (xs : List Value) (hs : a.eval s = v)
    (hown : w.ownsRow base 74 4 v n xs) (B c : Nat) (nd : Nd) (hx : a.eval x = .slice (some ⟨B, 0, none⟩) 1 c) (h0 : w.cell? ⟨B, 0, none⟩ = some (.int .i64 nd.k)) (h1 : w.cell? ⟨B, 1, none⟩ = some (.int .i64 nd.a)) (h2 : w.cell? ⟨B, 2, none⟩ = some (.int .i64 nd.b)) (h3 : w.cell? ⟨B, 3, none⟩ = some (.int .i64 nd.n)) (hn : n ≤ 900000) (hbase : base ≤ w.heap.size)
    (h : ∀ g cap w', w'.ownsRow base 74 4 (.slice (some ⟨g, 0, none⟩) (n + 1) cap) (n + 1) (xs ++ [.int .i64 nd.k, .int .i64 nd.a, .int .i64 nd.b, .int .i64 nd.n]) → w.grownBy w' v.ownBlock → wpList Tryd.prog ops Q rest (a.put o.dst (.slice (some ⟨g, 0, none⟩) (n + 1) cap)) w') : wpList Tryd.prog ops Q (o :: rest) a w := by
  obtain ⟨g, cap, w', hr, h4, h5, -⟩ := run_app_node w o.type base n v xs hown B c nd h0 h1 h2 h3 hn hbase
  refine wpList_plain hgd fun K hk => ?_
  unfold Oper.wp execOp
  simp only [ho, resolve, invoke, builtin, Sem.run_bind, Sem.run_pure, Result.andThen_ok, List.map_toArray, List.map_cons, List.map_nil, hs, hx, hr]
  exact hk _ _ (h g cap w' h4 h5)

theorem own_below {w w' : World} {base e sz n : Nat} {v : Value} {xs : List Value} (h : w.ownsRow base e sz v n xs) (hb : Below w.heap.size w w') : w'.ownsRow base e sz v n xs :=
  h.kept (row := none) ⟨hb.os, hb.tape, hb.output, hb.size, fun k hk _ => hb.block k hk⟩ (by cases hv : v.ownBlock <;> simp)

/-- One node more, behind what is there. -/
theorem own_snoc {w w1 w' : World} {base : Nat} {a : Option Addr} {c : Nat} {out : List Nd} {g cap : Nat} (nd : Nd) (hb : Below w.heap.size w w1) (hB : base ≤ w.heap.size) (ho : w1.ownsRow base 74 4 (.slice a out.length c) out.length (ndCells out))
    (h1 : w'.ownsRow base 74 4 (.slice (some ⟨g, 0, none⟩) (out.length + 1) cap) (out.length + 1) (ndCells out ++ [.int .i64 nd.k, .int .i64 nd.a, .int .i64 nd.b, .int .i64 nd.n])) (h2 : w1.grownBy w' (Value.slice a out.length c).ownBlock) :
    w'.ownsRow base 74 4 (.slice (some ⟨g, 0, none⟩) (out ++ [nd]).length cap) (out ++ [nd]).length (ndCells (out ++ [nd])) ∧ Below base w w' := by
  refine ⟨?_, (hb.mono hB).grown h2 (Nat.le_trans hB hb.size) (fun k hk => (ho.lt k hk).1)⟩
  rw [ndCells_snoc, List.length_append]
  exact h1

theorem true_byte (j : Nat) (b : UInt8) (h : [(116 : UInt8), 114, 117, 101][j]? = some b) (W : World) : (Instr.index 9 (.string ⟨#[116, 114, 117, 101]⟩) (.int .i64 (j : Int))).run Tryd.prog W = .ok (.int .u8 (b.toNat : Int)) W := run_byte W [116, 114, 117, 101] j (j : Int) b rfl h

set_option maxRecDepth 100000 in
set_option maxHeartbeats 4000000 in
theorem ref_true {T : List UInt8} {p : Nat} (h : Sub T p [116, 114, 117, 101]) (hl : p + 4 ≤ T.length) (hT : T.length ≤ 30000) : RefAt T p (p + 4) (fun _ => [⟨1, 0, 0, 0⟩]) := by
  intro w base a c out hown hB hn
  have hn : out.length + 1 ≤ 100000 := hn
  show Calls _ _ _ _ fun e w' => ∃ a' c', e = .returned (.tuple #[.slice a' (out ++ [(⟨1, 0, 0, 0⟩ : Nd)]).length c', .int .i64 (p + 4 : Nat), .bool true]) ∧ w'.ownsRow base 74 4 (.slice a' (out ++ [(⟨1, 0, 0, 0⟩ : Nd)]).length c') (out ++ [(⟨1, 0, 0, 0⟩ : Nd)]).length (ndCells (out ++ [(⟨1, 0, 0, 0⟩ : Nd)])) ∧ Below base w w'
  have HO := hide hown
  have HB := hide hB
  have HS := hide h
  have hsT : (⟨T.toArray⟩ : ByteArray).size = T.length := by simp [ByteArray.size]
  have i0 : ∀ W, (Instr.index 9 (.string ⟨T.toArray⟩) (.int .i64 (p : Int))).run Tryd.prog W = .ok (.int .u8 116) W := fun W => run_byte W T p (p : Int) 116 rfl (h 0 (by simp))
  have hg0 : ¬ ((T.length : Int) ≤ (p : Int)) := by omega
  clear h hown hB
  go_enter Tryd.func77, Tryd.ntmps77
  go_wp2_with (fail)
  go_loopw [9] (fun iv wr => ∃ j : Nat, j ≤ 4 ∧ iv = .int .i64 j ∧ Hid (Below w.heap.size w wr)) (fun iv _ => 4 - (intOf iv).toNat)
  case atStart => exact ⟨0, by omega, rfl, hide (Below.refl _ _)⟩
  case round =>
    obtain ⟨j, hj, rfl, hb⟩ := hrel
    clear i0
    by_cases hlt : j < 4
    · obtain ⟨b, hb1⟩ : ∃ b, [(116 : UInt8), 114, 117, 101][j]? = some b := ⟨_, List.getElem?_eq_getElem (by simpa using hlt)⟩
      have hb2 : T[p + j]? = some b := (HS.out j (by simpa using hlt)).trans hb1
      have i1 := fun W => run_byte W T (p + j) ((p : Int) + (j : Int)) b (by omega) hb2
      have i2 := true_byte j b hb1
      have hd : decide ((T.length : Int) ≤ (p : Int) + (j : Int)) = false := decide_eq_false (by omega)
      have bb : ((b.toNat : Int) != (b.toNat : Int)) = false := by simp
      clear hb1 hb2
      go_wp2_with (fail)
      (refine wp_region_quiet_lit (by kernel_rfl) (by kernel_rfl) ?_; (repeat (go_big_quiet_step (fail))); refine wpQuiet_nil ?_; intro _ hw'; obtain ⟨nq, hw''⟩ := hw'; subst hw'')
      have HB2 := hide (below_drewN hb.out nq)
      go_wp2_with (fail)
      exact ⟨⟨j + 1, by omega, by go_num, HB2⟩, by simp [intOf]; omega⟩
    · obtain rfl : j = 4 := by omega
      have HBr := hide hb.out
      have HOr := hide (own_below HO.out hb.out)
      have hsz := hb.out.size
      clear hb
      have hBr : base ≤ wr.heap.size := Nat.le_trans HB.out hsz
      go_wp2_with (at_builtin; refine wp_app_node rfl (.tmp 55) (.tmp 57) rfl base out.length _ (ndCells out) rfl (HOr.out.alloc _) wr.heap.size 1 ⟨1, 0, 0, 0⟩ rfl (cell_top _ _ _ _ _ _ rfl rfl) (cell_top _ _ _ _ _ _ rfl rfl) (cell_top _ _ _ _ _ _ rfl rfl) (cell_top _ _ _ _ _ _ rfl rfl) (by omega) (by simp; omega) ?_; intro g8 cap8 w8 hown8 hgrow8; have HR8 := hide (own_snoc ⟨1, 0, 0, 0⟩ (HBr.out.alloc hsz _) HB.out (HOr.out.alloc _) hown8 hgrow8); clear hown8 hgrow8)
      go_ret3
      exact ⟨_, _, by simp, HR8.out.1, HR8.out.2⟩
end Go.Proofs.YtpiacnnifdjlkaaDoor

namespace Go.Proofs.YtpiacnnifdjlkaaDoor
open Go.RowKit Go.Sort

set_option maxRecDepth 100000 in
set_option maxHeartbeats 4000000 in
theorem ref_prop {T : List UInt8} {p : Nat} (d : UInt8) (hd : 48 ≤ d.toNat ∧ d.toNat ≤ 57) (h0 : T[p]? = some 112) (h1 : T[p + 1]? = some d) (hT : T.length ≤ 30000) : RefAt T p (p + 2) (fun _ => [⟨2, 0, 0, (d.toNat : Int) - 48⟩]) := by
  intro w base a c out hown hB hn
  have hn : out.length + 1 ≤ 100000 := hn
  show Calls _ _ _ _ fun e w' => ∃ a' c', e = .returned (.tuple #[.slice a' (out ++ [(⟨2, 0, 0, (d.toNat : Int) - 48⟩ : Nd)]).length c', .int .i64 (p + 2 : Nat), .bool true]) ∧ w'.ownsRow base 74 4 (.slice a' (out ++ [(⟨2, 0, 0, (d.toNat : Int) - 48⟩ : Nd)]).length c') (out ++ [(⟨2, 0, 0, (d.toNat : Int) - 48⟩ : Nd)]).length (ndCells (out ++ [(⟨2, 0, 0, (d.toNat : Int) - 48⟩ : Nd)])) ∧ Below base w w'
  have HO := hide hown
  have hsT : (⟨T.toArray⟩ : ByteArray).size = T.length := by simp [ByteArray.size]
  have hlt : p + 1 < T.length := (List.getElem?_eq_some_iff.1 h1).1
  have i0 : ∀ W, (Instr.index 9 (.string ⟨T.toArray⟩) (.int .i64 (p : Int))).run Tryd.prog W = .ok (.int .u8 112) W := fun W => run_byte W T p (p : Int) 112 rfl h0
  have i1 : ∀ W, (Instr.index 9 (.string ⟨T.toArray⟩) (.int .i64 ((p : Int) + 1))).run Tryd.prog W = .ok (.int .u8 (d.toNat : Int)) W := fun W => run_byte W T (p + 1) ((p : Int) + 1) d (by omega) h1
  have hg0 : ¬ ((T.length : Int) ≤ (p : Int)) := by omega
  have hg1 : ¬ ((T.length : Int) ≤ (p : Int) + 1) := by omega
  have hbt : btw (d.toNat : Int) 48 57 = true := by unfold btw; exact decide_eq_true (by omega)
  clear hown h0 h1
  go_enter Tryd.func77, Tryd.ntmps77
  go_wp2_with (fail)
  refine (between_b _ _ _ _).mono ?_
  rintro e w1 ⟨rfl, rfl⟩
  rw [hbt]
  go_wp2_with (at_builtin; refine wp_app_node rfl (.tmp 79) (.tmp 87) rfl base out.length _ (ndCells out) rfl (HO.out.alloc _) w1.heap.size 1 ⟨2, 0, 0, (d.toNat : Int) - 48⟩ rfl (cell_top _ _ _ _ _ _ rfl rfl) (cell_top _ _ _ _ _ _ rfl rfl) (cell_top _ _ _ _ _ _ rfl rfl) (cell_top _ _ _ _ _ _ rfl rfl) (by omega) (by simp; omega) ?_; intro g8 cap8 w8 hown8 hgrow8; have HR8 := hide (own_snoc ⟨2, 0, 0, (d.toNat : Int) - 48⟩ (below_new _ _) hB (HO.out.alloc _) hown8 hgrow8); clear hown8 hgrow8)
  go_ret3
  exact ⟨_, _, by simp, HR8.out.1, HR8.out.2⟩

set_option maxRecDepth 100000 in
set_option maxHeartbeats 4000000 in
theorem ref_one {T : List UInt8} {p q : Nat} {g : Nat → List Nd} (K : Nat) (hK : K = 3 ∨ K = 6) (h0 : T[p]? = some (oneB K)) (hN : RefAt T (p + 1) q g) (hg : ∀ m, 0 < (g m).length) (hT : T.length ≤ 30000) : RefAt T p q (fun m => g m ++ [⟨K, (m + (g m).length - 1 : Nat), 0, 0⟩]) := by
  intro w base a c out hown hB hn
  have hn : out.length + (g out.length ++ [(⟨K, (out.length + (g out.length).length - 1 : Nat), 0, 0⟩ : Nd)]).length ≤ 100000 := hn
  rw [List.length_append, List.length_cons, List.length_nil] at hn
  have hp := hg out.length
  have HN := hide (hN w base a c out hown hB (by omega))
  have hc : ((p + 1 : Nat) : Int) = (p : Int) + 1 := by omega
  rw [hc] at HN
  show Calls _ _ _ _ fun e w' => ∃ a' c', e = .returned (.tuple #[.slice a' (out ++ (g out.length ++ [(⟨K, (out.length + (g out.length).length - 1 : Nat), 0, 0⟩ : Nd)])).length c', .int .i64 q, .bool true]) ∧ w'.ownsRow base 74 4 (.slice a' (out ++ (g out.length ++ [(⟨K, (out.length + (g out.length).length - 1 : Nat), 0, 0⟩ : Nd)])).length c') (out ++ (g out.length ++ [(⟨K, (out.length + (g out.length).length - 1 : Nat), 0, 0⟩ : Nd)])).length (ndCells (out ++ (g out.length ++ [(⟨K, (out.length + (g out.length).length - 1 : Nat), 0, 0⟩ : Nd)]))) ∧ Below base w w'
  rw [← List.append_assoc]
  have hLl : (out ++ g out.length).length = out.length + (g out.length).length := List.length_append
  rw [show ((out.length + (g out.length).length - 1 : Nat) : Int) = ((out ++ g out.length).length : Int) - 1 by rw [hLl]; omega]
  have hL1 : 1 ≤ (out ++ g out.length).length := by omega
  have hL2 : (out ++ g out.length).length ≤ 100000 := by omega
  generalize out ++ g out.length = L at *
  have hsT : (⟨T.toArray⟩ : ByteArray).size = T.length := by simp [ByteArray.size]
  have hlt : p < T.length := (List.getElem?_eq_some_iff.1 h0).1
  have hg0 : ¬ ((T.length : Int) ≤ (p : Int)) := by omega
  have HB := hide hB
  clear hN hown hg hLl hp hn hc
  rcases hK with rfl | rfl
  · have i0 : ∀ W, (Instr.index 9 (.string ⟨T.toArray⟩) (.int .i64 (p : Int))).run Tryd.prog W = .ok (.int .u8 33) W := fun W => run_byte W T p (p : Int) 33 rfl h0
    clear h0
    go_enter Tryd.func77, Tryd.ntmps77
    go_wp2_with (fail)
    refine HN.out.mono ?_
    rintro e w1 ⟨a1, c1, rfl, ho1, hb1⟩
    have HO1 := hide ho1
    have HB1 := hide hb1
    have hs1 := hb1.size
    have hB1 : base ≤ w1.heap.size := Nat.le_trans HB.out hs1
    clear ho1 hb1 HN
    go_wp2_with (at_builtin; refine wp_app_node rfl (.tmp 110) (.tmp 116) rfl base L.length _ (ndCells L) rfl (HO1.out.alloc _) w1.heap.size 1 ⟨3, (L.length : Int) - 1, 0, 0⟩ rfl (cell_top _ _ _ _ _ _ rfl rfl) (cell_top _ _ _ _ _ _ rfl rfl) (cell_top _ _ _ _ _ _ rfl rfl) (cell_top _ _ _ _ _ _ rfl rfl) (by omega) (by simp; omega) ?_; intro g8 cap8 w8 hown8 hgrow8; have HR8 := hide (own_snoc ⟨3, (L.length : Int) - 1, 0, 0⟩ (below_new _ _) hB1 (HO1.out.alloc _) hown8 hgrow8); clear hown8 hgrow8)
    go_ret3
    exact ⟨_, _, by simp, HR8.out.1, HB1.out.trans HR8.out.2⟩
  · have i0 : ∀ W, (Instr.index 9 (.string ⟨T.toArray⟩) (.int .i64 (p : Int))).run Tryd.prog W = .ok (.int .u8 88) W := fun W => run_byte W T p (p : Int) 88 rfl h0
    clear h0
    go_enter Tryd.func77, Tryd.ntmps77
    go_wp2_with (fail)
    refine HN.out.mono ?_
    rintro e w1 ⟨a1, c1, rfl, ho1, hb1⟩
    have HO1 := hide ho1
    have HB1 := hide hb1
    have hs1 := hb1.size
    have hB1 : base ≤ w1.heap.size := Nat.le_trans HB.out hs1
    clear ho1 hb1 HN
    go_wp2_with (at_builtin; refine wp_app_node rfl (.tmp 110) (.tmp 116) rfl base L.length _ (ndCells L) rfl (HO1.out.alloc _) w1.heap.size 1 ⟨6, (L.length : Int) - 1, 0, 0⟩ rfl (cell_top _ _ _ _ _ _ rfl rfl) (cell_top _ _ _ _ _ _ rfl rfl) (cell_top _ _ _ _ _ _ rfl rfl) (cell_top _ _ _ _ _ _ rfl rfl) (by omega) (by simp; omega) ?_; intro g8 cap8 w8 hown8 hgrow8; have HR8 := hide (own_snoc ⟨6, (L.length : Int) - 1, 0, 0⟩ (below_new _ _) hB1 (HO1.out.alloc _) hown8 hgrow8); clear hown8 hgrow8)
    go_ret3
    exact ⟨_, _, by simp, HR8.out.1, HB1.out.trans HR8.out.2⟩
end Go.Proofs.YtpiacnnifdjlkaaDoor
