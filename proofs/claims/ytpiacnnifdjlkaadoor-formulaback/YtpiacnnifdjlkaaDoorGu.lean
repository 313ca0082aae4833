/-
  What (reader).kind answers in any case.
-/
import Derived.Test.YtpiacnnifdjlkaaDoorGk
import Derived.Test.YtpiacnnifdjlkaaDoorAz
/-
  What (reader).node answers where `true`, a Not, a Next stands.
-/
namespace Go.Proofs.YtpiacnnifdjlkaaDoor
open Go.RowKit Go.Sort

theorem kind_true {w : World} {rb r base : Nat} {T : List UInt8} {p : Nat} {a : Option Addr} {c : Nat} {out : List Nd} (h : RD w rb r base T p a c out) (h0 : T[p]? = some 116) (h1 : T[p + 1]? = some 114) (h2 : T[p + 2]? = some 117) (h3 : T[p + 3]? = some 101) (hT : T.length ≤ 2000) :
    Calls Tryd.prog 132 #[.pointer (some ⟨rb, 0, none⟩), .func (.func 133) #[] #[]] w fun e w' => e = .returned (.int .i64 1) ∧ RS w w' rb r base T (p + 4) a a c out := by
  refine kind_ok h fits_node 1 (by omega) 116 h0 (fun k k1 k2 => ?_) (by decide) (fun j hj => ?_) hT
  · omega
  · have e : j = 0 ∨ j = 1 ∨ j = 2 ∨ j = 3 := by
      have : j < 4 := by simpa [sgOf] using hj
      omega
    rcases e with rfl | rfl | rfl | rfl
    · exact ⟨116, h0, rfl⟩
    · exact ⟨114, h1, rfl⟩
    · exact ⟨117, h2, rfl⟩
    · exact ⟨101, h3, rfl⟩

def oneB (K : Nat) : UInt8 := if K = 3 then 33 else 88

theorem kind_one {w : World} {rb r base : Nat} {T : List UInt8} {p : Nat} {a : Option Addr} {c : Nat} {out : List Nd} (h : RD w rb r base T p a c out) (K : Nat) (hK : K = 3 ∨ K = 6) (h0 : T[p]? = some (oneB K)) (hT : T.length ≤ 2000) :
    Calls Tryd.prog 132 #[.pointer (some ⟨rb, 0, none⟩), .func (.func 133) #[] #[]] w fun e w' => e = .returned (.int .i64 K) ∧ RS w w' rb r base T (p + 1) a a c out := by
  have key : ∀ k : Nat, 1 ≤ k → k < K → here (fun s => decide (s.parts < 2)) (oneB K) k = false := by
    intro k k1 k2
    rcases hK with rfl | rfl
    · obtain rfl | rfl : k = 1 ∨ k = 2 := by omega
      all_goals decide
    · obtain rfl | rfl | rfl | rfl | rfl : k = 1 ∨ k = 2 ∨ k = 3 ∨ k = 4 ∨ k = 5 := by omega
      all_goals decide
  have hsg : ((sgOf K).getD sg0).text = [oneB K] := by rcases hK with rfl | rfl <;> rfl
  have hy : here (fun s => decide (s.parts < 2)) (oneB K) K = true := by rcases hK with rfl | rfl <;> decide
  have := kind_ok h fits_node K (by omega) (oneB K) h0 key hy (fun j hj => by
    rw [hsg] at hj ⊢
    have e : j = 0 := by simpa using hj
    subst e
    exact ⟨_, h0, rfl⟩) hT
  rw [hsg] at this
  exact this

set_option maxRecDepth 100000 in
set_option maxHeartbeats 4000000 in
theorem node_true {T : List UInt8} {p : Nat} (h0 : T[p]? = some 116) (h1 : T[p + 1]? = some 114) (h2 : T[p + 2]? = some 117) (h3 : T[p + 3]? = some 101) (hT : T.length ≤ 2000) : NodeAt T p (p + 4) (fun _ => [⟨1, 0, 0, 0⟩]) := by
  intro w rb r base a c out h hlen
  have H := hide h
  have hal : p < T.length := (List.getElem?_eq_some_iff.1 h0).1
  have hlt : ((p : Nat) : Int) ≤ (T.length : Int) := by omega
  have i1 := fun W => run_from W T p (by omega)
  have HPre : Hid (∀ W, Calls Tryd.prog 130 #[.string ⟨(T.drop p).toArray⟩, .string ⟨#[40]⟩] W fun e w' => e = .returned (.bool false) ∧ w' = W) := hide fun W => (hasPrefix_any ⟨(T.drop p).toArray⟩ ⟨[40].toArray⟩ W).mono fun e w' ⟨h1, h2⟩ => ⟨h1.trans (congrArg (fun z => Ending.returned (.bool z)) ((prefix_one T p 116 40 h0).trans rfl)), h2⟩
  have HKind : Hid (∀ W, RD W rb r base T p a c out → Calls Tryd.prog 132 #[.pointer (some ⟨rb, 0, none⟩), .func (.func 133) #[] #[]] W fun e w' => e = .returned (.int .i64 1) ∧ RS W w' rb r base T (p + 4) a a c out) := hide fun W hW => kind_true hW h0 h1 h2 h3 hT
  have hfd1 : ∀ (a b c d e : Value) (w : World), (Instr.field 119 (.agg #[a, b, c, d, e]) 1).run Tryd.prog w = .ok b w := fun _ _ _ _ _ _ => rfl
  have hfd2 : ∀ (a b c d e : Value) (w : World), (Instr.field 119 (.agg #[a, b, c, d, e]) 2).run Tryd.prog w = .ok c w := fun _ _ _ _ _ _ => rfl
  have k1 := h.c1
  have k2 := h.c2
  simp only [List.length_cons, List.length_nil] at hlen ⊢
  clear h h0 h1 h2 h3
  go_enter Tryd.func110, Tryd.ntmps110
  go_wp2_with (fail)
  refine wp_region_quiet_lit (by kernel_rfl) (by kernel_rfl) ?_
  (repeat (go_big_quiet_step ((refine Calls.quiet_of_same (HPre.out _)))))
  refine wpQuiet_nil ?_
  intro _ hw'
  obtain ⟨nq, hw''⟩ := hw'
  subst hw''
  have HR1 := hide ((RS.refl H.out).drewN nq)
  clear k1 k2 HPre
  generalize w.drewN nq = w1 at *
  go_wp2_with (fail)
  refine (HKind.out w1 HR1.out.rd).mono ?_
  rintro e w2 ⟨rfl, hrs2⟩
  have HR2 := hide (HR1.out.trans hrs2)
  have hlk := (run_lookup_sign (hrs2.rd.sg.below (below_new w2 (Obj.cells #[.int .i64 1, .int .i64 0, .int .i64 0, .int .i64 0] 74))) 1).1
  have k0 := cell_keep hrs2.rd.c0 (below_new w2 (Obj.cells #[.int .i64 1, .int .i64 0, .int .i64 0, .int .i64 0] 74))
  have hsg : (sgOf 1).getD sg0 = ⟨[116, 114, 117, 101], 0, false, false, 0⟩ := rfl
  rw [hsg] at hlk
  unfold sgV at hlk
  dsimp only at hlk
  have hb3 := below_new w2 (Obj.cells #[.int .i64 1, .int .i64 0, .int .i64 0, .int .i64 0] 74)
  have HR3 := hide (HR2.out.trans (RS.of_below HR2.out.rd hb3))
  have p0 := cell_top w2 #[.int .i64 1, .int .i64 0, .int .i64 0, .int .i64 0] 74 w2.heap.size 0 _ rfl rfl
  have p1 := cell_top w2 #[.int .i64 1, .int .i64 0, .int .i64 0, .int .i64 0] 74 w2.heap.size 1 _ rfl rfl
  have p2 := cell_top w2 #[.int .i64 1, .int .i64 0, .int .i64 0, .int .i64 0] 74 w2.heap.size 2 _ rfl rfl
  have p3 := cell_top w2 #[.int .i64 1, .int .i64 0, .int .i64 0, .int .i64 0] 74 w2.heap.size 3 _ rfl rfl
  clear hrs2 HKind hsg hb3
  go_wp2_with (fail)
  generalize w2.alloc (Obj.cells #[.int .i64 1, .int .i64 0, .int .i64 0, .int .i64 0] 74) = w6 at *
  have HG : Hid (∀ W, Below w6.heap.size w6 W → Calls Tryd.prog 107 #[.pointer (some ⟨rb, 3, none⟩), .agg #[.int .i64 1, .int .i64 0, .int .i64 0, .int .i64 0]] W fun e w' => e = .returned (.int .i64 out.length) ∧ ∃ a' c', RS w w' rb r base T (p + 4) a a' c' (out ++ [⟨1, 0, 0, 0⟩])) := hide fun W hb => (growR (HR3.out.rd.below hb) ⟨1, 0, 0, 0⟩ (by omega)).mono fun e w' ⟨h1, a', c', h2⟩ => ⟨h1, a', c', (HR3.out.trans (RS.of_below HR3.out.rd hb)).trans h2⟩
  go_region_law (refine step_callG rfl 107 [.tmp 44, .tmp 45] _ rfl Tryd.call107 ?_; refine (HG.out _ ?_).mono ?_; (focus (exact (by repeat (first | exact Below.refl _ _ | assumption | refine below_drewN ?_ _ | refine Below.drew ?_ | refine Below.alloc ?_ (by simp <;> omega) _ | refine below_trans ?_ (by assumption))))); rintro e w7 ⟨rfl, a7, c7, hrs7⟩; refine ⟨_, rfl, ?_⟩)
  all_goals
    have HR7 := hide hrs7
    clear hrs7 HG p0 p1 p2 p3
    go_wp2_with (fail)
    go_ret
    exact ⟨ret_eq (by omega), a7, c7, HR7.out⟩

/-- The nodes of a node of one part. -/
def gOne (K : Nat) (g : Nat → List Nd) (m : Nat) : List Nd := g m ++ [⟨K, (m + (g m).length - 1 : Nat), 0, 0⟩]

set_option maxRecDepth 100000 in
set_option maxHeartbeats 4000000 in
theorem node_one {T : List UInt8} {p q : Nat} {g : Nat → List Nd} (K : Nat) (hK : K = 3 ∨ K = 6) (h0 : T[p]? = some (oneB K)) (hN : NodeAt T (p + 1) q g) (hT : T.length ≤ 2000) : NodeAt T p q (gOne K g) := by
  intro w rb r base a c out h hlen
  have H := hide h
  have hal : p < T.length := (List.getElem?_eq_some_iff.1 h0).1
  have hlt : ((p : Nat) : Int) ≤ (T.length : Int) := by omega
  have i1 := fun W => run_from W T p (by omega)
  have hne : (40 == oneB K) = false := by rcases hK with rfl | rfl <;> decide
  have HPre : Hid (∀ W, Calls Tryd.prog 130 #[.string ⟨(T.drop p).toArray⟩, .string ⟨#[40]⟩] W fun e w' => e = .returned (.bool false) ∧ w' = W) := hide fun W => (hasPrefix_any ⟨(T.drop p).toArray⟩ ⟨[40].toArray⟩ W).mono fun e w' ⟨h1, h2⟩ => ⟨h1.trans (congrArg (fun z => Ending.returned (.bool z)) ((prefix_one T p (oneB K) 40 h0).trans hne)), h2⟩
  have HKind : Hid (∀ W, RD W rb r base T p a c out → Calls Tryd.prog 132 #[.pointer (some ⟨rb, 0, none⟩), .func (.func 133) #[] #[]] W fun e w' => e = .returned (.int .i64 K) ∧ RS W w' rb r base T (p + 1) a a c out) := hide fun W hW => kind_one hW K hK h0 hT
  have HN := hide hN
  have hfd1 : ∀ (a b c d e : Value) (w : World), (Instr.field 119 (.agg #[a, b, c, d, e]) 1).run Tryd.prog w = .ok b w := fun _ _ _ _ _ _ => rfl
  have hfd2 : ∀ (a b c d e : Value) (w : World), (Instr.field 119 (.agg #[a, b, c, d, e]) 2).run Tryd.prog w = .ok c w := fun _ _ _ _ _ _ => rfl
  have k1 := h.c1
  have k2 := h.c2
  have hgl : (gOne K g out.length).length = (g out.length).length + 1 := by simp [gOne]
  have hgo : out ++ gOne K g out.length = out ++ g out.length ++ [⟨K, (out.length + (g out.length).length - 1 : Nat), 0, 0⟩] := by simp [gOne]
  rw [hgl] at hlen
  rw [hgl, hgo]
  obtain ⟨st, tp, op, hsg⟩ : ∃ st tp op, (sgOf (K : Int)).getD sg0 = ⟨st, 1, false, tp, op⟩ := by rcases hK with rfl | rfl <;> exact ⟨_, _, _, rfl⟩
  have HSG := hide hsg
  clear h h0 hN hK hne hgl hgo hsg
  go_enter Tryd.func110, Tryd.ntmps110
  go_wp2_with (fail)
  refine wp_region_quiet_lit (by kernel_rfl) (by kernel_rfl) ?_
  (repeat (go_big_quiet_step ((refine Calls.quiet_of_same (HPre.out _)))))
  refine wpQuiet_nil ?_
  intro _ hw'
  obtain ⟨nq, hw''⟩ := hw'
  subst hw''
  have HR1 := hide ((RS.refl H.out).drewN nq)
  clear k1 k2 HPre
  generalize w.drewN nq = w1 at *
  go_wp2_with (fail)
  refine (HKind.out w1 HR1.out.rd).mono ?_
  rintro e w2 ⟨rfl, hrs2⟩
  have HR2 := hide (HR1.out.trans hrs2)
  have hlk := (run_lookup_sign (hrs2.rd.sg.below (below_new w2 (Obj.cells #[.int .i64 (K : Int), .int .i64 0, .int .i64 0, .int .i64 0] 74))) K).1
  have k0 := cell_keep hrs2.rd.c0 (below_new w2 (Obj.cells #[.int .i64 (K : Int), .int .i64 0, .int .i64 0, .int .i64 0] 74))
  rw [HSG.out] at hlk
  unfold sgV at hlk
  dsimp only at hlk
  clear hrs2 HKind
  go_wp2_with (fail)
  have hb3 := below_new w2 (Obj.cells #[.int .i64 (K : Int), .int .i64 0, .int .i64 0, .int .i64 0] 74)
  have HR3 := hide (HR2.out.trans (RS.of_below HR2.out.rd hb3))
  refine (HN.out _ _ _ _ _ _ _ HR3.out.rd (by omega)).mono ?_
  rintro e w5 ⟨rfl, a5, c5, hrs5⟩
  obtain ⟨f1, f2⟩ := HR2.out.rd.fresh w2.heap.size (Nat.le_refl _)
  have n0 := hrs5.gt.cell (cell_top w2 #[.int .i64 (K : Int), .int .i64 0, .int .i64 0, .int .i64 0] 74 w2.heap.size 0 _ rfl rfl) f2 f1
  have n1 := hrs5.gt.cell (cell_top w2 #[.int .i64 (K : Int), .int .i64 0, .int .i64 0, .int .i64 0] 74 w2.heap.size 1 _ rfl rfl) f2 f1
  have n2 := hrs5.gt.cell (cell_top w2 #[.int .i64 (K : Int), .int .i64 0, .int .i64 0, .int .i64 0] 74 w2.heap.size 2 _ rfl rfl) f2 f1
  have n3 := hrs5.gt.cell (cell_top w2 #[.int .i64 (K : Int), .int .i64 0, .int .i64 0, .int .i64 0] 74 w2.heap.size 3 _ rfl rfl) f2 f1
  have nf : w5.frozen? ⟨w2.heap.size, 1, none⟩ = false := (hrs5.gt.frozen (b := w2.heap.size) (o := 1) (by simp) f2 f1).trans (World.frozen?_alloc_new _ _ _ _)
  have f5 := row_ne_new hrs5.new (j := w2.heap.size) f1 (by simp)
  have HR5 := hide (HR3.out.trans hrs5)
  generalize hz : (out.length + (g out.length).length - 1 : Nat) = z at *
  obtain ⟨w6, hw6⟩ : ∃ w6, w6 = w5.setCell ⟨w2.heap.size, 1, none⟩ (.int .i64 (z : Int)) := ⟨_, rfl⟩
  have HR6 := hide (show RS w w6 rb r base T q a a5 c5 (out ++ g out.length) by rw [hw6]; exact HR5.out.far w2.heap.size 1 _ HR2.out.rd.hb HR2.out.gt.size f5)
  have p0 : w6.cell? ⟨w2.heap.size, 0, none⟩ = some (.int .i64 (K : Int)) := by rw [hw6]; exact cell_set_off (by decide) n0
  have p1 : w6.cell? ⟨w2.heap.size, 1, none⟩ = some (.int .i64 (z : Int)) := by rw [hw6]; exact cell_set_eq n1
  have p2 : w6.cell? ⟨w2.heap.size, 2, none⟩ = some (.int .i64 0) := by rw [hw6]; exact cell_set_off (by decide) n2
  have p3 : w6.cell? ⟨w2.heap.size, 3, none⟩ = some (.int .i64 0) := by rw [hw6]; exact cell_set_off (by decide) n3
  have hlk6 := (run_lookup_sign (HR6.out.rd.sg) K).1
  rw [HSG.out] at hlk6
  unfold sgV at hlk6
  dsimp only at hlk6
  have k06 := HR6.out.rd.c0
  have HZ := hide hz
  rw [hw6] at hlk6 k06
  clear hrs5 n0 n2 n3 k0 hlk HN hz
  go_wp2_with (fail)
  rw [← hw6]
  clear hw6 n1 nf hlk6 k06
  have HG : Hid (∀ W, Below w6.heap.size w6 W → Calls Tryd.prog 107 #[.pointer (some ⟨rb, 3, none⟩), .agg #[.int .i64 (K : Int), .int .i64 (z : Int), .int .i64 0, .int .i64 0]] W fun e w' => e = .returned (.int .i64 (out ++ g out.length).length) ∧ ∃ a' c', RS w w' rb r base T q a a' c' (out ++ g out.length ++ [⟨K, z, 0, 0⟩])) := hide fun W hb => (growR (HR6.out.rd.below hb) ⟨K, z, 0, 0⟩ (by simp; omega)).mono fun e w' ⟨h1, a', c', h2⟩ => ⟨h1, a', c', (HR6.out.trans (RS.of_below HR6.out.rd hb)).trans h2⟩
  go_region_law (refine step_callG rfl 107 [.tmp 44, .tmp 45] _ rfl Tryd.call107 ?_; refine (HG.out _ ?_).mono ?_; (focus (exact (by repeat (first | exact Below.refl _ _ | assumption | refine below_drewN ?_ _ | refine Below.drew ?_ | refine Below.alloc ?_ (by simp <;> omega) _ | refine below_trans ?_ (by assumption))))); rintro e w7 ⟨rfl, a7, c7, hrs7⟩; refine ⟨_, rfl, ?_⟩)
  all_goals
    have HR7 := hide hrs7
    clear hrs7 HG p0 p1 p2 p3
    go_wp2_with (fail)
    go_ret
    exact ⟨ret_eq (by simp), a7, c7, by rw [HZ.out]; exact HR7.out⟩
end Go.Proofs.YtpiacnnifdjlkaaDoor

/-
  What (reader).node makes of a printed formula's text: its nodes, each behind all that it is made of, nothing twice.
-/
namespace Go.Proofs.YtpiacnnifdjlkaaDoor
open Go.RowKit Go.Sort

/-- One step: g is what the parts come to. -/
def unS (x : Nd) (g : Nat → Nat → List Nd) : Nat → List Nd :=
  if x.k = 1 then fun _ => [⟨1, 0, 0, 0⟩]
  else if x.k = 2 then fun _ => [⟨2, 0, 0, x.n⟩]
  else if x.k = 3 ∨ x.k = 6 then gOne x.k.toNat (g x.a.toNat)
  else gTwo x.k.toNat (g x.a.toNat) (g x.b.toNat)

def unN (F : List Nd) : Nat → Nat → Nat → List Nd
  | 0, _ => fun _ => []
  | f + 1, i => unS (F.getD i nd0) (unN F f)

theorem unS_congr {x : Nd} {g g' : Nat → Nat → List Nd} (ha : 3 ≤ x.k → g x.a.toNat = g' x.a.toNat) (hb : x.k = 4 ∨ x.k = 5 ∨ x.k = 7 ∨ x.k = 8 → g x.b.toNat = g' x.b.toNat) (hk : 1 ≤ x.k ∧ x.k ≤ 8) : unS x g = unS x g' := by
  unfold unS
  by_cases h1 : x.k = 1
  · rw [if_pos h1, if_pos h1]
  by_cases h2 : x.k = 2
  · rw [if_neg h1, if_pos h2, if_neg h1, if_pos h2]
  rw [if_neg h1, if_neg h1, if_neg h2, if_neg h2, ha (by omega)]
  by_cases h3 : x.k = 3 ∨ x.k = 6
  · rw [if_pos h3, if_pos h3]
  rw [if_neg h3, if_neg h3, hb (by omega)]

theorem unN_fuel {F : List Nd} (hF : AllOk F) : ∀ i f, i < F.length → i < f → unN F f i = unN F (i + 1) i := by
  intro i
  induction i using Nat.strongRecOn with
  | ind i ih =>
    intro f hi hf
    obtain ⟨g, rfl⟩ : ∃ g, f = g + 1 := ⟨f - 1, by omega⟩
    obtain ⟨hk, ⟨a0, a1, _⟩, ⟨b0, b1, _⟩, _⟩ := node_ok (hF i hi)
    show unS (F.getD i nd0) (unN F g) = unS (F.getD i nd0) (unN F i)
    refine unS_congr (fun h3 => ?_) (fun h3 => ?_) hk
    · have := a1 h3
      rw [ih _ (by omega) g (by omega) (by omega), ih _ (by omega) i (by omega) (by omega)]
    · have := b1 h3
      rw [ih _ (by omega) g (by omega) (by omega), ih _ (by omega) i (by omega) (by omega)]

/-- The nodes of node i, the first one of number m. -/
def un (F : List Nd) (i : Nat) : Nat → List Nd := unN F (i + 1) i

theorem un_eq {F : List Nd} (hF : AllOk F) (i : Nat) (hi : i < F.length) : un F i = unS (F.getD i nd0) (un F) := by
  obtain ⟨hk, ⟨a0, a1, _⟩, ⟨b0, b1, _⟩, _⟩ := node_ok (hF i hi)
  show unS (F.getD i nd0) (unN F i) = _
  refine unS_congr (fun h3 => ?_) (fun h3 => ?_) hk
  · have := a1 h3
    rw [unN_fuel hF _ i (by omega) (by omega)]
    rfl
  · have := b1 h3
    rw [unN_fuel hF _ i (by omega) (by omega)]
    rfl

/-- A text goes on so from a place. -/
def Sub (T : List UInt8) (p : Nat) (s : List UInt8) : Prop := ∀ j, j < s.length → T[p + j]? = s[j]?

theorem Sub.head {T : List UInt8} {p : Nat} {b : UInt8} {s : List UInt8} (h : Sub T p (b :: s)) : T[p]? = some b ∧ Sub T (p + 1) s := by
  refine ⟨by simpa using h 0 (by simp), fun j hj => ?_⟩
  have := h (j + 1) (by simpa using hj)
  rw [List.getElem?_cons_succ] at this
  rw [← this, show p + 1 + j = p + (j + 1) by omega]

theorem Sub.app {T : List UInt8} {p : Nat} {s t : List UInt8} (h : Sub T p (s ++ t)) : Sub T p s ∧ Sub T (p + s.length) t := by
  refine ⟨fun j hj => ?_, fun j hj => ?_⟩
  · rw [h j (by simp; omega), List.getElem?_append_left hj]
  · have := h (s.length + j) (by simp; omega)
    rw [show p + s.length + j = p + (s.length + j) by omega, this, List.getElem?_append_right (by omega), Nat.add_sub_cancel_left]

theorem node_un {F : List Nd} (hF : AllOk F) {T : List UInt8} (hT : T.length ≤ 2000) : ∀ i, i < F.length → ∀ p, Sub T p (sh F i) → (∀ b, T[p + (sh F i).length]? = some b → digB b = false) → NodeAt T p (p + (sh F i).length) (un F i) := by
  intro i
  induction i using Nat.strongRecOn with
  | ind i ih =>
    intro hi p hs hn
    obtain ⟨hk, ⟨a0, a1, _⟩, ⟨b0, b1, _⟩, hxn⟩ := node_ok (hF i hi)
    rw [un_eq hF i hi]
    rw [sh_eq hF i hi] at hs hn ⊢
    generalize F.getD i nd0 = x at *
    unfold shS at hs hn ⊢
    unfold unS
    by_cases h1 : x.k = 1
    · rw [if_pos h1] at hs hn ⊢
      rw [if_pos h1]
      obtain ⟨t0, hs⟩ := hs.head
      obtain ⟨t1, hs⟩ := hs.head
      obtain ⟨t2, hs⟩ := hs.head
      obtain ⟨t3, hs⟩ := hs.head
      exact node_true t0 t1 t2 t3 hT
    rw [if_neg h1] at hs hn ⊢
    rw [if_neg h1]
    by_cases h2 : x.k = 2
    · rw [if_pos h2] at hs hn ⊢
      rw [if_pos h2]
      obtain ⟨t0, hs⟩ := hs.head
      obtain ⟨t1, hs⟩ := hs.head
      have hx := hxn h2
      have hd : (UInt8.ofNat (48 + x.n.toNat)).toNat = 48 + x.n.toNat := by
        have : x.n.toNat ≤ 2 := by omega
        simp [UInt8.toNat_ofNat]
        omega
      have := node_prop (T := T) (p := p) (UInt8.ofNat (48 + x.n.toNat)) (by rw [hd]; omega) t0 t1 (by simpa using hn) hT
      rw [hd] at this
      have e : ((48 + x.n.toNat : Nat) : Int) - 48 = x.n := by omega
      rw [e] at this
      exact this
    rw [if_neg h2] at hs hn ⊢
    rw [if_neg h2]
    have ha := a1 (by omega)
    by_cases h3 : x.k = 3
    · rw [if_pos h3] at hs hn ⊢
      rw [if_pos (Or.inl h3), h3]
      obtain ⟨t0, hs⟩ := hs.head
      have := ih x.a.toNat (by omega) (by omega) (p + 1) hs (fun b hb => hn b (by rw [List.length_cons, ← hb]; congr 1; omega))
      rw [show p + 1 + (sh F x.a.toNat).length = p + (33 :: sh F x.a.toNat).length by simp; omega] at this
      exact node_one 3 (Or.inl rfl) t0 this hT
    rw [if_neg h3] at hs hn ⊢
    by_cases h6 : x.k = 6
    · rw [if_pos h6] at hs hn ⊢
      rw [if_pos (Or.inr h6), h6]
      obtain ⟨t0, hs⟩ := hs.head
      have := ih x.a.toNat (by omega) (by omega) (p + 1) hs (fun b hb => hn b (by rw [List.length_cons, ← hb]; congr 1; omega))
      rw [show p + 1 + (sh F x.a.toNat).length = p + (88 :: sh F x.a.toNat).length by simp; omega] at this
      exact node_one 6 (Or.inr rfl) t0 this hT
    rw [if_neg h6] at hs hn ⊢
    rw [if_neg (by omega)]
    have hb := b1 (by omega)
    obtain ⟨t0, hs⟩ := hs.head
    obtain ⟨sa, hs⟩ := hs.app
    obtain ⟨t1, hs⟩ := hs.head
    obtain ⟨t2, hs⟩ := hs.head
    obtain ⟨t3, hs⟩ := hs.head
    obtain ⟨sb, hs⟩ := hs.app
    obtain ⟨t4, -⟩ := hs.head
    have n1 := ih x.a.toNat (by omega) (by omega) (p + 1) sa (fun b hb => by
      rw [t1] at hb
      injection hb with hb
      subst hb
      decide)
    have n2 := ih x.b.toNat (by omega) (by omega) _ sb (fun b hb => by
      rw [t4] at hb
      injection hb with hb
      subst hb
      decide)
    have hK : x.k.toNat = 4 ∨ x.k.toNat = 5 ∨ x.k.toNat = 7 ∨ x.k.toNat = 8 := by omega
    have e : ((x.k.toNat : Nat) : Int) = x.k := by omega
    have := node_two x.k.toNat hK t0 n1 t1 (by rw [e]; exact t2) t3 n2 t4 hT
    refine cast (congrArg (fun q => NodeAt T p q _) ?_) this
    simp
    omega
end Go.Proofs.YtpiacnnifdjlkaaDoor

/-
  What (reader).expect answers in any case: it gives up by a panic of a place where the text does not go on as it must.
-/
namespace Go.Proofs.YtpiacnnifdjlkaaDoor
open Go.RowKit Go.Sort

/-- A panic of a place. -/
def plc1 (q : Int) : List PanicEntry := [{ v := .iface 159 (.int .i64 q), recovered := false }]

/-- The reader has given up. -/
def Gave (rb : Nat) (a : Option Addr) (w : World) (e : Ending) (w' : World) : Prop := (∃ q, e = .panicked (plc1 q)) ∧ GT rb (rowOf a) w w'

set_option maxRecDepth 100000 in
set_option maxHeartbeats 4000000 in
theorem expect_any {w : World} {rb r base : Nat} {T : List UInt8} {at_ : Nat} {a : Option Addr} {c : Nat} {out : List Nd} (h : RD w rb r base T at_ a c out) (t : List UInt8) (hat : at_ ≤ T.length) (hT : T.length ≤ 2000) (ht : t.length ≤ 2000) :
    Calls Tryd.prog 157 #[.pointer (some ⟨rb, 0, none⟩), .string ⟨t.toArray⟩] w fun e w' => (e = .returned (.tuple #[]) ∧ Sub T at_ t ∧ at_ + t.length ≤ T.length ∧ RS w w' rb r base T (at_ + t.length) a a c out) ∨ Gave rb a w e w' := by
  have H := hide h
  clear h
  have hsz : (⟨t.toArray⟩ : ByteArray).size = t.length := by simp [ByteArray.size]
  have hsT : (⟨T.toArray⟩ : ByteArray).size = T.length := by simp [ByteArray.size]
  go_enter Tryd.func157, Tryd.ntmps157
  go_wp2_with (fail)
  go_loopw [7] (fun iv wr => ∃ j : Nat, j ≤ t.length ∧ at_ + j ≤ T.length ∧ iv = .int .i64 j ∧ Hid (∀ i, i < j → T[at_ + i]? = t[i]?) ∧ Hid (RS w wr rb r base T (at_ + j) a a c out)) (fun iv _ => t.length - (intOf iv).toNat)
  case atStart => exact ⟨0, Nat.zero_le _, hat, rfl, hide (fun i hi => absurd hi (Nat.not_lt_zero _)), hide (RS.refl H.out)⟩
  case round =>
    obtain ⟨j, hj, hatj, rfl, hso, hrs⟩ := hrel
    by_cases hlt : j < t.length
    · have k1 := hrs.out.rd.c1
      have k2 := hrs.out.rd.c2
      have k3 := hrs.out.rd.soft 2
      have HRS := hide hrs.out
      have HE := hide (show at_ + j + 1 = at_ + (j + 1) by omega)
      obtain ⟨b', hb2⟩ : ∃ b', t[j]? = some b' := ⟨_, List.getElem?_eq_getElem hlt⟩
      have HSO := hide hso.out
      clear hso hrs
      by_cases hal : at_ + j < T.length
      · obtain ⟨b, hb1⟩ : ∃ b, T[at_ + j]? = some b := ⟨_, List.getElem?_eq_getElem hal⟩
        have HB := hide (And.intro hb1 hb2)
        generalize hp : at_ + j = p at *
        have HP := hide hp
        clear hp
        have hd : ((p : Int) == (T.length : Int)) = false := by rw [beq_eq_false_iff_ne]; omega
        have i1 := fun W => run_byte W T p (p : Int) b rfl hb1
        have i2 := fun W => run_byte W t j (j : Int) b' rfl hb2
        clear hb1 hb2
        by_cases hbb : b = b'
        · subst hbb
          have bb : ((b.toNat : Int) != (b.toNat : Int)) = false := by simp
          go_wp2_with (fail)
          (refine wp_region_quiet_lit (by kernel_rfl) (by kernel_rfl) ?_; (repeat (go_big_quiet_step (fail))); refine wpQuiet_nil ?_; intro _ hw'; obtain ⟨nq, hw''⟩ := hw'; subst hw'')
          go_wp2_with (fail)
          refine ⟨⟨j + 1, by omega, by have := HP.out; omega, by go_num, hide (fun i hi => ?_), hide ?_⟩, by simp [intOf]; omega⟩
          · by_cases e : i = j
            · subst e
              rw [HP.out, HB.out.1, HB.out.2]
            · exact HSO.out i (by omega)
          · have := (HRS.out.drewN nq).move (p + 1)
            have e : ((p + 1 : Nat) : Int) = (p : Int) + 1 := by omega
            rw [e] at this
            rw [← HE.out]
            exact this
        · have bb : ((b.toNat : Int) != (b'.toNat : Int)) = true := by
            rw [bne_iff_ne]
            intro e
            exact hbb (UInt8.toNat_inj.1 (by omega))
          clear hbb
          go_wp2_with (fail)
          (refine wp_region_quiet_lit (by kernel_rfl) (by kernel_rfl) ?_; (repeat (go_big_quiet_step (fail))); refine wpQuiet_nil ?_; intro _ hw'; obtain ⟨nq, hw''⟩ := hw'; subst hw'')
          have k2 := (HRS.out.drewN nq).rd.c2
          have HG := hide ((HRS.out.drewN nq).gt)
          generalize wr.drewN nq = wq at *
          go_wp2_with (fail)
          exact ⟨rfl, Or.inr ⟨⟨_, rfl⟩, HG.out⟩⟩
      · have hpe : at_ + j = T.length := by omega
        have hd : ((T.length : Int) == (T.length : Int)) = true := by simp
        rw [hpe] at k2
        have HPE := hide hpe
        clear hpe hal hatj
        go_wp2_with (fail)
        (refine wp_region_quiet_lit (by kernel_rfl) (by kernel_rfl) ?_; (repeat (go_big_quiet_step (fail))); refine wpQuiet_nil ?_; intro _ hw'; obtain ⟨nq, hw''⟩ := hw'; subst hw'')
        have k2 := (HRS.out.drewN nq).rd.c2
        rw [HPE.out] at k2
        have HG := hide ((HRS.out.drewN nq).gt)
        generalize wr.drewN nq = wq at *
        go_wp2_with (fail)
        exact ⟨rfl, Or.inr ⟨⟨_, rfl⟩, HG.out⟩⟩
    · have hjt : t.length = j := by omega
      have HR := hide hrs.out
      have HSO := hide hso.out
      clear hrs hso
      go_wp2_with (fail)
      go_end0
      exact Or.inl ⟨rfl, fun i hi => HSO.out i (by omega), by omega, by rw [hjt]; exact HR.out⟩
end Go.Proofs.YtpiacnnifdjlkaaDoor

/-
  What (reader).number answers in any case.
-/
namespace Go.Proofs.YtpiacnnifdjlkaaDoor
open Go.RowKit Go.Sort

/-- What a number's digits come to, so far. -/
def NumI (T : List UInt8) (p q : Nat) (n : Int) : Prop := 0 ≤ n ∧ n ≤ 3 ∧ (n ≤ 2 → q = p + 1 ∧ ∃ d : UInt8, T[p]? = some d ∧ (d.toNat : Int) = 48 + n)

def atOf (rb : Nat) (w : World) : Nat := (intOf ((w.cell? ⟨rb, 2, none⟩).getD undef)).toNat

theorem RS.atOf {w w1 : World} {rb r base : Nat} {T : List UInt8} {at1 : Nat} {a a1 : Option Addr} {c1 : Nat} {o1 : List Nd} (h : RS w w1 rb r base T at1 a a1 c1 o1) : atOf rb w1 = at1 := by
  unfold Go.Proofs.YtpiacnnifdjlkaaDoor.atOf
  rw [h.rd.c2]
  simp [intOf]

theorem digB_iff {b : UInt8} (h : digB b = true) : 48 ≤ b.toNat ∧ b.toNat ≤ 57 := by
  unfold digB at h
  simpa using h

set_option maxRecDepth 100000 in
set_option maxHeartbeats 8000000 in
theorem number_any {w : World} {rb r base : Nat} {T : List UInt8} {at_ : Nat} {a : Option Addr} {c : Nat} {out : List Nd} (h : RD w rb r base T at_ a c out) (hat : at_ ≤ T.length) (hT : T.length ≤ 2000) :
    Calls Tryd.prog 134 #[.pointer (some ⟨rb, 0, none⟩)] w fun e w' => (∃ n q, e = .returned (.int .i64 n) ∧ at_ < q ∧ q ≤ T.length ∧ NumI T at_ q n ∧ RS w w' rb r base T q a a c out) ∨ Gave rb a w e w' := by
  have H := hide h
  have k2 := h.c2
  clear h
  go_enter Tryd.func134, Tryd.ntmps134
  go_wp2_with (fail)
  go_loopw [4] (fun nv wr => ∃ (q : Nat) (n : Int), nv = .int .i64 n ∧ at_ ≤ q ∧ q ≤ T.length ∧ ((q = at_ ∧ n = 0) ∨ (at_ < q ∧ NumI T at_ q n)) ∧ Hid (RS w wr rb r base T q a a c out)) (fun _ wr => T.length - atOf rb wr)
  case atStart => exact ⟨at_, 0, rfl, Nat.le_refl _, hat, Or.inl ⟨rfl, rfl⟩, hide (RS.refl H.out)⟩
  case round =>
    obtain ⟨q, n, rfl, hq1, hq2, hI, hrs⟩ := hrel
    have k1 := hrs.out.rd.c1
    have k2 := hrs.out.rd.c2
    have k3 := hrs.out.rd.soft 2
    have HRS := hide hrs.out
    clear hrs
    rcases hI with ⟨hqe, rfl⟩ | ⟨hql, hI⟩
    · subst hqe
      have hqq : ((q : Int) == (q : Int)) = true := by simp
      by_cases hlt : q < T.length
      · obtain ⟨d, hd⟩ : ∃ d, T[q]? = some d := ⟨_, List.getElem?_eq_getElem hlt⟩
        have i1 := fun W => run_byte W T q (q : Int) d rfl hd
        have hlt' : (q : Int) < (T.length : Int) := by omega
        have HD0 := hide hd
        by_cases hdg : digB d = true
        · have HD := hide (fun W => hdg ▸ isDigit_any d W)
          obtain ⟨hd1, hd2⟩ := digB_iff hdg
          have hdd : (48 : Int) ≤ (d.toNat : Int) ∧ (d.toNat : Int) ≤ 57 := by omega
          clear hd hdg hd1 hd2
          go_wp2_with (fail)
          refine wp_region_quiet_lit (by kernel_rfl) (by kernel_rfl) ?_
          (repeat (go_big_quiet_step ((refine Calls.quiet_of_same (HD.out _)))))
          refine wpQuiet_nil ?_
          intro _ hw'
          obtain ⟨nq, hw''⟩ := hw'
          subst hw''
          have HR := hide (HRS.out.drewN nq)
          have k1 := HR.out.rd.c1
          have k2 := HR.out.rd.c2
          have k3 := HR.out.rd.soft 2
          generalize wr.drewN nq = wq at *
          go_wp2_with (fail)
          go_region
          go_wp2_with (fail)
          have h2 := (HR.out.move (q + 1)).drew
          have e : ((q + 1 : Nat) : Int) = (q : Int) + 1 := by omega
          rw [e] at h2
          refine ⟨⟨q + 1, _, rfl, by omega, by omega, Or.inr ⟨by omega, by omega, by omega, fun hn => ⟨rfl, d, HD0.out, by omega⟩⟩, hide h2⟩, ?_⟩
          rw [h2.atOf, HRS.out.atOf]
          omega
        · have hdg : digB d = false := by simpa using hdg
          have HD := hide (fun W => hdg ▸ isDigit_any d W)
          clear hd hdg
          go_wp2_with (fail)
          refine wp_region_quiet_lit (by kernel_rfl) (by kernel_rfl) ?_
          (repeat (go_big_quiet_step ((refine Calls.quiet_of_same (HD.out _)))))
          refine wpQuiet_nil ?_
          intro _ hw'
          obtain ⟨nq, hw''⟩ := hw'
          subst hw''
          have HR := hide (HRS.out.drewN nq)
          have k1 := HR.out.rd.c1
          have k2 := HR.out.rd.c2
          have k3 := HR.out.rd.soft 2
          generalize wr.drewN nq = wq at *
          go_wp2_with (fail)
          exact ⟨rfl, Or.inr ⟨⟨_, rfl⟩, HR.out.gt⟩⟩
      · have hlt2 : decide ((q : Int) < (T.length : Int)) = false := by simp; omega
        have hlt3 : ((q : Int) < (T.length : Int)) = False := by simp; omega
        go_wp2_with (fail)
        refine wp_region_quiet_lit (by kernel_rfl) (by kernel_rfl) ?_
        (repeat (go_big_quiet_step (fail)))
        refine wpQuiet_nil ?_
        intro _ hw'
        obtain ⟨nq, hw''⟩ := hw'
        subst hw''
        have HR := hide (HRS.out.drewN nq)
        have k1 := HR.out.rd.c1
        have k2 := HR.out.rd.c2
        have k3 := HR.out.rd.soft 2
        generalize wr.drewN nq = wq at *
        go_wp2_with (fail)
        exact ⟨rfl, Or.inr ⟨⟨_, rfl⟩, HR.out.gt⟩⟩
    · have hqq : ((q : Int) == (at_ : Int)) = false := by rw [beq_eq_false_iff_ne]; omega
      have hgt : (at_ : Int) < (q : Int) := by omega
      have HI := hide hI
      by_cases hlt : q < T.length
      · obtain ⟨d, hd⟩ : ∃ d, T[q]? = some d := ⟨_, List.getElem?_eq_getElem hlt⟩
        have i1 := fun W => run_byte W T q (q : Int) d rfl hd
        have hlt' : (q : Int) < (T.length : Int) := by omega
        by_cases hdg : digB d = true
        · have HD := hide (fun W => hdg ▸ isDigit_any d W)
          obtain ⟨hd1, hd2⟩ := digB_iff hdg
          have hdd : (48 : Int) ≤ (d.toNat : Int) ∧ (d.toNat : Int) ≤ 57 := by omega
          clear hd hdg hd1 hd2
          by_cases hn0 : n = 0
          · subst hn0
            clear hI
            go_wp2_with (fail)
            refine wp_region_quiet_lit (by kernel_rfl) (by kernel_rfl) ?_
            (repeat (go_big_quiet_step ((refine Calls.quiet_of_same (HD.out _)))))
            refine wpQuiet_nil ?_
            intro _ hw'
            obtain ⟨nq, hw''⟩ := hw'
            subst hw''
            have HR := hide (HRS.out.drewN nq)
            have k1 := HR.out.rd.c1
            have k2 := HR.out.rd.c2
            have k3 := HR.out.rd.soft 2
            generalize wr.drewN nq = wq at *
            go_wp2_with (fail)
            go_ret
            exact Or.inl ⟨0, q, rfl, hql, hq2, HI.out, HR.out⟩
          · have bn : (n == 0) = false := by simpa using hn0
            obtain ⟨hn1, hn3, -⟩ := hI
            clear hn0
            go_wp2_with (fail)
            refine wp_region_quiet_lit (by kernel_rfl) (by kernel_rfl) ?_
            (repeat (go_big_quiet_step ((refine Calls.quiet_of_same (HD.out _)))))
            refine wpQuiet_nil ?_
            intro _ hw'
            obtain ⟨nq, hw''⟩ := hw'
            subst hw''
            have HR := hide (HRS.out.drewN nq)
            have k1 := HR.out.rd.c1
            have k2 := HR.out.rd.c2
            have k3 := HR.out.rd.soft 2
            generalize wr.drewN nq = wq at *
            go_wp2_with (fail)
            go_region
            go_wp2_with (fail)
            have h2 := (HR.out.move (q + 1)).drew
            have e : ((q + 1 : Nat) : Int) = (q : Int) + 1 := by omega
            rw [e] at h2
            have bn' : n ≠ 0 := by simpa using bn
            refine ⟨⟨q + 1, _, rfl, by omega, by omega, Or.inr ⟨by omega, by omega, by omega, fun hn => by omega⟩, hide h2⟩, ?_⟩
            rw [h2.atOf, HRS.out.atOf]
            omega
        · have hdg : digB d = false := by simpa using hdg
          have HD := hide (fun W => hdg ▸ isDigit_any d W)
          clear hd hdg hI
          go_wp2_with (fail)
          refine wp_region_quiet_lit (by kernel_rfl) (by kernel_rfl) ?_
          (repeat (go_big_quiet_step ((refine Calls.quiet_of_same (HD.out _)))))
          refine wpQuiet_nil ?_
          intro _ hw'
          obtain ⟨nq, hw''⟩ := hw'
          subst hw''
          have HR := hide (HRS.out.drewN nq)
          have k1 := HR.out.rd.c1
          have k2 := HR.out.rd.c2
          have k3 := HR.out.rd.soft 2
          generalize wr.drewN nq = wq at *
          go_wp2_with (fail)
          go_ret
          exact Or.inl ⟨n, q, rfl, hql, hq2, HI.out, HR.out⟩
      · have hlt2 : decide ((q : Int) < (T.length : Int)) = false := by simp; omega
        have hlt3 : ((q : Int) < (T.length : Int)) = False := by simp; omega
        clear hI
        go_wp2_with (fail)
        refine wp_region_quiet_lit (by kernel_rfl) (by kernel_rfl) ?_
        (repeat (go_big_quiet_step (fail)))
        refine wpQuiet_nil ?_
        intro _ hw'
        obtain ⟨nq, hw''⟩ := hw'
        subst hw''
        have HR := hide (HRS.out.drewN nq)
        have k1 := HR.out.rd.c1
        have k2 := HR.out.rd.c2
        have k3 := HR.out.rd.soft 2
        generalize wr.drewN nq = wq at *
        go_wp2_with (fail)
        go_ret
        exact Or.inl ⟨n, q, rfl, hql, hq2, HI.out, HR.out⟩
end Go.Proofs.YtpiacnnifdjlkaaDoor

namespace Go.Proofs.YtpiacnnifdjlkaaDoor
open Go.RowKit Go.Sort

set_option maxRecDepth 100000 in
set_option maxHeartbeats 8000000 in
theorem kind_any {w : World} {rb r base : Nat} {T : List UInt8} {at_ : Nat} {a : Option Addr} {c : Nat} {out : List Nd} (h : RD w rb r base T at_ a c out) {f : Nat} {p : Sg → Bool} (hf : FitsOk f p) (hat : at_ ≤ T.length) (hT : T.length ≤ 2000) :
    Calls Tryd.prog 132 #[.pointer (some ⟨rb, 0, none⟩), .func (.func f) #[] #[]] w fun e w' => (∃ K : Nat, e = .returned (.int .i64 K) ∧ 1 ≤ K ∧ K ≤ 8 ∧ p ((sgOf K).getD sg0) = true ∧ Sub T at_ ((sgOf K).getD sg0).text ∧ at_ + ((sgOf K).getD sg0).text.length ≤ T.length ∧ RS w w' rb r base T (at_ + ((sgOf K).getD sg0).text.length) a a c out) ∨ Gave rb a w e w' := by
  have H := hide h
  have HF := hide hf.2
  have hfe := hf.1
  have i1 := fun W => run_from W T at_ (by omega)
  have hlt : ((at_ : Nat) : Int) ≤ (T.length : Int) := by omega
  clear h hf
  go_enter Tryd.func132, Tryd.ntmps132
  go_wp2_with (fail)
  go_loopw [5] (fun kv wr => ∃ k : Nat, 1 ≤ k ∧ k ≤ 9 ∧ kv = .int .i64 k ∧ Hid (Below w.heap.size w wr)) (fun kv _ => 9 - (intOf kv).toNat)
  case atStart => exact ⟨1, by omega, by omega, rfl, hide (Below.refl _ _)⟩
  case round =>
    obtain ⟨k, hk1, hk2, rfl, hbw⟩ := hrel
    have hR := H.out.below hbw.out
    by_cases hk9 : k = 9
    · subst hk9
      have k2 := hR.c2
      have HBW := hide hbw.out
      clear hR hbw
      go_wp2_with (fail)
      exact ⟨rfl, Or.inr ⟨⟨_, rfl⟩, GT.of_below HBW.out⟩⟩
    obtain ⟨cc, ct, hct⟩ := sg_head k (by omega)
    have hlk := (run_lookup_sign hR.sg k).1
    have k0 := hR.c0
    have k1 := hR.c1
    have k2 := hR.c2
    have HLen := hide (sg_len k (by omega))
    generalize hsg : (sgOf (k : Int)).getD sg0 = s at *
    have HSg := hide hsg
    clear hsg
    obtain ⟨st, sp, sn, stp, so⟩ := s
    dsimp only at hct
    subst hct
    unfold sgV at hlk
    dsimp only at hlk
    have HFit := hide (HF.out ⟨cc :: ct, sp, sn, stp, so⟩)
    have i2 := fun W => run_first W cc ct
    have HPre : Hid (∀ W, Calls Tryd.prog 130 #[.string ⟨(T.drop at_).toArray⟩, .string ⟨[cc].toArray⟩] W fun e w' => e = .returned (.bool (Lib.hasPrefix (T.drop at_) [cc])) ∧ Below W.heap.size W w') := hide fun W => (hasPrefix_any ⟨(T.drop at_).toArray⟩ ⟨[cc].toArray⟩ W).mono fun e w' ⟨h1, h2⟩ => ⟨h1, by rw [h2]; exact Below.refl _ _⟩
    unfold sgV at HFit
    dsimp only at HFit
    generalize hq : p ⟨cc :: ct, sp, sn, stp, so⟩ = q at *
    have hk8 : (k : Int) ≤ 8 := by omega
    have HQ := hide hq
    generalize Lib.hasPrefix (T.drop at_) [cc] = cb at *
    clear hq HF
    go_wp2_with (fail)
    obtain ⟨W1, hW1⟩ : ∃ W1, W1 = wr.alloc (Obj.cells #[.string ⟨(cc :: ct).toArray⟩, .int .i64 sp, .bool sn, .bool stp, .int .i64 so] 119) := ⟨_, rfl⟩
    rw [← hW1]
    have hb1 : Below wr.heap.size wr W1 := by rw [hW1]; exact below_new _ _
    have hx1 : W1.heap[wr.heap.size]? = some (Obj.cells #[.string ⟨(cc :: ct).toArray⟩, .int .i64 sp, .bool sn, .bool stp, .int .i64 so] 119) := by rw [hW1]; exact heap_alloc_new _ _
    have j0 := cell_regrown (box_cell (i := 0) hx1 rfl)
    have j1 := cell_regrown (box_cell (i := 1) hx1 rfl)
    have j2 := cell_regrown (box_cell (i := 2) hx1 rfl)
    have j3 := cell_regrown (box_cell (i := 3) hx1 rfl)
    have j4 := cell_regrown (box_cell (i := 4) hx1 rfl)
    have l1 := cell_regrown (cell_keep k1 hb1)
    have l2 := cell_regrown (cell_keep k2 hb1)
    have l0 := cell_regrown (cell_keep k0 hb1)
    have HBW := hide (below_trans hbw.out hb1)
    have CF := hide (fun d os => Calls.regrown_of (HFit.out (grow (redrawn W1 d) os)))
    have CP := hide (fun d os => Calls.regrown_of (HPre.out (grow (redrawn W1 d) os)))
    clear hW1 hb1 hx1 k0 k1 k2 hlk HFit HPre hR hbw
    cases q with
    | false =>
      refine wp_region_quiet_below (by kernel_rfl) (by kernel_rfl) ?_
      (repeat (go_big_quiet_step (first | exact CF.out _ _ | exact CP.out _ _)))
      refine wpQuiet_nil ?_
      intro _ hw'
      obtain ⟨⟨dq, osq⟩, hw''⟩ := hw'
      subst hw''
      have HBq := hide (below_trans HBW.out (below_regrown W1 dq osq))
      have x0 := j0 dq osq
      dsimp only
      clear j0 j1 j2 j3 j4 l0 l1 l2 CF CP
      generalize grow (redrawn W1 dq) osq = wq at HBq x0 ⊢
      go_wp2
      go_roundw
      case rel => exact ⟨k + 1, by omega, by omega, by go_num, HBq⟩
      case measure => simp [intOf]; omega
    | true =>
      cases cb with
      | false =>
        refine wp_region_quiet_below (by kernel_rfl) (by kernel_rfl) ?_
        (repeat (go_big_quiet_step (first | exact CF.out _ _ | exact CP.out _ _)))
        refine wpQuiet_nil ?_
        intro _ hw'
        obtain ⟨⟨dq, osq⟩, hw''⟩ := hw'
        subst hw''
        have HBq := hide (below_trans HBW.out (below_regrown W1 dq osq))
        have x0 := j0 dq osq
        dsimp only
        clear j0 j1 j2 j3 j4 l0 l1 l2 CF CP
        generalize grow (redrawn W1 dq) osq = wq at HBq x0 ⊢
        go_wp2
        go_roundw
        case rel => exact ⟨k + 1, by omega, by omega, by go_num, HBq⟩
        case measure => simp [intOf]; omega
      | true =>
        refine wp_region_quiet_below (by kernel_rfl) (by kernel_rfl) ?_
        (repeat (go_big_quiet_step (first | exact CF.out _ _ | exact CP.out _ _)))
        refine wpQuiet_nil ?_
        intro _ hw'
        obtain ⟨⟨dq, osq⟩, hw''⟩ := hw'
        subst hw''
        have HBq := hide (below_trans HBW.out (below_regrown W1 dq osq))
        have x0 := j0 dq osq
        dsimp only
        clear j0 j1 j2 j3 j4 l0 l1 l2 CF CP
        generalize grow (redrawn W1 dq) osq = wq at HBq x0 ⊢
        have hE := hide (expect_any (H.out.below HBq.out) (cc :: ct) hat hT (Nat.le_trans HLen.out (by omega)))
        go_wp2_with (fail)
        refine hE.out.mono ?_
        rintro e w7 (⟨rfl, hsub, hle, hrs7⟩ | ⟨⟨pq, rfl⟩, hg⟩)
        · have HR7 := hide (And.intro hsub (And.intro hle hrs7))
          clear hsub hle hrs7 hE x0
          go_wp2_with (fail)
          go_ret
          refine Or.inl ⟨k, rfl, by omega, by omega, ?_, ?_, ?_, ?_⟩
          · rw [HSg.out]; exact HQ.out
          · rw [HSg.out]; exact HR7.out.1
          · rw [HSg.out]; exact HR7.out.2.1
          · rw [HSg.out]; exact RS.trans (RS.of_below H.out HBq.out) HR7.out.2.2
        · exact ⟨rfl, Or.inr ⟨⟨_, rfl⟩, GT.trans (GT.of_below HBq.out) hg (Or.inl rfl)⟩⟩
end Go.Proofs.YtpiacnnifdjlkaaDoor
