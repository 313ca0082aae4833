/-
  What formula.read and formula.Parse answer where all of a text is a formula.
-/
import Derived.Test.YtpiacnnifdjlkaaDoorGu
import Derived.Test.YtpiacnnifdjlkaaDoorGk
import Derived.Defers
import Derived.Recover
/-
  What is read prints as what was read: plain mathematics.
-/
namespace Go.Proofs.YtpiacnnifdjlkaaDoor

/-- A piece of a text. -/
def seg (T : List UInt8) (p q : Nat) : List UInt8 := (T.drop p).take (q - p)

theorem seg_split (T : List UInt8) {p r q : Nat} (h1 : p ≤ r) (h2 : r ≤ q) : seg T p q = seg T p r ++ seg T r q := by
  unfold seg
  have e : q - p = (r - p) + (q - r) := by omega
  have e2 : T.drop r = (T.drop p).drop (r - p) := by rw [List.drop_drop]; congr 1; omega
  rw [e, List.take_add, e2]

theorem seg_sub {T : List UInt8} {p : Nat} {s : List UInt8} (h : Sub T p s) : seg T p (p + s.length) = s := by
  unfold seg
  apply List.ext_getElem?
  intro j
  rw [Nat.add_sub_cancel_left, List.getElem?_take]
  by_cases hj : j < s.length
  · rw [if_pos hj, List.getElem?_drop, h j hj]
  · rw [if_neg hj, List.getElem?_eq_none (by omega)]

theorem seg_one {T : List UInt8} {p : Nat} {b : UInt8} (h : Sub T p [b]) : seg T p (p + 1) = [b] := seg_sub h

/-- Nodes that print as a piece of the text, wherever they stand among nodes that are right. -/
structure PPG (T : List UInt8) (p q m : Nat) (L : List Nd) : Prop where
  pos : 0 < L.length
  le : p + L.length ≤ q
  top : q ≤ T.length
  show_ : ∀ G, AllOk G → m + L.length ≤ G.length → (∀ d, d < L.length → G.getD (m + d) nd0 = L.getD d nd0) → sh G (m + L.length - 1) = seg T p q

theorem ppg_true {T : List UInt8} {p m : Nat} (h : Sub T p [116, 114, 117, 101]) (hl : p + 4 ≤ T.length) : PPG T p (p + 4) m [⟨1, 0, 0, 0⟩] := by
  refine ⟨by simp, by simp, hl, fun G hG hm hg => ?_⟩
  have g0 := hg 0 (by simp)
  rw [Nat.add_zero] at g0
  have g0 : G.getD m nd0 = ⟨1, 0, 0, 0⟩ := g0
  show sh G (m + 1 - 1) = _
  simp only [List.length_cons, List.length_nil] at hm
  rw [Nat.add_sub_cancel, sh_eq hG m (by omega), g0, show seg T p (p + 4) = [116, 114, 117, 101] from seg_sub h]
  rfl

theorem ppg_prop {T : List UInt8} {p q m : Nat} {n : Int} (h : Sub T p [112]) (hq : p + 1 < q) (hl : q ≤ T.length) (hn : NumI T (p + 1) q n) : PPG T p q m [⟨2, 0, 0, n⟩] := by
  refine ⟨by simp, by simp; omega, hl, fun G hG hm hg => ?_⟩
  have g0 := hg 0 (by simp)
  rw [Nat.add_zero] at g0
  have g0 : G.getD m nd0 = ⟨2, 0, 0, n⟩ := g0
  show sh G (m + 1 - 1) = _
  simp only [List.length_cons, List.length_nil] at hm
  have hok := (node_ok (hG m (by omega))).2.2.2
  rw [g0] at hok
  have hok := hok rfl
  dsimp only at hok
  obtain ⟨h0, h3, h2⟩ := hn
  obtain ⟨rfl, d, hd, hde⟩ := h2 hok.2
  rw [Nat.add_sub_cancel, sh_eq hG m (by omega), g0]
  have hs : Sub T p [112, d] := fun j hj => by
    have e : j = 0 ∨ j = 1 := by simp at hj; omega
    rcases e with rfl | rfl
    · exact h 0 (by simp)
    · simpa using hd
  rw [show seg T p (p + 1 + 1) = [112, d] from seg_sub hs]
  have ed : UInt8.ofNat (48 + n.toNat) = d := by
    apply UInt8.toNat_inj.1
    rw [UInt8.toNat_ofNat']
    omega
  simp [shS, ed]

theorem ppg_one {T : List UInt8} {p q m : Nat} {L : List Nd} (K : Nat) (hK : K = 3 ∨ K = 6) (h : Sub T p [oneB K]) (hL : PPG T (p + 1) q m L) : PPG T p q m (L ++ [⟨K, (m + L.length - 1 : Nat), 0, 0⟩]) := by
  obtain ⟨l0, l1, l2, l3⟩ := hL
  refine ⟨by simp, by simp; omega, l2, fun G hG hm hg => ?_⟩
  rw [List.length_append, List.length_cons, List.length_nil] at hm hg ⊢
  have g0 := hg L.length (by omega)
  have g0 : G.getD (m + L.length) nd0 = ⟨K, (m + L.length - 1 : Nat), 0, 0⟩ := by rw [g0]; simp [List.getD]
  have ih := l3 G hG (by omega) (fun d hd => by rw [hg d (by omega)]; simp [List.getD, List.getElem?_append, hd])
  rw [show m + (L.length + (0 + 1)) - 1 = m + L.length by omega, sh_eq hG _ (by omega), g0, seg_split T (show p ≤ p + 1 by omega) (show p + 1 ≤ q by omega), seg_one h, ← ih]
  rcases hK with rfl | rfl
  · simp [shS, oneB]
  · simp [shS, oneB]

theorem ppg_two {T : List UInt8} {p q1 q2 m : Nat} {L1 L2 : List Nd} (K : Nat) (hK : K = 4 ∨ K = 5 ∨ K = 7 ∨ K = 8) (h0 : Sub T p [40]) (h1 : PPG T (p + 1) q1 m L1) (h2 : Sub T q1 [32]) (h3 : Sub T (q1 + 1) [signB K]) (h4 : Sub T (q1 + 2) [32]) (h5 : PPG T (q1 + 3) q2 (m + L1.length) L2) (h6 : Sub T q2 [41]) (hl : q2 + 1 ≤ T.length) :
    PPG T p (q2 + 1) m (L1 ++ (L2 ++ [⟨K, (m + L1.length - 1 : Nat), (m + L1.length + L2.length - 1 : Nat), 0⟩])) := by
  obtain ⟨a0, a1, a2, a3⟩ := h1
  obtain ⟨b0, b1, b2, b3⟩ := h5
  have hlen : (L1 ++ (L2 ++ [(⟨K, (m + L1.length - 1 : Nat), (m + L1.length + L2.length - 1 : Nat), 0⟩ : Nd)])).length = L1.length + L2.length + 1 := by simp; omega
  refine ⟨by omega, by omega, hl, fun G hG hm hg => ?_⟩
  rw [hlen] at hm hg ⊢
  have g0 := hg (L1.length + L2.length) (by omega)
  have g0 : G.getD (m + (L1.length + L2.length)) nd0 = ⟨K, (m + L1.length - 1 : Nat), (m + L1.length + L2.length - 1 : Nat), 0⟩ := by rw [g0]; simp [List.getD]
  have ia := a3 G hG (by omega) (fun d hd => by rw [hg d (by omega)]; simp [List.getD, List.getElem?_append, hd])
  have ib := b3 G hG (by omega) (fun d hd => by rw [Nat.add_assoc, hg (L1.length + d) (by omega)]; simp [List.getD, List.getElem?_append, hd, show ¬ (L1.length + d < L1.length) by omega])
  rw [show m + (L1.length + L2.length + 1) - 1 = m + (L1.length + L2.length) by omega, sh_eq hG _ (by omega), g0]
  rw [seg_split T (show p ≤ p + 1 by omega) (show p + 1 ≤ q2 + 1 by omega), seg_split T (show p + 1 ≤ q1 by omega) (show q1 ≤ q2 + 1 by omega), seg_split T (show q1 ≤ q1 + 1 by omega) (show q1 + 1 ≤ q2 + 1 by omega), seg_split T (show q1 + 1 ≤ q1 + 2 by omega) (show q1 + 2 ≤ q2 + 1 by omega), seg_split T (show q1 + 2 ≤ q1 + 3 by omega) (show q1 + 3 ≤ q2 + 1 by omega), seg_split T (show q1 + 3 ≤ q2 by omega) (show q2 ≤ q2 + 1 by omega)]
  rw [seg_one h0, seg_one h2, show seg T (q1 + 1) (q1 + 2) = [signB K] from seg_one h3, show seg T (q1 + 2) (q1 + 3) = [32] from seg_one h4, seg_one h6, ← ia, ← ib]
  rcases hK with rfl | rfl | rfl | rfl <;> simp [shS]
end Go.Proofs.YtpiacnnifdjlkaaDoor

/-
  What (reader).pair answers in any case.
-/
namespace Go.Proofs.YtpiacnnifdjlkaaDoor
open Go.RowKit Go.Sort

/-- What reading a node comes to: nodes that print as what was read, or a panic of a place. -/
def Read (rb r base : Nat) (T : List UInt8) (p : Nat) (a : Option Addr) (out : List Nd) (w : World) (e : Ending) (w' : World) : Prop :=
  (∃ L q a' c', e = .returned (.int .i64 (out.length + L.length - 1 : Nat)) ∧ PPG T p q out.length L ∧ RS w w' rb r base T q a a' c' (out ++ L)) ∨ Gave rb a w e w'

def NodeAny (T : List UInt8) (p : Nat) : Prop := ∀ (w : World) (rb r base : Nat) (a : Option Addr) (c : Nat) (out : List Nd), RD w rb r base T p a c out → p ≤ T.length → out.length + (T.length - p) ≤ 100000 →
  Calls Tryd.prog 110 #[.pointer (some ⟨rb, 0, none⟩)] w fun e w' => Read rb r base T p a out w e w'

theorem gave_after {rb r base : Nat} {T : List UInt8} {q : Nat} {a a1 : Option Addr} {c1 : Nat} {o1 : List Nd} {w w1 w2 : World} {e : Ending} (h : RS w w1 rb r base T q a a1 c1 o1) (k : Gave rb a1 w1 e w2) : Gave rb a w e w2 :=
  ⟨k.1, GT.trans h.gt k.2 h.new⟩

theorem two_of {K : Nat} (h1 : 1 ≤ K) (h8 : K ≤ 8) (h : (((sgOf K).getD sg0).parts == 2) = true) : (K = 4 ∨ K = 5 ∨ K = 7 ∨ K = 8) ∧ ((sgOf K).getD sg0).text = [signB K] := by
  obtain rfl | rfl | rfl | rfl | rfl | rfl | rfl | rfl : K = 1 ∨ K = 2 ∨ K = 3 ∨ K = 4 ∨ K = 5 ∨ K = 6 ∨ K = 7 ∨ K = 8 := by omega
  all_goals (first | (exact absurd h (by decide)) | (exact ⟨by omega, rfl⟩))

set_option maxRecDepth 100000 in
set_option maxHeartbeats 8000000 in
theorem pair_any {T : List UInt8} {p : Nat} (hT : T.length ≤ 2000) (hI : ∀ p', p < p' → NodeAny T p') {w : World} {rb r base : Nat} {a : Option Addr} {c : Nat} {out : List Nd} (h : RD w rb r base T p a c out) (hp : p ≤ T.length) (hlen : out.length + (T.length - p) ≤ 100000) :
    Calls Tryd.prog 131 #[.pointer (some ⟨rb, 0, none⟩)] w fun e w' => Read rb r base T p a out w e w' := by
  have H := hide h
  have HI := hide hI
  have HE := hide (fun W a c o q b (hW : RD W rb r base T q a c o) (hq : q ≤ T.length) => expect_any hW [b] hq hT (by simp))
  have HK := hide (fun W a c o q (hW : RD W rb r base T q a c o) (hq : q ≤ T.length) => kind_any hW fits_pair hq hT)
  clear h hI
  go_enter Tryd.func131, Tryd.ntmps131
  go_wp2_with (fail)
  refine (HE.out _ _ _ _ _ 40 H.out hp).mono ?_
  rintro e w1 (⟨rfl, hs1, hl1, hr1⟩ | hg)
  case inr => obtain ⟨⟨pq, rfl⟩, hg⟩ := hg; exact ⟨rfl, Or.inr ⟨⟨_, rfl⟩, hg⟩⟩
  have hl1 : p + 1 ≤ T.length := hl1
  have HR1 : Hid (RS w w1 rb r base T (p + 1) a a c out) := hide hr1
  have HS1 := hide hs1
  clear hr1 hs1
  go_wp2_with (fail)
  refine (HI.out (p + 1) (by omega) w1 rb r base a c out HR1.out.rd hl1 (by omega)).mono ?_
  rintro e w2 (⟨L1, q1, a2, c2, rfl, hp1, hr2⟩ | hg)
  case inr => obtain ⟨⟨pq, rfl⟩, hgg⟩ := gave_after HR1.out hg; exact ⟨rfl, Or.inr ⟨⟨_, rfl⟩, hgg⟩⟩
  have HR2 := hide (HR1.out.trans hr2)
  have hq1 := hp1.top
  have hqp := hp1.le
  have hL1 := hp1.pos
  have HP1 := hide hp1
  clear hr2 hp1
  go_wp2_with (fail)
  refine (HE.out _ _ _ _ _ 32 HR2.out.rd hq1).mono ?_
  rintro e w3 (⟨rfl, hs3, hl3, hr3⟩ | hg)
  case inr => obtain ⟨⟨pq, rfl⟩, hgg⟩ := gave_after HR2.out hg; exact ⟨rfl, Or.inr ⟨⟨_, rfl⟩, hgg⟩⟩
  have hl3 : q1 + 1 ≤ T.length := hl3
  have HR3 : Hid (RS w w3 rb r base T (q1 + 1) a a2 c2 (out ++ L1)) := hide (HR2.out.trans hr3)
  have HS3 := hide hs3
  clear hr3 hs3
  go_wp2_with (fail)
  refine (HK.out _ _ _ _ _ HR3.out.rd hl3).mono ?_
  rintro e w4 (⟨K, rfl, hK1, hK8, hKp, hs4, hl4, hr4⟩ | hg)
  case inr => obtain ⟨⟨pq, rfl⟩, hgg⟩ := gave_after HR3.out hg; exact ⟨rfl, Or.inr ⟨⟨_, rfl⟩, hgg⟩⟩
  obtain ⟨hK2, htx⟩ := two_of hK1 hK8 hKp
  rw [htx] at hs4 hl4 hr4
  have hl4 : q1 + 2 ≤ T.length := hl4
  have HR4 : Hid (RS w w4 rb r base T (q1 + 2) a a2 c2 (out ++ L1)) := hide (HR3.out.trans hr4)
  have HS4 := hide hs4
  have HK2 := hide hK2
  clear hr4 hs4 hK1 hK8 hKp htx HK hK2
  go_wp2_with (fail)
  refine (HE.out _ _ _ _ _ 32 HR4.out.rd hl4).mono ?_
  rintro e w5 (⟨rfl, hs5, hl5, hr5⟩ | hg)
  case inr => obtain ⟨⟨pq, rfl⟩, hgg⟩ := gave_after HR4.out hg; exact ⟨rfl, Or.inr ⟨⟨_, rfl⟩, hgg⟩⟩
  have hl5 : q1 + 3 ≤ T.length := hl5
  have HR5 : Hid (RS w w5 rb r base T (q1 + 3) a a2 c2 (out ++ L1)) := hide (HR4.out.trans hr5)
  have HS5 := hide hs5
  clear hr5 hs5
  go_wp2_with (fail)
  have hlo : (out ++ L1).length = out.length + L1.length := List.length_append
  refine (HI.out (q1 + 3) (by omega) w5 rb r base a2 c2 (out ++ L1) HR5.out.rd hl5 (by rw [hlo]; omega)).mono ?_
  unfold Read
  rw [hlo]
  rintro e w6 (⟨L2, q2, a6, c6, rfl, hp2, hr6⟩ | hg)
  case inr => obtain ⟨⟨pq, rfl⟩, hgg⟩ := gave_after HR5.out hg; exact ⟨rfl, Or.inr ⟨⟨_, rfl⟩, hgg⟩⟩
  have HR6 := hide (HR5.out.trans hr6)
  have hq2 := hp2.top
  have hqp2 := hp2.le
  have hL2 := hp2.pos
  have HP2 := hide hp2
  clear hr6 hp2 hlo
  go_wp2_with (fail)
  refine (HE.out _ _ _ _ _ 41 HR6.out.rd hq2).mono ?_
  rintro e w7 (⟨rfl, hs7, hl7, hr7⟩ | hg)
  case inr => obtain ⟨⟨pq, rfl⟩, hgg⟩ := gave_after HR6.out hg; exact ⟨rfl, Or.inr ⟨⟨_, rfl⟩, hgg⟩⟩
  have hl7 : q2 + 1 ≤ T.length := hl7
  have HR7 : Hid (RS w w7 rb r base T (q2 + 1) a a6 c6 (out ++ L1 ++ L2)) := hide (HR6.out.trans hr7)
  have HS7 := hide hs7
  clear hr7 hs7 HE
  have HG := hide (growR HR7.out.rd ⟨K, (out.length + L1.length - 1 : Nat), (out.length + L1.length + L2.length - 1 : Nat), 0⟩ (by simp; omega))
  go_wp2_with (fail)
  refine HG.out.mono ?_
  rintro e w8 ⟨rfl, a8, c8, hr8⟩
  have HR8 := hide (HR7.out.trans hr8)
  clear hr8 HG
  go_wp2_with (fail)
  go_ret
  refine Or.inl ⟨L1 ++ (L2 ++ [⟨K, (out.length + L1.length - 1 : Nat), (out.length + L1.length + L2.length - 1 : Nat), 0⟩]), q2 + 1, a8, c8, ?_, ppg_two K HK2.out HS1.out HP1.out HS3.out HS4.out HS5.out HP2.out HS7.out hl7, ?_⟩
  · refine ret_eq ?_
    simp <;> omega
  · have := HR8.out
    rw [List.append_assoc, List.append_assoc] at this
    exact this
end Go.Proofs.YtpiacnnifdjlkaaDoor

/-
  What (reader).node answers in any case.
-/
namespace Go.Proofs.YtpiacnnifdjlkaaDoor
open Go.RowKit Go.Sort

theorem one_of {K : Nat} (h1 : 1 ≤ K) (h8 : K ≤ 8) (h : decide (((sgOf K).getD sg0).parts < 2) = true) : (K = 1 ∧ ((sgOf K).getD sg0).text = [116, 114, 117, 101]) ∨ (K = 2 ∧ ((sgOf K).getD sg0).text = [112]) ∨ ((K = 3 ∨ K = 6) ∧ ((sgOf K).getD sg0).text = [oneB K]) := by
  obtain rfl | rfl | rfl | rfl | rfl | rfl | rfl | rfl : K = 1 ∨ K = 2 ∨ K = 3 ∨ K = 4 ∨ K = 5 ∨ K = 6 ∨ K = 7 ∨ K = 8 := by omega
  all_goals (first | (exact absurd h (by decide)) | (exact Or.inl ⟨rfl, rfl⟩) | (exact Or.inr (Or.inl ⟨rfl, rfl⟩)) | (exact Or.inr (Or.inr ⟨by omega, rfl⟩)))

set_option maxRecDepth 100000 in
set_option maxHeartbeats 8000000 in
theorem node_step {T : List UInt8} {p : Nat} (hT : T.length ≤ 2000) (hI : ∀ p', p < p' → NodeAny T p') : NodeAny T p := by
  intro w rb r base a c out h hp hlen
  have H := hide h
  have HI := hide hI
  have HPair := hide (fun W (hW : RD W rb r base T p a c out) => pair_any hT hI hW hp hlen)
  have HKind := hide (fun W (hW : RD W rb r base T p a c out) => kind_any hW fits_node hp hT)
  have hlt : ((p : Nat) : Int) ≤ (T.length : Int) := by omega
  have i1 := fun W => run_from W T p hp
  have HPre : Hid (∀ W, Calls Tryd.prog 130 #[.string ⟨(T.drop p).toArray⟩, .string ⟨#[40]⟩] W fun e w' => e = .returned (.bool (Lib.hasPrefix (T.drop p) [40])) ∧ w' = W) := hide fun W => hasPrefix_any ⟨(T.drop p).toArray⟩ ⟨[40].toArray⟩ W
  have hfd1 : ∀ (a b c d e : Value) (w : World), (Instr.field 119 (.agg #[a, b, c, d, e]) 1).run Tryd.prog w = .ok b w := fun _ _ _ _ _ _ => rfl
  have hfd2 : ∀ (a b c d e : Value) (w : World), (Instr.field 119 (.agg #[a, b, c, d, e]) 2).run Tryd.prog w = .ok c w := fun _ _ _ _ _ _ => rfl
  have k1 := h.c1
  have k2 := h.c2
  generalize Lib.hasPrefix (T.drop p) [40] = hb at *
  clear h hI
  cases hb with
  | true =>
    clear HKind HI hfd1 hfd2
    go_enter Tryd.func110, Tryd.ntmps110
    go_wp2_with (fail)
    refine wp_region_quiet_lit (by kernel_rfl) (by kernel_rfl) ?_
    (repeat (go_big_quiet_step ((refine Calls.quiet_of_same (HPre.out _)))))
    refine wpQuiet_nil ?_
    intro _ hw'
    obtain ⟨nq, hw''⟩ := hw'
    subst hw''
    have HR1 := hide ((RS.refl H.out).drewN nq)
    clear k1 k2 HPre
    generalize w.drewN nq = w1 at *
    go_wp2_with (fail)
    refine (HPair.out w1 HR1.out.rd).mono ?_
    rintro e w2 (⟨L, q, a2, c2, rfl, hpp, hr2⟩ | hg)
    case inr => obtain ⟨⟨pq, rfl⟩, hgg⟩ := gave_after HR1.out hg; exact ⟨rfl, Or.inr ⟨⟨_, rfl⟩, hgg⟩⟩
    have HR2 := hide (And.intro hpp (HR1.out.trans hr2))
    clear hpp hr2 HPair
    go_wp2_with (fail)
    go_ret
    exact Or.inl ⟨L, q, a2, c2, rfl, HR2.out.1, HR2.out.2⟩
  | false =>
    clear HPair
    go_enter Tryd.func110, Tryd.ntmps110
    go_wp2_with (fail)
    refine wp_region_quiet_lit (by kernel_rfl) (by kernel_rfl) ?_
    (repeat (go_big_quiet_step ((refine Calls.quiet_of_same (HPre.out _)))))
    refine wpQuiet_nil ?_
    intro _ hw'
    obtain ⟨nq, hw''⟩ := hw'
    subst hw''
    have HR1 := hide ((RS.refl H.out).drewN nq)
    clear k1 k2 HPre
    generalize w.drewN nq = w1 at *
    go_wp2_with (fail)
    refine (HKind.out w1 HR1.out.rd).mono ?_
    rintro e w2 (⟨K, rfl, hK1, hK8, hKp, hs2, hl2, hr2⟩ | hg)
    case inr => obtain ⟨⟨pq, rfl⟩, hgg⟩ := gave_after HR1.out hg; exact ⟨rfl, Or.inr ⟨⟨_, rfl⟩, hgg⟩⟩
    have hlk := (run_lookup_sign (hr2.rd.sg.below (below_new w2 (Obj.cells #[.int .i64 (K : Int), .int .i64 0, .int .i64 0, .int .i64 0] 74))) K).1
    have k0 := cell_keep hr2.rd.c0 (below_new w2 (Obj.cells #[.int .i64 (K : Int), .int .i64 0, .int .i64 0, .int .i64 0] 74))
    have hb3 := below_new w2 (Obj.cells #[.int .i64 (K : Int), .int .i64 0, .int .i64 0, .int .i64 0] 74)
    have HR2 := hide (HR1.out.trans hr2)
    have HR3 := hide (HR2.out.trans (RS.of_below HR2.out.rd hb3))
    obtain ⟨f1, f2⟩ := HR2.out.rd.fresh w2.heap.size (Nat.le_refl _)
    have hbb := HR2.out.rd.hb
    have hww := HR2.out.gt.size
    clear hr2 HKind hb3
    rcases one_of hK1 hK8 hKp with ⟨rfl, htx⟩ | ⟨rfl, htx⟩ | ⟨hK3, htx⟩
    · rw [htx] at hs2 hl2 HR2 HR3
      have hl2 : p + 4 ≤ T.length := hl2
      have HR3 : Hid (RS w _ rb r base T (p + 4) a a c out) := HR3
      have HP := hide (ppg_true (m := out.length) hs2 hl2)
      have hsg : (sgOf ((1 : Nat) : Int)).getD sg0 = ⟨[116, 114, 117, 101], 0, false, false, 0⟩ := rfl
      rw [hsg] at hlk
      unfold sgV at hlk
      dsimp only at hlk
      have p0 := cell_top w2 #[.int .i64 ((1 : Nat) : Int), .int .i64 0, .int .i64 0, .int .i64 0] 74 w2.heap.size 0 _ rfl rfl
      have p1 := cell_top w2 #[.int .i64 ((1 : Nat) : Int), .int .i64 0, .int .i64 0, .int .i64 0] 74 w2.heap.size 1 _ rfl rfl
      have p2 := cell_top w2 #[.int .i64 ((1 : Nat) : Int), .int .i64 0, .int .i64 0, .int .i64 0] 74 w2.heap.size 2 _ rfl rfl
      have p3 := cell_top w2 #[.int .i64 ((1 : Nat) : Int), .int .i64 0, .int .i64 0, .int .i64 0] 74 w2.heap.size 3 _ rfl rfl
      clear hs2 HR2 hsg HI hK1 hK8 hKp htx
      have e1 : ((1 : Nat) : Int) = 1 := rfl
      rw [e1] at hlk k0 p0 p1 p2 p3 HR3
      clear e1
      go_wp2_with (fail)
      generalize w2.alloc (Obj.cells #[.int .i64 1, .int .i64 0, .int .i64 0, .int .i64 0] 74) = w6 at *
      have HG : Hid (∀ W, Below w6.heap.size w6 W → Calls Tryd.prog 107 #[.pointer (some ⟨rb, 3, none⟩), .agg #[.int .i64 1, .int .i64 0, .int .i64 0, .int .i64 0]] W fun e w' => e = .returned (.int .i64 (out).length) ∧ ∃ a' c', RS w w' rb r base T (p + 4) a a' c' (out ++ [⟨1, 0, 0, 0⟩])) := hide fun W hb => (growR (HR3.out.rd.below hb) ⟨1, 0, 0, 0⟩ (by first | omega | (simp <;> omega))).mono fun e w' ⟨h1, a', c', h2⟩ => ⟨h1, a', c', (HR3.out.trans (RS.of_below HR3.out.rd hb)).trans h2⟩
      go_region_law (refine step_callG rfl 107 [.tmp 44, .tmp 45] _ rfl Tryd.call107 ?_; refine (HG.out _ ?_).mono ?_; (focus (exact (by repeat (first | exact Below.refl _ _ | assumption | refine below_drewN ?_ _ | refine Below.drew ?_ | refine Below.alloc ?_ (by simp <;> omega) _ | refine below_trans ?_ (by assumption))))); rintro e w7 ⟨rfl, a7, c7, hrs7⟩; refine ⟨_, rfl, ?_⟩)
      all_goals
        have HR7 := hide hrs7
        clear hrs7 HG p0 p1 p2 p3
        go_wp2_with (fail)
        go_ret
        refine Or.inl ⟨[⟨1, 0, 0, 0⟩], (p + 4), a7, c7, ret_eq (by simp), HP.out, ?_⟩
        first | exact HR7.out | (have := HR7.out; rw [List.append_assoc] at this; exact this)
    · rw [htx] at hs2 hl2 HR2 HR3
      have hl2 : p + 1 ≤ T.length := hl2
      have HR2 : Hid (RS w w2 rb r base T (p + 1) a a c out) := HR2
      have HR3 : Hid (RS w _ rb r base T (p + 1) a a c out) := HR3
      have HS2 := hide hs2
      have hsg : (sgOf ((2 : Nat) : Int)).getD sg0 = ⟨[112], 0, true, false, 0⟩ := rfl
      rw [hsg] at hlk
      unfold sgV at hlk
      dsimp only at hlk
      have HNum := hide (number_any HR3.out.rd hl2 hT)
      have e1 : ((2 : Nat) : Int) = 2 := rfl
      rw [e1] at hlk k0 HR3 HNum
      clear hs2 hsg HI hK1 hK8 hKp htx e1
      go_wp2_with (fail)
      refine HNum.out.mono ?_
      rintro e w5 (⟨n, q, rfl, hq1, hq2, hn, hrs5⟩ | hg)
      case inr => obtain ⟨⟨pq, rfl⟩, hgg⟩ := gave_after HR3.out hg; exact ⟨rfl, Or.inr ⟨⟨_, rfl⟩, hgg⟩⟩
      have HP := hide (ppg_prop (m := out.length) HS2.out hq1 hq2 hn)
      have n0 := hrs5.gt.cell (cell_top w2 #[.int .i64 2, .int .i64 0, .int .i64 0, .int .i64 0] 74 w2.heap.size 0 _ rfl rfl) f2 f1
      have n1 := hrs5.gt.cell (cell_top w2 #[.int .i64 2, .int .i64 0, .int .i64 0, .int .i64 0] 74 w2.heap.size 1 _ rfl rfl) f2 f1
      have n2 := hrs5.gt.cell (cell_top w2 #[.int .i64 2, .int .i64 0, .int .i64 0, .int .i64 0] 74 w2.heap.size 2 _ rfl rfl) f2 f1
      have n3 := hrs5.gt.cell (cell_top w2 #[.int .i64 2, .int .i64 0, .int .i64 0, .int .i64 0] 74 w2.heap.size 3 _ rfl rfl) f2 f1
      have nf : w5.frozen? ⟨w2.heap.size, 3, none⟩ = false := (hrs5.gt.frozen (b := w2.heap.size) (o := 3) (by simp) f2 f1).trans (World.frozen?_alloc_new _ _ _ _)
      have HR5 := hide (HR3.out.trans hrs5)
      obtain ⟨w6, hw6⟩ : ∃ w6, w6 = w5.setCell ⟨w2.heap.size, 3, none⟩ (.int .i64 n) := ⟨_, rfl⟩
      have HR6 := hide (show RS w w6 rb r base T q a a c out by rw [hw6]; exact HR5.out.far w2.heap.size 3 _ hbb hww f1)
      have p0 : w6.cell? ⟨w2.heap.size, 0, none⟩ = some (.int .i64 2) := by rw [hw6]; exact cell_set_off (by decide) n0
      have p1 : w6.cell? ⟨w2.heap.size, 1, none⟩ = some (.int .i64 0) := by rw [hw6]; exact cell_set_off (by decide) n1
      have p2 : w6.cell? ⟨w2.heap.size, 2, none⟩ = some (.int .i64 0) := by rw [hw6]; exact cell_set_off (by decide) n2
      have p3 : w6.cell? ⟨w2.heap.size, 3, none⟩ = some (.int .i64 n) := by rw [hw6]; exact cell_set_eq n3
      clear hrs5 n0 n1 n2 k0 hlk HNum hn
      go_wp2_with (fail)
      rw [← hw6]
      clear hw6 n3 nf
      have HG : Hid (∀ W, Below w6.heap.size w6 W → Calls Tryd.prog 107 #[.pointer (some ⟨rb, 3, none⟩), .agg #[.int .i64 2, .int .i64 0, .int .i64 0, .int .i64 n]] W fun e w' => e = .returned (.int .i64 (out).length) ∧ ∃ a' c', RS w w' rb r base T q a a' c' (out ++ [⟨2, 0, 0, n⟩])) := hide fun W hb => (growR (HR6.out.rd.below hb) ⟨2, 0, 0, n⟩ (by first | omega | (simp <;> omega))).mono fun e w' ⟨h1, a', c', h2⟩ => ⟨h1, a', c', (HR6.out.trans (RS.of_below HR6.out.rd hb)).trans h2⟩
      go_region_law (refine step_callG rfl 107 [.tmp 44, .tmp 45] _ rfl Tryd.call107 ?_; refine (HG.out _ ?_).mono ?_; (focus (exact (by repeat (first | exact Below.refl _ _ | assumption | refine below_drewN ?_ _ | refine Below.drew ?_ | refine Below.alloc ?_ (by simp <;> omega) _ | refine below_trans ?_ (by assumption))))); rintro e w7 ⟨rfl, a7, c7, hrs7⟩; refine ⟨_, rfl, ?_⟩)
      all_goals
        have HR7 := hide hrs7
        clear hrs7 HG p0 p1 p2 p3
        go_wp2_with (fail)
        go_ret
        refine Or.inl ⟨[⟨2, 0, 0, n⟩], q, a7, c7, ret_eq (by simp), HP.out, ?_⟩
        first | exact HR7.out | (have := HR7.out; rw [List.append_assoc] at this; exact this)
    · rw [htx] at hs2 hl2 HR2 HR3
      have hl2 : p + 1 ≤ T.length := hl2
      have HR2 : Hid (RS w w2 rb r base T (p + 1) a a c out) := HR2
      have HR3 : Hid (RS w _ rb r base T (p + 1) a a c out) := HR3
      have HS2 := hide hs2
      have HK3 := hide hK3
      obtain ⟨st, tp, op, hsg⟩ : ∃ st tp op, (sgOf (K : Int)).getD sg0 = ⟨st, 1, false, tp, op⟩ := by rcases hK3 with rfl | rfl <;> exact ⟨_, _, _, rfl⟩
      rw [hsg] at hlk
      unfold sgV at hlk
      dsimp only at hlk
      have HSG := hide hsg
      have HN := hide (HI.out (p + 1) (by omega) _ _ _ _ _ _ _ HR3.out.rd hl2 (by omega))
      clear hs2 hsg HI hK1 hK8 hKp htx hK3
      go_wp2_with (fail)
      refine HN.out.mono ?_
      rintro e w5 (⟨L, q, a5, c5, rfl, hpp, hrs5⟩ | hg)
      case inr => obtain ⟨⟨pq, rfl⟩, hgg⟩ := gave_after HR3.out hg; exact ⟨rfl, Or.inr ⟨⟨_, rfl⟩, hgg⟩⟩
      have HP := hide (ppg_one K HK3.out HS2.out hpp)
      have hLl := hpp.le
      have hLt := hpp.top
      have hL0 := hpp.pos
      have n0 := hrs5.gt.cell (cell_top w2 #[.int .i64 (K : Int), .int .i64 0, .int .i64 0, .int .i64 0] 74 w2.heap.size 0 _ rfl rfl) f2 f1
      have n1 := hrs5.gt.cell (cell_top w2 #[.int .i64 (K : Int), .int .i64 0, .int .i64 0, .int .i64 0] 74 w2.heap.size 1 _ rfl rfl) f2 f1
      have n2 := hrs5.gt.cell (cell_top w2 #[.int .i64 (K : Int), .int .i64 0, .int .i64 0, .int .i64 0] 74 w2.heap.size 2 _ rfl rfl) f2 f1
      have n3 := hrs5.gt.cell (cell_top w2 #[.int .i64 (K : Int), .int .i64 0, .int .i64 0, .int .i64 0] 74 w2.heap.size 3 _ rfl rfl) f2 f1
      have nf : w5.frozen? ⟨w2.heap.size, 1, none⟩ = false := (hrs5.gt.frozen (b := w2.heap.size) (o := 1) (by simp) f2 f1).trans (World.frozen?_alloc_new _ _ _ _)
      have f5 := row_ne_new hrs5.new (j := w2.heap.size) f1 (by simp)
      have HR5 := hide (HR3.out.trans hrs5)
      generalize hz : (out.length + L.length - 1 : Nat) = z at *
      obtain ⟨w6, hw6⟩ : ∃ w6, w6 = w5.setCell ⟨w2.heap.size, 1, none⟩ (.int .i64 (z : Int)) := ⟨_, rfl⟩
      have HR6 := hide (show RS w w6 rb r base T q a a5 c5 (out ++ L) by rw [hw6]; exact HR5.out.far w2.heap.size 1 _ hbb hww f5)
      have p0 : w6.cell? ⟨w2.heap.size, 0, none⟩ = some (.int .i64 (K : Int)) := by rw [hw6]; exact cell_set_off (by decide) n0
      have p1 : w6.cell? ⟨w2.heap.size, 1, none⟩ = some (.int .i64 (z : Int)) := by rw [hw6]; exact cell_set_eq n1
      have p2 : w6.cell? ⟨w2.heap.size, 2, none⟩ = some (.int .i64 0) := by rw [hw6]; exact cell_set_off (by decide) n2
      have p3 : w6.cell? ⟨w2.heap.size, 3, none⟩ = some (.int .i64 0) := by rw [hw6]; exact cell_set_off (by decide) n3
      have hlk6 := (run_lookup_sign (HR6.out.rd.sg) K).1
      rw [HSG.out] at hlk6
      unfold sgV at hlk6
      dsimp only at hlk6
      have k06 := HR6.out.rd.c0
      have HZ := hide hz
      rw [hw6] at hlk6 k06
      clear hrs5 n0 n2 n3 k0 hlk HN hz hpp
      go_wp2_with (fail)
      rw [← hw6]
      clear hw6 n1 nf hlk6 k06
      have HG : Hid (∀ W, Below w6.heap.size w6 W → Calls Tryd.prog 107 #[.pointer (some ⟨rb, 3, none⟩), .agg #[.int .i64 (K : Int), .int .i64 (z : Int), .int .i64 0, .int .i64 0]] W fun e w' => e = .returned (.int .i64 (out ++ L).length) ∧ ∃ a' c', RS w w' rb r base T q a a' c' (out ++ L ++ [⟨(K : Int), (z : Int), 0, 0⟩])) := hide fun W hb => (growR (HR6.out.rd.below hb) ⟨(K : Int), (z : Int), 0, 0⟩ (by first | omega | (simp <;> omega))).mono fun e w' ⟨h1, a', c', h2⟩ => ⟨h1, a', c', (HR6.out.trans (RS.of_below HR6.out.rd hb)).trans h2⟩
      go_region_law (refine step_callG rfl 107 [.tmp 44, .tmp 45] _ rfl Tryd.call107 ?_; refine (HG.out _ ?_).mono ?_; (focus (exact (by repeat (first | exact Below.refl _ _ | assumption | refine below_drewN ?_ _ | refine Below.drew ?_ | refine Below.alloc ?_ (by simp <;> omega) _ | refine below_trans ?_ (by assumption))))); rintro e w7 ⟨rfl, a7, c7, hrs7⟩; refine ⟨_, rfl, ?_⟩)
      all_goals
        have HR7 := hide hrs7
        clear hrs7 HG p0 p1 p2 p3
        go_wp2_with (fail)
        go_ret
        refine Or.inl ⟨L ++ [⟨(K : Int), (z : Int), 0, 0⟩], q, a7, c7, ret_eq (by simp <;> omega), HP.out, ?_⟩
        first | exact HR7.out | (have := HR7.out; rw [List.append_assoc] at this; exact this)

theorem node_any {T : List UInt8} (hT : T.length ≤ 2000) : ∀ m p, T.length + 1 - p ≤ m → NodeAny T p := by
  intro m
  induction m with
  | zero =>
    intro p hm w rb r base a c out h hp _
    omega
  | succ m ih =>
    intro p hm
    by_cases h : p ≤ T.length
    · exact node_step hT fun p' hp' => ih p' (by omega)
    · intro w rb r base a c out _ hp _
      omega
end Go.Proofs.YtpiacnnifdjlkaaDoor

/-
  The nodes that are made of a printed formula's text are right, and print as the formula: plain mathematics.
-/
namespace Go.Proofs.YtpiacnnifdjlkaaDoor

theorem un_pos {F : List Nd} (hF : AllOk F) (i : Nat) (hi : i < F.length) (m : Nat) : 0 < (un F i m).length := by
  rw [un_eq hF i hi]
  unfold unS
  by_cases h1 : (F.getD i nd0).k = 1
  · rw [if_pos h1]; simp
  rw [if_neg h1]
  by_cases h2 : (F.getD i nd0).k = 2
  · rw [if_pos h2]; simp
  rw [if_neg h2]
  by_cases h3 : (F.getD i nd0).k = 3 ∨ (F.getD i nd0).k = 6
  · rw [if_pos h3]; simp [gOne]
  · rw [if_neg h3]; simp [gTwo]; omega

theorem sh_un {F : List Nd} (hF : AllOk F) : ∀ i, i < F.length → ∀ (m : Nat) (G : List Nd), AllOk G → m + (un F i m).length ≤ G.length → (∀ d, d < (un F i m).length → G.getD (m + d) nd0 = (un F i m).getD d nd0) → sh G (m + (un F i m).length - 1) = sh F i := by
  intro i
  induction i using Nat.strongRecOn with
  | ind i ih =>
    intro hi m G hG hm hg
    obtain ⟨hk, ⟨a0, a1, _⟩, ⟨b0, b1, _⟩, hxn⟩ := node_ok (hF i hi)
    have hu := un_eq hF i hi
    rw [hu] at hm hg ⊢
    rw [sh_eq hF i hi]
    clear hu
    generalize F.getD i nd0 = x at *
    unfold unS at hm hg ⊢
    by_cases h1 : x.k = 1
    · simp only [if_pos h1] at hm hg ⊢
      have g0 : G.getD m nd0 = ⟨1, 0, 0, 0⟩ := hg 0 (by simp)
      show sh G (m + 1 - 1) = _
      simp only [List.length_cons, List.length_nil] at hm
      rw [Nat.add_sub_cancel, sh_eq hG m (by omega), g0]
      simp [shS, h1]
    simp only [if_neg h1] at hm hg ⊢
    by_cases h2 : x.k = 2
    · simp only [if_pos h2] at hm hg ⊢
      have g0 : G.getD m nd0 = ⟨2, 0, 0, x.n⟩ := hg 0 (by simp)
      show sh G (m + 1 - 1) = _
      simp only [List.length_cons, List.length_nil] at hm
      rw [Nat.add_sub_cancel, sh_eq hG m (by omega), g0]
      simp [shS, h2]
    simp only [if_neg h2] at hm hg ⊢
    have ha := a1 (by omega)
    have iha := ih x.a.toNat (by omega) (by omega) m G hG
    by_cases h3 : x.k = 3 ∨ x.k = 6
    · simp only [if_pos h3] at hm hg ⊢
      unfold gOne at hm hg ⊢
      generalize un F x.a.toNat m = A at *
      have hl : (A ++ [(⟨(x.k.toNat : Nat), (m + A.length - 1 : Nat), 0, 0⟩ : Nd)]).length = A.length + 1 := by simp
      rw [hl] at hm hg ⊢
      have g0 := hg A.length (by omega)
      have g0 : G.getD (m + A.length) nd0 = ⟨(x.k.toNat : Nat), (m + A.length - 1 : Nat), 0, 0⟩ := by rw [g0]; simp [List.getD]
      have ia := iha (by omega) (fun d hd => by rw [hg d (by omega)]; simp [List.getD, List.getElem?_append, hd])
      rw [show m + (A.length + 1) - 1 = m + A.length by omega, sh_eq hG _ (by omega), g0]
      rcases h3 with h3 | h3
      · simp [shS, h3, ia]
      · simp [shS, h3, ia]
    simp only [if_neg h3] at hm hg ⊢
    have hb := b1 (by omega)
    unfold gTwo at hm hg ⊢
    generalize un F x.a.toNat m = A at *
    have ihb := ih x.b.toNat (by omega) (by omega) (m + A.length) G hG
    generalize un F x.b.toNat (m + A.length) = B at *
    have hl : (A ++ (B ++ [(⟨(x.k.toNat : Nat), (m + A.length - 1 : Nat), (m + A.length + B.length - 1 : Nat), 0⟩ : Nd)])).length = A.length + B.length + 1 := by simp; omega
    rw [hl] at hm hg ⊢
    have g0 := hg (A.length + B.length) (by omega)
    have g0 : G.getD (m + (A.length + B.length)) nd0 = ⟨(x.k.toNat : Nat), (m + A.length - 1 : Nat), (m + A.length + B.length - 1 : Nat), 0⟩ := by rw [g0]; simp [List.getD]
    have ia := iha (by omega) (fun d hd => by rw [hg d (by omega)]; simp [List.getD, List.getElem?_append, hd])
    have ib := ihb (by omega) (fun d hd => by rw [Nat.add_assoc, hg (A.length + d) (by omega)]; simp [List.getD, List.getElem?_append, hd, show ¬ (A.length + d < A.length) by omega])
    rw [show m + (A.length + B.length + 1) - 1 = m + (A.length + B.length) by omega, sh_eq hG _ (by omega), g0]
    rcases (show x.k = 4 ∨ x.k = 5 ∨ x.k = 7 ∨ x.k = 8 by omega) with e | e | e | e <;> simp [shS, e, ia, ib]

theorem un_right {F : List Nd} (hF : AllOk F) : ∀ i, i < F.length → ∀ (m d : Nat), d < (un F i m).length → nodeErr ((un F i m).getD d nd0) ((m + d : Nat) : Int) = 0 := by
  intro i
  induction i using Nat.strongRecOn with
  | ind i ih =>
    intro hi m d hd
    obtain ⟨hk, ⟨a0, a1, _⟩, ⟨b0, b1, _⟩, hxn⟩ := node_ok (hF i hi)
    have hu := un_eq hF i hi
    rw [hu] at hd ⊢
    clear hu
    generalize F.getD i nd0 = x at *
    unfold unS at hd ⊢
    by_cases h1 : x.k = 1
    · simp only [if_pos h1] at hd ⊢
      have e : d = 0 := by simpa using hd
      subst e
      simp [nodeErr, chkN]
    simp only [if_neg h1] at hd ⊢
    by_cases h2 : x.k = 2
    · simp only [if_pos h2] at hd ⊢
      have e : d = 0 := by simpa using hd
      subst e
      have hx := hxn h2
      simp [nodeErr, chkN]
      omega
    simp only [if_neg h2] at hd ⊢
    have ha := a1 (by omega)
    have iha := ih x.a.toNat (by omega) (by omega) m
    have pa := un_pos hF x.a.toNat (by omega) m
    by_cases h3 : x.k = 3 ∨ x.k = 6
    · simp only [if_pos h3] at hd ⊢
      unfold gOne at hd ⊢
      generalize un F x.a.toNat m = A at *
      by_cases hdA : d < A.length
      · have e : (A ++ [(⟨(x.k.toNat : Nat), (m + A.length - 1 : Nat), 0, 0⟩ : Nd)]).getD d nd0 = A.getD d nd0 := by simp [List.getD, List.getElem?_append, hdA]
        rw [e]
        exact iha d hdA
      · have ed : d = A.length := by simp at hd; omega
        subst ed
        have e : (A ++ [(⟨(x.k.toNat : Nat), (m + A.length - 1 : Nat), 0, 0⟩ : Nd)]).getD A.length nd0 = ⟨(x.k.toNat : Nat), (m + A.length - 1 : Nat), 0, 0⟩ := by simp [List.getD]
        rw [e]
        unfold nodeErr chkN
        rw [if_pos (by dsimp only; omega), if_neg (by dsimp only; omega), if_neg (by dsimp only; omega), if_neg (by dsimp only; omega)]
    simp only [if_neg h3] at hd ⊢
    have hb := b1 (by omega)
    unfold gTwo at hd ⊢
    generalize un F x.a.toNat m = A at *
    have ihb := ih x.b.toNat (by omega) (by omega) (m + A.length)
    have pb := un_pos hF x.b.toNat (by omega) (m + A.length)
    generalize un F x.b.toNat (m + A.length) = B at *
    by_cases hdA : d < A.length
    · have e : (A ++ (B ++ [(⟨(x.k.toNat : Nat), (m + A.length - 1 : Nat), (m + A.length + B.length - 1 : Nat), 0⟩ : Nd)])).getD d nd0 = A.getD d nd0 := by simp [List.getD, List.getElem?_append, hdA]
      rw [e]
      exact iha d hdA
    by_cases hdB : d < A.length + B.length
    · obtain ⟨d', rfl⟩ : ∃ d', d = A.length + d' := ⟨d - A.length, by omega⟩
      have hd' : d' < B.length := by omega
      have e : (A ++ (B ++ [(⟨(x.k.toNat : Nat), (m + A.length - 1 : Nat), (m + A.length + B.length - 1 : Nat), 0⟩ : Nd)])).getD (A.length + d') nd0 = B.getD d' nd0 := by simp [List.getD, List.getElem?_append, hd', show ¬ (A.length + d' < A.length) by omega]
      rw [e, ← Nat.add_assoc]
      exact ihb d' hd'
    · have ed : d = A.length + B.length := by simp at hd; omega
      subst ed
      have e : (A ++ (B ++ [(⟨(x.k.toNat : Nat), (m + A.length - 1 : Nat), (m + A.length + B.length - 1 : Nat), 0⟩ : Nd)])).getD (A.length + B.length) nd0 = ⟨(x.k.toNat : Nat), (m + A.length - 1 : Nat), (m + A.length + B.length - 1 : Nat), 0⟩ := by simp [List.getD]
      rw [e]
      unfold nodeErr chkN
      rw [if_pos (by dsimp only; omega), if_neg (by dsimp only; omega), if_neg (by dsimp only; omega), if_neg (by dsimp only; omega)]

theorem un_ok {F : List Nd} (hF : AllOk F) (i : Nat) (hi : i < F.length) : AllOk (un F i 0) := fun d hd => by
  have := un_right hF i hi 0 d hd
  rwa [Nat.zero_add] at this

theorem sh_un0 {F : List Nd} (hF : AllOk F) (i : Nat) (hi : i < F.length) : sh (un F i 0) ((un F i 0).length - 1) = sh F i := by
  have := sh_un hF i hi 0 (un F i 0) (un_ok hF i hi) (by omega) (fun d _ => by rw [Nat.zero_add])
  rwa [Nat.zero_add] at this
end Go.Proofs.YtpiacnnifdjlkaaDoor

/-
  The deferred function of formula.read where the reader has given up.
-/
namespace Go.Proofs.YtpiacnnifdjlkaaDoor
open Go.RowKit Go.Sort

set_option maxRecDepth 100000 in
set_option maxHeartbeats 4000000 in
theorem read_gave {w : World} (b0 b1 b2 : Nat) (q : Int) {v0 v1 v2 : Value} (h01 : b0 ≠ b1) (h02 : b0 ≠ b2) (h12 : b1 ≠ b2) (z0 : w.cell? ⟨b0, 0, none⟩ = some v0) (z1 : w.cell? ⟨b1, 0, none⟩ = some v1) (z2 : w.cell? ⟨b2, 0, none⟩ = some v2)
    (x0 : w.frozen? ⟨b0, 0, none⟩ = false) (x1 : w.frozen? ⟨b1, 0, none⟩ = false) (x2 : w.frozen? ⟨b2, 0, none⟩ = false) :
    CallsD Tryd.prog 109 #[.pointer (some ⟨b0, 0, none⟩), .pointer (some ⟨b1, 0, none⟩), .pointer (some ⟨b2, 0, none⟩)] (.panicking (plc1 q)) w fun e u' w' => e = .returned (.tuple #[]) ∧ settle u' = .returning ∧ w' = ((w.setCell ⟨b0, 0, none⟩ (.slice none 0 0)).setCell ⟨b1, 0, none⟩ (.int .i64 q)).setCell ⟨b2, 0, none⟩ (.bool false) := by
  refine callsD_of_wpS Tryd.func109 rfl fun c₀ cs hu => ?_
  simp only [Tryd.ntmps109, List.size_toArray, List.length_cons, List.length_nil, Nat.reduceAdd, Nat.reduceSub, Array.replicate_succ, Array.replicate_zero, List.push_toArray, List.append_toArray, List.nil_append, List.cons_append]
  apply wpS_seq
  apply wpS_region
  unfold plc1 at hu
  simp [wpOpsS, go_sem, recoverD, hu, Exit.thenS]
  have he : ∀ (v : Value) (W : World), (binOp .eql 20 (.iface 159 v) .nilIface).run Tryd.prog W = .ok (.bool false) W := fun _ _ => rfl
  have ht : ∀ (v : Value) (W : World), (Instr.typeAssert (.iface 159 v) 20 159 true).run Tryd.prog W = .ok (.tuple #[v, .bool true]) W := fun _ _ => rfl
  refine wpS_of_wp ?_
  go_wp2_with (fail)
  cases c₀
  simp_all [bodyPostS, results, Tryd.results109, settle]
end Go.Proofs.YtpiacnnifdjlkaaDoor

namespace Go.Proofs.YtpiacnnifdjlkaaDoor
open Go.RowKit Go.Sort

set_option maxRecDepth 100000 in
set_option maxHeartbeats 2000000 in
theorem read_idle (p q s : Addr) (w : World) :
    CallsD Tryd.prog 109 #[.pointer (some p), .pointer (some q), .pointer (some s)] .returning w fun e u' w' => e = .returned (.tuple #[]) ∧ u' = .returning ∧ w' = w := by
  refine callsD_of_wpS Tryd.func109 rfl fun c₀ cs hu => ?_
  apply wpS_seq
  apply wpS_region
  simp [wpOpsS, go_sem, recoverD, hu, Tryd.ntmps109, Exit.thenS]
  have he : ∀ W : World, (binOp .eql 20 .nilIface .nilIface).run Tryd.prog W = .ok (.bool true) W := fun _ => rfl
  refine wpS_of_wp ?_
  go_wp2
  cases c₀
  simp_all [bodyPostS, results, Tryd.results109]
end Go.Proofs.YtpiacnnifdjlkaaDoor
