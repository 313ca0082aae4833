/-
  What (reader).pair and (reader).node answer where a node of two parts stands.
-/
import Derived.Test.YtphoifgcmpjnoaaDoorGj
namespace Go.Proofs.YtphoifgcmpjnoaaDoor
open Go.RowKit Go.Sort

theorem kind_two {w : World} {rb r base : Nat} {T : List UInt8} {p : Nat} {a : Option Addr} {c : Nat} {out : List Nd} (h : RD w rb r base T p a c out) (K : Nat) (hK : K = 4 ∨ K = 5 ∨ K = 7 ∨ K = 8) (h0 : T[p]? = some (signB K)) (hT : T.length ≤ 2000) :
    Calls Tryd.prog 132 #[.pointer (some ⟨rb, 0, none⟩), .func (.func 158) #[] #[]] w fun e w' => e = .returned (.int .i64 K) ∧ RS w w' rb r base T (p + 1) a a c out := by
  have key : ∀ k : Nat, 1 ≤ k → k < K → here (fun s => s.parts == 2) (signB K) k = false := by
    intro k k1 k2
    rcases hK with rfl | rfl | rfl | rfl
    · obtain rfl | rfl | rfl : k = 1 ∨ k = 2 ∨ k = 3 := by omega
      all_goals decide
    · obtain rfl | rfl | rfl | rfl : k = 1 ∨ k = 2 ∨ k = 3 ∨ k = 4 := by omega
      all_goals decide
    · obtain rfl | rfl | rfl | rfl | rfl | rfl : k = 1 ∨ k = 2 ∨ k = 3 ∨ k = 4 ∨ k = 5 ∨ k = 6 := by omega
      all_goals decide
    · obtain rfl | rfl | rfl | rfl | rfl | rfl | rfl : k = 1 ∨ k = 2 ∨ k = 3 ∨ k = 4 ∨ k = 5 ∨ k = 6 ∨ k = 7 := by omega
      all_goals decide
  have hsg : ((sgOf K).getD sg0).text = [signB K] := by rcases hK with rfl | rfl | rfl | rfl <;> rfl
  have hy : here (fun s => s.parts == 2) (signB K) K = true := by rcases hK with rfl | rfl | rfl | rfl <;> decide
  have := kind_ok h fits_pair K (by omega) (signB K) h0 key hy (fun j hj => by
    rw [hsg] at hj ⊢
    have e : j = 0 := by simpa using hj
    subst e
    exact ⟨_, h0, rfl⟩) hT
  rw [hsg] at this
  exact this

theorem expect_one {w : World} {rb r base : Nat} {T : List UInt8} {p : Nat} {a : Option Addr} {c : Nat} {out : List Nd} (h : RD w rb r base T p a c out) (b : UInt8) (h0 : T[p]? = some b) (hT : T.length ≤ 2000) :
    Calls Tryd.prog 157 #[.pointer (some ⟨rb, 0, none⟩), .string ⟨#[b]⟩] w fun e w' => e = .returned (.tuple #[]) ∧ RS w w' rb r base T (p + 1) a a c out :=
  expect_ok h [b] (fun j hj => by
    have e : j = 0 := by simpa using hj
    subst e
    exact ⟨b, h0, rfl⟩) hT (by simp)

/-- The nodes of a node of two parts. -/
def gTwo (K : Nat) (g1 g2 : Nat → List Nd) (m : Nat) : List Nd := g1 m ++ (g2 (m + (g1 m).length) ++ [⟨K, (m + (g1 m).length - 1 : Nat), (m + (g1 m).length + (g2 (m + (g1 m).length)).length - 1 : Nat), 0⟩])

set_option maxRecDepth 100000 in
set_option maxHeartbeats 4000000 in
theorem pair_ok {T : List UInt8} {p q1 q2 : Nat} {g1 g2 : Nat → List Nd} (K : Nat) (hK : K = 4 ∨ K = 5 ∨ K = 7 ∨ K = 8) (h0 : T[p]? = some 40) (hN1 : NodeAt T (p + 1) q1 g1) (h1 : T[q1]? = some 32) (h2 : T[q1 + 1]? = some (signB K)) (h3 : T[q1 + 2]? = some 32) (hN2 : NodeAt T (q1 + 3) q2 g2) (h4 : T[q2]? = some 41) (hT : T.length ≤ 2000)
    {w : World} {rb r base : Nat} {a : Option Addr} {c : Nat} {out : List Nd} (h : RD w rb r base T p a c out) (hlen : out.length + (gTwo K g1 g2 out.length).length ≤ 100000) :
    Calls Tryd.prog 131 #[.pointer (some ⟨rb, 0, none⟩)] w fun e w' => e = .returned (.int .i64 (out.length + (gTwo K g1 g2 out.length).length - 1 : Nat)) ∧ ∃ a' c', RS w w' rb r base T (q2 + 1) a a' c' (out ++ gTwo K g1 g2 out.length) := by
  have H := hide h
  have HE1 := hide (fun W (hW : RD W rb r base T p a c out) => expect_one hW 40 h0 hT)
  have HE2 := hide (fun W a c o (hW : RD W rb r base T q1 a c o) => expect_one hW 32 h1 hT)
  have HKd := hide (fun W a c o (hW : RD W rb r base T (q1 + 1) a c o) => kind_two hW K hK h2 hT)
  have HE3 := hide (fun W a c o (hW : RD W rb r base T (q1 + 2) a c o) => expect_one hW 32 h3 hT)
  have HE4 := hide (fun W a c o (hW : RD W rb r base T q2 a c o) => expect_one hW 41 h4 hT)
  have HN1 := hide hN1
  have HN2 := hide hN2
  have hgl : (gTwo K g1 g2 out.length).length = (g1 out.length).length + (g2 (out.length + (g1 out.length).length)).length + 1 := by unfold gTwo; simp; omega
  have HGL := hide hgl
  rw [hgl] at hlen
  clear h h0 h1 h2 h3 h4 hN1 hN2 hgl hK
  go_enter Tryd.func131, Tryd.ntmps131
  go_wp2_with (fail)
  refine (HE1.out _ H.out).mono ?_
  rintro e w1 ⟨rfl, hr1⟩
  have HR1 := hide hr1
  clear hr1 HE1
  go_wp2_with (fail)
  refine (HN1.out w1 rb r base a c out HR1.out.rd (by omega)).mono ?_
  rintro e w2 ⟨rfl, a2, c2, hr2⟩
  have HR2 := hide (HR1.out.trans hr2)
  clear hr2 HN1
  go_wp2_with (fail)
  refine (HE2.out _ _ _ _ HR2.out.rd).mono ?_
  rintro e w3 ⟨rfl, hr3⟩
  have HR3 := hide (HR2.out.trans hr3)
  clear hr3 HE2
  go_wp2_with (fail)
  refine (HKd.out _ _ _ _ HR3.out.rd).mono ?_
  rintro e w4 ⟨rfl, hr4⟩
  have HR4 := hide (HR3.out.trans hr4)
  clear hr4 HKd
  go_wp2_with (fail)
  refine (HE3.out _ _ _ _ HR4.out.rd).mono ?_
  rintro e w5 ⟨rfl, hr5⟩
  have HR5 := hide (HR4.out.trans hr5)
  clear hr5 HE3
  go_wp2_with (fail)
  have hl5 : (out ++ g1 out.length).length = out.length + (g1 out.length).length := List.length_append
  refine (HN2.out w5 rb r base a2 c2 (out ++ g1 out.length) HR5.out.rd (by rw [hl5]; omega)).mono ?_
  rw [hl5]
  rintro e w6 ⟨rfl, a6, c6, hr6⟩
  have HR6 := hide (HR5.out.trans hr6)
  clear hr6 HN2 hl5
  go_wp2_with (fail)
  refine (HE4.out _ _ _ _ HR6.out.rd).mono ?_
  rintro e w7 ⟨rfl, hr7⟩
  have HR7 := hide (HR6.out.trans hr7)
  clear hr7 HE4
  have HG := hide (growR HR7.out.rd ⟨K, (out.length + (g1 out.length).length - 1 : Nat), (out.length + (g1 out.length).length + (g2 (out.length + (g1 out.length).length)).length - 1 : Nat), 0⟩ (by simp; omega))
  go_wp2_with (fail)
  refine HG.out.mono ?_
  rintro e w8 ⟨rfl, a8, c8, hr8⟩
  have HR8 := hide (HR7.out.trans hr8)
  clear hr8 HG
  go_wp2_with (fail)
  go_ret
  refine ⟨?_, a8, c8, ?_⟩
  · rw [HGL.out]
    refine ret_eq ?_
    simp <;> omega
  · have := HR8.out
    rw [List.append_assoc, List.append_assoc] at this
    exact this

set_option maxRecDepth 100000 in
set_option maxHeartbeats 4000000 in
theorem node_two {T : List UInt8} {p q1 q2 : Nat} {g1 g2 : Nat → List Nd} (K : Nat) (hK : K = 4 ∨ K = 5 ∨ K = 7 ∨ K = 8) (h0 : T[p]? = some 40) (hN1 : NodeAt T (p + 1) q1 g1) (h1 : T[q1]? = some 32) (h2 : T[q1 + 1]? = some (signB K)) (h3 : T[q1 + 2]? = some 32) (hN2 : NodeAt T (q1 + 3) q2 g2) (h4 : T[q2]? = some 41) (hT : T.length ≤ 2000) : NodeAt T p (q2 + 1) (gTwo K g1 g2) := by
  intro w rb r base a c out h hlen
  have H := hide h
  have hal : p < T.length := (List.getElem?_eq_some_iff.1 h0).1
  have hlt : ((p : Nat) : Int) ≤ (T.length : Int) := by omega
  have i1 := fun W => run_from W T p (by omega)
  have HPre : Hid (∀ W, Calls Tryd.prog 130 #[.string ⟨(T.drop p).toArray⟩, .string ⟨#[40]⟩] W fun e w' => e = .returned (.bool true) ∧ w' = W) := hide fun W => (hasPrefix_any ⟨(T.drop p).toArray⟩ ⟨[40].toArray⟩ W).mono fun e w' ⟨h1, h2⟩ => ⟨h1.trans (congrArg (fun z => Ending.returned (.bool z)) ((prefix_one T p 40 40 h0).trans rfl)), h2⟩
  have HPair := hide (fun W (hW : RD W rb r base T p a c out) => pair_ok K hK h0 hN1 h1 h2 h3 hN2 h4 hT hW hlen)
  have k1 := h.c1
  have k2 := h.c2
  generalize gTwo K g1 g2 out.length = L at *
  clear h h0 h1 h2 h3 h4 hN1 hN2 hK
  go_enter Tryd.func110, Tryd.ntmps110
  go_wp2_with (fail)
  refine wp_region_quiet_lit (by kernel_rfl) (by kernel_rfl) ?_
  (repeat (go_big_quiet_step ((refine Calls.quiet_of_same (HPre.out _)))))
  refine wpQuiet_nil ?_
  intro _ hw'
  obtain ⟨nq, hw''⟩ := hw'
  subst hw''
  have HR1 := hide ((RS.refl H.out).drewN nq)
  clear k1 k2 HPre
  generalize w.drewN nq = w1 at *
  go_wp2_with (fail)
  refine (HPair.out w1 HR1.out.rd).mono ?_
  rintro e w2 ⟨rfl, a2, c2, hr2⟩
  have HR2 := hide (HR1.out.trans hr2)
  clear hr2 HPair
  go_wp2_with (fail)
  go_ret
  exact ⟨rfl, a2, c2, HR2.out⟩

/-- The text that formulaBegun parses. -/
def tUntil : List UInt8 := [40, 112, 48, 32, 85, 32, 112, 49, 41]

theorem node_until : NodeAt tUntil 0 9 (gTwo 7 (fun _ => [⟨2, 0, 0, 0⟩]) (fun _ => [⟨2, 0, 0, 1⟩])) := by
  have h1 : NodeAt tUntil 1 3 (fun _ => [⟨2, 0, 0, 0⟩]) := node_prop 48 (by decide) rfl rfl (fun b hb => by
    have : b = 32 := by simpa [tUntil] using hb.symm
    subst this
    decide) (by decide)
  have h2 : NodeAt tUntil 6 8 (fun _ => [⟨2, 0, 0, 1⟩]) := node_prop 49 (by decide) rfl rfl (fun b hb => by
    have : b = 41 := by simpa [tUntil] using hb.symm
    subst this
    decide) (by decide)
  exact node_two 7 (by decide) rfl h1 rfl rfl rfl h2 rfl (by decide)
end Go.Proofs.YtphoifgcmpjnoaaDoor
