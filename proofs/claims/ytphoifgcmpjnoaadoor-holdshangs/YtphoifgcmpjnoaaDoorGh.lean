/-
  What (reader).number answers where a digit stands, and none behind it.
-/
import Derived.Test.YtphoifgcmpjnoaaDoorGg
import Derived.Lib.QuietBelow
namespace Go.Proofs.YtphoifgcmpjnoaaDoor
open Go.RowKit Go.Sort

theorem RS.drew {w w1 : World} {rb r base : Nat} {T : List UInt8} {at1 : Nat} {a a1 : Option Addr} {c1 : Nat} {o1 : List Nd} (h : RS w w1 rb r base T at1 a a1 c1 o1) : RS w w1.drew rb r base T at1 a a1 c1 o1 :=
  RS.trans h (RS.of_below h.rd (Below.drew (Below.refl _ _)))

set_option maxRecDepth 100000 in
set_option maxHeartbeats 4000000 in
theorem number_ok {w : World} {rb r base : Nat} {T : List UInt8} {at_ : Nat} {a : Option Addr} {c : Nat} {out : List Nd} (h : RD w rb r base T at_ a c out) (d : UInt8) (hd : 48 ≤ d.toNat ∧ d.toNat ≤ 50) (hs : T[at_]? = some d) (hn : ∀ b, T[at_ + 1]? = some b → digB b = false) (hT : T.length ≤ 2000) :
    Calls Tryd.prog 134 #[.pointer (some ⟨rb, 0, none⟩)] w fun e w' => e = .returned (.int .i64 ((d.toNat : Int) - 48)) ∧ RS w w' rb r base T (at_ + 1) a a c out := by
  have H := hide h
  have HN := hide hn
  clear hn
  have k1 := h.c1
  have k2 := h.c2
  have k3 := h.soft 2
  have hal : at_ < T.length := (List.getElem?_eq_some_iff.1 hs).1
  have i1 := fun W => run_byte W T at_ (at_ : Int) d rfl hs
  have hdig : digB d = true := by unfold digB; simp; omega
  have HD := hide (fun W => hdig ▸ isDigit_any d W)
  have hlt : (at_ : Int) < (T.length : Int) := by omega
  have hdd : (48 : Int) ≤ (d.toNat : Int) ∧ (d.toNat : Int) ≤ 50 := by omega
  clear h hs hdig hd
  go_enter Tryd.func134, Tryd.ntmps134
  go_wp2_with (fail)
  refine wp_loop_rounds 2 ?_
  rw [rounds_succ]
  go_wp2_with (fail)
  refine wp_region_quiet_lit (by kernel_rfl) (by kernel_rfl) ?_
  (repeat (go_big_quiet_step ((refine Calls.quiet_of_same (HD.out _)))))
  refine wpQuiet_nil ?_
  intro _ hw'
  obtain ⟨nq, hw''⟩ := hw'
  subst hw''
  have HR := hide ((RS.refl H.out).drewN nq)
  have k1 := HR.out.rd.c1
  have k2 := HR.out.rd.c2
  have k3 := HR.out.rd.soft 2
  generalize w.drewN nq = wq at *
  go_wp2_with (fail)
  go_region
  go_wp2_with (fail)
  rw [rounds_succ]
  go_wp2_with (fail)
  have hmin : min ((d.toNat : Int) - 48) 3 = (d.toNat : Int) - 48 := by omega
  have e1 : (at_ : Int) + 1 = ((at_ + 1 : Nat) : Int) := by omega
  rw [hmin, e1]
  have HR2 := hide ((HR.out.move (at_ + 1)).drew)
  have HP1 := hide (show at_ + 1 ≤ T.length by omega)
  have hne : (((at_ + 1 : Nat) : Int) == (at_ : Int)) = false := by rw [beq_eq_false_iff_ne]; omega
  have k1 := HR2.out.rd.c1
  have k2 := HR2.out.rd.c2
  clear hmin e1 hdd
  generalize hpe : at_ + 1 = p at *
  have HPE := hide hpe
  clear hpe
  generalize (wq.setCell ⟨rb, 2, none⟩ (.int .i64 (p : Int))).drew = w3 at *
  generalize hdz : (d.toNat : Int) - 48 = dz at *
  have HDZ := hide hdz
  clear hdz
  clear HD i1 hal hlt k3 HR
  by_cases hpl : p < T.length
  · obtain ⟨b, hb⟩ : ∃ b, T[p]? = some b := ⟨_, List.getElem?_eq_getElem hpl⟩
    have i1 := fun W => run_byte W T p (p : Int) b rfl hb
    have HD := hide (fun W => HN.out b hb ▸ isDigit_any b W)
    have hlt : (p : Int) < (T.length : Int) := by omega
    clear hb HN
    refine wp_region_quiet_lit (by kernel_rfl) (by kernel_rfl) ?_
    (repeat (go_big_quiet_step ((refine Calls.quiet_of_same (HD.out _)))))
    refine wpQuiet_nil ?_
    intro _ hw'
    obtain ⟨nq2, hw''⟩ := hw'
    subst hw''
    have HR4 := hide (HR2.out.drewN nq2)
    have k1 := HR4.out.rd.c1
    have k2 := HR4.out.rd.c2
    generalize w3.drewN nq2 = w4 at *
    go_wp2_with (fail)
    go_ret
    exact ⟨by rw [HDZ.out]; rfl, by rw [HPE.out]; exact HR4.out⟩
  · have hlt : ((p : Int) < (T.length : Int)) = False := by simp; omega
    have hlt2 : decide ((p : Int) < (T.length : Int)) = false := by simp; omega
    clear HN
    refine wp_region_quiet_lit (by kernel_rfl) (by kernel_rfl) ?_
    (repeat (go_big_quiet_step (fail)))
    refine wpQuiet_nil ?_
    intro _ hw'
    obtain ⟨nq2, hw''⟩ := hw'
    subst hw''
    have HR4 := hide (HR2.out.drewN nq2)
    have k1 := HR4.out.rd.c1
    have k2 := HR4.out.rd.c2
    generalize w3.drewN nq2 = w4 at *
    go_wp2_with (fail)
    go_ret
    exact ⟨by rw [HDZ.out]; rfl, by rw [HPE.out]; exact HR4.out⟩
end Go.Proofs.YtphoifgcmpjnoaaDoor
