/-
  What (reader).expect answers where the text goes on as it must.
-/
import Derived.Test.YtphoifgcmpjnoaaDoorGd
import Derived.BigQuiet
namespace Go.Proofs.YtphoifgcmpjnoaaDoor
open Go.RowKit Go.Sort

/-- A byte of a text. -/
theorem run_byte (w : World) (l : List UInt8) (i : Nat) (z : Int) (b : UInt8) (hz : z = i) (h : l[i]? = some b) : (Instr.index 9 (.string ⟨l.toArray⟩) (.int .i64 z)).run Tryd.prog w = .ok (.int .u8 (b.toNat : Int)) w := by
  subst hz
  obtain ⟨hl, he⟩ := List.getElem?_eq_some_iff.1 h
  have hsz : (⟨l.toArray⟩ : ByteArray).size = l.length := by simp [ByteArray.size]
  rw [run_index_string (P := Tryd.prog) w 9 ⟨l.toArray⟩ .i64 i Tryd.underlying9, dif_pos ⟨by omega, by rw [hsz]; omega⟩]
  have : (⟨l.toArray⟩ : ByteArray)[((i : Nat) : Int).toNat]'(by rw [hsz]; simpa using hl) = b := by
    rw [← he]
    rfl
  rw [this]

theorem RS.drewN {w w1 : World} {rb r base : Nat} {T : List UInt8} {at1 : Nat} {a a1 : Option Addr} {c1 : Nat} {o1 : List Nd} (h : RS w w1 rb r base T at1 a a1 c1 o1) (n : Nat) : RS w (w1.drewN n) rb r base T at1 a a1 c1 o1 :=
  RS.trans h (RS.of_below h.rd (below_drewN (Below.refl _ _) n))

set_option maxRecDepth 100000 in
set_option maxHeartbeats 2000000 in
theorem expect_ok {w : World} {rb r base : Nat} {T : List UInt8} {at_ : Nat} {a : Option Addr} {c : Nat} {out : List Nd} (h : RD w rb r base T at_ a c out) (t : List UInt8) (hs : ∀ j, j < t.length → ∃ b, T[at_ + j]? = some b ∧ t[j]? = some b) (hT : T.length ≤ 2000) (ht : t.length ≤ 2000) :
    Calls Tryd.prog 157 #[.pointer (some ⟨rb, 0, none⟩), .string ⟨t.toArray⟩] w fun e w' => e = .returned (.tuple #[]) ∧ RS w w' rb r base T (at_ + t.length) a a c out := by
  have H := hide h
  have HS := hide hs
  clear h hs
  have hsz : (⟨t.toArray⟩ : ByteArray).size = t.length := by simp [ByteArray.size]
  have hsT : (⟨T.toArray⟩ : ByteArray).size = T.length := by simp [ByteArray.size]
  go_enter Tryd.func157, Tryd.ntmps157
  go_wp2_with (fail)
  go_loopw [7] (fun iv wr => ∃ j : Nat, j ≤ t.length ∧ iv = .int .i64 j ∧ Hid (RS w wr rb r base T (at_ + j) a a c out)) (fun iv _ => t.length - (intOf iv).toNat)
  case atStart => exact ⟨0, Nat.zero_le _, rfl, hide (RS.refl H.out)⟩
  case round =>
    obtain ⟨j, hj, rfl, hrs⟩ := hrel
    by_cases hlt : j < t.length
    · obtain ⟨b, hb1, hb2⟩ := HS.out j hlt
      have hal : at_ + j < T.length := (List.getElem?_eq_some_iff.1 hb1).1
      have k1 := hrs.out.rd.c1
      have k2 := hrs.out.rd.c2
      have k3 := hrs.out.rd.soft 2
      have HRS := hide hrs.out
      have HE := hide (show at_ + j + 1 = at_ + (j + 1) by omega)
      generalize at_ + j = p at *
      have hd : ((p : Int) == (T.length : Int)) = false := by rw [beq_eq_false_iff_ne]; omega
      have i1 := fun W => run_byte W T p (p : Int) b rfl hb1
      have i2 := fun W => run_byte W t j (j : Int) b rfl hb2
      have bb : ((b.toNat : Int) != (b.toNat : Int)) = false := by simp
      clear hb1 hb2 hrs
      go_wp2_with (fail)
      (refine wp_region_quiet_lit (by kernel_rfl) (by kernel_rfl) ?_; (repeat (go_big_quiet_step (fail))); refine wpQuiet_nil ?_; intro _ hw'; obtain ⟨nq, hw''⟩ := hw'; subst hw'')
      go_wp2_with (fail)
      refine ⟨⟨j + 1, by omega, by go_num, hide ?_⟩, by simp [intOf]; omega⟩
      have := (HRS.out.drewN nq).move (p + 1)
      have e : ((p + 1 : Nat) : Int) = (p : Int) + 1 := by omega
      rw [e] at this
      rw [← HE.out]
      exact this
    · have hjt : t.length = j := by omega
      have HR := hide hrs.out
      clear hrs
      go_wp2_with (fail)
      go_end0
      exact ⟨rfl, by rw [hjt]; exact HR.out⟩

def digB (b : UInt8) : Bool := decide (48 ≤ b.toNat) && decide (b.toNat ≤ 57)

set_option maxHeartbeats 400000 in
theorem isDigit_any (b : UInt8) (w : World) :
    Calls Tryd.prog 159 #[.int .u8 (b.toNat : Int)] w fun e w' => e = .returned (.bool (digB b)) ∧ w' = w := by
  unfold digB
  by_cases h1 : 48 ≤ b.toNat
  · have h1' : (48 : Int) ≤ (b.toNat : Int) := by omega
    by_cases h2 : b.toNat ≤ 57
    · have h2' : (b.toNat : Int) ≤ 57 := by omega
      rw [decide_eq_true h1, decide_eq_true h2]
      clear h1 h2
      generalize (b.toNat : Int) = z at *
      go_enter Tryd.func159, Tryd.ntmps159
      go_wp2
      go_ret
      exact ⟨rfl, rfl⟩
    · have h2' : (57 : Int) < (b.toNat : Int) := by omega
      rw [decide_eq_true h1, decide_eq_false h2]
      clear h1 h2
      generalize (b.toNat : Int) = z at *
      go_enter Tryd.func159, Tryd.ntmps159
      go_wp2
      go_ret
      have e57 : decide (z ≤ 57) = false := decide_eq_false (by omega)
      exact ⟨by simp [e57], rfl⟩
  · have h1' : (b.toNat : Int) < 48 := by omega
    rw [decide_eq_false h1, Bool.false_and]
    clear h1
    generalize (b.toNat : Int) = z at *
    go_enter Tryd.func159, Tryd.ntmps159
    go_wp2
    go_ret
    exact ⟨rfl, rfl⟩
end Go.Proofs.YtphoifgcmpjnoaaDoor
