/-
  What period, piece and At of package word answer.
-/
import Derived.Test.YtpiacnnifdjlkaaDoorBd
namespace Go.Proofs.YtpiacnnifdjlkaaDoor
open Go.RowKit

/-- p letters, again and again, make up the list, and p goes into its length. -/
def IsPer (ls : List Int) (p : Nat) : Prop := 1 ≤ p ∧ p ≤ ls.length ∧ ls.length % p = 0 ∧ ls.drop p = ls.take (ls.length - p)

def LeastPer (ls : List Int) (p : Nat) : Prop := IsPer ls p ∧ ∀ q, IsPer ls q → p ≤ q

theorem intSl_drop {w : World} {b off cap p : Nat} {ls : List Int} (hm : ls.length ≤ maxLen) (hc : ∀ i, i < ls.length → w.cell? ⟨b, off + i, none⟩ = some (.int .i64 (ls.getD i 0))) (hcap : ls.length ≤ cap) (hp : p < ls.length) :
    IntSl w (.slice (some ⟨b, off + p, none⟩) (ls.length - p) (cap - p)) (ls.drop p) := by
  refine ⟨some ⟨b, off + p, none⟩, cap - p, by simp, by simp; omega, Or.inr ⟨b, off + p, rfl, fun i hi => ?_⟩, (fun h => by cases h), by simp; omega⟩
  rw [List.length_drop] at hi
  rw [show off + p + i = off + (p + i) by omega, hc (p + i) (by omega)]
  simp [List.getD]

theorem intSl_take {w : World} {b off cap p : Nat} {ls : List Int} (hm : ls.length ≤ maxLen) (hc : ∀ i, i < ls.length → w.cell? ⟨b, off + i, none⟩ = some (.int .i64 (ls.getD i 0))) (hcap : ls.length ≤ cap) (hp : p ≤ ls.length) :
    IntSl w (.slice (some ⟨b, off, none⟩) p cap) (ls.take p) := by
  refine ⟨some ⟨b, off, none⟩, cap, by simp; omega, by simp; omega, Or.inr ⟨b, off, rfl, fun i hi => ?_⟩, (fun h => by cases h), by simp; omega⟩
  rw [List.length_take] at hi
  rw [hc i (by omega)]
  simp [List.getD, show i < p by omega]

set_option maxRecDepth 100000 in
set_option maxHeartbeats 400000 in
theorem period_go {w : World} (b off cap : Nat) (ls : List Int) (hm : ls.length ≤ 4000) (hpos : 0 < ls.length) (hc : ∀ i, i < ls.length → w.cell? ⟨b, off + i, none⟩ = some (.int .i64 (ls.getD i 0))) (hcap : ls.length ≤ cap) :
    Calls Tryd.prog 61 #[.slice (some ⟨b, off, none⟩) ls.length cap] w fun e w' => ∃ p : Nat, e = .returned (.int .i64 p) ∧ LeastPer ls p ∧ ∃ m, w' = w.drewN m := by
  have Hc : Hid (∀ i, i < ls.length → w.cell? ⟨b, off + i, none⟩ = some (.int .i64 (ls.getD i 0))) := hc
  clear hc
  generalize hn : ls.length = n at *
  have Hn : Hid (ls.length = n) := hn
  clear hn
  go_enter Tryd.func61, Tryd.ntmps61
  go_wp2_with (fail)
  go_loopw [4] (fun i wr => ∃ k : Nat, 1 ≤ k ∧ k ≤ n ∧ i = .int .i64 k ∧ (∀ j, j < k → ¬ IsPer ls j) ∧ ∃ m, wr = w.drewN m) (fun i _ => n - (intOf i).toNat)
  case atStart => exact ⟨1, Nat.le_refl _, by omega, rfl, fun j hj h => by have := h.1; omega, 0, rfl⟩
  case round =>
    obtain ⟨k, hk1, hk, rfl, htk, m, rfl⟩ := hrel
    have Htk : Hid (∀ j, j < k → ¬ IsPer ls j) := htk
    clear htk
    have hk0 : ((k : Int) == 0) = false := by rw [beq_eq_false_iff_ne]; omega
    have hk2 : ¬ (k : Int) = 0 := by omega
    by_cases hlt : k < n
    · by_cases hmod : n % k = 0
      · have hg : ((n : Int) % k == 0) = true := by rw [beq_iff_eq]; omega
        have Hmod : Hid (n % k = 0) := hmod
        clear hmod
        have HE : Hid (∀ j, Calls Tryd.prog 96 #[.slice (some ⟨b, off + k, none⟩) (n - k) (cap - k), .slice (some ⟨b, off, none⟩) (n - k) cap] (w.drewN (m + j)) fun e w' => e = .returned (.bool (decide (ls.drop k = ls.take (n - k)))) ∧ ∃ j', w' = w.drewN (m + j')) := fun j => by
          have hl := Hn.out
          subst hl
          exact (equal_any (w := w.drewN (m + j)) (intSl_drop (by unfold maxLen; omega) Hc.out hcap hlt) (intSl_take (by unfold maxLen; omega) Hc.out hcap (by omega))).mono fun e w' ⟨he, j', hw⟩ => ⟨he, j + j', by rw [hw, World.drewN_drewN, Nat.add_assoc]⟩
        generalize hr : decide (ls.drop k = ls.take (n - k)) = r at HE
        have Hr : Hid (decide (ls.drop k = ls.take (n - k)) = r) := hr
        clear hr
        go_wp2_with (fail)
        refine wp_region_quiet_lit (by kernel_rfl) (by kernel_rfl) ?_
        repeat (go_big_quiet_step (exact HE.out _))
        refine wpQuiet_nil ?_
        intro _ hw'; obtain ⟨nq, hw''⟩ := hw'; subst hw''
        cases r with
        | false =>
          go_wp2
          go_roundw
          case rel => exact ⟨k + 1, by omega, by omega, by go_num, fun j hj => by
            by_cases e : j = k
            · subst e
              intro h
              have := h.2.2.2
              rw [Hn.out] at this
              have hf := Hr.out
              rw [decide_eq_false_iff_not] at hf
              exact hf this
            · exact Htk.out j (by omega), m + nq, by first | rfl | trivial⟩
          case measure => simp [intOf]; omega
        | true =>
          go_wp2
          go_ret
          refine ⟨k, rfl, ⟨⟨hk1, by rw [Hn.out]; omega, by rw [Hn.out]; exact Hmod.out, by rw [Hn.out]; exact of_decide_eq_true Hr.out⟩, fun q hq => ?_⟩, m + nq, by rw [World.drewN_drewN]⟩
          rcases Nat.lt_or_ge q k with h | h
          · exact absurd hq (Htk.out q h)
          · exact h
      · have hg : ((n : Int) % k == 0) = false := by rw [beq_eq_false_iff_ne]; omega
        have Hmod : Hid (¬ n % k = 0) := hmod
        clear hmod
        go_wp2_with (fail)
        refine wp_region_quiet_lit (by kernel_rfl) (by kernel_rfl) ?_
        repeat (go_big_quiet_step (fail))
        refine wpQuiet_nil ?_
        intro _ hw'; obtain ⟨nq, hw''⟩ := hw'; subst hw''
        go_wp2
        go_roundw
        case rel => exact ⟨k + 1, by omega, by omega, by go_num, fun j hj => by
          by_cases e : j = k
          · subst e
            intro h
            have := h.2.2.1
            rw [Hn.out] at this
            exact Hmod.out this
          · exact Htk.out j (by omega), m + nq, by first | rfl | trivial⟩
        case measure => simp [intOf]; omega
    · go_wp2_with (fail)
      go_ret
      have hkn : k = n := by omega
      subst hkn
      refine ⟨k, rfl, ⟨⟨hk1, by rw [Hn.out]; omega, by rw [Hn.out]; simp, by rw [Hn.out]; simp [← Hn.out]⟩, fun q hq => ?_⟩, m, rfl⟩
      rcases Nat.lt_or_ge q k with h | h
      · exact absurd hq (Htk.out q h)
      · exact h

theorem period_any {w : World} {v : Value} {ls : List Int} (hv : IntSl w v ls) (hm : ls.length ≤ 4000) (hpos : 0 < ls.length) :
    Calls Tryd.prog 61 #[v] w fun e w' => ∃ p : Nat, e = .returned (.int .i64 p) ∧ LeastPer ls p ∧ ∃ m, w' = w.drewN m := by
  obtain ⟨a, cap, rfl, hm', hc, hn⟩ := hv
  rcases hc with h | ⟨b, off, rfl, hc⟩
  · subst h; simp at hpos
  · exact period_go b off cap ls hm hpos hc hn.2
end Go.Proofs.YtpiacnnifdjlkaaDoor
