/-
  What is asked of an operation of a region (Ra), by how it goes: a value, a value and a new world, a call.
-/
import Derived.Test.YtpiacnnifdjlkaaDoorHi
import Derived.Test.YtpiacnnifdjlkaaDoorAz
import Derived.Laws.IdiomStrings
import Derived.Orders
/-
  What the reference's nodeAt makes of a text that is a formula: kinds of two parts.
-/
namespace Go.Proofs.YtpiacnnifdjlkaaDoor
open Go.RowKit Go.Sort

/-- The signs of the kinds from 4 to 8, and one of none. -/
def signL : List UInt8 := [38, 124, 46, 85, 82]

theorem sign_byte (n : Nat) (b : UInt8) (h : signL[n]? = some b) (z : Int) (hz : z = n) (W : World) : (Instr.index 9 (.string ⟨#[38, 124, 46, 85, 82]⟩) (.int .i64 z)).run Tryd.prog W = .ok (.int .u8 (b.toNat : Int)) W := run_byte W signL n z b hz h

theorem sign_is (n K : Nat) (hn : 4 ≤ n ∧ n ≤ 8) (hK : K = 4 ∨ K = 5 ∨ K = 7 ∨ K = 8) (h6 : n ≠ 6) : ∃ b, signL[n - 4]? = some b ∧ (((signB K).toNat : Int) == (b.toNat : Int)) = decide (n = K) := by
  obtain rfl | rfl | rfl | rfl : n = 4 ∨ n = 5 ∨ n = 7 ∨ n = 8 := by omega
  all_goals
    refine ⟨_, rfl, ?_⟩
    rcases hK with rfl | rfl | rfl | rfl <;> decide

/-- What has been found when the kinds below n are looked at. -/
def kAt (K n : Nat) : Int := if K < n then (K : Int) else 0

theorem kAt_is {K n : Nat} (h : n = K) : kAt K (n + 1) = (n : Int) := by unfold kAt; rw [if_pos (by omega), h]

theorem kAt_not {K n : Nat} (h : n ≠ K) : kAt K (n + 1) = kAt K n := by
  unfold kAt
  by_cases h2 : K < n
  · rw [if_pos h2, if_pos (by omega)]
  · rw [if_neg h2, if_neg (by omega)]

set_option maxRecDepth 100000 in
set_option maxHeartbeats 8000000 in
theorem ref_pair {T : List UInt8} {p q1 q2 : Nat} {g1 g2 : Nat → List Nd} (K : Nat) (hK : K = 4 ∨ K = 5 ∨ K = 7 ∨ K = 8) (h0 : T[p]? = some 40) (hN1 : RefAt T (p + 1) q1 g1) (h1 : T[q1]? = some 32) (h2 : T[q1 + 1]? = some (signB K)) (h3 : T[q1 + 2]? = some 32) (hN2 : RefAt T (q1 + 3) q2 g2) (h4 : T[q2]? = some 41) (hg1 : ∀ m, 0 < (g1 m).length) (hg2 : ∀ m, 0 < (g2 m).length) (hT : T.length ≤ 30000) :
    RefAt T p (q2 + 1) (fun m => g1 m ++ (g2 (m + (g1 m).length) ++ [⟨K, (m + (g1 m).length - 1 : Nat), (m + (g1 m).length + (g2 (m + (g1 m).length)).length - 1 : Nat), 0⟩])) := by
  intro w base a c out hown hB hn
  have hp1 := hg1 out.length
  have hp2 := hg2 (out.length + (g1 out.length).length)
  dsimp only at hn ⊢
  rw [List.length_append, List.length_append, List.length_cons, List.length_nil] at hn
  have HN1 := hide (hN1 w base a c out hown hB (by omega))
  have hc : ((p + 1 : Nat) : Int) = (p : Int) + 1 := by omega
  rw [hc] at HN1
  rw [← List.append_assoc, ← List.append_assoc]
  have hLl : (out ++ g1 out.length).length = out.length + (g1 out.length).length := List.length_append
  have HN2 : Hid (∀ (w : World) (a : Option Addr) (c : Nat), w.ownsRow base 74 4 (.slice a (out ++ g1 out.length).length c) (out ++ g1 out.length).length (ndCells (out ++ g1 out.length)) → base ≤ w.heap.size →
      Calls Tryd.prog 77 #[.slice a (out ++ g1 out.length).length c, .string ⟨T.toArray⟩, .int .i64 ((q1 : Int) + 3)] w fun e w' => ∃ a' c', e = .returned (.tuple #[.slice a' (out ++ g1 out.length ++ g2 (out.length + (g1 out.length).length)).length c', .int .i64 q2, .bool true]) ∧ w'.ownsRow base 74 4 (.slice a' (out ++ g1 out.length ++ g2 (out.length + (g1 out.length).length)).length c') (out ++ g1 out.length ++ g2 (out.length + (g1 out.length).length)).length (ndCells (out ++ g1 out.length ++ g2 (out.length + (g1 out.length).length))) ∧ Below base w w') := hide fun w a c ho hb => by
    have := hN2 w base a c (out ++ g1 out.length) ho hb (by rw [hLl]; omega)
    rw [hLl] at this ⊢
    exact this
  have hMl : (out ++ g1 out.length ++ g2 (out.length + (g1 out.length).length)).length = out.length + (g1 out.length).length + (g2 (out.length + (g1 out.length).length)).length := by rw [List.length_append, hLl]
  rw [show ((out.length + (g1 out.length).length - 1 : Nat) : Int) = ((out ++ g1 out.length).length : Int) - 1 by rw [hLl]; omega]
  rw [show ((out.length + (g1 out.length).length + (g2 (out.length + (g1 out.length).length)).length - 1 : Nat) : Int) = ((out ++ g1 out.length ++ g2 (out.length + (g1 out.length).length)).length : Int) - 1 by rw [hMl]; omega]
  have hL1 : 1 ≤ (out ++ g1 out.length).length := by omega
  have hL2 : (out ++ g1 out.length).length ≤ 100000 := by omega
  have hM1 : 1 ≤ (out ++ g1 out.length ++ g2 (out.length + (g1 out.length).length)).length := by omega
  have hM2 : (out ++ g1 out.length ++ g2 (out.length + (g1 out.length).length)).length ≤ 100000 := by omega
  clear hLl hMl
  generalize g2 (out.length + (g1 out.length).length) = G2 at *
  generalize out ++ g1 out.length = L at *
  generalize L ++ G2 = M at *
  have hsT : (⟨T.toArray⟩ : ByteArray).size = T.length := by simp [ByteArray.size]
  have hlt : p < T.length := (List.getElem?_eq_some_iff.1 h0).1
  have hl3 : q1 + 2 < T.length := (List.getElem?_eq_some_iff.1 h3).1
  have hl4 : q2 < T.length := (List.getElem?_eq_some_iff.1 h4).1
  have hg0 : ¬ ((T.length : Int) ≤ (p : Int)) := by omega
  have HB := hide hB
  have HK := hide hK
  have i0 : ∀ W, (Instr.index 9 (.string ⟨T.toArray⟩) (.int .i64 (p : Int))).run Tryd.prog W = .ok (.int .u8 40) W := fun W => run_byte W T p (p : Int) 40 rfl h0
  have I1 : Hid (∀ W, (Instr.index 9 (.string ⟨T.toArray⟩) (.int .i64 (q1 : Int))).run Tryd.prog W = .ok (.int .u8 32) W) := hide fun W => run_byte W T q1 (q1 : Int) 32 rfl h1
  have I2 : Hid (∀ W, (Instr.index 9 (.string ⟨T.toArray⟩) (.int .i64 ((q1 : Int) + 1))).run Tryd.prog W = .ok (.int .u8 ((signB K).toNat : Int)) W) := hide fun W => run_byte W T (q1 + 1) ((q1 : Int) + 1) (signB K) (by omega) h2
  have I3 : Hid (∀ W, (Instr.index 9 (.string ⟨T.toArray⟩) (.int .i64 ((q1 : Int) + 2))).run Tryd.prog W = .ok (.int .u8 32) W) := hide fun W => run_byte W T (q1 + 2) ((q1 : Int) + 2) 32 (by omega) h3
  have I4 : Hid (∀ W, (Instr.index 9 (.string ⟨T.toArray⟩) (.int .i64 (q2 : Int))).run Tryd.prog W = .ok (.int .u8 41) W) := hide fun W => run_byte W T q2 (q2 : Int) 41 rfl h4
  clear hN1 hN2 hown hg1 hg2 hp1 hp2 hn hc h0 h1 h2 h3 h4
  go_enter Tryd.func77, Tryd.ntmps77
  go_wp2_with (fail)
  refine HN1.out.mono ?_
  rintro e w1 ⟨a1, c1, rfl, ho1, hb1⟩
  have HO1 := hide ho1
  have HB1 := hide hb1
  have hB1 : base ≤ w1.heap.size := Nat.le_trans HB.out hb1.size
  clear ho1 hb1 HN1 i0 hg0
  go_wp2_with (fail)
  go_loopw [15, 18, 19] (fun s15 s18 s19 wr => ∃ j : Nat, j ≤ 3 ∧ s15 = .int .i64 ((q1 : Int) + (j : Int)) ∧ s18 = .int .i64 (if 2 ≤ j then (K : Int) else 0) ∧ s19 = .int .i64 j ∧ Hid (Below w1.heap.size w1 wr)) (fun _ _ s19 _ => 3 - (intOf s19).toNat)
  case atStart => exact ⟨0, by omega, by simp, rfl, rfl, hide (Below.refl _ _)⟩
  case round =>
    obtain ⟨j, hj, rfl, rfl, rfl, hb⟩ := hrel
    have hcase : j = 0 ∨ j = 1 ∨ j = 2 ∨ j = 3 := by omega
    rcases hcase with rfl | rfl | rfl | rfl
    · have i1 := I1.out
      have hgq : ¬ ((T.length : Int) ≤ (q1 : Int)) := by omega
      go_wp2_with (fail)
      exact ⟨⟨1, by omega, by simp, by simp, rfl, hb⟩, by simp [intOf]⟩
    · have hgq : ¬ ((T.length : Int) ≤ (q1 : Int) + 1) := by omega
      go_wp2_with (fail)
      go_loopw [18, 20] (fun s18 s20 wr2 => ∃ n : Nat, 4 ≤ n ∧ n ≤ 9 ∧ s18 = .int .i64 (kAt K n) ∧ s20 = .int .i64 n ∧ Hid (Below w1.heap.size w1 wr2)) (fun _ s20 _ => 9 - (intOf s20).toNat)
      case atStart => exact ⟨4, by omega, by omega, by have := HK.out; simp [kAt]; omega, rfl, hb⟩
      case round =>
        clear hb
        obtain ⟨n, hn4, hn9, rfl, rfl, hb⟩ := hrel
        by_cases hn8 : n ≤ 8
        · by_cases h6 : n = 6
          · subst h6
            have HKA := hide (kAt_not (K := K) (n := 6) (by have := HK.out; omega))
            generalize kAt K 6 = kv at *
            go_wp2_with (fail)
            (refine wp_region_quiet_lit (by kernel_rfl) (by kernel_rfl) ?_; (repeat (go_big_quiet_step (fail))); refine wpQuiet_nil ?_; intro _ hw'; obtain ⟨nq, hw''⟩ := hw'; subst hw'')
            have HB2 := hide (below_drewN hb.out nq)
            go_wp2_with (fail)
            exact ⟨⟨7, by omega, by omega, by rw [HKA.out], rfl, HB2⟩, by simp [intOf]⟩
          · obtain ⟨b, hb', hcmp⟩ := sign_is n K ⟨hn4, hn8⟩ HK.out h6
            have i2 := I2.out
            have i5 := sign_byte (n - 4) b hb' ((n : Int) - 4) (by omega)
            have hd : ((n : Int) != 6) = true := by rw [bne_iff_ne]; omega
            by_cases hnK : n = K
            · rw [decide_eq_true hnK] at hcmp
              have HKA := hide (kAt_is hnK)
              generalize kAt K n = kv at *
              clear hb' hnK
              go_wp2_with (fail)
              (refine wp_region_quiet_lit (by kernel_rfl) (by kernel_rfl) ?_; (repeat (go_big_quiet_step (fail))); refine wpQuiet_nil ?_; intro _ hw'; obtain ⟨nq, hw''⟩ := hw'; subst hw'')
              have HB2 := hide (below_drewN hb.out nq)
              go_wp2_with (fail)
              exact ⟨⟨n + 1, by omega, by omega, by rw [HKA.out], by go_num, HB2⟩, by simp [intOf]; omega⟩
            · rw [decide_eq_false hnK] at hcmp
              have HKA := hide (kAt_not hnK)
              generalize kAt K n = kv at *
              clear hb' hnK
              go_wp2_with (fail)
              (refine wp_region_quiet_lit (by kernel_rfl) (by kernel_rfl) ?_; (repeat (go_big_quiet_step (fail))); refine wpQuiet_nil ?_; intro _ hw'; obtain ⟨nq, hw''⟩ := hw'; subst hw'')
              have HB2 := hide (below_drewN hb.out nq)
              go_wp2_with (fail)
              exact ⟨⟨n + 1, by omega, by omega, by rw [HKA.out], by go_num, HB2⟩, by simp [intOf]; omega⟩
        · obtain rfl : n = 9 := by omega
          have hk9 : kAt K 9 = (K : Int) := by have := HK.out; unfold kAt; rw [if_pos (by omega)]
          rw [hk9]
          have hk0 : ((K : Int) == 0) = false := by have := HK.out; rw [beq_eq_false_iff_ne]; omega
          clear hk9
          go_wp2_with (fail)
          exact ⟨⟨2, by omega, by simp; omega, by simp, rfl, hb⟩, by simp [intOf]⟩
    · have i1 := I3.out
      have hgq : ¬ ((T.length : Int) ≤ (q1 : Int) + 2) := by omega
      go_wp2_with (fail)
      exact ⟨⟨3, by omega, by simp; omega, by simp, rfl, hb⟩, by simp [intOf]⟩
    · have HOr := hide (own_below HO1.out hb.out)
      have HBr := hide (HB1.out.trans (hb.out.mono hB1))
      have hBr : base ≤ wr.heap.size := Nat.le_trans hB1 hb.out.size
      clear hb I1 I2 I3
      go_wp2_with (fail)
      refine (HN2.out _ _ _ HOr.out hBr).mono ?_
      rintro e w3 ⟨a3, c3, rfl, ho3, hb3⟩
      have HO3 := hide ho3
      have HB3 := hide (HBr.out.trans hb3)
      have hB3 : base ≤ w3.heap.size := Nat.le_trans hBr hb3.size
      have i4 := I4.out
      have hgq : ¬ ((T.length : Int) ≤ (q2 : Int)) := by omega
      clear ho3 hb3 HN2 I4 HO1 HOr HBr HB1
      go_wp2_with (at_builtin; refine wp_app_node rfl (.tmp 195) (.tmp 202) rfl base M.length _ (ndCells M) rfl (HO3.out.alloc _) w3.heap.size 1 ⟨(K : Int), (L.length : Int) - 1, (M.length : Int) - 1, 0⟩ rfl (cell_top _ _ _ _ _ _ rfl rfl) (cell_top _ _ _ _ _ _ rfl rfl) (cell_top _ _ _ _ _ _ rfl rfl) (cell_top _ _ _ _ _ _ rfl rfl) (by omega) (by simp; omega) ?_; intro g8 cap8 w8 hown8 hgrow8; have HR8 := hide (own_snoc ⟨(K : Int), (L.length : Int) - 1, (M.length : Int) - 1, 0⟩ (below_new _ _) hB3 (HO3.out.alloc _) hown8 hgrow8); clear hown8 hgrow8)
      go_ret3
      exact ⟨_, _, by simp, HR8.out.1, HB3.out.trans HR8.out.2⟩
end Go.Proofs.YtpiacnnifdjlkaaDoor

/-
  The reference's Digits at the numbers that a formula bears.
-/
namespace Go.Proofs.YtpiacnnifdjlkaaDoor
open Go.RowKit Go.Sort

theorem one_byte (w : World) (t : TypeId) (c : UInt8) : (convert 106 9 (.slice (some ⟨w.heap.size, 0, none⟩) 1 1)).run Tryd.prog (w.alloc (Obj.cells #[.int .u8 (c.toNat : Int)] t)) = .ok (.string ⟨#[c]⟩) (w.alloc (Obj.cells #[.int .u8 (c.toNat : Int)] t)) :=
  run_convert_bytes_back (P := Tryd.prog) (w.alloc (Obj.cells #[.int .u8 (c.toNat : Int)] t)) 106 9 5 ⟨w.heap.size, 0, none⟩ 1 [c] (by kernel_rfl) (by kernel_rfl) (by kernel_rfl) (fun j hj => by
    have : j = 0 := by simpa using hj
    subst this
    exact cell_top _ _ _ _ _ _ rfl rfl)

set_option maxRecDepth 100000 in
set_option maxHeartbeats 1000000 in
theorem digits_few (w : World) (n : Int) (h : 0 ≤ n ∧ n ≤ 2) :
    Calls Tryd.prog 52 #[.int .i64 n] w fun e w' => e = .returned (.string ⟨#[UInt8.ofNat (48 + n.toNat)]⟩) ∧ Below w.heap.size w w' := by
  obtain rfl | rfl | rfl : n = 0 ∨ n = 1 ∨ n = 2 := by omega
  · have hc := one_byte w 5 48
    have e : (((48 : UInt8).toNat : Nat) : Int) = 48 := rfl
    rw [e] at hc
    go_enter Tryd.func52, Tryd.ntmps52
    go_wp2_with (fail)
    go_ret
    exact ⟨rfl, (by repeat (first | exact Below.refl _ _ | assumption | refine below_drewN ?_ _ | refine Below.drew ?_ | refine Below.alloc ?_ (by simp <;> omega) _ | refine below_trans ?_ (by assumption)))⟩
  · have hc := one_byte w 5 49
    have e : (((49 : UInt8).toNat : Nat) : Int) = 49 := rfl
    rw [e] at hc
    go_enter Tryd.func52, Tryd.ntmps52
    go_wp2_with (fail)
    go_ret
    exact ⟨rfl, (by repeat (first | exact Below.refl _ _ | assumption | refine below_drewN ?_ _ | refine Below.drew ?_ | refine Below.alloc ?_ (by simp <;> omega) _ | refine below_trans ?_ (by assumption)))⟩
  · have hc := one_byte w 5 50
    have e : (((50 : UInt8).toNat : Nat) : Int) = 50 := rfl
    rw [e] at hc
    go_enter Tryd.func52, Tryd.ntmps52
    go_wp2_with (fail)
    go_ret
    exact ⟨rfl, (by repeat (first | exact Below.refl _ _ | assumption | refine below_drewN ?_ _ | refine Below.drew ?_ | refine Below.alloc ?_ (by simp <;> omega) _ | refine below_trans ?_ (by assumption)))⟩
end Go.Proofs.YtpiacnnifdjlkaaDoor

/-
  What the reference's ShowOf answers, but for kinds of two parts.
-/
namespace Go.Proofs.YtpiacnnifdjlkaaDoor
open Go.RowKit Go.Sort

/-- What ShowOf must answer at a node. -/
def ShowOk (F : List Nd) (i : Nat) : Prop := ∀ (w : World) (v : Value), NodeSl w v F →
  Calls Tryd.prog 37 #[v, .int .i64 (i : Nat)] w fun e w' => e = .returned (.string ⟨(sh F i).toArray⟩) ∧ Below w.heap.size w w'

set_option maxRecDepth 100000 in
set_option maxHeartbeats 2000000 in
theorem show_true {F : List Nd} (hF : AllOk F) (i : Nat) (hi : i < F.length) (hk : (F.getD i nd0).k = 1) : ShowOk F i := by
  intro w v hv
  rw [sh_eq hF i hi]
  obtain ⟨a, cap, rfl, hm, hc, -⟩ := hv
  unfold maxLen at hm
  rcases hc with hc | ⟨b, off, rfl, hc⟩
  · subst hc; simp at hi
  obtain ⟨c0, c1, c2, c3⟩ := hc i hi
  generalize hx : F.getD i nd0 = x at *
  clear hc hx
  obtain ⟨k, xa, xb, xn⟩ := x
  dsimp only at *
  subst hk
  have e : shS ⟨1, xa, xb, xn⟩ (sh F) = [116, 114, 117, 101] := by simp [shS]
  rw [e]
  go_enter Tryd.func37, Tryd.ntmps37
  go_wp2_with (fail)
  go_ret
  exact ⟨rfl, (by repeat (first | exact Below.refl _ _ | assumption | refine below_drewN ?_ _ | refine Below.drew ?_ | refine Below.alloc ?_ (by simp <;> omega) _ | refine below_trans ?_ (by assumption)))⟩

set_option maxRecDepth 100000 in
set_option maxHeartbeats 2000000 in
theorem show_prop {F : List Nd} (hF : AllOk F) (i : Nat) (hi : i < F.length) (hk : (F.getD i nd0).k = 2) : ShowOk F i := by
  intro w v hv
  rw [sh_eq hF i hi]
  have hn := (node_ok (hF i hi)).2.2.2 hk
  obtain ⟨a, cap, rfl, hm, hc, -⟩ := hv
  unfold maxLen at hm
  rcases hc with hc | ⟨b, off, rfl, hc⟩
  · subst hc; simp at hi
  obtain ⟨c0, c1, c2, c3⟩ := hc i hi
  generalize hx : F.getD i nd0 = x at *
  clear hc hx
  obtain ⟨k, xa, xb, xn⟩ := x
  dsimp only at *
  subst hk
  have e : shS ⟨2, xa, xb, xn⟩ (sh F) = [112] ++ [UInt8.ofNat (48 + xn.toNat)] := by simp [shS]
  rw [e]
  have HD : Hid (∀ W, Calls Tryd.prog 52 #[.int .i64 xn] W fun e w' => e = .returned (.string ⟨#[UInt8.ofNat (48 + xn.toNat)]⟩) ∧ Below W.heap.size W w') := hide fun W => digits_few W xn hn
  have hadd : (⟨#[112]⟩ : ByteArray) ++ ⟨#[UInt8.ofNat (48 + xn.toNat)]⟩ = ⟨([112] ++ [UInt8.ofNat (48 + xn.toNat)]).toArray⟩ := str_app [112] [_]
  generalize UInt8.ofNat (48 + xn.toNat) = d at *
  clear hn
  go_enter Tryd.func37, Tryd.ntmps37
  go_wp2_with (fail)
  refine (HD.out _).mono ?_
  rintro e w1 ⟨rfl, hb1⟩
  go_wp2_with (fail)
  go_ret
  exact ⟨rfl, (by repeat (first | exact Below.refl _ _ | assumption | refine below_drewN ?_ _ | refine Below.drew ?_ | refine Below.alloc ?_ (by simp <;> omega) _ | refine below_trans ?_ (by assumption)))⟩

set_option maxRecDepth 100000 in
set_option maxHeartbeats 2000000 in
theorem show_not {F : List Nd} (hF : AllOk F) (h12 : F.length ≤ 12) (i : Nat) (hi : i < F.length) (hk : (F.getD i nd0).k = 3) (ih : ShowOk F (F.getD i nd0).a.toNat) : ShowOk F i := by
  intro w v hv
  rw [sh_eq hF i hi]
  obtain ⟨-, ⟨a0, a1, -⟩, -, -⟩ := node_ok (hF i hi)
  have a2 := a1 (by omega)
  have hl := sh_len hF (F.getD i nd0).a.toNat (by omega)
  have hpw : 2 ^ ((F.getD i nd0).a.toNat + 1) ≤ 2 ^ 13 := Nat.pow_le_pow_right (by decide) (by omega)
  have HV := hide hv
  obtain ⟨a, cap, rfl, hm, hc, -⟩ := hv
  unfold maxLen at hm
  rcases hc with hc | ⟨b, off, rfl, hc⟩
  · subst hc; simp at hi
  obtain ⟨c0, c1, c2, c3⟩ := hc i hi
  generalize hx : F.getD i nd0 = x at *
  clear hc hx
  obtain ⟨k, xa, xb, xn⟩ := x
  dsimp only at *
  subst hk
  have e : shS ⟨3, xa, xb, xn⟩ (sh F) = [33] ++ sh F xa.toNat := by simp [shS]
  rw [e, ← str_app]
  have exa : ((xa.toNat : Nat) : Int) = xa := by omega
  have HI : Hid (∀ W, Below w.heap.size w W → Calls Tryd.prog 37 #[.slice (some ⟨b, off, none⟩) F.length cap, .int .i64 xa] W fun e w' => e = .returned (.string ⟨(sh F xa.toNat).toArray⟩) ∧ Below W.heap.size W w') := hide fun W hb => by
    have := ih W _ (HV.out.below hb)
    rw [exa] at this
    exact this
  have hsz : (⟨(sh F xa.toNat).toArray⟩ : ByteArray).size ≤ 100000 := by
    show (sh F xa.toNat).toArray.size ≤ 100000
    simp; omega
  clear ih hl hpw exa e
  generalize (⟨(sh F xa.toNat).toArray⟩ : ByteArray) = B at *
  go_enter Tryd.func37, Tryd.ntmps37
  go_wp2_with (fail)
  refine (HI.out _ ?_).mono ?_
  focus (exact (by repeat (first | exact Below.refl _ _ | assumption | refine below_drewN ?_ _ | refine Below.drew ?_ | refine Below.alloc ?_ (by simp <;> omega) _ | refine below_trans ?_ (by assumption))))
  rintro e w1 ⟨rfl, hb1⟩
  go_wp2_with (fail)
  go_ret
  exact ⟨rfl, (by repeat (first | exact Below.refl _ _ | assumption | refine below_drewN ?_ _ | refine Below.drew ?_ | refine Below.alloc ?_ (by simp <;> omega) _ | refine below_trans ?_ (by assumption)))⟩

set_option maxRecDepth 100000 in
set_option maxHeartbeats 2000000 in
theorem show_next {F : List Nd} (hF : AllOk F) (h12 : F.length ≤ 12) (i : Nat) (hi : i < F.length) (hk : (F.getD i nd0).k = 6) (ih : ShowOk F (F.getD i nd0).a.toNat) : ShowOk F i := by
  intro w v hv
  rw [sh_eq hF i hi]
  obtain ⟨-, ⟨a0, a1, -⟩, -, -⟩ := node_ok (hF i hi)
  have a2 := a1 (by omega)
  have hl := sh_len hF (F.getD i nd0).a.toNat (by omega)
  have hpw : 2 ^ ((F.getD i nd0).a.toNat + 1) ≤ 2 ^ 13 := Nat.pow_le_pow_right (by decide) (by omega)
  have HV := hide hv
  obtain ⟨a, cap, rfl, hm, hc, -⟩ := hv
  unfold maxLen at hm
  rcases hc with hc | ⟨b, off, rfl, hc⟩
  · subst hc; simp at hi
  obtain ⟨c0, c1, c2, c3⟩ := hc i hi
  generalize hx : F.getD i nd0 = x at *
  clear hc hx
  obtain ⟨k, xa, xb, xn⟩ := x
  dsimp only at *
  subst hk
  have e : shS ⟨6, xa, xb, xn⟩ (sh F) = [88] ++ sh F xa.toNat := by simp [shS]
  rw [e, ← str_app]
  have exa : ((xa.toNat : Nat) : Int) = xa := by omega
  have HI : Hid (∀ W, Below w.heap.size w W → Calls Tryd.prog 37 #[.slice (some ⟨b, off, none⟩) F.length cap, .int .i64 xa] W fun e w' => e = .returned (.string ⟨(sh F xa.toNat).toArray⟩) ∧ Below W.heap.size W w') := hide fun W hb => by
    have := ih W _ (HV.out.below hb)
    rw [exa] at this
    exact this
  have hsz : (⟨(sh F xa.toNat).toArray⟩ : ByteArray).size ≤ 100000 := by
    show (sh F xa.toNat).toArray.size ≤ 100000
    simp; omega
  clear ih hl hpw exa e
  generalize (⟨(sh F xa.toNat).toArray⟩ : ByteArray) = B at *
  go_enter Tryd.func37, Tryd.ntmps37
  go_wp2_with (fail)
  refine (HI.out _ ?_).mono ?_
  focus (exact (by repeat (first | exact Below.refl _ _ | assumption | refine below_drewN ?_ _ | refine Below.drew ?_ | refine Below.alloc ?_ (by simp <;> omega) _ | refine below_trans ?_ (by assumption))))
  rintro e w1 ⟨rfl, hb1⟩
  go_wp2_with (fail)
  go_ret
  exact ⟨rfl, (by repeat (first | exact Below.refl _ _ | assumption | refine below_drewN ?_ _ | refine Below.drew ?_ | refine Below.alloc ?_ (by simp <;> omega) _ | refine below_trans ?_ (by assumption)))⟩
end Go.Proofs.YtpiacnnifdjlkaaDoor

/-
  A region that draws its order, by what each operation leaves: one obligation an operation, whatever the order.
-/
namespace Go.Proofs.YtpiacnnifdjlkaaDoor

/-- The temporary of operation number i. -/
def dstAt (ops : Array Oper) (i : Nat) : Option Tmp := (ops[i]?).bind (·.dst)

/-- What is asked of a region's text: no guards; each operation waits for earlier ones alone; the temporaries are apart and lie. -/
def orderly (ops : Array Oper) (n : Nat) : Bool :=
  (List.range ops.size).all fun i => match ops[i]? with
    | none => false
    | some o => o.guard.isNone && o.after.toList.all (fun e => !Region.binds .any e || decide (e.on < i)) &&
      (match o.dst with
       | none => true
       | some d => decide (d < n) && (List.range ops.size).all fun j => i == j || dstAt ops j != some d)

/-- The temporaries once all operations are done. -/
def putAll (ops : Array Oper) (vs : Nat → Value) : List Nat → Array Value → Array Value
  | [], t => t
  | i :: l, t => putAll ops vs l (match dstAt ops i with | some d => t.setIfInBounds d (vs i) | none => t)

theorem putAll_size (ops : Array Oper) (vs : Nat → Value) : ∀ (l : List Nat) (t : Array Value), (putAll ops vs l t).size = t.size
  | [], _ => rfl
  | i :: l, t => by
    rw [putAll, putAll_size ops vs l]
    cases dstAt ops i <;> simp

theorem putAll_other (ops : Array Oper) (vs : Nat → Value) (k : Nat) : ∀ (l : List Nat) (t : Array Value), (∀ i ∈ l, dstAt ops i ≠ some k) → (putAll ops vs l t)[k]? = t[k]?
  | [], _, _ => rfl
  | i :: l, t, h => by
    rw [putAll, putAll_other ops vs k l _ (fun j hj => h j (List.mem_cons_of_mem _ hj))]
    have := h i (List.mem_cons_self ..)
    cases hd : dstAt ops i with
    | none => rfl
    | some d =>
      have hne : d ≠ k := fun e => this (by rw [hd, e])
      simp [hne]

theorem putAll_own (ops : Array Oper) (vs : Nat → Value) (k i : Nat) (hd : dstAt ops i = some k) : ∀ (l : List Nat) (t : Array Value), k < t.size → i ∈ l → (∀ j ∈ l, dstAt ops j = some k → j = i) → (putAll ops vs l t)[k]? = some (vs i)
  | [], _, _, h, _ => by cases h
  | j :: l, t, hk, h, hu => by
    rw [putAll]
    by_cases hm : i ∈ l
    · refine putAll_own ops vs k i hd l _ ?_ hm (fun j hj => hu j (List.mem_cons_of_mem _ hj))
      cases dstAt ops j <;> simp [hk]
    · have hij : i = j := (List.mem_cons.1 h).resolve_right hm
      subst hij
      rw [putAll_other ops vs k l _ (fun j hj e => hm (by rw [← hu j (List.mem_cons_of_mem _ hj) e]; exact hj)), hd]
      simp [hk]

section
variable {P : Program} {ops : Array Oper} {Q : Exit → Act → World → Prop} {W : World → Prop} {R : Nat → Value → World → Prop} {a0 : Act}

/-- How things stand when these operations are done. -/
structure Amid (ops : Array Oper) (W : World → Prop) (R : Nat → Value → World → Prop) (a0 : Act) (listed : Array Bool) (a : Act) (w : World) : Prop where
  size : listed.size = ops.size
  tsize : a.tmps.size = a0.tmps.size
  defers : a.defers = a0.defers
  wld : W w
  rest : ∀ t, (∀ i, listed[i]? = some true → dstAt ops i ≠ some t) → a.tmps[t]? = a0.tmps[t]?
  done : ∀ i, listed[i]? = some true → ∃ v, R i v w ∧ ∀ d, dstAt ops i = some d → a.tmps[d]? = some v

/-- An operation waits for operation number j. -/
def dep (o : Oper) (j : Nat) : Bool := o.after.toList.any fun e => Region.binds .any e && e.on == j

/-- No operation of the region writes this temporary. -/
def free (ops : Array Oper) (t : Nat) : Bool := ops.toList.all fun o => o.dst != some t

theorem free_out {t : Nat} (h : free ops t = true) (j : Nat) : dstAt ops j ≠ some t := by
  unfold dstAt
  cases hj : ops[j]? with
  | none => simp
  | some o =>
    have hm : o ∈ ops.toList := by simpa using Array.mem_of_getElem? hj
    have := List.all_eq_true.1 h o hm
    simpa using this

/-- What is asked of an operation. -/
def StepOk (P : Program) (ops : Array Oper) (Q : Exit → Act → World → Prop) (W : World → Prop) (R : Nat → Value → World → Prop) (a0 : Act) (i : Nat) (o : Oper) : Prop :=
  ∀ (a : Act) (w : World) (vs : Nat → Value), W w → (∀ t, free ops t = true → a.eval (.tmp t) = a0.eval (.tmp t)) →
    (∀ j, dep o j = true → R j (vs j) w ∧ ∀ d, dstAt ops j = some d → a.eval (.tmp d) = vs j) →
    o.wp P a w (fun a' w' => ∃ v, a' = a.put o.dst v ∧ W w' ∧ R i v w' ∧ ∀ j x, R j x w → R j x w') Q

theorem orderly_at (h : orderly ops a0.tmps.size = true) {i : Nat} {o : Oper} (hi : ops[i]? = some o) :
    o.guard = none ∧ (∀ e ∈ o.after.toList, Region.binds .any e = true → e.on < i) ∧ ∀ d, o.dst = some d → d < a0.tmps.size ∧ ∀ j, dstAt ops j = some d → j = i := by
  unfold orderly at h
  have hlt : i < ops.size := by
    rcases Nat.lt_or_ge i ops.size with h | h
    · exact h
    · rw [Array.getElem?_eq_none h] at hi; cases hi
  have := List.all_eq_true.1 h i (List.mem_range.2 hlt)
  rw [hi] at this
  simp only [Bool.and_eq_true] at this
  obtain ⟨⟨h1, h2⟩, h3⟩ := this
  refine ⟨by simpa using h1, fun e he hb => ?_, fun d hd => ?_⟩
  · have := List.all_eq_true.1 h2 e he
    rw [hb] at this
    simpa using this
  · rw [hd] at h3
    simp only [Bool.and_eq_true, decide_eq_true_eq] at h3
    refine ⟨h3.1, fun j hj => ?_⟩
    have hjl : j < ops.size := by
      rcases Nat.lt_or_ge j ops.size with h | h
      · exact h
      · unfold dstAt at hj; rw [Array.getElem?_eq_none h] at hj; cases hj
    have := List.all_eq_true.1 h3.2 j (List.mem_range.2 hjl)
    rw [hj] at this
    have : i = j := by simpa using this
    exact this.symm

theorem all_listed (h : orderly ops a0.tmps.size = true) {listed : Array Bool} (hs : listed.size = ops.size) (hr : Region.ready .any ops listed = []) : ∀ i, i < ops.size → listed[i]? = some true := by
  intro i
  induction i using Nat.strongRecOn with
  | ind i ih =>
    intro hi
    have ho : ops[i]? = some ops[i] := Array.getElem?_eq_getElem hi
    have hl : listed[i]? = some (listed[i]'(by omega)) := Array.getElem?_eq_getElem (by omega)
    cases hb : listed[i]'(by omega) with
    | true => rw [hl, hb]
    | false =>
      exfalso
      have hm : i ∈ Region.ready .any ops listed := by
        unfold Region.ready
        refine List.mem_filter.2 ⟨List.mem_range.2 hi, ?_⟩
        rw [hb] at hl
        simp only [Array.getD_eq_getD_getElem?, hl, ho, Option.map_some, Option.getD_some, Bool.not_false, Bool.true_and]
        rw [Array.all_eq_true_iff_forall_mem]
        intro e he
        cases hbi : Region.binds .any e with
        | false => rfl
        | true =>
          have hlt := (orderly_at h ho).2.1 e (by simpa using he) hbi
          rw [ih e.on hlt (by omega)]
          rfl
      rw [hr] at hm
      cases hm

theorem amid_end (h : orderly ops a0.tmps.size = true) {listed : Array Bool} {a : Act} {w : World} (hA : Amid ops W R a0 listed a w) (hr : Region.ready .any ops listed = [])
    (hend : ∀ (vs : Nat → Value) (w : World), W w → (∀ i, i < ops.size → R i (vs i) w) → Q .normal { a0 with tmps := putAll ops vs (List.range ops.size) a0.tmps } w) : Q .normal a w := by
  have hall := all_listed h hA.size hr
  have hex : ∀ i, ∃ v, i < ops.size → R i v w ∧ ∀ d, dstAt ops i = some d → a.tmps[d]? = some v := fun i => by
    by_cases hi : i < ops.size
    · obtain ⟨v, hv⟩ := hA.done i (hall i hi)
      exact ⟨v, fun _ => hv⟩
    · exact ⟨undef, fun h => absurd h hi⟩
  obtain ⟨vs, hvs⟩ := Classical.axiomOfChoice hex
  have ha : a = { a0 with tmps := putAll ops vs (List.range ops.size) a0.tmps } := by
    obtain ⟨t, d⟩ := a
    have hd := hA.defers
    dsimp only at hd
    subst hd
    congr 1
    apply Array.ext_getElem?
    intro k
    by_cases hk : ∃ i, i < ops.size ∧ dstAt ops i = some k
    · obtain ⟨i, hi, hd⟩ := hk
      have ho : ops[i]? = some ops[i] := Array.getElem?_eq_getElem hi
      have hd' : ops[i].dst = some k := by
        unfold dstAt at hd
        rw [ho] at hd
        exact hd
      obtain ⟨hlt, hu⟩ := (orderly_at h ho).2.2 k hd'
      rw [putAll_own ops vs k i hd _ _ hlt (List.mem_range.2 hi) (fun j _ hj => hu j hj)]
      exact (hvs i hi).2 k hd
    · rw [putAll_other ops vs k _ _ (fun i hi hd => hk ⟨i, List.mem_range.1 hi, hd⟩)]
      refine hA.rest k fun i hi hd => hk ⟨i, ?_, hd⟩
      have := (Array.getElem?_eq_some_iff.1 hi).1
      have := hA.size
      omega
  rw [ha]
  exact hend vs w hA.wld fun i hi => (hvs i hi).1

theorem wpAny_amid (h : orderly ops a0.tmps.size = true) (hstep : ∀ i o, ops[i]? = some o → StepOk P ops Q W R a0 i o)
    (hend : ∀ (vs : Nat → Value) (w : World), W w → (∀ i, i < ops.size → R i (vs i) w) → Q .normal { a0 with tmps := putAll ops vs (List.range ops.size) a0.tmps } w) :
    ∀ (fuel : Nat) (listed : Array Bool) (a : Act) (w : World), listed.toList.count false ≤ fuel → Amid ops W R a0 listed a w → wpAny P .any ops Q fuel listed a w := by
  intro fuel
  induction fuel with
  | zero =>
    intro listed a w hc hA
    have hr : Region.ready .any ops listed = [] := by
      unfold Region.ready
      refine List.filter_eq_nil_iff.2 fun i hi => ?_
      have hl : i < listed.size := by rw [hA.size]; exact List.mem_range.1 hi
      have hn : false ∉ listed.toList := List.count_eq_zero.1 (by omega)
      cases hb : listed[i] with
      | true => simp [Array.getD_eq_getD_getElem?, Array.getElem?_eq_getElem hl, hb]
      | false => exact absurd (by rw [← hb]; simp) hn
    exact ⟨hr, amid_end h hA hr hend⟩
  | succ fuel ih =>
    intro listed a w hc hA
    refine ⟨fun hr => amid_end h hA hr hend, fun i hi => ?_⟩
    unfold Region.ready at hi
    obtain ⟨hi1, hi2⟩ := List.mem_filter.1 hi
    have hio : i < ops.size := List.mem_range.1 hi1
    have hil : i < listed.size := by rw [hA.size]; exact hio
    have ho : ops[i]? = some ops[i] := Array.getElem?_eq_getElem hio
    obtain ⟨hg, hback, hdst⟩ := orderly_at h ho
    simp only [Array.getD_eq_getD_getElem?, Array.getElem?_eq_getElem hil, ho, Option.map_some, Option.getD_some, Bool.and_eq_true, Bool.not_eq_true'] at hi2
    obtain ⟨hf, hdeps⟩ := hi2
    have hw : Region.wanted ops[i] (yielded ops a.tmps) = true := by simp [Region.wanted, hg]
    unfold wpOp
    rw [ho]
    simp only [hw, if_true]
    refine Or.inl ?_
    have hex : ∀ j, ∃ v, listed[j]? = some true → R j v w ∧ ∀ d, dstAt ops j = some d → a.tmps[d]? = some v := fun j => by
      by_cases hj : listed[j]? = some true
      · obtain ⟨v, hv⟩ := hA.done j hj
        exact ⟨v, fun _ => hv⟩
      · exact ⟨undef, fun h => absurd h hj⟩
    obtain ⟨vs, hvs⟩ := Classical.axiomOfChoice hex
    refine Oper.wp_mono ?_ (hstep i _ ho a w vs hA.wld ?_ ?_)
    · rintro a' w' ⟨v, rfl, hW', hR', hst⟩
      refine ih _ _ _ ?_ ?_
      · rw [Array.toList_setIfInBounds]
        have := List.count_set (a := true) (b := false) (l := listed.toList) (i := i) (by simpa using hil)
        rw [this]
        have e : (listed.toList[i]'(by simpa using hil)) = false := by simpa using hf
        rw [e]
        have hp : 0 < listed.toList.count false := List.count_pos_iff.2 (by rw [← e]; simp)
        rw [if_pos (by rfl), if_neg (by decide)]
        omega
      · have hin : ∀ j, (listed.setIfInBounds i true)[j]? = some true → j = i ∨ (j ≠ i ∧ listed[j]? = some true) := fun j hj => by
          by_cases e : j = i
          · exact Or.inl e
          · rw [Array.getElem?_setIfInBounds, if_neg (fun e' => e e'.symm)] at hj
            exact Or.inr ⟨e, hj⟩
        have hmine : (listed.setIfInBounds i true)[i]? = some true := by rw [Array.getElem?_setIfInBounds, if_pos rfl, if_pos hil]
        have hdi : dstAt ops i = ops[i].dst := by unfold dstAt; rw [ho]; rfl
        refine ⟨by simpa using hA.size, ?_, ?_, hW', fun t ht => ?_, fun j hj => ?_⟩
        · cases hd : ops[i].dst <;> simp [Act.put, hA.tsize]
        · cases hd : ops[i].dst <;> simp [Act.put, hA.defers]
        · have h1 := ht i hmine
          have h2 := hA.rest t fun j hj => ht j (by
            by_cases e : j = i
            · rw [e]; exact hmine
            · rw [Array.getElem?_setIfInBounds, if_neg (fun e' => e e'.symm)]; exact hj)
          cases hd : ops[i].dst with
          | none => exact h2
          | some d =>
            have hne : d ≠ t := fun e => h1 (by rw [hdi, hd, e])
            simp only [Act.put]
            rw [Array.getElem?_setIfInBounds, if_neg hne]
            exact h2
        · rcases hin j hj with rfl | ⟨hne, hj'⟩
          · refine ⟨v, hR', fun d hd => ?_⟩
            rw [hdi] at hd
            have := (hdst d hd).1
            simp only [Act.put, hd]
            rw [Array.getElem?_setIfInBounds, if_pos rfl, if_pos (by rw [hA.tsize]; exact this)]
          · obtain ⟨u, hu1, hu2⟩ := hA.done j hj'
            refine ⟨u, hst j u hu1, fun d hd => ?_⟩
            cases hdd : ops[i].dst with
            | none => exact hu2 d hd
            | some d' =>
              have hne' : d' ≠ d := fun e => hne ((hdst d' hdd).2 j (by rw [e]; exact hd))
              simp only [Act.put]
              rw [Array.getElem?_setIfInBounds, if_neg hne']
              exact hu2 d hd
    · intro t ht
      have := hA.rest t fun j _ => free_out ht j
      simp only [Act.eval, Array.getD_eq_getD_getElem?, this]
    · intro j hj
      obtain ⟨e, he, hbe⟩ := List.any_eq_true.1 hj
      rw [Bool.and_eq_true] at hbe
      obtain ⟨hb, hej⟩ := hbe
      obtain rfl : e.on = j := by simpa using hej
      have hlt := hback e he hb
      have hd := Array.all_eq_true_iff_forall_mem.1 hdeps e (by simpa using he)
      rw [hb] at hd
      have hel : listed[e.on]? = some true := by
        have hee : e.on < listed.size := by omega
        rw [Array.getElem?_eq_getElem hee] at hd ⊢
        simpa using hd
      obtain ⟨h1, h2⟩ := hvs e.on hel
      refine ⟨h1, fun d hd => ?_⟩
      simp only [Act.eval, Array.getD_eq_getD_getElem?, h2 d hd, Option.getD_some]

/-- ONE OBLIGATION AN OPERATION: what each leaves (R) holds on through what the others do. -/
theorem wp_region_amid {id : Nat} {a0 : Act} {w : World} (W : World → Prop) (R : Nat → Value → World → Prop) (hm : P.follows .mixedOrders = true) (h : orderly ops a0.tmps.size = true)
    (h0 : W { w with drawn := w.drawn + 1 }) (hstep : ∀ i o, ops[i]? = some o → StepOk P ops Q W R a0 i o)
    (hend : ∀ (vs : Nat → Value) (w : World), W w → (∀ i, i < ops.size → R i (vs i) w) → Q .normal { a0 with tmps := putAll ops vs (List.range ops.size) a0.tmps } w) : (Code.region id ops true).wp P Q a0 w := by
  refine wp_region_any hm (wpAny_amid h hstep hend _ _ _ _ ?_ ⟨by simp, rfl, rfl, h0, fun _ _ => rfl, fun i hi => ?_⟩)
  · exact Nat.le_trans (List.count_le_length) (by simp)
  · simp [Array.getElem?_replicate] at hi
end
end Go.Proofs.YtpiacnnifdjlkaaDoor

namespace Go.Proofs.YtpiacnnifdjlkaaDoor

section
variable {P : Program} {ops : Array Oper} {Q : Exit → Act → World → Prop} {W : World → Prop} {R : Nat → Value → World → Prop} {a0 : Act} {i : Nat} {o : Oper}

theorem eval_tmp (a : Act) (d : Nat) : a.eval (.tmp d) = a.tmps[d]?.getD undef := by simp [Act.eval]

/-- What an operation that is waited for has left. -/
theorem dep_val {a : Act} {w : World} {vs : Nat → Value} (hd : ∀ j, dep o j = true → R j (vs j) w ∧ ∀ d, dstAt ops j = some d → a.eval (.tmp d) = vs j) (j d : Nat) (h1 : dep o j = true) (h2 : dstAt ops j = some d) : R j (a.tmps[d]?.getD undef) w := by
  obtain ⟨h, h'⟩ := hd j h1
  rw [← eval_tmp, h' d h2]
  exact h

theorem free_val {a : Act} (he : ∀ t, free ops t = true → a.eval (.tmp t) = a0.eval (.tmp t)) (t : Nat) (h : free ops t = true) : a.tmps[t]?.getD undef = a0.tmps[t]?.getD undef := by
  rw [← eval_tmp, ← eval_tmp]
  exact he t h

theorem stepOk_val (h : ∀ (a : Act) (w : World) (vs : Nat → Value), W w → (∀ t, free ops t = true → a.eval (.tmp t) = a0.eval (.tmp t)) →
      (∀ j, dep o j = true → R j (vs j) w ∧ ∀ d, dstAt ops j = some d → a.eval (.tmp d) = vs j) → ∃ v, (execOp a.eval o).run P w = .ok (.value v) w ∧ R i v w) : StepOk P ops Q W R a0 i o := by
  intro a w vs hW he hd
  obtain ⟨v, hr, hR⟩ := h a w vs hW he hd
  unfold Oper.wp
  rw [hr]
  exact ⟨v, rfl, hW, hR, fun _ _ h => h⟩

theorem stepOk_new (h : ∀ (a : Act) (w : World) (vs : Nat → Value), W w → (∀ t, free ops t = true → a.eval (.tmp t) = a0.eval (.tmp t)) →
      (∀ j, dep o j = true → R j (vs j) w ∧ ∀ d, dstAt ops j = some d → a.eval (.tmp d) = vs j) → ∃ v w', (execOp a.eval o).run P w = .ok (.value v) w' ∧ W w' ∧ R i v w' ∧ ∀ j x, R j x w → R j x w') : StepOk P ops Q W R a0 i o := by
  intro a w vs hW he hd
  obtain ⟨v, w', hr, hW', hR, hst⟩ := h a w vs hW he hd
  unfold Oper.wp
  rw [hr]
  exact ⟨v, rfl, hW', hR, hst⟩

theorem stepOk_call (h : ∀ (a : Act) (w : World) (vs : Nat → Value), W w → (∀ t, free ops t = true → a.eval (.tmp t) = a0.eval (.tmp t)) →
      (∀ j, dep o j = true → R j (vs j) w ∧ ∀ d, dstAt ops j = some d → a.eval (.tmp d) = vs j) →
      ∃ f args, (execOp a.eval o).run P w = .ok (.enter f args) w ∧ Calls P f args w fun e w' => ∃ v, e = .returned v ∧ W w' ∧ R i v w' ∧ ∀ j x, R j x w → R j x w') : StepOk P ops Q W R a0 i o := by
  intro a w vs hW he hd
  obtain ⟨f, args, hr, hc⟩ := h a w vs hW he hd
  unfold Oper.wp
  rw [hr, Oper.upon_enter]
  exact hc.mono fun e w' ⟨v, he, h1, h2, h3⟩ => by subst he; exact ⟨v, rfl, h1, h2, h3⟩
end
end Go.Proofs.YtpiacnnifdjlkaaDoor
