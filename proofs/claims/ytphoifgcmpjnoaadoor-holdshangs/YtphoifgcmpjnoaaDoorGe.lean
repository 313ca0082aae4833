/-
  What appendNode and Print of package formula answer.
-/
import Derived.Test.YtphoifgcmpjnoaaDoorGc
namespace Go.Proofs.YtphoifgcmpjnoaaDoor
open Go.RowKit Go.Sort

theorem itoa_few (n : Int) (h : 0 ≤ n ∧ n ≤ 2) : Lib.itoa n = [UInt8.ofNat (48 + n.toNat)] := by
  obtain rfl | rfl | rfl : n = 0 ∨ n = 1 ∨ n = 2 := by omega
  all_goals decide +kernel

set_option maxRecDepth 100000 in
set_option maxHeartbeats 4000000 in
theorem app_true {F : List Nd} (hF : AllOk F) (i : Nat) (hi : i < F.length) (hk : (F.getD i nd0).k = 1) : AppOk F i := by
  intro w B r fv sv bs h hP hlen
  have hsh : sh F i = [116, 114, 117, 101] := by
    rw [sh_eq hF i hi]
    unfold shS
    rw [if_pos hk]
  rw [hsh] at hlen ⊢
  clear hsh
  obtain ⟨hN, hS⟩ := hP.all w (Below.refl _ _)
  obtain ⟨fa, fc, hfv, hfm, hc, -⟩ := hN
  subst hfv
  rcases hc with hc | ⟨b, off, rfl, hc⟩
  · rw [hc] at hi; simp at hi
  obtain ⟨d0, d1, d2, d3⟩ := hc i hi
  have hlk0 := (run_lookup_sign (w := w.alloc (Obj.cells #[.int .i64 (F.getD i nd0).k, .int .i64 (F.getD i nd0).a, .int .i64 (F.getD i nd0).b, .int .i64 (F.getD i nd0).n] 74)) (hS.below (below_new w _)) (F.getD i nd0).k).1
  have hsg : (sgOf (F.getD i nd0).k).getD sg0 = ⟨[116, 114, 117, 101], 0, false, false, 0⟩ := by rw [hk]; rfl
  rw [hsg] at hlk0
  unfold sgV at hlk0
  have HA := hide h
  clear hc hsg h hk hP hS
  generalize F.getD i nd0 = x at *
  obtain ⟨k, xa, xb, xn⟩ := x
  dsimp only at *
  simp only [List.length_cons, List.length_nil] at hlen
  have X := hide (two_box (w := w) (a := Obj.cells #[.int .i64 k, .int .i64 xa, .int .i64 xb, .int .i64 xn] 74) (b := Obj.cells #[.string ⟨[116, 114, 117, 101].toArray⟩, .int .i64 0, .bool false, .bool false, .int .i64 0] 119) rfl)
  go_enter Tryd.func71, Tryd.ntmps71
  go_wp2_with (at_builtin; refine wp_appStr ((HA.out.alloc _).alloc _).again rfl (.tmp 48) (.tmp 50) [116, 114, 117, 101] rfl rfl rfl (by simp; omega) ?_; intro v7 w7 hap7; have q7 : w7.cell? ⟨w.heap.size + 1, 1, none⟩ = some (.int .i64 0) := box_cell (hap7.box X.out.2.1 (by decide)) rfl; have q8 : w7.cell? ⟨w.heap.size + 1, 2, none⟩ = some (.bool false) := box_cell (hap7.box X.out.2.1 (by decide)) rfl; have HA7 := hide hap7; clear hap7)
  go_ret
  exact ⟨_, rfl, ((HA.out.alloc _).alloc _).trans HA7.out⟩

set_option maxRecDepth 100000 in
set_option maxHeartbeats 4000000 in
theorem app_prop {F : List Nd} (hF : AllOk F) (i : Nat) (hi : i < F.length) (hk : (F.getD i nd0).k = 2) : AppOk F i := by
  intro w B r fv sv bs h hP hlen
  have hsh : sh F i = [112, UInt8.ofNat (48 + (F.getD i nd0).n.toNat)] := by
    rw [sh_eq hF i hi]
    unfold shS
    rw [if_neg (by omega), if_pos hk]
  have hxn := (node_ok (hF i hi)).2.2.2 hk
  have hit := itoa_few _ hxn
  rw [hsh] at hlen ⊢
  clear hsh
  obtain ⟨hN, hS⟩ := hP.all w (Below.refl _ _)
  obtain ⟨fa, fc, hfv, hfm, hc, -⟩ := hN
  subst hfv
  rcases hc with hc | ⟨b, off, rfl, hc⟩
  · rw [hc] at hi; simp at hi
  obtain ⟨d0, d1, d2, d3⟩ := hc i hi
  have hlk0 := (run_lookup_sign (w := w.alloc (Obj.cells #[.int .i64 (F.getD i nd0).k, .int .i64 (F.getD i nd0).a, .int .i64 (F.getD i nd0).b, .int .i64 (F.getD i nd0).n] 74)) (hS.below (below_new w _)) (F.getD i nd0).k).1
  have hsg : (sgOf (F.getD i nd0).k).getD sg0 = ⟨[112], 0, true, false, 0⟩ := by rw [hk]; rfl
  rw [hsg] at hlk0
  unfold sgV at hlk0
  have HA := hide h
  have HP := hide hP
  clear hc hsg h hk hP hS
  generalize F.getD i nd0 = x at *
  obtain ⟨k, xa, xb, xn⟩ := x
  dsimp only at *
  simp only [List.length_cons, List.length_nil] at hlen
  have HXN := hide hxn
  have HIT := hide hit
  clear hit hxn
  have X := hide (two_box (w := w) (a := Obj.cells #[.int .i64 k, .int .i64 xa, .int .i64 xb, .int .i64 xn] 74) (b := Obj.cells #[.string ⟨[112].toArray⟩, .int .i64 0, .bool true, .bool false, .int .i64 0] 119) rfl)
  go_enter Tryd.func71, Tryd.ntmps71
  go_wp2_with (at_builtin; refine wp_appStr ((HA.out.alloc _).alloc _).again rfl (.tmp 48) (.tmp 50) [112] rfl rfl rfl (by simp; omega) ?_; intro v7 w7 hap7; have q7 : w7.cell? ⟨w.heap.size + 1, 1, none⟩ = some (.int .i64 0) := box_cell (hap7.box X.out.2.1 (by decide)) rfl; have q8 : w7.cell? ⟨w.heap.size + 1, 2, none⟩ = some (.bool true) := box_cell (hap7.box X.out.2.1 (by decide)) rfl; have q9 : w7.cell? ⟨w.heap.size, 3, none⟩ = some (.int .i64 xn) := box_cell (hap7.box X.out.1 (by decide)) rfl; have HA7 := hide hap7; clear hap7)
  have HA8 := hide (((HA.out.alloc _).alloc _).trans HA7.out)
  refine (appendInt_any B _ xn (by have := HXN.out; omega) (by have := HXN.out; omega) _ _ w7 HA8.out.own HA8.out.hB (by simp; omega) (HP.out.tab.on HA8.out.below)).mono ?_
  rintro e w9 ⟨v9, rfl, hown9, hb9, hk9⟩
  rw [HIT.out] at hown9
  have HA9 : Hid (AP B w7 w9 v9 (bs ++ [112] ++ [UInt8.ofNat (48 + xn.toNat)])) := hide ⟨by rw [List.length_append, Lib.byteCells_append]; exact hown9, hb9, hk9, Nat.le_trans HA8.out.hB hb9.size⟩
  clear hown9 hb9 hk9 q7 q8 q9
  go_wp2_with (fail)
  go_ret
  exact ⟨_, rfl, by simpa using HA8.out.trans HA9.out⟩

set_option maxRecDepth 100000 in
set_option maxHeartbeats 4000000 in
theorem app_one {F : List Nd} (hF : AllOk F) (i : Nat) (hi : i < F.length) (hk : (F.getD i nd0).k = 3 ∨ (F.getD i nd0).k = 6) (ih : AppOk F (F.getD i nd0).a.toNat) : AppOk F i := by
  intro w B r fv sv bs h hP hlen
  obtain ⟨sb, tp, op, hsh, hsg⟩ : ∃ sb tp op, sh F i = sb :: sh F (F.getD i nd0).a.toNat ∧ (sgOf (F.getD i nd0).k).getD sg0 = ⟨[sb], 1, false, tp, op⟩ := by
    rw [sh_eq hF i hi]
    unfold shS
    rcases hk with hk | hk
    · rw [if_neg (by omega), if_neg (by omega), if_pos hk, hk]
      exact ⟨_, _, _, rfl, rfl⟩
    · rw [if_neg (by omega), if_neg (by omega), if_neg (by omega), if_pos hk, hk]
      exact ⟨_, _, _, rfl, rfl⟩
  rw [hsh] at hlen ⊢
  clear hsh
  obtain ⟨_, ⟨xa0, xa1, _⟩, _⟩ := node_ok (hF i hi)
  obtain ⟨hN, hS⟩ := hP.all w (Below.refl _ _)
  obtain ⟨fa, fc, hfv, hfm, hc, -⟩ := hN
  subst hfv
  rcases hc with hc | ⟨b, off, rfl, hc⟩
  · rw [hc] at hi; simp at hi
  obtain ⟨d0, d1, d2, d3⟩ := hc i hi
  have hlk0 := (run_lookup_sign (w := w.alloc (Obj.cells #[.int .i64 (F.getD i nd0).k, .int .i64 (F.getD i nd0).a, .int .i64 (F.getD i nd0).b, .int .i64 (F.getD i nd0).n] 74)) (hS.below (below_new w _)) (F.getD i nd0).k).1
  rw [hsg] at hlk0
  unfold sgV at hlk0
  have ea : ((F.getD i nd0).a.toNat : Int) = (F.getD i nd0).a := by omega
  have HI := hide ih
  unfold AppOk at HI
  rw [ea] at HI
  have HA := hide h
  have HP := hide hP
  clear hc hsg h hk hP hS ih ea xa0 xa1
  generalize sh F (F.getD i nd0).a.toNat = ta at *
  generalize F.getD i nd0 = x at *
  obtain ⟨k, xa, xb, xn⟩ := x
  dsimp only at *
  simp only [List.length_cons] at hlen
  have X := hide (two_box (w := w) (a := Obj.cells #[.int .i64 k, .int .i64 xa, .int .i64 xb, .int .i64 xn] 74) (b := Obj.cells #[.string ⟨[sb].toArray⟩, .int .i64 1, .bool false, .bool tp, .int .i64 op] 119) rfl)
  go_enter Tryd.func71, Tryd.ntmps71
  go_wp2_with (at_builtin; refine wp_appStr ((HA.out.alloc _).alloc _).again rfl (.tmp 48) (.tmp 50) [sb] rfl rfl rfl (by simp; omega) ?_; intro v7 w7 hap7; have q7 : w7.cell? ⟨w.heap.size + 1, 1, none⟩ = some (.int .i64 1) := box_cell (hap7.box X.out.2.1 (by decide)) rfl; have q9 : w7.cell? ⟨w.heap.size, 1, none⟩ = some (.int .i64 xa) := box_cell (hap7.box X.out.1 (by decide)) rfl; have HA7 := hide hap7; clear hap7)
  have HA8 := hide (((HA.out.alloc _).alloc _).trans HA7.out)
  refine (HI.out _ B r _ _ _ HA8.out.again (HP.out.on HA8.out.below) (by simp; omega)).mono ?_
  rintro e w9 ⟨v9, rfl, hap9⟩
  have HA9 := hide hap9
  clear hap9 q7 q9 HI
  go_wp2_with (fail)
  go_ret
  exact ⟨_, rfl, by simpa using HA8.out.trans HA9.out⟩

theorem app_any {F : List Nd} (hF : AllOk F) : ∀ i, i < F.length → AppOk F i := by
  intro i
  induction i using Nat.strongRecOn with
  | ind i ih =>
    intro hi
    obtain ⟨hk, ⟨a0, a1, _⟩, ⟨b0, b1, _⟩, _⟩ := node_ok (hF i hi)
    by_cases h1 : (F.getD i nd0).k = 1
    · exact app_true hF i hi h1
    by_cases h2 : (F.getD i nd0).k = 2
    · exact app_prop hF i hi h2
    have ha := a1 (by omega)
    by_cases h3 : (F.getD i nd0).k = 3 ∨ (F.getD i nd0).k = 6
    · exact app_one hF i hi h3 (ih _ (by omega) (by omega))
    have hb := b1 (by omega)
    exact app_two hF i hi (by omega) (ih _ (by omega) (by omega)) (ih _ (by omega) (by omega))

/-- What Print answers. -/
def prt (F : List Nd) : List UInt8 := if chkF F = 0 then sh F (F.length - 1) else []
end Go.Proofs.YtphoifgcmpjnoaaDoor
