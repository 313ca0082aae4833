/-
  What formula.Print answers.
-/
import Derived.Test.YtpiacnnifdjlkaaDoorGh
/-
  What appendNode of package formula answers: the text of a node.
-/
namespace Go.Proofs.YtpiacnnifdjlkaaDoor
open Go.RowKit Go.Sort

/-- What a writer reads: the formula, the map of signs, the table of numerals; all of it below B. -/
structure PN (B : Nat) (w : World) (fv : Value) (F : List Nd) (r : Nat) : Prop where
  all : ∀ w1, Below B w w1 → NodeSl w1 fv F ∧ SgMap w1 r
  tab : Lib.TabBelow Tryd.prog B w "internal/strconv.uint64pow10" .u64 Lib.pow10Tab

theorem PN.on {B : Nat} {w w1 : World} {fv : Value} {F : List Nd} {r : Nat} (h : PN B w fv F r) (hb : Below B w w1) : PN B w1 fv F r := ⟨fun w2 h2 => h.all w2 (hb.trans h2), h.tab.on hb⟩

def AppOk (F : List Nd) (i : Nat) : Prop := ∀ (w : World) (B r : Nat) (fv sv : Value) (bs : List UInt8), AP B w w sv bs → PN B w fv F r → bs.length + (sh F i).length ≤ 800000 →
  Calls Tryd.prog 71 #[sv, fv, .int .i64 i, .map (some r)] w fun e w' => ∃ v', e = .returned v' ∧ AP B w w' v' (bs ++ sh F i)

theorem two_box {w w2 : World} {a b : Obj} (h : w2 = (w.alloc a).alloc b) : w2.heap[w.heap.size]? = some a ∧ w2.heap[w.heap.size + 1]? = some b ∧ w.heap.size + 2 = w2.heap.size := by
  subst h
  refine ⟨?_, ?_, by simp⟩
  · have := heap_alloc_old (w.alloc a) b (r := w.heap.size) (by simp)
    rw [this]
    exact heap_alloc_new w a
  · have := heap_alloc_new (w.alloc a) b
    simpa using this

set_option maxRecDepth 100000 in
set_option maxHeartbeats 4000000 in
theorem app_two {F : List Nd} (hF : AllOk F) (i : Nat) (hi : i < F.length) (hk : (F.getD i nd0).k = 4 ∨ (F.getD i nd0).k = 5 ∨ (F.getD i nd0).k = 7 ∨ (F.getD i nd0).k = 8) (ih : AppOk F (F.getD i nd0).a.toNat) (ihb : AppOk F (F.getD i nd0).b.toNat) : AppOk F i := by
  intro w B r fv sv bs h hP hlen
  have hsh : sh F i = 40 :: (sh F (F.getD i nd0).a.toNat ++ (32 :: signB (F.getD i nd0).k :: 32 :: (sh F (F.getD i nd0).b.toNat ++ [41]))) := by
    rw [sh_eq hF i hi]
    unfold shS
    rw [if_neg (by omega), if_neg (by omega), if_neg (by omega), if_neg (by omega)]
  rw [hsh] at hlen ⊢
  clear hsh
  obtain ⟨_, ⟨xa0, xa1, _⟩, ⟨xb0, xb1, xb2⟩, _⟩ := node_ok (hF i hi)
  obtain ⟨hN, hS⟩ := hP.all w (Below.refl _ _)
  obtain ⟨fa, fc, hfv, hfm, hc, -⟩ := hN
  subst hfv
  rcases hc with hc | ⟨b, off, rfl, hc⟩
  · rw [hc] at hi; simp at hi
  obtain ⟨d0, d1, d2, d3⟩ := hc i hi
  have hlk0 := (run_lookup_sign (w := w.alloc (Obj.cells #[.int .i64 (F.getD i nd0).k, .int .i64 (F.getD i nd0).a, .int .i64 (F.getD i nd0).b, .int .i64 (F.getD i nd0).n] 74)) (hS.below (below_new w _)) (F.getD i nd0).k).1
  have hsg : ∃ tp, (sgOf (F.getD i nd0).k).getD sg0 = ⟨[signB (F.getD i nd0).k], 2, false, tp, oppK (F.getD i nd0).k⟩ := by
    rcases hk with hk | hk | hk | hk <;> rw [hk] <;> exact ⟨_, rfl⟩
  obtain ⟨tp, hsg⟩ := hsg
  rw [hsg] at hlk0
  unfold sgV at hlk0
  have HI := hide ih
  have HIb := hide ihb
  have ea : ((F.getD i nd0).a.toNat : Int) = (F.getD i nd0).a := by omega
  have eb : ((F.getD i nd0).b.toNat : Int) = (F.getD i nd0).b := by omega
  unfold AppOk at HI HIb
  rw [ea] at HI
  rw [eb] at HIb
  simp only [List.length_cons, List.length_append, List.length_nil] at hlen
  have HP := hide hP
  have HA := hide h
  clear hc hsg h ea eb ih ihb xa0 xa1 xb0 xb1 xb2 hk hP hS
  generalize sh F (F.getD i nd0).a.toNat = ta at *
  generalize sh F (F.getD i nd0).b.toNat = tb at *
  generalize F.getD i nd0 = x at *
  obtain ⟨k, xa, xb, xn⟩ := x
  dsimp only at *
  generalize oppK k = kk at *
  generalize signB k = sb at *
  go_enter Tryd.func71, Tryd.ntmps71
  go_wp2_with (fail)
  obtain ⟨w2, hw2⟩ : ∃ w2, w2 = (w.alloc (Obj.cells #[.int .i64 k, .int .i64 xa, .int .i64 xb, .int .i64 xn] 74)).alloc (Obj.cells #[.string ⟨[sb].toArray⟩, .int .i64 2, .bool false, .bool tp, .int .i64 kk] 119) := ⟨_, rfl⟩
  have HA2 := hide (show AP B w w2 sv bs by rw [hw2]; exact (HA.out.alloc _).alloc _)
  obtain ⟨x1, x2, x3⟩ := two_box hw2
  rw [← hw2]
  have HAw := hide HA2.out.again
  have n1 : w2.cell? ⟨w.heap.size, 1, none⟩ = some (.int .i64 xa) := box_cell x1 rfl
  have hsz2 : w.heap.size < w2.heap.size := by omega
  have X1 := hide x1
  have X2 := hide x2
  clear hw2 x1 x2 d0 d1 d2 d3 hlk0
  go_region_law (first | (refine step_app1 (B := B) (w0 := w2) (bs := bs) (v := sv) ?_ rfl (.tmp 22) (.tmp 23) 40 rfl rfl _ _ rfl ?_ ?_ ?_; (focus (repeat (first | (with_reducible exact HAw.out) | (with_reducible refine AP.drew ?_) | (with_reducible refine AP.alloc ?_ _)))); (focus ((repeat (first | ((with_reducible refine cell_top _ _ _ _ _ _ ?_ ?_); (focus (first | rfl | (simp; done))); exact rfl) | (with_reducible refine cell_drew ?_) | (with_reducible refine cell_under _ _ ?_))))); (focus omega); intro v5 w5 hap5; have q5 : w5.cell? ⟨w.heap.size, 1, none⟩ = some (.int .i64 xa) := box_cell (hap5.box X1.out (by decide)) rfl) | (refine step_callG rfl 71 [.tmp 24, .tmp 25, .tmp 27, .tmp 28] _ rfl Tryd.call71 ?_; refine (HI.out _ B r _ _ (bs ++ [40]) ?_ ?_ ?_).mono ?_; (focus (first | exact hap5.again | exact hap5.drew.again | exact hap5.drew.drew.again)); (focus (first | exact HP.out.on (HA2.out.trans hap5).below | exact HP.out.on (HA2.out.trans hap5.drew).below | exact HP.out.on (HA2.out.trans hap5.drew.drew).below)); (focus (simp; omega)); rintro e w6 ⟨v6, rfl, hap6⟩; refine ⟨_, rfl, ?_⟩; have hap6' : AP B w2 w6 v6 (bs ++ [40] ++ ta) := (by first | exact hap5.trans hap6 | exact hap5.drew.trans hap6 | exact hap5.drew.drew.trans hap6)))
  all_goals
    have HA6 := hide hap6'
    clear hap5 hap6 hap6' q5 HI n1 hsz2
    go_wp2_with (at_builtin; first | (refine wp_app1 (HA6.out.alloc _) rfl (.tmp 30) (.tmp 31) 32 rfl rfl _ _ rfl (cell_top _ _ _ _ _ _ rfl rfl) (by simp; omega) ?_; intro v7 w7 hap7; have q7 : w7.cell? ⟨w.heap.size + 1, 0, none⟩ = some (.string ⟨[sb].toArray⟩) := box_cell (hap7.box X2.out (by decide)) rfl) | (refine wp_appStr hap7 rfl (.tmp 33) (.tmp 35) [sb] rfl rfl rfl (by simp; omega) ?_; intro v8 w8 hap8; clear hap7 q7) | (refine wp_app1 (hap8.alloc _) rfl (.tmp 37) (.tmp 38) 32 rfl rfl _ _ rfl (cell_top _ _ _ _ _ _ rfl rfl) (by simp; omega) ?_; intro v9 w9 hap9; clear hap8; have q9 : w9.cell? ⟨w.heap.size, 2, none⟩ = some (.int .i64 xb) := box_cell (hap9.box X1.out (by decide)) rfl))
    refine (HIb.out _ B r _ _ _ hap9.again (HP.out.on (HA2.out.trans hap9).below) (by simp; omega)).mono ?_
    rintro e w10 ⟨v10, rfl, hap10⟩
    have HA10 := hide (hap9.trans hap10)
    clear hap9 hap10 q9 HIb HA6
    go_wp2_with (at_builtin; refine wp_app1 (HA10.out.alloc _) rfl (.tmp 45) (.tmp 46) 41 rfl rfl _ _ rfl (cell_top _ _ _ _ _ _ rfl rfl) (by simp; omega) ?_; intro v11 w11 hap11; have HA11 := hide hap11; clear hap11)
    go_ret
    refine ⟨_, rfl, ?_⟩
    have := HA2.out.trans HA11.out
    simpa using this
end Go.Proofs.YtpiacnnifdjlkaaDoor

/-
  What appendNode and Print of package formula answer.
-/
namespace Go.Proofs.YtpiacnnifdjlkaaDoor
open Go.RowKit Go.Sort

theorem itoa_few (n : Int) (h : 0 ≤ n ∧ n ≤ 2) : Lib.itoa n = [UInt8.ofNat (48 + n.toNat)] := by
  obtain rfl | rfl | rfl : n = 0 ∨ n = 1 ∨ n = 2 := by omega
  all_goals decide +kernel

set_option maxRecDepth 100000 in
set_option maxHeartbeats 4000000 in
theorem app_true {F : List Nd} (hF : AllOk F) (i : Nat) (hi : i < F.length) (hk : (F.getD i nd0).k = 1) : AppOk F i := by
  intro w B r fv sv bs h hP hlen
  have hsh : sh F i = [116, 114, 117, 101] := by
    rw [sh_eq hF i hi]
    unfold shS
    rw [if_pos hk]
  rw [hsh] at hlen ⊢
  clear hsh
  obtain ⟨hN, hS⟩ := hP.all w (Below.refl _ _)
  obtain ⟨fa, fc, hfv, hfm, hc, -⟩ := hN
  subst hfv
  rcases hc with hc | ⟨b, off, rfl, hc⟩
  · rw [hc] at hi; simp at hi
  obtain ⟨d0, d1, d2, d3⟩ := hc i hi
  have hlk0 := (run_lookup_sign (w := w.alloc (Obj.cells #[.int .i64 (F.getD i nd0).k, .int .i64 (F.getD i nd0).a, .int .i64 (F.getD i nd0).b, .int .i64 (F.getD i nd0).n] 74)) (hS.below (below_new w _)) (F.getD i nd0).k).1
  have hsg : (sgOf (F.getD i nd0).k).getD sg0 = ⟨[116, 114, 117, 101], 0, false, false, 0⟩ := by rw [hk]; rfl
  rw [hsg] at hlk0
  unfold sgV at hlk0
  have HA := hide h
  clear hc hsg h hk hP hS
  generalize F.getD i nd0 = x at *
  obtain ⟨k, xa, xb, xn⟩ := x
  dsimp only at *
  simp only [List.length_cons, List.length_nil] at hlen
  have X := hide (two_box (w := w) (a := Obj.cells #[.int .i64 k, .int .i64 xa, .int .i64 xb, .int .i64 xn] 74) (b := Obj.cells #[.string ⟨[116, 114, 117, 101].toArray⟩, .int .i64 0, .bool false, .bool false, .int .i64 0] 119) rfl)
  go_enter Tryd.func71, Tryd.ntmps71
  go_wp2_with (at_builtin; refine wp_appStr ((HA.out.alloc _).alloc _).again rfl (.tmp 48) (.tmp 50) [116, 114, 117, 101] rfl rfl rfl (by simp; omega) ?_; intro v7 w7 hap7; have q7 : w7.cell? ⟨w.heap.size + 1, 1, none⟩ = some (.int .i64 0) := box_cell (hap7.box X.out.2.1 (by decide)) rfl; have q8 : w7.cell? ⟨w.heap.size + 1, 2, none⟩ = some (.bool false) := box_cell (hap7.box X.out.2.1 (by decide)) rfl; have HA7 := hide hap7; clear hap7)
  go_ret
  exact ⟨_, rfl, ((HA.out.alloc _).alloc _).trans HA7.out⟩

set_option maxRecDepth 100000 in
set_option maxHeartbeats 4000000 in
theorem app_prop {F : List Nd} (hF : AllOk F) (i : Nat) (hi : i < F.length) (hk : (F.getD i nd0).k = 2) : AppOk F i := by
  intro w B r fv sv bs h hP hlen
  have hsh : sh F i = [112, UInt8.ofNat (48 + (F.getD i nd0).n.toNat)] := by
    rw [sh_eq hF i hi]
    unfold shS
    rw [if_neg (by omega), if_pos hk]
  have hxn := (node_ok (hF i hi)).2.2.2 hk
  have hit := itoa_few _ hxn
  rw [hsh] at hlen ⊢
  clear hsh
  obtain ⟨hN, hS⟩ := hP.all w (Below.refl _ _)
  obtain ⟨fa, fc, hfv, hfm, hc, -⟩ := hN
  subst hfv
  rcases hc with hc | ⟨b, off, rfl, hc⟩
  · rw [hc] at hi; simp at hi
  obtain ⟨d0, d1, d2, d3⟩ := hc i hi
  have hlk0 := (run_lookup_sign (w := w.alloc (Obj.cells #[.int .i64 (F.getD i nd0).k, .int .i64 (F.getD i nd0).a, .int .i64 (F.getD i nd0).b, .int .i64 (F.getD i nd0).n] 74)) (hS.below (below_new w _)) (F.getD i nd0).k).1
  have hsg : (sgOf (F.getD i nd0).k).getD sg0 = ⟨[112], 0, true, false, 0⟩ := by rw [hk]; rfl
  rw [hsg] at hlk0
  unfold sgV at hlk0
  have HA := hide h
  have HP := hide hP
  clear hc hsg h hk hP hS
  generalize F.getD i nd0 = x at *
  obtain ⟨k, xa, xb, xn⟩ := x
  dsimp only at *
  simp only [List.length_cons, List.length_nil] at hlen
  have HXN := hide hxn
  have HIT := hide hit
  clear hit hxn
  have X := hide (two_box (w := w) (a := Obj.cells #[.int .i64 k, .int .i64 xa, .int .i64 xb, .int .i64 xn] 74) (b := Obj.cells #[.string ⟨[112].toArray⟩, .int .i64 0, .bool true, .bool false, .int .i64 0] 119) rfl)
  go_enter Tryd.func71, Tryd.ntmps71
  go_wp2_with (at_builtin; refine wp_appStr ((HA.out.alloc _).alloc _).again rfl (.tmp 48) (.tmp 50) [112] rfl rfl rfl (by simp; omega) ?_; intro v7 w7 hap7; have q7 : w7.cell? ⟨w.heap.size + 1, 1, none⟩ = some (.int .i64 0) := box_cell (hap7.box X.out.2.1 (by decide)) rfl; have q8 : w7.cell? ⟨w.heap.size + 1, 2, none⟩ = some (.bool true) := box_cell (hap7.box X.out.2.1 (by decide)) rfl; have q9 : w7.cell? ⟨w.heap.size, 3, none⟩ = some (.int .i64 xn) := box_cell (hap7.box X.out.1 (by decide)) rfl; have HA7 := hide hap7; clear hap7)
  have HA8 := hide (((HA.out.alloc _).alloc _).trans HA7.out)
  refine (appendIntF_any B _ xn (by have := HXN.out; omega) (by have := HXN.out; omega) _ _ w7 HA8.out.own HA8.out.hB (by simp; omega) (HP.out.tab.on HA8.out.below)).mono ?_
  rintro e w9 ⟨v9, rfl, hown9, hb9, hk9⟩
  rw [HIT.out] at hown9
  have HA9 : Hid (AP B w7 w9 v9 (bs ++ [112] ++ [UInt8.ofNat (48 + xn.toNat)])) := hide ⟨by rw [List.length_append, Lib.byteCells_append]; exact hown9, hb9, hk9, Nat.le_trans HA8.out.hB hb9.size⟩
  clear hown9 hb9 hk9 q7 q8 q9
  go_wp2_with (fail)
  go_ret
  exact ⟨_, rfl, by simpa using HA8.out.trans HA9.out⟩

set_option maxRecDepth 100000 in
set_option maxHeartbeats 4000000 in
theorem app_one {F : List Nd} (hF : AllOk F) (i : Nat) (hi : i < F.length) (hk : (F.getD i nd0).k = 3 ∨ (F.getD i nd0).k = 6) (ih : AppOk F (F.getD i nd0).a.toNat) : AppOk F i := by
  intro w B r fv sv bs h hP hlen
  obtain ⟨sb, tp, op, hsh, hsg⟩ : ∃ sb tp op, sh F i = sb :: sh F (F.getD i nd0).a.toNat ∧ (sgOf (F.getD i nd0).k).getD sg0 = ⟨[sb], 1, false, tp, op⟩ := by
    rw [sh_eq hF i hi]
    unfold shS
    rcases hk with hk | hk
    · rw [if_neg (by omega), if_neg (by omega), if_pos hk, hk]
      exact ⟨_, _, _, rfl, rfl⟩
    · rw [if_neg (by omega), if_neg (by omega), if_neg (by omega), if_pos hk, hk]
      exact ⟨_, _, _, rfl, rfl⟩
  rw [hsh] at hlen ⊢
  clear hsh
  obtain ⟨_, ⟨xa0, xa1, _⟩, _⟩ := node_ok (hF i hi)
  obtain ⟨hN, hS⟩ := hP.all w (Below.refl _ _)
  obtain ⟨fa, fc, hfv, hfm, hc, -⟩ := hN
  subst hfv
  rcases hc with hc | ⟨b, off, rfl, hc⟩
  · rw [hc] at hi; simp at hi
  obtain ⟨d0, d1, d2, d3⟩ := hc i hi
  have hlk0 := (run_lookup_sign (w := w.alloc (Obj.cells #[.int .i64 (F.getD i nd0).k, .int .i64 (F.getD i nd0).a, .int .i64 (F.getD i nd0).b, .int .i64 (F.getD i nd0).n] 74)) (hS.below (below_new w _)) (F.getD i nd0).k).1
  rw [hsg] at hlk0
  unfold sgV at hlk0
  have ea : ((F.getD i nd0).a.toNat : Int) = (F.getD i nd0).a := by omega
  have HI := hide ih
  unfold AppOk at HI
  rw [ea] at HI
  have HA := hide h
  have HP := hide hP
  clear hc hsg h hk hP hS ih ea xa0 xa1
  generalize sh F (F.getD i nd0).a.toNat = ta at *
  generalize F.getD i nd0 = x at *
  obtain ⟨k, xa, xb, xn⟩ := x
  dsimp only at *
  simp only [List.length_cons] at hlen
  have X := hide (two_box (w := w) (a := Obj.cells #[.int .i64 k, .int .i64 xa, .int .i64 xb, .int .i64 xn] 74) (b := Obj.cells #[.string ⟨[sb].toArray⟩, .int .i64 1, .bool false, .bool tp, .int .i64 op] 119) rfl)
  go_enter Tryd.func71, Tryd.ntmps71
  go_wp2_with (at_builtin; refine wp_appStr ((HA.out.alloc _).alloc _).again rfl (.tmp 48) (.tmp 50) [sb] rfl rfl rfl (by simp; omega) ?_; intro v7 w7 hap7; have q7 : w7.cell? ⟨w.heap.size + 1, 1, none⟩ = some (.int .i64 1) := box_cell (hap7.box X.out.2.1 (by decide)) rfl; have q9 : w7.cell? ⟨w.heap.size, 1, none⟩ = some (.int .i64 xa) := box_cell (hap7.box X.out.1 (by decide)) rfl; have HA7 := hide hap7; clear hap7)
  have HA8 := hide (((HA.out.alloc _).alloc _).trans HA7.out)
  refine (HI.out _ B r _ _ _ HA8.out.again (HP.out.on HA8.out.below) (by simp; omega)).mono ?_
  rintro e w9 ⟨v9, rfl, hap9⟩
  have HA9 := hide hap9
  clear hap9 q7 q9 HI
  go_wp2_with (fail)
  go_ret
  exact ⟨_, rfl, by simpa using HA8.out.trans HA9.out⟩

theorem app_any {F : List Nd} (hF : AllOk F) : ∀ i, i < F.length → AppOk F i := by
  intro i
  induction i using Nat.strongRecOn with
  | ind i ih =>
    intro hi
    obtain ⟨hk, ⟨a0, a1, _⟩, ⟨b0, b1, _⟩, _⟩ := node_ok (hF i hi)
    by_cases h1 : (F.getD i nd0).k = 1
    · exact app_true hF i hi h1
    by_cases h2 : (F.getD i nd0).k = 2
    · exact app_prop hF i hi h2
    have ha := a1 (by omega)
    by_cases h3 : (F.getD i nd0).k = 3 ∨ (F.getD i nd0).k = 6
    · exact app_one hF i hi h3 (ih _ (by omega) (by omega))
    have hb := b1 (by omega)
    exact app_two hF i hi (by omega) (ih _ (by omega) (by omega)) (ih _ (by omega) (by omega))

/-- What Print answers. -/
def prt (F : List Nd) : List UInt8 := if chkF F = 0 then sh F (F.length - 1) else []
end Go.Proofs.YtpiacnnifdjlkaaDoor

namespace Go.Proofs.YtpiacnnifdjlkaaDoor
open Go.RowKit Go.Sort

theorem owns_row {w : World} {base : Nat} {e : TypeId} {size : Nat} {v : Value} {n : Nat} {xs : List Value} (h : w.ownsRow base e size v n xs) (hn : 0 < n) : ∃ g cap, v = .slice (some ⟨g, 0, none⟩) n cap := by
  rcases h.2 with ⟨_, h0⟩ | ⟨g, cap, cur, rfl, _⟩
  · omega
  · exact ⟨g, cap, rfl⟩

theorem sh_pos {F : List Nd} (hF : AllOk F) (i : Nat) (hi : i < F.length) : 0 < (sh F i).length := by
  rw [sh_eq hF i hi]
  unfold shS
  by_cases h1 : (F.getD i nd0).k = 1
  · rw [if_pos h1]; simp
  rw [if_neg h1]
  by_cases h2 : (F.getD i nd0).k = 2
  · rw [if_pos h2]; simp
  rw [if_neg h2]
  by_cases h3 : (F.getD i nd0).k = 3
  · rw [if_pos h3]; simp
  rw [if_neg h3]
  by_cases h6 : (F.getD i nd0).k = 6
  · rw [if_pos h6]; simp
  rw [if_neg h6]; simp

theorem run_text {w : World} {B : Nat} {g cap : Nat} {bs : List UInt8} (h : w.ownsRow B 5 1 (.slice (some ⟨g, 0, none⟩) bs.length cap) bs.length (Lib.byteCells bs)) :
    (convert 106 9 (.slice (some ⟨g, 0, none⟩) bs.length cap)).run Tryd.prog w = .ok (.string ⟨bs.toArray⟩) w :=
  run_convert_bytes_back (P := Tryd.prog) w 106 9 5 ⟨g, 0, none⟩ cap bs (by kernel_rfl) (by kernel_rfl) (by kernel_rfl) (fun j hj => h.cells (g := g) rfl j _ (by simp [Lib.byteCells, hj]))

theorem tab_below {w w1 : World} {name : String} {k : IntKind} {zs : List Int} (h : Lib.TabBelow Tryd.prog w.heap.size w name k zs) (hb : Below w.heap.size w w1) : Lib.TabBelow Tryd.prog w1.heap.size w1 name k zs :=
  fun w' h' => h w' (hb.trans (h'.mono hb.size))

set_option maxRecDepth 100000 in
set_option maxHeartbeats 2000000 in
theorem print_any {w : World} {fv : Value} {F : List Nd} (hF : NodeSl w fv F) (ht : Lib.TabBelow Tryd.prog w.heap.size w "internal/strconv.uint64pow10" .u64 Lib.pow10Tab) :
    Calls Tryd.prog 34 #[fv] w fun e w' => e = .returned (.tuple #[.string ⟨(prt F).toArray⟩, .int .i64 (chkF F)]) ∧ Below w.heap.size w w' := by
  have HC : Hid (∀ W v G, NodeSl W v G → Calls Tryd.prog 40 #[v] W fun e w' => e = .returned (.int .i64 (chkF G)) ∧ Below W.heap.size W w') := hide fun W v G h => formulaCheck_any h
  have HV := hide hF
  have HT := hide ht
  clear ht
  obtain ⟨fa, fc, rfl, hm, -⟩ := hF
  unfold prt
  by_cases hq : chkF F = 0
  · rw [if_pos hq]
    obtain ⟨hM0, h12, hall⟩ := chkF_ok hq
    have hsl := sh_len hall (F.length - 1) (by omega)
    have hpw : 2 ^ (F.length - 1 + 1) ≤ 2 ^ 12 := Nat.pow_le_pow_right (by decide) (by omega)
    have hsp := sh_pos hall (F.length - 1) (by omega)
    have HAp := hide (app_any hall (F.length - 1) (by omega))
    unfold AppOk at HAp
    have hi0 : ((F.length - 1 : Nat) : Int) = (F.length : Int) - 1 := by omega
    rw [hi0] at HAp
    have hlen : (sh F (F.length - 1)).length ≤ 800000 := by omega
    generalize sh F (F.length - 1) = tx at *
    rw [hq]
    have HQ := hide hq
    clear hi0 hpw hsl hq hall
    go_enter Tryd.func34, Tryd.ntmps34
    go_wp2_with (fail)
    refine (HC.out _ _ F HV.out).mono ?_
    rintro e w1 ⟨rfl, hb1⟩
    rw [HQ.out]
    go_wp2_with (fail)
    refine (signs_any _).mono ?_
    rintro e w2 ⟨r, rfl, hr, hr0, hb2⟩
    have hB2 := below_trans hb1 hb2
    have HB2 := hide hB2
    have HN2 := hide (HV.out.below hB2)
    have HR2 := hide (show SgMap w2 r from hr)
    clear hr hb1 hb2 hB2
    go_wp2_with (fail)
    refine (HAp.out w2 w2.heap.size r _ (.slice none 0 0) [] ⟨World.ownsRow_nil _ _ _ _, Below.refl _ _, Lib.OthersKept.refl _ _ _, Nat.le_refl _⟩ ⟨fun w1 hb => ⟨HN2.out.below hb, HR2.out.below hb⟩, tab_below HT.out HB2.out⟩ (by simpa using hlen)).mono ?_
    rintro e w3 ⟨v3, rfl, hap3⟩
    rw [List.nil_append] at hap3
    have hcv := hap3.own
    obtain ⟨g, cap, rfl⟩ := owns_row hcv hsp
    have hcv := run_text hcv
    have HB3 := hide (HB2.out.trans (hap3.below.mono HB2.out.size))
    clear hap3
    go_wp2_with (fail)
    go_ret2
    exact ⟨rfl, HB3.out⟩
  · rw [if_neg hq]
    have bq : (chkF F != 0) = true := by simpa using hq
    generalize hcq : chkF F = s at *
    have HS := hide hcq
    clear hcq hq
    go_enter Tryd.func34, Tryd.ntmps34
    go_wp2_with (fail)
    refine (HC.out _ _ F HV.out).mono ?_
    rintro e w1 ⟨rfl, hb1⟩
    rw [HS.out]
    go_wp2_with (fail)
    go_ret2
    exact ⟨rfl, hb1⟩
end Go.Proofs.YtpiacnnifdjlkaaDoor
