/-
  What appendNode of package formula answers: the text of a node.
-/
import Derived.Test.YtphoifgcmpjnoaaDoorGb
namespace Go.Proofs.YtphoifgcmpjnoaaDoor
open Go.RowKit Go.Sort

/-- What a writer reads: the formula, the map of signs, the table of numerals; all of it below B. -/
structure PN (B : Nat) (w : World) (fv : Value) (F : List Nd) (r : Nat) : Prop where
  all : ∀ w1, Below B w w1 → NodeSl w1 fv F ∧ SgMap w1 r
  tab : Lib.TabBelow Tryd.prog B w "internal/strconv.uint64pow10" .u64 Lib.pow10Tab

theorem PN.on {B : Nat} {w w1 : World} {fv : Value} {F : List Nd} {r : Nat} (h : PN B w fv F r) (hb : Below B w w1) : PN B w1 fv F r := ⟨fun w2 h2 => h.all w2 (hb.trans h2), h.tab.on hb⟩

def AppOk (F : List Nd) (i : Nat) : Prop := ∀ (w : World) (B r : Nat) (fv sv : Value) (bs : List UInt8), AP B w w sv bs → PN B w fv F r → bs.length + (sh F i).length ≤ 800000 →
  Calls Tryd.prog 71 #[sv, fv, .int .i64 i, .map (some r)] w fun e w' => ∃ v', e = .returned v' ∧ AP B w w' v' (bs ++ sh F i)

theorem two_box {w w2 : World} {a b : Obj} (h : w2 = (w.alloc a).alloc b) : w2.heap[w.heap.size]? = some a ∧ w2.heap[w.heap.size + 1]? = some b ∧ w.heap.size + 2 = w2.heap.size := by
  subst h
  refine ⟨?_, ?_, by simp⟩
  · have := heap_alloc_old (w.alloc a) b (r := w.heap.size) (by simp)
    rw [this]
    exact heap_alloc_new w a
  · have := heap_alloc_new (w.alloc a) b
    simpa using this

set_option maxRecDepth 100000 in
set_option maxHeartbeats 4000000 in
theorem app_two {F : List Nd} (hF : AllOk F) (i : Nat) (hi : i < F.length) (hk : (F.getD i nd0).k = 4 ∨ (F.getD i nd0).k = 5 ∨ (F.getD i nd0).k = 7 ∨ (F.getD i nd0).k = 8) (ih : AppOk F (F.getD i nd0).a.toNat) (ihb : AppOk F (F.getD i nd0).b.toNat) : AppOk F i := by
  intro w B r fv sv bs h hP hlen
  have hsh : sh F i = 40 :: (sh F (F.getD i nd0).a.toNat ++ (32 :: signB (F.getD i nd0).k :: 32 :: (sh F (F.getD i nd0).b.toNat ++ [41]))) := by
    rw [sh_eq hF i hi]
    unfold shS
    rw [if_neg (by omega), if_neg (by omega), if_neg (by omega), if_neg (by omega)]
  rw [hsh] at hlen ⊢
  clear hsh
  obtain ⟨_, ⟨xa0, xa1, _⟩, ⟨xb0, xb1, xb2⟩, _⟩ := node_ok (hF i hi)
  obtain ⟨hN, hS⟩ := hP.all w (Below.refl _ _)
  obtain ⟨fa, fc, hfv, hfm, hc, -⟩ := hN
  subst hfv
  rcases hc with hc | ⟨b, off, rfl, hc⟩
  · rw [hc] at hi; simp at hi
  obtain ⟨d0, d1, d2, d3⟩ := hc i hi
  have hlk0 := (run_lookup_sign (w := w.alloc (Obj.cells #[.int .i64 (F.getD i nd0).k, .int .i64 (F.getD i nd0).a, .int .i64 (F.getD i nd0).b, .int .i64 (F.getD i nd0).n] 74)) (hS.below (below_new w _)) (F.getD i nd0).k).1
  have hsg : ∃ tp, (sgOf (F.getD i nd0).k).getD sg0 = ⟨[signB (F.getD i nd0).k], 2, false, tp, oppK (F.getD i nd0).k⟩ := by
    rcases hk with hk | hk | hk | hk <;> rw [hk] <;> exact ⟨_, rfl⟩
  obtain ⟨tp, hsg⟩ := hsg
  rw [hsg] at hlk0
  unfold sgV at hlk0
  have HI := hide ih
  have HIb := hide ihb
  have ea : ((F.getD i nd0).a.toNat : Int) = (F.getD i nd0).a := by omega
  have eb : ((F.getD i nd0).b.toNat : Int) = (F.getD i nd0).b := by omega
  unfold AppOk at HI HIb
  rw [ea] at HI
  rw [eb] at HIb
  simp only [List.length_cons, List.length_append, List.length_nil] at hlen
  have HP := hide hP
  have HA := hide h
  clear hc hsg h ea eb ih ihb xa0 xa1 xb0 xb1 xb2 hk hP hS
  generalize sh F (F.getD i nd0).a.toNat = ta at *
  generalize sh F (F.getD i nd0).b.toNat = tb at *
  generalize F.getD i nd0 = x at *
  obtain ⟨k, xa, xb, xn⟩ := x
  dsimp only at *
  generalize oppK k = kk at *
  generalize signB k = sb at *
  go_enter Tryd.func71, Tryd.ntmps71
  go_wp2_with (fail)
  obtain ⟨w2, hw2⟩ : ∃ w2, w2 = (w.alloc (Obj.cells #[.int .i64 k, .int .i64 xa, .int .i64 xb, .int .i64 xn] 74)).alloc (Obj.cells #[.string ⟨[sb].toArray⟩, .int .i64 2, .bool false, .bool tp, .int .i64 kk] 119) := ⟨_, rfl⟩
  have HA2 := hide (show AP B w w2 sv bs by rw [hw2]; exact (HA.out.alloc _).alloc _)
  obtain ⟨x1, x2, x3⟩ := two_box hw2
  rw [← hw2]
  have HAw := hide HA2.out.again
  have n1 : w2.cell? ⟨w.heap.size, 1, none⟩ = some (.int .i64 xa) := box_cell x1 rfl
  have hsz2 : w.heap.size < w2.heap.size := by omega
  have X1 := hide x1
  have X2 := hide x2
  clear hw2 x1 x2 d0 d1 d2 d3 hlk0
  go_region_law (first | (refine step_app1 (B := B) (w0 := w2) (bs := bs) (v := sv) ?_ rfl (.tmp 22) (.tmp 23) 40 rfl rfl _ _ rfl ?_ ?_ ?_; (focus (repeat (first | (with_reducible exact HAw.out) | (with_reducible refine AP.drew ?_) | (with_reducible refine AP.alloc ?_ _)))); (focus ((repeat (first | ((with_reducible refine cell_top _ _ _ _ _ _ ?_ ?_); (focus (first | rfl | (simp; done))); exact rfl) | (with_reducible refine cell_drew ?_) | (with_reducible refine cell_under _ _ ?_))))); (focus omega); intro v5 w5 hap5; have q5 : w5.cell? ⟨w.heap.size, 1, none⟩ = some (.int .i64 xa) := box_cell (hap5.box X1.out (by decide)) rfl) | (refine step_callG rfl 71 [.tmp 24, .tmp 25, .tmp 27, .tmp 28] _ rfl Tryd.call71 ?_; refine (HI.out _ B r _ _ (bs ++ [40]) ?_ ?_ ?_).mono ?_; (focus (first | exact hap5.again | exact hap5.drew.again | exact hap5.drew.drew.again)); (focus (first | exact HP.out.on (HA2.out.trans hap5).below | exact HP.out.on (HA2.out.trans hap5.drew).below | exact HP.out.on (HA2.out.trans hap5.drew.drew).below)); (focus (simp; omega)); rintro e w6 ⟨v6, rfl, hap6⟩; refine ⟨_, rfl, ?_⟩; have hap6' : AP B w2 w6 v6 (bs ++ [40] ++ ta) := (by first | exact hap5.trans hap6 | exact hap5.drew.trans hap6 | exact hap5.drew.drew.trans hap6)))
  all_goals
    have HA6 := hide hap6'
    clear hap5 hap6 hap6' q5 HI n1 hsz2
    go_wp2_with (at_builtin; first | (refine wp_app1 (HA6.out.alloc _) rfl (.tmp 30) (.tmp 31) 32 rfl rfl _ _ rfl (cell_top _ _ _ _ _ _ rfl rfl) (by simp; omega) ?_; intro v7 w7 hap7; have q7 : w7.cell? ⟨w.heap.size + 1, 0, none⟩ = some (.string ⟨[sb].toArray⟩) := box_cell (hap7.box X2.out (by decide)) rfl) | (refine wp_appStr hap7 rfl (.tmp 33) (.tmp 35) [sb] rfl rfl rfl (by simp; omega) ?_; intro v8 w8 hap8; clear hap7 q7) | (refine wp_app1 (hap8.alloc _) rfl (.tmp 37) (.tmp 38) 32 rfl rfl _ _ rfl (cell_top _ _ _ _ _ _ rfl rfl) (by simp; omega) ?_; intro v9 w9 hap9; clear hap8; have q9 : w9.cell? ⟨w.heap.size, 2, none⟩ = some (.int .i64 xb) := box_cell (hap9.box X1.out (by decide)) rfl))
    refine (HIb.out _ B r _ _ _ hap9.again (HP.out.on (HA2.out.trans hap9).below) (by simp; omega)).mono ?_
    rintro e w10 ⟨v10, rfl, hap10⟩
    have HA10 := hide (hap9.trans hap10)
    clear hap9 hap10 q9 HIb HA6
    go_wp2_with (at_builtin; refine wp_app1 (HA10.out.alloc _) rfl (.tmp 45) (.tmp 46) 41 rfl rfl _ _ rfl (cell_top _ _ _ _ _ _ rfl rfl) (by simp; omega) ?_; intro v11 w11 hap11; have HA11 := hide hap11; clear hap11)
    go_ret
    refine ⟨_, rfl, ?_⟩
    have := HA2.out.trans HA11.out
    simpa using this
end Go.Proofs.YtphoifgcmpjnoaaDoor
