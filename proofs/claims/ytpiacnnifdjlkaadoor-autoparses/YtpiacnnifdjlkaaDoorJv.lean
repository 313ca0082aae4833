/-
  What Cut of the reference answers.
-/
import Derived.Test.YtpiacnnifdjlkaaDoorJe
/-
  What Undigit of the reference answers.
-/
namespace Go.Proofs.YtpiacnnifdjlkaaDoor
open Go.RowKit Go.Sort

/-- What Undigit leaves: whether the word is a number, and which, if it is. -/
def UndOf (T : List UInt8) (w : World) (e : Ending) (w' : World) : Prop := ∃ n : Int, e = .returned (.tuple #[.int .i64 n, .bool (numW T).isSome]) ∧ ((numW T).isSome = true → n = ((numW T).getD 0 : Nat)) ∧ Below w.heap.size w w'

theorem between_yes {a b c : Int} (h1 : b ≤ a) (h2 : a ≤ c) (w : World) : Calls Tryd.prog 50 #[.int .i64 a, .int .i64 b, .int .i64 c] w fun e w' => e = .returned (.bool true) ∧ w' = w := by
  have := between_any a b c w
  rwa [decide_eq_true (show b ≤ a ∧ a ≤ c from ⟨h1, h2⟩)] at this

theorem between_no {a b c : Int} (h : ¬ (b ≤ a ∧ a ≤ c)) (w : World) : Calls Tryd.prog 50 #[.int .i64 a, .int .i64 b, .int .i64 c] w fun e w' => e = .returned (.bool false) ∧ w' = w := by
  have := between_any a b c w
  rwa [decide_eq_false h] at this

theorem numW_long {T : List UInt8} (h : ¬ (1 ≤ T.length ∧ T.length ≤ 6)) : numW T = none := by
  unfold numW
  rw [if_pos]
  unfold badW
  by_cases h0 : T = []
  · simp [h0]
  · have : 6 < T.length := by
      have := List.length_pos_iff.2 h0
      omega
    simp [this]

theorem numW_nodg {T : List UInt8} {i : Nat} (hi : i < T.length) (h : isDg (T.getD i 0) = false) : numW T = none := by
  have hn : ¬ T.all isDg = true := fun e => by
    have := List.all_eq_true.1 e (T.getD i 0) (by simp [List.getD, hi])
    rw [h] at this
    cases this
  unfold numW
  rw [if_neg hn]
  split <;> rfl

set_option maxRecDepth 100000 in
set_option maxHeartbeats 2000000 in
theorem undigit_any (T : List UInt8) (w : World) : Calls Tryd.prog 58 #[.string ⟨T.toArray⟩] w fun e w' => UndOf T w e w' := by
  have hsz : (⟨T.toArray⟩ : ByteArray).size = T.length := by simp [ByteArray.size]
  by_cases hl : 1 ≤ T.length ∧ T.length ≤ 6
  · have hB := hide (between_yes (a := (T.length : Int)) (b := 1) (c := 6) (by omega) (by omega) w)
    have h0 : T ≠ [] := fun e => by rw [e] at hl; simp at hl
    have h6 := hl.2
    clear hl
    go_enter Tryd.func58, Tryd.ntmps58
    go_wp2_with (fail)
    go_fit hB.out
    rintro e w1 ⟨rfl, rfl⟩
    go_wp2_with (fail)
    go_loopw [4, 5] (fun s4 s5 wr => ∃ i : Nat, i ≤ T.length ∧ s4 = .int .i64 (valT (T.take i) : Nat) ∧ s5 = .int .i64 i ∧ Hid (∀ j, j < i → isDg (T.getD j 0) = true) ∧ wr = w1) (fun _ s5 _ => T.length - (intOf s5).toNat)
    case atStart => exact ⟨0, Nat.zero_le _, rfl, rfl, hide (fun j hj => absurd hj (Nat.not_lt_zero _)), rfl⟩
    case round =>
      obtain ⟨i, hi, rfl, rfl, hd, rfl⟩ := hrel
      have hv : valT (T.take i) < 1000000 := by
        have h := valT_lt (T.take i) (fun b hb => by
          obtain ⟨j, hj, rfl⟩ := List.mem_iff_getElem.1 hb
          rw [List.length_take] at hj
          have := hd.out j (by omega)
          unfold isDg at this
          have h2 := (of_decide_eq_true this).2
          simp [List.getD, show j < T.length by omega] at h2
          simpa using h2) i (by rw [List.length_take]; omega)
        rw [List.take_take, Nat.min_self] at h
        exact Nat.lt_of_lt_of_le h (Nat.le_trans (Nat.pow_le_pow_right (by decide) (show i ≤ 6 by omega)) (by decide))
      by_cases hlt : i < T.length
      · have hbi : T[i]? = some (T.getD i 0) := by simp [List.getD, hlt]
        have i1 := fun W => byte_run W T i (i : Int) (T.getD i 0) rfl hbi
        have HV := hide (valT_take T i hlt)
        have HD := hide hd.out
        cases hdg : isDg (T.getD i 0) with
        | true =>
          have hdd := of_decide_eq_true hdg
          have HDG := hide hdg
          generalize hbe : T.getD i 0 = b at *
          have HBE := hide hbe
          generalize valT (T.take i) = n at *
          have d1 : ¬ ((b.toNat : Int) < 48) := by omega
          have d2 : ¬ ((57 : Int) < (b.toNat : Int)) := by omega
          clear hbi hd hdg hbe
          go_wp2_with (fail)
          go_roundw
          case rel =>
            refine ⟨i + 1, by omega, ?_, by go_num, hide (fun j hj => ?_), trivial⟩
            · rw [HV.out]
              congr 1
              omega
            · by_cases e : j = i
              · subst e; rw [HBE.out]; exact HDG.out
              · exact HD.out j (by omega)
          case measure => simp [intOf]; omega
        | false =>
          have HNone := hide (numW_nodg hlt hdg)
          have hdd : (T.getD i 0).toNat < 48 ∨ 57 < (T.getD i 0).toNat := by
            have := of_decide_eq_false hdg
            omega
          generalize T.getD i 0 = b at *
          generalize valT (T.take i) = n at *
          clear hbi hd hdg
          rcases hdd with hdd | hdd
          · have d1 : (b.toNat : Int) < 48 := by omega
            go_wp2_with (fail)
            go_ret2
            exact ⟨0, by rw [HNone.out]; rfl, fun h => (by rw [HNone.out] at h; cases h), Below.refl _ _⟩
          · have d1 : ¬ (b.toNat : Int) < 48 := by omega
            have d2 : (57 : Int) < (b.toNat : Int) := by omega
            go_wp2_with (fail)
            go_ret2
            exact ⟨0, by rw [HNone.out]; rfl, fun h => (by rw [HNone.out] at h; cases h), Below.refl _ _⟩
      · obtain rfl : i = T.length := by omega
        rw [List.take_length] at hv ⊢
        have hall : T.all isDg = true := List.all_eq_true.2 fun b hb => by
          obtain ⟨j, hj, rfl⟩ := List.mem_iff_getElem.1 hb
          have := hd.out j hj
          simpa [List.getD, hj] using this
        have HRf := hide (numW_ref h0 h6 hall)
        have HDc := hide (digits_any (valT T) (by omega) wr)
        generalize hvv : valT T = n at *
        have HVV := hide hvv
        clear hd hi hlt hall hvv
        go_wp2_with (fail)
        go_fit HDc.out
        rintro e w2 ⟨rfl, hb2⟩
        have HEq := hide (show (numW T).isSome = (Lib.decDigits n == T) by
          rw [HRf.out]
          by_cases e : Lib.decDigits n = T
          · rw [if_pos e, e]; simp
          · rw [if_neg e]
            have : (Lib.decDigits n == T) = false := by rw [beq_eq_false_iff_ne]; exact e
            rw [this]; rfl)
        go_wp2_with (fail)
        go_ret2
        refine ⟨n, ?_, fun h => ?_, hb2⟩
        · rw [HEq.out]; rfl
        · rw [HRf.out] at h ⊢
          split at h
          · next e => rw [if_pos e]; rfl
          · cases h
  · have hB := hide (between_no (a := (T.length : Int)) (b := 1) (c := 6) (by omega) w)
    have HNone := hide (numW_long hl)
    clear hl
    go_enter Tryd.func58, Tryd.ntmps58
    go_wp2_with (fail)
    go_fit hB.out
    rintro e w1 ⟨rfl, rfl⟩
    go_wp2_with (fail)
    go_ret2
    exact ⟨0, by rw [HNone.out]; rfl, fun h => (by rw [HNone.out] at h; cases h), Below.refl _ _⟩
end Go.Proofs.YtpiacnnifdjlkaaDoor

/-
  What Undigits of the reference answers.
-/
namespace Go.Proofs.YtpiacnnifdjlkaaDoor
open Go.RowKit Go.Sort

set_option maxRecDepth 100000 in
set_option maxHeartbeats 2000000 in
theorem undigits_any {w : World} {v : Value} {Ts : List (List UInt8)} (k : Nat) (hv : StrSl w v Ts) (hl : Ts.length ≤ 200000) (hk : k ≤ Ts.length) :
    Calls Tryd.prog 59 #[v, .int .i64 (k : Nat)] w fun e w' => NumsOf (Ts.drop k) w e w' := by
  have HV := hide hv
  obtain ⟨a, cap, rfl, hm, -⟩ := hv
  generalize hL : Ts.length = L at *
  have HL := hide hL
  have hUl : (Ts.drop k).length = L - k := by rw [List.length_drop, hL]
  have HU := hide (show ∀ j, (Ts.drop k).getD j [] = Ts.getD (k + j) [] from fun j => by simp [List.getD])
  clear hL
  generalize Ts.drop k = Us at *
  have HUl := hide hUl
  clear hUl
  go_enter Tryd.func59, Tryd.ntmps59
  go_wp2_with (fail)
  go_loopw [6, 7] (fun s6 s7 wr => ∃ (j : Nat), s7 = .int .i64 ((k + j : Nat) : Int) ∧ k + j ≤ L ∧ Hid (wr.ownsRow w.heap.size 3 1 s6 (valsW (Us.take j)).length ((valsW (Us.take j)).map (.int .i64))) ∧ Hid (∀ i, i < j → (numW (Us.getD i [])).isSome = true) ∧ Hid (Below w.heap.size w wr)) (fun _ s7 _ => L - (intOf s7).toNat)
  case atStart => exact ⟨0, rfl, hk, hide (World.ownsRow_nil _ _ _ _), hide (fun j hj => absurd hj (Nat.not_lt_zero _)), hide (Below.refl _ _)⟩
  case round =>
    obtain ⟨j, rfl, hj, ho, hg, hb⟩ := hrel
    have hsz := hb.out.size
    by_cases hlt : k + j < L
    · have hls : k + j < Ts.length := by rw [HL.out]; exact hlt
      have hju : j < Us.length := by rw [HUl.out]; omega
      obtain ⟨a', cap', e, _, hzz, _⟩ := HV.out.below hb.out
      injection e with e1 e2 e3
      subst e1
      rcases hzz with hzz | ⟨b, off, e, hcell⟩
      · rw [hzz] at hls; simp at hls
      subst e
      have d0 := hcell (k + j) hls
      rw [← HU.out j] at d0
      have HVT := hide (valsW_take Us j hju)
      have hvl : (valsW (Us.take j)).length ≤ 200000 := by unfold valsW; rw [List.length_map, List.length_take]; omega
      have HMem := hide (show Us.getD j [] ∈ Us by simp [List.getD, hju])
      have HN := hide (undigit_any (Us.getD j []) wr)
      clear hcell e2 e3
      generalize hT : Us.getD j [] = T at *
      have HT := hide hT
      clear hT
      generalize hi : k + j = i at *
      have HIj := hide hi
      clear hi
      go_wp2_with (fail)
      go_fit HN.out
      rintro e w6 ⟨n, rfl, hn, hb6⟩
      have hB6 := below_trans hb.out hb6
      cases hnw : numW T with
      | none =>
        have HBad := hide (show okWs Us = false by
          cases h : okWs Us with
          | false => rfl
          | true =>
            have := List.all_eq_true.1 h T HMem.out
            rw [hnw] at this
            cases this)
        have HB := hide hB6
        clear hnw HVT hn hb6 hB6
        go_wp2_with (fail)
        go_ret2
        exact ⟨_, by rw [HBad.out]; rfl, fun h => absurd (HBad.out.symm.trans h) (by decide), fun _ => rfl, HB.out⟩
      | some n' =>
        rw [hnw] at HVT
        have hn' : n = (n' : Nat) := by rw [hnw] at hn; exact hn rfl
        subst hn'
        have HNW := hide hnw
        have ho6 := owns_below ho.out hb6
        have hsz6 : w.heap.size ≤ w6.heap.size := hB6.size
        have Hc0 := hide (cell_of_row _ _ 0 _ _ _ (one_new w6 (Obj.cells #[Value.int .i64 (n' : Int)] 3)))
        have HoA := hide (ho6.alloc (Obj.cells #[Value.int .i64 (n' : Int)] 3))
        have HbA := hide (show w.heap.size ≤ (w6.alloc (Obj.cells #[Value.int .i64 (n' : Int)] 3)).heap.size by simp; omega)
        have HBA := hide (hB6.alloc hsz6 (Obj.cells #[Value.int .i64 (n' : Int)] 3))
        clear hnw hn d0 ho hb hb6 hB6 ho6
        go_wp2_with (at_builtin; refine wpList_append_one _ rfl (.tmp 27) (.tmp 29) 22 3 1 8 rfl elInt w.heap.size _ _ _ rfl HoA.out w6.heap.size 1 [.int .i64 (n' : Int)] rfl rfl (by intro j u hu; match j, hu with | 0, hu => simp at hu; subst hu; exact Hc0.out | j + 1, hu => simp at hu) (by intro u hu; simp at hu; subst hu; rfl) (by omega) HbA.out ?_; intro g8 cap8 w8 hown8 hgrow8 hor8 hbase8; have HR8 := hide (And.intro hown8 hgrow8); clear hown8 hgrow8 hor8)
        go_roundw
        case rel =>
          refine ⟨j + 1, by rw [← HIj.out]; go_num, by have := HIj.out; omega, hide ?_, hide (fun i' hi' => ?_), hide (HBA.out.grown HR8.out.2 HbA.out (fun k hk => (HoA.out.lt k hk).1))⟩
          · rw [HVT.out, List.map_append, List.length_append]
            exact HR8.out.1
          · by_cases e : i' = j
            · rw [e, HT.out, HNW.out]; rfl
            · exact hg.out i' (by omega)
        case measure => simp [intOf]; omega
    · have hjL : j = L - k := by omega
      have e1 : Us.take j = Us := List.take_of_length_le (by rw [HUl.out]; omega)
      rw [e1] at ho
      have HOk := hide (show okWs Us = true by
        refine List.all_eq_true.2 fun T hT => ?_
        obtain ⟨j', hj', rfl⟩ := List.mem_iff_getElem.1 hT
        have := hg.out j' (by have := HUl.out; omega)
        simpa [List.getD, hj'] using this)
      have HO := hide ho.out
      have hge : ¬ (((k + j : Nat) : Int) < (L : Int)) := by omega
      clear ho e1 hjL
      generalize k + j = i at *
      go_wp2_with (fail)
      go_ret2
      exact ⟨_, by rw [HOk.out]; rfl, fun _ => HO.out, fun h => absurd (HOk.out.symm.trans h) (by decide), hb.out⟩
end Go.Proofs.YtpiacnnifdjlkaaDoor

namespace Go.Proofs.YtpiacnnifdjlkaaDoor
open Go.RowKit Go.Sort

theorem strInfo : Tryd.prog.info? 9 = some Tryd.t9 := by kernel_rfl
theorem elStr : ElT 87 9 1 16 := ⟨Tryd.underlying87, ⟨_, .string ByteArray.empty, strInfo, by kernel_rfl, rfl, by kernel_rfl, by kernel_rfl⟩, by decide, by decide⟩

def strV (T : List UInt8) : Value := .string ⟨T.toArray⟩

theorem strSl_of_owns {w : World} {base : Nat} {v : Value} {Ts : List (List UInt8)} {n : Nat} (h : w.ownsRow base 9 1 v n (Ts.map strV)) : StrSl w v Ts := by
  obtain ⟨hl, h⟩ := h
  have hn : Ts.length = n := by simpa using hl
  rcases h with ⟨rfl, h0⟩ | ⟨g, cap, cur, rfl, hb, hg, h1, h2, hs, ht⟩
  · obtain rfl : Ts = [] := List.eq_nil_of_length_eq_zero (by omega)
    exact ⟨_, _, rfl, by unfold maxLen; simp, Or.inl rfl, fun _ => rfl, by simp⟩
  · subst hn
    refine ⟨_, cap, rfl, by omega, Or.inr ⟨g, 0, rfl, fun i hi => ?_⟩, (fun e => by cases e), h1⟩
    rw [cell_of_row w g (0 + i) _ _ _ hg, Nat.zero_add]
    have : cur.toList[i]? = some (.string ⟨(Ts.getD i []).toArray⟩) := by
      have h3 : (cur.toList.take (Ts.length * 1))[i]? = some (.string ⟨(Ts.getD i []).toArray⟩) := by rw [ht]; simp [List.getD, hi, strV]
      rw [List.getElem?_take] at h3
      split at h3
      · exact h3
      · cases h3
    simpa using this

/-- A piece of a text. -/
theorem extract_piece (S : List UInt8) (a b : Nat) : (⟨S.toArray⟩ : ByteArray).extract a b = ⟨((S.drop a).take (b - a)).toArray⟩ := by
  rw [Lib.extract_eq]

theorem spl_snoc {c : UInt8} {S : List UInt8} {a i : Nat} (hai : a ≤ i) (hi : i < S.length) (hn : c ∉ (S.drop a).take (i - a)) (hc : S.getD i 0 = c) : spl c (S.drop a) = (S.drop a).take (i - a) :: spl c (S.drop (i + 1)) := by
  have e : S.drop a = (S.drop a).take (i - a) ++ c :: S.drop (i + 1) := by
    conv => lhs; rw [← List.take_append_drop (i - a) (S.drop a)]
    congr 1
    rw [List.drop_drop, show a + (i - a) = i by omega, List.drop_eq_getElem_cons hi]
    congr 1
    simpa [List.getD, hi] using hc
  conv => lhs; rw [e]
  exact spl_app _ hn

theorem piece_snoc {c : UInt8} {S : List UInt8} {a i : Nat} (hai : a ≤ i) (hi : i < S.length) (hn : c ∉ (S.drop a).take (i - a)) (hc : S.getD i 0 ≠ c) : c ∉ (S.drop a).take (i + 1 - a) := by
  rw [show i + 1 - a = i - a + 1 by omega, List.take_add_one]
  have : (S.drop a)[i - a]? = some (S.getD i 0) := by
    rw [List.getElem?_drop, show a + (i - a) = i by omega]
    simp [List.getD, hi]
  rw [this]
  simp only [Option.toList_some, List.mem_append, List.mem_singleton]
  rintro (h | h)
  · exact hn h
  · exact hc h.symm

set_option maxRecDepth 100000 in
set_option maxHeartbeats 2000000 in
theorem cutR_any (S : List UInt8) (c : UInt8) (hS : S.length ≤ 100000) (w : World) :
    Calls Tryd.prog 57 #[.string ⟨S.toArray⟩, .int .u8 (c.toNat : Int)] w fun e w' => ∃ v, e = .returned v ∧ StrSl w' v (spl c S) ∧ Below w.heap.size w w' := by
  have hsz : (⟨S.toArray⟩ : ByteArray).size = S.length := by simp [ByteArray.size]
  go_enter Tryd.func57, Tryd.ntmps57
  go_wp2_with (fail)
  go_loopw [5, 6, 7] (fun s5 s6 s7 wr => ∃ (a i : Nat) (D : List (List UInt8)), s6 = .int .i64 a ∧ s7 = .int .i64 i ∧ a ≤ i ∧ i ≤ S.length ∧ D.length ≤ i ∧ Hid (wr.ownsRow w.heap.size 9 1 s5 D.length (D.map strV)) ∧ Hid (spl c S = D ++ spl c (S.drop a)) ∧ Hid (c ∉ (S.drop a).take (i - a)) ∧ Hid (Below w.heap.size w wr)) (fun _ _ s7 _ => S.length - (intOf s7).toNat)
  case atStart => exact ⟨0, 0, [], rfl, rfl, Nat.le_refl _, Nat.zero_le _, Nat.le_refl _, hide (World.ownsRow_nil _ _ _ _), hide rfl, hide (by simp), hide (Below.refl _ _)⟩
  case round =>
    obtain ⟨a, i, D, rfl, rfl, hai, hi, hDi, ho, hsp, hn, hb⟩ := hrel
    have hsz2 := hb.out.size
    by_cases hlt : i < S.length
    · have hbi : S[i]? = some (S.getD i 0) := by simp [List.getD, hlt]
      have i1 := fun W => byte_run W S i (i : Int) (S.getD i 0) rfl hbi
      by_cases hc : S.getD i 0 = c
      · have HSp := hide (spl_snoc hai hlt hn.out hc)
        rw [hc] at i1
        have hcc : ((c.toNat : Int) == (c.toNat : Int)) = true := by simp
        have Hc0 := hide (cell_of_row _ _ 0 _ _ _ (one_new wr (Obj.cells #[.string ((⟨S.toArray⟩ : ByteArray).extract a i)] 9)))
        have HoA := hide (ho.out.alloc (Obj.cells #[.string ((⟨S.toArray⟩ : ByteArray).extract a i)] 9))
        have HbA := hide (show w.heap.size ≤ (wr.alloc (Obj.cells #[.string ((⟨S.toArray⟩ : ByteArray).extract a i)] 9)).heap.size by simp; omega)
        have HBA := hide (hb.out.alloc hsz2 (Obj.cells #[.string ((⟨S.toArray⟩ : ByteArray).extract a i)] 9))
        have HEx := hide (extract_piece S a i)
        clear ho hn hbi hc
        go_wp2_with (at_builtin; refine wpList_append_one _ rfl (.tmp 19) (.tmp 24) 87 9 1 16 rfl elStr w.heap.size _ _ _ rfl HoA.out wr.heap.size 1 [.string ((⟨S.toArray⟩ : ByteArray).extract a i)] rfl rfl (by intro j u hu; match j, hu with | 0, hu => simp at hu; subst hu; exact Hc0.out | j + 1, hu => simp at hu) (by intro u hu; simp at hu; subst hu; rfl) (by omega) HbA.out ?_; intro g8 cap8 w8 hown8 hgrow8 hor8 hbase8; have HR8 := hide (And.intro hown8 hgrow8); clear hown8 hgrow8 hor8)
        go_roundw
        case rel =>
          refine ⟨i + 1, i + 1, D ++ [(S.drop a).take (i - a)], by go_num, by go_num, Nat.le_refl _, by omega, by rw [List.length_append]; simp; omega, hide ?_, hide (by rw [hsp.out, HSp.out, List.append_assoc]; rfl), hide (by simp), hide (HBA.out.grown HR8.out.2 HbA.out (fun k hk => (HoA.out.lt k hk).1))⟩
          have hR := HR8.out.1
          rw [HEx.out] at hR
          rw [List.map_append, List.length_append]
          exact hR
        case measure => simp [intOf]; omega
      · have HP := hide (piece_snoc hai hlt hn.out hc)
        have hcc : (((S.getD i 0).toNat : Int) == (c.toNat : Int)) = false := by
          rw [beq_eq_false_iff_ne]
          intro e
          exact hc (UInt8.toNat_inj.1 (by omega))
        generalize S.getD i 0 = b at *
        clear hbi hn hc
        go_wp2_with (fail)
        go_roundw
        case rel => exact ⟨a, i + 1, D, rfl, by go_num, by omega, by omega, by omega, ho, hsp, HP, hb⟩
        case measure => simp [intOf]; omega
    · obtain rfl : i = S.length := by omega
      have Hc0 := hide (cell_of_row _ _ 0 _ _ _ (one_new wr (Obj.cells #[.string ((⟨S.toArray⟩ : ByteArray).extract a S.length)] 9)))
      have HoA := hide (ho.out.alloc (Obj.cells #[.string ((⟨S.toArray⟩ : ByteArray).extract a S.length)] 9))
      have HbA := hide (show w.heap.size ≤ (wr.alloc (Obj.cells #[.string ((⟨S.toArray⟩ : ByteArray).extract a S.length)] 9)).heap.size by simp; omega)
      have HBA := hide (hb.out.alloc hsz2 (Obj.cells #[.string ((⟨S.toArray⟩ : ByteArray).extract a S.length)] 9))
      have HEx := hide (extract_piece S a S.length)
      have HLast := hide (show spl c S = D ++ [(S.drop a).take (S.length - a)] by
        rw [hsp.out]
        have e : (S.drop a).take (S.length - a) = S.drop a := List.take_of_length_le (by simp)
        rw [e]
        have h := hn.out
        rw [e] at h
        rw [spl_none h])
      clear ho hn hsp
      go_wp2_with (at_builtin; refine wpList_append_one _ rfl (.tmp 28) (.tmp 32) 87 9 1 16 rfl elStr w.heap.size _ _ _ rfl HoA.out wr.heap.size 1 [.string ((⟨S.toArray⟩ : ByteArray).extract a S.length)] rfl rfl (by intro j u hu; match j, hu with | 0, hu => simp at hu; subst hu; exact Hc0.out | j + 1, hu => simp at hu) (by intro u hu; simp at hu; subst hu; rfl) (by omega) HbA.out ?_; intro g8 cap8 w8 hown8 hgrow8 hor8 hbase8; have HR8 := hide (And.intro hown8 hgrow8); clear hown8 hgrow8 hor8)
      go_ret
      have hR := HR8.out.1
      rw [HEx.out] at hR
      refine ⟨_, rfl, ?_, HBA.out.grown HR8.out.2 HbA.out (fun k hk => (HoA.out.lt k hk).1)⟩
      rw [HLast.out]
      refine strSl_of_owns (n := D.length + 1) (base := w.heap.size) ?_
      rw [List.map_append]
      exact hR
end Go.Proofs.YtpiacnnifdjlkaaDoor
