/-
  Numerals and their numbers: plain mathematics.
-/
import Derived.Test.YtpiacnnifdjlkaaDoorIh
import Derived.Lib.Split
/-
  What number of package auto answers of a word.
-/
namespace Go.Proofs.YtpiacnnifdjlkaaDoor
open Go.RowKit Go.Sort

theorem byte_run (w : World) (l : List UInt8) (i : Nat) (z : Int) (b : UInt8) (hz : z = i) (h : l[i]? = some b) : (Instr.index 9 (.string ⟨l.toArray⟩) (.int .i64 z)).run Tryd.prog w = .ok (.int .u8 (b.toNat : Int)) w := by
  subst hz
  obtain ⟨hl, he⟩ := List.getElem?_eq_some_iff.1 h
  have hsz : (⟨l.toArray⟩ : ByteArray).size = l.length := by simp [ByteArray.size]
  rw [run_index_string (P := Tryd.prog) w 9 ⟨l.toArray⟩ .i64 i Tryd.underlying9, dif_pos ⟨by omega, by rw [hsz]; omega⟩]
  have : (⟨l.toArray⟩ : ByteArray)[((i : Nat) : Int).toNat]'(by rw [hsz]; simpa using hl) = b := by
    rw [← he]
    rfl
  rw [this]

def isDg (b : UInt8) : Bool := decide (48 ≤ b.toNat ∧ b.toNat ≤ 57)
def valT (T : List UInt8) : Nat := T.foldl (fun n b => 10 * n + (b.toNat - 48)) 0

/-- A word that can't be a number by its length or by a nought ahead. -/
def badW (T : List UInt8) : Bool := decide (T = []) || decide (6 < T.length) || (decide (T.getD 0 0 = 48) && decide (T ≠ [48]))

/-- The number of a word. -/
def numW (T : List UInt8) : Option Nat := if badW T = true then none else if T.all isDg = true then some (valT T) else none

theorem valT_snoc (T : List UInt8) (b : UInt8) : valT (T ++ [b]) = 10 * valT T + (b.toNat - 48) := by simp [valT]

theorem valT_take (T : List UInt8) (i : Nat) (h : i < T.length) : valT (T.take (i + 1)) = 10 * valT (T.take i) + ((T.getD i 0).toNat - 48) := by
  rw [List.take_add_one, List.getElem?_eq_getElem h]
  simp only [Option.toList_some]
  rw [valT_snoc]
  simp [List.getD, h]

theorem valT_lt (T : List UInt8) (h : ∀ b ∈ T, b.toNat ≤ 57) : ∀ i, i ≤ T.length → valT (T.take i) < 10 ^ i
  | 0, _ => by simp [valT]
  | i + 1, hi => by
    have ih := valT_lt T h i (by omega)
    have hb := h (T.getD i 0) (by simp [List.getD, show i < T.length by omega])
    rw [valT_take T i (by omega), Nat.pow_succ]
    omega

set_option maxRecDepth 100000 in
set_option maxHeartbeats 4000000 in
theorem number_plain {T : List UInt8} (hb : badW T = false) (hk : T.getD 0 0 ≠ 48) (w : World) :
    Calls Tryd.prog 150 #[.string ⟨T.toArray⟩] w fun e w' => e = .returned (.tuple #[.int .i64 ((numW T).getD 0 : Nat), .bool (numW T).isSome]) ∧ w' = w := by
  have hn : numW T = if T.all isDg = true then some (valT T) else none := by unfold numW; rw [hb]; rfl
  have h1 : T ≠ [] := fun e => by rw [e] at hb; simp [badW] at hb
  have h2 : T.length ≤ 6 := by
    rcases Nat.lt_or_ge 6 T.length with h | h
    · simp [badW, h] at hb
    · exact h
  have h0 : 0 < T.length := List.length_pos_iff.2 h1
  have hsz : (⟨T.toArray⟩ : ByteArray).size = T.length := by simp [ByteArray.size]
  have t1 : T.isEmpty = false := by simpa using h1
  have hg : ¬ ((6 : Int) < (T.length : Int)) := by omega
  have HN := hide hn
  have hi0 : ∀ W, (Instr.index 9 (.string ⟨T.toArray⟩) (.int .i64 0)).run Tryd.prog W = .ok (.int .u8 ((T.getD 0 0).toNat : Int)) W := fun W => byte_run W T 0 0 (T.getD 0 0) rfl (by simp [List.getD, h0])
  have t2 : (((T.getD 0 0).toNat : Int) == 48) = false := by
    rw [beq_eq_false_iff_ne]
    intro e
    exact hk (UInt8.toNat_inj.1 (show (T.getD 0 0).toNat = 48 by omega))
  generalize ((T.getD 0 0).toNat : Int) = z0 at *
  clear hn hb hk
  go_enter Tryd.func150, Tryd.ntmps150
  go_wp2_with (fail)
  go_loopw [4, 24] (fun s4 s24 wr => ∃ i : Nat, i ≤ T.length ∧ s4 = .int .i64 (valT (T.take i) : Nat) ∧ s24 = .int .i64 i ∧ Hid (∀ j, j < i → isDg (T.getD j 0) = true) ∧ wr = w) (fun _ s24 _ => T.length - (intOf s24).toNat)
  case atStart => exact ⟨0, Nat.zero_le _, rfl, rfl, hide (fun j hj => absurd hj (Nat.not_lt_zero _)), rfl⟩
  case round =>
    clear hi0 t2
    obtain ⟨i, hi, rfl, rfl, hd, rfl⟩ := hrel
    by_cases hlt : i < T.length
    · have hbi : T[i]? = some (T.getD i 0) := by simp [List.getD, hlt]
      have i1 := fun W => byte_run W T i (i : Int) (T.getD i 0) rfl hbi
      have hv : valT (T.take i) < 1000000 := by
        have h := valT_lt (T.take i) (fun b hb => by
          obtain ⟨j, hj, rfl⟩ := List.mem_iff_getElem.1 hb
          rw [List.length_take] at hj
          have := hd.out j (by omega)
          unfold isDg at this
          have h2 := (of_decide_eq_true this).2
          simp [List.getD, show j < T.length by omega] at h2
          simpa using h2) i (by rw [List.length_take]; omega)
        rw [List.take_take, Nat.min_self] at h
        exact Nat.lt_of_lt_of_le h (Nat.le_trans (Nat.pow_le_pow_right (by decide) (show i ≤ 6 by omega)) (by decide))
      have HV := hide (valT_take T i hlt)
      have HD := hide hd.out
      by_cases hdg : isDg (T.getD i 0) = true
      · have hdd := of_decide_eq_true hdg
        have HDG := hide hdg
        generalize hbe : T.getD i 0 = b at *
        have HBE := hide hbe
        generalize valT (T.take i) = n at *
        have d1 : ¬ ((b.toNat : Int) < 48) := by omega
        have d2 : ¬ ((57 : Int) < (b.toNat : Int)) := by omega
        have hw8 : IntKind.u8.wrap ((b.toNat : Int) - 48) = (b.toNat : Int) - 48 := by
          have e : ∀ k : Nat, k < 10 → IntKind.u8.wrap (((48 + k : Nat) : Int) - 48) = ((48 + k : Nat) : Int) - 48 := by decide
          have := e (b.toNat - 48) (by omega)
          rwa [show 48 + (b.toNat - 48) = b.toNat by omega] at this
        clear hbi hd hdg hbe
        go_wp2_with (fail)
        go_roundw
        case rel =>
          refine ⟨i + 1, by omega, ?_, by go_num, hide (fun j hj => ?_), trivial⟩
          · rw [HV.out]
            congr 1
            omega
          · by_cases e : j = i
            · subst e; rw [HBE.out]; exact HDG.out
            · exact HD.out j (by omega)
        case measure => simp [intOf]; omega
      · have HNN := hide (show numW T = none by
          rw [HN.out, if_neg]
          intro h
          exact hdg (List.all_eq_true.1 h _ (by simp [List.getD, hlt])))
        have hor : (T.getD i 0).toNat < 48 ∨ (48 ≤ (T.getD i 0).toNat ∧ 57 < (T.getD i 0).toNat) := by
          unfold isDg at hdg
          rw [decide_eq_true_eq] at hdg
          omega
        generalize T.getD i 0 = b at *
        generalize valT (T.take i) = n at *
        clear hbi hd hdg
        rcases hor with ho | ⟨ho1, ho2⟩
        · have d1 : decide ((b.toNat : Int) < 48) = true := decide_eq_true (by omega)
          go_wp2_with (fail)
          go_ret2
          exact ⟨by rw [HNN.out]; rfl, rfl⟩
        · have d1 : decide ((b.toNat : Int) < 48) = false := decide_eq_false (by omega)
          have d2 : decide ((57 : Int) < (b.toNat : Int)) = true := decide_eq_true (by omega)
          go_wp2_with (fail)
          go_ret2
          exact ⟨by rw [HNN.out]; rfl, rfl⟩
    · obtain rfl : i = T.length := by omega
      have HNS := hide (show numW T = some (valT T) by
        rw [HN.out, if_pos]
        refine List.all_eq_true.2 fun b hb => ?_
        obtain ⟨j, hj, rfl⟩ := List.mem_iff_getElem.1 hb
        have := hd.out j hj
        simpa [List.getD, hj] using this)
      rw [List.take_length]
      generalize valT T = n at *
      clear hd
      go_wp2_with (fail)
      go_ret2
      exact ⟨by rw [HNS.out]; rfl, rfl⟩
end Go.Proofs.YtpiacnnifdjlkaaDoor

/-
  What number of package auto answers of a word, in any case.
-/
namespace Go.Proofs.YtpiacnnifdjlkaaDoor
open Go.RowKit Go.Sort

set_option maxRecDepth 100000 in
set_option maxHeartbeats 4000000 in
theorem number_nought (w : World) : Calls Tryd.prog 150 #[.string ⟨#[48]⟩] w fun e w' => e = .returned (.tuple #[.int .i64 0, .bool true]) ∧ w' = w := by
  have i0 : ∀ W, (Instr.index 9 (.string ⟨#[48]⟩) (.int .i64 0)).run Tryd.prog W = .ok (.int .u8 48) W := fun W => byte_run W [48] 0 0 48 rfl rfl
  go_enter Tryd.func150, Tryd.ntmps150
  go_wp2_with (fail)
  go_loopw [4, 24] (fun s4 s24 wr => ∃ i : Nat, i ≤ 1 ∧ s4 = .int .i64 0 ∧ s24 = .int .i64 i ∧ wr = w) (fun _ s24 _ => 1 - (intOf s24).toNat)
  case atStart => exact ⟨0, by omega, rfl, rfl, rfl⟩
  case round =>
    obtain ⟨i, hi, rfl, rfl, rfl⟩ := hrel
    rcases (show i = 0 ∨ i = 1 by omega) with rfl | rfl
    · go_wp2_with (fail)
      go_roundw
      case rel => exact ⟨1, by omega, rfl, rfl, trivial⟩
      case measure => simp [intOf]
    · go_wp2_with (fail)
      go_ret2
      exact ⟨rfl, rfl⟩

set_option maxRecDepth 100000 in
set_option maxHeartbeats 4000000 in
theorem number_bad {T : List UInt8} (hb : badW T = true) (w : World) : Calls Tryd.prog 150 #[.string ⟨T.toArray⟩] w fun e w' => e = .returned (.tuple #[.int .i64 0, .bool false]) ∧ w' = w := by
  have hsz : (⟨T.toArray⟩ : ByteArray).size = T.length := by simp [ByteArray.size]
  by_cases h1 : T = []
  · subst h1
    go_enter Tryd.func150, Tryd.ntmps150
    go_wp2_with (fail)
    go_ret2
    exact ⟨rfl, rfl⟩
  have t1 : T.isEmpty = false := by simpa using h1
  by_cases h2 : 6 < T.length
  · have hg : decide ((6 : Int) < (T.length : Int)) = true := decide_eq_true (by omega)
    clear hb
    go_enter Tryd.func150, Tryd.ntmps150
    go_wp2_with (fail)
    go_ret2
    exact ⟨rfl, rfl⟩
  have h0 : 0 < T.length := List.length_pos_iff.2 h1
  have hk : T.getD 0 0 = 48 ∧ T ≠ [48] := by
    unfold badW at hb
    simpa [h1, h2] using hb
  have hi0 : ∀ W, (Instr.index 9 (.string ⟨T.toArray⟩) (.int .i64 0)).run Tryd.prog W = .ok (.int .u8 48) W := fun W => byte_run W T 0 0 48 rfl (by rw [← hk.1]; simp [List.getD, h0])
  have hg : ¬ ((6 : Int) < (T.length : Int)) := by omega
  have hne : (!T == [48]) = true := by simpa using hk.2
  clear hb hk
  go_enter Tryd.func150, Tryd.ntmps150
  go_wp2_with (fail)
  go_ret2
  exact ⟨rfl, rfl⟩

theorem number_any (T : List UInt8) (w : World) : Calls Tryd.prog 150 #[.string ⟨T.toArray⟩] w fun e w' => e = .returned (.tuple #[.int .i64 ((numW T).getD 0 : Nat), .bool (numW T).isSome]) ∧ w' = w := by
  cases hb : badW T with
  | true =>
    have e : numW T = none := by unfold numW; rw [hb]; rfl
    rw [e]
    exact number_bad hb w
  | false =>
    by_cases h48 : T = [48]
    · subst h48
      exact number_nought w
    · by_cases hk : T.getD 0 0 = 48
      · unfold badW at hb
        simp [h48] at hb
        exact absurd (by simpa using hk) hb.2
      · exact number_plain hb hk w
end Go.Proofs.YtpiacnnifdjlkaaDoor

/-
  What numbers of package auto answers of words.
-/
namespace Go.Proofs.YtpiacnnifdjlkaaDoor
open Go.RowKit Go.Sort

/-- A slice of texts that reads as this list. -/
def StrSl (w : World) (v : Value) (Ts : List (List UInt8)) : Prop :=
  ∃ a cap, v = .slice a Ts.length cap ∧ Ts.length ≤ maxLen ∧ (Ts = [] ∨ ∃ b off, a = some ⟨b, off, none⟩ ∧ ∀ i, i < Ts.length → w.cell? ⟨b, off + i, none⟩ = some (.string ⟨(Ts.getD i []).toArray⟩)) ∧ (a = none → cap = 0) ∧ Ts.length ≤ cap

theorem StrSl.below {w w' : World} {v : Value} {Ts : List (List UInt8)} (h : StrSl w v Ts) (hb : Below w.heap.size w w') : StrSl w' v Ts := by
  obtain ⟨a, cap, rfl, hm, h, hn⟩ := h
  refine ⟨a, cap, rfl, hm, ?_, hn⟩
  rcases h with h | ⟨b, off, rfl, h⟩
  · exact Or.inl h
  · exact Or.inr ⟨b, off, rfl, fun i hi => cell_kept (h i hi) hb⟩

def okWs (Ts : List (List UInt8)) : Bool := Ts.all fun T => (numW T).isSome
def valsW (Ts : List (List UInt8)) : List Int := Ts.map fun T => (((numW T).getD 0 : Nat) : Int)

theorem valsW_take (Ts : List (List UInt8)) (i : Nat) (h : i < Ts.length) : valsW (Ts.take (i + 1)) = valsW (Ts.take i) ++ [(((numW (Ts.getD i [])).getD 0 : Nat) : Int)] := by
  unfold valsW
  rw [List.take_add_one, List.getElem?_eq_getElem h, List.map_append]
  simp [List.getD, h]

/-- What numbers leaves. -/
def NumsOf (Ts : List (List UInt8)) (w : World) (e : Ending) (w' : World) : Prop := ∃ v, e = .returned (.tuple #[v, .bool (okWs Ts)]) ∧ (okWs Ts = true → w'.ownsRow w.heap.size 3 1 v (valsW Ts).length ((valsW Ts).map (.int .i64))) ∧ (okWs Ts = false → v = .slice none 0 0) ∧ Below w.heap.size w w'

set_option maxRecDepth 100000 in
set_option maxHeartbeats 4000000 in
theorem numbers_any {w : World} {v : Value} {Ts : List (List UInt8)} (hv : StrSl w v Ts) (hl : Ts.length ≤ 200000) :
    Calls Tryd.prog 151 #[v] w fun e w' => NumsOf Ts w e w' := by
  have HV := hide hv
  obtain ⟨a, cap, rfl, hm, -⟩ := hv
  generalize hL : Ts.length = L at *
  have HL := hide hL
  clear hL
  go_enter Tryd.func151, Tryd.ntmps151
  go_wp2_with (fail)
  go_loopw [4, 11] (fun s4 s11 wr => ∃ (i : Nat), s11 = .int .i64 i ∧ i ≤ L ∧ Hid (wr.ownsRow w.heap.size 3 1 s4 (valsW (Ts.take i)).length ((valsW (Ts.take i)).map (.int .i64))) ∧ Hid (∀ j, j < i → (numW (Ts.getD j [])).isSome = true) ∧ Hid (Below w.heap.size w wr)) (fun _ s11 _ => L - (intOf s11).toNat)
  case atStart => exact ⟨0, rfl, Nat.zero_le _, hide (World.ownsRow_nil _ _ _ _), hide (fun j hj => absurd hj (Nat.not_lt_zero _)), hide (Below.refl _ _)⟩
  case round =>
    obtain ⟨i, rfl, hi, ho, hg, hb⟩ := hrel
    have hsz := hb.out.size
    by_cases hlt : i < L
    · have hls : i < Ts.length := by rw [HL.out]; exact hlt
      obtain ⟨a', cap', e, _, hzz, _⟩ := HV.out.below hb.out
      injection e with e1 e2 e3
      subst e1
      rcases hzz with hzz | ⟨b, off, e, hcell⟩
      · rw [hzz] at hls; simp at hls
      subst e
      have d0 := hcell i hls
      have HVT := hide (valsW_take Ts i hls)
      have hvl : (valsW (Ts.take i)).length ≤ 200000 := by unfold valsW; rw [List.length_map, List.length_take]; omega
      have HMem := hide (show Ts.getD i [] ∈ Ts by simp [List.getD, hls])
      have HN := hide (number_any (Ts.getD i []) wr)
      clear hcell e2 e3
      generalize hT : Ts.getD i [] = T at *
      have HT := hide hT
      clear hT
      cases hnw : numW T with
      | none =>
        rw [hnw] at HN
        have HBad := hide (show okWs Ts = false by
          cases h : okWs Ts with
          | false => rfl
          | true =>
            have := List.all_eq_true.1 h T HMem.out
            rw [hnw] at this
            cases this)
        clear hnw HVT
        go_wp2_with (fail)
        refine HN.out.mono ?_
        rintro e w6 ⟨rfl, rfl⟩
        go_wp2_with (fail)
        go_ret2
        exact ⟨_, by rw [HBad.out]; rfl, fun h => absurd (HBad.out.symm.trans h) (by decide), fun _ => rfl, hb.out⟩
      | some n =>
        rw [hnw] at HN HVT
        have HNW := hide hnw
        clear hnw
        go_wp2_with (fail)
        refine HN.out.mono ?_
        rintro e w6 ⟨rfl, rfl⟩
        have Hc0 := hide (cell_of_row _ _ 0 _ _ _ (one_new w6 (Obj.cells #[Value.int .i64 (n : Int)] 3)))
        have HoA := hide (ho.out.alloc (Obj.cells #[Value.int .i64 (n : Int)] 3))
        have HbA := hide (show w.heap.size ≤ (w6.alloc (Obj.cells #[Value.int .i64 (n : Int)] 3)).heap.size by simp; omega)
        have HBA := hide (hb.out.alloc hsz (Obj.cells #[Value.int .i64 (n : Int)] 3))
        clear d0 ho hb
        go_wp2_with (at_builtin; refine wpList_append_one _ rfl (.tmp 22) (.tmp 24) 22 3 1 8 rfl elInt w.heap.size _ _ _ rfl HoA.out w6.heap.size 1 [.int .i64 (n : Int)] rfl rfl (by intro j u hu; match j, hu with | 0, hu => simp at hu; subst hu; exact Hc0.out | j + 1, hu => simp at hu) (by intro u hu; simp at hu; subst hu; rfl) (by omega) HbA.out ?_; intro g8 cap8 w8 hown8 hgrow8 hor8 hbase8; have HR8 := hide (And.intro hown8 hgrow8); clear hown8 hgrow8 hor8)
        go_roundw
        case rel =>
          refine ⟨i + 1, by go_num, by omega, hide ?_, hide (fun j hj => ?_), hide (HBA.out.grown HR8.out.2 HbA.out (fun k hk => (HoA.out.lt k hk).1))⟩
          · rw [HVT.out, List.map_append, List.length_append]
            exact HR8.out.1
          · by_cases e : j = i
            · rw [e, HT.out, HNW.out]; rfl
            · exact hg.out j (by omega)
        case measure => simp [intOf]; omega
    · obtain rfl : L = i := by omega
      have e1 : Ts.take L = Ts := by rw [← HL.out]; exact List.take_length
      rw [e1] at ho
      have HOk := hide (show okWs Ts = true by
        refine List.all_eq_true.2 fun T hT => ?_
        obtain ⟨j, hj, rfl⟩ := List.mem_iff_getElem.1 hT
        have := hg.out j (by have := HL.out; omega)
        simpa [List.getD, hj] using this)
      have HO := hide ho.out
      clear ho
      go_wp2_with (fail)
      go_ret2
      exact ⟨_, by rw [HOk.out]; rfl, fun _ => HO.out, fun h => absurd (HOk.out.symm.trans h) (by decide), hb.out⟩
end Go.Proofs.YtpiacnnifdjlkaaDoor

/-
  What readFirst of package auto reads.
-/
namespace Go.Proofs.YtpiacnnifdjlkaaDoor
open Go.RowKit Go.Sort

def wFirst : List UInt8 := [102, 105, 114, 115, 116]

set_option maxRecDepth 100000 in
set_option maxHeartbeats 2000000 in
theorem readFirst_any {w : World} {v : Value} {Ts : List (List UInt8)} {pb : Nat} {n m : Int} {fv gv sv : Value} (hx : w.heap[pb]? = some (.cells #[.int .i64 n, .int .i64 m, fv, gv, sv] 26)) (hv : StrSl w v Ts) (h0 : 0 < Ts.length) (hl : Ts.length ≤ 200000) (hne : ∀ k, v.ownBlock = some k → k ≠ pb) :
    Calls Tryd.prog 123 #[.pointer (some ⟨pb, 0, none⟩), v] w fun e w' => ∃ w1 v1, NumsOf Ts.tail w (.returned (.tuple #[v1, .bool (okWs Ts.tail)])) w1 ∧ w' = w1.setCell ⟨pb, 2, none⟩ v1 ∧ e = .returned (.bool (okWs Ts.tail && decide (Ts.getD 0 [] = wFirst))) := by
  have HV := hide hv
  have HX := hide hx
  obtain ⟨a, cap, rfl, hm, hc, -, hcap⟩ := hv
  rcases hc with hc | ⟨b, off, rfl, hc⟩
  · subst hc; simp at h0
  have hb : b ≠ pb := hne b rfl
  have d0 := hc 0 h0
  unfold maxLen at hm
  have hoff : ∃ off2, (cap = 1 → off2 = off) ∧ (cap ≠ 1 → off2 = off + 1) ∧ StrSl w (.slice (some ⟨b, off2, none⟩) Ts.tail.length (cap - 1)) Ts.tail := by
    by_cases h1 : cap = 1
    · refine ⟨off, fun _ => rfl, fun h => absurd h1 h, ?_⟩
      have ht : Ts.tail = [] := List.eq_nil_of_length_eq_zero (by rw [List.length_tail]; omega)
      rw [ht]
      exact ⟨_, _, rfl, by unfold maxLen; simp, Or.inl rfl, (fun h => by cases h), by simp⟩
    · refine ⟨off + 1, fun h => absurd h h1, fun _ => rfl, ?_⟩
      refine ⟨_, _, rfl, by unfold maxLen; rw [List.length_tail]; omega, ?_, (fun h => by cases h), by rw [List.length_tail]; omega⟩
      by_cases ht : Ts.tail = []
      · exact Or.inl ht
      · refine Or.inr ⟨b, off + 1, rfl, fun i hi => ?_⟩
        rw [List.length_tail] at hi
        have := hc (i + 1) (by omega)
        rw [show off + (i + 1) = off + 1 + i by omega] at this
        rw [this]
        congr 3
        cases Ts with
        | nil => simp at h0
        | cons t r => simp [List.getD]
  obtain ⟨off2, ho1, ho2, hT⟩ := hoff
  have HN := hide (numbers_any hT (by rw [List.length_tail]; omega))
  rw [List.length_tail] at HN
  clear hc hT hx hne
  generalize Ts.length = L at *
  have hd0 : w.cell? ⟨b, off, none⟩ = some (.string ⟨(Ts.getD 0 []).toArray⟩) := by simpa using d0
  clear d0
  by_cases hc1 : cap = 1
  · have ho := ho1 hc1
    subst ho
    subst hc1
    have hz1 : L - 1 = 0 := by omega
    rw [hz1, show (1 - 1 : Nat) = 0 from rfl] at HN
    clear ho1 ho2
    go_enter Tryd.func123, Tryd.ntmps123
    go_wp2_with (fail)
    refine HN.out.mono ?_
    intro e w1 hN
    have HNO := hide hN
    obtain ⟨v1, rfl, hok, hbad, hb1⟩ := hN
    have hv1 : ∃ a1 n1 c1, v1 = .slice a1 n1 c1 := by
      cases h : okWs Ts.tail with
      | false => exact ⟨none, 0, 0, hbad h⟩
      | true =>
        rcases (hok h).2 with ⟨rfl, _⟩ | ⟨g, cp, cur, rfl, -⟩
        · exact ⟨_, _, _, rfl⟩
        · exact ⟨_, _, _, rfl⟩
    obtain ⟨a1, n1, c1, rfl⟩ := hv1
    have hx1 : w1.heap[pb]? = some (.cells #[.int .i64 n, .int .i64 m, fv, gv, sv] 26) := (hb1.block pb (Array.getElem?_eq_some_iff.1 HX.out).1).trans HX.out
    have q2 := cell_of_row _ _ 2 _ _ _ hx1
    have x2 := frozen_of_row _ _ 2 _ _ hx1
    have e0 : (w1.setCell ⟨pb, 2, none⟩ (.slice a1 n1 c1)).cell? ⟨b, off2, none⟩ = some (.string ⟨(Ts.getD 0 []).toArray⟩) := by
      rw [World.cell?_setCell_other]
      · exact cell_kept hd0 hb1
      · intro e
        injection e with e
        exact hb e.symm
    clear hok hbad hb1 hx1 hd0
    generalize hT0 : Ts.getD 0 [] = T0 at *
    generalize hq : okWs Ts.tail = ok at *
    have HT0 := hide hT0
    have HQ := hide hq
    clear hT0 hq
    cases ok with
    | false =>
      go_wp2_with (fail)
      go_ret
      refine ⟨w1, _, ?_, rfl, ?_⟩
      · rw [HQ.out]; exact HNO.out
      · rw [HQ.out]; rfl
    | true =>
      go_wp2_with (fail)
      go_ret
      refine ⟨w1, _, ?_, rfl, ?_⟩
      · rw [HQ.out]; exact HNO.out
      · rw [HQ.out, HT0.out]
        show Ending.returned (.bool (T0 == [102, 105, 114, 115, 116])) = _
        congr 2
        rw [Bool.true_and]
        exact Bool.eq_iff_iff.2 (by rw [beq_iff_eq, decide_eq_true_eq]; rfl)
  · have ho := ho2 hc1
    subst ho
    clear ho1 ho2
    go_enter Tryd.func123, Tryd.ntmps123
    go_wp2_with (fail)
    refine HN.out.mono ?_
    intro e w1 hN
    have HNO := hide hN
    obtain ⟨v1, rfl, hok, hbad, hb1⟩ := hN
    have hv1 : ∃ a1 n1 c1, v1 = .slice a1 n1 c1 := by
      cases h : okWs Ts.tail with
      | false => exact ⟨none, 0, 0, hbad h⟩
      | true =>
        rcases (hok h).2 with ⟨rfl, _⟩ | ⟨g, cp, cur, rfl, -⟩
        · exact ⟨_, _, _, rfl⟩
        · exact ⟨_, _, _, rfl⟩
    obtain ⟨a1, n1, c1, rfl⟩ := hv1
    have hx1 : w1.heap[pb]? = some (.cells #[.int .i64 n, .int .i64 m, fv, gv, sv] 26) := (hb1.block pb (Array.getElem?_eq_some_iff.1 HX.out).1).trans HX.out
    have q2 := cell_of_row _ _ 2 _ _ _ hx1
    have x2 := frozen_of_row _ _ 2 _ _ hx1
    have e0 : (w1.setCell ⟨pb, 2, none⟩ (.slice a1 n1 c1)).cell? ⟨b, off, none⟩ = some (.string ⟨(Ts.getD 0 []).toArray⟩) := by
      rw [World.cell?_setCell_other]
      · exact cell_kept hd0 hb1
      · intro e
        injection e with e
        exact hb e.symm
    clear hok hbad hb1 hx1 hd0
    generalize hT0 : Ts.getD 0 [] = T0 at *
    generalize hq : okWs Ts.tail = ok at *
    have HT0 := hide hT0
    have HQ := hide hq
    clear hT0 hq
    cases ok with
    | false =>
      go_wp2_with (fail)
      go_ret
      refine ⟨w1, _, ?_, rfl, ?_⟩
      · rw [HQ.out]; exact HNO.out
      · rw [HQ.out]; rfl
    | true =>
      go_wp2_with (fail)
      go_ret
      refine ⟨w1, _, ?_, rfl, ?_⟩
      · rw [HQ.out]; exact HNO.out
      · rw [HQ.out, HT0.out]
        show Ending.returned (.bool (T0 == [102, 105, 114, 115, 116])) = _
        congr 2
        rw [Bool.true_and]
        exact Bool.eq_iff_iff.2 (by rw [beq_iff_eq, decide_eq_true_eq]; rfl)
end Go.Proofs.YtpiacnnifdjlkaaDoor

/-
  A text parted at a sign, as the library and as the reference part it: plain mathematics.
-/
namespace Go.Proofs.YtpiacnnifdjlkaaDoor

/-- A text parted at a sign. -/
def spl (c : UInt8) : List UInt8 → List (List UInt8)
  | [] => [[]]
  | b :: l => if b = c then [] :: spl c l else (b :: (spl c l).headD []) :: (spl c l).tail

theorem spl_ne (c : UInt8) (l : List UInt8) : spl c l ≠ [] := by
  cases l with
  | nil => simp [spl]
  | cons b l => unfold spl; split <;> simp

theorem spl_none {c : UInt8} : ∀ {l : List UInt8}, c ∉ l → spl c l = [l]
  | [], _ => rfl
  | b :: l, h => by
    have hb : b ≠ c := fun e => h (by rw [e]; exact List.mem_cons_self)
    have := spl_none (c := c) (l := l) (fun e => h (List.mem_cons_of_mem _ e))
    simp [spl, hb, this]

theorem spl_app {c : UInt8} : ∀ {x : List UInt8} (r : List UInt8), c ∉ x → spl c (x ++ c :: r) = x :: spl c r
  | [], r, _ => by simp [spl]
  | b :: l, r, h => by
    have hb : b ≠ c := fun e => h (by rw [e]; exact List.mem_cons_self)
    have := spl_app (c := c) (x := l) r (fun e => h (List.mem_cons_of_mem _ e))
    simp [spl, hb, this]

/-- Its first piece, and what stands behind the sign. -/
theorem spl_cases (c : UInt8) : ∀ (l : List UInt8), c ∉ l ∨ ∃ x r, c ∉ x ∧ l = x ++ c :: r
  | [] => Or.inl (by simp)
  | b :: l => by
    by_cases hb : b = c
    · subst hb
      exact Or.inr ⟨[], l, by simp, rfl⟩
    · rcases spl_cases c l with h | ⟨x, r, hx, rfl⟩
      · exact Or.inl (by simp [h]; exact fun e => hb e.symm)
      · exact Or.inr ⟨b :: x, r, by simp [hx]; exact fun e => hb e.symm, rfl⟩

theorem index_none {c : UInt8} : ∀ {l : List UInt8}, c ∉ l → Lib.index l [c] = -1
  | [], _ => rfl
  | b :: l, h => by
    have hb : ¬ c = b := fun e => h (by rw [e]; exact List.mem_cons_self)
    have := index_none (c := c) (l := l) (fun e => h (List.mem_cons_of_mem _ e))
    unfold Lib.index
    simp [this, hb]

theorem index_app {c : UInt8} : ∀ {x : List UInt8} (r : List UInt8), c ∉ x → Lib.index (x ++ c :: r) [c] = x.length
  | [], r, _ => by unfold Lib.index; simp
  | b :: l, r, h => by
    have hb : ¬ c = b := fun e => h (by rw [e]; exact List.mem_cons_self)
    have := index_app (c := c) (x := l) r (fun e => h (List.mem_cons_of_mem _ e))
    rw [List.cons_append]
    unfold Lib.index
    have h2 : ((l.length : Int) == -1) = false := by rw [beq_eq_false_iff_ne]; omega
    simp [this, hb, h2]

theorem cut_none {c : UInt8} {l : List UInt8} (h : c ∉ l) : Lib.cut l [c] = (l, [], false) := by
  unfold Lib.cut
  rw [index_none h]
  rfl

theorem cut_app {c : UInt8} {x : List UInt8} (r : List UInt8) (h : c ∉ x) : Lib.cut (x ++ c :: r) [c] = (x, r, true) := by
  unfold Lib.cut
  rw [index_app r h, if_pos (by omega)]
  simp

theorem countFrom_spl (c : UInt8) : ∀ (n : Nat) (l : List UInt8), l.length < n → Lib.countFrom [c] n l + 1 = (spl c l).length
  | 0, l, h => absurd h (Nat.not_lt_zero _)
  | n + 1, l, h => by
    unfold Lib.countFrom
    rcases spl_cases c l with hx | ⟨x, r, hx, rfl⟩
    · rw [index_none hx, spl_none hx]; rfl
    · have h2 : ((x.length : Int) == -1) = false := by rw [beq_eq_false_iff_ne]; omega
      rw [index_app r hx, h2, spl_app r hx]
      have := countFrom_spl c n r (by simp at h; omega)
      have e : List.drop ((x.length : Int).toNat + [c].length) (x ++ c :: r) = r := by simp
      rw [e]
      simp only [List.length_cons, Bool.false_eq_true, if_false]
      omega

theorem splitK_spl (c : UInt8) : ∀ (k : Nat) (l : List UInt8), (spl c l).length = k + 1 → Lib.splitK [c] 0 k l = spl c l
  | 0, l, h => by
    rcases spl_cases c l with hx | ⟨x, r, hx, rfl⟩
    · rw [spl_none hx]; rfl
    · rw [spl_app r hx] at h
      have := spl_ne c r
      simp at h
      exact absurd h this
  | k + 1, l, h => by
    unfold Lib.splitK
    rcases spl_cases c l with hx | ⟨x, r, hx, rfl⟩
    · rw [spl_none hx] at h; simp at h
    · have h2 : ((x.length : Int) == -1) = false := by rw [beq_eq_false_iff_ne]; omega
      rw [spl_app r hx] at h ⊢
      rw [index_app r hx, h2]
      have e : List.drop ((x.length : Int).toNat + [c].length) (x ++ c :: r) = r := by simp
      rw [e, splitK_spl c k r (by simpa using h)]
      simp

/-- The pieces' number, and the pieces, as the library tells them. -/
theorem count_spl (c : UInt8) (l : List UInt8) : Lib.count l [c] + 1 = (spl c l).length := countFrom_spl c _ l (Nat.lt_succ_self _)

theorem splitB_spl (c : UInt8) (s : ByteArray) : (Lib.splitB ⟨#[c]⟩ 0 (Lib.countB s ⟨#[c]⟩) s).map (·.data.toList) = spl c s.data.toList := by
  rw [Lib.splitB_data]
  exact splitK_spl c _ _ (count_spl c _).symm

theorem spl_sum (c : UInt8) : ∀ (l : List UInt8), ((spl c l).map List.length).sum + (spl c l).length = l.length + 1
  | [] => rfl
  | b :: l => by
    have := spl_sum c l
    unfold spl
    split
    · simp; omega
    · cases h : spl c l with
      | nil => exact absurd h (spl_ne c l)
      | cons x xs => rw [h] at this; simp at this ⊢; omega

theorem spl_len (c : UInt8) (l : List UInt8) : (spl c l).length ≤ l.length + 1 := by
  have := spl_sum c l
  omega

theorem spl_mem {c : UInt8} : ∀ {l x : List UInt8}, x ∈ spl c l → c ∉ x ∧ x.length ≤ l.length
  | [], x, h => by simp [spl] at h; subst h; simp
  | b :: l, x, h => by
    unfold spl at h
    split at h
    · rcases List.mem_cons.1 h with rfl | h
      · simp
      · have := spl_mem h; exact ⟨this.1, by simp; omega⟩
    · next hb =>
      have hne := spl_ne c l
      cases hs : spl c l with
      | nil => exact absurd hs hne
      | cons y ys =>
        rw [hs] at h
        simp at h
        rcases h with rfl | h
        · have := spl_mem (c := c) (l := l) (x := y) (by rw [hs]; exact List.mem_cons_self)
          simp; exact ⟨⟨fun e => hb e.symm, this.1⟩, this.2⟩
        · have := spl_mem (c := c) (l := l) (x := x) (by rw [hs]; exact List.mem_cons_of_mem _ h)
          simp; exact ⟨this.1, by omega⟩
end Go.Proofs.YtpiacnnifdjlkaaDoor

namespace Go.Proofs.YtpiacnnifdjlkaaDoor

theorem isDg_iff (b : UInt8) : isDg b = true ↔ 48 ≤ b.toNat ∧ b.toNat ≤ 57 := by simp [isDg]

theorem digit_eq {b : UInt8} (h : isDg b = true) : Lib.decDigits (b.toNat - 48) = [b] := by
  have h' := (isDg_iff b).1 h
  rw [Lib.decDigits_one (by omega), show 48 + (b.toNat - 48) = b.toNat by omega]
  simp

theorem valT_pos {T : List UInt8} (h : T.all isDg = true) (h0 : T ≠ []) (hk : T.getD 0 0 ≠ 48) : 1 ≤ valT T := by
  obtain ⟨b, S, rfl⟩ := List.exists_cons_of_ne_nil h0
  have hb : isDg b = true := by simp at h; exact h.1
  have hb' := (isDg_iff b).1 hb
  have hne : b.toNat ≠ 48 := fun e => hk (by simp; exact UInt8.toNat_inj.1 e)
  have gen : ∀ (S : List UInt8) (n : Nat), n ≤ S.foldl (fun n b => 10 * n + (b.toNat - 48)) n := by
    intro S
    induction S with
    | nil => intro n; exact Nat.le_refl _
    | cons c S ih => intro n; exact Nat.le_trans (show n ≤ 10 * n + (c.toNat - 48) by omega) (ih _)
  have := gen S (10 * 0 + (b.toNat - 48))
  unfold valT
  rw [List.foldl_cons]
  omega

/-- A word of digits, no nought ahead, is the numeral of its number. -/
theorem undig_eq : ∀ (n : Nat) (T : List UInt8), T.length = n → T.all isDg = true → T ≠ [] → T.getD 0 0 ≠ 48 → Lib.decDigits (valT T) = T
  | 0, T, hn, _, h0, _ => absurd (List.eq_nil_of_length_eq_zero hn) h0
  | n + 1, T, hn, hd, h0, hk => by
    obtain ⟨S, b, rfl⟩ : ∃ S b, T = S ++ [b] := ⟨T.dropLast, T.getLast h0, (List.dropLast_concat_getLast h0).symm⟩
    have hdS : S.all isDg = true := by rw [List.all_append] at hd; exact ((Bool.and_eq_true _ _).mp hd).1
    have hb : isDg b = true := by rw [List.all_append] at hd; simpa using ((Bool.and_eq_true _ _).mp hd).2
    have hb' := (isDg_iff b).1 hb
    rw [valT_snoc]
    by_cases hS : S = []
    · subst hS
      show Lib.decDigits (10 * 0 + (b.toNat - 48)) = [b]
      rw [Nat.mul_zero, Nat.zero_add]
      exact digit_eq hb
    · have hk' : S.getD 0 0 ≠ 48 := by
        obtain ⟨c, S', rfl⟩ := List.exists_cons_of_ne_nil hS
        simpa using hk
      have hp := valT_pos hdS hS hk'
      rw [decDigits_more (by omega), show (10 * valT S + (b.toNat - 48)) / 10 = valT S by omega, show (10 * valT S + (b.toNat - 48)) % 10 = b.toNat - 48 by omega,
        undig_eq n S (by simpa using hn) hdS hS hk', digit_eq hb]

/-- One with a nought ahead is not. -/
theorem undig_ne {T : List UInt8} (hd : T.all isDg = true) (h1 : T ≠ [48]) (hk : T.getD 0 0 = 48) : Lib.decDigits (valT T) ≠ T := by
  cases T with
  | nil => simp at hk
  | cons b S =>
    obtain rfl : b = 48 := by simpa using hk
    have hS : S ≠ [] := fun e => h1 (by rw [e])
    have hv : valT ((48 : UInt8) :: S) = valT S := by simp [valT]
    have hdS : ∀ c ∈ S, c.toNat ≤ 57 := fun c hc => by
      have := List.all_eq_true.1 hd c (List.mem_cons_of_mem _ hc)
      exact ((isDg_iff c).1 this).2
    have hlt := valT_lt S hdS S.length (Nat.le_refl _)
    rw [List.take_length] at hlt
    have hpos : 0 < S.length := List.length_pos_iff.2 hS
    have hn := nDigits_le (S.length - 1) (valT S) (by rw [show S.length - 1 + 1 = S.length by omega]; exact hlt)
    intro e
    have := congrArg List.length e
    rw [hv, Lib.decDigits_length, List.length_cons] at this
    omega

theorem undig_iff {T : List UInt8} (hd : T.all isDg = true) (h0 : T ≠ []) : Lib.decDigits (valT T) = T ↔ ¬ (T.getD 0 0 = 48 ∧ T ≠ [48]) := by
  by_cases hk : T.getD 0 0 = 48
  · by_cases h1 : T = [48]
    · subst h1
      exact ⟨fun _ h => h.2 rfl, fun _ => by show Lib.decDigits 0 = [48]; rw [Lib.decDigits_one (by omega)]; rfl⟩
    · exact ⟨fun h => absurd h (undig_ne hd h1 hk), fun h => absurd ⟨hk, h1⟩ h⟩
  · exact ⟨fun _ h => hk h.1, fun _ => undig_eq _ T rfl hd h0 hk⟩

/-- The number of a word, as the reference asks for it. -/
theorem numW_ref {T : List UInt8} (h0 : T ≠ []) (h6 : T.length ≤ 6) (hd : T.all isDg = true) : numW T = if Lib.decDigits (valT T) = T then some (valT T) else none := by
  unfold numW badW
  have hi := undig_iff hd h0
  have g6 : ¬ 6 < T.length := by omega
  by_cases h : T.getD 0 0 = 48 ∧ T ≠ [48]
  · rw [if_neg (fun e => hi.1 e h)]
    have : (decide (T.getD 0 0 = 48) && decide (T ≠ [48])) = true := by rw [decide_eq_true h.1, decide_eq_true h.2]; rfl
    rw [this, Bool.or_true, if_pos rfl]
  · rw [if_pos (hi.2 h)]
    have : (decide (T.getD 0 0 = 48) && decide (T ≠ [48])) = false := by
      rw [← Bool.not_eq_true]
      simpa using h
    rw [this, decide_eq_false h0, decide_eq_false g6, hd]
    rfl

theorem decDigits_dg (u : Nat) : (Lib.decDigits u).all isDg = true := by
  induction u using Nat.strongRecOn with
  | _ u ih =>
    have one : ∀ i, i < 10 → isDg (UInt8.ofNat (48 + i)) = true := fun i hi => by
      rw [isDg_iff]
      simp [UInt8.toNat_ofNat']
      omega
    by_cases h : u < 10
    · rw [Lib.decDigits_one h, List.all_cons, one u h]; rfl
    · rw [decDigits_more h, List.all_append, ih _ (by omega), Lib.decDigits_one (show u % 10 < 10 by omega), List.all_cons, one _ (show u % 10 < 10 by omega)]
      rfl

theorem valT_dec (u : Nat) : valT (Lib.decDigits u) = u := by
  induction u using Nat.strongRecOn with
  | _ u ih =>
    have one : ∀ i, i < 10 → (UInt8.ofNat (48 + i)).toNat - 48 = i := fun i hi => by
      simp [UInt8.toNat_ofNat']
      omega
    by_cases h : u < 10
    · rw [Lib.decDigits_one h]
      simpa [valT] using one u h
    · rw [decDigits_more h, Lib.decDigits_one (show u % 10 < 10 by omega), valT_snoc, ih _ (by omega), one _ (by omega)]
      omega

theorem decDigits_ne (u : Nat) : Lib.decDigits u ≠ [] := by
  intro e
  have := congrArg List.length e
  rw [Lib.decDigits_length] at this
  have := Lib.nDigits_pos u
  simp at *
  omega

/-- What is printed is read. -/
theorem numW_dec {u : Nat} (h : u < 1000000) : numW (Lib.decDigits u) = some u := by
  have hl := nDigits_le 5 u (by simpa using h)
  rw [numW_ref (decDigits_ne u) (by rw [Lib.decDigits_length]; omega) (decDigits_dg u), valT_dec, if_pos rfl]

/-- And nothing else is. -/
theorem numW_back {T : List UInt8} {n : Nat} (h : numW T = some n) : T = Lib.decDigits n ∧ n < 1000000 := by
  by_cases hb : badW T = true
  · unfold numW at h; rw [if_pos hb] at h; cases h
  · by_cases hd : T.all isDg = true
    · have h0 : T ≠ [] := fun e => hb (by unfold badW; simp [e])
      have h6 : T.length ≤ 6 := by
        refine Nat.le_of_not_lt fun e => hb ?_
        unfold badW; simp [e]
      rw [numW_ref h0 h6 hd] at h
      split at h
      · next e =>
        obtain rfl := Option.some.inj h
        refine ⟨e.symm, ?_⟩
        have := valT_lt T (fun b hb => ((isDg_iff b).1 (List.all_eq_true.1 hd b hb)).2) T.length (Nat.le_refl _)
        rw [List.take_length] at this
        exact Nat.lt_of_lt_of_le this (Nat.pow_le_pow_right (by decide) h6)
      · cases h
    · unfold numW at h; rw [if_neg hb, if_neg hd] at h; cases h
end Go.Proofs.YtpiacnnifdjlkaaDoor
