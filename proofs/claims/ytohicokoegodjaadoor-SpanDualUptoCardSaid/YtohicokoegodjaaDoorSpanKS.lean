/- Lists of truths: contracts of And, Or, count and the specification's And and Or, over this seat's translation. -/
import Derived.Test.YtohicokoegodjaaDoorSpanKR
namespace Go.Proofs.YtohicokoegodjaaDoor
set_option linter.unusedVariables false
set_option linter.unusedSimpArgs false
open Go.RowKit

/-- The cells of a list of truths. -/
def TrCells (w : World) (ab ao len : Nat) (zs : List Int) : Prop := ∀ j, j < len → w.cell? ⟨ab, ao + j, none⟩ = some (.int .i64 (zs.getD j 0))
theorem TrCells.below {w w1 : World} {ab ao len : Nat} {zs : List Int} (h : TrCells w ab ao len zs) (hab : ab < w.heap.size) (hb : Below w.heap.size w w1) : TrCells w1 ab ao len zs :=
  fun j hj => (hb.cell (p := ⟨ab, _, none⟩) hab).trans (h j hj)

/-- A value that reads as a list of truths. -/
def IsTr (w : World) (v : Value) (zs : List Int) : Prop :=
  (∃ (a : Option Addr) (cap : Nat), v = .slice a 0 cap ∧ zs = []) ∨ ∃ ab ao len cap : Nat, v = .slice (some ⟨ab, ao, none⟩) len cap ∧ ab < w.heap.size ∧ zs.length = len ∧ len ≤ maxLen ∧ TrCells w ab ao len zs
theorem IsTr.below {w w1 : World} {v : Value} {zs : List Int} (h : IsTr w v zs) (hb : Below w.heap.size w w1) : IsTr w1 v zs := by
  rcases h with h | ⟨ab, ao, len, cap, h1, h2, h3, h4, h5⟩
  · exact .inl h
  · exact .inr ⟨ab, ao, len, cap, h1, Nat.lt_of_lt_of_le h2 hb.size, h3, h4, h5.below h2 hb⟩

theorem isT_take {x : Int} {zs : List Int} {j : Nat} (hj : j < zs.length) : countT x (zs.take (j + 1)) = countT x (zs.take j) + if isT x (zs.getD j 0) = true then 1 else 0 := by
  rw [List.take_succ_eq_append_getElem hj, countT_snoc, List.getD_eq_getElem?_getD, List.getElem?_eq_getElem hj]
  rfl
theorem isT_val (x v : Int) : isT x v = decide (tr v = x) := rfl

set_option maxHeartbeats 2000000 in
theorem rcount_some (x : Int) (hx : x = 0 ∨ x = 1 ∨ x = 2) (ab ao len cap : Nat) (zs : List Int) (w : World) (hab : ab < w.heap.size) (hlen : zs.length = len) (hl : len ≤ 9223372036854775807) (hz : TrCells w ab ao len zs) :
    Calls Tryd.prog 29 #[.slice (some ⟨ab, ao, none⟩) len cap, .int .i64 x] w fun e w' => e = .returned (.int .i64 (countT x zs)) ∧ w = w' := by
  have HZ := Lib.hid hz
  have HL := Lib.hid hlen
  clear hz hlen
  rcases hx with rfl | rfl | rfl
  all_goals
    go_enter Tryd.func29, Tryd.ntmps29
    go_wp2
  · go_loop [5, 6] (fun n i => ∃ j : Nat, j ≤ len ∧ i = .int .i64 j ∧ n = .int .i64 (countT 0 (zs.take j) : Nat)) (fun _ i => len - (intOf i).toNat)
    case atStart => exact ⟨0, Nat.zero_le _, rfl, rfl⟩
    case round =>
      obtain ⟨j, hj, rfl, rfl⟩ := hrel
      have hle := countT_le 0 (zs.take j)
      have hle2 : (zs.take j).length ≤ j := List.length_take_le _ _
      by_cases hlt : j < len
      · have hcell := HZ.out j hlt
        have HS := Lib.hid (isT_take (x := 0) (zs := zs) (j := j) (by rw [HL.out]; exact hlt))
        generalize countT 0 (zs.take j) = c at *
        generalize zs.getD j 0 = v at *
        rcases tr_cases v with ⟨hv, h⟩ | ⟨hv, h⟩ | ⟨h0, h1, h⟩
        · subst hv
          have hs := HS.out
          rw [isT_val, h, if_pos (by decide)] at hs
          have HS2 := Lib.hid hs
          clear hs h
          go_wp2
          go_round
          case rel => exact ⟨j + 1, by omega, by go_num, by rw [HS2.out]; go_num⟩
          case measure => simp [intOf]; omega
        · subst hv
          have hs := HS.out
          rw [isT_val, h, if_neg (by decide)] at hs
          have HS2 := Lib.hid hs
          clear hs h
          go_wp2
          go_round
          case rel => exact ⟨j + 1, by omega, by go_num, by rw [HS2.out]; rfl⟩
          case measure => simp [intOf]; omega
        · have hs := HS.out
          rw [isT_val, h, if_neg (by decide)] at hs
          have HS2 := Lib.hid hs
          have b0 : (v == 0) = false := by rw [beq_eq_false_iff_ne]; exact h0
          clear hs h h0 h1
          go_wp2
          go_round
          case rel => exact ⟨j + 1, by omega, by go_num, by rw [HS2.out]; rfl⟩
          case measure => simp [intOf]; omega
      · have hjl : j = len := by omega
        have e : zs.take j = zs := by rw [hjl, ← HL.out]; exact List.take_length
        have HE := Lib.hid e
        clear e hjl
        go_wp2
        go_ret
        exact ⟨by rw [HE.out]; rfl, rfl⟩
  · go_loop [5, 6] (fun n i => ∃ j : Nat, j ≤ len ∧ i = .int .i64 j ∧ n = .int .i64 (countT 1 (zs.take j) : Nat)) (fun _ i => len - (intOf i).toNat)
    case atStart => exact ⟨0, Nat.zero_le _, rfl, rfl⟩
    case round =>
      obtain ⟨j, hj, rfl, rfl⟩ := hrel
      have hle := countT_le 1 (zs.take j)
      have hle2 : (zs.take j).length ≤ j := List.length_take_le _ _
      by_cases hlt : j < len
      · have hcell := HZ.out j hlt
        have HS := Lib.hid (isT_take (x := 1) (zs := zs) (j := j) (by rw [HL.out]; exact hlt))
        generalize countT 1 (zs.take j) = c at *
        generalize zs.getD j 0 = v at *
        rcases tr_cases v with ⟨hv, h⟩ | ⟨hv, h⟩ | ⟨h0, h1, h⟩
        · subst hv
          have hs := HS.out
          rw [isT_val, h, if_neg (by decide)] at hs
          have HS2 := Lib.hid hs
          clear hs h
          go_wp2
          go_round
          case rel => exact ⟨j + 1, by omega, by go_num, by rw [HS2.out]; rfl⟩
          case measure => simp [intOf]; omega
        · subst hv
          have hs := HS.out
          rw [isT_val, h, if_pos (by decide)] at hs
          have HS2 := Lib.hid hs
          clear hs h
          go_wp2
          go_round
          case rel => exact ⟨j + 1, by omega, by go_num, by rw [HS2.out]; go_num⟩
          case measure => simp [intOf]; omega
        · have hs := HS.out
          rw [isT_val, h, if_neg (by decide)] at hs
          have HS2 := Lib.hid hs
          have b1 : (v == 1) = false := by rw [beq_eq_false_iff_ne]; exact h1
          clear hs h h0 h1
          go_wp2
          go_round
          case rel => exact ⟨j + 1, by omega, by go_num, by rw [HS2.out]; rfl⟩
          case measure => simp [intOf]; omega
      · have hjl : j = len := by omega
        have e : zs.take j = zs := by rw [hjl, ← HL.out]; exact List.take_length
        have HE := Lib.hid e
        clear e hjl
        go_wp2
        go_ret
        exact ⟨by rw [HE.out]; rfl, rfl⟩
  · go_loop [5, 6] (fun n i => ∃ j : Nat, j ≤ len ∧ i = .int .i64 j ∧ n = .int .i64 (countT 2 (zs.take j) : Nat)) (fun _ i => len - (intOf i).toNat)
    case atStart => exact ⟨0, Nat.zero_le _, rfl, rfl⟩
    case round =>
      obtain ⟨j, hj, rfl, rfl⟩ := hrel
      have hle := countT_le 2 (zs.take j)
      have hle2 : (zs.take j).length ≤ j := List.length_take_le _ _
      by_cases hlt : j < len
      · have hcell := HZ.out j hlt
        have HS := Lib.hid (isT_take (x := 2) (zs := zs) (j := j) (by rw [HL.out]; exact hlt))
        generalize countT 2 (zs.take j) = c at *
        generalize zs.getD j 0 = v at *
        rcases tr_cases v with ⟨hv, h⟩ | ⟨hv, h⟩ | ⟨h0, h1, h⟩
        · subst hv
          have hs := HS.out
          rw [isT_val, h, if_neg (by decide)] at hs
          have HS2 := Lib.hid hs
          clear hs h
          go_wp2
          go_round
          case rel => exact ⟨j + 1, by omega, by go_num, by rw [HS2.out]; rfl⟩
          case measure => simp [intOf]; omega
        · subst hv
          have hs := HS.out
          rw [isT_val, h, if_neg (by decide)] at hs
          have HS2 := Lib.hid hs
          clear hs h
          go_wp2
          go_round
          case rel => exact ⟨j + 1, by omega, by go_num, by rw [HS2.out]; rfl⟩
          case measure => simp [intOf]; omega
        · have hs := HS.out
          rw [isT_val, h, if_pos (by decide)] at hs
          have HS2 := Lib.hid hs
          have b0 : (v != 0) = true := by rw [bne_iff_ne]; exact h0
          have b1 : (v != 1) = true := by rw [bne_iff_ne]; exact h1
          clear hs h h0 h1
          by_cases h2 : v = 2
          · subst h2
            go_wp2
            go_round
            case rel => exact ⟨j + 1, by omega, by go_num, by rw [HS2.out]; go_num⟩
            case measure => simp [intOf]; omega
          · have b2 : (v == 2) = false := by rw [beq_eq_false_iff_ne]; exact h2
            clear h2
            go_wp2
            go_round
            case rel => exact ⟨j + 1, by omega, by go_num, by rw [HS2.out]; go_num⟩
            case measure => simp [intOf]; omega
      · have hjl : j = len := by omega
        have e : zs.take j = zs := by rw [hjl, ← HL.out]; exact List.take_length
        have HE := Lib.hid e
        clear e hjl
        go_wp2
        go_ret
        exact ⟨by rw [HE.out]; rfl, rfl⟩

set_option maxHeartbeats 1000000 in
theorem rcount_nil (a : Option Addr) (cap : Nat) (x : Int) (w : World) :
    Calls Tryd.prog 29 #[.slice a 0 cap, .int .i64 x] w fun e w' => e = .returned (.int .i64 0) ∧ w = w' := by
  go_enter Tryd.func29, Tryd.ntmps29
  go_wp2
  go_loop [5, 6] (fun n i => n = .int .i64 0 ∧ i = .int .i64 0) (fun _ _ => 0)
  case atStart => exact ⟨rfl, rfl⟩
  case round =>
    obtain ⟨rfl, rfl⟩ := hrel
    go_wp2
    go_ret
    exact ⟨rfl, rfl⟩

theorem rcount_any (x : Int) (hx : x = 0 ∨ x = 1 ∨ x = 2) (v : Value) (zs : List Int) (w : World) (h : IsTr w v zs) :
    Calls Tryd.prog 29 #[v, .int .i64 x] w fun e w' => e = .returned (.int .i64 (countT x zs)) ∧ w = w' := by
  rcases h with ⟨a, cap, rfl, rfl⟩ | ⟨ab, ao, len, cap, rfl, h2, h3, h4, h5⟩
  · exact rcount_nil a cap x w
  · exact rcount_some x hx ab ao len cap zs w h2 h3 (by unfold maxLen at h4; exact h4) h5

set_option maxHeartbeats 1000000 in
theorem rand_any (v : Value) (zs : List Int) (w : World) (h : IsTr w v zs) :
    Calls Tryd.prog 11 #[v] w fun e w' => e = .returned (.int .i64 (andC zs)) ∧ w = w' := by
  have H0 := Lib.hid (rcount_any 0 (by simp) v zs w h)
  have H2 := Lib.hid (rcount_any 2 (by simp) v zs w h)
  clear h
  unfold andC
  generalize countT 0 zs = c0 at *
  generalize countT 2 zs = c2 at *
  by_cases k0 : 0 < c0
  · rw [if_pos k0]
    go_enter Tryd.func11, Tryd.ntmps11
    go_wp2_with (go_at_call 29; refine H0.out.mono ?_; rintro e w' ⟨rfl, rfl⟩)
    go_ret
    exact ⟨rfl, rfl⟩
  · rw [if_neg k0]
    by_cases k2 : 0 < c2
    · rw [if_pos k2]
      go_enter Tryd.func11, Tryd.ntmps11
      go_wp2_with fail
      refine H0.out.mono ?_
      rintro e w' ⟨rfl, rfl⟩
      go_wp2_with (go_at_call 29; refine H2.out.mono ?_; rintro e w' ⟨rfl, rfl⟩)
      go_ret
      exact ⟨rfl, rfl⟩
    · rw [if_neg k2]
      go_enter Tryd.func11, Tryd.ntmps11
      go_wp2_with fail
      refine H0.out.mono ?_
      rintro e w' ⟨rfl, rfl⟩
      go_wp2_with (go_at_call 29; refine H2.out.mono ?_; rintro e w' ⟨rfl, rfl⟩)
      go_ret
      exact ⟨rfl, rfl⟩

set_option maxHeartbeats 1000000 in
theorem ror_any (v : Value) (zs : List Int) (w : World) (h : IsTr w v zs) :
    Calls Tryd.prog 13 #[v] w fun e w' => e = .returned (.int .i64 (orC zs)) ∧ w = w' := by
  have H0 := Lib.hid (rcount_any 1 (by simp) v zs w h)
  have H2 := Lib.hid (rcount_any 2 (by simp) v zs w h)
  clear h
  unfold orC
  generalize countT 1 zs = c0 at *
  generalize countT 2 zs = c2 at *
  by_cases k0 : 0 < c0
  · rw [if_pos k0]
    go_enter Tryd.func13, Tryd.ntmps13
    go_wp2_with (go_at_call 29; refine H0.out.mono ?_; rintro e w' ⟨rfl, rfl⟩)
    go_ret
    exact ⟨rfl, rfl⟩
  · rw [if_neg k0]
    by_cases k2 : 0 < c2
    · rw [if_pos k2]
      go_enter Tryd.func13, Tryd.ntmps13
      go_wp2_with fail
      refine H0.out.mono ?_
      rintro e w' ⟨rfl, rfl⟩
      go_wp2_with (go_at_call 29; refine H2.out.mono ?_; rintro e w' ⟨rfl, rfl⟩)
      go_ret
      exact ⟨rfl, rfl⟩
    · rw [if_neg k2]
      go_enter Tryd.func13, Tryd.ntmps13
      go_wp2_with fail
      refine H0.out.mono ?_
      rintro e w' ⟨rfl, rfl⟩
      go_wp2_with (go_at_call 29; refine H2.out.mono ?_; rintro e w' ⟨rfl, rfl⟩)
      go_ret
      exact ⟨rfl, rfl⟩

end Go.Proofs.YtohicokoegodjaaDoor
