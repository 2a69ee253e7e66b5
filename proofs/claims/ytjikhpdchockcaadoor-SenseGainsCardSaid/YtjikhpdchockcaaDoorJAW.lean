import Derived.Test.YtjikhpdchockcaaDoorJAO
import Derived.WalkSpells
import Derived.WalkLawsBesides
section
/- The specification's whole numbers of any length: the contract of Of, which makes its number in new memory, over this seat's translation (XBigO's text, written by a line of python). -/
namespace Go.Proofs.YtjikhpdchockcaaDoor
set_option linter.unusedVariables false
set_option linter.unusedSimpArgs false
open Go.RowKit

set_option maxHeartbeats 4000000 in
theorem ofn_pos (z : Int) (w : World) (h0 : 0 ≤ z) (h1 : z ≤ 9223372036854775807) :
    Calls Tryd.prog 93 #[.int .i64 z] w (RetNew w.heap.size z w) := by
  have HD : Hid (decide (z < 0) = false ∧ max z (-z) = z) := by
    have h : decide (z < 0) = false ∧ max z (-z) = z := ⟨by simp; omega, by omega⟩
    exact Lib.hid h
  have HS := Lib.hid (taken_start z (by omega))
  go_enter Tryd.func93, Tryd.ntmps93
  go_wp2_with fail
  go_loopw [0, 4] (fun n _ wr => ∃ (m : Int) (l : List Int) (sl : Value), n = .int .i64 m ∧ 0 ≤ m ∧ m ≤ z ∧ Taken z m l ∧ wr.cell? ⟨w.heap.size + 1, 0, none⟩ = some (.bool false) ∧ wr.cell? ⟨w.heap.size + 1, 1, none⟩ = some sl ∧ wr.frozen? ⟨w.heap.size + 1, 0, none⟩ = false ∧ wr.frozen? ⟨w.heap.size + 1, 1, none⟩ = false ∧ wr.ownsRow (w.heap.size + 1 + 1) 3 1 sl l.length (l.map (Value.int .i64)) ∧ (wr).cell? ⟨w.heap.size, 0, none⟩ = some (cur (wr) ⟨w.heap.size, 0, none⟩) ∧ (wr).frozen? ⟨w.heap.size, 0, none⟩ = false ∧ (wr).cell? ⟨w.heap.size, 1, none⟩ = some (cur (wr) ⟨w.heap.size, 1, none⟩) ∧ (wr).frozen? ⟨w.heap.size, 1, none⟩ = false ∧ w.heap.size + 1 < wr.heap.size ∧ Below w.heap.size w wr) (fun n _ _ => (intOf n).natAbs)
  case atStart => exact ⟨z, [], .slice none 0 0, rfl, by omega, Int.le_refl _, HS.out, (by go_simp), (by go_simp), (by go_simp), (by go_simp), ⟨rfl, .inl ⟨rfl, rfl⟩⟩, (by simp only [cur_iff, isSome_setCell]; go_simp), (by go_simp), (by simp only [cur_iff, isSome_setCell]; go_simp), (by go_simp), (by first | omega | ((try simp only [World.size_alloc, World.size_setCell, size_drew, size_drewN]); omega) | (simp; done) | (simp; omega)), (by (repeat first | with_reducible exact Below.refl _ _ | with_reducible assumption | (with_reducible refine Below.setCell ?_ ?_ _; rotate_left; exact (by first | omega | (simp; done) | (simp; omega))) | (with_reducible refine Below.alloc ?_ ?_ _; rotate_left; exact (by first | omega | (simp; done) | (simp; omega))) | with_reducible refine Below.drew ?_ | with_reducible refine Below_drewN ?_ _))⟩
  case round =>
    obtain ⟨m, l, sl, rfl, hm0, hm1, ht, c0, c1, f0, f1, hown, r0, rf0, r1, rf1, hsz, hB⟩ := hrel
    by_cases hz : m = 0
    · subst hz
      obtain ⟨A, cap, rfl, hc, hI⟩ := isI_of_own hown
      obtain ⟨hcan, hval⟩ := taken_end ht
      have hl5 := len_le_of_val hcan (n := 5) (by rw [pw_five]; omega)
      have HC := Lib.hid hcan
      have HV := Lib.hid hval
      have HI := Lib.hid hI
      have hw0 : w.heap.size < wr.heap.size := by omega
      clear ht hown hcan hval hI
      go_wp2
      exact bodyPost_ret (res2b Tryd.results93 _ _ _ _ _ rfl (by (try simp only [isSome_setCell]); first | assumption | go_simp) (by (try simp only [isSome_setCell]); first | assumption | go_simp)) rfl ⟨_, rfl, ⟨A, l.length, cap, l, by rw [HD.out.1], ((HI.out.setCell (by simp; omega) _).setCell (by simp; omega) _).mono (by omega), hc, by omega, HC.out, by rw [HD.out.2, HV.out]⟩, by (repeat first | with_reducible exact Below.refl _ _ | with_reducible assumption | (with_reducible refine Below.setCell ?_ ?_ _; rotate_left; exact (by first | omega | (simp; done) | (simp; omega))) | (with_reducible refine Below.alloc ?_ ?_ _; rotate_left; exact (by first | omega | (simp; done) | (simp; omega))) | with_reducible refine Below.drew ?_ | with_reducible refine Below_drewN ?_ _)⟩
    · have hl := taken_len ht (by omega) (by omega)
      have ht2 := taken_step ht (by omega)
      have HO := Lib.hid hown
      clear ht hown
      have k0 := Int.emod_nonneg m (show (10000 : Int) ≠ 0 by decide)
      have k1 := Int.emod_lt_of_pos m (show (0 : Int) < 10000 by decide)
      have q0 : 0 ≤ m / 10000 := Int.ediv_nonneg hm0 (by decide)
      have q1 : m / 10000 ≤ m := Int.ediv_le_self 10000 hm0
      have q2 : m / 10000 < m := by omega
      obtain ⟨r, hr⟩ : ∃ r, m % 10000 = r := ⟨_, rfl⟩
      rw [hr] at ht2 k0 k1
      have HT := Lib.hid ht2
      clear ht2
      have bne : (m != 0) = true := by rw [bne_iff_ne]; exact hz
      have hw0 : w.heap.size < wr.heap.size := by omega
      by_cases hr0 : r = 0
      · subst hr0
        go_wp2_with (at_builtin; refine append_int rfl (Operand.tmp 17) (Operand.tmp 19) rfl (w.heap.size + 1 + 1) sl l.length _ rfl HO.out _ rfl (by omega) (by omega) ?_; intro A1 cap1 w1 hown1 hG; have HO1 := Lib.hid hown1; clear hown1; have hB1 : Below w.heap.size w w1 := hB.trans (hG.mono (by omega)); have hgs := hG.size; have g0 := (hG.cell (p := ⟨w.heap.size + 1, 0, none⟩) (by simp)).trans c0; have g1 := (hG.cell (p := ⟨w.heap.size + 1, 1, none⟩) (by simp)).trans c1; have g2 := (hG.frozen (p := ⟨w.heap.size + 1, 0, none⟩) (by simp)).trans f0; have g3 := (hG.frozen (p := ⟨w.heap.size + 1, 1, none⟩) (by simp)).trans f1; have g4 := (hG.cell (p := ⟨w.heap.size, 0, none⟩) (by simp; omega)).trans r0; have g5 := (hG.frozen (p := ⟨w.heap.size, 0, none⟩) (by simp; omega)).trans rf0; have g6 := (hG.cell (p := ⟨w.heap.size, 1, none⟩) (by simp; omega)).trans r1; have g7 := (hG.frozen (p := ⟨w.heap.size, 1, none⟩) (by simp; omega)).trans rf1)
        go_roundw
        case rel => exact ⟨m / 10000, l ++ [0], .slice A1 (l.length + 1) cap1, rfl, q0, by omega, HT.out, (by go_simp), (by go_simp), (by go_simp), (by go_simp), (by rw [List.length_append, List.map_append]; exact own_setCell HO1.out (by simp) _), (by simp only [cur_iff, isSome_setCell]; go_simp), (by go_simp), (by simp only [cur_iff, isSome_setCell]; go_simp), (by go_simp), (by first | omega | ((try simp only [World.size_alloc, World.size_setCell, size_drew, size_drewN]); omega) | (simp; done) | (simp; omega)), (by (repeat first | with_reducible exact Below.refl _ _ | with_reducible assumption | (with_reducible refine Below.setCell ?_ ?_ _; rotate_left; exact (by first | omega | (simp; done) | (simp; omega))) | (with_reducible refine Below.alloc ?_ ?_ _; rotate_left; exact (by first | omega | (simp; done) | (simp; omega))) | with_reducible refine Below.drew ?_ | with_reducible refine Below_drewN ?_ _))⟩
        case measure => simp [intOf]; omega
      · have hr1 : 0 < r := by omega
        clear hr0
        go_wp2_with (at_builtin; refine append_int rfl (Operand.tmp 17) (Operand.tmp 19) rfl (w.heap.size + 1 + 1) sl l.length _ rfl HO.out _ rfl (by omega) (by omega) ?_; intro A1 cap1 w1 hown1 hG; have HO1 := Lib.hid hown1; clear hown1; have hB1 : Below w.heap.size w w1 := hB.trans (hG.mono (by omega)); have hgs := hG.size; have g0 := (hG.cell (p := ⟨w.heap.size + 1, 0, none⟩) (by simp)).trans c0; have g1 := (hG.cell (p := ⟨w.heap.size + 1, 1, none⟩) (by simp)).trans c1; have g2 := (hG.frozen (p := ⟨w.heap.size + 1, 0, none⟩) (by simp)).trans f0; have g3 := (hG.frozen (p := ⟨w.heap.size + 1, 1, none⟩) (by simp)).trans f1; have g4 := (hG.cell (p := ⟨w.heap.size, 0, none⟩) (by simp; omega)).trans r0; have g5 := (hG.frozen (p := ⟨w.heap.size, 0, none⟩) (by simp; omega)).trans rf0; have g6 := (hG.cell (p := ⟨w.heap.size, 1, none⟩) (by simp; omega)).trans r1; have g7 := (hG.frozen (p := ⟨w.heap.size, 1, none⟩) (by simp; omega)).trans rf1)
        go_roundw
        case rel => exact ⟨m / 10000, l ++ [r], .slice A1 (l.length + 1) cap1, rfl, q0, by omega, HT.out, (by go_simp), (by go_simp), (by go_simp), (by go_simp), (by rw [List.length_append, List.map_append]; exact own_setCell HO1.out (by simp) _), (by simp only [cur_iff, isSome_setCell]; go_simp), (by go_simp), (by simp only [cur_iff, isSome_setCell]; go_simp), (by go_simp), (by first | omega | ((try simp only [World.size_alloc, World.size_setCell, size_drew, size_drewN]); omega) | (simp; done) | (simp; omega)), (by (repeat first | with_reducible exact Below.refl _ _ | with_reducible assumption | (with_reducible refine Below.setCell ?_ ?_ _; rotate_left; exact (by first | omega | (simp; done) | (simp; omega))) | (with_reducible refine Below.alloc ?_ ?_ _; rotate_left; exact (by first | omega | (simp; done) | (simp; omega))) | with_reducible refine Below.drew ?_ | with_reducible refine Below_drewN ?_ _))⟩
        case measure => simp [intOf]; omega

set_option maxHeartbeats 4000000 in
theorem ofn_neg (z : Int) (w : World) (h0 : 0 < z) (h1 : z ≤ 9223372036854775807) :
    Calls Tryd.prog 93 #[.int .i64 (-z)] w (RetNew w.heap.size (-z) w) := by
  have HD : Hid (decide ((-z) < 0) = true ∧ max (-z) (-(-z)) = z) := by
    have h : decide ((-z) < 0) = true ∧ max (-z) (-(-z)) = z := ⟨by simp; omega, by omega⟩
    exact Lib.hid h
  have HS := Lib.hid (taken_start z (by omega))
  go_enter Tryd.func93, Tryd.ntmps93
  go_wp2_with fail
  go_loopw [0, 4] (fun n _ wr => ∃ (m : Int) (l : List Int) (sl : Value), n = .int .i64 (-m) ∧ 0 ≤ m ∧ m ≤ z ∧ Taken z m l ∧ wr.cell? ⟨w.heap.size + 1, 0, none⟩ = some (.bool true) ∧ wr.cell? ⟨w.heap.size + 1, 1, none⟩ = some sl ∧ wr.frozen? ⟨w.heap.size + 1, 0, none⟩ = false ∧ wr.frozen? ⟨w.heap.size + 1, 1, none⟩ = false ∧ wr.ownsRow (w.heap.size + 1 + 1) 3 1 sl l.length (l.map (Value.int .i64)) ∧ (wr).cell? ⟨w.heap.size, 0, none⟩ = some (cur (wr) ⟨w.heap.size, 0, none⟩) ∧ (wr).frozen? ⟨w.heap.size, 0, none⟩ = false ∧ (wr).cell? ⟨w.heap.size, 1, none⟩ = some (cur (wr) ⟨w.heap.size, 1, none⟩) ∧ (wr).frozen? ⟨w.heap.size, 1, none⟩ = false ∧ w.heap.size + 1 < wr.heap.size ∧ Below w.heap.size w wr) (fun n _ _ => (intOf n).natAbs)
  case atStart => exact ⟨z, [], .slice none 0 0, rfl, by omega, Int.le_refl _, HS.out, (by go_simp), (by go_simp), (by go_simp), (by go_simp), ⟨rfl, .inl ⟨rfl, rfl⟩⟩, (by simp only [cur_iff, isSome_setCell]; go_simp), (by go_simp), (by simp only [cur_iff, isSome_setCell]; go_simp), (by go_simp), (by first | omega | ((try simp only [World.size_alloc, World.size_setCell, size_drew, size_drewN]); omega) | (simp; done) | (simp; omega)), (by (repeat first | with_reducible exact Below.refl _ _ | with_reducible assumption | (with_reducible refine Below.setCell ?_ ?_ _; rotate_left; exact (by first | omega | (simp; done) | (simp; omega))) | (with_reducible refine Below.alloc ?_ ?_ _; rotate_left; exact (by first | omega | (simp; done) | (simp; omega))) | with_reducible refine Below.drew ?_ | with_reducible refine Below_drewN ?_ _))⟩
  case round =>
    obtain ⟨m, l, sl, rfl, hm0, hm1, ht, c0, c1, f0, f1, hown, r0, rf0, r1, rf1, hsz, hB⟩ := hrel
    by_cases hz : m = 0
    · subst hz
      obtain ⟨A, cap, rfl, hc, hI⟩ := isI_of_own hown
      obtain ⟨hcan, hval⟩ := taken_end ht
      have hl5 := len_le_of_val hcan (n := 5) (by rw [pw_five]; omega)
      have HC := Lib.hid hcan
      have HV := Lib.hid hval
      have HI := Lib.hid hI
      have hw0 : w.heap.size < wr.heap.size := by omega
      clear ht hown hcan hval hI
      go_wp2
      exact bodyPost_ret (res2b Tryd.results93 _ _ _ _ _ rfl (by (try simp only [isSome_setCell]); first | assumption | go_simp) (by (try simp only [isSome_setCell]); first | assumption | go_simp)) rfl ⟨_, rfl, ⟨A, l.length, cap, l, by rw [HD.out.1], ((HI.out.setCell (by simp; omega) _).setCell (by simp; omega) _).mono (by omega), hc, by omega, HC.out, by rw [HD.out.2, HV.out]⟩, by (repeat first | with_reducible exact Below.refl _ _ | with_reducible assumption | (with_reducible refine Below.setCell ?_ ?_ _; rotate_left; exact (by first | omega | (simp; done) | (simp; omega))) | (with_reducible refine Below.alloc ?_ ?_ _; rotate_left; exact (by first | omega | (simp; done) | (simp; omega))) | with_reducible refine Below.drew ?_ | with_reducible refine Below_drewN ?_ _)⟩
    · have hl := taken_len ht (by omega) (by omega)
      have ht2 := taken_step ht (by omega)
      have HO := Lib.hid hown
      clear ht hown
      have k0 := Int.emod_nonneg m (show (10000 : Int) ≠ 0 by decide)
      have k1 := Int.emod_lt_of_pos m (show (0 : Int) < 10000 by decide)
      have q0 : 0 ≤ m / 10000 := Int.ediv_nonneg hm0 (by decide)
      have q1 : m / 10000 ≤ m := Int.ediv_le_self 10000 hm0
      have q2 : m / 10000 < m := by omega
      obtain ⟨r, hr⟩ : ∃ r, m % 10000 = r := ⟨_, rfl⟩
      rw [hr] at ht2 k0 k1
      have HT := Lib.hid ht2
      clear ht2
      have bne : (-m != 0) = true := by rw [bne_iff_ne]; omega
      have tm := neg_tmod m hm0
      rw [hr] at tm
      have td := neg_tdiv m hm0
      have hw0 : w.heap.size < wr.heap.size := by omega
      by_cases hr0 : r = 0
      · subst hr0
        go_wp2_with (at_builtin; refine append_int rfl (Operand.tmp 17) (Operand.tmp 19) rfl (w.heap.size + 1 + 1) sl l.length _ rfl HO.out _ rfl (by omega) (by omega) ?_; intro A1 cap1 w1 hown1 hG; have HO1 := Lib.hid hown1; clear hown1; have hB1 : Below w.heap.size w w1 := hB.trans (hG.mono (by omega)); have hgs := hG.size; have g0 := (hG.cell (p := ⟨w.heap.size + 1, 0, none⟩) (by simp)).trans c0; have g1 := (hG.cell (p := ⟨w.heap.size + 1, 1, none⟩) (by simp)).trans c1; have g2 := (hG.frozen (p := ⟨w.heap.size + 1, 0, none⟩) (by simp)).trans f0; have g3 := (hG.frozen (p := ⟨w.heap.size + 1, 1, none⟩) (by simp)).trans f1; have g4 := (hG.cell (p := ⟨w.heap.size, 0, none⟩) (by simp; omega)).trans r0; have g5 := (hG.frozen (p := ⟨w.heap.size, 0, none⟩) (by simp; omega)).trans rf0; have g6 := (hG.cell (p := ⟨w.heap.size, 1, none⟩) (by simp; omega)).trans r1; have g7 := (hG.frozen (p := ⟨w.heap.size, 1, none⟩) (by simp; omega)).trans rf1)
        go_roundw
        case rel => exact ⟨m / 10000, l ++ [0], .slice A1 (l.length + 1) cap1, rfl, q0, by omega, HT.out, (by go_simp), (by go_simp), (by go_simp), (by go_simp), (by rw [List.length_append, List.map_append]; exact own_setCell HO1.out (by simp) _), (by simp only [cur_iff, isSome_setCell]; go_simp), (by go_simp), (by simp only [cur_iff, isSome_setCell]; go_simp), (by go_simp), (by first | omega | ((try simp only [World.size_alloc, World.size_setCell, size_drew, size_drewN]); omega) | (simp; done) | (simp; omega)), (by (repeat first | with_reducible exact Below.refl _ _ | with_reducible assumption | (with_reducible refine Below.setCell ?_ ?_ _; rotate_left; exact (by first | omega | (simp; done) | (simp; omega))) | (with_reducible refine Below.alloc ?_ ?_ _; rotate_left; exact (by first | omega | (simp; done) | (simp; omega))) | with_reducible refine Below.drew ?_ | with_reducible refine Below_drewN ?_ _))⟩
        case measure => simp [intOf]; omega
      · have hr1 : 0 < r := by omega
        clear hr0
        go_wp2_with (at_builtin; refine append_int rfl (Operand.tmp 17) (Operand.tmp 19) rfl (w.heap.size + 1 + 1) sl l.length _ rfl HO.out _ rfl (by omega) (by omega) ?_; intro A1 cap1 w1 hown1 hG; have HO1 := Lib.hid hown1; clear hown1; have hB1 : Below w.heap.size w w1 := hB.trans (hG.mono (by omega)); have hgs := hG.size; have g0 := (hG.cell (p := ⟨w.heap.size + 1, 0, none⟩) (by simp)).trans c0; have g1 := (hG.cell (p := ⟨w.heap.size + 1, 1, none⟩) (by simp)).trans c1; have g2 := (hG.frozen (p := ⟨w.heap.size + 1, 0, none⟩) (by simp)).trans f0; have g3 := (hG.frozen (p := ⟨w.heap.size + 1, 1, none⟩) (by simp)).trans f1; have g4 := (hG.cell (p := ⟨w.heap.size, 0, none⟩) (by simp; omega)).trans r0; have g5 := (hG.frozen (p := ⟨w.heap.size, 0, none⟩) (by simp; omega)).trans rf0; have g6 := (hG.cell (p := ⟨w.heap.size, 1, none⟩) (by simp; omega)).trans r1; have g7 := (hG.frozen (p := ⟨w.heap.size, 1, none⟩) (by simp; omega)).trans rf1)
        go_roundw
        case rel => exact ⟨m / 10000, l ++ [r], .slice A1 (l.length + 1) cap1, rfl, q0, by omega, HT.out, (by go_simp), (by go_simp), (by go_simp), (by go_simp), (by rw [List.length_append, List.map_append]; exact own_setCell HO1.out (by simp) _), (by simp only [cur_iff, isSome_setCell]; go_simp), (by go_simp), (by simp only [cur_iff, isSome_setCell]; go_simp), (by go_simp), (by first | omega | ((try simp only [World.size_alloc, World.size_setCell, size_drew, size_drewN]); omega) | (simp; done) | (simp; omega)), (by (repeat first | with_reducible exact Below.refl _ _ | with_reducible assumption | (with_reducible refine Below.setCell ?_ ?_ _; rotate_left; exact (by first | omega | (simp; done) | (simp; omega))) | (with_reducible refine Below.alloc ?_ ?_ _; rotate_left; exact (by first | omega | (simp; done) | (simp; omega))) | with_reducible refine Below.drew ?_ | with_reducible refine Below_drewN ?_ _))⟩
        case measure => simp [intOf]; omega

theorem of_new (z : Int) (w : World) (h0 : -9223372036854775807 ≤ z) (h1 : z ≤ 9223372036854775807) :
    Calls Tryd.prog 93 #[.int .i64 z] w (RetNew w.heap.size z w) := by
  by_cases h : 0 ≤ z
  · exact ofn_pos z w h h1
  · have e := ofn_neg (-z) w (by omega) (by omega)
    rwa [Int.neg_neg] at e

end Go.Proofs.YtjikhpdchockcaaDoor
end
