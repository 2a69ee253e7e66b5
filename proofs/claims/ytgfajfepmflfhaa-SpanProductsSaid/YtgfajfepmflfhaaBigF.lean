/- The specification's whole numbers of any length: Compare, over this seat's translation. -/
import Derived.Test.YtgfajfepmflfhaaBigE
namespace Go.Proofs.Ytgfajfepmflfhaa
set_option linter.unusedVariables false
set_option linter.unusedSimpArgs false
open Go.RowKit

set_option maxHeartbeats 2000000 in
theorem compare_big (a b : Int) (u v : Value) (w : World) (hu : BigV w u a) (hv : BigV w v b) (ha : max a (-a) < pw 32) (hb : max b (-b) < pw 32) :
    Calls Try.prog 38 #[u, v] w (fun e w' => e = .returned (.int .i64 (cmpB a b)) ∧ Below w.heap.size w w') := by
  have HU := Lib.hid (fun W (h : Below w.heap.size w W) => hu.below h)
  have HV := Lib.hid (fun W (h : Below w.heap.size w W) => hv.below h)
  have HA := Lib.hid ha
  have HB := Lib.hid (show max (-b) (- -b) < pw 32 by omega)
  obtain ⟨A0, n0, c0, P0, rfl, _⟩ := hu
  obtain ⟨B0, m0, d0, Q0, rfl, _⟩ := hv
  obtain ⟨na, hna⟩ : ∃ x, decide (a < 0) = x := ⟨_, rfl⟩
  obtain ⟨nb, hnb⟩ : ∃ x, decide (b < 0) = x := ⟨_, rfl⟩
  rw [hna] at HU
  rw [hnb] at HV
  rw [hna, hnb]
  clear hna hnb ha hb
  go_enter Try.func38, Try.ntmps38
  go_upto_region 1 with fail
  go_cut [5] (fun s5 wx => ∃ (x : Nat) (A : Option Addr) (n cap : Nat), s5 = .pointer (some ⟨x, 0, none⟩) ∧ wx.cell? ⟨x, 0, none⟩ = some (.bool (decide (a + -b < 0))) ∧ wx.cell? ⟨x, 1, none⟩ = some (.slice A n cap) ∧ (n = 0 ↔ a + -b = 0) ∧ Below w.heap.size w wx)
  case first =>
    have HS : Hid (∀ w' : World, Reg (w.heap.size + 1 + 1) ((w.alloc (.cells #[.bool na, .slice A0 n0 c0] 41)).alloc (.cells #[.bool nb, .slice B0 m0 d0] 41)) w' → (Reg (w.heap.size + 1 + 1) ((w.alloc (.cells #[.bool na, .slice A0 n0 c0] 41)).alloc (.cells #[.bool nb, .slice B0 m0 d0] 41)) w' ∧ w'.cell? ⟨w.heap.size, 0, none⟩ = some (.bool na) ∧ w'.cell? ⟨w.heap.size, 1, none⟩ = some (.slice A0 n0 c0) ∧ w'.cell? ⟨w.heap.size + 1, 0, none⟩ = some (.bool nb) ∧ w'.cell? ⟨w.heap.size + 1, 1, none⟩ = some (.slice B0 m0 d0))) := (fun w' h => by (have hc := h.cells; have hs := h.some; have hf := h.frozen; refine ⟨h, ?_⟩; (try simp only [World.size_alloc, World.size_setCell, size_drew, size_drewN] at hc hs hf); first | (simp (disch := omega) only [hc, hs, hf, cur_iff]; (try go_simp); done) | (simp (disch := first | omega | (simp; done)) only [hc, hs, hf, cur_iff]; (try go_simp); done) | (simp (maxDischargeDepth := 4) [hc, hs, hf, cur_iff, go_sem]; done) | (go_simp; done) | (simp (maxDischargeDepth := 4) [hc, hs, hf, cur_iff, go_sem]; go_simp))); go_region_held3 (fun w' => Reg (w.heap.size + 1 + 1) ((w.alloc (.cells #[.bool na, .slice A0 n0 c0] 41)).alloc (.cells #[.bool nb, .slice B0 m0 d0] 41)) w' ∧ w'.cell? ⟨w.heap.size, 0, none⟩ = some (.bool na) ∧ w'.cell? ⟨w.heap.size, 1, none⟩ = some (.slice A0 n0 c0) ∧ w'.cell? ⟨w.heap.size + 1, 0, none⟩ = some (.bool nb) ∧ w'.cell? ⟨w.heap.size + 1, 1, none⟩ = some (.slice B0 m0 d0)) (exact HS.out _ (by (repeat first | with_reducible exact Reg.refl _ _ | with_reducible exact Reg.drewN2 _ _ _ _ | with_reducible exact (‹Reg _ _ _ ∧ _›).1 | (with_reducible refine Reg.setCell ?_ ?_ _; rotate_left; exact (by first | omega | ((try simp only [World.size_alloc, World.size_setCell, size_drew, size_drewN]); omega) | (simp; done) | (simp; omega))) | with_reducible refine Reg.alloc ?_ _ | with_reducible refine Reg.drew ?_ | with_reducible refine Reg.drewN ?_ _ | (with_reducible apply Reg.call; rotate_left; with_reducible assumption)))) (first | (go_at_call 53; refine (minus_big b _ _ (HV.out _ (Reg.out (‹Reg _ _ _ ∧ _›).1 (by (repeat first | with_reducible exact Below.refl _ _ | with_reducible assumption | (with_reducible refine Below.setCell ?_ ?_ _; rotate_left; exact (by first | omega | (simp; done) | (simp; omega))) | (with_reducible refine Below.alloc ?_ ?_ _; rotate_left; exact (by first | omega | (simp; done) | (simp; omega))) | with_reducible refine Below.drew ?_ | with_reducible refine Below_drewN ?_ _)) (by first | omega | (simp; done) | (simp; omega))))).mono ?_; rintro e w1 ⟨u1, rfl, V1, hb⟩; (first | (with_reducible have hk := Nat.lt_of_lt_of_le (size_alloc_lt _ _) hb.size) | (with_reducible have hk := Nat.lt_of_lt_of_le (size_alloc_drew_lt _ _) hb.size) | (with_reducible have hk := Nat.lt_of_lt_of_le hk hb.size) | skip); (try simp only [World.size_alloc, World.size_setCell, size_drew, size_drewN] at hk); obtain ⟨hc, hf⟩ := bcell hb; have hs := hb.size; (try simp only [World.size_alloc, World.size_setCell, size_drew, size_drewN] at hs)) | (go_at_call 52; refine (plus_big a (-b) _ _ _ (HU.out _ (Reg.out (‹Reg _ _ _ ∧ _›).1 (by (repeat first | with_reducible exact Below.refl _ _ | with_reducible assumption | (with_reducible refine Below.setCell ?_ ?_ _; rotate_left; exact (by first | omega | (simp; done) | (simp; omega))) | (with_reducible refine Below.alloc ?_ ?_ _; rotate_left; exact (by first | omega | (simp; done) | (simp; omega))) | with_reducible refine Below.drew ?_ | with_reducible refine Below_drewN ?_ _)) (by first | omega | (simp; done) | (simp; omega)))) (BigV.below V1 (by (repeat first | with_reducible exact Below.refl _ _ | with_reducible assumption | (with_reducible refine Below.setCell ?_ ?_ _; rotate_left; exact (by first | omega | (simp; done) | (simp; omega))) | (with_reducible refine Below.alloc ?_ ?_ _; rotate_left; exact (by first | omega | (simp; done) | (simp; omega))) | with_reducible refine Below.drew ?_ | with_reducible refine Below_drewN ?_ _))) HA.out HB.out).mono ?_; rintro e w2 ⟨u2, rfl, ⟨A, n, cap, P, rfl, h1, h2, h3, h4, h5⟩, hb⟩; have hz := big_zero (w := w2) (v := undef) (z := a + -b) (n := n) (cap := cap) h1 h4 h5; clear h1 h4 h5; (first | (with_reducible have hk := Nat.lt_of_lt_of_le (size_alloc_lt _ _) hb.size) | (with_reducible have hk := Nat.lt_of_lt_of_le (size_alloc_drew_lt _ _) hb.size) | (with_reducible have hk := Nat.lt_of_lt_of_le hk hb.size) | skip); (try simp only [World.size_alloc, World.size_setCell, size_drew, size_drewN] at hk); obtain ⟨hc, hf⟩ := bcell hb; have hs := hb.size; (try simp only [World.size_alloc, World.size_setCell, size_drew, size_drewN] at hs)))
    all_goals go_wp2_with fail
    all_goals go_meet
    all_goals exact ⟨_, A, n, cap, rfl, (by go_simp), (by go_simp), hz, (Reg.out (‹Reg _ _ _ ∧ _›).1 (by (repeat first | with_reducible exact Below.refl _ _ | with_reducible assumption | (with_reducible refine Below.setCell ?_ ?_ _; rotate_left; exact (by first | omega | (simp; done) | (simp; omega))) | (with_reducible refine Below.alloc ?_ ?_ _; rotate_left; exact (by first | omega | (simp; done) | (simp; omega))) | with_reducible refine Below.drew ?_ | with_reducible refine Below_drewN ?_ _)) (by first | omega | (simp; done) | (simp; omega)))⟩
  case rest =>
    obtain ⟨x, A, n, cap, rfl, t0, t1, hz, hB⟩ := hcut
    clear HA HB HU HV
    rcases Int.lt_trichotomy a b with h | h | h
    · have e1 : cmpB a b = -1 := by unfold cmpB; rw [if_neg (by omega), if_pos h]
      have e2 : decide (a + -b < 0) = true := by simp; omega
      have e3 : ((n : Int) == 0) = false := by rw [beq_eq_false_iff_ne]; omega
      rw [e2] at t0
      have E := Lib.hid e1
      clear e1 e2 hz h
      go_wp2_with fail
      go_ret
      exact ⟨by rw [E.out]; rfl, by (repeat first | with_reducible exact Below.refl _ _ | with_reducible assumption | (with_reducible refine Below.setCell ?_ ?_ _; rotate_left; exact (by first | omega | (simp; done) | (simp; omega))) | (with_reducible refine Below.alloc ?_ ?_ _; rotate_left; exact (by first | omega | (simp; done) | (simp; omega))) | with_reducible refine Below.drew ?_ | with_reducible refine Below_drewN ?_ _)⟩
    · have e1 : cmpB a b = 0 := by unfold cmpB; rw [if_pos h]
      obtain rfl : n = 0 := hz.2 (by omega)
      have E := Lib.hid e1
      clear e1 hz h
      go_wp2_with fail
      go_ret
      exact ⟨by rw [E.out]; rfl, by (repeat first | with_reducible exact Below.refl _ _ | with_reducible assumption | (with_reducible refine Below.setCell ?_ ?_ _; rotate_left; exact (by first | omega | (simp; done) | (simp; omega))) | (with_reducible refine Below.alloc ?_ ?_ _; rotate_left; exact (by first | omega | (simp; done) | (simp; omega))) | with_reducible refine Below.drew ?_ | with_reducible refine Below_drewN ?_ _)⟩
    · have e1 : cmpB a b = 1 := by unfold cmpB; rw [if_neg (by omega), if_neg (by omega)]
      have e2 : decide (a + -b < 0) = false := by simp; omega
      have e3 : ((n : Int) == 0) = false := by rw [beq_eq_false_iff_ne]; omega
      rw [e2] at t0
      have E := Lib.hid e1
      clear e1 e2 hz h
      go_wp2_with fail
      go_ret
      exact ⟨by rw [E.out]; rfl, by (repeat first | with_reducible exact Below.refl _ _ | with_reducible assumption | (with_reducible refine Below.setCell ?_ ?_ _; rotate_left; exact (by first | omega | (simp; done) | (simp; omega))) | (with_reducible refine Below.alloc ?_ ?_ _; rotate_left; exact (by first | omega | (simp; done) | (simp; omega))) | with_reducible refine Below.drew ?_ | with_reducible refine Below_drewN ?_ _)⟩

end Go.Proofs.Ytgfajfepmflfhaa
