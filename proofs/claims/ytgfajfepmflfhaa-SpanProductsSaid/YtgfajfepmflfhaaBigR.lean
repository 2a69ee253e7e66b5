/- The specification: contracts of result, and of Neg, Add, Sub and Square, over this seat's translation. -/
import Derived.Test.YtgfajfepmflfhaaBigI
import Derived.Test.YtgfajfepmflfhaaSpanM
import Derived.Test.YtgfajfepmflfhaaSpanN
import Derived.Test.YtgfajfepmflfhaaSpanS
import Derived.Test.YtgfajfepmflfhaaSpanHP
namespace Go.Proofs.Ytgfajfepmflfhaa
set_option linter.unusedVariables false
set_option linter.unusedSimpArgs false
open Go.RowKit

/-- The span of two numbers, or ErrBig. -/
def resL (lo hi : Int) : Int × Int × Int := if (inR lo && inR hi) = true then (lo, hi, 0) else (0, 0, 9)

theorem intL_in {z : Int} (h : inR z = true) : intL z = (z, true) := by
  have := inR_iff.1 h
  unfold intL
  rw [if_pos (by omega)]
theorem intL_out {z : Int} (h : inR z = false) : (intL z).2 = false ∨ ((intL z).2 = true ∧ inR (intL z).1 = false) := by
  unfold intL
  by_cases hz : max z (-z) < 1000000000000000000
  · rw [if_pos hz]; exact .inr ⟨rfl, h⟩
  · rw [if_neg hz]; exact .inl rfl

set_option maxHeartbeats 4000000 in
theorem result_any (a b : Int) (u v : Value) (w : World) (hu : BigV w u a) (hv : BigV w v b) :
    Calls Try.prog 18 #[u, v] w (Ret (.tuple #[.agg #[.int .i64 (resL a b).1, .int .i64 (resL a b).2.1], .int .i64 (resL a b).2.2]) w) := by
  have H1 := Lib.hid (fun W (hb : Below w.heap.size w W) => int_any a u W (hu.below hb))
  have H2 := Lib.hid (fun W (hb : Below w.heap.size w W) => int_any b v W (hv.below hb))
  have HA := Lib.hid (@intL_in a)
  have HB := Lib.hid (@intL_in b)
  have HC := Lib.hid (@intL_out a)
  have HD := Lib.hid (@intL_out b)
  obtain ⟨A, n, ca, P, rfl, _⟩ := hu
  obtain ⟨B, m, cb, Q, rfl, _⟩ := hv
  obtain ⟨na, hna⟩ : ∃ x, decide (a < 0) = x := ⟨_, rfl⟩
  obtain ⟨nb, hnb⟩ : ∃ x, decide (b < 0) = x := ⟨_, rfl⟩
  rw [hna] at H1
  rw [hnb] at H2
  rw [hna, hnb]
  clear hna hnb
  generalize intL a = p at *
  generalize intL b = q at *
  obtain ⟨p1, p2⟩ := p
  obtain ⟨q1, q2⟩ := q
  dsimp only at H1 H2 HA HB HC HD
  have go : ∀ (k1 k2 : Bool) (r : Int × Int × Int), inR p1 = k1 → inR q1 = k2 → r = (if (p2 && q2 && k1 && k2) = true then (p1, q1, 0) else (0, 0, 9)) →
      Calls Try.prog 18 #[.agg #[.bool na, .slice A n ca], .agg #[.bool nb, .slice B m cb]] w (Ret (.tuple #[.agg #[.int .i64 (r).1, .int .i64 (r).2.1], .int .i64 (r).2.2]) w) := by
    intro k1 k2 r e1 e2 er
    have E1 := Lib.hid (fun W => (show Calls Try.prog 31 #[.int .i64 p1] W (fun e w' => e = .returned (.bool k1) ∧ W = w') by rw [← e1]; exact within_any p1 W))
    have E2 := Lib.hid (fun W => (show Calls Try.prog 31 #[.int .i64 q1] W (fun e w' => e = .returned (.bool k2) ∧ W = w') by rw [← e2]; exact within_any q1 W))
    clear e1 e2 HA HB HC HD
    rw [er]
    clear er
    cases p2 <;> cases q2 <;> cases k1 <;> cases k2
    all_goals go_enter Try.func18, Try.ntmps18
    all_goals go_wp2_with (first | (go_at_call 37; (first | (with_reducible show Calls _ _ #[.agg #[.bool na, .slice A n ca] ] _ _; refine (H1.out _ (by (repeat first | with_reducible exact Below.refl _ _ | with_reducible assumption | (with_reducible refine Below.setCell ?_ ?_ _; rotate_left; exact (by first | omega | (simp; done) | (simp; omega))) | (with_reducible refine Below.alloc ?_ ?_ _; rotate_left; exact (by first | omega | (simp; done) | (simp; omega))) | with_reducible refine Below.drew ?_ | with_reducible refine Below_drewN ?_ _))).mono ?_) | (with_reducible show Calls _ _ #[.agg #[.bool nb, .slice B m cb] ] _ _; refine (H2.out _ (by (repeat first | with_reducible exact Below.refl _ _ | with_reducible assumption | (with_reducible refine Below.setCell ?_ ?_ _; rotate_left; exact (by first | omega | (simp; done) | (simp; omega))) | (with_reducible refine Below.alloc ?_ ?_ _; rotate_left; exact (by first | omega | (simp; done) | (simp; omega))) | with_reducible refine Below.drew ?_ | with_reducible refine Below_drewN ?_ _))).mono ?_)); rintro e w1 ⟨rfl, hb⟩; have hB : Below w.heap.size w w1 := Below.trans (by (repeat first | with_reducible exact Below.refl _ _ | with_reducible assumption | (with_reducible refine Below.setCell ?_ ?_ _; rotate_left; exact (by first | omega | (simp; done) | (simp; omega))) | (with_reducible refine Below.alloc ?_ ?_ _; rotate_left; exact (by first | omega | (simp; done) | (simp; omega))) | with_reducible refine Below.drew ?_ | with_reducible refine Below_drewN ?_ _)) (hb.mono (by first | omega | (simp; done) | (simp; omega))); obtain ⟨hc, hf⟩ := bcell hb; have hs := hb.size; clear hb; (try simp only [World.size_alloc, World.size_setCell] at hc hf); (try simp only [World.size_alloc, World.size_setCell] at hs); (try have hs' := Nat.lt_of_succ_le hs); (try have hs0 : w.heap.size < w1.heap.size := by omega); (try have hs1 : w.heap.size + 1 < w1.heap.size := by omega); (try have hs2 : w.heap.size + 1 + 1 < w1.heap.size := by omega); (try have hs3 : w.heap.size + 1 + 1 + 1 < w1.heap.size := by omega); (try have iso : (w1.cell? ⟨w.heap.size, 0, none⟩).isSome = true := by (rw [hc _ _ (by first | omega | (simp; done) | (simp; omega))]; (try simp only [isSome_setCell]); first | assumption | go_simp)); (try have iso : (w1.cell? ⟨w.heap.size, 1, none⟩).isSome = true := by (rw [hc _ _ (by first | omega | (simp; done) | (simp; omega))]; (try simp only [isSome_setCell]); first | assumption | go_simp)); (try have iso : (w1.cell? ⟨w.heap.size + 1, 0, none⟩).isSome = true := by (rw [hc _ _ (by first | omega | (simp; done) | (simp; omega))]; (try simp only [isSome_setCell]); first | assumption | go_simp)); (try have iso : (w1.cell? ⟨w.heap.size + 1, 1, none⟩).isSome = true := by (rw [hc _ _ (by first | omega | (simp; done) | (simp; omega))]; (try simp only [isSome_setCell]); first | assumption | go_simp)); (try have iso : (w1.cell? ⟨w.heap.size + 1 + 1, 0, none⟩).isSome = true := by (rw [hc _ _ (by first | omega | (simp; done) | (simp; omega))]; (try simp only [isSome_setCell]); first | assumption | go_simp)); (try have iso : (w1.cell? ⟨w.heap.size + 1 + 1, 1, none⟩).isSome = true := by (rw [hc _ _ (by first | omega | (simp; done) | (simp; omega))]; (try simp only [isSome_setCell]); first | assumption | go_simp)); (try have iso : (w1.cell? ⟨w.heap.size + 1 + 1, 0, none⟩).isSome = true := by (rw [hc _ _ (by first | omega | (simp; done) | (simp; omega))]; (try simp only [isSome_setCell]); first | assumption | go_simp)); (try have iso : (w1.cell? ⟨w.heap.size + 1 + 1, 1, none⟩).isSome = true := by (rw [hc _ _ (by first | omega | (simp; done) | (simp; omega))]; (try simp only [isSome_setCell]); first | assumption | go_simp))) | (go_at_call 31; (first | (with_reducible show Calls _ _ #[.int .i64 p1] _ _; refine (E1.out _).mono ?_) | (refine (E2.out _).mono ?_)); rintro e w' ⟨rfl, rfl⟩))
    all_goals exact bodyPost_ret (res3 Try.results18 _ _ _ _ _ _ rfl rfl (by (try simp only [isSome_setCell]); first | assumption | go_simp) (by (try simp only [isSome_setCell]); first | assumption | go_simp)) rfl ⟨rfl, by (repeat first | with_reducible exact Below.refl _ _ | with_reducible assumption | (with_reducible refine Below.setCell ?_ ?_ _; rotate_left; exact (by first | omega | (simp; done) | (simp; omega))) | (with_reducible refine Below.alloc ?_ ?_ _; rotate_left; exact (by first | omega | (simp; done) | (simp; omega))) | with_reducible refine Below.drew ?_ | with_reducible refine Below_drewN ?_ _)⟩
  refine go _ _ _ rfl rfl ?_
  unfold resL
  by_cases ha : inR a = true
  · by_cases hb : inR b = true
    · have e1 := HA.out ha
      have e2 := HB.out hb
      simp only [Prod.mk.injEq] at e1 e2
      obtain ⟨rfl, rfl⟩ := e1
      obtain ⟨rfl, rfl⟩ := e2
      rw [ha, hb]
      rfl
    · have hb' : inR b = false := by simpa using hb
      rw [hb']
      rcases HD.out hb' with h | ⟨h, h2⟩
      · rw [h]; simp
      · rw [h2]; simp
  · have ha' : inR a = false := by simpa using ha
    rw [ha']
    rcases HC.out ha' with h | ⟨h, h2⟩
    · rw [h]; simp
    · rw [h2]; simp

end Go.Proofs.Ytgfajfepmflfhaa
