import Derived.Test.YtnplgnennmhkeaaJAA
import Derived.Laws.MathBits
import Derived.Laws.Externs
import Derived.Shelf.Bits.Mul64
import Derived.Deep.RegionHeld3
import Derived.Lib.Hide
section
/- Package span and its specification: contracts of the looks (Width, Middle, Greatest, Proved), of Make and Point, over this seat's translation. -/
namespace Go.Proofs.Ytnplgnennmhkeaa
set_option linter.unusedVariables false
set_option linter.unusedSimpArgs false
open Go.RowKit

def widthL (a b : Int) : Int := if vld a b = true then b - a else 0
def middleL (a b : Int) : Int := if vld a b = true then (a + b) / 2 else 0
def greatestL (a b : Int) : Int := if vld a b = true then max (-a) b else 0
def provedL (a b : Int) : Int := if vld a b = true then max a (min b 0) else 0
def makeL (m n : Int) : Int × Int × Int := if vld (min m n) (max m n) = true then (min m n, max m n, 0) else (0, 0, 9)

theorem ret_int {k : IntKind} {a b : Int} (h : a = b) : Ending.returned (.int k a) = .returned (.int k b) := by rw [h]

set_option maxHeartbeats 400000 in
theorem proved_any (a b : Int) (w : World) :
    Calls Try.prog 74 #[Sp a b] w (Ret (.int .i64 (provedL a b)) w) := by
  by_cases hv : vld a b = true
  · obtain ⟨h1, h2, h3⟩ := vld_iff.1 hv
    go_enter Try.func74, Try.ntmps74
    go_wp2_with (go_at_call 67; refine (valid_any _ _ _).mono ?_; rintro e w1 ⟨rfl, hb⟩; have hB : Below w.heap.size w w1 := Below.trans (by (repeat first | with_reducible exact Below.refl _ _ | with_reducible assumption | (with_reducible refine Below.setCell ?_ ?_ _; rotate_left; exact (by first | omega | (simp; done) | (simp; omega))) | (with_reducible refine Below.alloc ?_ ?_ _; rotate_left; exact (by first | omega | (simp; done) | (simp; omega))) | with_reducible refine Below.drew ?_ | with_reducible refine Below_drewN ?_ _)) (hb.mono (by first | omega | (simp; done) | (simp; omega))); obtain ⟨hc, hf⟩ := bcell hb; have hs := hb.size; clear hb; (try simp only [World.size_alloc, World.size_setCell] at hc hf); (try simp only [World.size_alloc, World.size_setCell] at hs); (try have hs' := Nat.lt_of_succ_le hs); (try have hs0 : w.heap.size < w1.heap.size := by omega); (try have hs1 : w.heap.size + 1 < w1.heap.size := by omega); (try have hs2 : w.heap.size + 1 + 1 < w1.heap.size := by omega); (try have hs3 : w.heap.size + 1 + 1 + 1 < w1.heap.size := by omega))
    all_goals go_ret
    all_goals refine ⟨ret_int ?_, by (repeat first | with_reducible exact Below.refl _ _ | with_reducible assumption | (with_reducible refine Below.setCell ?_ ?_ _; rotate_left; exact (by first | omega | (simp; done) | (simp; omega))) | (with_reducible refine Below.alloc ?_ ?_ _; rotate_left; exact (by first | omega | (simp; done) | (simp; omega))) | with_reducible refine Below.drew ?_ | with_reducible refine Below_drewN ?_ _)⟩
    all_goals (simp [provedL, hv]; omega)
  · go_enter Try.func74, Try.ntmps74
    go_wp2_with (go_at_call 67; refine (valid_any _ _ _).mono ?_; rintro e w1 ⟨rfl, hb⟩; have hB : Below w.heap.size w w1 := Below.trans (by (repeat first | with_reducible exact Below.refl _ _ | with_reducible assumption | (with_reducible refine Below.setCell ?_ ?_ _; rotate_left; exact (by first | omega | (simp; done) | (simp; omega))) | (with_reducible refine Below.alloc ?_ ?_ _; rotate_left; exact (by first | omega | (simp; done) | (simp; omega))) | with_reducible refine Below.drew ?_ | with_reducible refine Below_drewN ?_ _)) (hb.mono (by first | omega | (simp; done) | (simp; omega))); obtain ⟨hc, hf⟩ := bcell hb; have hs := hb.size; clear hb; (try simp only [World.size_alloc, World.size_setCell] at hc hf); (try simp only [World.size_alloc, World.size_setCell] at hs); (try have hs' := Nat.lt_of_succ_le hs); (try have hs0 : w.heap.size < w1.heap.size := by omega); (try have hs1 : w.heap.size + 1 < w1.heap.size := by omega); (try have hs2 : w.heap.size + 1 + 1 < w1.heap.size := by omega); (try have hs3 : w.heap.size + 1 + 1 + 1 < w1.heap.size := by omega))
    go_ret
    exact ⟨ret_int (by simp [provedL, hv]), by (repeat first | with_reducible exact Below.refl _ _ | with_reducible assumption | (with_reducible refine Below.setCell ?_ ?_ _; rotate_left; exact (by first | omega | (simp; done) | (simp; omega))) | (with_reducible refine Below.alloc ?_ ?_ _; rotate_left; exact (by first | omega | (simp; done) | (simp; omega))) | with_reducible refine Below.drew ?_ | with_reducible refine Below_drewN ?_ _)⟩

set_option maxHeartbeats 400000 in
theorem make_any (m n : Int) (w : World) :
    Calls Try.prog 107 #[.int .i64 m, .int .i64 n] w (Ret (.tuple #[.agg #[.int .i64 (makeL m n).1, .int .i64 (makeL m n).2.1], .int .i64 (makeL m n).2.2]) w) := by
  rcases Int.lt_trichotomy m n with h | h | h
  · by_cases hv : vld m n = true
    · have e : makeL m n = (m, n, 0) := by unfold makeL; rw [show min m n = m by omega, show max m n = n by omega, if_pos hv]
      rw [e]
      clear e
      go_enter Try.func107, Try.ntmps107
      go_wp2_with (go_at_call 67; refine (valid_any _ _ _).mono ?_; rintro e w1 ⟨rfl, hb⟩; have hB : Below w.heap.size w w1 := Below.trans (by (repeat first | with_reducible exact Below.refl _ _ | with_reducible assumption | (with_reducible refine Below.setCell ?_ ?_ _; rotate_left; exact (by first | omega | (simp; done) | (simp; omega))) | (with_reducible refine Below.alloc ?_ ?_ _; rotate_left; exact (by first | omega | (simp; done) | (simp; omega))) | with_reducible refine Below.drew ?_ | with_reducible refine Below_drewN ?_ _)) (hb.mono (by first | omega | (simp; done) | (simp; omega))); obtain ⟨hc, hf⟩ := bcell hb; have hs := hb.size; clear hb; (try simp only [World.size_alloc, World.size_setCell] at hc hf); (try simp only [World.size_alloc, World.size_setCell] at hs); (try have hs' := Nat.lt_of_succ_le hs); (try have hs0 : w.heap.size < w1.heap.size := by omega); (try have hs1 : w.heap.size + 1 < w1.heap.size := by omega); (try have hs2 : w.heap.size + 1 + 1 < w1.heap.size := by omega); (try have hs3 : w.heap.size + 1 + 1 + 1 < w1.heap.size := by omega))
      exact bodyPost_ret (res3 Try.results107 _ _ _ _ _ _ rfl rfl (by go_simp) (by go_simp)) rfl ⟨rfl, by (repeat first | with_reducible exact Below.refl _ _ | with_reducible assumption | (with_reducible refine Below.setCell ?_ ?_ _; rotate_left; exact (by first | omega | (simp; done) | (simp; omega))) | (with_reducible refine Below.alloc ?_ ?_ _; rotate_left; exact (by first | omega | (simp; done) | (simp; omega))) | with_reducible refine Below.drew ?_ | with_reducible refine Below_drewN ?_ _)⟩
    · have e : makeL m n = (0, 0, 9) := by unfold makeL; rw [show min m n = m by omega, show max m n = n by omega, if_neg hv]
      rw [e]
      clear e
      go_enter Try.func107, Try.ntmps107
      go_wp2_with (go_at_call 67; refine (valid_any _ _ _).mono ?_; rintro e w1 ⟨rfl, hb⟩; have hB : Below w.heap.size w w1 := Below.trans (by (repeat first | with_reducible exact Below.refl _ _ | with_reducible assumption | (with_reducible refine Below.setCell ?_ ?_ _; rotate_left; exact (by first | omega | (simp; done) | (simp; omega))) | (with_reducible refine Below.alloc ?_ ?_ _; rotate_left; exact (by first | omega | (simp; done) | (simp; omega))) | with_reducible refine Below.drew ?_ | with_reducible refine Below_drewN ?_ _)) (hb.mono (by first | omega | (simp; done) | (simp; omega))); obtain ⟨hc, hf⟩ := bcell hb; have hs := hb.size; clear hb; (try simp only [World.size_alloc, World.size_setCell] at hc hf); (try simp only [World.size_alloc, World.size_setCell] at hs); (try have hs' := Nat.lt_of_succ_le hs); (try have hs0 : w.heap.size < w1.heap.size := by omega); (try have hs1 : w.heap.size + 1 < w1.heap.size := by omega); (try have hs2 : w.heap.size + 1 + 1 < w1.heap.size := by omega); (try have hs3 : w.heap.size + 1 + 1 + 1 < w1.heap.size := by omega))
      exact bodyPost_ret (res3 Try.results107 _ _ _ _ _ _ rfl rfl (by go_simp) (by go_simp)) rfl ⟨rfl, by (repeat first | with_reducible exact Below.refl _ _ | with_reducible assumption | (with_reducible refine Below.setCell ?_ ?_ _; rotate_left; exact (by first | omega | (simp; done) | (simp; omega))) | (with_reducible refine Below.alloc ?_ ?_ _; rotate_left; exact (by first | omega | (simp; done) | (simp; omega))) | with_reducible refine Below.drew ?_ | with_reducible refine Below_drewN ?_ _)⟩
  · subst h
    by_cases hv : vld m m = true
    · have e : makeL m m = (m, m, 0) := by unfold makeL; rw [show min m m = m by omega, show max m m = m by omega, if_pos hv]
      rw [e]
      clear e
      go_enter Try.func107, Try.ntmps107
      go_wp2_with (go_at_call 67; refine (valid_any _ _ _).mono ?_; rintro e w1 ⟨rfl, hb⟩; have hB : Below w.heap.size w w1 := Below.trans (by (repeat first | with_reducible exact Below.refl _ _ | with_reducible assumption | (with_reducible refine Below.setCell ?_ ?_ _; rotate_left; exact (by first | omega | (simp; done) | (simp; omega))) | (with_reducible refine Below.alloc ?_ ?_ _; rotate_left; exact (by first | omega | (simp; done) | (simp; omega))) | with_reducible refine Below.drew ?_ | with_reducible refine Below_drewN ?_ _)) (hb.mono (by first | omega | (simp; done) | (simp; omega))); obtain ⟨hc, hf⟩ := bcell hb; have hs := hb.size; clear hb; (try simp only [World.size_alloc, World.size_setCell] at hc hf); (try simp only [World.size_alloc, World.size_setCell] at hs); (try have hs' := Nat.lt_of_succ_le hs); (try have hs0 : w.heap.size < w1.heap.size := by omega); (try have hs1 : w.heap.size + 1 < w1.heap.size := by omega); (try have hs2 : w.heap.size + 1 + 1 < w1.heap.size := by omega); (try have hs3 : w.heap.size + 1 + 1 + 1 < w1.heap.size := by omega))
      exact bodyPost_ret (res3 Try.results107 _ _ _ _ _ _ rfl rfl (by go_simp) (by go_simp)) rfl ⟨rfl, by (repeat first | with_reducible exact Below.refl _ _ | with_reducible assumption | (with_reducible refine Below.setCell ?_ ?_ _; rotate_left; exact (by first | omega | (simp; done) | (simp; omega))) | (with_reducible refine Below.alloc ?_ ?_ _; rotate_left; exact (by first | omega | (simp; done) | (simp; omega))) | with_reducible refine Below.drew ?_ | with_reducible refine Below_drewN ?_ _)⟩
    · have e : makeL m m = (0, 0, 9) := by unfold makeL; rw [show min m m = m by omega, show max m m = m by omega, if_neg hv]
      rw [e]
      clear e
      go_enter Try.func107, Try.ntmps107
      go_wp2_with (go_at_call 67; refine (valid_any _ _ _).mono ?_; rintro e w1 ⟨rfl, hb⟩; have hB : Below w.heap.size w w1 := Below.trans (by (repeat first | with_reducible exact Below.refl _ _ | with_reducible assumption | (with_reducible refine Below.setCell ?_ ?_ _; rotate_left; exact (by first | omega | (simp; done) | (simp; omega))) | (with_reducible refine Below.alloc ?_ ?_ _; rotate_left; exact (by first | omega | (simp; done) | (simp; omega))) | with_reducible refine Below.drew ?_ | with_reducible refine Below_drewN ?_ _)) (hb.mono (by first | omega | (simp; done) | (simp; omega))); obtain ⟨hc, hf⟩ := bcell hb; have hs := hb.size; clear hb; (try simp only [World.size_alloc, World.size_setCell] at hc hf); (try simp only [World.size_alloc, World.size_setCell] at hs); (try have hs' := Nat.lt_of_succ_le hs); (try have hs0 : w.heap.size < w1.heap.size := by omega); (try have hs1 : w.heap.size + 1 < w1.heap.size := by omega); (try have hs2 : w.heap.size + 1 + 1 < w1.heap.size := by omega); (try have hs3 : w.heap.size + 1 + 1 + 1 < w1.heap.size := by omega))
      exact bodyPost_ret (res3 Try.results107 _ _ _ _ _ _ rfl rfl (by go_simp) (by go_simp)) rfl ⟨rfl, by (repeat first | with_reducible exact Below.refl _ _ | with_reducible assumption | (with_reducible refine Below.setCell ?_ ?_ _; rotate_left; exact (by first | omega | (simp; done) | (simp; omega))) | (with_reducible refine Below.alloc ?_ ?_ _; rotate_left; exact (by first | omega | (simp; done) | (simp; omega))) | with_reducible refine Below.drew ?_ | with_reducible refine Below_drewN ?_ _)⟩
  · by_cases hv : vld n m = true
    · have e : makeL m n = (n, m, 0) := by unfold makeL; rw [show min m n = n by omega, show max m n = m by omega, if_pos hv]
      rw [e]
      clear e
      go_enter Try.func107, Try.ntmps107
      go_wp2_with (go_at_call 67; refine (valid_any _ _ _).mono ?_; rintro e w1 ⟨rfl, hb⟩; have hB : Below w.heap.size w w1 := Below.trans (by (repeat first | with_reducible exact Below.refl _ _ | with_reducible assumption | (with_reducible refine Below.setCell ?_ ?_ _; rotate_left; exact (by first | omega | (simp; done) | (simp; omega))) | (with_reducible refine Below.alloc ?_ ?_ _; rotate_left; exact (by first | omega | (simp; done) | (simp; omega))) | with_reducible refine Below.drew ?_ | with_reducible refine Below_drewN ?_ _)) (hb.mono (by first | omega | (simp; done) | (simp; omega))); obtain ⟨hc, hf⟩ := bcell hb; have hs := hb.size; clear hb; (try simp only [World.size_alloc, World.size_setCell] at hc hf); (try simp only [World.size_alloc, World.size_setCell] at hs); (try have hs' := Nat.lt_of_succ_le hs); (try have hs0 : w.heap.size < w1.heap.size := by omega); (try have hs1 : w.heap.size + 1 < w1.heap.size := by omega); (try have hs2 : w.heap.size + 1 + 1 < w1.heap.size := by omega); (try have hs3 : w.heap.size + 1 + 1 + 1 < w1.heap.size := by omega))
      exact bodyPost_ret (res3 Try.results107 _ _ _ _ _ _ rfl rfl (by go_simp) (by go_simp)) rfl ⟨rfl, by (repeat first | with_reducible exact Below.refl _ _ | with_reducible assumption | (with_reducible refine Below.setCell ?_ ?_ _; rotate_left; exact (by first | omega | (simp; done) | (simp; omega))) | (with_reducible refine Below.alloc ?_ ?_ _; rotate_left; exact (by first | omega | (simp; done) | (simp; omega))) | with_reducible refine Below.drew ?_ | with_reducible refine Below_drewN ?_ _)⟩
    · have e : makeL m n = (0, 0, 9) := by unfold makeL; rw [show min m n = n by omega, show max m n = m by omega, if_neg hv]
      rw [e]
      clear e
      go_enter Try.func107, Try.ntmps107
      go_wp2_with (go_at_call 67; refine (valid_any _ _ _).mono ?_; rintro e w1 ⟨rfl, hb⟩; have hB : Below w.heap.size w w1 := Below.trans (by (repeat first | with_reducible exact Below.refl _ _ | with_reducible assumption | (with_reducible refine Below.setCell ?_ ?_ _; rotate_left; exact (by first | omega | (simp; done) | (simp; omega))) | (with_reducible refine Below.alloc ?_ ?_ _; rotate_left; exact (by first | omega | (simp; done) | (simp; omega))) | with_reducible refine Below.drew ?_ | with_reducible refine Below_drewN ?_ _)) (hb.mono (by first | omega | (simp; done) | (simp; omega))); obtain ⟨hc, hf⟩ := bcell hb; have hs := hb.size; clear hb; (try simp only [World.size_alloc, World.size_setCell] at hc hf); (try simp only [World.size_alloc, World.size_setCell] at hs); (try have hs' := Nat.lt_of_succ_le hs); (try have hs0 : w.heap.size < w1.heap.size := by omega); (try have hs1 : w.heap.size + 1 < w1.heap.size := by omega); (try have hs2 : w.heap.size + 1 + 1 < w1.heap.size := by omega); (try have hs3 : w.heap.size + 1 + 1 + 1 < w1.heap.size := by omega))
      exact bodyPost_ret (res3 Try.results107 _ _ _ _ _ _ rfl rfl (by go_simp) (by go_simp)) rfl ⟨rfl, by (repeat first | with_reducible exact Below.refl _ _ | with_reducible assumption | (with_reducible refine Below.setCell ?_ ?_ _; rotate_left; exact (by first | omega | (simp; done) | (simp; omega))) | (with_reducible refine Below.alloc ?_ ?_ _; rotate_left; exact (by first | omega | (simp; done) | (simp; omega))) | with_reducible refine Below.drew ?_ | with_reducible refine Below_drewN ?_ _)⟩

end Go.Proofs.Ytnplgnennmhkeaa
end
section
/- Plain arithmetic of two's complement numbers of 128 bits; it imports nothing of the program. -/
namespace Go.Proofs.Ytnplgnennmhkeaa
set_option linter.unusedVariables false
set_option linter.unusedSimpArgs false

/-- The high and the low half of a number in two's complement of 128 bits. -/
def hi64 (z : Int) : Int := z / 18446744073709551616 % 18446744073709551616
def lo64 (z : Int) : Int := z % 18446744073709551616
def sum64 (x y c : Int) : Int := (x + y + c) % 18446744073709551616
def car64 (x y c : Int) : Int := (x + y + c) / 18446744073709551616
def not64 (x : Int) : Int := 18446744073709551615 - x
/-- z is far from the ends of 128 bits. -/
def Fit (z : Int) : Prop := -10000000000000000000000000000000000 ≤ z ∧ z ≤ 10000000000000000000000000000000000
/-- x is a number of 64 bits without a sign. -/
def U64 (x : Int) : Prop := 0 ≤ x ∧ x < 18446744073709551616

theorem hi64_u (z : Int) : U64 (hi64 z) := by unfold U64 hi64; omega
theorem lo64_u (z : Int) : U64 (lo64 z) := by unfold U64 lo64; omega
theorem hi64_nonneg (z : Int) : 0 ≤ hi64 z := (hi64_u z).1
theorem lo64_nonneg (z : Int) : 0 ≤ lo64 z := (lo64_u z).1
theorem car64_01 (x y c : Int) (hx : U64 x) (hy : U64 y) (h0 : 0 ≤ c) (h1 : c ≤ 1) : 0 ≤ car64 x y c ∧ car64 x y c ≤ 1 := by
  unfold U64 at hx hy; unfold car64; omega
theorem plus_lo (y z : Int) : sum64 (lo64 y) (lo64 z) 0 = lo64 (y + z) := by unfold sum64 lo64; omega
theorem plus_hi (y z : Int) : sum64 (hi64 y) (hi64 z) (car64 (lo64 y) (lo64 z) 0) = hi64 (y + z) := by unfold sum64 hi64 lo64 car64; omega
theorem not_lo (z : Int) : not64 (lo64 z) = lo64 (-z - 1) := by unfold not64 lo64; omega
theorem not_hi (z : Int) : not64 (hi64 z) = hi64 (-z - 1) := by unfold not64 hi64; omega
theorem number_hi (n : Int) (h1 : -9223372036854775808 ≤ n) (h2 : n ≤ 9223372036854775807) : n / 9223372036854775808 % 18446744073709551616 = hi64 n := by unfold hi64; omega
theorem number_lo (n : Int) : n % 18446744073709551616 = lo64 n := rfl
/-- x as a number with a sign. -/
def sgn64 (x : Int) : Int := (x + 9223372036854775808) % 18446744073709551616 - 9223372036854775808
theorem sgn_hi (z : Int) (h : Fit z) : sgn64 (hi64 z) = z / 18446744073709551616 := by unfold Fit at h; unfold sgn64 hi64; omega
theorem sgn_lo (n : Int) (h1 : -9223372036854775808 ≤ n) (h2 : n ≤ 9223372036854775807) : sgn64 (lo64 n) = n := by unfold sgn64 lo64; omega
theorem negative_iff (z : Int) (h : Fit z) : sgn64 (hi64 z) < 0 ↔ z < 0 := by rw [sgn_hi z h]; omega
theorem below_ne (y z : Int) (hy : Fit y) (hz : Fit z) (h : hi64 y ≠ hi64 z) : sgn64 (hi64 y) < sgn64 (hi64 z) ↔ y < z := by
  rw [sgn_hi y hy, sgn_hi z hz]; unfold Fit at hy hz; unfold hi64 at h; omega
theorem below_eq (y z : Int) (hy : Fit y) (hz : Fit z) (h : hi64 y = hi64 z) : lo64 y < lo64 z ↔ y < z := by
  unfold Fit at hy hz; unfold hi64 at h; unfold lo64; omega
theorem same_iff (y z : Int) (hy : Fit y) (hz : Fit z) : (hi64 y = hi64 z ∧ lo64 y = lo64 z) ↔ y = z := by
  unfold Fit at hy hz; unfold hi64 lo64; constructor
  · intro h; omega
  · intro h; rw [h]; exact ⟨rfl, rfl⟩
theorem narrow_of (z : Int) (hz : Fit z) (h : sgn64 (lo64 z) = z) : -9223372036854775808 ≤ z ∧ z ≤ 9223372036854775807 := by
  unfold sgn64 lo64 at h; omega
theorem sgn_range (x : Int) : -9223372036854775808 ≤ sgn64 x ∧ sgn64 x ≤ 9223372036854775807 := by unfold sgn64; omega
theorem mul_hi (x y : Int) (hx : 0 ≤ x) (hy : 0 ≤ y) (hx' : x ≤ 1000000000000000) (hy' : y ≤ 1000000000000000) : x * y / 18446744073709551616 = hi64 (x * y) := by
  have h0 : 0 ≤ x * y := Int.mul_nonneg hx hy
  have h1 : x * y ≤ 1000000000000000 * 1000000000000000 := Int.mul_le_mul hx' hy' hy (by omega)
  generalize x * y = p at *
  unfold hi64; omega
theorem mul_fit (x y : Int) (hx : -1000000000000000 ≤ x) (hy : -1000000000000000 ≤ y) (hx' : x ≤ 1000000000000000) (hy' : y ≤ 1000000000000000) :
    -1000000000000000000000000000000 ≤ x * y ∧ x * y ≤ 1000000000000000000000000000000 := by
  have a := Int.mul_nonneg (show 0 ≤ 1000000000000000 - x by omega) (show 0 ≤ 1000000000000000 - y by omega)
  have b := Int.mul_nonneg (show 0 ≤ 1000000000000000 + x by omega) (show 0 ≤ 1000000000000000 + y by omega)
  have c := Int.mul_nonneg (show 0 ≤ 1000000000000000 - x by omega) (show 0 ≤ 1000000000000000 + y by omega)
  have d := Int.mul_nonneg (show 0 ≤ 1000000000000000 + x by omega) (show 0 ≤ 1000000000000000 - y by omega)
  rw [Int.sub_mul, Int.mul_sub, Int.mul_sub] at a
  rw [Int.add_mul, Int.mul_add, Int.mul_add] at b
  rw [Int.sub_mul, Int.mul_add, Int.mul_add] at c
  rw [Int.add_mul, Int.mul_sub, Int.mul_sub] at d
  generalize x * y = p at *
  omega
theorem neg1 (m n : Int) : -(-m * n) = m * n := by rw [Int.neg_mul, Int.neg_neg]
theorem neg2 (m n : Int) : -(m * -n) = m * n := by rw [Int.mul_neg, Int.neg_neg]

/-- A quotient rounded down, and rounded up. -/
def flo (x d : Int) : Int := if 0 < d then x / d else (-x) / (-d)
def cei (x d : Int) : Int := -(flo (-x) d)

theorem neg_quo (Z m : Int) (hm : 0 < m) : (Z % m = 0 ∧ (-Z) / m = -(Z / m)) ∨ (0 < Z % m ∧ (-Z) / m = -(Z / m + 1)) := by
  have h1 := Int.emod_add_mul_ediv Z m
  have h2 := Int.emod_nonneg Z (show m ≠ 0 by omega)
  have h3 := Int.emod_lt_of_pos Z hm
  generalize Z / m = q at *
  generalize Z % m = r at *
  by_cases h : r = 0
  · left
    refine ⟨h, ((Int.ediv_emod_unique hm).2 (?_ : (0 : Int) + m * -q = -Z ∧ 0 ≤ (0 : Int) ∧ (0 : Int) < m)).1⟩
    rw [Int.mul_neg]
    omega
  · right
    refine ⟨by omega, ((Int.ediv_emod_unique hm).2 (?_ : (m - r) + m * -(q + 1) = -Z ∧ 0 ≤ m - r ∧ m - r < m)).1⟩
    rw [Int.mul_neg, Int.mul_add]
    omega

theorem quo_cases (x d Z m : Int) (hd : d ≠ 0) (hZ : Z = max x (-x)) (hm : m = max d (-d)) :
    ∃ F, ((Z % m = 0 ∧ F = Z / m) ∨ (0 < Z % m ∧ F = Z / m + 1)) ∧
      (((decide (x < 0) != decide (d < 0)) = false ∧ flo x d = Z / m ∧ cei x d = F) ∨ ((decide (x < 0) != decide (d < 0)) = true ∧ flo x d = -F ∧ cei x d = -(Z / m))) := by
  have hm0 : 0 < m := by omega
  have key : ∃ F, ((Z % m = 0 ∧ F = Z / m) ∨ (0 < Z % m ∧ F = Z / m + 1)) ∧ (-Z) / m = -F := by
    rcases neg_quo Z m hm0 with ⟨a, b⟩ | ⟨a, b⟩
    · exact ⟨Z / m, .inl ⟨a, rfl⟩, b⟩
    · exact ⟨Z / m + 1, .inr ⟨a, rfl⟩, b⟩
  obtain ⟨F, hF, hn⟩ := key
  refine ⟨F, hF, ?_⟩
  by_cases h1 : x < 0 <;> by_cases h2 : d < 0
  · left
    have e1 : Z = -x := by omega
    have e2 : m = -d := by omega
    subst e1 e2
    unfold cei flo
    rw [if_neg (by omega), if_neg (by omega)]
    exact ⟨by simp [h1, h2], rfl, by rw [hn]; omega⟩
  · right
    have e1 : Z = -x := by omega
    have e2 : m = d := by omega
    subst e1 e2
    unfold cei flo
    rw [if_pos (by omega), if_pos (by omega)]
    exact ⟨by simp [h1, h2], by rw [Int.neg_neg] at hn; exact hn, rfl⟩
  · right
    have e1 : Z = x := by omega
    have e2 : m = -d := by omega
    subst e1 e2
    unfold cei flo
    rw [if_neg (by omega), if_neg (by omega)]
    exact ⟨by simp [h1, h2], hn, by rw [Int.neg_neg]⟩
  · left
    have e1 : Z = x := by omega
    have e2 : m = d := by omega
    subst e1 e2
    unfold cei flo
    rw [if_pos (by omega), if_pos (by omega)]
    exact ⟨by simp [h1, h2], rfl, by rw [hn]; omega⟩

theorem hi64_small (z : Int) (h0 : 0 ≤ z) (h1 : z ≤ 1000000000000000) : hi64 z = 0 := by unfold hi64; omega
theorem lo64_small (z : Int) (h0 : 0 ≤ z) (h1 : z ≤ 1000000000000000) : lo64 z = z := by unfold lo64; omega
theorem div_small (z m : Int) (h0 : 0 ≤ z) (h1 : z ≤ 1000000000000000) (hm : 1 ≤ m) : 0 ≤ z / m ∧ z / m ≤ 1000000000000000 :=
  ⟨Int.ediv_nonneg h0 (by omega), Int.le_trans (Int.ediv_le_self _ h0) h1⟩
end Go.Proofs.Ytnplgnennmhkeaa
end
section
/- Package span: contracts of the 128-bit numbers (wide, ends), over this seat's translation. -/
namespace Go.Proofs.Ytnplgnennmhkeaa
set_option linter.unusedVariables false
set_option linter.unusedSimpArgs false
open Go.RowKit

theorem wrapU (n : Int) : IntKind.u64.wrap n = n % 18446744073709551616 := by rw [IntKind.wrap_u64]
theorem wrapS (n : Int) : wrap64 n = sgn64 n := by unfold wrap64 sgn64; rfl

theorem xor_not (x : Int) (h : U64 x) : bits .xor .u64 IntKind.u64.max x = not64 x := by
  obtain ⟨h0, h1⟩ := h
  unfold not64
  show bits .xor .u64 18446744073709551615 x = _
  rw [u64_xor _ _ (by omega) (by omega) h0 h1]
  have e := congrArg BitVec.toNat (BitVec.xor_allOnes (x := BitVec.ofNat 64 x.toNat))
  simp only [BitVec.toNat_xor, BitVec.toNat_not, BitVec.toNat_allOnes, BitVec.toNat_ofNat] at e
  rw [Nat.mod_eq_of_lt (by omega), Nat.xor_comm] at e
  show (((2 ^ 64 - 1) ^^^ x.toNat : Nat) : Int) = _
  rw [e]
  omega

/-- A struct of two cells, just made, as the one result. -/
theorem res2 {fn : Func} {p : Tmp} (h : fn.results = #[.cell p 116]) (tmps : Array Value) (W : World) (b : Nat) (x y : Value)
    (hp : tmps.getD p undef = .pointer (some ⟨b, 0, none⟩)) (h0 : W.cell? ⟨b, 0, none⟩ = some x) (h1 : W.cell? ⟨b, 1, none⟩ = some y) :
    (results fn tmps).run Try.prog W = .ok (.agg #[x, y]) W := by
  have hp' : tmps[p]?.getD undef = .pointer (some ⟨b, 0, none⟩) := by simpa using hp
  simp only [results, h]
  simp [Sem.run_bind, Result.andThen, go_sem, hp', h0, h1]

/-- The same, behind its last store. -/
theorem res2s {fn : Func} {p : Tmp} (h : fn.results = #[.cell p 116]) (tmps : Array Value) (W : World) (b : Nat) (x y : Value)
    (hp : tmps.getD p undef = .pointer (some ⟨b, 0, none⟩)) (h0 : (((W.setCell ⟨b, 0, none⟩ x).setCell ⟨b, 1, none⟩ y).cell? ⟨b, 0, none⟩).isSome = true) (h1 : (((W.setCell ⟨b, 0, none⟩ x).setCell ⟨b, 1, none⟩ y).cell? ⟨b, 1, none⟩).isSome = true) :
    (results fn tmps).run Try.prog ((W.setCell ⟨b, 0, none⟩ x).setCell ⟨b, 1, none⟩ y) = .ok (.agg #[x, y]) ((W.setCell ⟨b, 0, none⟩ x).setCell ⟨b, 1, none⟩ y) := by
  rw [isSome_setCell, isSome_setCell] at h0
  rw [isSome_setCell] at h1
  have n1 : (⟨b, 1, none⟩ : Addr) ≠ ⟨b, 0, none⟩ := by simp
  exact res2 h tmps _ b x y hp ((World.cell?_setCell_other _ _ _ _ n1).trans (World.cell?_setCell_same' _ _ _ h0)) (World.cell?_setCell_same' _ _ _ h1)

/-- A struct of four cells, as the one result. -/
theorem res4 {fn : Func} {p : Tmp} (h : fn.results = #[.cell p 118]) (tmps : Array Value) (W : World) (b : Nat) (x y z u : Value)
    (hp : tmps.getD p undef = .pointer (some ⟨b, 0, none⟩)) (h0 : W.cell? ⟨b, 0, none⟩ = some x) (h1 : W.cell? ⟨b, 1, none⟩ = some y) (h2 : W.cell? ⟨b, 2, none⟩ = some z) (h3 : W.cell? ⟨b, 3, none⟩ = some u) :
    (results fn tmps).run Try.prog W = .ok (.agg #[x, y, z, u]) W := by
  have hp' : tmps[p]?.getD undef = .pointer (some ⟨b, 0, none⟩) := by simpa using hp
  simp only [results, h]
  simp [Sem.run_bind, Result.andThen, go_sem, hp', h0, h1, h2, h3]

set_option maxHeartbeats 400000 in
theorem number_any (n : Int) (w : World) (h1 : -9223372036854775808 ≤ n) (h2 : n ≤ 9223372036854775807) :
    Calls Try.prog 71 #[.int .i64 n] w (Ret (.agg #[.int .u64 (hi64 n), .int .u64 (lo64 n)]) w) := by
  rw [← number_hi n h1 h2, ← number_lo n, ← wrapU n, ← wrapU]
  go_enter Try.func71, Try.ntmps71
  go_wp2
  exact bodyPost_ret (res2 Try.results71 _ _ _ _ _ rfl (by go_simp) (by go_simp)) rfl ⟨rfl, by (repeat first | with_reducible exact Below.refl _ _ | with_reducible assumption | (with_reducible refine Below.setCell ?_ ?_ _; rotate_left; exact (by first | omega | (simp; done) | (simp; omega))) | (with_reducible refine Below.alloc ?_ ?_ _; rotate_left; exact (by first | omega | (simp; done) | (simp; omega))) | with_reducible refine Below.drew ?_ | with_reducible refine Below_drewN ?_ _)⟩

set_option maxHeartbeats 400000 in
theorem below_any (y z : Int) (w : World) (hy : Fit y) (hz : Fit z) :
    Calls Try.prog 109 #[.agg #[.int .u64 (hi64 y), .int .u64 (lo64 y)], .agg #[.int .u64 (hi64 z), .int .u64 (lo64 z)]] w (Ret (.bool (decide (y < z))) w) := by
  by_cases h : hi64 y = hi64 z
  · have e := below_eq y z hy hz h
    have hb : (hi64 y != hi64 z) = false := by simp [h]
    clear hy hz h
    go_enter Try.func109, Try.ntmps109
    go_wp2
    go_ret
    exact ⟨rfl, by (repeat first | with_reducible exact Below.refl _ _ | with_reducible assumption | (with_reducible refine Below.setCell ?_ ?_ _; rotate_left; exact (by first | omega | (simp; done) | (simp; omega))) | (with_reducible refine Below.alloc ?_ ?_ _; rotate_left; exact (by first | omega | (simp; done) | (simp; omega))) | with_reducible refine Below.drew ?_ | with_reducible refine Below_drewN ?_ _)⟩
  · have e := below_ne y z hy hz h
    have hb : (hi64 y != hi64 z) = true := by simp [h]
    clear hy hz h
    go_enter Try.func109, Try.ntmps109
    go_wp2
    go_ret
    refine ⟨ret_bool ?_, by (repeat first | with_reducible exact Below.refl _ _ | with_reducible assumption | (with_reducible refine Below.setCell ?_ ?_ _; rotate_left; exact (by first | omega | (simp; done) | (simp; omega))) | (with_reducible refine Below.alloc ?_ ?_ _; rotate_left; exact (by first | omega | (simp; done) | (simp; omega))) | with_reducible refine Below.drew ?_ | with_reducible refine Below_drewN ?_ _)⟩
    rw [wrapS, wrapS, decide_eq_decide]
    exact e

set_option maxHeartbeats 400000 in
theorem only_any (a b : Int) (w : World) :
    Calls Try.prog 70 #[.agg #[.int .u64 a, .int .u64 b]] w (Ret (.agg #[.int .u64 a, .int .u64 b, .int .u64 a, .int .u64 b]) w) := by
  go_enter Try.func70, Try.ntmps70
  go_wp2
  exact bodyPost_ret (res4 Try.results70 _ _ _ _ _ _ _ rfl (by go_simp) (by go_simp) (by go_simp) (by go_simp)) rfl ⟨rfl, by (repeat first | with_reducible exact Below.refl _ _ | with_reducible assumption | (with_reducible refine Below.setCell ?_ ?_ _; rotate_left; exact (by first | omega | (simp; done) | (simp; omega))) | (with_reducible refine Below.alloc ?_ ?_ _; rotate_left; exact (by first | omega | (simp; done) | (simp; omega))) | with_reducible refine Below.drew ?_ | with_reducible refine Below_drewN ?_ _)⟩

end Go.Proofs.Ytnplgnennmhkeaa
end
