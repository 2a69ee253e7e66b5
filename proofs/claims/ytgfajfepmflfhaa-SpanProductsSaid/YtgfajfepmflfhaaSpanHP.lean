/- Plain arithmetic for the law SpanHeld: numbers that spans hold, and the ends of sums, differences, products, squares, quotients. -/
import Derived.Test.YtgfajfepmflfhaaSpanQ
namespace Go.Proofs.Ytgfajfepmflfhaa
set_option linter.unusedVariables false
set_option linter.unusedSimpArgs false
set_option linter.unusedSectionVars false

theorem make_is {lo hi : Int} (h : lo ≤ hi) (h1 : -1000000000000000 ≤ lo) (h2 : hi ≤ 1000000000000000) : makeL lo hi = (lo, hi, 0) := by
  unfold makeL
  rw [show min lo hi = lo by omega, show max lo hi = hi by omega, if_pos (vld_iff.2 ⟨h, h1, h2⟩)]

theorem cont_of {lo hi n : Int} (h1 : -1000000000000000 ≤ lo) (h2 : hi ≤ 1000000000000000) (h3 : lo ≤ n) (h4 : n ≤ hi) : cont lo hi n = true :=
  cont_iff.2 ⟨vld_iff.2 ⟨by omega, h1, h2⟩, h3, h4⟩

theorem mul_bound {x y : Int} (h1 : -1000000000 ≤ x) (h2 : x ≤ 1000000000) (h3 : -1000000 ≤ y) (h4 : y ≤ 1000000) : -1000000000000000 ≤ x * y ∧ x * y ≤ 1000000000000000 := by
  have l := lin x (-1000000) 1000000 y h3 h4
  omega

theorem sq_bound {x k : Int} (h1 : -k ≤ x) (h2 : x ≤ k) (hk : 0 ≤ k) : 0 ≤ x * x ∧ x * x ≤ k * k := by
  have l := lin x (-k) k x h1 h2
  have l2 := lin k (-k) k x h1 h2
  have e : x * -k = -(k * x) := by rw [Int.mul_neg, Int.mul_comm]
  have e2 : x * k = k * x := Int.mul_comm _ _
  have e3 : k * -k = -(k * k) := Int.mul_neg _ _
  have e4 := Int.mul_nonneg hk hk
  refine ⟨?_, by omega⟩
  rcases Int.lt_or_le x 0 with h | h
  · exact Int.mul_nonneg_of_nonpos_of_nonpos (by omega) (by omega)
  · exact Int.mul_nonneg h h

theorem ediv_le_tdiv {x y : Int} (hy : 0 < y) : x / y ≤ x.tdiv y := by
  rcases Int.lt_or_le x 0 with h | h
  · obtain ⟨k, rfl⟩ : ∃ k, x = -k := ⟨-x, by omega⟩
    rw [Int.neg_tdiv, Int.tdiv_eq_ediv_of_nonneg (show (0 : Int) ≤ k by omega)]
    have e1 := Int.ediv_mul_le (-k) (show y ≠ 0 by omega)
    have e2 := Int.ediv_mul_le k (show y ≠ 0 by omega)
    rcases Int.lt_or_le (-(k / y)) (-k / y) with h2 | h2
    · have e3 := Int.mul_le_mul_of_nonneg_right (show 1 - k / y ≤ -k / y by omega) (show (0 : Int) ≤ y by omega)
      rw [Int.sub_mul, Int.one_mul] at e3
      omega
    · exact h2
  · rw [Int.tdiv_eq_ediv_of_nonneg h]
    exact Int.le_refl _

theorem flo_le_tdiv {x y : Int} (hy : y ≠ 0) : flo x y ≤ x.tdiv y := by
  unfold flo
  by_cases h : 0 < y
  · rw [if_pos h]; exact ediv_le_tdiv h
  · rw [if_neg h]
    have := ediv_le_tdiv (x := -x) (y := -y) (by omega)
    rwa [Int.neg_tdiv, Int.tdiv_neg, Int.neg_neg] at this

theorem tdiv_le_cei {x y : Int} (hy : y ≠ 0) : x.tdiv y ≤ cei x y := by
  have h := flo_le_tdiv (x := -x) hy
  rw [Int.neg_tdiv] at h
  unfold cei
  omega

theorem ediv_abs {x y k : Int} (h1 : -k ≤ x) (h2 : x ≤ k) (hk : 0 ≤ k) (hy : 0 < y) : -k ≤ x / y ∧ x / y ≤ k := by
  constructor
  · rw [Int.le_ediv_iff_mul_le hy]
    have := Int.mul_le_mul_of_nonneg_left (show 1 ≤ y by omega) hk
    rw [Int.neg_mul]
    omega
  · rcases Int.lt_or_le x 0 with h | h
    · have := Int.ediv_neg_of_neg_of_pos h hy
      omega
    · exact Int.le_trans (Int.ediv_le_self y h) h2

theorem flo_abs {x y k : Int} (h1 : -k ≤ x) (h2 : x ≤ k) (hk : 0 ≤ k) (hy : y ≠ 0) : -k ≤ flo x y ∧ flo x y ≤ k := by
  unfold flo
  by_cases h : 0 < y
  · rw [if_pos h]; exact ediv_abs h1 h2 hk h
  · rw [if_neg h]; exact ediv_abs (by omega) (by omega) hk (by omega)

theorem cei_abs {x y k : Int} (h1 : -k ≤ x) (h2 : x ≤ k) (hk : 0 ≤ k) (hy : y ≠ 0) : -k ≤ cei x y ∧ cei x y ≤ k := by
  have := flo_abs (x := -x) (k := k) (by omega) (by omega) hk hy
  unfold cei
  omega

section
variable {a b c d m n : Int} (v1 : vld a b = true) (v2 : vld c d = true) (h1 : a ≤ m) (h2 : m ≤ b) (h3 : c ≤ n) (h4 : n ≤ d) (g1 : greatestL a b ≤ 1000000000) (g2 : greatestL c d ≤ 1000000)
include v1 v2 h1 h2 h3 h4 g1 g2

theorem held_ends : -1000000000 ≤ a ∧ b ≤ 1000000000 ∧ -1000000 ≤ c ∧ d ≤ 1000000 := by
  unfold greatestL at g1 g2
  rw [if_pos v1] at g1
  rw [if_pos v2] at g2
  omega

theorem held_add : ∃ s0 s1, addL a b c d = (s0, s1, 0) ∧ cont s0 s1 (m + n) = true := by
  obtain ⟨e1, e2, e3, e4⟩ := held_ends v1 v2 h1 h2 h3 h4 g1 g2
  refine ⟨a + c, b + d, ?_, cont_of (by omega) (by omega) (by omega) (by omega)⟩
  unfold addL
  rw [if_pos (by simp [v1, v2]), make_is (by omega) (by omega) (by omega)]

theorem held_sub : ∃ s0 s1, subL a b c d = (s0, s1, 0) ∧ cont s0 s1 (m - n) = true := by
  obtain ⟨e1, e2, e3, e4⟩ := held_ends v1 v2 h1 h2 h3 h4 g1 g2
  refine ⟨a - d, b - c, ?_, cont_of (by omega) (by omega) (by omega) (by omega)⟩
  unfold subL
  rw [if_pos (by simp [v1, v2]), make_is (by omega) (by omega) (by omega)]

theorem held_mul : ∃ s0 s1, mulL a b c d = (s0, s1, 0) ∧ cont s0 s1 (m * n) = true := by
  obtain ⟨e1, e2, e3, e4⟩ := held_ends v1 v2 h1 h2 h3 h4 g1 g2
  have l := mul_between a b c d m n h1 h2 h3 h4
  have b1 := mul_bound (x := a) (y := c) (by omega) (by omega) (by omega) (by omega)
  have b2 := mul_bound (x := a) (y := d) (by omega) (by omega) (by omega) (by omega)
  have b3 := mul_bound (x := b) (y := c) (by omega) (by omega) (by omega) (by omega)
  have b4 := mul_bound (x := b) (y := d) (by omega) (by omega) (by omega) (by omega)
  refine ⟨_, _, ?_, cont_of ?_ ?_ l.1 l.2⟩
  · unfold mulL
    rw [if_pos (by simp [v1, v2]), make_is (by omega) (by omega) (by omega)]
  · omega
  · omega

theorem held_sq : ∃ s0 s1, squareL c d = (s0, s1, 0) ∧ cont s0 s1 (n * n) = true := by
  obtain ⟨e1, e2, e3, e4⟩ := held_ends v1 v2 h1 h2 h3 h4 g1 g2
  have hp : provedL c d = max c (min d 0) := by unfold provedL; rw [if_pos v2]
  have hg : greatestL c d = max (-c) d := by unfold greatestL; rw [if_pos v2]
  have b1 := sq_bound (x := provedL c d) (k := max n (-n)) (by omega) (by omega) (by omega)
  have b2 := sq_bound (x := n) (k := greatestL c d) (by omega) (by omega) (by omega)
  have b3 := sq_bound (x := greatestL c d) (k := 1000000) (by omega) (by omega) (by omega)
  have en : max n (-n) * max n (-n) = n * n := by
    rcases Int.lt_or_le n 0 with h | h
    · rw [show max n (-n) = -n by omega, Int.neg_mul_neg]
    · rw [show max n (-n) = n by omega]
  refine ⟨provedL c d * provedL c d, greatestL c d * greatestL c d, ?_, cont_of (by omega) (by omega) (by omega) (by omega)⟩
  unfold squareL
  rw [if_pos v2, make_is (by omega) (by omega) (by omega)]

theorem held_max : cont (max a c) (max b d) (max m n) = true := by
  obtain ⟨e1, e2, e3, e4⟩ := held_ends v1 v2 h1 h2 h3 h4 g1 g2
  exact cont_of (by omega) (by omega) (by omega) (by omega)

/-- What a quotient's ends are good for. -/
def QuotOf (q0 q1 m n : Int) : Prop := q0 ≤ m.tdiv n + 1 ∧ m.tdiv n - 1 ≤ q1 ∧ (0 < n → q0 * n ≤ m ∧ m ≤ q1 * n) ∧ (n < 0 → q0 * -n ≤ -m ∧ -m ≤ q1 * -n) ∧ -1000000000 ≤ q0 ∧ q0 ≤ 1000000000 ∧ -1000000000 ≤ q1 ∧ q1 ≤ 1000000000

theorem held_quot : (c ≤ 0 ∧ 0 ≤ d ∧ quotL a b c d = (0, 0, 10) ∧ cont c d 0 = true) ∨ (n ≠ 0 ∧ ∃ q0 q1, quotL a b c d = (q0, q1, 0) ∧ QuotOf q0 q1 m n) := by
  obtain ⟨e1, e2, e3, e4⟩ := held_ends v1 v2 h1 h2 h3 h4 g1 g2
  by_cases hz : c ≤ 0 ∧ 0 ≤ d
  · refine .inl ⟨hz.1, hz.2, ?_, cont_of (by omega) (by omega) (by omega) (by omega)⟩
    unfold quotL
    rw [if_pos (by simp [v1, v2]), if_pos hz]
  · have hz3 : 0 < c ∨ d < 0 := by omega
    have hn : n ≠ 0 := by omega
    refine .inr ⟨hn, ?_⟩
    have m1 := flo_between a b c d m n h1 h2 h3 h4 hz3
    have m2 := cei_between a b c d m n h1 h2 h3 h4 hz3
    have t1 := flo_le_tdiv (x := m) hn
    have t2 := tdiv_le_cei (x := m) hn
    have f1 := flo_abs (x := a) (y := c) (k := 1000000000) (by omega) (by omega) (by omega) (by omega)
    have f2 := flo_abs (x := a) (y := d) (k := 1000000000) (by omega) (by omega) (by omega) (by omega)
    have f3 := flo_abs (x := b) (y := c) (k := 1000000000) (by omega) (by omega) (by omega) (by omega)
    have f4 := flo_abs (x := b) (y := d) (k := 1000000000) (by omega) (by omega) (by omega) (by omega)
    have k1 := cei_abs (x := a) (y := c) (k := 1000000000) (by omega) (by omega) (by omega) (by omega)
    have k2 := cei_abs (x := a) (y := d) (k := 1000000000) (by omega) (by omega) (by omega) (by omega)
    have k3 := cei_abs (x := b) (y := c) (k := 1000000000) (by omega) (by omega) (by omega) (by omega)
    have k4 := cei_abs (x := b) (y := d) (k := 1000000000) (by omega) (by omega) (by omega) (by omega)
    have hq : quotL a b c d = makeL (min (min (flo a c) (flo a d)) (min (flo b c) (flo b d))) (max (max (cei a c) (cei a d)) (max (cei b c) (cei b d))) := by
      unfold quotL
      rw [if_pos (by simp [v1, v2]), if_neg hz]
    refine ⟨_, _, hq.trans (make_is (by omega) (by omega) (by omega)), ?_⟩
    have bq : -1000000000 ≤ min (min (flo a c) (flo a d)) (min (flo b c) (flo b d)) ∧ min (min (flo a c) (flo a d)) (min (flo b c) (flo b d)) ≤ 1000000000 ∧ -1000000000 ≤ max (max (cei a c) (cei a d)) (max (cei b c) (cei b d)) ∧ max (max (cei a c) (cei a d)) (max (cei b c) (cei b d)) ≤ 1000000000 := by omega
    clear hq f1 f2 f3 f4 k1 k2 k3 k4
    generalize min (min (flo a c) (flo a d)) (min (flo b c) (flo b d)) = q0 at *
    generalize max (max (cei a c) (cei a d)) (max (cei b c) (cei b d)) = q1 at *
    have i1 := (flo_iff q0 m n hn).1 m1
    have i2 := (flo_iff (-q1) (-m) n hn).1 (by unfold cei at m2; omega)
    rw [Int.neg_mul] at i2
    refine ⟨by omega, by omega, fun h => by omega, fun h => ?_, by omega, by omega, by omega, by omega⟩
    rw [Int.mul_neg, Int.mul_neg]
    omega

end
end Go.Proofs.Ytgfajfepmflfhaa
