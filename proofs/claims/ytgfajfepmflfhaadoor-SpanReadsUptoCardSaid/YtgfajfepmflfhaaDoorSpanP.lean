/- Plain arithmetic of two's complement numbers of 128 bits; it imports nothing of the program. -/
import Derived.Laws.MathBits
namespace Go.Proofs.YtgfajfepmflfhaaDoor
set_option linter.unusedVariables false
set_option linter.unusedSimpArgs false

/-- The high and the low half of a number in two's complement of 128 bits. -/
def hi64 (z : Int) : Int := z / 18446744073709551616 % 18446744073709551616
def lo64 (z : Int) : Int := z % 18446744073709551616
def sum64 (x y c : Int) : Int := (x + y + c) % 18446744073709551616
def car64 (x y c : Int) : Int := (x + y + c) / 18446744073709551616
def not64 (x : Int) : Int := 18446744073709551615 - x
/-- z is far from the ends of 128 bits. -/
def Fit (z : Int) : Prop := -10000000000000000000000000000000000 ≤ z ∧ z ≤ 10000000000000000000000000000000000
/-- x is a number of 64 bits without a sign. -/
def U64 (x : Int) : Prop := 0 ≤ x ∧ x < 18446744073709551616

theorem hi64_u (z : Int) : U64 (hi64 z) := by unfold U64 hi64; omega
theorem lo64_u (z : Int) : U64 (lo64 z) := by unfold U64 lo64; omega
theorem hi64_nonneg (z : Int) : 0 ≤ hi64 z := (hi64_u z).1
theorem lo64_nonneg (z : Int) : 0 ≤ lo64 z := (lo64_u z).1
theorem car64_01 (x y c : Int) (hx : U64 x) (hy : U64 y) (h0 : 0 ≤ c) (h1 : c ≤ 1) : 0 ≤ car64 x y c ∧ car64 x y c ≤ 1 := by
  unfold U64 at hx hy; unfold car64; omega
theorem plus_lo (y z : Int) : sum64 (lo64 y) (lo64 z) 0 = lo64 (y + z) := by unfold sum64 lo64; omega
theorem plus_hi (y z : Int) : sum64 (hi64 y) (hi64 z) (car64 (lo64 y) (lo64 z) 0) = hi64 (y + z) := by unfold sum64 hi64 lo64 car64; omega
theorem not_lo (z : Int) : not64 (lo64 z) = lo64 (-z - 1) := by unfold not64 lo64; omega
theorem not_hi (z : Int) : not64 (hi64 z) = hi64 (-z - 1) := by unfold not64 hi64; omega
theorem number_hi (n : Int) (h1 : -9223372036854775808 ≤ n) (h2 : n ≤ 9223372036854775807) : n / 9223372036854775808 % 18446744073709551616 = hi64 n := by unfold hi64; omega
theorem number_lo (n : Int) : n % 18446744073709551616 = lo64 n := rfl
/-- x as a number with a sign. -/
def sgn64 (x : Int) : Int := (x + 9223372036854775808) % 18446744073709551616 - 9223372036854775808
theorem sgn_hi (z : Int) (h : Fit z) : sgn64 (hi64 z) = z / 18446744073709551616 := by unfold Fit at h; unfold sgn64 hi64; omega
theorem sgn_lo (n : Int) (h1 : -9223372036854775808 ≤ n) (h2 : n ≤ 9223372036854775807) : sgn64 (lo64 n) = n := by unfold sgn64 lo64; omega
theorem negative_iff (z : Int) (h : Fit z) : sgn64 (hi64 z) < 0 ↔ z < 0 := by rw [sgn_hi z h]; omega
theorem below_ne (y z : Int) (hy : Fit y) (hz : Fit z) (h : hi64 y ≠ hi64 z) : sgn64 (hi64 y) < sgn64 (hi64 z) ↔ y < z := by
  rw [sgn_hi y hy, sgn_hi z hz]; unfold Fit at hy hz; unfold hi64 at h; omega
theorem below_eq (y z : Int) (hy : Fit y) (hz : Fit z) (h : hi64 y = hi64 z) : lo64 y < lo64 z ↔ y < z := by
  unfold Fit at hy hz; unfold hi64 at h; unfold lo64; omega
theorem same_iff (y z : Int) (hy : Fit y) (hz : Fit z) : (hi64 y = hi64 z ∧ lo64 y = lo64 z) ↔ y = z := by
  unfold Fit at hy hz; unfold hi64 lo64; constructor
  · intro h; omega
  · intro h; rw [h]; exact ⟨rfl, rfl⟩
theorem narrow_of (z : Int) (hz : Fit z) (h : sgn64 (lo64 z) = z) : -9223372036854775808 ≤ z ∧ z ≤ 9223372036854775807 := by
  unfold sgn64 lo64 at h; omega
theorem sgn_range (x : Int) : -9223372036854775808 ≤ sgn64 x ∧ sgn64 x ≤ 9223372036854775807 := by unfold sgn64; omega
theorem mul_hi (x y : Int) (hx : 0 ≤ x) (hy : 0 ≤ y) (hx' : x ≤ 1000000000000000) (hy' : y ≤ 1000000000000000) : x * y / 18446744073709551616 = hi64 (x * y) := by
  have h0 : 0 ≤ x * y := Int.mul_nonneg hx hy
  have h1 : x * y ≤ 1000000000000000 * 1000000000000000 := Int.mul_le_mul hx' hy' hy (by omega)
  generalize x * y = p at *
  unfold hi64; omega
theorem mul_fit (x y : Int) (hx : -1000000000000000 ≤ x) (hy : -1000000000000000 ≤ y) (hx' : x ≤ 1000000000000000) (hy' : y ≤ 1000000000000000) :
    -1000000000000000000000000000000 ≤ x * y ∧ x * y ≤ 1000000000000000000000000000000 := by
  have a := Int.mul_nonneg (show 0 ≤ 1000000000000000 - x by omega) (show 0 ≤ 1000000000000000 - y by omega)
  have b := Int.mul_nonneg (show 0 ≤ 1000000000000000 + x by omega) (show 0 ≤ 1000000000000000 + y by omega)
  have c := Int.mul_nonneg (show 0 ≤ 1000000000000000 - x by omega) (show 0 ≤ 1000000000000000 + y by omega)
  have d := Int.mul_nonneg (show 0 ≤ 1000000000000000 + x by omega) (show 0 ≤ 1000000000000000 - y by omega)
  rw [Int.sub_mul, Int.mul_sub, Int.mul_sub] at a
  rw [Int.add_mul, Int.mul_add, Int.mul_add] at b
  rw [Int.sub_mul, Int.mul_add, Int.mul_add] at c
  rw [Int.add_mul, Int.mul_sub, Int.mul_sub] at d
  generalize x * y = p at *
  omega
theorem neg1 (m n : Int) : -(-m * n) = m * n := by rw [Int.neg_mul, Int.neg_neg]
theorem neg2 (m n : Int) : -(m * -n) = m * n := by rw [Int.mul_neg, Int.neg_neg]

/-- A quotient rounded down, and rounded up. -/
def flo (x d : Int) : Int := if 0 < d then x / d else (-x) / (-d)
def cei (x d : Int) : Int := -(flo (-x) d)

theorem neg_quo (Z m : Int) (hm : 0 < m) : (Z % m = 0 ∧ (-Z) / m = -(Z / m)) ∨ (0 < Z % m ∧ (-Z) / m = -(Z / m + 1)) := by
  have h1 := Int.emod_add_mul_ediv Z m
  have h2 := Int.emod_nonneg Z (show m ≠ 0 by omega)
  have h3 := Int.emod_lt_of_pos Z hm
  generalize Z / m = q at *
  generalize Z % m = r at *
  by_cases h : r = 0
  · left
    refine ⟨h, ((Int.ediv_emod_unique hm).2 (?_ : (0 : Int) + m * -q = -Z ∧ 0 ≤ (0 : Int) ∧ (0 : Int) < m)).1⟩
    rw [Int.mul_neg]
    omega
  · right
    refine ⟨by omega, ((Int.ediv_emod_unique hm).2 (?_ : (m - r) + m * -(q + 1) = -Z ∧ 0 ≤ m - r ∧ m - r < m)).1⟩
    rw [Int.mul_neg, Int.mul_add]
    omega

theorem quo_cases (x d Z m : Int) (hd : d ≠ 0) (hZ : Z = max x (-x)) (hm : m = max d (-d)) :
    ∃ F, ((Z % m = 0 ∧ F = Z / m) ∨ (0 < Z % m ∧ F = Z / m + 1)) ∧
      (((decide (x < 0) != decide (d < 0)) = false ∧ flo x d = Z / m ∧ cei x d = F) ∨ ((decide (x < 0) != decide (d < 0)) = true ∧ flo x d = -F ∧ cei x d = -(Z / m))) := by
  have hm0 : 0 < m := by omega
  have key : ∃ F, ((Z % m = 0 ∧ F = Z / m) ∨ (0 < Z % m ∧ F = Z / m + 1)) ∧ (-Z) / m = -F := by
    rcases neg_quo Z m hm0 with ⟨a, b⟩ | ⟨a, b⟩
    · exact ⟨Z / m, .inl ⟨a, rfl⟩, b⟩
    · exact ⟨Z / m + 1, .inr ⟨a, rfl⟩, b⟩
  obtain ⟨F, hF, hn⟩ := key
  refine ⟨F, hF, ?_⟩
  by_cases h1 : x < 0 <;> by_cases h2 : d < 0
  · left
    have e1 : Z = -x := by omega
    have e2 : m = -d := by omega
    subst e1 e2
    unfold cei flo
    rw [if_neg (by omega), if_neg (by omega)]
    exact ⟨by simp [h1, h2], rfl, by rw [hn]; omega⟩
  · right
    have e1 : Z = -x := by omega
    have e2 : m = d := by omega
    subst e1 e2
    unfold cei flo
    rw [if_pos (by omega), if_pos (by omega)]
    exact ⟨by simp [h1, h2], by rw [Int.neg_neg] at hn; exact hn, rfl⟩
  · right
    have e1 : Z = x := by omega
    have e2 : m = -d := by omega
    subst e1 e2
    unfold cei flo
    rw [if_neg (by omega), if_neg (by omega)]
    exact ⟨by simp [h1, h2], hn, by rw [Int.neg_neg]⟩
  · left
    have e1 : Z = x := by omega
    have e2 : m = d := by omega
    subst e1 e2
    unfold cei flo
    rw [if_pos (by omega), if_pos (by omega)]
    exact ⟨by simp [h1, h2], rfl, by rw [hn]; omega⟩

theorem hi64_small (z : Int) (h0 : 0 ≤ z) (h1 : z ≤ 1000000000000000) : hi64 z = 0 := by unfold hi64; omega
theorem lo64_small (z : Int) (h0 : 0 ≤ z) (h1 : z ≤ 1000000000000000) : lo64 z = z := by unfold lo64; omega
theorem div_small (z m : Int) (h0 : 0 ≤ z) (h1 : z ≤ 1000000000000000) (hm : 1 ≤ m) : 0 ≤ z / m ∧ z / m ≤ 1000000000000000 :=
  ⟨Int.ediv_nonneg h0 (by omega), Int.le_trans (Int.ediv_le_self _ h0) h1⟩
end Go.Proofs.YtgfajfepmflfhaaDoor
