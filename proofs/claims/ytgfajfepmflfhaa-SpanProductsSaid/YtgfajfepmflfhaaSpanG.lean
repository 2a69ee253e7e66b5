/- Plain arithmetic of the division of two machine words by one (Knuth's), and of normalizing shifts. -/
import Derived.Test.YtgfajfepmflfhaaSpanP
import Derived.Lib.BitFns
namespace Go.Proofs.Ytgfajfepmflfhaa
set_option linter.unusedVariables false
set_option linter.unusedSimpArgs false

/-- One digit of Knuth's division: what his guess keeps. -/
theorem knuth_init {x u y yn1 yn0 u1 Q : Int} (hy : y = yn1 * 4294967296 + yn0) (h1 : 2147483648 ≤ yn1) (h2 : yn1 < 4294967296) (h3 : 0 ≤ yn0) (h4 : yn0 < 4294967296)
    (hu : 0 ≤ u) (huy : u < y) (k0 : 0 ≤ u1) (k1 : u1 < 4294967296) (hx : x = u * 4294967296 + u1) (hQ : Q = x / y) :
    0 ≤ u / yn1 ∧ u / yn1 ≤ 4294967297 ∧ u / yn1 * yn1 + u % yn1 = u ∧ 0 ≤ u % yn1 ∧ u % yn1 < 4294967296 ∧ 0 ≤ Q ∧ Q < 4294967296 ∧ Q ≤ u / yn1 := by
  have e := Int.mul_ediv_add_emod u yn1
  have m0 := Int.emod_nonneg u (show yn1 ≠ 0 by omega)
  have m1 := Int.emod_lt_of_pos u (show 0 < yn1 by omega)
  have q0 : 0 ≤ u / yn1 := Int.ediv_nonneg hu (by omega)
  have q1 : u / yn1 ≤ 4294967297 := by
    have : u / yn1 < 4294967298 := Int.ediv_lt_of_lt_mul (by omega) (by omega)
    omega
  have Q0 : 0 ≤ Q := by rw [hQ]; exact Int.ediv_nonneg (by omega) (by omega)
  have Q1 : Q < 4294967296 := by rw [hQ]; exact Int.ediv_lt_of_lt_mul (by omega) (by omega)
  refine ⟨q0, q1, by rw [Int.mul_comm]; exact e, m0, by omega, Q0, Q1, ?_⟩
  have hQy : Q * y ≤ x := by rw [hQ]; exact Int.ediv_mul_le x (by omega)
  rcases Int.lt_or_le (u / yn1) Q with h | h
  · exfalso
    have a1 : (u / yn1 + 1) * y ≤ Q * y := Int.mul_le_mul_of_nonneg_right (by omega) (by omega)
    have a2 : (u / yn1 + 1) * y = (u / yn1 + 1) * yn1 * 4294967296 + (u / yn1 + 1) * yn0 := by rw [hy, Int.mul_add, Int.mul_assoc]
    have a3 : (u / yn1 + 1) * yn1 = u / yn1 * yn1 + yn1 := by rw [Int.add_mul, Int.one_mul]
    have a4 : 0 ≤ (u / yn1 + 1) * yn0 := Int.mul_nonneg (by omega) h3
    rw [Int.mul_comm] at e
    omega
  · exact h

/-- The guess is too large. -/
theorem knuth_large {x u y yn1 yn0 u1 Q q r : Int} (hy : y = yn1 * 4294967296 + yn0) (hy0 : 0 < y) (hx : x = u * 4294967296 + u1) (hQ : Q = x / y) (hq : q * yn1 + r = u) (hQ1 : Q < 4294967296)
    (h : 4294967296 ≤ q ∨ r * 4294967296 + u1 < q * yn0) : Q < q := by
  rcases h with h | h
  · omega
  · have a2 : q * y = q * yn1 * 4294967296 + q * yn0 := by rw [hy, Int.mul_add, Int.mul_assoc]
    rw [hQ]
    exact Int.ediv_lt_of_lt_mul hy0 (by omega)

/-- The guess is right. -/
theorem knuth_right {x u y yn1 yn0 u1 Q q r : Int} (hy : y = yn1 * 4294967296 + yn0) (hy0 : 0 < y) (hx : x = u * 4294967296 + u1) (hQ : Q = x / y) (hq : q * yn1 + r = u) (hQq : Q ≤ q)
    (h : q * yn0 ≤ r * 4294967296 + u1) : q = Q := by
  have a2 : q * y = q * yn1 * 4294967296 + q * yn0 := by rw [hy, Int.mul_add, Int.mul_assoc]
  have : q ≤ Q := by rw [hQ]; exact (Int.le_ediv_iff_mul_le hy0).2 (by omega)
  omega
/-- Nor is more wanted once the rest is large. -/
theorem knuth_break {yn0 u1 q r : Int} (h3 : 0 ≤ yn0) (h4 : yn0 < 4294967296) (k0 : 0 ≤ u1) (hq0 : 0 ≤ q) (hq : q ≤ 4294967296) (hr : 4294967296 ≤ r) : q * yn0 ≤ r * 4294967296 + u1 := by
  have a1 : q * yn0 ≤ 4294967296 * yn0 := Int.mul_le_mul_of_nonneg_right hq h3
  omega
theorem knuth_prod {yn0 q : Int} (h3 : 0 ≤ yn0) (h4 : yn0 < 4294967296) (hq0 : 0 ≤ q) (hq : q < 4294967296) : 0 ≤ q * yn0 ∧ q * yn0 ≤ 18446744065119617025 := by
  refine ⟨Int.mul_nonneg hq0 h3, ?_⟩
  have a1 : q * yn0 ≤ 4294967295 * yn0 := Int.mul_le_mul_of_nonneg_right (by omega) h3
  omega
theorem knuth_less {yn1 u q r : Int} (hq : q * yn1 + r = u) : (q - 1) * yn1 + (r + yn1) = u := by rw [Int.sub_mul, Int.one_mul]; omega
/-- The rest, modulo 2^64 all the way. -/
theorem knuth_rest {x u y u1 Q : Int} (hx : x = u * 4294967296 + u1) (hQ : Q = x / y) (hy0 : 0 < y) (hy1 : y < 18446744073709551616) :
    ((u * 4294967296 % 18446744073709551616 + u1) % 18446744073709551616 - Q * y % 18446744073709551616) % 18446744073709551616 = x % y := by
  have e := Int.mul_ediv_add_emod x y
  have m0 := Int.emod_nonneg x (show y ≠ 0 by omega)
  have m1 := Int.emod_lt_of_pos x hy0
  rw [Int.mul_comm, ← hQ] at e
  generalize Q * y = p at *
  generalize x % y = m at *
  omega
/-- Both digits make the quotient. -/
theorem knuth_both {U y u32 u1 u0 Q1 Q0 m : Int} (hU : U = (u32 * 4294967296 + u1) * 4294967296 + u0) (hy : 0 < y) (h0 : 0 ≤ u0) (h1 : u0 < 4294967296) (hQ1 : Q1 = (u32 * 4294967296 + u1) / y) (hm : m = (u32 * 4294967296 + u1) % y)
    (hQ0 : Q0 = (m * 4294967296 + u0) / y) : Q1 * 4294967296 + Q0 = U / y ∧ (m * 4294967296 + u0) % y = U % y := by
  have e := Int.mul_ediv_add_emod (u32 * 4294967296 + u1) y
  rw [← hQ1, ← hm] at e
  have e2 : U = m * 4294967296 + u0 + y * (Q1 * 4294967296) := by rw [hU, ← e, ← Int.mul_assoc]; omega
  rw [e2, Int.add_mul_ediv_left _ _ (show y ≠ 0 by omega), ← hQ0, Int.add_mul_emod_self_left]
  exact ⟨by omega, rfl⟩
theorem shift_div {u y k : Int} (hk : 0 < k) (hy : 0 < y) : u * k / (y * k) = u / y ∧ u * k % (y * k) / k = u % y := by
  refine ⟨Int.mul_ediv_mul_of_pos_left _ _ hk, ?_⟩
  rw [Int.mul_comm u k, Int.mul_comm y k, Int.mul_emod_mul_of_pos _ _ hk]
  exact Int.mul_ediv_cancel_left _ (by omega)


theorem bitLen_pos {y : Nat} (h : 1 ≤ y) : 1 ≤ Lib.bitLen y := by
  unfold Lib.bitLen Lib.bitLenAux
  rw [if_neg (by omega)]
  omega
/-- The highest bit, shifted up, is the word's highest. -/
theorem bitLen_bounds : ∀ (k y : Nat), Lib.bitLen y = k → 1 ≤ y → y < 2 ^ 64 → 2 ^ (k - 1) ≤ y ∧ y < 2 ^ k := by
  intro k
  induction k with
  | zero => intro y h h1 _; have := bitLen_pos h1; omega
  | succ k ih =>
    intro y h h1 h2
    have e := Lib.bitLen_half y (by omega) h2
    rcases Nat.lt_or_ge y 2 with h3 | h3
    · have : y = 1 := by omega
      subst this
      rw [show Lib.bitLen 1 = 1 by decide] at h
      have : k = 0 := by omega
      subst this
      decide
    · have h4 := ih (y / 2) (by omega) (by omega) (by omega)
      have hk : 1 ≤ k := by
        have := bitLen_pos (show 1 ≤ y / 2 by omega)
        omega
      have e1 : 2 ^ (k + 1) = 2 * 2 ^ k := by rw [Nat.pow_succ]; omega
      have e2 : 2 ^ (k + 1 - 1) = 2 * 2 ^ (k - 1) := by rw [Nat.add_sub_cancel, show k = (k - 1) + 1 by omega, Nat.pow_succ, Nat.add_sub_cancel]; omega
      rw [e1, e2]
      omega

end Go.Proofs.Ytgfajfepmflfhaa
