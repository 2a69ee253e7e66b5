import Derived.Test.YtogcjgjhmlifgaaGreatOAC
import Derived.Lib.BitFns
import Derived.Lib.Strings
import Derived.Lib.Slices
import Derived.Lib.Small
import Derived.Lib.Walk
import Derived.Deep.Light
import Derived.Handy
import Derived.Outline
import Derived.Deep.CutBlock
import Derived.Deep.DeepCutAuto
namespace Go.Proofs.YtogcjgjhmlifgaaGreat
set_option linter.unusedVariables false
set_option linter.unusedSimpArgs false
section
theorem knuth_init {x u y yn1 yn0 u1 Q : Int} (hy : y = yn1 * 4294967296 + yn0) (h1 : 2147483648 ≤ yn1) (h2 : yn1 < 4294967296) (h3 : 0 ≤ yn0) (h4 : yn0 < 4294967296)
    (hu : 0 ≤ u) (huy : u < y) (k0 : 0 ≤ u1) (k1 : u1 < 4294967296) (hx : x = u * 4294967296 + u1) (hQ : Q = x / y) :
    0 ≤ u / yn1 ∧ u / yn1 ≤ 4294967297 ∧ u / yn1 * yn1 + u % yn1 = u ∧ 0 ≤ u % yn1 ∧ u % yn1 < 4294967296 ∧ 0 ≤ Q ∧ Q < 4294967296 ∧ Q ≤ u / yn1 := by
  have e := Int.mul_ediv_add_emod u yn1
  have m0 := Int.emod_nonneg u (show yn1 ≠ 0 by omega)
  have m1 := Int.emod_lt_of_pos u (show 0 < yn1 by omega)
  have q0 : 0 ≤ u / yn1 := Int.ediv_nonneg hu (by omega)
  have q1 : u / yn1 ≤ 4294967297 := by
    have : u / yn1 < 4294967298 := Int.ediv_lt_of_lt_mul (by omega) (by omega)
    omega
  have Q0 : 0 ≤ Q := by rw [hQ]; exact Int.ediv_nonneg (by omega) (by omega)
  have Q1 : Q < 4294967296 := by rw [hQ]; exact Int.ediv_lt_of_lt_mul (by omega) (by omega)
  refine ⟨q0, q1, by rw [Int.mul_comm]; exact e, m0, by omega, Q0, Q1, ?_⟩
  have hQy : Q * y ≤ x := by rw [hQ]; exact Int.ediv_mul_le x (by omega)
  rcases Int.lt_or_le (u / yn1) Q with h | h
  · exfalso
    have a1 : (u / yn1 + 1) * y ≤ Q * y := Int.mul_le_mul_of_nonneg_right (by omega) (by omega)
    have a2 : (u / yn1 + 1) * y = (u / yn1 + 1) * yn1 * 4294967296 + (u / yn1 + 1) * yn0 := by rw [hy, Int.mul_add, Int.mul_assoc]
    have a3 : (u / yn1 + 1) * yn1 = u / yn1 * yn1 + yn1 := by rw [Int.add_mul, Int.one_mul]
    have a4 : 0 ≤ (u / yn1 + 1) * yn0 := Int.mul_nonneg (by omega) h3
    rw [Int.mul_comm] at e
    omega
  · exact h
theorem knuth_large {x u y yn1 yn0 u1 Q q r : Int} (hy : y = yn1 * 4294967296 + yn0) (hy0 : 0 < y) (hx : x = u * 4294967296 + u1) (hQ : Q = x / y) (hq : q * yn1 + r = u) (hQ1 : Q < 4294967296)
    (h : 4294967296 ≤ q ∨ r * 4294967296 + u1 < q * yn0) : Q < q := by
  rcases h with h | h
  · omega
  · have a2 : q * y = q * yn1 * 4294967296 + q * yn0 := by rw [hy, Int.mul_add, Int.mul_assoc]
    rw [hQ]
    exact Int.ediv_lt_of_lt_mul hy0 (by omega)
theorem knuth_right {x u y yn1 yn0 u1 Q q r : Int} (hy : y = yn1 * 4294967296 + yn0) (hy0 : 0 < y) (hx : x = u * 4294967296 + u1) (hQ : Q = x / y) (hq : q * yn1 + r = u) (hQq : Q ≤ q)
    (h : q * yn0 ≤ r * 4294967296 + u1) : q = Q := by
  have a2 : q * y = q * yn1 * 4294967296 + q * yn0 := by rw [hy, Int.mul_add, Int.mul_assoc]
  have : q ≤ Q := by rw [hQ]; exact (Int.le_ediv_iff_mul_le hy0).2 (by omega)
  omega
theorem knuth_break {yn0 u1 q r : Int} (h3 : 0 ≤ yn0) (h4 : yn0 < 4294967296) (k0 : 0 ≤ u1) (hq0 : 0 ≤ q) (hq : q ≤ 4294967296) (hr : 4294967296 ≤ r) : q * yn0 ≤ r * 4294967296 + u1 := by
  have a1 : q * yn0 ≤ 4294967296 * yn0 := Int.mul_le_mul_of_nonneg_right hq h3
  omega
theorem knuth_prod {yn0 q : Int} (h3 : 0 ≤ yn0) (h4 : yn0 < 4294967296) (hq0 : 0 ≤ q) (hq : q < 4294967296) : 0 ≤ q * yn0 ∧ q * yn0 ≤ 18446744065119617025 := by
  refine ⟨Int.mul_nonneg hq0 h3, ?_⟩
  have a1 : q * yn0 ≤ 4294967295 * yn0 := Int.mul_le_mul_of_nonneg_right (by omega) h3
  omega
theorem knuth_less {yn1 u q r : Int} (hq : q * yn1 + r = u) : (q - 1) * yn1 + (r + yn1) = u := by rw [Int.sub_mul, Int.one_mul]; omega
theorem knuth_rest {x u y u1 Q : Int} (hx : x = u * 4294967296 + u1) (hQ : Q = x / y) (hy0 : 0 < y) (hy1 : y < 18446744073709551616) :
    ((u * 4294967296 % 18446744073709551616 + u1) % 18446744073709551616 - Q * y % 18446744073709551616) % 18446744073709551616 = x % y := by
  have e := Int.mul_ediv_add_emod x y
  have m0 := Int.emod_nonneg x (show y ≠ 0 by omega)
  have m1 := Int.emod_lt_of_pos x hy0
  rw [Int.mul_comm, ← hQ] at e
  generalize Q * y = p at *
  generalize x % y = m at *
  omega
theorem knuth_both {U y u32 u1 u0 Q1 Q0 m : Int} (hU : U = (u32 * 4294967296 + u1) * 4294967296 + u0) (hy : 0 < y) (h0 : 0 ≤ u0) (h1 : u0 < 4294967296) (hQ1 : Q1 = (u32 * 4294967296 + u1) / y) (hm : m = (u32 * 4294967296 + u1) % y)
    (hQ0 : Q0 = (m * 4294967296 + u0) / y) : Q1 * 4294967296 + Q0 = U / y ∧ (m * 4294967296 + u0) % y = U % y := by
  have e := Int.mul_ediv_add_emod (u32 * 4294967296 + u1) y
  rw [← hQ1, ← hm] at e
  have e2 : U = m * 4294967296 + u0 + y * (Q1 * 4294967296) := by rw [hU, ← e, ← Int.mul_assoc]; omega
  rw [e2, Int.add_mul_ediv_left _ _ (show y ≠ 0 by omega), ← hQ0, Int.add_mul_emod_self_left]
  exact ⟨by omega, rfl⟩
theorem shift_div {u y k : Int} (hk : 0 < k) (hy : 0 < y) : u * k / (y * k) = u / y ∧ u * k % (y * k) / k = u % y := by
  refine ⟨Int.mul_ediv_mul_of_pos_left _ _ hk, ?_⟩
  rw [Int.mul_comm u k, Int.mul_comm y k, Int.mul_emod_mul_of_pos _ _ hk]
  exact Int.mul_ediv_cancel_left _ (by omega)
theorem bitLen_pos {y : Nat} (h : 1 ≤ y) : 1 ≤ Lib.bitLen y := by
  unfold Lib.bitLen Lib.bitLenAux
  rw [if_neg (by omega)]
  omega
theorem bitLen_bounds : ∀ (k y : Nat), Lib.bitLen y = k → 1 ≤ y → y < 2 ^ 64 → 2 ^ (k - 1) ≤ y ∧ y < 2 ^ k := by
  intro k
  induction k with
  | zero => intro y h h1 _; have := bitLen_pos h1; omega
  | succ k ih =>
    intro y h h1 h2
    have e := Lib.bitLen_half y (by omega) h2
    rcases Nat.lt_or_ge y 2 with h3 | h3
    · have : y = 1 := by omega
      subst this
      rw [show Lib.bitLen 1 = 1 by decide] at h
      have : k = 0 := by omega
      subst this
      decide
    · have h4 := ih (y / 2) (by omega) (by omega) (by omega)
      have hk : 1 ≤ k := by
        have := bitLen_pos (show 1 ≤ y / 2 by omega)
        omega
      have e1 : 2 ^ (k + 1) = 2 * 2 ^ k := by rw [Nat.pow_succ]; omega
      have e2 : 2 ^ (k + 1 - 1) = 2 * 2 ^ (k - 1) := by rw [Nat.add_sub_cancel, show k = (k - 1) + 1 by omega, Nat.pow_succ, Nat.add_sub_cancel]; omega
      rw [e1, e2]
      omega
end
section
open Go.RowKit Go.Proofs.Mul64
theorem len8tab_256 : (Lib.len8tab.size : Int) = 256 := by
  have : Lib.len8tab.size = 256 := Lib.len8tab_size
  omega
theorem len_wrap2 (k a b : Nat) (hk : k ≤ 56) (ha : a ≤ 8) (hb : b = k + a) : wrap64 ((k : Int) + wrap64 (a : Int)) = (b : Int) := by
  unfold wrap64
  omega
theorem len_wrap1 (a : Nat) (ha : a ≤ 8) : wrap64 (wrap64 (a : Int)) = (a : Int) := by
  unfold wrap64
  omega
theorem len8_at (y : Int) (h : y.toNat < Lib.len8tab.size) : ((Lib.len8tab[y.toNat]'h).toNat : Int) = Lib.len8 y := by
  unfold Lib.len8
  rw [getElem?_pos Lib.len8tab y.toNat h]
  rfl
set_option maxHeartbeats 8000000 in
set_option maxRecDepth 1000000 in
theorem len64_any (x : Int) (w : World) (h0 : 1 ≤ x) (h1 : x ≤ 1000000000000000000) :
    Calls Tryz.prog 184 #[.int .u64 x] w fun e w' => e = .returned (.int .i64 (Lib.bitLen x.toNat)) ∧ w = w' := by
  go_enter Tryz.func184, Tryz.ntmps184
  go_wp2
  all_goals first
    | (go_ret; refine ⟨congrArg Ending.returned (congrArg (Value.int IntKind.i64) ?_), rfl⟩; go_light)
    | (exfalso
       go_light
       have hs := len8tab_256
       omega)
  all_goals first
    | (rw [len8_at (x / 4294967296 / 65536 / 256) _, Lib.len8_of (x / 4294967296 / 65536 / 256) (by omega) (by omega)]
       have e : (x / 4294967296 / 65536 / 256).toNat = x.toNat / 72057594037927936 := by omega
       have l := Lib.bitLen_le8' (x / 4294967296 / 65536 / 256) (by omega) (by omega)
       have s := Lib.bitLen_shift56 x.toNat (by omega) (by omega)
       rw [e] at l ⊢
       exact len_wrap2 56 _ _ (by decide) l s)
    | (rw [len8_at (x / 4294967296 / 65536) _, Lib.len8_of (x / 4294967296 / 65536) (by omega) (by omega)]
       have e : (x / 4294967296 / 65536).toNat = x.toNat / 281474976710656 := by omega
       have l := Lib.bitLen_le8' (x / 4294967296 / 65536) (by omega) (by omega)
       have s := Lib.bitLen_shift48 x.toNat (by omega) (by omega)
       rw [e] at l ⊢
       exact len_wrap2 48 _ _ (by decide) l s)
    | (rw [len8_at (x / 4294967296 / 256) _, Lib.len8_of (x / 4294967296 / 256) (by omega) (by omega)]
       have e : (x / 4294967296 / 256).toNat = x.toNat / 1099511627776 := by omega
       have l := Lib.bitLen_le8' (x / 4294967296 / 256) (by omega) (by omega)
       have s := Lib.bitLen_shift40 x.toNat (by omega) (by omega)
       rw [e] at l ⊢
       exact len_wrap2 40 _ _ (by decide) l s)
    | (rw [len8_at (x / 4294967296) _, Lib.len8_of (x / 4294967296) (by omega) (by omega)]
       have e : (x / 4294967296).toNat = x.toNat / 4294967296 := by omega
       have l := Lib.bitLen_le8' (x / 4294967296) (by omega) (by omega)
       have s := Lib.bitLen_shift32 x.toNat (by omega) (by omega)
       rw [e] at l ⊢
       exact len_wrap2 32 _ _ (by decide) l s)
    | (rw [len8_at (x / 65536 / 256) _, Lib.len8_of (x / 65536 / 256) (by omega) (by omega)]
       have e : (x / 65536 / 256).toNat = x.toNat / 16777216 := by omega
       have l := Lib.bitLen_le8' (x / 65536 / 256) (by omega) (by omega)
       have s := Lib.bitLen_shift24 x.toNat (by omega) (by omega)
       rw [e] at l ⊢
       exact len_wrap2 24 _ _ (by decide) l s)
    | (rw [len8_at (x / 65536) _, Lib.len8_of (x / 65536) (by omega) (by omega)]
       have e : (x / 65536).toNat = x.toNat / 65536 := by omega
       have l := Lib.bitLen_le8' (x / 65536) (by omega) (by omega)
       have s := Lib.bitLen_shift16 x.toNat (by omega) (by omega)
       rw [e] at l ⊢
       exact len_wrap2 16 _ _ (by decide) l s)
    | (rw [len8_at (x / 256) _, Lib.len8_of (x / 256) (by omega) (by omega)]
       have e : (x / 256).toNat = x.toNat / 256 := by omega
       have l := Lib.bitLen_le8' (x / 256) (by omega) (by omega)
       have s := Lib.bitLen_shift8 x.toNat (by omega) (by omega)
       rw [e] at l ⊢
       exact len_wrap2 8 _ _ (by decide) l s)
    | (rw [len8_at x _, Lib.len8_of x (by omega) (by omega)]
       exact len_wrap1 _ (Lib.bitLen_le8' x (by omega) (by omega)))
def nlz (y : Int) : Nat := 64 - Lib.bitLen y.toNat
theorem nlz_bounds {y : Int} (h0 : 1 ≤ y) (h1 : y ≤ 1000000000000000000) : 4 ≤ nlz y ∧ nlz y ≤ 63 := by
  have h := bitLen_pos (y := y.toNat) (by omega)
  have h2 := Lib.bitLen_le y.toNat 60 (by decide) (by omega)
  unfold nlz
  omega
theorem nlz_high {y : Int} (h0 : 1 ≤ y) (h1 : y ≤ 1000000000000000000) : 9223372036854775808 ≤ y * 2 ^ nlz y ∧ y * 2 ^ nlz y < 18446744073709551616 := by
  have h := bitLen_pos (y := y.toNat) (by omega)
  have h2 := Lib.bitLen_le y.toNat 60 (by decide) (by omega)
  obtain ⟨b1, b2⟩ := bitLen_bounds _ y.toNat rfl (by omega) (by omega)
  unfold nlz
  generalize Lib.bitLen y.toNat = k at *
  have e1 : 2 ^ (k - 1) * 2 ^ (64 - k) = (2 : Nat) ^ 63 := by rw [← Nat.pow_add]; congr 1; omega
  have e2 : 2 ^ k * 2 ^ (64 - k) = (2 : Nat) ^ 64 := by rw [← Nat.pow_add]; congr 1; omega
  have g1 := Nat.mul_le_mul_right (2 ^ (64 - k)) b1
  have g2 := Nat.mul_lt_mul_of_pos_right b2 (Nat.two_pow_pos (64 - k))
  rw [e1] at g1
  rw [e2] at g2
  have e3 : ((y.toNat * 2 ^ (64 - k) : Nat) : Int) = y * 2 ^ (64 - k) := by
    rw [Int.natCast_mul, Int.toNat_of_nonneg (by omega)]
    congr 1
  omega
set_option maxHeartbeats 1000000 in
theorem lz64_any (x : Int) (w : World) (h0 : 1 ≤ x) (h1 : x ≤ 1000000000000000000) :
    Calls Tryz.prog 182 #[.int .u64 x] w fun e w' => e = .returned (.int .i64 (nlz x)) ∧ w = w' := by
  have hb := nlz_bounds h0 h1
  have hn : (nlz x : Int) = 64 - (Lib.bitLen x.toNat : Int) := by unfold nlz at *; omega
  have HN := Lib.hid hn
  have hk0 : (0 : Int) ≤ (Lib.bitLen x.toNat : Int) := by omega
  have hk1 : (Lib.bitLen x.toNat : Int) ≤ 60 := by omega
  clear hn hb
  go_enter Tryz.func182, Tryz.ntmps182
  go_wp2_with (go_at_call 184; refine (len64_any _ _ h0 h1).mono ?_; rintro e w1 ⟨rfl, rfl⟩)
  go_ret
  exact ⟨by rw [HN.out]; rfl, rfl⟩
theorem or_low (a b K : Int) (s : Nat) (hK : K = 2 ^ s) (ha : 0 ≤ a) (hb : 0 ≤ b) (hbK : b < K) (hM : a * K + b < 18446744073709551616) : bits .or .u64 (a * K) b = a * K + b := by
  obtain ⟨n, rfl⟩ := Int.eq_ofNat_of_zero_le ha
  obtain ⟨m, rfl⟩ := Int.eq_ofNat_of_zero_le hb
  have e : (n : Int) * K = ((2 ^ s * n : Nat) : Int) := by rw [hK, Int.natCast_mul, Int.mul_comm]; congr 1
  have hm : m < 2 ^ s := by
    have : ((2 ^ s : Nat) : Int) = K := by rw [hK]; exact Int.natCast_pow 2 s
    omega
  rw [e] at hM ⊢
  rw [bits_or_u64_nat _ _ (by omega) (by omega), ← Nat.two_pow_add_eq_or_of_lt hm n, Int.natCast_add]
theorem div64_shift {h l y : Int} (h0 : 0 ≤ h) (h1 : h < y) (l0 : 0 ≤ l) (l1 : l < 18446744073709551616) (y0 : 1 ≤ y) (y1 : y ≤ 1000000000000000000) :
    ∃ Y u32 u10 : Int, IntKind.u64.wrap (y * 2 ^ nlz y) = Y ∧ bits .or .u64 (IntKind.u64.wrap (h * 2 ^ nlz y)) (l / 2 ^ (64 - nlz y)) = u32 ∧ IntKind.u64.wrap (l * 2 ^ nlz y) = u10 ∧
      9223372036854775808 ≤ Y ∧ Y < 18446744073709551616 ∧ 0 ≤ u32 ∧ u32 < Y ∧ 0 ≤ u10 ∧ u10 < 18446744073709551616 ∧ (u32 * 18446744073709551616 + u10) / Y = (h * 18446744073709551616 + l) / y ∧
      (u32 * 18446744073709551616 + u10) % Y / 2 ^ nlz y = (h * 18446744073709551616 + l) % y := by
  have n0 := (nlz_bounds y0 y1).1
  have n1 := (nlz_bounds y0 y1).2
  obtain ⟨b1, b2⟩ := nlz_high y0 y1
  generalize nlz y = s at *
  obtain ⟨K, hK⟩ : ∃ K : Int, K = 2 ^ s := ⟨_, rfl⟩
  obtain ⟨J, hJ⟩ : ∃ J : Int, J = 2 ^ (64 - s) := ⟨_, rfl⟩
  rw [← hK] at b1 b2
  have hKJ : K * J = 18446744073709551616 := by
    rw [hK, hJ, ← Int.pow_add, show s + (64 - s) = 64 by omega]
    decide
  have K0 : 0 < K := by rw [hK]; exact Int.pow_pos (by decide)
  have J0 : 0 < J := by rw [hJ]; exact Int.pow_pos (by decide)
  have e0 : l / J = l * K / 18446744073709551616 := by
    rw [← hKJ, Int.mul_comm K J, Int.mul_ediv_mul_of_pos_left _ _ K0]
  have q0 : 0 ≤ l / J := Int.ediv_nonneg l0 (by omega)
  have q1 : l / J < K := Int.ediv_lt_of_lt_mul J0 (by omega)
  have hy : (h + 1) * K ≤ y * K := Int.mul_le_mul_of_nonneg_right (by omega) (by omega)
  rw [Int.add_mul, Int.one_mul] at hy
  have hh : 0 ≤ h * K := Int.mul_nonneg h0 (by omega)
  have em := Int.mul_ediv_add_emod (l * K) 18446744073709551616
  have m0 := Int.emod_nonneg (l * K) (show (18446744073709551616 : Int) ≠ 0 by decide)
  have m1 := Int.emod_lt_of_pos (l * K) (show (0 : Int) < 18446744073709551616 by decide)
  have eU : (h * K + l / J) * 18446744073709551616 + l * K % 18446744073709551616 = (h * 18446744073709551616 + l) * K := by
    rw [Int.add_mul (h * 18446744073709551616), Int.mul_assoc, Int.mul_comm 18446744073709551616 K, ← Int.mul_assoc, e0]
    omega
  refine ⟨y * K, h * K + l / J, l * K % 18446744073709551616, ?_, ?_, ?_, b1, b2, by omega, by omega, m0, m1, ?_, ?_⟩
  · rw [← hK, IntKind.wrap_u64]; omega
  · rw [← hK, ← hJ, IntKind.wrap_u64, Int.emod_eq_of_lt hh (by omega)]
    exact or_low h (l / J) K s hK h0 q0 q1 (by omega)
  · rw [← hK, IntKind.wrap_u64]
  · rw [eU]; exact (shift_div K0 (by omega)).1
  · rw [eU, ← hK]; exact (shift_div K0 (by omega)).2
set_option maxHeartbeats 8000000 in
set_option maxRecDepth 1000000 in
theorem div64_walk (h l y : Int) (w : World) (h0 : 1 ≤ h) (h1 : h < y) (l0 : 0 ≤ l) (l1 : l < 18446744073709551616) (y0 : 1 ≤ y) (y1 : y ≤ 1000000000000000000) :
    Calls Tryz.prog 175 #[.int .u64 h, .int .u64 l, .int .u64 y] w (DivR (.tuple #[.int .u64 ((h * 18446744073709551616 + l) / y), .int .u64 ((h * 18446744073709551616 + l) % y)]) w) := by
  have n0 := (nlz_bounds y0 y1).1
  have n1 := (nlz_bounds y0 y1).2
  obtain ⟨Y, u32, u10, eY, eU, eL, Y0, Y1, U0, U1, L0, L1, eQ, eR⟩ := div64_shift (h := h) (by omega) h1 l0 l1 y0 y1
  obtain ⟨yn1, eY1⟩ : ∃ x, Y / 4294967296 = x := ⟨_, rfl⟩
  obtain ⟨yn0, eY0⟩ : ∃ x, bits .and .u64 Y 4294967295 = x := ⟨_, rfl⟩
  obtain ⟨un1, eL1⟩ : ∃ x, u10 / 4294967296 = x := ⟨_, rfl⟩
  obtain ⟨un0, eL0⟩ : ∃ x, bits .and .u64 u10 4294967295 = x := ⟨_, rfl⟩
  have mask : ∀ a : Int, 0 ≤ a → a < 18446744073709551616 → bits .and .u64 a 4294967295 = a % 4294967296 := fun a ha hb => by
    obtain ⟨n, rfl⟩ := Int.eq_ofNat_of_zero_le ha
    rw [Mul64.maskN n (by omega)]
    omega
  have fY0 : Y % 4294967296 = yn0 := by rw [← eY0, mask Y (by omega) Y1]
  have fL0 : u10 % 4294967296 = un0 := by rw [← eL0, mask u10 L0 L1]
  have HY := Lib.hid (show Y = yn1 * 4294967296 + yn0 by omega)
  have HU := Lib.hid (show u10 = un1 * 4294967296 + un0 by omega)
  have HQ := Lib.hid eQ
  have HR := Lib.hid eR
  have yb : 2147483648 ≤ yn1 ∧ yn1 < 4294967296 ∧ 0 ≤ yn0 ∧ yn0 < 4294967296 ∧ 0 ≤ un1 ∧ un1 < 4294967296 ∧ 0 ≤ un0 ∧ un0 < 4294967296 := by omega
  obtain ⟨yb1, yb2, yb3, yb4, yb5, yb6, yb7, yb8⟩ := yb
  obtain ⟨Q1, eQ1⟩ : ∃ x, (u32 * 4294967296 + un1) / Y = x := ⟨_, rfl⟩
  obtain ⟨m1, eM1⟩ : ∃ x, (u32 * 4294967296 + un1) % Y = x := ⟨_, rfl⟩
  obtain ⟨Q0, eQ0⟩ : ∃ x, (m1 * 4294967296 + un0) / Y = x := ⟨_, rfl⟩
  have KQ1 := Lib.hid eQ1.symm
  have KQ0 := Lib.hid eQ0.symm
  have KI1 := Lib.hid (knuth_init HY.out yb1 yb2 yb3 yb4 U0 U1 yb5 yb6 rfl eQ1.symm)
  have m1b : 0 ≤ m1 ∧ m1 < Y := by rw [← eM1]; exact ⟨Int.emod_nonneg _ (by omega), Int.emod_lt_of_pos _ (by omega)⟩
  obtain ⟨mb1, mb2⟩ := m1b
  have KI0 := Lib.hid (knuth_init HY.out yb1 yb2 yb3 yb4 mb1 mb2 yb7 yb8 rfl eQ0.symm)
  have eX1 := knuth_rest (x := u32 * 4294967296 + un1) (u1 := un1) rfl eQ1.symm (show 0 < Y by omega) Y1
  have eX0 := knuth_rest (x := m1 * 4294967296 + un0) (u1 := un0) rfl eQ0.symm (show 0 < Y by omega) Y1
  obtain ⟨eB1, eB0⟩ := knuth_both (U := u32 * 18446744073709551616 + u10) (u32 := u32) (u1 := un1) (u0 := un0) (m := m1) (Q1 := Q1) (Q0 := Q0) (by rw [HU.out]; omega) (show 0 < Y by omega) yb7 yb8 eQ1.symm eM1.symm eQ0.symm
  rw [eM1, ← IntKind.wrap_u64, ← IntKind.wrap_u64, ← IntKind.wrap_u64, ← IntKind.wrap_u64] at eX1
  rw [eB0, ← IntKind.wrap_u64, ← IntKind.wrap_u64, ← IntKind.wrap_u64, ← IntKind.wrap_u64] at eX0
  have X1 := Lib.hid eX1
  have X0 := Lib.hid eX0
  have HB1 := Lib.hid eB1
  clear mask fY0 fL0 eQ eR eQ1 eM1 eQ0 eX1 eX0 eB1 eB0
  go_enter Tryz.func175, Tryz.ntmps175
  go_upto_region 15 with (go_at_call 182; refine (lz64_any _ _ y0 y1).mono ?_; rintro e w1 ⟨rfl, rfl⟩)
  have hq0 := KI1.out.1
  have hqe := Int.mul_ediv_add_emod u32 yn1
  have hqm := KI1.out.2.2.2.1
  have hq1 : u32 / yn1 * yn1 = u32 - u32 % yn1 := by rw [Int.mul_comm]; omega
  have hr1 : u32 - u32 / yn1 * yn1 = u32 % yn1 := by omega
  have hq2 : 0 ≤ u32 / yn1 * yn1 := Int.mul_nonneg hq0 (by omega)
  have hq3 : u32 / yn1 * yn1 ≤ u32 := by omega
  have HR1 := Lib.hid hr1
  clear hr1 hq1 hqe hqm
  go_upto_block 0 with fail
  rw [HR1.out]
  go_cut [15] (fun s15 wx => s15 = .int .u64 Q1 ∧ w = wx)
  case first =>
    have hk := KI1.out
    obtain ⟨i0, i1, i2, i3, i4, i5, i6, i7⟩ := hk
    have HI2 := Lib.hid i2
    clear i2
    go_wp2_with fail
    go_loop [15, 16] (fun sq sr => ∃ q r : Int, sq = .int .u64 q ∧ sr = .int .u64 r ∧ Q1 ≤ q ∧ 0 ≤ r ∧ r < 4294967296 ∧ q * yn1 + r = u32 ∧ q ≤ 4294967297) (fun sq _ => (intOf sq).toNat)
    case atStart => exact ⟨_, _, rfl, rfl, i7, i3, i4, HI2.out, i1⟩
    case round =>
      obtain ⟨q, r, rfl, rfl, g1, g2, g3, g4, g5⟩ := hrel
      have HR := Lib.hid g4
      clear g4
      by_cases hl : 4294967296 ≤ q
      · have hlt : Q1 < q := by omega
        by_cases hr : 4294967296 ≤ r + yn1
        · have HE := Lib.hid (show q - 1 = Q1 from knuth_right HY.out (by omega) rfl KQ1.out (knuth_less HR.out) (by omega) (knuth_break (by omega) (by omega) (by omega) (by omega) (by omega) hr))
          go_wp2
          go_meet
          exact ⟨by rw [HE.out], rfl⟩
        · have HL := Lib.hid (knuth_less HR.out)
          go_wp2
          go_round
          case rel => exact ⟨q - 1, r + yn1, rfl, rfl, by omega, by omega, by omega, HL.out, by omega⟩
          case measure => first | (simp [intOf]; done) | (simp [intOf]; omega)
      · obtain ⟨p0, p1⟩ := knuth_prod (yn0 := yn0) (q := q) (by omega) (by omega) (by omega) (by omega)
        by_cases hp : r * 4294967296 + un1 < q * yn0
        · have hlt : Q1 < q := knuth_large HY.out (by omega) rfl KQ1.out HR.out i6 (.inr hp)
          have hp' : 4294967296 * r + un1 < q * yn0 := by omega
          by_cases hr : 4294967296 ≤ r + yn1
          · have HE := Lib.hid (show q - 1 = Q1 from knuth_right HY.out (by omega) rfl KQ1.out (knuth_less HR.out) (by omega) (knuth_break (by omega) (by omega) (by omega) (by omega) (by omega) hr))
            go_wp2
            go_meet
            exact ⟨by rw [HE.out], rfl⟩
          · have HL := Lib.hid (knuth_less HR.out)
            go_wp2
            go_round
            case rel => exact ⟨q - 1, r + yn1, rfl, rfl, by omega, by omega, by omega, HL.out, by omega⟩
            case measure => first | (simp [intOf]; done) | (simp [intOf]; omega)
        · have HE := Lib.hid (show q = Q1 from knuth_right HY.out (by omega) rfl KQ1.out HR.out g1 (by omega))
          have hp' : q * yn0 ≤ 4294967296 * r + un1 := by omega
          go_wp2
          go_meet
          exact ⟨by rw [HE.out], rfl⟩
  case rest =>
    obtain ⟨rfl, rfl⟩ := hcut
    have E1 := X1.out
    have j0 := KI0.out.1
    have j1 : 0 ≤ m1 / yn1 * yn1 := Int.mul_nonneg j0 (by omega)
    have j2 : m1 / yn1 * yn1 ≤ m1 := by have := KI0.out.2.2; omega
    have j3 : m1 - m1 / yn1 * yn1 = m1 % yn1 := by have := KI0.out.2.2; omega
    have HJ := Lib.hid j3
    clear j3
    go_upto_block 2 with fail
    rw [HJ.out]
    go_cut [18] (fun s18 wx => s18 = .int .u64 Q0 ∧ w = wx)
    case first =>
      have hk := KI0.out
      obtain ⟨i0, i1, i2, i3, i4, i5, i6, i7⟩ := hk
      have HI2 := Lib.hid i2
      clear i2
      go_wp2_with fail
      go_loop [18, 16] (fun sq sr => ∃ q r : Int, sq = .int .u64 q ∧ sr = .int .u64 r ∧ Q0 ≤ q ∧ 0 ≤ r ∧ r < 4294967296 ∧ q * yn1 + r = m1 ∧ q ≤ 4294967297) (fun sq _ => (intOf sq).toNat)
      case atStart => exact ⟨_, _, rfl, rfl, i7, i3, i4, HI2.out, i1⟩
      case round =>
        obtain ⟨q, r, rfl, rfl, g1, g2, g3, g4, g5⟩ := hrel
        have HR := Lib.hid g4
        clear g4
        by_cases hl : 4294967296 ≤ q
        · have hlt : Q0 < q := by omega
          by_cases hr : 4294967296 ≤ r + yn1
          · have HE := Lib.hid (show q - 1 = Q0 from knuth_right HY.out (by omega) rfl KQ0.out (knuth_less HR.out) (by omega) (knuth_break (by omega) (by omega) (by omega) (by omega) (by omega) hr))
            go_wp2
            go_meet
            exact ⟨by rw [HE.out], rfl⟩
          · have HL := Lib.hid (knuth_less HR.out)
            go_wp2
            go_round
            case rel => exact ⟨q - 1, r + yn1, rfl, rfl, by omega, by omega, by omega, HL.out, by omega⟩
            case measure => first | (simp [intOf]; done) | (simp [intOf]; omega)
        · obtain ⟨p0, p1⟩ := knuth_prod (yn0 := yn0) (q := q) (by omega) (by omega) (by omega) (by omega)
          by_cases hp : r * 4294967296 + un0 < q * yn0
          · have hlt : Q0 < q := knuth_large HY.out (by omega) rfl KQ0.out HR.out i6 (.inr hp)
            have hp' : 4294967296 * r + un0 < q * yn0 := by omega
            by_cases hr : 4294967296 ≤ r + yn1
            · have HE := Lib.hid (show q - 1 = Q0 from knuth_right HY.out (by omega) rfl KQ0.out (knuth_less HR.out) (by omega) (knuth_break (by omega) (by omega) (by omega) (by omega) (by omega) hr))
              go_wp2
              go_meet
              exact ⟨by rw [HE.out], rfl⟩
            · have HL := Lib.hid (knuth_less HR.out)
              go_wp2
              go_round
              case rel => exact ⟨q - 1, r + yn1, rfl, rfl, by omega, by omega, by omega, HL.out, by omega⟩
              case measure => first | (simp [intOf]; done) | (simp [intOf]; omega)
          · have HE := Lib.hid (show q = Q0 from knuth_right HY.out (by omega) rfl KQ0.out HR.out g1 (by omega))
            have hp' : q * yn0 ≤ 4294967296 * r + un0 := by omega
            go_wp2
            go_meet
            exact ⟨by rw [HE.out], rfl⟩
    case rest =>
      obtain ⟨rfl, rfl⟩ := hcut
      have E0 := X0.out
      have F0 := HR.out
      have F1 := HB1.out
      have F2 := HQ.out
      have q1b := KI1.out.2.2.2.2.2
      have q0b := KI0.out.2.2.2.2.2
      obtain ⟨_, a1, _⟩ := KI1.out
      obtain ⟨a2, a3, _⟩ := q1b
      obtain ⟨a4, a5, _⟩ := q0b
      go_wp2
      go_ret2
      exact ⟨rfl, 0, rfl⟩
end
section
open Go.RowKit Go.Shelf
set_option maxHeartbeats 1000000 in
theorem div64_low (l y : Int) (w : World) (h0 : 0 ≤ l) (h1 : l < 18446744073709551616) (h2 : 1 ≤ y) (h3 : y ≤ 1000000000000000000) :
    Calls Tryz.prog 175 #[.int .u64 0, .int .u64 l, .int .u64 y] w (DivR (.tuple #[.int .u64 (l / y), .int .u64 (l % y)]) w) := by
  have e0 : (y == 0) = false := by rw [beq_eq_false_iff_ne]; omega
  have e1 : ¬y = 0 := by omega
  have e2 : ¬y ≤ 0 := by omega
  have hr1 := Int.tmod_eq_emod_of_nonneg (b := y) h0
  go_enter Tryz.func175, Tryz.ntmps175
  go_wp2_with fail
  go_quiet (fail)
  go_wp2
  go_ret2
  exact ⟨rfl, _, rfl⟩
theorem div64_any (h l y : Int) (w : World) (h0 : 0 ≤ h) (h1 : h < y) (l0 : 0 ≤ l) (l1 : l < 18446744073709551616) (y0 : 1 ≤ y) (y1 : y ≤ 1000000000000000000) :
    Calls Tryz.prog 175 #[.int .u64 h, .int .u64 l, .int .u64 y] w (DivR (.tuple #[.int .u64 ((h * 18446744073709551616 + l) / y), .int .u64 ((h * 18446744073709551616 + l) % y)]) w) := by
  by_cases hz : h = 0
  · subst hz
    rw [Int.zero_mul, Int.zero_add]
    exact div64_low l y w l0 l1 y0 y1
  · exact div64_walk h l y w (by omega) h1 l0 l1 y0 y1
end
end Go.Proofs.YtogcjgjhmlifgaaGreat
