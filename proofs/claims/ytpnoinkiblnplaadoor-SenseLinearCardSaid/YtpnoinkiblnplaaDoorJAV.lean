import Derived.Test.YtpnoinkiblnplaaDoorJAA
import Derived.Laws.MathBits
section
/- Plain arithmetic of two's complement numbers of 128 bits; it imports nothing of the program. -/
namespace Go.Proofs.YtpnoinkiblnplaaDoor
set_option linter.unusedVariables false
set_option linter.unusedSimpArgs false

/-- The high and the low half of a number in two's complement of 128 bits. -/
def hi64 (z : Int) : Int := z / 18446744073709551616 % 18446744073709551616
def lo64 (z : Int) : Int := z % 18446744073709551616
def sum64 (x y c : Int) : Int := (x + y + c) % 18446744073709551616
def car64 (x y c : Int) : Int := (x + y + c) / 18446744073709551616
def not64 (x : Int) : Int := 18446744073709551615 - x
/-- z is far from the ends of 128 bits. -/
def Fit (z : Int) : Prop := -10000000000000000000000000000000000 ≤ z ∧ z ≤ 10000000000000000000000000000000000
/-- x is a number of 64 bits without a sign. -/
def U64 (x : Int) : Prop := 0 ≤ x ∧ x < 18446744073709551616

theorem hi64_u (z : Int) : U64 (hi64 z) := by unfold U64 hi64; omega
theorem lo64_u (z : Int) : U64 (lo64 z) := by unfold U64 lo64; omega
theorem hi64_nonneg (z : Int) : 0 ≤ hi64 z := (hi64_u z).1
theorem lo64_nonneg (z : Int) : 0 ≤ lo64 z := (lo64_u z).1
theorem car64_01 (x y c : Int) (hx : U64 x) (hy : U64 y) (h0 : 0 ≤ c) (h1 : c ≤ 1) : 0 ≤ car64 x y c ∧ car64 x y c ≤ 1 := by
  unfold U64 at hx hy; unfold car64; omega
theorem plus_lo (y z : Int) : sum64 (lo64 y) (lo64 z) 0 = lo64 (y + z) := by unfold sum64 lo64; omega
theorem plus_hi (y z : Int) : sum64 (hi64 y) (hi64 z) (car64 (lo64 y) (lo64 z) 0) = hi64 (y + z) := by unfold sum64 hi64 lo64 car64; omega
theorem not_lo (z : Int) : not64 (lo64 z) = lo64 (-z - 1) := by unfold not64 lo64; omega
theorem not_hi (z : Int) : not64 (hi64 z) = hi64 (-z - 1) := by unfold not64 hi64; omega
theorem number_hi (n : Int) (h1 : -9223372036854775808 ≤ n) (h2 : n ≤ 9223372036854775807) : n / 9223372036854775808 % 18446744073709551616 = hi64 n := by unfold hi64; omega
theorem number_lo (n : Int) : n % 18446744073709551616 = lo64 n := rfl
/-- x as a number with a sign. -/
def sgn64 (x : Int) : Int := (x + 9223372036854775808) % 18446744073709551616 - 9223372036854775808
theorem sgn_hi (z : Int) (h : Fit z) : sgn64 (hi64 z) = z / 18446744073709551616 := by unfold Fit at h; unfold sgn64 hi64; omega
theorem sgn_lo (n : Int) (h1 : -9223372036854775808 ≤ n) (h2 : n ≤ 9223372036854775807) : sgn64 (lo64 n) = n := by unfold sgn64 lo64; omega
theorem negative_iff (z : Int) (h : Fit z) : sgn64 (hi64 z) < 0 ↔ z < 0 := by rw [sgn_hi z h]; omega
theorem below_ne (y z : Int) (hy : Fit y) (hz : Fit z) (h : hi64 y ≠ hi64 z) : sgn64 (hi64 y) < sgn64 (hi64 z) ↔ y < z := by
  rw [sgn_hi y hy, sgn_hi z hz]; unfold Fit at hy hz; unfold hi64 at h; omega
theorem below_eq (y z : Int) (hy : Fit y) (hz : Fit z) (h : hi64 y = hi64 z) : lo64 y < lo64 z ↔ y < z := by
  unfold Fit at hy hz; unfold hi64 at h; unfold lo64; omega
theorem same_iff (y z : Int) (hy : Fit y) (hz : Fit z) : (hi64 y = hi64 z ∧ lo64 y = lo64 z) ↔ y = z := by
  unfold Fit at hy hz; unfold hi64 lo64; constructor
  · intro h; omega
  · intro h; rw [h]; exact ⟨rfl, rfl⟩
theorem narrow_of (z : Int) (hz : Fit z) (h : sgn64 (lo64 z) = z) : -9223372036854775808 ≤ z ∧ z ≤ 9223372036854775807 := by
  unfold sgn64 lo64 at h; omega
theorem sgn_range (x : Int) : -9223372036854775808 ≤ sgn64 x ∧ sgn64 x ≤ 9223372036854775807 := by unfold sgn64; omega
theorem mul_hi (x y : Int) (hx : 0 ≤ x) (hy : 0 ≤ y) (hx' : x ≤ 1000000000000000) (hy' : y ≤ 1000000000000000) : x * y / 18446744073709551616 = hi64 (x * y) := by
  have h0 : 0 ≤ x * y := Int.mul_nonneg hx hy
  have h1 : x * y ≤ 1000000000000000 * 1000000000000000 := Int.mul_le_mul hx' hy' hy (by omega)
  generalize x * y = p at *
  unfold hi64; omega
theorem mul_fit (x y : Int) (hx : -1000000000000000 ≤ x) (hy : -1000000000000000 ≤ y) (hx' : x ≤ 1000000000000000) (hy' : y ≤ 1000000000000000) :
    -1000000000000000000000000000000 ≤ x * y ∧ x * y ≤ 1000000000000000000000000000000 := by
  have a := Int.mul_nonneg (show 0 ≤ 1000000000000000 - x by omega) (show 0 ≤ 1000000000000000 - y by omega)
  have b := Int.mul_nonneg (show 0 ≤ 1000000000000000 + x by omega) (show 0 ≤ 1000000000000000 + y by omega)
  have c := Int.mul_nonneg (show 0 ≤ 1000000000000000 - x by omega) (show 0 ≤ 1000000000000000 + y by omega)
  have d := Int.mul_nonneg (show 0 ≤ 1000000000000000 + x by omega) (show 0 ≤ 1000000000000000 - y by omega)
  rw [Int.sub_mul, Int.mul_sub, Int.mul_sub] at a
  rw [Int.add_mul, Int.mul_add, Int.mul_add] at b
  rw [Int.sub_mul, Int.mul_add, Int.mul_add] at c
  rw [Int.add_mul, Int.mul_sub, Int.mul_sub] at d
  generalize x * y = p at *
  omega
theorem neg1 (m n : Int) : -(-m * n) = m * n := by rw [Int.neg_mul, Int.neg_neg]
theorem neg2 (m n : Int) : -(m * -n) = m * n := by rw [Int.mul_neg, Int.neg_neg]

/-- A quotient rounded down, and rounded up. -/
def flo (x d : Int) : Int := if 0 < d then x / d else (-x) / (-d)
def cei (x d : Int) : Int := -(flo (-x) d)

theorem neg_quo (Z m : Int) (hm : 0 < m) : (Z % m = 0 ∧ (-Z) / m = -(Z / m)) ∨ (0 < Z % m ∧ (-Z) / m = -(Z / m + 1)) := by
  have h1 := Int.emod_add_mul_ediv Z m
  have h2 := Int.emod_nonneg Z (show m ≠ 0 by omega)
  have h3 := Int.emod_lt_of_pos Z hm
  generalize Z / m = q at *
  generalize Z % m = r at *
  by_cases h : r = 0
  · left
    refine ⟨h, ((Int.ediv_emod_unique hm).2 (?_ : (0 : Int) + m * -q = -Z ∧ 0 ≤ (0 : Int) ∧ (0 : Int) < m)).1⟩
    rw [Int.mul_neg]
    omega
  · right
    refine ⟨by omega, ((Int.ediv_emod_unique hm).2 (?_ : (m - r) + m * -(q + 1) = -Z ∧ 0 ≤ m - r ∧ m - r < m)).1⟩
    rw [Int.mul_neg, Int.mul_add]
    omega

theorem quo_cases (x d Z m : Int) (hd : d ≠ 0) (hZ : Z = max x (-x)) (hm : m = max d (-d)) :
    ∃ F, ((Z % m = 0 ∧ F = Z / m) ∨ (0 < Z % m ∧ F = Z / m + 1)) ∧
      (((decide (x < 0) != decide (d < 0)) = false ∧ flo x d = Z / m ∧ cei x d = F) ∨ ((decide (x < 0) != decide (d < 0)) = true ∧ flo x d = -F ∧ cei x d = -(Z / m))) := by
  have hm0 : 0 < m := by omega
  have key : ∃ F, ((Z % m = 0 ∧ F = Z / m) ∨ (0 < Z % m ∧ F = Z / m + 1)) ∧ (-Z) / m = -F := by
    rcases neg_quo Z m hm0 with ⟨a, b⟩ | ⟨a, b⟩
    · exact ⟨Z / m, .inl ⟨a, rfl⟩, b⟩
    · exact ⟨Z / m + 1, .inr ⟨a, rfl⟩, b⟩
  obtain ⟨F, hF, hn⟩ := key
  refine ⟨F, hF, ?_⟩
  by_cases h1 : x < 0 <;> by_cases h2 : d < 0
  · left
    have e1 : Z = -x := by omega
    have e2 : m = -d := by omega
    subst e1 e2
    unfold cei flo
    rw [if_neg (by omega), if_neg (by omega)]
    exact ⟨by simp [h1, h2], rfl, by rw [hn]; omega⟩
  · right
    have e1 : Z = -x := by omega
    have e2 : m = d := by omega
    subst e1 e2
    unfold cei flo
    rw [if_pos (by omega), if_pos (by omega)]
    exact ⟨by simp [h1, h2], by rw [Int.neg_neg] at hn; exact hn, rfl⟩
  · right
    have e1 : Z = x := by omega
    have e2 : m = -d := by omega
    subst e1 e2
    unfold cei flo
    rw [if_neg (by omega), if_neg (by omega)]
    exact ⟨by simp [h1, h2], hn, by rw [Int.neg_neg]⟩
  · left
    have e1 : Z = x := by omega
    have e2 : m = d := by omega
    subst e1 e2
    unfold cei flo
    rw [if_pos (by omega), if_pos (by omega)]
    exact ⟨by simp [h1, h2], rfl, by rw [hn]; omega⟩

theorem hi64_small (z : Int) (h0 : 0 ≤ z) (h1 : z ≤ 1000000000000000) : hi64 z = 0 := by unfold hi64; omega
theorem lo64_small (z : Int) (h0 : 0 ≤ z) (h1 : z ≤ 1000000000000000) : lo64 z = z := by unfold lo64; omega
theorem div_small (z m : Int) (h0 : 0 ≤ z) (h1 : z ≤ 1000000000000000) (hm : 1 ≤ m) : 0 ≤ z / m ∧ z / m ≤ 1000000000000000 :=
  ⟨Int.ediv_nonneg h0 (by omega), Int.le_trans (Int.ediv_le_self _ h0) h1⟩
end Go.Proofs.YtpnoinkiblnplaaDoor
end
section
/- Plain arithmetic of gains: what a pair leaves possible, what all pairs leave, which pair is the first that leaves nothing; it speaks of no walk. -/
namespace Go.Proofs.YtpnoinkiblnplaaDoor
set_option linter.unusedVariables false
set_option linter.unusedSimpArgs false

/-- A pair: the value, and the ends of its reading. -/
abbrev Tri := Int × Int × Int
def okP (x : Tri) : Bool := inR x.1 && vld x.2.1 x.2.2
def gLo (x : Tri) : Int := if 0 < x.1 then flo (x.2.1 * 1000) x.1 else if x.1 < 0 then flo (x.2.2 * 1000) x.1 else if x.2.1 ≤ 0 ∧ 0 ≤ x.2.2 then -1000000000 else 1
def gHi (x : Tri) : Int := if 0 < x.1 then cei (x.2.2 * 1000) x.1 else if x.1 < 0 then cei (x.2.1 * 1000) x.1 else if x.2.1 ≤ 0 ∧ 0 ≤ x.2.2 then 1000000000 else 0
/-- What is left of the gains s behind one pair more. -/
def nar (s : Int × Int) (x : Tri) : Int × Int := (max s.1 (gLo x), min s.2 (gHi x))
def all0 : Int × Int := (-1000000000, 1000000000)
def left (s : Int × Int) : List Tri → Int × Int
  | [] => s
  | x :: r => left (nar s x) r
/-- The place of the first pair with which nothing is left, or -1. -/
def first (s : Int × Int) : List Tri → Int → Int
  | [], _ => -1
  | x :: r, i => if vld (nar s x).1 (nar s x).2 = true then first (nar s x) r (i + 1) else i
def allOk (l : List Tri) : Bool := l.all okP
def calL (l : List Tri) : Int × Int × Int :=
  if allOk l = true then if vld (left all0 l).1 (left all0 l).2 = true then ((left all0 l).1, (left all0 l).2, 0) else (0, 0, 8) else (0, 0, 1)
def brokL (l : List Tri) : Int := if allOk l = true then first all0 l 0 else -1

theorem okP_iff {x : Tri} : okP x = true ↔ (-1000000000000000 ≤ x.1 ∧ x.1 ≤ 1000000000000000) ∧ x.2.1 ≤ x.2.2 ∧ -1000000000000000 ≤ x.2.1 ∧ x.2.2 ≤ 1000000000000000 := by
  simp [okP, inR_iff, vld_iff]

/-- The gains that are left lie within the greatest ones. -/
def Near (s : Int × Int) : Prop := -1000000000 ≤ s.1 ∧ s.2 ≤ 1000000000
theorem near_all0 : Near all0 := by unfold Near all0; omega
theorem near_nar {s : Int × Int} (h : Near s) (x : Tri) : Near (nar s x) := by
  unfold Near nar at *; dsimp only; omega
theorem near_left {s : Int × Int} (h : Near s) (l : List Tri) : Near (left s l) := by
  induction l generalizing s with
  | nil => exact h
  | cons x r ih => exact ih (near_nar h x)
theorem vld_near {s : Int × Int} (h : Near s) : vld s.1 s.2 = true ↔ s.1 ≤ s.2 := by
  rw [vld_iff]; unfold Near at h; omega
theorem nar_le {s : Int × Int} (x : Tri) : s.1 ≤ (nar s x).1 ∧ (nar s x).2 ≤ s.2 := by unfold nar; dsimp only; omega
theorem left_le (s : Int × Int) (l : List Tri) : s.1 ≤ (left s l).1 ∧ (left s l).2 ≤ s.2 := by
  induction l generalizing s with
  | nil => exact ⟨Int.le_refl _, Int.le_refl _⟩
  | cons x r ih =>
    have h1 := ih (nar s x)
    have h2 := nar_le (s := s) x
    show s.1 ≤ (left (nar s x) r).1 ∧ (left (nar s x) r).2 ≤ s.2
    omega

/-- There is a first pair with which nothing is left exactly if nothing is left in the end. -/
theorem first_iff {s : Int × Int} (h : Near s) (hs : vld s.1 s.2 = true) (l : List Tri) (i : Int) (hi : 0 ≤ i) : first s l i = -1 ↔ vld (left s l).1 (left s l).2 = true := by
  induction l generalizing s i with
  | nil => simp [first, left, hs]
  | cons x r ih =>
    show (if vld (nar s x).1 (nar s x).2 = true then first (nar s x) r (i + 1) else i) = -1 ↔ vld (left (nar s x) r).1 (left (nar s x) r).2 = true
    by_cases hv : vld (nar s x).1 (nar s x).2 = true
    · rw [if_pos hv]; exact ih (near_nar h x) hv (i + 1) (by omega)
    · rw [if_neg hv]
      refine ⟨fun e => absurd e (by omega), fun e => ?_⟩
      exfalso
      apply hv
      rw [vld_near (near_nar h x)]
      rw [vld_near (near_left (near_nar h x) r)] at e
      have := left_le (nar s x) r
      omega

theorem vld_all0 : vld all0.1 all0.2 = true := by rw [vld_iff]; unfold all0; omega

theorem brok_iff (l : List Tri) (h : allOk l = true) : brokL l = -1 ↔ (calL l).2.2 = 0 := by
  unfold brokL calL
  rw [if_pos h, if_pos h, first_iff near_all0 vld_all0 l 0 (by omega)]
  by_cases hv : vld (left all0 l).1 (left all0 l).2 = true
  · rw [if_pos hv]; simp [hv]
  · rw [if_neg hv]; simp [hv]

/-- The gain g is one of those of the pair. -/
def Lies (g : Int) (x : Tri) : Prop := x.2.1 * 1000 ≤ x.1 * g ∧ x.1 * g ≤ x.2.2 * 1000

theorem flo_le_of {a v g : Int} (hv : 0 < v) (h : a ≤ v * g) : flo a v ≤ g := by
  unfold flo; rw [if_pos hv]
  have h1 : a ≤ g * v := by rw [Int.mul_comm]; exact h
  have h2 : a / v ≤ g * v / v := Int.ediv_le_ediv hv h1
  rwa [Int.mul_ediv_cancel _ (by omega)] at h2
theorem flo_le_of_neg {a v g : Int} (hv : v < 0) (h : v * g ≤ a) : flo a v ≤ g := by
  unfold flo; rw [if_neg (by omega)]
  have h1 : -a ≤ g * -v := by rw [Int.mul_neg, Int.mul_comm]; omega
  have h2 : -a / -v ≤ g * -v / -v := Int.ediv_le_ediv (by omega) h1
  rwa [Int.mul_ediv_cancel _ (by omega)] at h2
theorem le_cei_of {a v g : Int} (hv : 0 < v) (h : v * g ≤ a) : g ≤ cei a v := by
  unfold cei
  have := flo_le_of (a := -a) (g := -g) hv (by rw [Int.mul_neg]; omega)
  omega
theorem le_cei_of_neg {a v g : Int} (hv : v < 0) (h : a ≤ v * g) : g ≤ cei a v := by
  unfold cei
  have := flo_le_of_neg (a := -a) (g := -g) hv (by rw [Int.mul_neg]; omega)
  omega

theorem gain_of {x : Tri} {g : Int} (h0 : -1000000000 ≤ g) (h1 : g ≤ 1000000000) (h : Lies g x) : gLo x ≤ g ∧ g ≤ gHi x := by
  obtain ⟨a, b⟩ := h
  unfold gLo gHi
  by_cases p : 0 < x.1
  · rw [if_pos p, if_pos p]; exact ⟨flo_le_of p a, le_cei_of p b⟩
  · by_cases n : x.1 < 0
    · rw [if_neg p, if_neg p, if_pos n, if_pos n]; exact ⟨flo_le_of_neg n b, le_cei_of_neg n a⟩
    · have z : x.1 = 0 := by omega
      rw [z, Int.zero_mul] at a b
      rw [if_neg p, if_neg p, if_neg n, if_neg n, if_pos (by omega), if_pos (by omega)]
      exact ⟨h0, h1⟩

theorem left_of {g : Int} (h0 : -1000000000 ≤ g) (h1 : g ≤ 1000000000) (l : List Tri) (s : Int × Int) (hs : s.1 ≤ g ∧ g ≤ s.2) (h : ∀ x ∈ l, Lies g x) : (left s l).1 ≤ g ∧ g ≤ (left s l).2 := by
  induction l generalizing s with
  | nil => exact hs
  | cons x r ih =>
    refine ih (nar s x) ?_ (fun y hy => h y (List.mem_cons_of_mem _ hy))
    have := gain_of h0 h1 (h x (List.mem_cons_self ..))
    unfold nar; dsimp only; omega

/-- What the law says. -/
theorem cal_of {g : Int} (h0 : -1000000000 ≤ g) (h1 : g ≤ 1000000000) (l : List Tri) (hok : allOk l = true) (h : ∀ x ∈ l, Lies g x) : calL l = ((left all0 l).1, (left all0 l).2, 0) ∧ (left all0 l).1 ≤ g ∧ g ≤ (left all0 l).2 := by
  have hl := left_of h0 h1 l all0 (by unfold all0; dsimp only; omega) h
  have hv : vld (left all0 l).1 (left all0 l).2 = true := by rw [vld_near (near_left near_all0 l)]; omega
  refine ⟨?_, hl⟩
  unfold calL; rw [if_pos hok, if_pos hv]

theorem left_drop {s : Int × Int} {l : List Tri} {k : Nat} (h : k < l.length) : left s (l.drop k) = left (nar s l[k]) (l.drop (k + 1)) := by
  rw [List.drop_eq_getElem_cons h]; rfl
theorem first_drop {s : Int × Int} {l : List Tri} {k : Nat} (h : k < l.length) (i : Int) : first s (l.drop k) i = if vld (nar s l[k]).1 (nar s l[k]).2 = true then first (nar s l[k]) (l.drop (k + 1)) (i + 1) else i := by
  rw [List.drop_eq_getElem_cons h]; rfl

end Go.Proofs.YtpnoinkiblnplaaDoor
end
