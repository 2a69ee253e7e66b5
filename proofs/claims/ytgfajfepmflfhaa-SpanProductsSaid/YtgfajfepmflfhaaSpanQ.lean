/- Plain arithmetic for the promises on spans: products and quotients of numbers in spans lie between those of the ends; results grow with their arguments. -/
import Derived.Test.YtgfajfepmflfhaaSpanD
import Derived.Test.YtgfajfepmflfhaaSpanS
import Derived.Test.YtgfajfepmflfhaaSpanR
import Derived.Test.YtgfajfepmflfhaaSpanL
namespace Go.Proofs.Ytgfajfepmflfhaa
set_option linter.unusedVariables false
set_option linter.unusedSimpArgs false

theorem lin (k c d y : Int) (h1 : c ≤ y) (h2 : y ≤ d) : min (k * c) (k * d) ≤ k * y ∧ k * y ≤ max (k * c) (k * d) := by
  rcases Int.lt_or_le k 0 with h | h
  · have a := Int.mul_le_mul_of_nonpos_left (show k ≤ 0 by omega) h1
    have b := Int.mul_le_mul_of_nonpos_left (show k ≤ 0 by omega) h2
    omega
  · have a := Int.mul_le_mul_of_nonneg_left h1 h
    have b := Int.mul_le_mul_of_nonneg_left h2 h
    omega

theorem mul_between (a b c d x y : Int) (h1 : a ≤ x) (h2 : x ≤ b) (h3 : c ≤ y) (h4 : y ≤ d) :
    min (min (a * c) (a * d)) (min (b * c) (b * d)) ≤ x * y ∧ x * y ≤ max (max (a * c) (a * d)) (max (b * c) (b * d)) := by
  have l1 := lin a c d y h3 h4
  have l2 := lin b c d y h3 h4
  have l3 := lin y a b x h1 h2
  rw [Int.mul_comm y a, Int.mul_comm y b, Int.mul_comm y x] at l3
  omega

theorem flo_iff (q x y : Int) (hy : y ≠ 0) : q ≤ flo x y ↔ (0 < y ∧ q * y ≤ x) ∨ (y < 0 ∧ x ≤ q * y) := by
  unfold flo
  by_cases h : 0 < y
  · rw [if_pos h, Int.le_ediv_iff_mul_le h]
    constructor
    · intro k; exact .inl ⟨h, k⟩
    · rintro (⟨_, k⟩ | ⟨k, _⟩)
      · exact k
      · omega
  · rw [if_neg h, Int.le_ediv_iff_mul_le (by omega), Int.mul_neg]
    constructor
    · intro k; exact .inr ⟨by omega, by omega⟩
    · rintro (⟨k, _⟩ | ⟨_, k⟩)
      · omega
      · omega

theorem flo_between (a b c d x y : Int) (h1 : a ≤ x) (h2 : x ≤ b) (h3 : c ≤ y) (h4 : y ≤ d) (hz : 0 < c ∨ d < 0) :
    min (min (flo a c) (flo a d)) (min (flo b c) (flo b d)) ≤ flo x y := by
  have l := lin (min (min (flo a c) (flo a d)) (min (flo b c) (flo b d))) c d y h3 h4
  generalize hq : min (min (flo a c) (flo a d)) (min (flo b c) (flo b d)) = q at *
  have k1 := (flo_iff q a c (by omega)).1 (by omega)
  have k2 := (flo_iff q a d (by omega)).1 (by omega)
  have k3 := (flo_iff q b c (by omega)).1 (by omega)
  have k4 := (flo_iff q b d (by omega)).1 (by omega)
  rw [flo_iff q x y (by omega)]
  clear hq
  generalize q * c = qc at *
  generalize q * d = qd at *
  generalize q * y = qy at *
  omega

theorem cei_between (a b c d x y : Int) (h1 : a ≤ x) (h2 : x ≤ b) (h3 : c ≤ y) (h4 : y ≤ d) (hz : 0 < c ∨ d < 0) :
    cei x y ≤ max (max (cei a c) (cei a d)) (max (cei b c) (cei b d)) := by
  have h := flo_between (-b) (-a) c d (-x) y (by omega) (by omega) h3 h4 hz
  unfold cei
  omega

/-- Ends that lie in others: what Make answers grows with them. -/
theorem make_wider {lo hi lo' hi' : Int} (h : lo ≤ hi) (h1 : lo' ≤ lo) (h2 : hi ≤ hi') :
    ((makeL lo' hi').2.2 = 0 → (makeL lo hi).2.2 = 0) ∧ ((makeL lo' hi').2.2 = 0 → (makeL lo hi).2.2 = 0 → insd (makeL lo hi).1 (makeL lo hi).2.1 (makeL lo' hi').1 (makeL lo' hi').2.1 = true) := by
  unfold makeL
  rw [show min lo hi = lo by omega, show max lo hi = hi by omega, show min lo' hi' = lo' by omega, show max lo' hi' = hi' by omega]
  by_cases v2 : vld lo' hi' = true
  · have o2 := vld_iff.1 v2
    have v1 : vld lo hi = true := vld_iff.2 (by omega)
    rw [if_pos v1, if_pos v2]
    exact ⟨fun _ => rfl, fun _ _ => (insd_iff v1 v2).2 ⟨h1, h2⟩⟩
  · rw [if_neg v2]
    exact ⟨fun k => absurd k (by decide), fun k => absurd k (by decide)⟩

section
variable {a b c d a' b' c' d' : Int} (v1 : vld a b = true) (v2 : vld c d = true) (v3 : vld a' b' = true) (v4 : vld c' d' = true) (h1 : a' ≤ a) (h2 : b ≤ b') (h3 : c' ≤ c) (h4 : d ≤ d')
include v1 v2 v3 v4 h1 h2 h3 h4

theorem add_wider : (addL a' b' c' d').2.2 = 0 → (addL a b c d).2.2 = 0 → insd (addL a b c d).1 (addL a b c d).2.1 (addL a' b' c' d').1 (addL a' b' c' d').2.1 = true := by
  have o1 := (vld_iff.1 v1).1
  have o2 := (vld_iff.1 v2).1
  unfold addL
  rw [if_pos (show (vld a' b' && vld c' d') = true by simp [v3, v4]), if_pos (show (vld a b && vld c d) = true by simp [v1, v2])]
  exact (make_wider (by omega) (by omega) (by omega)).2

theorem mul_wider : (mulL a' b' c' d').2.2 = 0 → (mulL a b c d).2.2 = 0 → insd (mulL a b c d).1 (mulL a b c d).2.1 (mulL a' b' c' d').1 (mulL a' b' c' d').2.1 = true := by
  have o1 := (vld_iff.1 v1).1
  have o2 := (vld_iff.1 v2).1
  unfold mulL
  rw [if_pos (show (vld a' b' && vld c' d') = true by simp [v3, v4]), if_pos (show (vld a b && vld c d) = true by simp [v1, v2])]
  have m1 := mul_between a' b' c' d' a c (by omega) (by omega) (by omega) (by omega)
  have m2 := mul_between a' b' c' d' a d (by omega) (by omega) (by omega) (by omega)
  have m3 := mul_between a' b' c' d' b c (by omega) (by omega) (by omega) (by omega)
  have m4 := mul_between a' b' c' d' b d (by omega) (by omega) (by omega) (by omega)
  exact (make_wider (by omega) (by omega) (by omega)).2

theorem quot_wider : (quotL a' b' c' d').2.2 = 0 → (quotL a b c d).2.2 = 0 ∧ insd (quotL a b c d).1 (quotL a b c d).2.1 (quotL a' b' c' d').1 (quotL a' b' c' d').2.1 = true := by
  have o1 := (vld_iff.1 v1).1
  have o2 := (vld_iff.1 v2).1
  unfold quotL
  rw [if_pos (show (vld a' b' && vld c' d') = true by simp [v3, v4]), if_pos (show (vld a b && vld c d) = true by simp [v1, v2])]
  by_cases hz : c' ≤ 0 ∧ 0 ≤ d'
  · rw [if_pos hz]
    intro k; exact absurd k (by decide)
  · have hz2 : ¬(c ≤ 0 ∧ 0 ≤ d) := by omega
    have hz3 : 0 < c' ∨ d' < 0 := by omega
    rw [if_neg hz, if_neg hz2]
    have m1 := flo_between a' b' c' d' a c (by omega) (by omega) (by omega) (by omega) hz3
    have m2 := flo_between a' b' c' d' a d (by omega) (by omega) (by omega) (by omega) hz3
    have m3 := flo_between a' b' c' d' b c (by omega) (by omega) (by omega) (by omega) hz3
    have m4 := flo_between a' b' c' d' b d (by omega) (by omega) (by omega) (by omega) hz3
    have n1 := cei_between a' b' c' d' a c (by omega) (by omega) (by omega) (by omega) hz3
    have n2 := cei_between a' b' c' d' a d (by omega) (by omega) (by omega) (by omega) hz3
    have n3 := cei_between a' b' c' d' b c (by omega) (by omega) (by omega) (by omega) hz3
    have n4 := cei_between a' b' c' d' b d (by omega) (by omega) (by omega) (by omega) hz3
    have fc : ∀ x y : Int, y ≠ 0 → flo x y ≤ cei x y := by
      intro x y hy
      obtain ⟨F, hF, hr⟩ := quo_cases x y (max x (-x)) (max y (-y)) hy rfl rfl
      omega
    have f1 := fc a c (by omega)
    have w := make_wider (lo := min (min (flo a c) (flo a d)) (min (flo b c) (flo b d))) (hi := max (max (cei a c) (cei a d)) (max (cei b c) (cei b d)))
      (lo' := min (min (flo a' c') (flo a' d')) (min (flo b' c') (flo b' d'))) (hi' := max (max (cei a' c') (cei a' d')) (max (cei b' c') (cei b' d'))) (by omega) (by omega) (by omega)
    exact fun k => ⟨w.1 k, w.2 k (w.1 k)⟩

theorem less_wider : lessL a' b' c' d' = 2 ∨ lessL a' b' c' d' = lessL a b c d := by
  have o1 := (vld_iff.1 v1).1
  have o2 := (vld_iff.1 v2).1
  unfold lessL
  rw [if_pos (show (vld a' b' && vld c' d') = true by simp [v3, v4]), if_pos (show (vld a b && vld c d) = true by simp [v1, v2])]
  by_cases q1 : b' < c'
  · rw [if_pos q1, if_pos (by omega)]; exact .inr rfl
  · by_cases q2 : d' ≤ a'
    · rw [if_neg q1, if_pos q2, if_neg (by omega), if_pos (by omega)]; exact .inr rfl
    · rw [if_neg q1, if_neg q2]; exact .inl rfl

end

theorem root_wider {a b a' b' : Int} (v1 : vld a b = true) (v3 : vld a' b' = true) (h1 : a' ≤ a) (h2 : b ≤ b') :
    (rootL a' b').2.2 = 0 → (rootL a b).2.2 = 0 ∧ insd (rootL a b).1 (rootL a b).2.1 (rootL a' b').1 (rootL a' b').2.1 = true := by
  have o1 := vld_iff.1 v1
  have o3 := vld_iff.1 v3
  unfold rootL
  rw [if_pos v3, if_pos v1]
  by_cases ha : a' < 0
  · rw [if_pos ha]
    intro k; exact absurd k (by decide)
  · rw [if_neg ha, if_neg (show ¬a < 0 by omega)]
    obtain ⟨p1, p2, p3⟩ := isq_spec a (by omega)
    obtain ⟨q1, q2, q3⟩ := isq_spec b (by omega)
    obtain ⟨r1, r2, r3⟩ := isq_spec a' (by omega)
    obtain ⟨s1, s2, s3⟩ := isq_spec b' (by omega)
    have u1 := isq_small b (by omega) (by omega)
    have u2 := isq_small b' (by omega) (by omega)
    have t1 := sq_lt r1 (by omega) (show isq a' * isq a' < (isq a + 1) * (isq a + 1) by omega)
    have t2 := sq_lt p1 (by omega) (show isq a * isq a < (isq b + 1) * (isq b + 1) by omega)
    have t3 := sq_lt q1 (by omega) (show isq b * isq b < (isq b' + 1) * (isq b' + 1) by omega)
    have key : (if isq b * isq b < b then isq b + 1 else isq b) ≤ (if isq b' * isq b' < b' then isq b' + 1 else isq b') := by
      by_cases c1 : isq b * isq b < b
      · rw [if_pos c1]
        by_cases c2 : isq b' * isq b' < b'
        · rw [if_pos c2]; omega
        · rw [if_neg c2]
          have := sq_lt q1 s1 (show isq b * isq b < isq b' * isq b' by omega)
          omega
      · rw [if_neg c1]
        by_cases c2 : isq b' * isq b' < b'
        · rw [if_pos c2]; omega
        · rw [if_neg c2]; omega
    intro _
    refine ⟨rfl, (insd_iff (vld_iff.2 ?_) (vld_iff.2 ?_)).2 ⟨?_, key⟩⟩
    · refine ⟨?_, ?_, ?_⟩
      · show isq a ≤ (if isq b * isq b < b then isq b + 1 else isq b)
        split <;> omega
      · show -1000000000000000 ≤ isq a
        omega
      · show (if isq b * isq b < b then isq b + 1 else isq b) ≤ 1000000000000000
        split <;> omega
    · refine ⟨?_, ?_, ?_⟩
      · show isq a' ≤ (if isq b' * isq b' < b' then isq b' + 1 else isq b')
        have : isq a' ≤ (if isq b * isq b < b then isq b + 1 else isq b) := by split <;> omega
        omega
      · show -1000000000000000 ≤ isq a'
        omega
      · show (if isq b' * isq b' < b' then isq b' + 1 else isq b') ≤ 1000000000000000
        split <;> omega
    · show isq a' ≤ isq a
      omega

end Go.Proofs.Ytgfajfepmflfhaa
