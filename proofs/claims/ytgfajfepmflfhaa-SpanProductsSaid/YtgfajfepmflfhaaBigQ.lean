/- Plain arithmetic of the product of two numbers in digits of base 10,000, as the specification reckons it: the sums of the products of digits, then the carries. -/
import Derived.Test.YtgfajfepmflfhaaBigP
namespace Go.Proofs.Ytgfajfepmflfhaa
set_option linter.unusedVariables false
set_option linter.unusedSimpArgs false

theorem getD_set (l : List Int) (p q : Nat) (v : Int) (hp : p < l.length) : (l.set p v).getD q 0 = if p = q then v else l.getD q 0 := by
  rw [List.getD_eq_getElem?_getD, List.getD_eq_getElem?_getD, List.getElem?_set]
  by_cases h : p = q
  · subst h; simp [hp]
  · simp [h]
theorem digs_getD {P : List Int} (h : Digs P) (i : Nat) : 0 ≤ P.getD i 0 ∧ P.getD i 0 < 10000 := by
  rw [List.getD_eq_getElem?_getD]
  by_cases hi : i < P.length
  · rw [List.getElem?_eq_getElem hi]
    exact h _ (List.getElem_mem hi)
  · rw [List.getElem?_eq_none (by omega)]
    exact ⟨Int.le_refl _, by show (0 : Int) < 10000; omega⟩
theorem val_take_succ (P : List Int) (i : Nat) (h : i < P.length) : val (P.take (i + 1)) = val (P.take i) + pw i * P.getD i 0 := by
  rw [List.take_succ_eq_append_getElem h, val_snoc, List.length_take, Nat.min_eq_left (by omega), List.getD_eq_getElem?_getD, List.getElem?_eq_getElem h]
  rfl
theorem val_replicate (k : Nat) : val (List.replicate k 0) = 0 := by
  induction k with
  | zero => rfl
  | succ k ih => show 0 + 10000 * val (List.replicate k 0) = 0; rw [ih]; rfl
theorem dig_mul {x y : Int} (h0 : 0 ≤ x) (h1 : x < 10000) (k0 : 0 ≤ y) (k1 : y < 10000) : 0 ≤ x * y ∧ x * y ≤ 100000000 := by
  refine ⟨Int.mul_nonneg h0 k0, ?_⟩
  have a := Int.mul_le_mul_of_nonneg_left (show y ≤ 10000 by omega) h0
  omega

/-- The products of the first i digits of P with all of Q, and of digit i with the first k, are added up. -/
def Conv (P Q O : List Int) (i k : Nat) : Prop :=
  O.length = P.length + Q.length + 1 ∧ val O = val (P.take i) * val Q + P.getD i 0 * (pw i * val (Q.take k)) ∧ ∀ p, 0 ≤ O.getD p 0 ∧ O.getD p 0 ≤ ((i * 16 + k : Nat) : Int) * 100000000
theorem conv_start (P Q : List Int) : Conv P Q (List.replicate (P.length + Q.length + 1) 0) 0 0 := by
  refine ⟨by simp, ?_, fun p => ?_⟩
  · rw [val_replicate]; show (0 : Int) = 0 * val Q + P.getD 0 0 * (1 * 0); rw [Int.zero_mul, Int.mul_zero, Int.mul_zero]; rfl
  · have : (List.replicate (P.length + Q.length + 1) (0 : Int)).getD p 0 = 0 := by
      rw [List.getD_eq_getElem?_getD]
      by_cases h : p < P.length + Q.length + 1
      · rw [List.getElem?_replicate, if_pos h]; rfl
      · rw [List.getElem?_eq_none (by simp; omega)]; rfl
    rw [this]
    omega
theorem conv_step {P Q O : List Int} {i k : Nat} (hP : Digs P) (hQ : Digs Q) (hi : i < P.length) (hk : k < Q.length) (h : Conv P Q O i k) :
    Conv P Q (O.set (i + k) (O.getD (i + k) 0 + P.getD i 0 * Q.getD k 0)) i (k + 1) := by
  obtain ⟨h1, h2, h3⟩ := h
  have hp := digs_getD hP i
  have hq := digs_getD hQ k
  have hm := dig_mul hp.1 hp.2 hq.1 hq.2
  refine ⟨by rw [List.length_set]; exact h1, ?_, fun p => ?_⟩
  · rw [val_set _ _ _ (by omega), h2, val_take_succ Q k hk, pw_add, Int.mul_add, Int.mul_add, Int.add_assoc]
    congr 2
    simp only [Int.mul_assoc, Int.mul_comm, Int.mul_left_comm]
  · rw [getD_set _ _ _ _ (by omega)]
    have h4 := h3 p
    by_cases he : i + k = p
    · rw [if_pos he, he]
      omega
    · rw [if_neg he]
      omega
theorem conv_row {P Q O : List Int} {i : Nat} (hi : i < P.length) (hm : Q.length ≤ 16) (h : Conv P Q O i Q.length) : Conv P Q O (i + 1) 0 := by
  obtain ⟨h1, h2, h3⟩ := h
  refine ⟨h1, ?_, fun p => ?_⟩
  · rw [h2, List.take_length, val_take_succ P i hi, List.take_zero, Int.add_mul]
    show _ = _ + P.getD (i + 1) 0 * (pw (i + 1) * 0)
    rw [Int.mul_zero, Int.mul_zero, Int.add_zero]
    congr 1
    simp only [Int.mul_assoc, Int.mul_comm, Int.mul_left_comm]
  · have := h3 p
    omega
theorem conv_bound {P Q O : List Int} {i k : Nat} (hi : i ≤ 16) (hk : k ≤ 16) (h : Conv P Q O i k) (p : Nat) : 0 ≤ O.getD p 0 ∧ O.getD p 0 ≤ 30000000000 := by
  have := h.2.2 p
  omega

/-- The carries are done up to place i; the number stays V. -/
def Car (V : Int) (L : Nat) (O : List Int) (i : Nat) : Prop :=
  O.length = L ∧ val O = V ∧ (∀ p, p < i → 0 ≤ O.getD p 0 ∧ O.getD p 0 < 10000) ∧ ∀ p, 0 ≤ O.getD p 0 ∧ (O.getD p 0 ≤ 30000000000 ∨ (p = i ∧ O.getD p 0 ≤ 60000000000))
theorem car_start {P Q O : List Int} (hn : P.length ≤ 16) (hm : Q.length ≤ 16) (h : Conv P Q O P.length 0) : Car (val P * val Q) (P.length + Q.length + 1) O 0 := by
  refine ⟨h.1, ?_, fun p hp => by omega, fun p => ?_⟩
  · rw [h.2.1, List.take_length, List.take_zero]
    show _ + P.getD P.length 0 * (pw P.length * 0) = _
    rw [Int.mul_zero, Int.mul_zero, Int.add_zero]
  · have := conv_bound hn (by omega) h p
    exact ⟨this.1, .inl this.2⟩
theorem car_step {V : Int} {L i : Nat} {O : List Int} (hi : i + 1 < L) (h : Car V L O i) :
    Car V L ((O.set (i + 1) (O.getD (i + 1) 0 + O.getD i 0 / 10000)).set i (O.getD i 0 % 10000)) (i + 1) := by
  obtain ⟨h1, h2, h3, h4⟩ := h
  have ai := h4 i
  have aj := h4 (i + 1)
  have q0 : 0 ≤ O.getD i 0 / 10000 := Int.ediv_nonneg ai.1 (by decide)
  have q1 : O.getD i 0 / 10000 ≤ 30000000000 := by omega
  have r0 := Int.emod_nonneg (O.getD i 0) (show (10000 : Int) ≠ 0 by decide)
  have r1 := Int.emod_lt_of_pos (O.getD i 0) (show (0 : Int) < 10000 by decide)
  have e := Int.mul_ediv_add_emod (O.getD i 0) 10000
  have hs : (O.set (i + 1) (O.getD (i + 1) 0 + O.getD i 0 / 10000)).getD i 0 = O.getD i 0 := by
    rw [getD_set _ _ _ _ (by omega), if_neg (by omega)]
  refine ⟨by simp [h1], ?_, fun p hp => ?_, fun p => ?_⟩
  · have v1 := val_set O (i + 1) (O.getD i 0 / 10000) (by omega)
    have v2 := val_set (O.set (i + 1) (O.getD (i + 1) 0 + O.getD i 0 / 10000)) i (O.getD i 0 % 10000 - O.getD i 0) (by simp; omega)
    rw [hs, show O.getD i 0 + (O.getD i 0 % 10000 - O.getD i 0) = O.getD i 0 % 10000 by omega, v1, h2] at v2
    rw [v2, pw_succ, Int.mul_comm 10000, Int.mul_assoc, Int.add_assoc, ← Int.mul_add, show 10000 * (O.getD i 0 / 10000) + (O.getD i 0 % 10000 - O.getD i 0) = 0 by omega, Int.mul_zero, Int.add_zero]
  · rw [getD_set _ _ _ _ (by simp; omega)]
    by_cases he : i = p
    · rw [if_pos he]; exact ⟨r0, r1⟩
    · rw [if_neg he, getD_set _ _ _ _ (by omega), if_neg (by omega)]
      exact h3 p (by omega)
  · rw [getD_set _ _ _ _ (by simp; omega)]
    by_cases he : i = p
    · rw [if_pos he]; exact ⟨r0, .inl (by omega)⟩
    · rw [if_neg he, getD_set _ _ _ _ (by omega)]
      by_cases he2 : i + 1 = p
      · rw [if_pos he2]
        refine ⟨by omega, .inr ⟨he2.symm, by omega⟩⟩
      · rw [if_neg he2]
        have := h4 p
        refine ⟨this.1, .inl (by omega)⟩
theorem car_end {P Q O : List Int} (hP : Digs P) (hQ : Digs Q) (h : Car (val P * val Q) (P.length + Q.length + 1) O (P.length + Q.length)) : Digs O ∧ val O = val P * val Q := by
  obtain ⟨h1, h2, h3, h4⟩ := h
  refine ⟨fun d hd => ?_, h2⟩
  have top : O.getD (P.length + Q.length) 0 < 10000 := by
    have ht := val_take_succ O (P.length + Q.length) (by omega)
    rw [List.take_of_length_le (by omega), h2] at ht
    have hb := val_bound (l := O.take (P.length + Q.length)) (fun x hx => by
      obtain ⟨j, hj, rfl⟩ := List.mem_iff_getElem.1 hx
      have hj' : j < P.length + Q.length := by simp at hj; omega
      have := h3 j hj'
      rw [List.getD_eq_getElem?_getD, List.getElem?_eq_getElem (by omega)] at this
      rw [List.getElem_take]
      exact this)
    have pb := val_bound hP
    have qb := val_bound hQ
    have k1 := Int.mul_le_mul_of_nonneg_left (show val Q ≤ pw Q.length by omega) pb.1
    have k2 := Int.mul_le_mul_of_nonneg_right (show val P ≤ pw P.length by omega) (show 0 ≤ pw Q.length by have := pw_pos Q.length; omega)
    rw [← pw_add] at k2
    have pp := pw_pos (P.length + Q.length)
    rcases Int.lt_or_le (O.getD (P.length + Q.length) 0) 2 with h5 | h5
    · omega
    · have k3 := Int.mul_le_mul_of_nonneg_left h5 (show 0 ≤ pw (P.length + Q.length) by omega)
      omega
  obtain ⟨j, hj, rfl⟩ := List.mem_iff_getElem.1 hd
  have e : O.getD j 0 = O[j] := by rw [List.getD_eq_getElem?_getD, List.getElem?_eq_getElem hj]; rfl
  rw [← e]
  rcases Nat.lt_or_ge j (P.length + Q.length) with h5 | h5
  · exact h3 j h5
  · rw [show j = P.length + Q.length by omega]
    exact ⟨(h4 _).1, top⟩

end Go.Proofs.Ytgfajfepmflfhaa
