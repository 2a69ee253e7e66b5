/- Plain arithmetic of numbers in digits of base 10,000, the lowest first. -/
import Derived.Test.YtgfajfepmflfhaaSpanA
namespace Go.Proofs.Ytgfajfepmflfhaa
set_option linter.unusedVariables false
set_option linter.unusedSimpArgs false

/-- The number that digits make. -/
def val : List Int → Int
  | [] => 0
  | d :: r => d + 10000 * val r
def pw : Nat → Int
  | 0 => 1
  | n + 1 => 10000 * pw n
def Digs (l : List Int) : Prop := ∀ d ∈ l, 0 ≤ d ∧ d < 10000
/-- No high zeros. -/
def Canon (l : List Int) : Prop := Digs l ∧ ∀ d, l.getLast? = some d → d ≠ 0

theorem pw_pos (n : Nat) : 1 ≤ pw n := by
  induction n with
  | zero => exact Int.le_refl _
  | succ n ih => show 1 ≤ 10000 * pw n; omega
theorem pw_add (m n : Nat) : pw (m + n) = pw m * pw n := by
  induction m with
  | zero => rw [Nat.zero_add]; show _ = 1 * _; rw [Int.one_mul]
  | succ m ih => rw [Nat.succ_add]; show 10000 * pw (m + n) = 10000 * pw m * pw n; rw [ih, Int.mul_assoc]
theorem pw_succ (n : Nat) : pw (n + 1) = 10000 * pw n := rfl
theorem pw_mono {m n : Nat} (h : m ≤ n) : pw m ≤ pw n := by
  induction n with
  | zero => rw [Nat.le_zero.1 h]; exact Int.le_refl _
  | succ n ih =>
    rcases Nat.lt_or_ge m (n + 1) with h1 | h1
    · have := ih (by omega)
      have := pw_pos n
      rw [pw_succ]; omega
    · rw [show m = n + 1 by omega]; exact Int.le_refl _

theorem val_append (l k : List Int) : val (l ++ k) = val l + pw l.length * val k := by
  induction l with
  | nil => show val k = 0 + 1 * val k; omega
  | cons d l ih =>
    show d + 10000 * val (l ++ k) = d + 10000 * val l + 10000 * pw l.length * val k
    rw [ih, Int.mul_add, Int.mul_assoc, Int.add_assoc]
theorem val_snoc (l : List Int) (d : Int) : val (l ++ [d]) = val l + pw l.length * d := by
  rw [val_append]
  show _ + _ * (d + 10000 * 0) = _
  rw [Int.mul_zero, Int.add_zero]

theorem Digs.snoc {l : List Int} {d : Int} (h : Digs l) (h0 : 0 ≤ d) (h1 : d < 10000) : Digs (l ++ [d]) := fun x hx => by
  rcases List.mem_append.1 hx with hx | hx
  · exact h x hx
  · rw [List.mem_singleton.1 hx]; exact ⟨h0, h1⟩
theorem Digs.tail {d : Int} {l : List Int} (h : Digs (d :: l)) : (0 ≤ d ∧ d < 10000) ∧ Digs l := ⟨h d (List.mem_cons_self ..), fun x hx => h x (List.mem_cons_of_mem _ hx)⟩

theorem val_bound {l : List Int} (h : Digs l) : 0 ≤ val l ∧ val l < pw l.length := by
  induction l with
  | nil => exact ⟨Int.le_refl _, by show (0 : Int) < 1; omega⟩
  | cons d l ih =>
    obtain ⟨hd, hl⟩ := h.tail
    have := ih hl
    show 0 ≤ d + 10000 * val l ∧ d + 10000 * val l < 10000 * pw l.length
    omega

theorem canon_low {l : List Int} (h : Canon l) (hne : l ≠ []) : pw (l.length - 1) ≤ val l := by
  have hd : Digs l.dropLast := fun x hx => h.1 x ((List.dropLast_sublist l).subset hx)
  have hb := val_bound hd
  have hl := h.1 (l.getLast hne) (List.getLast_mem hne)
  have h0 := h.2 (l.getLast hne) (List.getLast?_eq_some_getLast hne)
  have e := val_snoc l.dropLast (l.getLast hne)
  rw [List.dropLast_concat_getLast hne, List.length_dropLast] at e
  have hp := pw_pos (l.length - 1)
  have := Int.mul_le_mul_of_nonneg_left (show 1 ≤ l.getLast hne by omega) (show (0 : Int) ≤ pw (l.length - 1) by omega)
  omega
theorem canon_nil {l : List Int} (h : Canon l) : val l = 0 ↔ l = [] := by
  constructor
  · intro h0
    rcases List.eq_nil_or_concat l with h1 | ⟨k, d, rfl⟩
    · exact h1
    · have h2 := canon_low h (by simp)
      have h3 := pw_pos ((k.concat d).length - 1)
      omega
  · rintro rfl; rfl

/-- A number to one place added: the number grows so much. -/
theorem val_set (l : List Int) (p : Nat) (v : Int) (hp : p < l.length) : val (l.set p (l.getD p 0 + v)) = val l + pw p * v := by
  induction l generalizing p with
  | nil => simp at hp
  | cons d l ih =>
    cases p with
    | zero => show (d + v) + 10000 * val l = d + 10000 * val l + 1 * v; omega
    | succ p =>
      have := ih p (by simpa using hp)
      show d + 10000 * val (l.set p (l.getD p 0 + v)) = d + 10000 * val l + 10000 * pw p * v
      rw [this, Int.mul_add, Int.mul_assoc, Int.add_assoc]

/-- Sizes against lengths. -/
theorem len_le_of_val {l : List Int} (h : Canon l) {n : Nat} (hv : val l < pw n) : l.length ≤ n := by
  rcases Nat.lt_or_ge n l.length with h1 | h1
  · have hne : l ≠ [] := by intro e; rw [e] at h1; simp at h1
    have h2 := canon_low h hne
    have h3 := pw_mono (show n ≤ l.length - 1 by omega)
    omega
  · exact h1

theorem neg_tmod (m : Int) (h : 0 ≤ m) : (-m).tmod 10000 = -(m % 10000) := by rw [Int.neg_tmod, Int.tmod_eq_emod_of_nonneg h]
theorem neg_tdiv (m : Int) (h : 0 ≤ m) : (-m).tdiv 10000 = -(m / 10000) := by rw [Int.neg_tdiv, Int.tdiv_eq_ediv_of_nonneg h]

/-- What is known while a number's digits are taken off: m is left, l has been taken. -/
def Taken (z m : Int) (l : List Int) : Prop := z = val l + pw l.length * m ∧ Digs l ∧ (m = 0 → ∀ d, l.getLast? = some d → d ≠ 0) ∧ (0 < m → pw l.length * m ≤ z)
theorem taken_start (z : Int) (h : 0 ≤ z) : Taken z z [] := ⟨by show z = 0 + 1 * z; omega, fun d h => (by cases h), fun _ d h => (by cases h), fun _ => (by show 1 * z ≤ z; omega)⟩
theorem taken_step {z m : Int} {l : List Int} (h : Taken z m l) (hm : 0 < m) : Taken z (m / 10000) (l ++ [m % 10000]) := by
  obtain ⟨h1, h2, h3, h4⟩ := h
  have e : m = 10000 * (m / 10000) + m % 10000 := (Int.mul_ediv_add_emod m 10000).symm
  have k0 := Int.emod_nonneg m (show (10000 : Int) ≠ 0 by decide)
  have k1 := Int.emod_lt_of_pos m (show (0 : Int) < 10000 by decide)
  refine ⟨?_, h2.snoc k0 k1, fun h0 d hd => ?_, fun _ => ?_⟩
  · rw [val_snoc, List.length_append, List.length_singleton, pw_succ, h1, Int.add_assoc]
    congr 1
    conv => lhs; rw [e]
    rw [Int.mul_add, ← Int.mul_assoc, Int.mul_comm (pw l.length) 10000]
    omega
  · rw [List.getLast?_concat] at hd
    have : d = m % 10000 := by simpa using hd.symm
    omega
  · have h5 := val_bound (h2.snoc k0 k1)
    rw [List.length_append, List.length_singleton, pw_succ]
    have hv := val_bound h2
    have : pw l.length * m = 10000 * pw l.length * (m / 10000) + pw l.length * (m % 10000) := by
      conv => lhs; rw [e]
      rw [Int.mul_add, ← Int.mul_assoc, Int.mul_comm (pw l.length) 10000]
    have h6 := Int.mul_nonneg (show 0 ≤ pw l.length by have := pw_pos l.length; omega) k0
    omega
theorem taken_end {z : Int} {l : List Int} (h : Taken z 0 l) : Canon l ∧ val l = z := by
  obtain ⟨h1, h2, h3, _⟩ := h
  rw [Int.mul_zero, Int.add_zero] at h1
  exact ⟨⟨h2, h3 rfl⟩, h1.symm⟩
theorem pw_five : pw 5 = 100000000000000000000 := by decide
theorem taken_len {z m : Int} {l : List Int} (h : Taken z m l) (hm : 0 < m) (hz : z ≤ 9223372036854775808) : l.length < 5 := by
  have h4 := h.2.2.2 hm
  rcases Nat.lt_or_ge l.length 5 with h5 | h5
  · exact h5
  · have h6 := pw_mono h5
    rw [pw_five] at h6
    have := Int.mul_le_mul_of_nonneg_left (show 1 ≤ m by omega) (show 0 ≤ pw l.length by omega)
    omega

end Go.Proofs.Ytgfajfepmflfhaa
