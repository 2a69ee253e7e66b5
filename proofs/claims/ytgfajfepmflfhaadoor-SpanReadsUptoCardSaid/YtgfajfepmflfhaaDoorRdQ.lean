/- Plain arithmetic of reading decimal numbers: the digits behind a sign; it imports nothing of the program. -/
import Derived.Test.YtgfajfepmflfhaaDoorRdP
namespace Go.Proofs.YtgfajfepmflfhaaDoor
set_option linter.unusedVariables false
set_option linter.unusedSimpArgs false
open Go.Lib

theorem rd_lt (l : List UInt8) : ∀ acc, (∀ c ∈ l, isDig c) → rd acc l < (acc + 1) * 10 ^ l.length := by
  induction l with
  | nil => intro acc _; show acc < (acc + 1) * 1; omega
  | cons c l ih =>
    intro acc h
    have hc := h c (List.mem_cons_self ..)
    unfold isDig at hc
    have := ih (acc * 10 + (c.toNat - 48)) (fun e he => h e (List.mem_cons_of_mem _ he))
    show rd (acc * 10 + (c.toNat - 48)) l < (acc + 1) * 10 ^ (l.length + 1)
    refine Nat.lt_of_lt_of_le this ?_
    rw [Nat.pow_succ', ← Nat.mul_assoc]
    exact Nat.mul_le_mul_right _ (by omega)
theorem rd_take_lt (l : List UInt8) (k : Nat) (hl : l.length ≤ 16) (h : ∀ c ∈ l.take k, isDig c) : rd 0 (l.take k) < 10000000000000000 := by
  have := rd_lt (l.take k) 0 h
  have h2 : (l.take k).length ≤ 16 := by rw [List.length_take]; omega
  have h3 : 10 ^ (l.take k).length ≤ 10 ^ 16 := Nat.pow_le_pow_right (by decide) h2
  omega
theorem take_succ_digs {l : List UInt8} {k : Nat} (hk : k < l.length) (h : ∀ c ∈ l.take k, isDig c) (hc : isDig l[k]) : ∀ c ∈ l.take (k + 1), isDig c := by
  intro c hm
  rw [List.take_succ_eq_append_getElem hk] at hm
  rcases List.mem_append.1 hm with hm | hm
  · exact h c hm
  · rw [List.mem_singleton.1 hm]; exact hc
theorem rd_take_succ {l : List UInt8} {k : Nat} (hk : k < l.length) : rd 0 (l.take (k + 1)) = rd 0 (l.take k) * 10 + (l[k].toNat - 48) := by
  rw [List.take_succ_eq_append_getElem hk, rd_append]
  rfl
theorem dec_len : ∀ (k u : Nat), u < 10 ^ (k + 1) → (decDigits u).length ≤ k + 1 := by
  intro k
  induction k with
  | zero => intro u h; rw [dec_small (by omega)]; simp
  | succ k ih =>
    intro u h
    by_cases h2 : u < 10
    · rw [dec_small h2]; simp
    · rw [dec_big h2, List.length_append]
      have := ih (u / 10) (by rw [Nat.pow_succ] at h; omega)
      simp
      omega

/-- What stands behind a number's sign. -/
def bodyOf : List UInt8 → List UInt8
  | 45 :: r => r
  | l => l
theorem body_neg (r : List UInt8) : bodyOf (45 :: r) = r := rfl
theorem body_pos {c : UInt8} {r : List UInt8} (h : c ≠ 45) : bodyOf (c :: r) = c :: r := by
  unfold bodyOf
  split
  · rename_i e; injection e with e; exact absurd e h
  · rfl
theorem dec_head (u : Nat) : ∃ c r, decDigits u = c :: r ∧ c ≠ 45 := by
  cases h : decDigits u with
  | nil => exact absurd h (dec_ne u)
  | cons c r =>
    refine ⟨c, r, rfl, fun e => ?_⟩
    have := dec_digs u c (by rw [h]; exact List.mem_cons_self ..)
    unfold isDig at this
    subst e
    exact absurd this (by decide)
theorem body_itoa (m : Int) : bodyOf (itoa m) = decDigits m.natAbs := by
  unfold itoa
  by_cases h : m < 0
  · rw [if_pos h]; rfl
  · rw [if_neg h, show m.toNat = m.natAbs by omega]
    obtain ⟨c, r, e, hc⟩ := dec_head m.natAbs
    rw [e, body_pos hc]
theorem itoa_neg {m : Int} (h : m < 0) : itoa m = 45 :: decDigits m.natAbs := by unfold itoa; rw [if_pos h]
theorem itoa_pos {m : Int} (h : 0 ≤ m) : itoa m = decDigits m.natAbs := by unfold itoa; rw [if_neg (by omega), show m.toNat = m.natAbs by omega]
/-- Whether a text is a number's. -/
def isNum (L : List UInt8) : Prop := ∃ n : Int, -1000000000000000 ≤ n ∧ n ≤ 1000000000000000 ∧ L = itoa n
theorem no_len {L l : List UInt8} (hb : bodyOf L = l) (hl : ¬(1 ≤ l.length ∧ l.length ≤ 16)) : ¬isNum L := by
  rintro ⟨n, h0, h1, rfl⟩
  rw [body_itoa] at hb
  subst hb
  have := dec_len 15 n.natAbs (by omega)
  have h2 : decDigits n.natAbs ≠ [] := dec_ne _
  have : 1 ≤ (decDigits n.natAbs).length := by
    cases h : decDigits n.natAbs with
    | nil => exact absurd h h2
    | cons c r => simp
  omega
theorem no_dig {L l : List UInt8} {c : UInt8} (hb : bodyOf L = l) (hc : c ∈ l) (hd : ¬isDig c) : ¬isNum L := by
  rintro ⟨n, h0, h1, rfl⟩
  rw [body_itoa] at hb
  subst hb
  exact hd (dec_digs _ _ hc)
/-- A text that is a number's is that of the number read. -/
theorem num_neg {l : List UInt8} (h : isNum (45 :: l)) : -1000000000000000 ≤ -(rd 0 l : Int) ∧ -(rd 0 l : Int) ≤ 1000000000000000 ∧ 45 :: l = itoa (-(rd 0 l : Int)) := by
  obtain ⟨n, h0, h1, e⟩ := h
  have hn : n < 0 := by
    by_cases h : n < 0
    · exact h
    · rw [itoa_pos (by omega)] at e
      obtain ⟨c, r, e2, hc⟩ := dec_head n.natAbs
      rw [e2] at e
      injection e with e
      exact absurd e.symm hc
  have e0 := e
  rw [itoa_neg hn] at e
  injection e with _ e
  rw [e, rd_dec, show -(n.natAbs : Int) = n by omega]
  exact ⟨h0, h1, itoa_neg hn ▸ rfl⟩
theorem num_pos {L : List UInt8} (hne : ∀ r, L ≠ 45 :: r) (h : isNum L) : -1000000000000000 ≤ (rd 0 L : Int) ∧ (rd 0 L : Int) ≤ 1000000000000000 ∧ L = itoa (rd 0 L : Int) := by
  obtain ⟨n, h0, h1, rfl⟩ := h
  have hn : 0 ≤ n := by
    by_cases h : n < 0
    · exact absurd (itoa_neg h) (hne _)
    · omega
  rw [itoa_pos hn, rd_dec, show ((n.natAbs : Nat) : Int) = n by omega]
  exact ⟨h0, h1, (itoa_pos hn).symm⟩

end Go.Proofs.YtgfajfepmflfhaaDoor
