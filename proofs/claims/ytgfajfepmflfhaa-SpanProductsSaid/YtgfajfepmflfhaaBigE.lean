/- The specification's whole numbers of any length: Plus of any two numbers of at most 32 digits of base 10000, and Compare, over this seat's translation. -/
import Derived.Test.YtgfajfepmflfhaaBigD
namespace Go.Proofs.Ytgfajfepmflfhaa
set_option linter.unusedVariables false
set_option linter.unusedSimpArgs false
open Go.RowKit

theorem big_of_digs {neg : Bool} {z t : Int} {w w' : World} {e : Ending} (h : RetDigs neg z w e w') (hz : 0 ≤ z) (ht : t = if neg = true then -z else z) : RetNew w.heap.size t w e w' := by
  obtain ⟨A, k, cap, R, rfl, hI, h1, h2, h3, h4, h5⟩ := h
  refine ⟨_, rfl, ⟨A, k, cap, R, ?_, hI, h1, h2, h3, ?_⟩, h5⟩
  · have hn := canon_nil h3
    have hk : 0 < k ↔ z ≠ 0 := by
      rw [← h4, ← hI.1]
      constructor
      · intro h0 h6
        rw [hn.1 h6] at h0
        exact absurd h0 (by decide)
      · intro h0
        rcases Nat.eq_zero_or_pos R.length with h6 | h6
        · exact absurd (hn.2 (List.eq_nil_of_length_eq_zero h6)) h0
        · exact h6
    have e : (neg && decide (0 < k)) = decide (t < 0) := by
      cases neg
      · rw [if_neg (by decide)] at ht
        simp; omega
      · rw [if_pos rfl] at ht
        rw [Bool.true_and]
        by_cases h0 : z = 0
        · rw [decide_eq_false (by rw [hk]; exact fun h => h h0), decide_eq_false (by omega)]
        · rw [decide_eq_true (hk.2 h0), decide_eq_true (by omega)]
    rw [e]
  · cases neg
    · rw [if_neg (by decide)] at ht
      omega
    · rw [if_pos rfl] at ht
      omega

theorem plus_new (a b : Int) (u v : Value) (w : World) (hu : BigV w u a) (hv : BigV w v b) (ha : max a (-a) < pw 32) (hb : max b (-b) < pw 32) :
    Calls Try.prog 52 #[u, v] w (RetNew w.heap.size (a + b) w) := by
  obtain ⟨A, n, ca, P, rfl, h1, h2, h3, h4, h5⟩ := hu
  obtain ⟨B, m, cb, Q, rfl, k1, k2, k3, k4, k5⟩ := hv
  have ln := len_le_of_val h4 (n := 32) (by rw [h5]; exact ha)
  have lm := len_le_of_val k4 (n := 32) (by rw [k5]; exact hb)
  rw [h1.1] at ln
  rw [k1.1] at lm
  have p0 := (val_bound h4.1).1
  have q0 := (val_bound k4.1).1
  by_cases hs : decide (a < 0) = decide (b < 0)
  · rw [← hs]
    refine (plus_same (decide (a < 0)) A B n m ca cb (max n m) P Q w h1 k1 (by omega) (by omega) (by omega) (by omega) h4.1 k4.1).mono ?_
    intro e w' h
    refine big_of_digs h (by omega) ?_
    by_cases h6 : a < 0
    · rw [decide_eq_true h6] at hs ⊢
      have h7 : b < 0 := of_decide_eq_true hs.symm
      rw [if_pos rfl]; omega
    · rw [decide_eq_false h6] at hs ⊢
      have h7 : ¬b < 0 := of_decide_eq_false hs.symm
      rw [if_neg (by decide)]; omega
  · have hne : (decide (a < 0) == decide (b < 0)) = false := by simpa using hs
    have hab : (a < 0 ∧ ¬b < 0) ∨ (¬a < 0 ∧ b < 0) := by
      by_cases h6 : a < 0
      · by_cases h7 : b < 0
        · exact absurd (by rw [decide_eq_true h6, decide_eq_true h7]) hs
        · exact .inl ⟨h6, h7⟩
      · by_cases h7 : b < 0
        · exact .inr ⟨h6, h7⟩
        · exact absurd (by rw [decide_eq_false h6, decide_eq_false h7]) hs
    by_cases hle : val Q ≤ val P
    · refine (plus_down _ _ A B n m ca cb P Q w hne h1 k1 ln lm h4 k4 hle).mono ?_
      intro e w' h
      refine big_of_digs h (by omega) ?_
      rcases hab with ⟨h6, h7⟩ | ⟨h6, h7⟩
      · rw [decide_eq_true h6, if_pos rfl]; omega
      · rw [decide_eq_false h6, if_neg (by decide)]; omega
    · refine (plus_up _ _ A B n m ca cb P Q w hne h1 k1 ln lm h4 k4 (by omega)).mono ?_
      intro e w' h
      refine big_of_digs h (by omega) ?_
      rcases hab with ⟨h6, h7⟩ | ⟨h6, h7⟩
      · rw [decide_eq_false h7, if_neg (by decide)]; omega
      · rw [decide_eq_true h7, if_pos rfl]; omega

theorem plus_big (a b : Int) (u v : Value) (w : World) (hu : BigV w u a) (hv : BigV w v b) (ha : max a (-a) < pw 32) (hb : max b (-b) < pw 32) :
    Calls Try.prog 52 #[u, v] w (RetBig (a + b) w) :=
  (plus_new a b u v w hu hv ha hb).mono fun _ _ h => h.big

/-- Comparing. -/
def cmpB (a b : Int) : Int := if a = b then 0 else if a < b then -1 else 1

end Go.Proofs.Ytgfajfepmflfhaa
