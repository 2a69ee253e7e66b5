/- Plain arithmetic of where two points stand in a text; it imports nothing of the program. -/
import Derived.Test.YtgfajfepmflfhaaDoorRdQ
namespace Go.Proofs.YtgfajfepmflfhaaDoor
set_option linter.unusedVariables false
set_option linter.unusedSimpArgs false
open Go.Lib

def dotsAt (L : List UInt8) (j : Nat) : Prop := L[j]? = some 46 ∧ L[j + 1]? = some 46
theorem fmt_dots (a b : Int) : dotsAt (fmtL a b) (itoa a).length := by
  unfold dotsAt fmtL
  constructor <;> simp [List.getElem?_append]
theorem fmt_first (a b : Int) (k : Nat) (hk : k < (itoa a).length) : ¬dotsAt (fmtL a b) k := by
  rintro ⟨h, _⟩
  have e : (fmtL a b)[k]? = some (itoa a)[k] := by
    unfold fmtL
    rw [List.append_assoc, List.getElem?_append_left hk, List.getElem?_eq_getElem hk]
  rw [e] at h
  injection h with h
  exact itoa_no a _ (List.getElem_mem hk) h
theorem fmt_len (a b : Int) : (itoa a).length + 2 ≤ (fmtL a b).length := by
  unfold fmtL
  simp
theorem fmt_at {L : List UInt8} {a b : Int} {k : Nat} (e : L = fmtL a b) (hf : ∀ j, j < k → ¬dotsAt L j) (hk : dotsAt L k) : L.take k = itoa a ∧ L.drop (k + 2) = itoa b := by
  subst e
  have h1 : ¬(itoa a).length < k := fun h => hf _ h (fmt_dots a b)
  have h2 : ¬k < (itoa a).length := fun h => fmt_first a b k h hk
  have h3 : k = (itoa a).length := by omega
  subst h3
  unfold fmtL
  constructor
  · rw [List.append_assoc, List.take_left]
  · rw [show (itoa a).length + 2 = (itoa a ++ [46, 46]).length by simp, List.drop_left]
theorem split_dots {L : List UInt8} {k : Nat} (hk : dotsAt L k) : L = L.take k ++ [46, 46] ++ L.drop (k + 2) := by
  obtain ⟨h1, h2⟩ := hk
  obtain ⟨k1, e1⟩ := List.getElem?_eq_some_iff.1 h1
  obtain ⟨k2, e2⟩ := List.getElem?_eq_some_iff.1 h2
  conv => lhs; rw [← List.take_append_drop k L, List.drop_eq_getElem_cons k1, List.drop_eq_getElem_cons k2, e1, e2]
  simp
theorem dots_yes {L : List UInt8} {k : Nat} {m n : Int} (hk : dotsAt L k) (h1 : L.take k = itoa m) (h2 : L.drop (k + 2) = itoa n) : L = fmtL m n := by
  have := split_dots hk
  rwa [h1, h2] at this
theorem vld_num {a b : Int} (h : a ≤ b ∧ -1000000000000000 ≤ a ∧ b ≤ 1000000000000000) : isNum (itoa a) ∧ isNum (itoa b) :=
  ⟨⟨a, by omega, by omega, rfl⟩, ⟨b, by omega, by omega, rfl⟩⟩
theorem dots_none {L : List UInt8} (h : ∀ j, j + 1 < L.length → ¬dotsAt L j) (a b : Int) : L ≠ fmtL a b := by
  rintro rfl
  have := fmt_len a b
  exact h _ (by omega) (fmt_dots a b)

end Go.Proofs.YtgfajfepmflfhaaDoor
