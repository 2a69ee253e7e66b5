/- Package span: contracts of the truths (known, Not, the steps of And and Or, fold over a list), where the tables hold what the program lays into them, over this seat's translation. -/
import Derived.Test.YtohicokoegodjaaDoorSpanX
namespace Go.Proofs.YtohicokoegodjaaDoor
set_option linter.unusedVariables false
set_option linter.unusedSimpArgs false
open Go.RowKit

/-- A truth that is none of the three counts as Maybe. -/
def tr (x : Int) : Int := if x = 0 then 0 else if x = 1 then 1 else 2
def notL (x : Int) : Int := if x = 0 then 1 else if x = 1 then 0 else 2
def andL (a b : Int) : Int := if a = 0 then 0 else if b = 0 then 0 else if a = 1 then b else 2
def orL (a b : Int) : Int := if a = 1 then 1 else if b = 1 then 1 else if a = 0 then b else 2

/-- The three tables hold what the program lays into them. -/
structure Tabs (w : World) : Prop where
  and : ∀ a b : Nat, a < 3 → b < 3 → w.cell? ⟨0, a * 3 + b, none⟩ = some (.int .i64 (andL a b))
  or : ∀ a b : Nat, a < 3 → b < 3 → w.cell? ⟨1, a * 3 + b, none⟩ = some (.int .i64 (orL a b))
  not : ∀ a : Nat, a < 3 → w.cell? ⟨2, a, none⟩ = some (.int .i64 (notL a))
  size : 3 ≤ w.heap.size
theorem Tabs.below {w w1 : World} (h : Tabs w) (hb : Below w.heap.size w w1) : Tabs w1 := by
  have hs := h.size
  refine ⟨fun a b ha hb' => ?_, fun a b ha hb' => ?_, fun a ha => ?_, Nat.le_trans hs hb.size⟩
  · rw [hb.cell (p := ⟨0, a * 3 + b, none⟩) (by show 0 < _; omega)]; exact h.and a b ha hb'
  · rw [hb.cell (p := ⟨1, a * 3 + b, none⟩) (by show 1 < _; omega)]; exact h.or a b ha hb'
  · rw [hb.cell (p := ⟨2, a, none⟩) (by show 2 < _; omega)]; exact h.not a ha

theorem tr_cases (x : Int) : (x = 0 ∧ tr x = 0) ∨ (x = 1 ∧ tr x = 1) ∨ (x ≠ 0 ∧ x ≠ 1 ∧ tr x = 2) := by
  unfold tr
  by_cases h0 : x = 0
  · left; simp [h0]
  · by_cases h1 : x = 1
    · right; left; simp [h1]
    · right; right; simp [h0, h1]

set_option maxHeartbeats 400000 in
theorem known_any (x : Int) (w : World) : Calls Tryd.prog 28 #[.int .i64 x] w fun e w' => e = .returned (.int .i64 (tr x)) ∧ w = w' := by
  rcases tr_cases x with ⟨rfl, h⟩ | ⟨rfl, h⟩ | ⟨h0, h1, h⟩
  · rw [h]
    go_enter Tryd.func28, Tryd.ntmps28
    go_wp2
    go_ret
    exact ⟨rfl, rfl⟩
  · rw [h]
    go_enter Tryd.func28, Tryd.ntmps28
    go_wp2
    go_ret
    exact ⟨rfl, rfl⟩
  · rw [h]
    have b0 : (x != 0) = true := by rw [bne_iff_ne]; exact h0
    have b1 : (x != 1) = true := by rw [bne_iff_ne]; exact h1
    clear h
    go_enter Tryd.func28, Tryd.ntmps28
    go_wp2
    go_ret
    exact ⟨rfl, rfl⟩

set_option maxHeartbeats 400000 in
theorem not_any (x : Int) (w : World) (hT : Tabs w) : Calls Tryd.prog 14 #[.int .i64 x] w fun e w' => e = .returned (.int .i64 (notL x)) ∧ w = w' := by
  have key : ∀ k : Nat, k < 3 → tr x = k → notL x = notL k → Calls Tryd.prog 14 #[.int .i64 x] w fun e w' => e = .returned (.int .i64 (notL x)) ∧ w = w' := by
    intro k hk ht hn
    have hc := hT.not k hk
    rw [hn]
    have HT := Lib.hid ht
    clear ht hn hT
    generalize notL k = v at *
    go_enter Tryd.func14, Tryd.ntmps14
    go_wp2_with (go_at_call 28; refine (known_any _ _).mono ?_; rintro e w1 ⟨rfl, rfl⟩; rw [HT.out])
    go_ret
    exact ⟨rfl, rfl⟩
  rcases tr_cases x with ⟨rfl, h⟩ | ⟨rfl, h⟩ | ⟨h0, h1, h⟩
  · exact key 0 (by omega) h rfl
  · exact key 1 (by omega) h rfl
  · exact key 2 (by omega) h (by simp [notL, h0, h1])

end Go.Proofs.YtohicokoegodjaaDoor
