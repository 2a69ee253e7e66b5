import Derived.Test.YtcjndnadibbcbaaGreatJBF
section
/- The specification of layer 2: Exact, whole, over this seat's translation (written by mk_exb.py). -/
namespace Go.Proofs.YtcjndnadibbcbaaGreat
set_option linter.unusedVariables false
set_option linter.unusedSimpArgs false
open Go.RowKit Go.Shelf

end Go.Proofs.YtcjndnadibbcbaaGreat
end
section
/- The specification of layers 1 and 2: SameInts, SameCurrents, over this seat's translation. -/
namespace Go.Proofs.YtcjndnadibbcbaaGreat
set_option linter.unusedVariables false
set_option linter.unusedSimpArgs false
open Go.RowKit Go.Shelf

theorem same_drop {xs ys : List Int} {k : Nat} {a b : Int} (h1 : xs[k]? = some a) (h2 : ys[k]? = some b) : decide (xs.drop k = ys.drop k) = (decide (a = b) && decide (xs.drop (k + 1) = ys.drop (k + 1))) := by
  obtain ⟨k1, rfl⟩ := List.getElem?_eq_some_iff.1 h1
  obtain ⟨k2, rfl⟩ := List.getElem?_eq_some_iff.1 h2
  rw [List.drop_eq_getElem_cons k1, List.drop_eq_getElem_cons k2]
  simp only [List.cons.injEq, Bool.decide_and]

set_option maxRecDepth 100000 in
set_option maxHeartbeats 4000000 in
theorem rsame_any (A B : Option Addr) (la ca lb cb : Nat) (xs ys : List Int) (w : World) (h1 : IsT 1 intCells w A la xs) (h2 : IsT 1 intCells w B lb ys) (l1 : la ≤ 1000000000000000) (l2 : lb ≤ 1000000000000000) :
    Calls Tryz.prog 12 #[.slice A la ca, .slice B lb cb] w (Ret (.bool (decide (xs = ys))) w) := by
  have n1 := h1.1
  have n2 := h2.1
  have I1 := Lib.hid h1
  have I2 := Lib.hid h2
  have HG : Hid (decide (xs = ys) = decide (xs.drop 0 = ys.drop 0)) := Lib.hid rfl
  have HN : Hid (la ≠ lb → false = decide (xs = ys)) := Lib.hid (fun h => (decide_eq_false (fun e => h (by rw [← n1, ← n2, e]))).symm)
  clear h1 h2
  generalize decide (xs = ys) = G at *
  by_cases b1 : la = lb
  · have e1 := (int_eq la lb).trans (decide_eq_true b1)
    subst b1
    have HG2 : Hid (decide (xs.drop 0 = ys.drop 0) = G) := Lib.hid HG.out.symm
    clear HG HN
    go_enter Tryz.func12, Tryz.ntmps12
    go_wp2_with fail
    go_loopw [5] (fun i wr => ∃ j : Nat, j ≤ la ∧ i = .int .i64 j ∧ Hid (decide (xs.drop j = ys.drop j) = G) ∧ Below w.heap.size w wr) (fun i _ => la - (intOf i).toNat)
    case atStart => exact ⟨0, Nat.zero_le _, rfl, HG2, by (with_reducible repeat first | exact Below.refl _ _ | assumption | ((first | refine Below.setCell ?_ ?_ _ | refine Below.alloc ?_ ?_ _); rotate_left; exact (by first | omega | (simp; done) | (simp; omega))) | refine Below.drew ?_ | refine Below_drewN ?_ _)⟩
    case round =>
      obtain ⟨j, hj, rfl, hG, hB⟩ := hrel
      have sz0 := hB.size
      by_cases hlt : j < la
      · obtain ⟨-, hcl1⟩ := I1.out.below hB
        obtain ⟨b1, o1, rfl, hb1, hcl1⟩ := hcl1 (by omega)
        obtain ⟨-, hcl2⟩ := I2.out.below hB
        obtain ⟨b2, o2, rfl, hb2, hcl2⟩ := hcl2 (by omega)
        obtain ⟨x, hx⟩ : ∃ x, xs[j]? = some x := ⟨_, List.getElem?_eq_getElem (by omega)⟩
        obtain ⟨y, hy⟩ : ∃ y, ys[j]? = some y := ⟨_, List.getElem?_eq_getElem (by omega)⟩
        have x0 : wr.cell? ⟨b1, o1 + j, none⟩ = some (.int .i64 x) := by have h := hcl1 j x hx 0 _ rfl; simpa using h
        have y0 : wr.cell? ⟨b2, o2 + j, none⟩ = some (.int .i64 y) := by have h := hcl2 j y hy 0 _ rfl; simpa using h
        have HS := Lib.hid (hG.out.symm.trans (same_drop hx hy))
        clear hcl1 hcl2 hx hy hG
        have HZ : Hid (∀ w' : World, Below wr.heap.size wr w' → (Below wr.heap.size wr w' ∧ w'.cell? ⟨b1, o1 + j, none⟩ = some (.int .i64 x) ∧ w'.cell? ⟨b2, o2 + j, none⟩ = some (.int .i64 y))) := Lib.hid (fun w' h => ⟨h, (h.cell (p := ⟨b1, o1 + j, none⟩) hb1).trans x0, (h.cell (p := ⟨b2, o2 + j, none⟩) hb2).trans y0⟩)
        have jc : (0 : Int) ≤ j := by omega
        have jn : ((j : Int)).toNat = j := by omega
        by_cases e : x = y
        · have e2 : (x == y) = true := by rw [e]; simp
          have HT : Hid (decide (xs.drop (j + 1) = ys.drop (j + 1)) = G) := Lib.hid (by rw [HS.out, decide_eq_true e, Bool.true_and])
          clear HS
          go_wp2_with fail
          go_region_held3 (fun w' => Below wr.heap.size wr w' ∧ w'.cell? ⟨b1, o1 + j, none⟩ = some (.int .i64 x) ∧ w'.cell? ⟨b2, o2 + j, none⟩ = some (.int .i64 y)) (exact HZ.out _ (by (repeat first | with_reducible exact Below.refl _ _ | with_reducible assumption | with_reducible exact (‹Below _ _ _ ∧ _›).1 | (with_reducible refine Below.alloc ?_ ?_ _; rotate_left; exact (by first | omega | (simp; done) | (simp; omega))) | with_reducible refine Below.drew ?_))) (fail)
          all_goals go_wp2_with fail
          go_roundw
          case rel => exact ⟨j + 1, by omega, by go_num, HT, by (with_reducible repeat first | exact Below.refl _ _ | assumption | ((first | refine Below.setCell ?_ ?_ _ | refine Below.alloc ?_ ?_ _); rotate_left; exact (by first | omega | (simp; done) | (simp; omega))) | refine Below.drew ?_ | refine Below_drewN ?_ _)⟩
          case measure => simp [intOf]; omega
        · have e2 : (x == y) = false := by rw [beq_eq_false_iff_ne]; exact e
          have HT : Hid (false = G) := Lib.hid (by rw [HS.out, decide_eq_false e, Bool.false_and])
          clear HS
          go_wp2_with fail
          go_region_held3 (fun w' => Below wr.heap.size wr w' ∧ w'.cell? ⟨b1, o1 + j, none⟩ = some (.int .i64 x) ∧ w'.cell? ⟨b2, o2 + j, none⟩ = some (.int .i64 y)) (exact HZ.out _ (by (repeat first | with_reducible exact Below.refl _ _ | with_reducible assumption | with_reducible exact (‹Below _ _ _ ∧ _›).1 | (with_reducible refine Below.alloc ?_ ?_ _; rotate_left; exact (by first | omega | (simp; done) | (simp; omega))) | with_reducible refine Below.drew ?_))) (fail)
          all_goals go_wp2_with fail
          go_ret
          exact ⟨by rw [← HT.out]; rfl, by (with_reducible repeat first | exact Below.refl _ _ | assumption | ((first | refine Below.setCell ?_ ?_ _ | refine Below.alloc ?_ ?_ _); rotate_left; exact (by first | omega | (simp; done) | (simp; omega))) | refine Below.drew ?_ | refine Below_drewN ?_ _)⟩
      · have HT : Hid (true = G) := Lib.hid (by
          have h := hG.out
          rw [List.drop_of_length_le (by omega), List.drop_of_length_le (by omega)] at h
          exact h)
        clear hG
        go_wp2_with fail
        go_ret
        exact ⟨by rw [← HT.out]; rfl, by (with_reducible repeat first | exact Below.refl _ _ | assumption | ((first | refine Below.setCell ?_ ?_ _ | refine Below.alloc ?_ ?_ _); rotate_left; exact (by first | omega | (simp; done) | (simp; omega))) | refine Below.drew ?_ | refine Below_drewN ?_ _)⟩
  · have e1 := (int_eq la lb).trans (decide_eq_false b1)
    have HT := Lib.hid (HN.out b1)
    clear HG HN
    go_enter Tryz.func12, Tryz.ntmps12
    go_wp2_with fail
    go_ret
    exact ⟨by rw [← HT.out]; rfl, by (with_reducible repeat first | exact Below.refl _ _ | assumption | ((first | refine Below.setCell ?_ ?_ _ | refine Below.alloc ?_ ?_ _); rotate_left; exact (by first | omega | (simp; done) | (simp; omega))) | refine Below.drew ?_ | refine Below_drewN ?_ _)⟩

end Go.Proofs.YtcjndnadibbcbaaGreat
end
section
/- The specification of layer 2: SameCurrents, over this seat's translation (written by mk_smc.py). -/
namespace Go.Proofs.YtcjndnadibbcbaaGreat
set_option linter.unusedVariables false
set_option linter.unusedSimpArgs false
open Go.RowKit Go.Shelf

end Go.Proofs.YtcjndnadibbcbaaGreat
end
