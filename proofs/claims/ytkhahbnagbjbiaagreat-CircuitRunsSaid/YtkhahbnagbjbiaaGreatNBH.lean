import Derived.Test.YtkhahbnagbjbiaaGreatNBG
section
/- The specification of layer 2: Exact, whole, over this seat's translation (written by mk_exb.py). -/
namespace Go.Proofs.YtkhahbnagbjbiaaGreat
set_option linter.unusedVariables false
set_option linter.unusedSimpArgs false
open Go.RowKit Go.Shelf

end Go.Proofs.YtkhahbnagbjbiaaGreat
end
section
/- The specification of layers 1 and 2: SameInts, SameCurrents, over this seat's translation. -/
namespace Go.Proofs.YtkhahbnagbjbiaaGreat
set_option linter.unusedVariables false
set_option linter.unusedSimpArgs false
open Go.RowKit Go.Shelf

theorem same_drop {xs ys : List Int} {k : Nat} {a b : Int} (h1 : xs[k]? = some a) (h2 : ys[k]? = some b) : decide (xs.drop k = ys.drop k) = (decide (a = b) && decide (xs.drop (k + 1) = ys.drop (k + 1))) := by
  obtain ⟨k1, rfl⟩ := List.getElem?_eq_some_iff.1 h1
  obtain ⟨k2, rfl⟩ := List.getElem?_eq_some_iff.1 h2
  rw [List.drop_eq_getElem_cons k1, List.drop_eq_getElem_cons k2]
  simp only [List.cons.injEq, Bool.decide_and]

set_option maxRecDepth 100000 in
set_option maxHeartbeats 4000000 in
theorem rsame_any (A B : Option Addr) (la ca lb cb : Nat) (xs ys : List Int) (w : World) (h1 : IsT 1 intCells w A la xs) (h2 : IsT 1 intCells w B lb ys) (l1 : la ≤ 1000000000000000) (l2 : lb ≤ 1000000000000000) :
    Calls Tryz.prog 30 #[.slice A la ca, .slice B lb cb] w (Ret (.bool (decide (xs = ys))) w) := by
  have n1 := h1.1
  have n2 := h2.1
  have I1 := Lib.hid h1
  have I2 := Lib.hid h2
  have HG : Hid (decide (xs = ys) = decide (xs.drop 0 = ys.drop 0)) := Lib.hid rfl
  have HN : Hid (la ≠ lb → false = decide (xs = ys)) := Lib.hid (fun h => (decide_eq_false (fun e => h (by rw [← n1, ← n2, e]))).symm)
  clear h1 h2
  generalize decide (xs = ys) = G at *
  by_cases b1 : la = lb
  · have e1 := (int_eq la lb).trans (decide_eq_true b1)
    subst b1
    have HG2 : Hid (decide (xs.drop 0 = ys.drop 0) = G) := Lib.hid HG.out.symm
    clear HG HN
    go_enter Tryz.func30, Tryz.ntmps30
    go_wp2_with fail
    go_loopw [5] (fun i wr => ∃ j : Nat, j ≤ la ∧ i = .int .i64 j ∧ Hid (decide (xs.drop j = ys.drop j) = G) ∧ Below w.heap.size w wr) (fun i _ => la - (intOf i).toNat)
    case atStart => exact ⟨0, Nat.zero_le _, rfl, HG2, by (with_reducible repeat first | exact Below.refl _ _ | assumption | ((first | refine Below.setCell ?_ ?_ _ | refine Below.alloc ?_ ?_ _); rotate_left; exact (by first | omega | (simp; done) | (simp; omega))) | refine Below.drew ?_ | refine Below_drewN ?_ _)⟩
    case round =>
      obtain ⟨j, hj, rfl, hG, hB⟩ := hrel
      have sz0 := hB.size
      by_cases hlt : j < la
      · obtain ⟨-, hcl1⟩ := I1.out.below hB
        obtain ⟨b1, o1, rfl, hb1, hcl1⟩ := hcl1 (by omega)
        obtain ⟨-, hcl2⟩ := I2.out.below hB
        obtain ⟨b2, o2, rfl, hb2, hcl2⟩ := hcl2 (by omega)
        obtain ⟨x, hx⟩ : ∃ x, xs[j]? = some x := ⟨_, List.getElem?_eq_getElem (by omega)⟩
        obtain ⟨y, hy⟩ : ∃ y, ys[j]? = some y := ⟨_, List.getElem?_eq_getElem (by omega)⟩
        have x0 : wr.cell? ⟨b1, o1 + j, none⟩ = some (.int .i64 x) := by have h := hcl1 j x hx 0 _ rfl; simpa using h
        have y0 : wr.cell? ⟨b2, o2 + j, none⟩ = some (.int .i64 y) := by have h := hcl2 j y hy 0 _ rfl; simpa using h
        have HS := Lib.hid (hG.out.symm.trans (same_drop hx hy))
        clear hcl1 hcl2 hx hy hG
        have HZ : Hid (∀ w' : World, Below wr.heap.size wr w' → (Below wr.heap.size wr w' ∧ w'.cell? ⟨b1, o1 + j, none⟩ = some (.int .i64 x) ∧ w'.cell? ⟨b2, o2 + j, none⟩ = some (.int .i64 y))) := Lib.hid (fun w' h => ⟨h, (h.cell (p := ⟨b1, o1 + j, none⟩) hb1).trans x0, (h.cell (p := ⟨b2, o2 + j, none⟩) hb2).trans y0⟩)
        have jc : (0 : Int) ≤ j := by omega
        have jn : ((j : Int)).toNat = j := by omega
        by_cases e : x = y
        · have e2 : (x == y) = true := by rw [e]; simp
          have HT : Hid (decide (xs.drop (j + 1) = ys.drop (j + 1)) = G) := Lib.hid (by rw [HS.out, decide_eq_true e, Bool.true_and])
          clear HS
          go_wp2_with fail
          go_region_held3 (fun w' => Below wr.heap.size wr w' ∧ w'.cell? ⟨b1, o1 + j, none⟩ = some (.int .i64 x) ∧ w'.cell? ⟨b2, o2 + j, none⟩ = some (.int .i64 y)) (exact HZ.out _ (by (repeat first | with_reducible exact Below.refl _ _ | with_reducible assumption | with_reducible exact (‹Below _ _ _ ∧ _›).1 | (with_reducible refine Below.alloc ?_ ?_ _; rotate_left; exact (by first | omega | (simp; done) | (simp; omega))) | with_reducible refine Below.drew ?_))) (fail)
          all_goals go_wp2_with fail
          go_roundw
          case rel => exact ⟨j + 1, by omega, by go_num, HT, by (with_reducible repeat first | exact Below.refl _ _ | assumption | ((first | refine Below.setCell ?_ ?_ _ | refine Below.alloc ?_ ?_ _); rotate_left; exact (by first | omega | (simp; done) | (simp; omega))) | refine Below.drew ?_ | refine Below_drewN ?_ _)⟩
          case measure => simp [intOf]; omega
        · have e2 : (x == y) = false := by rw [beq_eq_false_iff_ne]; exact e
          have HT : Hid (false = G) := Lib.hid (by rw [HS.out, decide_eq_false e, Bool.false_and])
          clear HS
          go_wp2_with fail
          go_region_held3 (fun w' => Below wr.heap.size wr w' ∧ w'.cell? ⟨b1, o1 + j, none⟩ = some (.int .i64 x) ∧ w'.cell? ⟨b2, o2 + j, none⟩ = some (.int .i64 y)) (exact HZ.out _ (by (repeat first | with_reducible exact Below.refl _ _ | with_reducible assumption | with_reducible exact (‹Below _ _ _ ∧ _›).1 | (with_reducible refine Below.alloc ?_ ?_ _; rotate_left; exact (by first | omega | (simp; done) | (simp; omega))) | with_reducible refine Below.drew ?_))) (fail)
          all_goals go_wp2_with fail
          go_ret
          exact ⟨by rw [← HT.out]; rfl, by (with_reducible repeat first | exact Below.refl _ _ | assumption | ((first | refine Below.setCell ?_ ?_ _ | refine Below.alloc ?_ ?_ _); rotate_left; exact (by first | omega | (simp; done) | (simp; omega))) | refine Below.drew ?_ | refine Below_drewN ?_ _)⟩
      · have HT : Hid (true = G) := Lib.hid (by
          have h := hG.out
          rw [List.drop_of_length_le (by omega), List.drop_of_length_le (by omega)] at h
          exact h)
        clear hG
        go_wp2_with fail
        go_ret
        exact ⟨by rw [← HT.out]; rfl, by (with_reducible repeat first | exact Below.refl _ _ | assumption | ((first | refine Below.setCell ?_ ?_ _ | refine Below.alloc ?_ ?_ _); rotate_left; exact (by first | omega | (simp; done) | (simp; omega))) | refine Below.drew ?_ | refine Below_drewN ?_ _)⟩
  · have e1 := (int_eq la lb).trans (decide_eq_false b1)
    have HT := Lib.hid (HN.out b1)
    clear HG HN
    go_enter Tryz.func30, Tryz.ntmps30
    go_wp2_with fail
    go_ret
    exact ⟨by rw [← HT.out]; rfl, by (with_reducible repeat first | exact Below.refl _ _ | assumption | ((first | refine Below.setCell ?_ ?_ _ | refine Below.alloc ?_ ?_ _); rotate_left; exact (by first | omega | (simp; done) | (simp; omega))) | refine Below.drew ?_ | refine Below_drewN ?_ _)⟩

end Go.Proofs.YtkhahbnagbjbiaaGreat
end
section
/- The specification of layer 2: SameCurrents, over this seat's translation (written by mk_smc.py). -/
namespace Go.Proofs.YtkhahbnagbjbiaaGreat
set_option linter.unusedVariables false
set_option linter.unusedSimpArgs false
open Go.RowKit Go.Shelf

set_option maxRecDepth 100000 in
set_option maxHeartbeats 4000000 in
theorem rsameC_any (P Q : CurR) (C D : CurD) (w : World) (h1 : IsC w P C) (h2 : IsC w Q D) :
    Calls Tryz.prog 29 #[P.v, Q.v] w (Ret (.bool (decide (C.coils = D.coils) && (decide (C.shells = D.shells) && decide (C.plasma = D.plasma)))) w) := by
  have H1 := Lib.hid (fun W (hb : Below w.heap.size w W) => rsame_any P.A Q.A P.la P.ca Q.la Q.ca C.coils D.coils W (h1.below hb).coils (h2.below hb).coils h1.ka h2.ka)
  have H2 := Lib.hid (fun W (hb : Below w.heap.size w W) => rsame_any P.B Q.B P.lb P.cb Q.lb Q.cb C.shells D.shells W (h1.below hb).shells (h2.below hb).shells h1.kb h2.kb)
  have H3 := Lib.hid (fun W (hb : Below w.heap.size w W) => rsame_any P.C Q.C P.lc P.cc Q.lc Q.cc C.plasma D.plasma W (h1.below hb).plasma (h2.below hb).plasma h1.kc h2.kc)
  clear h1 h2
  generalize decide (C.coils = D.coils) = x1 at *
  generalize decide (C.shells = D.shells) = x2 at *
  generalize decide (C.plasma = D.plasma) = x3 at *
  obtain ⟨A1, B1, C1, na, qa, nb, qb, nc, qc⟩ := P
  obtain ⟨A2, B2, C2, ma, ra, mb, rb, mc, rc⟩ := Q
  dsimp only [CurR.v] at *
  go_enter Tryz.func29, Tryz.ntmps29
  go_upto_region 1 with (fail)
  have m0 : (((w.alloc (.cells #[.slice A1 na qa, .slice B1 nb qb, .slice C1 nc qc] 32)).alloc (.cells #[.slice A2 ma ra, .slice B2 mb rb, .slice C2 mc rc] 32))).cell? ⟨w.heap.size, 0, none⟩ = some (.slice A1 na qa) := by go_simp
  have m1 : (((w.alloc (.cells #[.slice A1 na qa, .slice B1 nb qb, .slice C1 nc qc] 32)).alloc (.cells #[.slice A2 ma ra, .slice B2 mb rb, .slice C2 mc rc] 32))).cell? ⟨w.heap.size, 1, none⟩ = some (.slice B1 nb qb) := by go_simp
  have m2 : (((w.alloc (.cells #[.slice A1 na qa, .slice B1 nb qb, .slice C1 nc qc] 32)).alloc (.cells #[.slice A2 ma ra, .slice B2 mb rb, .slice C2 mc rc] 32))).cell? ⟨w.heap.size, 2, none⟩ = some (.slice C1 nc qc) := by go_simp
  have q0 : (((w.alloc (.cells #[.slice A1 na qa, .slice B1 nb qb, .slice C1 nc qc] 32)).alloc (.cells #[.slice A2 ma ra, .slice B2 mb rb, .slice C2 mc rc] 32))).cell? ⟨w.heap.size + 1, 0, none⟩ = some (.slice A2 ma ra) := by go_simp
  have q1 : (((w.alloc (.cells #[.slice A1 na qa, .slice B1 nb qb, .slice C1 nc qc] 32)).alloc (.cells #[.slice A2 ma ra, .slice B2 mb rb, .slice C2 mc rc] 32))).cell? ⟨w.heap.size + 1, 1, none⟩ = some (.slice B2 mb rb) := by go_simp
  have q2 : (((w.alloc (.cells #[.slice A1 na qa, .slice B1 nb qb, .slice C1 nc qc] 32)).alloc (.cells #[.slice A2 ma ra, .slice B2 mb rb, .slice C2 mc rc] 32))).cell? ⟨w.heap.size + 1, 2, none⟩ = some (.slice C2 mc rc) := by go_simp
  have hB0 : Below w.heap.size w (((w.alloc (.cells #[.slice A1 na qa, .slice B1 nb qb, .slice C1 nc qc] 32)).alloc (.cells #[.slice A2 ma ra, .slice B2 mb rb, .slice C2 mc rc] 32))) := by (with_reducible repeat first | exact Below.refl _ _ | assumption | ((first | refine Below.setCell ?_ ?_ _ | refine Below.alloc ?_ ?_ _); rotate_left; exact (by first | omega | (simp; done) | (simp; omega))) | refine Below.drew ?_ | refine Below_drewN ?_ _)
  have hz : w.heap.size + 1 < (((w.alloc (.cells #[.slice A1 na qa, .slice B1 nb qb, .slice C1 nc qc] 32)).alloc (.cells #[.slice A2 ma ra, .slice B2 mb rb, .slice C2 mc rc] 32))).heap.size := by simp
  obtain ⟨W0, hW0⟩ : ∃ W, ((w.alloc (.cells #[.slice A1 na qa, .slice B1 nb qb, .slice C1 nc qc] 32)).alloc (.cells #[.slice A2 ma ra, .slice B2 mb rb, .slice C2 mc rc] 32)) = W := ⟨_, rfl⟩
  rw [hW0] at m0 m1 m2 q0 q1 q2 hB0 hz ⊢
  clear hW0
  have FA := Lib.hid (BoxL.mk3 (W := W0) (by omega) m0 m1 m2)
  have FB := Lib.hid (BoxL.mk3 (W := W0) hz q0 q1 q2)
  clear m0 m1 m2 q0 q1 q2
  have HB : Hid (∀ w' : World, Below W0.heap.size W0 w' → Below w.heap.size w w') := Lib.hid (fun w' h => hB0.trans (h.mono (by omega)))
  have m0 := (FA.out.below (Below.refl _ _)).at 0 (.slice A1 na qa) rfl
  have m1 := (FA.out.below (Below.refl _ _)).at 1 (.slice B1 nb qb) rfl
  have m2 := (FA.out.below (Below.refl _ _)).at 2 (.slice C1 nc qc) rfl
  have q0 := (FB.out.below (Below.refl _ _)).at 0 (.slice A2 ma ra) rfl
  have q1 := (FB.out.below (Below.refl _ _)).at 1 (.slice B2 mb rb) rfl
  have q2 := (FB.out.below (Below.refl _ _)).at 2 (.slice C2 mc rc) rfl
  cases x1
  · rw [Bool.false_and]
    go_wp2_with fail
    refine (H1.out _ (HB.out _ (by (repeat first | with_reducible exact Below.refl _ _ | with_reducible assumption | with_reducible exact (‹Below _ _ _ ∧ _›).1 | (with_reducible refine Below.alloc ?_ ?_ _; rotate_left; exact (by first | omega | (simp; done) | (simp; omega))) | with_reducible refine Below.drew ?_)))).mono ?_
    rintro e w1 ⟨rfl, hb1⟩
    have hB1 : Below W0.heap.size W0 w1 := Below.trans (by (repeat first | with_reducible exact Below.refl _ _ | with_reducible assumption | with_reducible exact (‹Below _ _ _ ∧ _›).1 | (with_reducible refine Below.alloc ?_ ?_ _; rotate_left; exact (by first | omega | (simp; done) | (simp; omega))) | with_reducible refine Below.drew ?_)) (hb1.mono (by (try simp only [World.size_alloc, size_drew]); omega))
    have sz1 := hB1.size
    clear hb1 m0 m1 m2 q0 q1 q2
    have m0 := (FA.out.below hB1).at 0 (.slice A1 na qa) rfl
    have m1 := (FA.out.below hB1).at 1 (.slice B1 nb qb) rfl
    have m2 := (FA.out.below hB1).at 2 (.slice C1 nc qc) rfl
    have q0 := (FB.out.below hB1).at 0 (.slice A2 ma ra) rfl
    have q1 := (FB.out.below hB1).at 1 (.slice B2 mb rb) rfl
    have q2 := (FB.out.below hB1).at 2 (.slice C2 mc rc) rfl
    go_wp2_with fail
    go_ret
    exact ⟨rfl, HB.out _ (by (repeat first | with_reducible exact Below.refl _ _ | with_reducible assumption | with_reducible exact (‹Below _ _ _ ∧ _›).1 | (with_reducible refine Below.alloc ?_ ?_ _; rotate_left; exact (by first | omega | (simp; done) | (simp; omega))) | with_reducible refine Below.drew ?_))⟩
  · rw [Bool.true_and]
    go_wp2_with fail
    refine (H1.out _ (HB.out _ (by (repeat first | with_reducible exact Below.refl _ _ | with_reducible assumption | with_reducible exact (‹Below _ _ _ ∧ _›).1 | (with_reducible refine Below.alloc ?_ ?_ _; rotate_left; exact (by first | omega | (simp; done) | (simp; omega))) | with_reducible refine Below.drew ?_)))).mono ?_
    rintro e w1 ⟨rfl, hb1⟩
    have hB1 : Below W0.heap.size W0 w1 := Below.trans (by (repeat first | with_reducible exact Below.refl _ _ | with_reducible assumption | with_reducible exact (‹Below _ _ _ ∧ _›).1 | (with_reducible refine Below.alloc ?_ ?_ _; rotate_left; exact (by first | omega | (simp; done) | (simp; omega))) | with_reducible refine Below.drew ?_)) (hb1.mono (by (try simp only [World.size_alloc, size_drew]); omega))
    have sz1 := hB1.size
    clear hb1 m0 m1 m2 q0 q1 q2
    have m0 := (FA.out.below hB1).at 0 (.slice A1 na qa) rfl
    have m1 := (FA.out.below hB1).at 1 (.slice B1 nb qb) rfl
    have m2 := (FA.out.below hB1).at 2 (.slice C1 nc qc) rfl
    have q0 := (FB.out.below hB1).at 0 (.slice A2 ma ra) rfl
    have q1 := (FB.out.below hB1).at 1 (.slice B2 mb rb) rfl
    have q2 := (FB.out.below hB1).at 2 (.slice C2 mc rc) rfl
    cases x2
    · rw [Bool.false_and]
      go_wp2_with fail
      refine (H2.out _ (HB.out _ (by (repeat first | with_reducible exact Below.refl _ _ | with_reducible assumption | with_reducible exact (‹Below _ _ _ ∧ _›).1 | (with_reducible refine Below.alloc ?_ ?_ _; rotate_left; exact (by first | omega | (simp; done) | (simp; omega))) | with_reducible refine Below.drew ?_)))).mono ?_
      rintro e w2 ⟨rfl, hb2⟩
      have hB2 : Below W0.heap.size W0 w2 := Below.trans (by (repeat first | with_reducible exact Below.refl _ _ | with_reducible assumption | with_reducible exact (‹Below _ _ _ ∧ _›).1 | (with_reducible refine Below.alloc ?_ ?_ _; rotate_left; exact (by first | omega | (simp; done) | (simp; omega))) | with_reducible refine Below.drew ?_)) (hb2.mono (by (try simp only [World.size_alloc, size_drew]); omega))
      have sz2 := hB2.size
      clear hb2 m0 m1 m2 q0 q1 q2
      have m0 := (FA.out.below hB2).at 0 (.slice A1 na qa) rfl
      have m1 := (FA.out.below hB2).at 1 (.slice B1 nb qb) rfl
      have m2 := (FA.out.below hB2).at 2 (.slice C1 nc qc) rfl
      have q0 := (FB.out.below hB2).at 0 (.slice A2 ma ra) rfl
      have q1 := (FB.out.below hB2).at 1 (.slice B2 mb rb) rfl
      have q2 := (FB.out.below hB2).at 2 (.slice C2 mc rc) rfl
      go_wp2_with fail
      go_ret
      exact ⟨rfl, HB.out _ (by (repeat first | with_reducible exact Below.refl _ _ | with_reducible assumption | with_reducible exact (‹Below _ _ _ ∧ _›).1 | (with_reducible refine Below.alloc ?_ ?_ _; rotate_left; exact (by first | omega | (simp; done) | (simp; omega))) | with_reducible refine Below.drew ?_))⟩
    · rw [Bool.true_and]
      go_wp2_with fail
      refine (H2.out _ (HB.out _ (by (repeat first | with_reducible exact Below.refl _ _ | with_reducible assumption | with_reducible exact (‹Below _ _ _ ∧ _›).1 | (with_reducible refine Below.alloc ?_ ?_ _; rotate_left; exact (by first | omega | (simp; done) | (simp; omega))) | with_reducible refine Below.drew ?_)))).mono ?_
      rintro e w2 ⟨rfl, hb2⟩
      have hB2 : Below W0.heap.size W0 w2 := Below.trans (by (repeat first | with_reducible exact Below.refl _ _ | with_reducible assumption | with_reducible exact (‹Below _ _ _ ∧ _›).1 | (with_reducible refine Below.alloc ?_ ?_ _; rotate_left; exact (by first | omega | (simp; done) | (simp; omega))) | with_reducible refine Below.drew ?_)) (hb2.mono (by (try simp only [World.size_alloc, size_drew]); omega))
      have sz2 := hB2.size
      clear hb2 m0 m1 m2 q0 q1 q2
      have m0 := (FA.out.below hB2).at 0 (.slice A1 na qa) rfl
      have m1 := (FA.out.below hB2).at 1 (.slice B1 nb qb) rfl
      have m2 := (FA.out.below hB2).at 2 (.slice C1 nc qc) rfl
      have q0 := (FB.out.below hB2).at 0 (.slice A2 ma ra) rfl
      have q1 := (FB.out.below hB2).at 1 (.slice B2 mb rb) rfl
      have q2 := (FB.out.below hB2).at 2 (.slice C2 mc rc) rfl
      go_wp2_with fail
      refine (H3.out _ (HB.out _ (by (repeat first | with_reducible exact Below.refl _ _ | with_reducible assumption | with_reducible exact (‹Below _ _ _ ∧ _›).1 | (with_reducible refine Below.alloc ?_ ?_ _; rotate_left; exact (by first | omega | (simp; done) | (simp; omega))) | with_reducible refine Below.drew ?_)))).mono ?_
      rintro e w3 ⟨rfl, hb3⟩
      have hB3 : Below W0.heap.size W0 w3 := Below.trans (by (repeat first | with_reducible exact Below.refl _ _ | with_reducible assumption | with_reducible exact (‹Below _ _ _ ∧ _›).1 | (with_reducible refine Below.alloc ?_ ?_ _; rotate_left; exact (by first | omega | (simp; done) | (simp; omega))) | with_reducible refine Below.drew ?_)) (hb3.mono (by (try simp only [World.size_alloc, size_drew]); omega))
      have sz3 := hB3.size
      clear hb3 m0 m1 m2 q0 q1 q2
      have m0 := (FA.out.below hB3).at 0 (.slice A1 na qa) rfl
      have m1 := (FA.out.below hB3).at 1 (.slice B1 nb qb) rfl
      have m2 := (FA.out.below hB3).at 2 (.slice C1 nc qc) rfl
      have q0 := (FB.out.below hB3).at 0 (.slice A2 ma ra) rfl
      have q1 := (FB.out.below hB3).at 1 (.slice B2 mb rb) rfl
      have q2 := (FB.out.below hB3).at 2 (.slice C2 mc rc) rfl
      go_wp2_with fail
      go_ret
      exact ⟨rfl, HB.out _ (by (repeat first | with_reducible exact Below.refl _ _ | with_reducible assumption | with_reducible exact (‹Below _ _ _ ∧ _›).1 | (with_reducible refine Below.alloc ?_ ?_ _; rotate_left; exact (by first | omega | (simp; done) | (simp; omega))) | with_reducible refine Below.drew ?_))⟩

end Go.Proofs.YtkhahbnagbjbiaaGreat
end
