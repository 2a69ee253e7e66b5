import Derived.Test.YtjjajleiladbhaaGreatDoorKAR
import Derived.Test.YtjjajleiladbhaaGreatDoorKBJ
import Derived.Test.YtjjajleiladbhaaGreatDoorKBK
import Derived.Test.YtjjajleiladbhaaGreatDoorKBM
import Derived.Test.YtjjajleiladbhaaGreatDoorRows
import Derived.KernelRfl
import Derived.Laws.StructEq
section
/- The specification of layer 2: SameCurrents, over this seat's translation (written by mk_smc.py). -/
namespace Go.Proofs.YtjjajleiladbhaaGreatDoor
set_option linter.unusedVariables false
set_option linter.unusedSimpArgs false
open Go.RowKit Go.Shelf

set_option maxRecDepth 100000 in
set_option maxHeartbeats 4000000 in
theorem rsameC_any (P Q : CurR) (C D : CurD) (w : World) (h1 : IsC w P C) (h2 : IsC w Q D) :
    Calls Tryz.prog 35 #[P.v, Q.v] w (Ret (.bool (decide (C.coils = D.coils) && (decide (C.shells = D.shells) && decide (C.plasma = D.plasma)))) w) := by
  have H1 := Lib.hid (fun W (hb : Below w.heap.size w W) => rsame_any P.A Q.A P.la P.ca Q.la Q.ca C.coils D.coils W (h1.below hb).coils (h2.below hb).coils h1.ka h2.ka)
  have H2 := Lib.hid (fun W (hb : Below w.heap.size w W) => rsame_any P.B Q.B P.lb P.cb Q.lb Q.cb C.shells D.shells W (h1.below hb).shells (h2.below hb).shells h1.kb h2.kb)
  have H3 := Lib.hid (fun W (hb : Below w.heap.size w W) => rsame_any P.C Q.C P.lc P.cc Q.lc Q.cc C.plasma D.plasma W (h1.below hb).plasma (h2.below hb).plasma h1.kc h2.kc)
  clear h1 h2
  generalize decide (C.coils = D.coils) = x1 at *
  generalize decide (C.shells = D.shells) = x2 at *
  generalize decide (C.plasma = D.plasma) = x3 at *
  obtain ⟨A1, B1, C1, na, qa, nb, qb, nc, qc⟩ := P
  obtain ⟨A2, B2, C2, ma, ra, mb, rb, mc, rc⟩ := Q
  dsimp only [CurR.v] at *
  go_enter Tryz.func35, Tryz.ntmps35
  go_upto_region 1 with (fail)
  have m0 : (((w.alloc (.cells #[.slice A1 na qa, .slice B1 nb qb, .slice C1 nc qc] 34)).alloc (.cells #[.slice A2 ma ra, .slice B2 mb rb, .slice C2 mc rc] 34))).cell? ⟨w.heap.size, 0, none⟩ = some (.slice A1 na qa) := by go_simp
  have m1 : (((w.alloc (.cells #[.slice A1 na qa, .slice B1 nb qb, .slice C1 nc qc] 34)).alloc (.cells #[.slice A2 ma ra, .slice B2 mb rb, .slice C2 mc rc] 34))).cell? ⟨w.heap.size, 1, none⟩ = some (.slice B1 nb qb) := by go_simp
  have m2 : (((w.alloc (.cells #[.slice A1 na qa, .slice B1 nb qb, .slice C1 nc qc] 34)).alloc (.cells #[.slice A2 ma ra, .slice B2 mb rb, .slice C2 mc rc] 34))).cell? ⟨w.heap.size, 2, none⟩ = some (.slice C1 nc qc) := by go_simp
  have q0 : (((w.alloc (.cells #[.slice A1 na qa, .slice B1 nb qb, .slice C1 nc qc] 34)).alloc (.cells #[.slice A2 ma ra, .slice B2 mb rb, .slice C2 mc rc] 34))).cell? ⟨w.heap.size + 1, 0, none⟩ = some (.slice A2 ma ra) := by go_simp
  have q1 : (((w.alloc (.cells #[.slice A1 na qa, .slice B1 nb qb, .slice C1 nc qc] 34)).alloc (.cells #[.slice A2 ma ra, .slice B2 mb rb, .slice C2 mc rc] 34))).cell? ⟨w.heap.size + 1, 1, none⟩ = some (.slice B2 mb rb) := by go_simp
  have q2 : (((w.alloc (.cells #[.slice A1 na qa, .slice B1 nb qb, .slice C1 nc qc] 34)).alloc (.cells #[.slice A2 ma ra, .slice B2 mb rb, .slice C2 mc rc] 34))).cell? ⟨w.heap.size + 1, 2, none⟩ = some (.slice C2 mc rc) := by go_simp
  have hB0 : Below w.heap.size w (((w.alloc (.cells #[.slice A1 na qa, .slice B1 nb qb, .slice C1 nc qc] 34)).alloc (.cells #[.slice A2 ma ra, .slice B2 mb rb, .slice C2 mc rc] 34))) := by (with_reducible repeat first | exact Below.refl _ _ | assumption | ((first | refine Below.setCell ?_ ?_ _ | refine Below.alloc ?_ ?_ _); rotate_left; exact (by first | omega | (simp; done) | (simp; omega))) | refine Below.drew ?_ | refine Below_drewN ?_ _)
  have hz : w.heap.size + 1 < (((w.alloc (.cells #[.slice A1 na qa, .slice B1 nb qb, .slice C1 nc qc] 34)).alloc (.cells #[.slice A2 ma ra, .slice B2 mb rb, .slice C2 mc rc] 34))).heap.size := by simp
  obtain ⟨W0, hW0⟩ : ∃ W, ((w.alloc (.cells #[.slice A1 na qa, .slice B1 nb qb, .slice C1 nc qc] 34)).alloc (.cells #[.slice A2 ma ra, .slice B2 mb rb, .slice C2 mc rc] 34)) = W := ⟨_, rfl⟩
  rw [hW0] at m0 m1 m2 q0 q1 q2 hB0 hz ⊢
  clear hW0
  have FA := Lib.hid (BoxL.mk3 (W := W0) (by omega) m0 m1 m2)
  have FB := Lib.hid (BoxL.mk3 (W := W0) hz q0 q1 q2)
  clear m0 m1 m2 q0 q1 q2
  have HB : Hid (∀ w' : World, Below W0.heap.size W0 w' → Below w.heap.size w w') := Lib.hid (fun w' h => hB0.trans (h.mono (by omega)))
  have m0 := (FA.out.below (Below.refl _ _)).at 0 (.slice A1 na qa) rfl
  have m1 := (FA.out.below (Below.refl _ _)).at 1 (.slice B1 nb qb) rfl
  have m2 := (FA.out.below (Below.refl _ _)).at 2 (.slice C1 nc qc) rfl
  have q0 := (FB.out.below (Below.refl _ _)).at 0 (.slice A2 ma ra) rfl
  have q1 := (FB.out.below (Below.refl _ _)).at 1 (.slice B2 mb rb) rfl
  have q2 := (FB.out.below (Below.refl _ _)).at 2 (.slice C2 mc rc) rfl
  cases x1
  · rw [Bool.false_and]
    go_wp2_with fail
    refine (H1.out _ (HB.out _ (by (repeat first | with_reducible exact Below.refl _ _ | with_reducible assumption | with_reducible exact (‹Below _ _ _ ∧ _›).1 | (with_reducible refine Below.alloc ?_ ?_ _; rotate_left; exact (by first | omega | (simp; done) | (simp; omega))) | with_reducible refine Below.drew ?_)))).mono ?_
    rintro e w1 ⟨rfl, hb1⟩
    have hB1 : Below W0.heap.size W0 w1 := Below.trans (by (repeat first | with_reducible exact Below.refl _ _ | with_reducible assumption | with_reducible exact (‹Below _ _ _ ∧ _›).1 | (with_reducible refine Below.alloc ?_ ?_ _; rotate_left; exact (by first | omega | (simp; done) | (simp; omega))) | with_reducible refine Below.drew ?_)) (hb1.mono (by (try simp only [World.size_alloc, size_drew]); omega))
    have sz1 := hB1.size
    clear hb1 m0 m1 m2 q0 q1 q2
    have m0 := (FA.out.below hB1).at 0 (.slice A1 na qa) rfl
    have m1 := (FA.out.below hB1).at 1 (.slice B1 nb qb) rfl
    have m2 := (FA.out.below hB1).at 2 (.slice C1 nc qc) rfl
    have q0 := (FB.out.below hB1).at 0 (.slice A2 ma ra) rfl
    have q1 := (FB.out.below hB1).at 1 (.slice B2 mb rb) rfl
    have q2 := (FB.out.below hB1).at 2 (.slice C2 mc rc) rfl
    go_wp2_with fail
    go_ret
    exact ⟨rfl, HB.out _ (by (repeat first | with_reducible exact Below.refl _ _ | with_reducible assumption | with_reducible exact (‹Below _ _ _ ∧ _›).1 | (with_reducible refine Below.alloc ?_ ?_ _; rotate_left; exact (by first | omega | (simp; done) | (simp; omega))) | with_reducible refine Below.drew ?_))⟩
  · rw [Bool.true_and]
    go_wp2_with fail
    refine (H1.out _ (HB.out _ (by (repeat first | with_reducible exact Below.refl _ _ | with_reducible assumption | with_reducible exact (‹Below _ _ _ ∧ _›).1 | (with_reducible refine Below.alloc ?_ ?_ _; rotate_left; exact (by first | omega | (simp; done) | (simp; omega))) | with_reducible refine Below.drew ?_)))).mono ?_
    rintro e w1 ⟨rfl, hb1⟩
    have hB1 : Below W0.heap.size W0 w1 := Below.trans (by (repeat first | with_reducible exact Below.refl _ _ | with_reducible assumption | with_reducible exact (‹Below _ _ _ ∧ _›).1 | (with_reducible refine Below.alloc ?_ ?_ _; rotate_left; exact (by first | omega | (simp; done) | (simp; omega))) | with_reducible refine Below.drew ?_)) (hb1.mono (by (try simp only [World.size_alloc, size_drew]); omega))
    have sz1 := hB1.size
    clear hb1 m0 m1 m2 q0 q1 q2
    have m0 := (FA.out.below hB1).at 0 (.slice A1 na qa) rfl
    have m1 := (FA.out.below hB1).at 1 (.slice B1 nb qb) rfl
    have m2 := (FA.out.below hB1).at 2 (.slice C1 nc qc) rfl
    have q0 := (FB.out.below hB1).at 0 (.slice A2 ma ra) rfl
    have q1 := (FB.out.below hB1).at 1 (.slice B2 mb rb) rfl
    have q2 := (FB.out.below hB1).at 2 (.slice C2 mc rc) rfl
    cases x2
    · rw [Bool.false_and]
      go_wp2_with fail
      refine (H2.out _ (HB.out _ (by (repeat first | with_reducible exact Below.refl _ _ | with_reducible assumption | with_reducible exact (‹Below _ _ _ ∧ _›).1 | (with_reducible refine Below.alloc ?_ ?_ _; rotate_left; exact (by first | omega | (simp; done) | (simp; omega))) | with_reducible refine Below.drew ?_)))).mono ?_
      rintro e w2 ⟨rfl, hb2⟩
      have hB2 : Below W0.heap.size W0 w2 := Below.trans (by (repeat first | with_reducible exact Below.refl _ _ | with_reducible assumption | with_reducible exact (‹Below _ _ _ ∧ _›).1 | (with_reducible refine Below.alloc ?_ ?_ _; rotate_left; exact (by first | omega | (simp; done) | (simp; omega))) | with_reducible refine Below.drew ?_)) (hb2.mono (by (try simp only [World.size_alloc, size_drew]); omega))
      have sz2 := hB2.size
      clear hb2 m0 m1 m2 q0 q1 q2
      have m0 := (FA.out.below hB2).at 0 (.slice A1 na qa) rfl
      have m1 := (FA.out.below hB2).at 1 (.slice B1 nb qb) rfl
      have m2 := (FA.out.below hB2).at 2 (.slice C1 nc qc) rfl
      have q0 := (FB.out.below hB2).at 0 (.slice A2 ma ra) rfl
      have q1 := (FB.out.below hB2).at 1 (.slice B2 mb rb) rfl
      have q2 := (FB.out.below hB2).at 2 (.slice C2 mc rc) rfl
      go_wp2_with fail
      go_ret
      exact ⟨rfl, HB.out _ (by (repeat first | with_reducible exact Below.refl _ _ | with_reducible assumption | with_reducible exact (‹Below _ _ _ ∧ _›).1 | (with_reducible refine Below.alloc ?_ ?_ _; rotate_left; exact (by first | omega | (simp; done) | (simp; omega))) | with_reducible refine Below.drew ?_))⟩
    · rw [Bool.true_and]
      go_wp2_with fail
      refine (H2.out _ (HB.out _ (by (repeat first | with_reducible exact Below.refl _ _ | with_reducible assumption | with_reducible exact (‹Below _ _ _ ∧ _›).1 | (with_reducible refine Below.alloc ?_ ?_ _; rotate_left; exact (by first | omega | (simp; done) | (simp; omega))) | with_reducible refine Below.drew ?_)))).mono ?_
      rintro e w2 ⟨rfl, hb2⟩
      have hB2 : Below W0.heap.size W0 w2 := Below.trans (by (repeat first | with_reducible exact Below.refl _ _ | with_reducible assumption | with_reducible exact (‹Below _ _ _ ∧ _›).1 | (with_reducible refine Below.alloc ?_ ?_ _; rotate_left; exact (by first | omega | (simp; done) | (simp; omega))) | with_reducible refine Below.drew ?_)) (hb2.mono (by (try simp only [World.size_alloc, size_drew]); omega))
      have sz2 := hB2.size
      clear hb2 m0 m1 m2 q0 q1 q2
      have m0 := (FA.out.below hB2).at 0 (.slice A1 na qa) rfl
      have m1 := (FA.out.below hB2).at 1 (.slice B1 nb qb) rfl
      have m2 := (FA.out.below hB2).at 2 (.slice C1 nc qc) rfl
      have q0 := (FB.out.below hB2).at 0 (.slice A2 ma ra) rfl
      have q1 := (FB.out.below hB2).at 1 (.slice B2 mb rb) rfl
      have q2 := (FB.out.below hB2).at 2 (.slice C2 mc rc) rfl
      go_wp2_with fail
      refine (H3.out _ (HB.out _ (by (repeat first | with_reducible exact Below.refl _ _ | with_reducible assumption | with_reducible exact (‹Below _ _ _ ∧ _›).1 | (with_reducible refine Below.alloc ?_ ?_ _; rotate_left; exact (by first | omega | (simp; done) | (simp; omega))) | with_reducible refine Below.drew ?_)))).mono ?_
      rintro e w3 ⟨rfl, hb3⟩
      have hB3 : Below W0.heap.size W0 w3 := Below.trans (by (repeat first | with_reducible exact Below.refl _ _ | with_reducible assumption | with_reducible exact (‹Below _ _ _ ∧ _›).1 | (with_reducible refine Below.alloc ?_ ?_ _; rotate_left; exact (by first | omega | (simp; done) | (simp; omega))) | with_reducible refine Below.drew ?_)) (hb3.mono (by (try simp only [World.size_alloc, size_drew]); omega))
      have sz3 := hB3.size
      clear hb3 m0 m1 m2 q0 q1 q2
      have m0 := (FA.out.below hB3).at 0 (.slice A1 na qa) rfl
      have m1 := (FA.out.below hB3).at 1 (.slice B1 nb qb) rfl
      have m2 := (FA.out.below hB3).at 2 (.slice C1 nc qc) rfl
      have q0 := (FB.out.below hB3).at 0 (.slice A2 ma ra) rfl
      have q1 := (FB.out.below hB3).at 1 (.slice B2 mb rb) rfl
      have q2 := (FB.out.below hB3).at 2 (.slice C2 mc rc) rfl
      go_wp2_with fail
      go_ret
      exact ⟨rfl, HB.out _ (by (repeat first | with_reducible exact Below.refl _ _ | with_reducible assumption | with_reducible exact (‹Below _ _ _ ∧ _›).1 | (with_reducible refine Below.alloc ?_ ?_ _; rotate_left; exact (by first | omega | (simp; done) | (simp; omega))) | with_reducible refine Below.drew ?_))⟩

end Go.Proofs.YtjjajleiladbhaaGreatDoor
end
section
/- MachineMirrors: the law's walk, over this seat's translation (written by ax_lmi.py). -/
namespace Go.Proofs.YtjjajleiladbhaaGreatDoor
set_option linter.unusedVariables false
set_option linter.unusedSimpArgs false
open Go.RowKit

theorem isC_zero (w : World) : IsC w ⟨none, none, none, 0, 0, 0, 0, 0, 0⟩ ⟨[], [], []⟩ := ⟨IsT.nil _ _ _ _, IsT.nil _ _ _ _, IsT.nil _ _ _ _, Nat.le_refl _, Nat.le_refl _, Nat.le_refl _, by simp only; omega, by simp only; omega, by simp only; omega, by simp only; omega, by simp only; omega, by simp only; omega⟩
def zeroM : MachD := ⟨⟨#[]⟩, [], [], [], ⟨0, 0, 0, 0, 0⟩, []⟩
abbrev zeroR : MachR := ⟨none, none, none, none, 0, 0, 0, 0, 0, 0, 0, 0⟩
theorem isM_zero (w : World) : IsM w zeroR zeroM := ⟨IsT.nil _ _ _ _, IsT.nil _ _ _ _, IsT.nil _ _ _ _, IsT.nil _ _ _ _, Nat.le_refl _, Nat.le_refl _, Nat.le_refl _, Nat.le_refl _, by simp only; omega, by simp only; omega, by simp only; omega, by simp only; omega, by simp only; omega, by simp only; omega, by simp only; omega, by simp only; omega⟩

set_option maxRecDepth 100000 in
theorem mirrors_bad (R : MachR) (M : MachD) (Q : CurR) (C : CurD) (W : World) (hE : Env W) (hM : R.la ≤ 1000000000000000 → R.lb ≤ 1000000000000000 → R.lc ≤ 1000000000000000 → R.ld ≤ 1000000000000000 → IsM W R M) (hC : OpC W Q C) (hv : validC M C = false) : Calls Tryz.prog 10 #[(.agg (machCells R M)), Q.v] W (Ret (.bool true) W) := by
  refine calls_ax (vs := [(.agg (machCells R M)), Q.v]) Tryz.func10 rfl rfl ?_
  refine ac_seq ?_
  refine ac_region ?_
  refine al_new (fun b => .pointer (some ⟨b, 0, none⟩)) (r_box rfl rfl) rfl rfl rfl ?_
  intro b1
  refine al_new (fun b => .pointer (some ⟨b, 0, none⟩)) (r_box rfl rfl) rfl rfl rfl ?_
  intro b2
  refine al_q (q_assign rfl) rfl rfl rfl ?_
  refine al_end ?_
  refine aq_then ?_
  refine ac_seq ?_
  refine ac_seq ?_
  refine ac_region ?_
  refine al_q (q_loadAll (i := 1) rfl rfl Tryz.isAgg29 Tryz.sizeOf29 rfl) rfl rfl rfl ?_
  refine al_q (q_loadAll (i := 0) rfl rfl Tryz.isAgg34 Tryz.sizeOf34 rfl) rfl rfl rfl ?_
  refine al_call Tryz.call16 (.cons rfl (.cons rfl .nil)) rfl rfl (fun w1 hs1 => ?_)
  refine (brief2_any R M Q _).mono ?_
  rintro e u1 ⟨rfl, hb_1⟩
  refine ⟨_, rfl, hb_1, ?_⟩
  clear hs1
  refine al_q (q_not rfl) rfl rfl rfl ?_
  refine al_end ?_
  refine aq_then ?_
  refine ac_cond rfl (fun h1 => ?_) (fun h1 => ?_)
  · skip
    refine ac_seq ?_
    refine ac_region ?_
    refine al_call Tryz.call19 .nil rfl rfl (fun w2 hs2 => ?_)
    refine (awake2_any _ (hE.below hs2.below)).mono ?_
    rintro e u2 ⟨rfl, hb_2⟩
    refine ⟨_, rfl, hb_2, ?_⟩
    clear hs2
    refine al_q (q_assign rfl) rfl rfl rfl ?_
    refine al_end ?_
    refine aq_then ?_
    refine ac_ret ?_
    refine aq_thenR ?_
    refine ret1 Tryz.results10 rfl (fun w9 hs => ?_)
    exact ⟨rfl, hs.below⟩
  · have hbf := brief2_iff.1 (show brief2 R Q = true by simpa using h1)
    have hM := hM (by omega) (by omega) (by omega) (by omega)
    have hC := hC.isC (by omega) (by omega) (by omega)
    refine ac_skip ?_
    refine aq_then ?_
    refine ac_seq ?_
    refine ac_region ?_
    refine al_q (q_loadAll (i := 1) rfl rfl Tryz.isAgg29 Tryz.sizeOf29 rfl) rfl rfl rfl ?_
    refine al_q (q_loadAll (i := 0) rfl rfl Tryz.isAgg34 Tryz.sizeOf34 rfl) rfl rfl rfl ?_
    refine al_call Tryz.call53 (.cons rfl (.cons rfl .nil)) rfl rfl (fun w3 hs3 => ?_)
    refine (mirror_bad R M Q C _ (hM.below hs3.below) (hC.below hs3.below) hv).mono ?_
    rintro e u3 ⟨rfl, hb_3⟩
    refine ⟨_, rfl, hb_3, ?_⟩
    clear hs3
    refine al_q (q_move rfl) rfl rfl rfl ?_
    refine al_q (q_extract rfl rfl) rfl rfl rfl ?_
    refine al_q (q_extract rfl rfl) rfl rfl rfl ?_
    refine al_q (q_extract rfl rfl) rfl rfl rfl ?_
    refine al_new (fun b => .pointer (some ⟨b, 0, none⟩)) (r_alloc Tryz.zeroValue29 rfl) rfl rfl rfl ?_
    intro b3
    refine al_new (fun b => .pointer (some ⟨b, 0, none⟩)) (r_alloc Tryz.zeroValue34 rfl) rfl rfl rfl ?_
    intro b4
    refine al_storeAll (i := 1) rfl rfl rfl rfl Tryz.sizeOf29 rfl rfl .k1 rfl ?_
    refine al_storeAll (i := 0) rfl rfl rfl rfl Tryz.sizeOf34 rfl rfl .k0 rfl ?_
    refine al_q (q_assign rfl) rfl rfl rfl ?_
    refine al_end ?_
    refine aq_then ?_
    refine ac_seq ?_
    refine ac_region ?_
    refine al_q (q_loadAll (i := 3) rfl rfl Tryz.isAgg29 Tryz.sizeOf29 rfl) rfl rfl rfl ?_
    refine al_q (q_loadAll (i := 2) rfl rfl Tryz.isAgg34 Tryz.sizeOf34 rfl) rfl rfl rfl ?_
    refine al_call Tryz.call54 (.cons rfl (.cons rfl .nil)) rfl rfl (fun w4 hs4 => ?_)
    refine (rmirror_bad R M Q C _ (hM.below hs4.below) (hC.below hs4.below) hv).mono ?_
    rintro e u4 ⟨rfl, hb_4⟩
    refine ⟨_, rfl, hb_4, ?_⟩
    clear hs4
    refine al_q (q_move rfl) rfl rfl rfl ?_
    refine al_q (q_extract rfl rfl) rfl rfl rfl ?_
    refine al_q (q_extract rfl rfl) rfl rfl rfl ?_
    refine al_q (q_extract rfl rfl) rfl rfl rfl ?_
    refine al_new (fun b => .pointer (some ⟨b, 0, none⟩)) (r_alloc Tryz.zeroValue29 rfl) rfl rfl rfl ?_
    intro b5
    refine al_new (fun b => .pointer (some ⟨b, 0, none⟩)) (r_alloc Tryz.zeroValue34 rfl) rfl rfl rfl ?_
    intro b6
    refine al_storeAll (i := 1) rfl rfl rfl rfl Tryz.sizeOf29 rfl rfl .k1 rfl ?_
    refine al_storeAll (i := 0) rfl rfl rfl rfl Tryz.sizeOf34 rfl rfl .k0 rfl ?_
    refine al_q (q_assign rfl) rfl rfl rfl ?_
    refine al_end ?_
    refine aq_then ?_
    refine ac_seq ?_
    refine ac_seq ?_
    refine ac_region ?_
    refine al_q (q_move rfl) rfl rfl rfl ?_
    refine al_q (q_move rfl) rfl rfl rfl ?_
    refine al_q (q_same (v' := .bool false) (q_neq rfl rfl) (by simp)) rfl rfl rfl ?_
    refine al_q (q_move rfl) rfl rfl rfl ?_
    refine al_q (q_loadAll (i := 3) rfl rfl Tryz.isAgg29 Tryz.sizeOf29 rfl) rfl rfl rfl ?_
    refine al_q (q_loadAll (i := 1) rfl rfl Tryz.isAgg29 Tryz.sizeOf29 rfl) rfl rfl rfl ?_
    refine al_call Tryz.call55 (.cons rfl (.cons rfl .nil)) rfl rfl (fun w5 hs5 => ?_)
    refine (rsameM_true zeroR zeroR zeroM _ (isM_zero _) (isM_zero _)).mono ?_
    rintro e u5 ⟨rfl, hb_5⟩
    refine ⟨_, rfl, hb_5, ?_⟩
    clear hs5
    refine al_q (q_not rfl) rfl rfl rfl ?_
    refine al_q (q_pickF rfl rfl) rfl rfl rfl ?_
    refine al_q (q_move rfl) rfl rfl rfl ?_
    refine al_q (q_loadAll (i := 2) rfl rfl Tryz.isAgg34 Tryz.sizeOf34 rfl) rfl rfl rfl ?_
    refine al_q (q_loadAll (i := 0) rfl rfl Tryz.isAgg34 Tryz.sizeOf34 rfl) rfl rfl rfl ?_
    refine al_call Tryz.call35 (.cons rfl (.cons rfl .nil)) rfl rfl (fun w6 hs6 => ?_)
    refine (rsameC_any ⟨none, none, none, 0, 0, 0, 0, 0, 0⟩ ⟨none, none, none, 0, 0, 0, 0, 0, 0⟩ ⟨[], [], []⟩ ⟨[], [], []⟩ _ (isC_zero _) (isC_zero _)).mono ?_
    rintro e u6 ⟨rfl, hb_6⟩
    refine ⟨_, rfl, hb_6, ?_⟩
    clear hs6
    refine al_q (q_same (v' := .bool false) (q_not rfl) (by simp)) rfl rfl rfl ?_
    refine al_q (q_pickF rfl rfl) rfl rfl rfl ?_
    refine al_end ?_
    refine aq_then ?_
    refine ac_condF rfl ?_
    refine ac_skip ?_
    refine aq_then ?_
    refine ac_seq ?_
    refine ac_seq ?_
    refine ac_region ?_
    refine al_q (q_move rfl) rfl rfl rfl ?_
    refine al_q (q_same (v' := .bool true) (q_neq rfl rfl) (by simp)) rfl rfl rfl ?_
    refine al_end ?_
    refine aq_then ?_
    refine ac_condT rfl ?_
    refine ac_seq ?_
    refine ac_region ?_
    refine al_call Tryz.call19 .nil rfl rfl (fun w7 hs7 => ?_)
    refine (awake2_any _ (hE.below hs7.below)).mono ?_
    rintro e u7 ⟨rfl, hb_7⟩
    refine ⟨_, rfl, hb_7, ?_⟩
    clear hs7
    refine al_q (q_assign rfl) rfl rfl rfl ?_
    refine al_end ?_
    refine aq_then ?_
    refine ac_ret ?_
    refine aq_thenR ?_
    refine ret1 Tryz.results10 rfl (fun w9 hs => ?_)
    exact ⟨rfl, hs.below⟩

set_option maxRecDepth 100000 in
theorem mirrors_ok (R : MachR) (M : MachD) (Q : CurR) (C : CurD) (W : World) (hE : Env W) (hM : R.la ≤ 1000000000000000 → R.lb ≤ 1000000000000000 → R.lc ≤ 1000000000000000 → R.ld ≤ 1000000000000000 → IsM W R M) (hC : OpC W Q C) (hf : Fit2 M C) : Calls Tryz.prog 10 #[(.agg (machCells R M)), Q.v] W (Ret (.bool true) W) := by
  refine calls_ax (vs := [(.agg (machCells R M)), Q.v]) Tryz.func10 rfl rfl ?_
  refine ac_seq ?_
  refine ac_region ?_
  refine al_new (fun b => .pointer (some ⟨b, 0, none⟩)) (r_box rfl rfl) rfl rfl rfl ?_
  intro b1
  refine al_new (fun b => .pointer (some ⟨b, 0, none⟩)) (r_box rfl rfl) rfl rfl rfl ?_
  intro b2
  refine al_q (q_assign rfl) rfl rfl rfl ?_
  refine al_end ?_
  refine aq_then ?_
  refine ac_seq ?_
  refine ac_seq ?_
  refine ac_region ?_
  refine al_q (q_loadAll (i := 1) rfl rfl Tryz.isAgg29 Tryz.sizeOf29 rfl) rfl rfl rfl ?_
  refine al_q (q_loadAll (i := 0) rfl rfl Tryz.isAgg34 Tryz.sizeOf34 rfl) rfl rfl rfl ?_
  refine al_call Tryz.call16 (.cons rfl (.cons rfl .nil)) rfl rfl (fun w1 hs1 => ?_)
  refine (brief2_any R M Q _).mono ?_
  rintro e u1 ⟨rfl, hb_1⟩
  refine ⟨_, rfl, hb_1, ?_⟩
  clear hs1
  refine al_q (q_not rfl) rfl rfl rfl ?_
  refine al_end ?_
  refine aq_then ?_
  refine ac_cond rfl (fun h1 => ?_) (fun h1 => ?_)
  · skip
    refine ac_seq ?_
    refine ac_region ?_
    refine al_call Tryz.call19 .nil rfl rfl (fun w2 hs2 => ?_)
    refine (awake2_any _ (hE.below hs2.below)).mono ?_
    rintro e u2 ⟨rfl, hb_2⟩
    refine ⟨_, rfl, hb_2, ?_⟩
    clear hs2
    refine al_q (q_assign rfl) rfl rfl rfl ?_
    refine al_end ?_
    refine aq_then ?_
    refine ac_ret ?_
    refine aq_thenR ?_
    refine ret1 Tryz.results10 rfl (fun w9 hs => ?_)
    exact ⟨rfl, hs.below⟩
  · have hbf := brief2_iff.1 (show brief2 R Q = true by simpa using h1)
    have hM := hM (by omega) (by omega) (by omega) (by omega)
    have hC := hC.isC (by omega) (by omega) (by omega)
    refine ac_skip ?_
    refine aq_then ?_
    refine ac_seq ?_
    refine ac_region ?_
    refine al_q (q_loadAll (i := 1) rfl rfl Tryz.isAgg29 Tryz.sizeOf29 rfl) rfl rfl rfl ?_
    refine al_q (q_loadAll (i := 0) rfl rfl Tryz.isAgg34 Tryz.sizeOf34 rfl) rfl rfl rfl ?_
    refine al_call Tryz.call53 (.cons rfl (.cons rfl .nil)) rfl rfl (fun w3 hs3 => ?_)
    refine (mirror_ok R M Q C _ (hM.below hs3.below) (hC.below hs3.below) hf).mono ?_
    rintro e u3 ⟨R1, Q1, rfl, NM1, NC1, hR1, hQ1, hb_3⟩
    refine ⟨_, rfl, hb_3, ?_⟩
    clear hs3
    refine al_q (q_move rfl) rfl rfl rfl ?_
    refine al_q (q_extract rfl rfl) rfl rfl rfl ?_
    refine al_q (q_extract rfl rfl) rfl rfl rfl ?_
    refine al_q (q_extract rfl rfl) rfl rfl rfl ?_
    refine al_new (fun b => .pointer (some ⟨b, 0, none⟩)) (r_alloc Tryz.zeroValue29 rfl) rfl rfl rfl ?_
    intro b3
    refine al_new (fun b => .pointer (some ⟨b, 0, none⟩)) (r_alloc Tryz.zeroValue34 rfl) rfl rfl rfl ?_
    intro b4
    refine al_storeAll (i := 1) rfl rfl rfl rfl Tryz.sizeOf29 rfl rfl .k1 rfl ?_
    refine al_storeAll (i := 0) rfl rfl rfl rfl Tryz.sizeOf34 rfl rfl .k0 rfl ?_
    refine al_q (q_assign rfl) rfl rfl rfl ?_
    refine al_end ?_
    refine aq_then ?_
    refine ac_seq ?_
    refine ac_region ?_
    refine al_q (q_loadAll (i := 3) rfl rfl Tryz.isAgg29 Tryz.sizeOf29 rfl) rfl rfl rfl ?_
    refine al_q (q_loadAll (i := 2) rfl rfl Tryz.isAgg34 Tryz.sizeOf34 rfl) rfl rfl rfl ?_
    refine al_call Tryz.call54 (.cons rfl (.cons rfl .nil)) rfl rfl (fun w4 hs4 => ?_)
    refine (rmirror_ok R M Q C _ (hM.below hs4.below) (hC.below hs4.below) hf).mono ?_
    rintro e u4 ⟨R2, Q2, rfl, NM2, NC2, hR2, hQ2, hb_4⟩
    refine ⟨_, rfl, hb_4, ?_⟩
    clear hs4
    refine al_q (q_move rfl) rfl rfl rfl ?_
    refine al_q (q_extract rfl rfl) rfl rfl rfl ?_
    refine al_q (q_extract rfl rfl) rfl rfl rfl ?_
    refine al_q (q_extract rfl rfl) rfl rfl rfl ?_
    refine al_new (fun b => .pointer (some ⟨b, 0, none⟩)) (r_alloc Tryz.zeroValue29 rfl) rfl rfl rfl ?_
    intro b5
    refine al_new (fun b => .pointer (some ⟨b, 0, none⟩)) (r_alloc Tryz.zeroValue34 rfl) rfl rfl rfl ?_
    intro b6
    refine al_storeAll (i := 1) rfl rfl rfl rfl Tryz.sizeOf29 rfl rfl .k1 rfl ?_
    refine al_storeAll (i := 0) rfl rfl rfl rfl Tryz.sizeOf34 rfl rfl .k0 rfl ?_
    refine al_q (q_assign rfl) rfl rfl rfl ?_
    refine al_end ?_
    refine aq_then ?_
    refine ac_seq ?_
    refine ac_seq ?_
    refine ac_region ?_
    refine al_q (q_move rfl) rfl rfl rfl ?_
    refine al_q (q_move rfl) rfl rfl rfl ?_
    refine al_q (q_same (v' := .bool false) (q_neq rfl rfl) (by simp)) rfl rfl rfl ?_
    refine al_q (q_move rfl) rfl rfl rfl ?_
    refine al_q (q_loadAll (i := 3) rfl rfl Tryz.isAgg29 Tryz.sizeOf29 rfl) rfl rfl rfl ?_
    refine al_q (q_loadAll (i := 1) rfl rfl Tryz.isAgg29 Tryz.sizeOf29 rfl) rfl rfl rfl ?_
    refine al_call Tryz.call55 (.cons rfl (.cons rfl .nil)) rfl rfl (fun w5 hs5 => ?_)
    refine (rsameM_true R1 R2 (mirM M) _ (hs5.newMT (.tail _ (.head _)) NM1 (by omega) (by omega) (by omega) (by omega)) (hs5.newMT (.head _) NM2 (by omega) (by omega) (by omega) (by omega))).mono ?_
    rintro e u5 ⟨rfl, hb_5⟩
    refine ⟨_, rfl, hb_5, ?_⟩
    clear hs5
    refine al_q (q_not rfl) rfl rfl rfl ?_
    refine al_q (q_pickF rfl rfl) rfl rfl rfl ?_
    refine al_q (q_move rfl) rfl rfl rfl ?_
    refine al_q (q_loadAll (i := 2) rfl rfl Tryz.isAgg34 Tryz.sizeOf34 rfl) rfl rfl rfl ?_
    refine al_q (q_loadAll (i := 0) rfl rfl Tryz.isAgg34 Tryz.sizeOf34 rfl) rfl rfl rfl ?_
    refine al_call Tryz.call35 (.cons rfl (.cons rfl .nil)) rfl rfl (fun w6 hs6 => ?_)
    refine (rsameC_any Q1 Q2 (mirC M.grid C) (mirC M.grid C) _ (hs6.newCT (.tail _ (.tail _ (.head _))) NC1 (by omega) (by omega) (by omega)) (hs6.newCT (.tail _ (.head _)) NC2 (by omega) (by omega) (by omega))).mono ?_
    rintro e u6 ⟨rfl, hb_6⟩
    refine ⟨_, rfl, hb_6, ?_⟩
    clear hs6
    refine al_q (q_same (v' := .bool false) (q_not rfl) (by simp)) rfl rfl rfl ?_
    refine al_q (q_pickF rfl rfl) rfl rfl rfl ?_
    refine al_end ?_
    refine aq_then ?_
    refine ac_condF rfl ?_
    refine ac_skip ?_
    refine aq_then ?_
    refine ac_seq ?_
    refine ac_seq ?_
    refine ac_region ?_
    refine al_q (q_move rfl) rfl rfl rfl ?_
    refine al_q (q_same (v' := .bool false) (q_neq rfl rfl) (by simp)) rfl rfl rfl ?_
    refine al_end ?_
    refine aq_then ?_
    refine ac_condF rfl ?_
    refine ac_skip ?_
    refine aq_then ?_
    refine ac_seq ?_
    refine ac_region ?_
    refine al_q (q_loadAll (i := 3) rfl rfl Tryz.isAgg29 Tryz.sizeOf29 rfl) rfl rfl rfl ?_
    refine al_q (q_loadAll (i := 2) rfl rfl Tryz.isAgg34 Tryz.sizeOf34 rfl) rfl rfl rfl ?_
    refine al_call Tryz.call53 (.cons rfl (.cons rfl .nil)) rfl rfl (fun w7 hs7 => ?_)
    have hM1 := hs7.newMT (.tail _ (.tail _ (.tail _ (.head _)))) NM1 (by omega) (by omega) (by omega) (by omega)
    have hC1 := hs7.newCT (.tail _ (.tail _ (.tail _ (.head _)))) NC1 (by omega) (by omega) (by omega)
    have h9 := mirror_ok R1 (mirM M) Q1 (mirC M.grid C) _ hM1 hC1 (fit_mir hf)
    rw [mirM_mirM, show (mirM M).grid = mirG M.grid from rfl, mirC_mirC hf] at h9
    refine (h9).mono ?_
    rintro e u7 ⟨R3, Q3, rfl, NM3, NC3, hR3, hQ3, hb_7⟩
    refine ⟨_, rfl, hb_7, ?_⟩
    clear hs7
    refine al_q (q_move rfl) rfl rfl rfl ?_
    refine al_q (q_extract rfl rfl) rfl rfl rfl ?_
    refine al_q (q_extract rfl rfl) rfl rfl rfl ?_
    refine al_q (q_extract rfl rfl) rfl rfl rfl ?_
    refine al_storeAll (i := 3) rfl rfl rfl rfl Tryz.sizeOf29 rfl rfl .k3 rfl ?_
    refine al_storeAll (i := 2) rfl rfl rfl rfl Tryz.sizeOf34 rfl rfl .k2 rfl ?_
    refine al_q (q_assign rfl) rfl rfl rfl ?_
    refine al_end ?_
    refine aq_then ?_
    refine ac_seq ?_
    refine ac_region ?_
    refine al_q (q_move rfl) rfl rfl rfl ?_
    refine al_q (q_same (v' := .bool true) (q_eql rfl rfl) (by simp)) rfl rfl rfl ?_
    refine al_q (q_move rfl) rfl rfl rfl ?_
    refine al_q (q_loadAll (i := 3) rfl rfl Tryz.isAgg29 Tryz.sizeOf29 rfl) rfl rfl rfl ?_
    refine al_q (q_loadAll (i := 5) rfl rfl Tryz.isAgg29 Tryz.sizeOf29 rfl) rfl rfl rfl ?_
    refine al_call Tryz.call55 (.cons rfl (.cons rfl .nil)) rfl rfl (fun w8 hs8 => ?_)
    refine (rsameM_true R3 R M _ (hs8.newMT (.head _) NM3 (by omega) (by omega) (by omega) (by omega)) (hM.below hs8.below)).mono ?_
    rintro e u8 ⟨rfl, hb_8⟩
    refine ⟨_, rfl, hb_8, ?_⟩
    clear hs8
    refine al_q (q_pickT rfl rfl) rfl rfl rfl ?_
    refine al_q (q_move rfl) rfl rfl rfl ?_
    refine al_q (q_loadAll (i := 2) rfl rfl Tryz.isAgg34 Tryz.sizeOf34 rfl) rfl rfl rfl ?_
    refine al_q (q_loadAll (i := 4) rfl rfl Tryz.isAgg34 Tryz.sizeOf34 rfl) rfl rfl rfl ?_
    refine al_call Tryz.call35 (.cons rfl (.cons rfl .nil)) rfl rfl (fun w9 hs9 => ?_)
    refine (rsameC_any Q3 Q C C _ (hs9.newCT (.tail _ (.head _)) NC3 (by omega) (by omega) (by omega)) (hC.below hs9.below)).mono ?_
    rintro e u9 ⟨rfl, hb_9⟩
    refine ⟨_, rfl, hb_9, ?_⟩
    clear hs9
    refine al_q (q_same (v' := .bool true) (q_pickT rfl rfl) (by simp)) rfl rfl rfl ?_
    refine al_q (q_move rfl) rfl rfl rfl ?_
    refine al_call Tryz.call19 .nil rfl rfl (fun w10 hs10 => ?_)
    refine (awake2_any _ (hE.below hs10.below)).mono ?_
    rintro e u10 ⟨rfl, hb_10⟩
    refine ⟨_, rfl, hb_10, ?_⟩
    clear hs10
    refine al_q (q_pickT rfl rfl) rfl rfl rfl ?_
    refine al_q (q_assign rfl) rfl rfl rfl ?_
    refine al_end ?_
    refine aq_then ?_
    refine ac_ret ?_
    refine ret1 Tryz.results10 rfl (fun w9 hs => ?_)
    exact ⟨rfl, hs.below⟩

theorem mirrors_walk (R : MachR) (M : MachD) (Q : CurR) (C : CurD) (W : World) (hE : Env W) (hM : R.la ≤ 1000000000000000 → R.lb ≤ 1000000000000000 → R.lc ≤ 1000000000000000 → R.ld ≤ 1000000000000000 → IsM W R M) (hC : OpC W Q C) : Calls Tryz.prog 10 #[.agg (machCells R M), Q.v] W (Ret (.bool true) W) := by
  cases hv : validC M C with
  | false => exact mirrors_bad R M Q C W hE hM hC hv
  | true => exact mirrors_ok R M Q C W hE hM hC (fit2_iff.1 hv)

end Go.Proofs.YtjjajleiladbhaaGreatDoor
end
