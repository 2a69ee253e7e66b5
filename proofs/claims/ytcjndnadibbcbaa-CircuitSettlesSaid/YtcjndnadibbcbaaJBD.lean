import Derived.Test.YtcjndnadibbcbaaJAT
import Derived.Test.YtcjndnadibbcbaaJBB
import Derived.Test.YtcjndnadibbcbaaJBC
import Derived.Test.YtcjndnadibbcbaaRows
import Derived.KernelRfl
import Derived.Laws.StructEq
section
/- The specification of layer 2: SameCurrents, over this seat's translation (written by mk_smc.py). -/
namespace Go.Proofs.Ytcjndnadibbcbaa
set_option linter.unusedVariables false
set_option linter.unusedSimpArgs false
open Go.RowKit Go.Shelf

set_option maxRecDepth 100000 in
set_option maxHeartbeats 4000000 in
theorem rsameC_any (P Q : CurR) (C D : CurD) (w : World) (h1 : IsC w P C) (h2 : IsC w Q D) :
    Calls Try.prog 39 #[P.v, Q.v] w (Ret (.bool (decide (C.coils = D.coils) && (decide (C.shells = D.shells) && decide (C.plasma = D.plasma)))) w) := by
  have H1 := Lib.hid (fun W (hb : Below w.heap.size w W) => rsame_any P.A Q.A P.la P.ca Q.la Q.ca C.coils D.coils W (h1.below hb).coils (h2.below hb).coils h1.ka h2.ka)
  have H2 := Lib.hid (fun W (hb : Below w.heap.size w W) => rsame_any P.B Q.B P.lb P.cb Q.lb Q.cb C.shells D.shells W (h1.below hb).shells (h2.below hb).shells h1.kb h2.kb)
  have H3 := Lib.hid (fun W (hb : Below w.heap.size w W) => rsame_any P.C Q.C P.lc P.cc Q.lc Q.cc C.plasma D.plasma W (h1.below hb).plasma (h2.below hb).plasma h1.kc h2.kc)
  clear h1 h2
  generalize decide (C.coils = D.coils) = x1 at *
  generalize decide (C.shells = D.shells) = x2 at *
  generalize decide (C.plasma = D.plasma) = x3 at *
  obtain ⟨A1, B1, C1, na, qa, nb, qb, nc, qc⟩ := P
  obtain ⟨A2, B2, C2, ma, ra, mb, rb, mc, rc⟩ := Q
  dsimp only [CurR.v] at *
  go_enter Try.func39, Try.ntmps39
  go_upto_region 1 with (fail)
  have m0 : (((w.alloc (.cells #[.slice A1 na qa, .slice B1 nb qb, .slice C1 nc qc] 32)).alloc (.cells #[.slice A2 ma ra, .slice B2 mb rb, .slice C2 mc rc] 32))).cell? ⟨w.heap.size, 0, none⟩ = some (.slice A1 na qa) := by go_simp
  have m1 : (((w.alloc (.cells #[.slice A1 na qa, .slice B1 nb qb, .slice C1 nc qc] 32)).alloc (.cells #[.slice A2 ma ra, .slice B2 mb rb, .slice C2 mc rc] 32))).cell? ⟨w.heap.size, 1, none⟩ = some (.slice B1 nb qb) := by go_simp
  have m2 : (((w.alloc (.cells #[.slice A1 na qa, .slice B1 nb qb, .slice C1 nc qc] 32)).alloc (.cells #[.slice A2 ma ra, .slice B2 mb rb, .slice C2 mc rc] 32))).cell? ⟨w.heap.size, 2, none⟩ = some (.slice C1 nc qc) := by go_simp
  have q0 : (((w.alloc (.cells #[.slice A1 na qa, .slice B1 nb qb, .slice C1 nc qc] 32)).alloc (.cells #[.slice A2 ma ra, .slice B2 mb rb, .slice C2 mc rc] 32))).cell? ⟨w.heap.size + 1, 0, none⟩ = some (.slice A2 ma ra) := by go_simp
  have q1 : (((w.alloc (.cells #[.slice A1 na qa, .slice B1 nb qb, .slice C1 nc qc] 32)).alloc (.cells #[.slice A2 ma ra, .slice B2 mb rb, .slice C2 mc rc] 32))).cell? ⟨w.heap.size + 1, 1, none⟩ = some (.slice B2 mb rb) := by go_simp
  have q2 : (((w.alloc (.cells #[.slice A1 na qa, .slice B1 nb qb, .slice C1 nc qc] 32)).alloc (.cells #[.slice A2 ma ra, .slice B2 mb rb, .slice C2 mc rc] 32))).cell? ⟨w.heap.size + 1, 2, none⟩ = some (.slice C2 mc rc) := by go_simp
  have hB0 : Below w.heap.size w (((w.alloc (.cells #[.slice A1 na qa, .slice B1 nb qb, .slice C1 nc qc] 32)).alloc (.cells #[.slice A2 ma ra, .slice B2 mb rb, .slice C2 mc rc] 32))) := by (with_reducible repeat first | exact Below.refl _ _ | assumption | ((first | refine Below.setCell ?_ ?_ _ | refine Below.alloc ?_ ?_ _); rotate_left; exact (by first | omega | (simp; done) | (simp; omega))) | refine Below.drew ?_ | refine Below_drewN ?_ _)
  have hz : w.heap.size + 1 < (((w.alloc (.cells #[.slice A1 na qa, .slice B1 nb qb, .slice C1 nc qc] 32)).alloc (.cells #[.slice A2 ma ra, .slice B2 mb rb, .slice C2 mc rc] 32))).heap.size := by simp
  obtain ⟨W0, hW0⟩ : ∃ W, ((w.alloc (.cells #[.slice A1 na qa, .slice B1 nb qb, .slice C1 nc qc] 32)).alloc (.cells #[.slice A2 ma ra, .slice B2 mb rb, .slice C2 mc rc] 32)) = W := ⟨_, rfl⟩
  rw [hW0] at m0 m1 m2 q0 q1 q2 hB0 hz ⊢
  clear hW0
  have FA := Lib.hid (BoxL.mk3 (W := W0) (by omega) m0 m1 m2)
  have FB := Lib.hid (BoxL.mk3 (W := W0) hz q0 q1 q2)
  clear m0 m1 m2 q0 q1 q2
  have HB : Hid (∀ w' : World, Below W0.heap.size W0 w' → Below w.heap.size w w') := Lib.hid (fun w' h => hB0.trans (h.mono (by omega)))
  have m0 := (FA.out.below (Below.refl _ _)).at 0 (.slice A1 na qa) rfl
  have m1 := (FA.out.below (Below.refl _ _)).at 1 (.slice B1 nb qb) rfl
  have m2 := (FA.out.below (Below.refl _ _)).at 2 (.slice C1 nc qc) rfl
  have q0 := (FB.out.below (Below.refl _ _)).at 0 (.slice A2 ma ra) rfl
  have q1 := (FB.out.below (Below.refl _ _)).at 1 (.slice B2 mb rb) rfl
  have q2 := (FB.out.below (Below.refl _ _)).at 2 (.slice C2 mc rc) rfl
  cases x1
  · rw [Bool.false_and]
    go_wp2_with fail
    refine (H1.out _ (HB.out _ (by (repeat first | with_reducible exact Below.refl _ _ | with_reducible assumption | with_reducible exact (‹Below _ _ _ ∧ _›).1 | (with_reducible refine Below.alloc ?_ ?_ _; rotate_left; exact (by first | omega | (simp; done) | (simp; omega))) | with_reducible refine Below.drew ?_)))).mono ?_
    rintro e w1 ⟨rfl, hb1⟩
    have hB1 : Below W0.heap.size W0 w1 := Below.trans (by (repeat first | with_reducible exact Below.refl _ _ | with_reducible assumption | with_reducible exact (‹Below _ _ _ ∧ _›).1 | (with_reducible refine Below.alloc ?_ ?_ _; rotate_left; exact (by first | omega | (simp; done) | (simp; omega))) | with_reducible refine Below.drew ?_)) (hb1.mono (by (try simp only [World.size_alloc, size_drew]); omega))
    have sz1 := hB1.size
    clear hb1 m0 m1 m2 q0 q1 q2
    have m0 := (FA.out.below hB1).at 0 (.slice A1 na qa) rfl
    have m1 := (FA.out.below hB1).at 1 (.slice B1 nb qb) rfl
    have m2 := (FA.out.below hB1).at 2 (.slice C1 nc qc) rfl
    have q0 := (FB.out.below hB1).at 0 (.slice A2 ma ra) rfl
    have q1 := (FB.out.below hB1).at 1 (.slice B2 mb rb) rfl
    have q2 := (FB.out.below hB1).at 2 (.slice C2 mc rc) rfl
    go_wp2_with fail
    go_ret
    exact ⟨rfl, HB.out _ (by (repeat first | with_reducible exact Below.refl _ _ | with_reducible assumption | with_reducible exact (‹Below _ _ _ ∧ _›).1 | (with_reducible refine Below.alloc ?_ ?_ _; rotate_left; exact (by first | omega | (simp; done) | (simp; omega))) | with_reducible refine Below.drew ?_))⟩
  · rw [Bool.true_and]
    go_wp2_with fail
    refine (H1.out _ (HB.out _ (by (repeat first | with_reducible exact Below.refl _ _ | with_reducible assumption | with_reducible exact (‹Below _ _ _ ∧ _›).1 | (with_reducible refine Below.alloc ?_ ?_ _; rotate_left; exact (by first | omega | (simp; done) | (simp; omega))) | with_reducible refine Below.drew ?_)))).mono ?_
    rintro e w1 ⟨rfl, hb1⟩
    have hB1 : Below W0.heap.size W0 w1 := Below.trans (by (repeat first | with_reducible exact Below.refl _ _ | with_reducible assumption | with_reducible exact (‹Below _ _ _ ∧ _›).1 | (with_reducible refine Below.alloc ?_ ?_ _; rotate_left; exact (by first | omega | (simp; done) | (simp; omega))) | with_reducible refine Below.drew ?_)) (hb1.mono (by (try simp only [World.size_alloc, size_drew]); omega))
    have sz1 := hB1.size
    clear hb1 m0 m1 m2 q0 q1 q2
    have m0 := (FA.out.below hB1).at 0 (.slice A1 na qa) rfl
    have m1 := (FA.out.below hB1).at 1 (.slice B1 nb qb) rfl
    have m2 := (FA.out.below hB1).at 2 (.slice C1 nc qc) rfl
    have q0 := (FB.out.below hB1).at 0 (.slice A2 ma ra) rfl
    have q1 := (FB.out.below hB1).at 1 (.slice B2 mb rb) rfl
    have q2 := (FB.out.below hB1).at 2 (.slice C2 mc rc) rfl
    cases x2
    · rw [Bool.false_and]
      go_wp2_with fail
      refine (H2.out _ (HB.out _ (by (repeat first | with_reducible exact Below.refl _ _ | with_reducible assumption | with_reducible exact (‹Below _ _ _ ∧ _›).1 | (with_reducible refine Below.alloc ?_ ?_ _; rotate_left; exact (by first | omega | (simp; done) | (simp; omega))) | with_reducible refine Below.drew ?_)))).mono ?_
      rintro e w2 ⟨rfl, hb2⟩
      have hB2 : Below W0.heap.size W0 w2 := Below.trans (by (repeat first | with_reducible exact Below.refl _ _ | with_reducible assumption | with_reducible exact (‹Below _ _ _ ∧ _›).1 | (with_reducible refine Below.alloc ?_ ?_ _; rotate_left; exact (by first | omega | (simp; done) | (simp; omega))) | with_reducible refine Below.drew ?_)) (hb2.mono (by (try simp only [World.size_alloc, size_drew]); omega))
      have sz2 := hB2.size
      clear hb2 m0 m1 m2 q0 q1 q2
      have m0 := (FA.out.below hB2).at 0 (.slice A1 na qa) rfl
      have m1 := (FA.out.below hB2).at 1 (.slice B1 nb qb) rfl
      have m2 := (FA.out.below hB2).at 2 (.slice C1 nc qc) rfl
      have q0 := (FB.out.below hB2).at 0 (.slice A2 ma ra) rfl
      have q1 := (FB.out.below hB2).at 1 (.slice B2 mb rb) rfl
      have q2 := (FB.out.below hB2).at 2 (.slice C2 mc rc) rfl
      go_wp2_with fail
      go_ret
      exact ⟨rfl, HB.out _ (by (repeat first | with_reducible exact Below.refl _ _ | with_reducible assumption | with_reducible exact (‹Below _ _ _ ∧ _›).1 | (with_reducible refine Below.alloc ?_ ?_ _; rotate_left; exact (by first | omega | (simp; done) | (simp; omega))) | with_reducible refine Below.drew ?_))⟩
    · rw [Bool.true_and]
      go_wp2_with fail
      refine (H2.out _ (HB.out _ (by (repeat first | with_reducible exact Below.refl _ _ | with_reducible assumption | with_reducible exact (‹Below _ _ _ ∧ _›).1 | (with_reducible refine Below.alloc ?_ ?_ _; rotate_left; exact (by first | omega | (simp; done) | (simp; omega))) | with_reducible refine Below.drew ?_)))).mono ?_
      rintro e w2 ⟨rfl, hb2⟩
      have hB2 : Below W0.heap.size W0 w2 := Below.trans (by (repeat first | with_reducible exact Below.refl _ _ | with_reducible assumption | with_reducible exact (‹Below _ _ _ ∧ _›).1 | (with_reducible refine Below.alloc ?_ ?_ _; rotate_left; exact (by first | omega | (simp; done) | (simp; omega))) | with_reducible refine Below.drew ?_)) (hb2.mono (by (try simp only [World.size_alloc, size_drew]); omega))
      have sz2 := hB2.size
      clear hb2 m0 m1 m2 q0 q1 q2
      have m0 := (FA.out.below hB2).at 0 (.slice A1 na qa) rfl
      have m1 := (FA.out.below hB2).at 1 (.slice B1 nb qb) rfl
      have m2 := (FA.out.below hB2).at 2 (.slice C1 nc qc) rfl
      have q0 := (FB.out.below hB2).at 0 (.slice A2 ma ra) rfl
      have q1 := (FB.out.below hB2).at 1 (.slice B2 mb rb) rfl
      have q2 := (FB.out.below hB2).at 2 (.slice C2 mc rc) rfl
      go_wp2_with fail
      refine (H3.out _ (HB.out _ (by (repeat first | with_reducible exact Below.refl _ _ | with_reducible assumption | with_reducible exact (‹Below _ _ _ ∧ _›).1 | (with_reducible refine Below.alloc ?_ ?_ _; rotate_left; exact (by first | omega | (simp; done) | (simp; omega))) | with_reducible refine Below.drew ?_)))).mono ?_
      rintro e w3 ⟨rfl, hb3⟩
      have hB3 : Below W0.heap.size W0 w3 := Below.trans (by (repeat first | with_reducible exact Below.refl _ _ | with_reducible assumption | with_reducible exact (‹Below _ _ _ ∧ _›).1 | (with_reducible refine Below.alloc ?_ ?_ _; rotate_left; exact (by first | omega | (simp; done) | (simp; omega))) | with_reducible refine Below.drew ?_)) (hb3.mono (by (try simp only [World.size_alloc, size_drew]); omega))
      have sz3 := hB3.size
      clear hb3 m0 m1 m2 q0 q1 q2
      have m0 := (FA.out.below hB3).at 0 (.slice A1 na qa) rfl
      have m1 := (FA.out.below hB3).at 1 (.slice B1 nb qb) rfl
      have m2 := (FA.out.below hB3).at 2 (.slice C1 nc qc) rfl
      have q0 := (FB.out.below hB3).at 0 (.slice A2 ma ra) rfl
      have q1 := (FB.out.below hB3).at 1 (.slice B2 mb rb) rfl
      have q2 := (FB.out.below hB3).at 2 (.slice C2 mc rc) rfl
      go_wp2_with fail
      go_ret
      exact ⟨rfl, HB.out _ (by (repeat first | with_reducible exact Below.refl _ _ | with_reducible assumption | with_reducible exact (‹Below _ _ _ ∧ _›).1 | (with_reducible refine Below.alloc ?_ ?_ _; rotate_left; exact (by first | omega | (simp; done) | (simp; omega))) | with_reducible refine Below.drew ?_))⟩

end Go.Proofs.Ytcjndnadibbcbaa
end
section
/- The specification of layer 3: ValidState, Begin, Same, Rest, over this seat's translation (written by ax_ci11.py). -/
namespace Go.Proofs.Ytcjndnadibbcbaa
set_option linter.unusedVariables false
set_option linter.unusedSimpArgs false
open Go.RowKit

theorem upTo {P : Nat → Prop} {x : Nat} (h : ∀ j, j < x → P j) (hx : P x) : ∀ j, j < x + 1 → P j := fun j hj => by
  rcases Nat.lt_or_ge j x with g | g
  · exact h j g
  · obtain rfl : j = x := by omega
    exact hx
theorem vsF {M : MachD} {S : StD} (h : ¬ FitS M S) : validS M S = false := by
  cases e : validS M S
  · rfl
  · exact absurd (fitS_iff.1 e) h
def beginE (M : MachD) : Int := if checkC M = 0 then 0 else 1
theorem cbegin_any (R : MachR) (M : MachD) (w : World) (hM : IsM w R M) : Calls Try.prog 11 #[.agg (machCells R M)] w (OutS w (beginE M) (beginD M)) := by
  unfold beginE
  split
  · rename_i h; exact begin_ok R M w hM h
  · rename_i h; exact (begin_bad R M w hM h).mono fun e w' h => OutS.bad (by decide) h

set_option maxRecDepth 100000 in
theorem rwithin3_any (n a b : Int) (w : World) : Calls Try.prog 38 #[(.int .i64 n), (.int .i64 a), (.int .i64 b)] w (Ret (.bool (wthn n a b)) w) := by
  refine calls_ax (vs := [(.int .i64 n), (.int .i64 a), (.int .i64 b)]) Try.func38 rfl rfl ?_
  refine ac_seq ?_
  refine ac_region ?_
  refine al_q (q_assign rfl) rfl rfl rfl ?_
  refine al_end ?_
  refine aq_then ?_
  refine ac_seq ?_
  refine ac_region ?_
  refine al_q (q_move rfl) rfl rfl rfl ?_
  refine al_q (q_move rfl) rfl rfl rfl ?_
  refine al_q (q_geq rfl rfl) rfl rfl rfl ?_
  refine al_q (q_move rfl) rfl rfl rfl ?_
  refine aq_split 10 rfl (fun hb1 => ?_) (fun hb1 => ?_)
  · refine al_q (q_move rfl) rfl rfl rfl ?_
    refine al_q (q_move rfl) rfl rfl rfl ?_
    refine al_q (q_leq rfl rfl) rfl rfl rfl ?_
    refine al_q (q_pickT rfl rfl) rfl rfl rfl ?_
    refine al_q (q_assign rfl) rfl rfl rfl ?_
    refine al_end ?_
    refine aq_then ?_
    refine ac_ret ?_
    refine ret1 Try.results38 rfl (fun w9 hs => ?_)
    exact ⟨by first | (simp_all [wthn]; done) | (simp_all [wthn]; omega), hs.below⟩
  · refine al_skip rfl rfl rfl ?_
    refine al_skip rfl rfl rfl ?_
    refine al_skip rfl rfl rfl ?_
    refine al_q (q_pickF rfl rfl) rfl rfl rfl ?_
    refine al_q (q_assign rfl) rfl rfl rfl ?_
    refine al_end ?_
    refine aq_then ?_
    refine ac_ret ?_
    refine ret1 Try.results38 rfl (fun w9 hs => ?_)
    exact ⟨by first | (simp_all [wthn]; done) | (simp_all [wthn]; omega), hs.below⟩

set_option maxRecDepth 100000 in
theorem rvalidState_any (R : MachR) (M : MachD) (RS : StR) (S : StD) (w : World) (hM : IsM w R M) (hS : IsS w RS S) : Calls Try.prog 14 #[(.agg (machCells R M)), (RS.v S.tick)] w (Ret (.bool (validS M S)) w) := by
  have n1 := hM.coils.1
  have n2 := hS.heat.1
  have n3 := hS.trip.1
  have n4 := hS.kh
  refine calls_ax (vs := [(.agg (machCells R M)), (RS.v S.tick)]) Try.func14 rfl rfl ?_
  refine ac_seq ?_
  refine ac_region ?_
  refine al_new (fun b => .pointer (some ⟨b, 0, none⟩)) (r_box rfl rfl) rfl rfl rfl ?_
  intro b1
  refine al_new (fun b => .pointer (some ⟨b, 0, none⟩)) (r_box rfl rfl) rfl rfl rfl ?_
  intro b2
  refine al_q (q_assign rfl) rfl rfl rfl ?_
  refine al_end ?_
  refine aq_then ?_
  refine ac_seq ?_
  refine ac_seq ?_
  refine ac_region ?_
  refine al_q (q_loadAll (i := 1) rfl rfl Try.isAgg29 Try.sizeOf29 rfl) rfl rfl rfl ?_
  refine al_q (q_fieldAddr 1 rfl Try.runUnderlying35 rfl Try.sizeOf32 (by decide) rfl) rfl rfl rfl ?_
  refine al_q (q_loadSub (i := 0) rfl rfl Try.isAgg32 Try.sizeOf32 .k1 .k3) rfl rfl rfl ?_
  refine al_call Try.call37 (.cons rfl (.cons rfl .nil)) rfl rfl (fun w1 hs1 => ?_)
  refine (rvalid2_any R M RS.Q S.C _ (hM.below hs1.below) (hS.cur.below hs1.below)).mono ?_
  rintro e u1 ⟨rfl, hb_1⟩
  refine ⟨_, rfl, hb_1, ?_⟩
  clear hs1
  refine al_q (q_not rfl) rfl rfl rfl ?_
  refine al_q (q_move rfl) rfl rfl rfl ?_
  refine aq_split 11 rfl (fun hb1 => ?_) (fun hb1 => ?_)
  · have v1 : ¬ FitS M S := fun h => by rw [fit2_iff.2 h.cur] at hb1; cases hb1
    refine al_skip rfl rfl rfl ?_
    refine al_skip rfl rfl rfl ?_
    refine al_skip rfl rfl rfl ?_
    refine al_skip rfl rfl rfl ?_
    refine al_q (q_pickT rfl rfl) rfl rfl rfl ?_
    refine al_q (q_move rfl) rfl rfl rfl ?_
    refine al_skip rfl rfl rfl ?_
    refine al_skip rfl rfl rfl ?_
    refine al_skip rfl rfl rfl ?_
    refine al_skip rfl rfl rfl ?_
    refine al_skip rfl rfl rfl ?_
    refine al_skip rfl rfl rfl ?_
    refine al_skip rfl rfl rfl ?_
    refine al_q (q_pickT rfl rfl) rfl rfl rfl ?_
    refine al_q (q_move rfl) rfl rfl rfl ?_
    refine al_skip rfl rfl rfl ?_
    refine al_skip rfl rfl rfl ?_
    refine al_skip rfl rfl rfl ?_
    refine al_skip rfl rfl rfl ?_
    refine al_skip rfl rfl rfl ?_
    refine al_skip rfl rfl rfl ?_
    refine al_skip rfl rfl rfl ?_
    refine al_q (q_pickT rfl rfl) rfl rfl rfl ?_
    refine al_end ?_
    refine aq_then ?_
    refine ac_condT rfl ?_
    refine ac_seq ?_
    refine ac_region ?_
    refine al_q (q_assign rfl) rfl rfl rfl ?_
    refine al_end ?_
    refine aq_then ?_
    refine ac_ret ?_
    refine aq_thenR ?_
    refine ret1 Try.results14 rfl (fun w9 hs => ?_)
    rw [vsF v1]; exact ⟨rfl, hs.below⟩
  · have v1 := fit2_iff.1 (show validC M S.C = true by simpa using hb1)
    refine al_q (q_fieldAddr 0 rfl Try.runUnderlying35 rfl Try.sizeOf3 (by decide) rfl) rfl rfl rfl ?_
    refine al_q (q_load (i := 0) rfl rfl rfl Try.isAgg3) rfl rfl rfl ?_
    refine al_call Try.call38 (.cons rfl (.cons rfl (.cons rfl .nil))) rfl rfl (fun w2 hs2 => ?_)
    refine (rwithin3_any S.tick 0 1000000000 _).mono ?_
    rintro e u2 ⟨rfl, hb_2⟩
    refine ⟨_, rfl, hb_2, ?_⟩
    clear hs2
    refine al_q (q_not rfl) rfl rfl rfl ?_
    refine al_q (q_pickF rfl rfl) rfl rfl rfl ?_
    refine al_q (q_move rfl) rfl rfl rfl ?_
    refine aq_split 17 rfl (fun hb2 => ?_) (fun hb2 => ?_)
    · have v2 : ¬ FitS M S := fun h => by rw [wthn_iff.2 h.tick] at hb2; cases hb2
      refine al_skip rfl rfl rfl ?_
      refine al_skip rfl rfl rfl ?_
      refine al_skip rfl rfl rfl ?_
      refine al_skip rfl rfl rfl ?_
      refine al_skip rfl rfl rfl ?_
      refine al_skip rfl rfl rfl ?_
      refine al_skip rfl rfl rfl ?_
      refine al_q (q_pickT rfl rfl) rfl rfl rfl ?_
      refine al_q (q_move rfl) rfl rfl rfl ?_
      refine al_skip rfl rfl rfl ?_
      refine al_skip rfl rfl rfl ?_
      refine al_skip rfl rfl rfl ?_
      refine al_skip rfl rfl rfl ?_
      refine al_skip rfl rfl rfl ?_
      refine al_skip rfl rfl rfl ?_
      refine al_skip rfl rfl rfl ?_
      refine al_q (q_pickT rfl rfl) rfl rfl rfl ?_
      refine al_end ?_
      refine aq_then ?_
      refine ac_condT rfl ?_
      refine ac_seq ?_
      refine ac_region ?_
      refine al_q (q_assign rfl) rfl rfl rfl ?_
      refine al_end ?_
      refine aq_then ?_
      refine ac_ret ?_
      refine aq_thenR ?_
      refine ret1 Try.results14 rfl (fun w9 hs => ?_)
      rw [vsF v2]; exact ⟨rfl, hs.below⟩
    · have v2 := wthn_iff.1 (show wthn S.tick 0 1000000000 = true by simpa using hb2)
      refine al_q (q_fieldAddr 4 rfl Try.runUnderlying35 rfl Try.sizeOf30 (by decide) rfl) rfl rfl rfl ?_
      refine al_q (q_load (i := 0) rfl rfl rfl Try.isAgg30) rfl rfl rfl ?_
      refine al_q (q_lenS rfl Try.runUnderlying30) rfl rfl rfl ?_
      refine al_q (q_fieldAddr 1 rfl Try.runUnderlying29 rfl Try.sizeOf22 (by decide) rfl) rfl rfl rfl ?_
      refine al_q (q_load (i := 1) rfl rfl rfl Try.isAgg22) rfl rfl rfl ?_
      refine al_q (q_lenS rfl Try.runUnderlying22) rfl rfl rfl ?_
      refine al_q (q_neq rfl rfl) rfl rfl rfl ?_
      refine al_q (q_pickF rfl rfl) rfl rfl rfl ?_
      refine al_q (q_move rfl) rfl rfl rfl ?_
      refine aq_split 26 rfl (fun hb3 => ?_) (fun hb3 => ?_)
      · have v3 : ¬ FitS M S := fun h => by have := h.heat.1; simp at hb3; omega
        refine al_skip rfl rfl rfl ?_
        refine al_skip rfl rfl rfl ?_
        refine al_skip rfl rfl rfl ?_
        refine al_skip rfl rfl rfl ?_
        refine al_skip rfl rfl rfl ?_
        refine al_skip rfl rfl rfl ?_
        refine al_skip rfl rfl rfl ?_
        refine al_q (q_pickT rfl rfl) rfl rfl rfl ?_
        refine al_end ?_
        refine aq_then ?_
        refine ac_condT rfl ?_
        refine ac_seq ?_
        refine ac_region ?_
        refine al_q (q_assign rfl) rfl rfl rfl ?_
        refine al_end ?_
        refine aq_then ?_
        refine ac_ret ?_
        refine aq_thenR ?_
        refine ret1 Try.results14 rfl (fun w9 hs => ?_)
        rw [vsF v3]; exact ⟨rfl, hs.below⟩
      · have v3 : S.heat.length = M.coils.length := by simp at hb3; omega
        refine al_q (q_fieldAddr 5 rfl Try.runUnderlying35 rfl Try.sizeOf33 (by decide) rfl) rfl rfl rfl ?_
        refine al_q (q_load (i := 0) rfl rfl rfl Try.isAgg33) rfl rfl rfl ?_
        refine al_q (q_lenS rfl Try.runUnderlying33) rfl rfl rfl ?_
        refine al_q (q_fieldAddr 1 rfl Try.runUnderlying29 rfl Try.sizeOf22 (by decide) rfl) rfl rfl rfl ?_
        refine al_q (q_load (i := 1) rfl rfl rfl Try.isAgg22) rfl rfl rfl ?_
        refine al_q (q_lenS rfl Try.runUnderlying22) rfl rfl rfl ?_
        refine al_q (q_neq rfl rfl) rfl rfl rfl ?_
        refine al_q (q_pickF rfl rfl) rfl rfl rfl ?_
        refine al_end ?_
        refine aq_then ?_
        refine ac_cond rfl (fun h1 => ?_) (fun h1 => ?_)
        · have v4 : ¬ FitS M S := fun h => by have := h.trip; simp at h1; omega
          refine ac_seq ?_
          refine ac_region ?_
          refine al_q (q_assign rfl) rfl rfl rfl ?_
          refine al_end ?_
          refine aq_then ?_
          refine ac_ret ?_
          refine aq_thenR ?_
          refine ret1 Try.results14 rfl (fun w9 hs => ?_)
          rw [vsF v4]; exact ⟨rfl, hs.below⟩
        · have v4 : S.trip.length = M.coils.length := by simp at h1; omega
          refine ac_skip ?_
          refine aq_then ?_
          refine ac_seq ?_
          refine ac_seq ?_
          refine ac_region ?_
          refine al_q (q_assign rfl) rfl rfl rfl ?_
          refine al_end ?_
          refine aq_then ?_
          refine ac_block ?_
          refine ac_loop (β := Nat) (fun x => x ≤ RS.lh ∧ ∀ j, j < x → 0 ≤ iA S.heat j ∧ iA S.heat j ≤ 1000000000000000) (fun x => [(3, (.pointer (some ⟨b2, 0, none⟩))), (4, (.bool false)), (5, (.int .i64 (x : Int)))]) (fun _ => _) (fun x => [(b2, _), (b1, _)]) (fun x => RS.lh - x) 0 ⟨by omega, fun j h => by omega⟩ ⟨rfl, rfl, rfl, trivial⟩ (fun w9 hs => hs) (fun x hF1 => ?_)
          refine ac_seq ?_
          refine ac_seq ?_
          refine ac_region ?_
          refine al_q (q_move rfl) rfl rfl rfl ?_
          refine al_q (q_fieldAddr 4 rfl Try.runUnderlying35 rfl Try.sizeOf30 (by decide) rfl) rfl rfl rfl ?_
          refine al_q (q_load (i := 0) rfl rfl rfl Try.isAgg30) rfl rfl rfl ?_
          refine al_q (q_lenS rfl Try.runUnderlying30) rfl rfl rfl ?_
          refine al_q (q_lss rfl rfl) rfl rfl rfl ?_
          refine al_end ?_
          refine aq_then ?_
          refine ac_cond rfl (fun h2 => ?_) (fun h2 => ?_)
          · have hxl : x < RS.lh := by have := of_decide_eq_true h2; omega
            obtain ⟨b21, o21, hA2, hlt2, hget2⟩ := hS.heat.2 (by omega)
            have hx2 := iA_get (l := S.heat) (k := x) (by omega)
            refine ac_skip ?_
            refine aq_then ?_
            refine ac_seq ?_
            refine ac_block ?_
            refine ac_seq ?_
            refine ac_region ?_
            refine al_q (q_fieldAddr 4 rfl Try.runUnderlying35 rfl Try.sizeOf30 (by decide) rfl) rfl rfl rfl ?_
            refine al_q (q_load (i := 0) rfl rfl rfl Try.isAgg30) rfl rfl rfl ?_
            refine al_q (q_move rfl) rfl rfl rfl ?_
            refine al_q (q_indexAddrA (i := x) (o21 + x * 1 + 0) hA2 rfl rfl rfl (by omega) Try.runUnderlying30 Try.sizeOf3 rfl) rfl rfl rfl ?_
            refine al_q (q_loadX rfl Try.isAgg3 (fun w9 hs => (hs.below.cell (p := ⟨_, _, none⟩) hlt2).trans ((hget2 x _ hx2) 0 _ rfl))) rfl rfl rfl ?_
            refine al_call Try.call38 (.cons rfl (.cons rfl (.cons rfl .nil))) rfl rfl (fun w3 hs3 => ?_)
            refine (rwithin3_any (iA S.heat x) 0 1000000000000000 _).mono ?_
            rintro e u3 ⟨rfl, hb_3⟩
            refine ⟨_, rfl, hb_3, ?_⟩
            clear hs3
            refine al_q (q_not rfl) rfl rfl rfl ?_
            refine al_end ?_
            refine aq_then ?_
            refine ac_cond rfl (fun h3 => ?_) (fun h3 => ?_)
            · have v5 : ¬ FitS M S := fun h => by rw [wthn_iff.2 (h.heat.2 _ (List.mem_of_getElem? hx2))] at h3; cases h3
              refine ac_seq ?_
              refine ac_region ?_
              refine al_q (q_assign rfl) rfl rfl rfl ?_
              refine al_end ?_
              refine aq_then ?_
              refine ac_ret ?_
              refine aq_inR ?_
              refine aq_thenR ?_
              refine aq_thenR ?_
              refine aq_inR ?_
              refine aq_thenR ?_
              refine ret1 Try.results14 rfl (fun w9 hs => ?_)
              rw [vsF v5]; exact ⟨rfl, hs.below⟩
            · have v5 := wthn_iff.1 (show wthn (iA S.heat x) 0 1000000000000000 = true by simpa using h3)
              refine ac_skip ?_
              refine aq_inN ?_
              refine aq_then ?_
              refine ac_region ?_
              refine al_q (q_move rfl) rfl rfl rfl ?_
              refine al_q (q_add rfl rfl (by omega)) rfl rfl rfl ?_
              refine al_q (q_assign rfl) rfl rfl rfl ?_
              refine al_end ?_
              refine aq_then ?_
              skip
              refine aq_round (x + 1) (by omega) ⟨by omega, upTo hF1.2 v5⟩ ⟨rfl, rfl, rfl, trivial⟩ (fun w9 hs => (hs.fewer 1 rfl))
          · have hxe : x = RS.lh := by have := of_decide_eq_false h2; omega
            refine ac_exit ?_
            refine aq_thenE ?_
            refine aq_thenE ?_
            refine aq_hit ?_
            refine aq_then ?_
            refine ac_seq ?_
            refine ac_region ?_
            refine al_q (q_assign rfl) rfl rfl rfl ?_
            refine al_end ?_
            refine aq_then ?_
            refine ac_ret ?_
            refine ret1 Try.results14 rfl (fun w9 hs => ?_)
            rw [fitS_iff.2 ⟨v1, v2, ⟨v3, fun y hy => ?_⟩, v4⟩]
            · exact ⟨rfl, hs.below⟩
            · obtain ⟨j, hj, rfl⟩ := List.mem_iff_getElem.1 hy
              have := hF1.2 j (by omega)
              rwa [iA_of (List.getElem?_eq_getElem hj)] at this

theorem kiq_bl_apiCurrents_0_1_2 (a0 a1 a2 : Value) (ha0 : a0.oneCell' = true) (ha1 : a1.oneCell' = true) (ha2 : a2.oneCell' = true) : ∀ w, (Instr.build 32 #[(0, a0), (1, a1), (2, a2)]).run Try.prog w = .ok (.agg #[a0, a1, a2]) w := by
  have ea0 : a0.cells = #[a0] := cells_one ha0
  have ea1 : a1.cells = #[a1] := cells_one ha1
  have ea2 : a2.cells = #[a2] := cells_one ha2
  intro w; simp [Instr.build, Instr.fill, cells_agg, Try.runUnderlying32, Try.zeroValue32, Try.sizeOf30, ea0, ea1, ea2]

set_option maxRecDepth 100000 in
theorem rquiet_ok (R : MachR) (M : MachD) (w : World) (hM : IsM w R M) (hc : checkC M = 0) : Calls Try.prog 33 #[(.agg (machCells R M))] w (fun e w' => ∃ b1 b2 b3, e = .returned (.agg #[.slice (some ⟨b1, 0, none⟩) R.la R.la, .slice (some ⟨b2, 0, none⟩) R.lb R.lb, .slice (some ⟨b3, 0, none⟩) (M.grid.nr * M.grid.nz).toNat (M.grid.nr * M.grid.nz).toNat]) ∧ Own w [(b1, .cells (List.replicate R.la (.int .i64 0))), (b2, .cells (List.replicate R.lb (.int .i64 0))), (b3, .cells (List.replicate (M.grid.nr * M.grid.nz).toNat (.int .i64 0)))] w') := by
  have hs0 := sound_of hc
  have hg := cells_fine hs0.grid
  have hsc := hs0.coils.1
  have hss := hs0.shells.1
  have ga := hM.coils.1
  have gb := hM.shells.1
  have hcc : cellsC M = M.grid.nr * M.grid.nz := if_pos hc
  refine calls_ax (vs := [(.agg (machCells R M))]) Try.func33 rfl rfl ?_
  refine ac_seq ?_
  refine ac_region ?_
  refine al_new (fun b => .pointer (some ⟨b, 0, none⟩)) (r_box rfl rfl) rfl rfl rfl ?_
  intro b1
  refine al_new (fun b => .pointer (some ⟨b, 0, none⟩)) (r_alloc Try.zeroValue32 rfl) rfl rfl rfl ?_
  intro b2
  refine al_end ?_
  refine aq_then ?_
  refine ac_seq ?_
  refine ac_seq ?_
  refine ac_region ?_
  refine al_q (q_loadAll (i := 1) rfl rfl Try.isAgg29 Try.sizeOf29 rfl) rfl rfl rfl ?_
  refine al_call Try.call32 (.cons rfl .nil) rfl rfl (fun w1 hs1 => ?_)
  refine (rcheck_any R M _ (hM.below hs1.below)).mono ?_
  rintro e u1 ⟨rfl, hb_1⟩
  refine ⟨_, rfl, hb_1, ?_⟩
  clear hs1
  refine al_q (q_neq rfl rfl) rfl rfl rfl ?_
  refine al_end ?_
  refine aq_then ?_
  refine ac_cond rfl (fun h1 => ?_) (fun h1 => ?_)
  · exact absurd h1 (by simp [hc])
  · refine ac_skip ?_
    refine aq_then ?_
    refine ac_seq ?_
    refine ac_drawK 1 12 rfl (by kernel_rfl) (by kernel_rfl) ?_
    refine ah_take 0 (fun w9 hs => (hs.tail 1 rfl)) rfl rfl rfl (by kernel_rfl) (by kernel_rfl) (by kernel_rfl) (fun _ _ _ h => h) rfl (q_fieldAddr 1 rfl Try.runUnderlying29 rfl Try.sizeOf22 (by decide) rfl) ?_
    refine ah_take 1 (fun w9 hs => (hs.tail 1 rfl)) rfl rfl rfl (by kernel_rfl) (by kernel_rfl) (by kernel_rfl) (fun _ _ _ h => h) rfl (q_load (i := 0) rfl rfl rfl Try.isAgg22) ?_
    refine ah_take 2 (fun w9 hs => (hs.tail 1 rfl)) rfl rfl rfl (by kernel_rfl) (by kernel_rfl) (by kernel_rfl) (fun _ _ _ h => h) rfl (q_lenS rfl Try.runUnderlying22) ?_
    refine ah_take 4 (fun w9 hs => (hs.tail 1 rfl)) rfl rfl rfl (by kernel_rfl) (by kernel_rfl) (by kernel_rfl) (fun _ _ _ h => h) rfl (q_fieldAddr 2 rfl Try.runUnderlying29 rfl Try.sizeOf23 (by decide) rfl) ?_
    refine ah_take 5 (fun w9 hs => (hs.tail 1 rfl)) rfl rfl rfl (by kernel_rfl) (by kernel_rfl) (by kernel_rfl) (fun _ _ _ h => h) rfl (q_load (i := 0) rfl rfl rfl Try.isAgg23) ?_
    refine ah_take 6 (fun w9 hs => (hs.tail 1 rfl)) rfl rfl rfl (by kernel_rfl) (by kernel_rfl) (by kernel_rfl) (fun _ _ _ h => h) rfl (q_lenS rfl Try.runUnderlying23) ?_
    refine ah_take 8 (fun w9 hs => (hs.tail 1 rfl)) rfl rfl rfl (by kernel_rfl) (by kernel_rfl) (by kernel_rfl) (fun _ _ _ h => h) rfl (q_loadAll (i := 0) rfl rfl Try.isAgg29 Try.sizeOf29 rfl) ?_
    refine ah_three 3 7 9 rfl rfl rfl  (by kernel_rfl) (fun hok1 hcl1 => ?_) (fun hok1 hcl1 => ?_) (fun hok1 hcl1 => ?_)
    · refine al_makeInts (n := R.la) (z := (.int .i64 0)) (bytes := 8) rfl rfl rfl Try.underlying30 (by kernel_rfl) rfl (by omega) (by decide) rfl rfl ?_
      intro b3
      refine al_end (ah_back hok1 hcl1 (fun w9 hs => (hs.tail 2 rfl)) ?_)
      refine ah_two 7 9 rfl rfl  (by kernel_rfl) (fun hok2 hcl2 => ?_) (fun hok2 hcl2 => ?_)
      · refine al_makeInts (n := R.lb) (z := (.int .i64 0)) (bytes := 8) rfl rfl rfl Try.underlying30 (by kernel_rfl) rfl (by omega) (by decide) rfl rfl ?_
        intro b4
        refine al_end (ah_back hok2 hcl2 (fun w9 hs => (hs.tail 3 rfl)) ?_)
        refine ah_one 9 rfl (by kernel_rfl) (fun hok3 hcl3 => ?_)
        refine al_call Try.call69 (.cons rfl .nil) rfl rfl (fun w2 hs2 => ?_)
        refine (rcells2_any R M _ (hM.below hs2.below)).mono ?_
        rintro e u2 ⟨rfl, hb_2⟩
        refine ⟨_, rfl, hb_2, ?_⟩
        clear hs2
        refine al_end (ah_back hok3 hcl3 (fun w9 hs => ((hs.fewer 1 rfl).tail 3 rfl)) ?_)
        refine ah_one 10 rfl (by kernel_rfl) (fun hok4 hcl4 => ?_)
        refine al_makeInts (n := (M.grid.nr * M.grid.nz).toNat) (z := (.int .i64 0)) (bytes := 8) rfl rfl (by rw [hcc]; omega) Try.underlying30 (by kernel_rfl) rfl (by omega) (by decide) rfl rfl ?_
        intro b5
        refine al_end (ah_back hok4 hcl4 (fun w9 hs => ((hs.fewer 1 rfl).tail 4 rfl)) ?_)
        refine ah_take 11 (fun w9 hs => ((hs.fewer 1 rfl).tail 4 rfl)) rfl rfl rfl (by kernel_rfl) (by kernel_rfl) (by kernel_rfl) (fun _ _ _ h => h) rfl (q_build (.cons rfl (.cons rfl (.cons rfl .nil))) (kiq_bl_apiCurrents_0_1_2 _ _ _ rfl rfl rfl)) ?_
        refine ah_one 12 rfl (by kernel_rfl) (fun hok5 hcl5 => ?_)
        refine al_storeAll (i := 3) rfl rfl rfl rfl Try.sizeOf32 rfl rfl .k3 rfl ?_
        refine al_end (ah_last (by kernel_rfl) ?_)
        refine aq_then ?_
        refine ac_ret ?_
        refine retR Try.results33 (.agg (i := 3) rfl rfl Try.isAgg32 Try.sizeOf32 rfl .nil) .one (fun w9 hs => ?_)
        exact ⟨b3, b4, b5, rfl, hs.own (.cons (j := 2) rfl (.cons (j := 1) rfl (.cons (j := 0) rfl .nil))) (by decide)⟩
      · refine al_call Try.call69 (.cons rfl .nil) rfl rfl (fun w3 hs3 => ?_)
        refine (rcells2_any R M _ (hM.below hs3.below)).mono ?_
        rintro e u3 ⟨rfl, hb_3⟩
        refine ⟨_, rfl, hb_3, ?_⟩
        clear hs3
        refine al_end (ah_back hok2 hcl2 (fun w9 hs => ((hs.fewer 1 rfl).tail 2 rfl)) ?_)
        refine ah_two 7 10 rfl rfl  (by kernel_rfl) (fun hok6 hcl6 => ?_) (fun hok6 hcl6 => ?_)
        · refine al_makeInts (n := R.lb) (z := (.int .i64 0)) (bytes := 8) rfl rfl rfl Try.underlying30 (by kernel_rfl) rfl (by omega) (by decide) rfl rfl ?_
          intro b6
          refine al_end (ah_back hok6 hcl6 (fun w9 hs => ((hs.fewer 1 rfl).tail 3 rfl)) ?_)
          refine ah_one 10 rfl (by kernel_rfl) (fun hok7 hcl7 => ?_)
          refine al_makeInts (n := (M.grid.nr * M.grid.nz).toNat) (z := (.int .i64 0)) (bytes := 8) rfl rfl (by rw [hcc]; omega) Try.underlying30 (by kernel_rfl) rfl (by omega) (by decide) rfl rfl ?_
          intro b7
          refine al_end (ah_back hok7 hcl7 (fun w9 hs => ((hs.fewer 1 rfl).tail 4 rfl)) ?_)
          refine ah_take 11 (fun w9 hs => ((hs.fewer 1 rfl).tail 4 rfl)) rfl rfl rfl (by kernel_rfl) (by kernel_rfl) (by kernel_rfl) (fun _ _ _ h => h) rfl (q_build (.cons rfl (.cons rfl (.cons rfl .nil))) (kiq_bl_apiCurrents_0_1_2 _ _ _ rfl rfl rfl)) ?_
          refine ah_one 12 rfl (by kernel_rfl) (fun hok8 hcl8 => ?_)
          refine al_storeAll (i := 3) rfl rfl rfl rfl Try.sizeOf32 rfl rfl .k3 rfl ?_
          refine al_end (ah_last (by kernel_rfl) ?_)
          refine aq_then ?_
          refine ac_ret ?_
          refine retR Try.results33 (.agg (i := 3) rfl rfl Try.isAgg32 Try.sizeOf32 rfl .nil) .one (fun w9 hs => ?_)
          exact ⟨b3, b6, b7, rfl, hs.own (.cons (j := 2) rfl (.cons (j := 1) rfl (.cons (j := 0) rfl .nil))) (by decide)⟩
        · refine al_makeInts (n := (M.grid.nr * M.grid.nz).toNat) (z := (.int .i64 0)) (bytes := 8) rfl rfl (by rw [hcc]; omega) Try.underlying30 (by kernel_rfl) rfl (by omega) (by decide) rfl rfl ?_
          intro b8
          refine al_end (ah_back hok6 hcl6 (fun w9 hs => ((hs.fewer 1 rfl).tail 3 rfl)) ?_)
          refine ah_one 7 rfl (by kernel_rfl) (fun hok9 hcl9 => ?_)
          refine al_makeInts (n := R.lb) (z := (.int .i64 0)) (bytes := 8) rfl rfl rfl Try.underlying30 (by kernel_rfl) rfl (by omega) (by decide) rfl rfl ?_
          intro b9
          refine al_end (ah_back hok9 hcl9 (fun w9 hs => ((hs.fewer 1 rfl).tail 4 rfl)) ?_)
          refine ah_take 11 (fun w9 hs => ((hs.fewer 1 rfl).tail 4 rfl)) rfl rfl rfl (by kernel_rfl) (by kernel_rfl) (by kernel_rfl) (fun _ _ _ h => h) rfl (q_build (.cons rfl (.cons rfl (.cons rfl .nil))) (kiq_bl_apiCurrents_0_1_2 _ _ _ rfl rfl rfl)) ?_
          refine ah_one 12 rfl (by kernel_rfl) (fun hok10 hcl10 => ?_)
          refine al_storeAll (i := 3) rfl rfl rfl rfl Try.sizeOf32 rfl rfl .k3 rfl ?_
          refine al_end (ah_last (by kernel_rfl) ?_)
          refine aq_then ?_
          refine ac_ret ?_
          refine retR Try.results33 (.agg (i := 3) rfl rfl Try.isAgg32 Try.sizeOf32 rfl .nil) .one (fun w9 hs => ?_)
          exact ⟨b3, b9, b8, rfl, hs.own (.cons (j := 2) rfl (.cons (j := 0) rfl (.cons (j := 1) rfl .nil))) (by decide)⟩
    · refine al_makeInts (n := R.lb) (z := (.int .i64 0)) (bytes := 8) rfl rfl rfl Try.underlying30 (by kernel_rfl) rfl (by omega) (by decide) rfl rfl ?_
      intro b10
      refine al_end (ah_back hok1 hcl1 (fun w9 hs => (hs.tail 2 rfl)) ?_)
      refine ah_two 3 9 rfl rfl  (by kernel_rfl) (fun hok11 hcl11 => ?_) (fun hok11 hcl11 => ?_)
      · refine al_makeInts (n := R.la) (z := (.int .i64 0)) (bytes := 8) rfl rfl rfl Try.underlying30 (by kernel_rfl) rfl (by omega) (by decide) rfl rfl ?_
        intro b11
        refine al_end (ah_back hok11 hcl11 (fun w9 hs => (hs.tail 3 rfl)) ?_)
        refine ah_one 9 rfl (by kernel_rfl) (fun hok12 hcl12 => ?_)
        refine al_call Try.call69 (.cons rfl .nil) rfl rfl (fun w4 hs4 => ?_)
        refine (rcells2_any R M _ (hM.below hs4.below)).mono ?_
        rintro e u4 ⟨rfl, hb_4⟩
        refine ⟨_, rfl, hb_4, ?_⟩
        clear hs4
        refine al_end (ah_back hok12 hcl12 (fun w9 hs => ((hs.fewer 1 rfl).tail 3 rfl)) ?_)
        refine ah_one 10 rfl (by kernel_rfl) (fun hok13 hcl13 => ?_)
        refine al_makeInts (n := (M.grid.nr * M.grid.nz).toNat) (z := (.int .i64 0)) (bytes := 8) rfl rfl (by rw [hcc]; omega) Try.underlying30 (by kernel_rfl) rfl (by omega) (by decide) rfl rfl ?_
        intro b12
        refine al_end (ah_back hok13 hcl13 (fun w9 hs => ((hs.fewer 1 rfl).tail 4 rfl)) ?_)
        refine ah_take 11 (fun w9 hs => ((hs.fewer 1 rfl).tail 4 rfl)) rfl rfl rfl (by kernel_rfl) (by kernel_rfl) (by kernel_rfl) (fun _ _ _ h => h) rfl (q_build (.cons rfl (.cons rfl (.cons rfl .nil))) (kiq_bl_apiCurrents_0_1_2 _ _ _ rfl rfl rfl)) ?_
        refine ah_one 12 rfl (by kernel_rfl) (fun hok14 hcl14 => ?_)
        refine al_storeAll (i := 3) rfl rfl rfl rfl Try.sizeOf32 rfl rfl .k3 rfl ?_
        refine al_end (ah_last (by kernel_rfl) ?_)
        refine aq_then ?_
        refine ac_ret ?_
        refine retR Try.results33 (.agg (i := 3) rfl rfl Try.isAgg32 Try.sizeOf32 rfl .nil) .one (fun w9 hs => ?_)
        exact ⟨b11, b10, b12, rfl, hs.own (.cons (j := 1) rfl (.cons (j := 2) rfl (.cons (j := 0) rfl .nil))) (by decide)⟩
      · refine al_call Try.call69 (.cons rfl .nil) rfl rfl (fun w5 hs5 => ?_)
        refine (rcells2_any R M _ (hM.below hs5.below)).mono ?_
        rintro e u5 ⟨rfl, hb_5⟩
        refine ⟨_, rfl, hb_5, ?_⟩
        clear hs5
        refine al_end (ah_back hok11 hcl11 (fun w9 hs => ((hs.fewer 1 rfl).tail 2 rfl)) ?_)
        refine ah_two 3 10 rfl rfl  (by kernel_rfl) (fun hok15 hcl15 => ?_) (fun hok15 hcl15 => ?_)
        · refine al_makeInts (n := R.la) (z := (.int .i64 0)) (bytes := 8) rfl rfl rfl Try.underlying30 (by kernel_rfl) rfl (by omega) (by decide) rfl rfl ?_
          intro b13
          refine al_end (ah_back hok15 hcl15 (fun w9 hs => ((hs.fewer 1 rfl).tail 3 rfl)) ?_)
          refine ah_one 10 rfl (by kernel_rfl) (fun hok16 hcl16 => ?_)
          refine al_makeInts (n := (M.grid.nr * M.grid.nz).toNat) (z := (.int .i64 0)) (bytes := 8) rfl rfl (by rw [hcc]; omega) Try.underlying30 (by kernel_rfl) rfl (by omega) (by decide) rfl rfl ?_
          intro b14
          refine al_end (ah_back hok16 hcl16 (fun w9 hs => ((hs.fewer 1 rfl).tail 4 rfl)) ?_)
          refine ah_take 11 (fun w9 hs => ((hs.fewer 1 rfl).tail 4 rfl)) rfl rfl rfl (by kernel_rfl) (by kernel_rfl) (by kernel_rfl) (fun _ _ _ h => h) rfl (q_build (.cons rfl (.cons rfl (.cons rfl .nil))) (kiq_bl_apiCurrents_0_1_2 _ _ _ rfl rfl rfl)) ?_
          refine ah_one 12 rfl (by kernel_rfl) (fun hok17 hcl17 => ?_)
          refine al_storeAll (i := 3) rfl rfl rfl rfl Try.sizeOf32 rfl rfl .k3 rfl ?_
          refine al_end (ah_last (by kernel_rfl) ?_)
          refine aq_then ?_
          refine ac_ret ?_
          refine retR Try.results33 (.agg (i := 3) rfl rfl Try.isAgg32 Try.sizeOf32 rfl .nil) .one (fun w9 hs => ?_)
          exact ⟨b13, b10, b14, rfl, hs.own (.cons (j := 1) rfl (.cons (j := 2) rfl (.cons (j := 0) rfl .nil))) (by decide)⟩
        · refine al_makeInts (n := (M.grid.nr * M.grid.nz).toNat) (z := (.int .i64 0)) (bytes := 8) rfl rfl (by rw [hcc]; omega) Try.underlying30 (by kernel_rfl) rfl (by omega) (by decide) rfl rfl ?_
          intro b15
          refine al_end (ah_back hok15 hcl15 (fun w9 hs => ((hs.fewer 1 rfl).tail 3 rfl)) ?_)
          refine ah_one 3 rfl (by kernel_rfl) (fun hok18 hcl18 => ?_)
          refine al_makeInts (n := R.la) (z := (.int .i64 0)) (bytes := 8) rfl rfl rfl Try.underlying30 (by kernel_rfl) rfl (by omega) (by decide) rfl rfl ?_
          intro b16
          refine al_end (ah_back hok18 hcl18 (fun w9 hs => ((hs.fewer 1 rfl).tail 4 rfl)) ?_)
          refine ah_take 11 (fun w9 hs => ((hs.fewer 1 rfl).tail 4 rfl)) rfl rfl rfl (by kernel_rfl) (by kernel_rfl) (by kernel_rfl) (fun _ _ _ h => h) rfl (q_build (.cons rfl (.cons rfl (.cons rfl .nil))) (kiq_bl_apiCurrents_0_1_2 _ _ _ rfl rfl rfl)) ?_
          refine ah_one 12 rfl (by kernel_rfl) (fun hok19 hcl19 => ?_)
          refine al_storeAll (i := 3) rfl rfl rfl rfl Try.sizeOf32 rfl rfl .k3 rfl ?_
          refine al_end (ah_last (by kernel_rfl) ?_)
          refine aq_then ?_
          refine ac_ret ?_
          refine retR Try.results33 (.agg (i := 3) rfl rfl Try.isAgg32 Try.sizeOf32 rfl .nil) .one (fun w9 hs => ?_)
          exact ⟨b16, b10, b15, rfl, hs.own (.cons (j := 0) rfl (.cons (j := 2) rfl (.cons (j := 1) rfl .nil))) (by decide)⟩
    · refine al_call Try.call69 (.cons rfl .nil) rfl rfl (fun w6 hs6 => ?_)
      refine (rcells2_any R M _ (hM.below hs6.below)).mono ?_
      rintro e u6 ⟨rfl, hb_6⟩
      refine ⟨_, rfl, hb_6, ?_⟩
      clear hs6
      refine al_end (ah_back hok1 hcl1 (fun w9 hs => ((hs.fewer 1 rfl).tail 1 rfl)) ?_)
      refine ah_three 3 7 10 rfl rfl rfl  (by kernel_rfl) (fun hok20 hcl20 => ?_) (fun hok20 hcl20 => ?_) (fun hok20 hcl20 => ?_)
      · refine al_makeInts (n := R.la) (z := (.int .i64 0)) (bytes := 8) rfl rfl rfl Try.underlying30 (by kernel_rfl) rfl (by omega) (by decide) rfl rfl ?_
        intro b17
        refine al_end (ah_back hok20 hcl20 (fun w9 hs => ((hs.fewer 1 rfl).tail 2 rfl)) ?_)
        refine ah_two 7 10 rfl rfl  (by kernel_rfl) (fun hok21 hcl21 => ?_) (fun hok21 hcl21 => ?_)
        · refine al_makeInts (n := R.lb) (z := (.int .i64 0)) (bytes := 8) rfl rfl rfl Try.underlying30 (by kernel_rfl) rfl (by omega) (by decide) rfl rfl ?_
          intro b18
          refine al_end (ah_back hok21 hcl21 (fun w9 hs => ((hs.fewer 1 rfl).tail 3 rfl)) ?_)
          refine ah_one 10 rfl (by kernel_rfl) (fun hok22 hcl22 => ?_)
          refine al_makeInts (n := (M.grid.nr * M.grid.nz).toNat) (z := (.int .i64 0)) (bytes := 8) rfl rfl (by rw [hcc]; omega) Try.underlying30 (by kernel_rfl) rfl (by omega) (by decide) rfl rfl ?_
          intro b19
          refine al_end (ah_back hok22 hcl22 (fun w9 hs => ((hs.fewer 1 rfl).tail 4 rfl)) ?_)
          refine ah_take 11 (fun w9 hs => ((hs.fewer 1 rfl).tail 4 rfl)) rfl rfl rfl (by kernel_rfl) (by kernel_rfl) (by kernel_rfl) (fun _ _ _ h => h) rfl (q_build (.cons rfl (.cons rfl (.cons rfl .nil))) (kiq_bl_apiCurrents_0_1_2 _ _ _ rfl rfl rfl)) ?_
          refine ah_one 12 rfl (by kernel_rfl) (fun hok23 hcl23 => ?_)
          refine al_storeAll (i := 3) rfl rfl rfl rfl Try.sizeOf32 rfl rfl .k3 rfl ?_
          refine al_end (ah_last (by kernel_rfl) ?_)
          refine aq_then ?_
          refine ac_ret ?_
          refine retR Try.results33 (.agg (i := 3) rfl rfl Try.isAgg32 Try.sizeOf32 rfl .nil) .one (fun w9 hs => ?_)
          exact ⟨b17, b18, b19, rfl, hs.own (.cons (j := 2) rfl (.cons (j := 1) rfl (.cons (j := 0) rfl .nil))) (by decide)⟩
        · refine al_makeInts (n := (M.grid.nr * M.grid.nz).toNat) (z := (.int .i64 0)) (bytes := 8) rfl rfl (by rw [hcc]; omega) Try.underlying30 (by kernel_rfl) rfl (by omega) (by decide) rfl rfl ?_
          intro b20
          refine al_end (ah_back hok21 hcl21 (fun w9 hs => ((hs.fewer 1 rfl).tail 3 rfl)) ?_)
          refine ah_one 7 rfl (by kernel_rfl) (fun hok24 hcl24 => ?_)
          refine al_makeInts (n := R.lb) (z := (.int .i64 0)) (bytes := 8) rfl rfl rfl Try.underlying30 (by kernel_rfl) rfl (by omega) (by decide) rfl rfl ?_
          intro b21
          refine al_end (ah_back hok24 hcl24 (fun w9 hs => ((hs.fewer 1 rfl).tail 4 rfl)) ?_)
          refine ah_take 11 (fun w9 hs => ((hs.fewer 1 rfl).tail 4 rfl)) rfl rfl rfl (by kernel_rfl) (by kernel_rfl) (by kernel_rfl) (fun _ _ _ h => h) rfl (q_build (.cons rfl (.cons rfl (.cons rfl .nil))) (kiq_bl_apiCurrents_0_1_2 _ _ _ rfl rfl rfl)) ?_
          refine ah_one 12 rfl (by kernel_rfl) (fun hok25 hcl25 => ?_)
          refine al_storeAll (i := 3) rfl rfl rfl rfl Try.sizeOf32 rfl rfl .k3 rfl ?_
          refine al_end (ah_last (by kernel_rfl) ?_)
          refine aq_then ?_
          refine ac_ret ?_
          refine retR Try.results33 (.agg (i := 3) rfl rfl Try.isAgg32 Try.sizeOf32 rfl .nil) .one (fun w9 hs => ?_)
          exact ⟨b17, b21, b20, rfl, hs.own (.cons (j := 2) rfl (.cons (j := 0) rfl (.cons (j := 1) rfl .nil))) (by decide)⟩
      · refine al_makeInts (n := R.lb) (z := (.int .i64 0)) (bytes := 8) rfl rfl rfl Try.underlying30 (by kernel_rfl) rfl (by omega) (by decide) rfl rfl ?_
        intro b22
        refine al_end (ah_back hok20 hcl20 (fun w9 hs => ((hs.fewer 1 rfl).tail 2 rfl)) ?_)
        refine ah_two 3 10 rfl rfl  (by kernel_rfl) (fun hok26 hcl26 => ?_) (fun hok26 hcl26 => ?_)
        · refine al_makeInts (n := R.la) (z := (.int .i64 0)) (bytes := 8) rfl rfl rfl Try.underlying30 (by kernel_rfl) rfl (by omega) (by decide) rfl rfl ?_
          intro b23
          refine al_end (ah_back hok26 hcl26 (fun w9 hs => ((hs.fewer 1 rfl).tail 3 rfl)) ?_)
          refine ah_one 10 rfl (by kernel_rfl) (fun hok27 hcl27 => ?_)
          refine al_makeInts (n := (M.grid.nr * M.grid.nz).toNat) (z := (.int .i64 0)) (bytes := 8) rfl rfl (by rw [hcc]; omega) Try.underlying30 (by kernel_rfl) rfl (by omega) (by decide) rfl rfl ?_
          intro b24
          refine al_end (ah_back hok27 hcl27 (fun w9 hs => ((hs.fewer 1 rfl).tail 4 rfl)) ?_)
          refine ah_take 11 (fun w9 hs => ((hs.fewer 1 rfl).tail 4 rfl)) rfl rfl rfl (by kernel_rfl) (by kernel_rfl) (by kernel_rfl) (fun _ _ _ h => h) rfl (q_build (.cons rfl (.cons rfl (.cons rfl .nil))) (kiq_bl_apiCurrents_0_1_2 _ _ _ rfl rfl rfl)) ?_
          refine ah_one 12 rfl (by kernel_rfl) (fun hok28 hcl28 => ?_)
          refine al_storeAll (i := 3) rfl rfl rfl rfl Try.sizeOf32 rfl rfl .k3 rfl ?_
          refine al_end (ah_last (by kernel_rfl) ?_)
          refine aq_then ?_
          refine ac_ret ?_
          refine retR Try.results33 (.agg (i := 3) rfl rfl Try.isAgg32 Try.sizeOf32 rfl .nil) .one (fun w9 hs => ?_)
          exact ⟨b23, b22, b24, rfl, hs.own (.cons (j := 1) rfl (.cons (j := 2) rfl (.cons (j := 0) rfl .nil))) (by decide)⟩
        · refine al_makeInts (n := (M.grid.nr * M.grid.nz).toNat) (z := (.int .i64 0)) (bytes := 8) rfl rfl (by rw [hcc]; omega) Try.underlying30 (by kernel_rfl) rfl (by omega) (by decide) rfl rfl ?_
          intro b25
          refine al_end (ah_back hok26 hcl26 (fun w9 hs => ((hs.fewer 1 rfl).tail 3 rfl)) ?_)
          refine ah_one 3 rfl (by kernel_rfl) (fun hok29 hcl29 => ?_)
          refine al_makeInts (n := R.la) (z := (.int .i64 0)) (bytes := 8) rfl rfl rfl Try.underlying30 (by kernel_rfl) rfl (by omega) (by decide) rfl rfl ?_
          intro b26
          refine al_end (ah_back hok29 hcl29 (fun w9 hs => ((hs.fewer 1 rfl).tail 4 rfl)) ?_)
          refine ah_take 11 (fun w9 hs => ((hs.fewer 1 rfl).tail 4 rfl)) rfl rfl rfl (by kernel_rfl) (by kernel_rfl) (by kernel_rfl) (fun _ _ _ h => h) rfl (q_build (.cons rfl (.cons rfl (.cons rfl .nil))) (kiq_bl_apiCurrents_0_1_2 _ _ _ rfl rfl rfl)) ?_
          refine ah_one 12 rfl (by kernel_rfl) (fun hok30 hcl30 => ?_)
          refine al_storeAll (i := 3) rfl rfl rfl rfl Try.sizeOf32 rfl rfl .k3 rfl ?_
          refine al_end (ah_last (by kernel_rfl) ?_)
          refine aq_then ?_
          refine ac_ret ?_
          refine retR Try.results33 (.agg (i := 3) rfl rfl Try.isAgg32 Try.sizeOf32 rfl .nil) .one (fun w9 hs => ?_)
          exact ⟨b26, b22, b25, rfl, hs.own (.cons (j := 0) rfl (.cons (j := 2) rfl (.cons (j := 1) rfl .nil))) (by decide)⟩
      · refine al_makeInts (n := (M.grid.nr * M.grid.nz).toNat) (z := (.int .i64 0)) (bytes := 8) rfl rfl (by rw [hcc]; omega) Try.underlying30 (by kernel_rfl) rfl (by omega) (by decide) rfl rfl ?_
        intro b27
        refine al_end (ah_back hok20 hcl20 (fun w9 hs => ((hs.fewer 1 rfl).tail 2 rfl)) ?_)
        refine ah_two 3 7 rfl rfl  (by kernel_rfl) (fun hok31 hcl31 => ?_) (fun hok31 hcl31 => ?_)
        · refine al_makeInts (n := R.la) (z := (.int .i64 0)) (bytes := 8) rfl rfl rfl Try.underlying30 (by kernel_rfl) rfl (by omega) (by decide) rfl rfl ?_
          intro b28
          refine al_end (ah_back hok31 hcl31 (fun w9 hs => ((hs.fewer 1 rfl).tail 3 rfl)) ?_)
          refine ah_one 7 rfl (by kernel_rfl) (fun hok32 hcl32 => ?_)
          refine al_makeInts (n := R.lb) (z := (.int .i64 0)) (bytes := 8) rfl rfl rfl Try.underlying30 (by kernel_rfl) rfl (by omega) (by decide) rfl rfl ?_
          intro b29
          refine al_end (ah_back hok32 hcl32 (fun w9 hs => ((hs.fewer 1 rfl).tail 4 rfl)) ?_)
          refine ah_take 11 (fun w9 hs => ((hs.fewer 1 rfl).tail 4 rfl)) rfl rfl rfl (by kernel_rfl) (by kernel_rfl) (by kernel_rfl) (fun _ _ _ h => h) rfl (q_build (.cons rfl (.cons rfl (.cons rfl .nil))) (kiq_bl_apiCurrents_0_1_2 _ _ _ rfl rfl rfl)) ?_
          refine ah_one 12 rfl (by kernel_rfl) (fun hok33 hcl33 => ?_)
          refine al_storeAll (i := 3) rfl rfl rfl rfl Try.sizeOf32 rfl rfl .k3 rfl ?_
          refine al_end (ah_last (by kernel_rfl) ?_)
          refine aq_then ?_
          refine ac_ret ?_
          refine retR Try.results33 (.agg (i := 3) rfl rfl Try.isAgg32 Try.sizeOf32 rfl .nil) .one (fun w9 hs => ?_)
          exact ⟨b28, b29, b27, rfl, hs.own (.cons (j := 1) rfl (.cons (j := 0) rfl (.cons (j := 2) rfl .nil))) (by decide)⟩
        · refine al_makeInts (n := R.lb) (z := (.int .i64 0)) (bytes := 8) rfl rfl rfl Try.underlying30 (by kernel_rfl) rfl (by omega) (by decide) rfl rfl ?_
          intro b30
          refine al_end (ah_back hok31 hcl31 (fun w9 hs => ((hs.fewer 1 rfl).tail 3 rfl)) ?_)
          refine ah_one 3 rfl (by kernel_rfl) (fun hok34 hcl34 => ?_)
          refine al_makeInts (n := R.la) (z := (.int .i64 0)) (bytes := 8) rfl rfl rfl Try.underlying30 (by kernel_rfl) rfl (by omega) (by decide) rfl rfl ?_
          intro b31
          refine al_end (ah_back hok34 hcl34 (fun w9 hs => ((hs.fewer 1 rfl).tail 4 rfl)) ?_)
          refine ah_take 11 (fun w9 hs => ((hs.fewer 1 rfl).tail 4 rfl)) rfl rfl rfl (by kernel_rfl) (by kernel_rfl) (by kernel_rfl) (fun _ _ _ h => h) rfl (q_build (.cons rfl (.cons rfl (.cons rfl .nil))) (kiq_bl_apiCurrents_0_1_2 _ _ _ rfl rfl rfl)) ?_
          refine ah_one 12 rfl (by kernel_rfl) (fun hok35 hcl35 => ?_)
          refine al_storeAll (i := 3) rfl rfl rfl rfl Try.sizeOf32 rfl rfl .k3 rfl ?_
          refine al_end (ah_last (by kernel_rfl) ?_)
          refine aq_then ?_
          refine ac_ret ?_
          refine retR Try.results33 (.agg (i := 3) rfl rfl Try.isAgg32 Try.sizeOf32 rfl .nil) .one (fun w9 hs => ?_)
          exact ⟨b31, b30, b27, rfl, hs.own (.cons (j := 0) rfl (.cons (j := 1) rfl (.cons (j := 2) rfl .nil))) (by decide)⟩

end Go.Proofs.Ytcjndnadibbcbaa
end
