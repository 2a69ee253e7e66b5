import Derived.Test.YtjjajleiladbhaaGreatDoorJAQ
import Derived.Test.YtjjajleiladbhaaGreatDoorJAV
import Derived.Test.YtjjajleiladbhaaGreatDoorJAW
import Derived.Test.YtjjajleiladbhaaGreatDoorJAZ
import Derived.Test.YtjjajleiladbhaaGreatDoorJBA
import Derived.Test.YtjjajleiladbhaaGreatDoorJBF
import Derived.Test.YtjjajleiladbhaaGreatDoorJBP
import Derived.Test.YtjjajleiladbhaaGreatDoorRows
import Derived.KernelRfl
import Derived.Laws.StructEq
section
/- The specification of layer 2: Total, Coil, Sensor, CellAt, near, Flux, Field, over this seat's translation (written by ax_rc.py). -/
namespace Go.Proofs.YtjjajleiladbhaaGreatDoor
set_option linter.unusedVariables false
set_option linter.unusedSimpArgs false
open Go.RowKit

set_option maxRecDepth 100000 in
theorem rtotal_any (Q : CurR) (C : CurD) (w : World) (hC : IsC w Q C) : Calls Tryz.prog 41 #[Q.v] w (Ret (.int .i64 (tot 0 C.plasma)) w) := by
  have hl := hC.plasma.1
  have hk := hC.kc
  refine calls_ax (vs := [Q.v]) Tryz.func41 rfl rfl ?_
  refine ac_seq ?_
  refine ac_region ?_
  refine al_new (fun b => .pointer (some ⟨b, 0, none⟩)) (r_box rfl rfl) rfl rfl rfl ?_
  intro b1
  refine al_q (q_assign rfl) rfl rfl rfl ?_
  refine al_end ?_
  refine aq_then ?_
  refine ac_seq ?_
  refine ac_region ?_
  refine al_q (q_assign rfl) rfl rfl rfl ?_
  refine al_end ?_
  refine aq_then ?_
  refine ac_seq ?_
  refine ac_seq ?_
  refine ac_region ?_
  refine al_q (q_assign rfl) rfl rfl rfl ?_
  refine al_end ?_
  refine aq_then ?_
  refine ac_block ?_
  refine ac_loop (β := Nat × Int) (fun p => p.1 ≤ Q.lc ∧ tot p.2 (C.plasma.drop p.1) = tot 0 C.plasma) (fun p => [(1, (.pointer (some ⟨b1, 0, none⟩))), (2, (.int .i64 0)), (3, (.int .i64 p.2)), (4, (.int .i64 (p.1 : Int)))]) (fun _ => _) (fun p => [(b1, _)]) (fun p => Q.lc - p.1) ⟨0, 0⟩ ⟨by omega, rfl⟩ ⟨rfl, rfl, rfl, rfl, trivial⟩ (fun w9 hs => hs) (fun p hF1 => ?_)
  obtain ⟨hk0, hk1⟩ := hF1
  refine ac_seq ?_
  refine ac_seq ?_
  refine ac_region ?_
  refine al_q (q_move rfl) rfl rfl rfl ?_
  refine al_q (q_fieldAddr 2 rfl Tryz.runUnderlying34 rfl Tryz.sizeOf32 (by decide) rfl) rfl rfl rfl ?_
  refine al_q (q_load (i := 0) rfl rfl rfl Tryz.isAgg32) rfl rfl rfl ?_
  refine al_q (q_lenS rfl Tryz.runUnderlying32) rfl rfl rfl ?_
  refine al_q (q_lss rfl rfl) rfl rfl rfl ?_
  refine al_end ?_
  refine aq_then ?_
  refine ac_cond rfl (fun h1 => ?_) (fun h1 => ?_)
  · have hkl := of_decide_eq_true h1
    obtain ⟨b1, o1, hA1, hlt1, hget1⟩ := hC.plasma.2 (by omega)
    obtain ⟨x, hx⟩ : ∃ x, C.plasma[p.1]? = some x := ⟨_, List.getElem?_eq_getElem (by omega)⟩
    refine ac_skip ?_
    refine aq_then ?_
    refine ac_seq ?_
    refine ac_block ?_
    refine ac_region ?_
    refine al_q (q_move rfl) rfl rfl rfl ?_
    refine al_q (q_fieldAddr 2 rfl Tryz.runUnderlying34 rfl Tryz.sizeOf32 (by decide) rfl) rfl rfl rfl ?_
    refine al_q (q_load (i := 0) rfl rfl rfl Tryz.isAgg32) rfl rfl rfl ?_
    refine al_q (q_move rfl) rfl rfl rfl ?_
    refine al_q (q_indexAddrA (i := p.1) (o1 + p.1 * 1 + 0) hA1 rfl rfl rfl (by omega) Tryz.runUnderlying32 Tryz.sizeOf3 rfl) rfl rfl rfl ?_
    refine al_q (q_loadX rfl Tryz.isAgg3 (fun w9 hs => (hs.below.cell (p := ⟨_, _, none⟩) hlt1).trans ((hget1 p.1 x hx) 0 _ rfl))) rfl rfl rfl ?_
    refine al_q (q_addW rfl rfl) rfl rfl rfl ?_
    refine al_q (q_assign rfl) rfl rfl rfl ?_
    refine al_end ?_
    refine aq_inN ?_
    refine aq_then ?_
    refine ac_region ?_
    refine al_q (q_move rfl) rfl rfl rfl ?_
    refine al_q (q_add rfl rfl (by omega)) rfl rfl rfl ?_
    refine al_q (q_assign rfl) rfl rfl rfl ?_
    refine al_end ?_
    refine aq_then ?_
    skip
    refine aq_round (⟨p.1 + 1, wrap64 (p.2 + x)⟩) (by simp only; omega) ⟨by simp only; omega, by simp only; rw [← tot_drop hx p.2]; exact hk1⟩ ⟨rfl, rfl, rfl, rfl, trivial⟩ (fun w9 hs => hs)
  · have hkl := of_decide_eq_false h1
    rw [List.drop_eq_nil_of_le (by omega)] at hk1
    refine ac_exit ?_
    refine aq_thenE ?_
    refine aq_thenE ?_
    refine aq_hit ?_
    refine aq_then ?_
    refine ac_seq ?_
    refine ac_region ?_
    refine al_q (q_move rfl) rfl rfl rfl ?_
    refine al_q (q_assign rfl) rfl rfl rfl ?_
    refine al_end ?_
    refine aq_then ?_
    refine ac_ret ?_
    refine ret1 Tryz.results41 rfl (fun w9 hs => ?_)
    exact ⟨by rw [← hk1]; rfl, hs.below⟩

end Go.Proofs.YtjjajleiladbhaaGreatDoor
end
section
/- The specification of layers 1 and 2: SameInts, SameCurrents, over this seat's translation. -/
namespace Go.Proofs.YtjjajleiladbhaaGreatDoor
set_option linter.unusedVariables false
set_option linter.unusedSimpArgs false
open Go.RowKit Go.Shelf

theorem same_drop {xs ys : List Int} {k : Nat} {a b : Int} (h1 : xs[k]? = some a) (h2 : ys[k]? = some b) : decide (xs.drop k = ys.drop k) = (decide (a = b) && decide (xs.drop (k + 1) = ys.drop (k + 1))) := by
  obtain ⟨k1, rfl⟩ := List.getElem?_eq_some_iff.1 h1
  obtain ⟨k2, rfl⟩ := List.getElem?_eq_some_iff.1 h2
  rw [List.drop_eq_getElem_cons k1, List.drop_eq_getElem_cons k2]
  simp only [List.cons.injEq, Bool.decide_and]

set_option maxRecDepth 100000 in
set_option maxHeartbeats 4000000 in
theorem rsame_any (A B : Option Addr) (la ca lb cb : Nat) (xs ys : List Int) (w : World) (h1 : IsT 1 intCells w A la xs) (h2 : IsT 1 intCells w B lb ys) (l1 : la ≤ 1000000000000000) (l2 : lb ≤ 1000000000000000) :
    Calls Tryz.prog 34 #[.slice A la ca, .slice B lb cb] w (Ret (.bool (decide (xs = ys))) w) := by
  have n1 := h1.1
  have n2 := h2.1
  have I1 := Lib.hid h1
  have I2 := Lib.hid h2
  have HG : Hid (decide (xs = ys) = decide (xs.drop 0 = ys.drop 0)) := Lib.hid rfl
  have HN : Hid (la ≠ lb → false = decide (xs = ys)) := Lib.hid (fun h => (decide_eq_false (fun e => h (by rw [← n1, ← n2, e]))).symm)
  clear h1 h2
  generalize decide (xs = ys) = G at *
  by_cases b1 : la = lb
  · have e1 := (int_eq la lb).trans (decide_eq_true b1)
    subst b1
    have HG2 : Hid (decide (xs.drop 0 = ys.drop 0) = G) := Lib.hid HG.out.symm
    clear HG HN
    go_enter Tryz.func34, Tryz.ntmps34
    go_wp2_with fail
    go_loopw [5] (fun i wr => ∃ j : Nat, j ≤ la ∧ i = .int .i64 j ∧ Hid (decide (xs.drop j = ys.drop j) = G) ∧ Below w.heap.size w wr) (fun i _ => la - (intOf i).toNat)
    case atStart => exact ⟨0, Nat.zero_le _, rfl, HG2, by (with_reducible repeat first | exact Below.refl _ _ | assumption | ((first | refine Below.setCell ?_ ?_ _ | refine Below.alloc ?_ ?_ _); rotate_left; exact (by first | omega | (simp; done) | (simp; omega))) | refine Below.drew ?_ | refine Below_drewN ?_ _)⟩
    case round =>
      obtain ⟨j, hj, rfl, hG, hB⟩ := hrel
      have sz0 := hB.size
      by_cases hlt : j < la
      · obtain ⟨-, hcl1⟩ := I1.out.below hB
        obtain ⟨b1, o1, rfl, hb1, hcl1⟩ := hcl1 (by omega)
        obtain ⟨-, hcl2⟩ := I2.out.below hB
        obtain ⟨b2, o2, rfl, hb2, hcl2⟩ := hcl2 (by omega)
        obtain ⟨x, hx⟩ : ∃ x, xs[j]? = some x := ⟨_, List.getElem?_eq_getElem (by omega)⟩
        obtain ⟨y, hy⟩ : ∃ y, ys[j]? = some y := ⟨_, List.getElem?_eq_getElem (by omega)⟩
        have x0 : wr.cell? ⟨b1, o1 + j, none⟩ = some (.int .i64 x) := by have h := hcl1 j x hx 0 _ rfl; simpa using h
        have y0 : wr.cell? ⟨b2, o2 + j, none⟩ = some (.int .i64 y) := by have h := hcl2 j y hy 0 _ rfl; simpa using h
        have HS := Lib.hid (hG.out.symm.trans (same_drop hx hy))
        clear hcl1 hcl2 hx hy hG
        have HZ : Hid (∀ w' : World, Below wr.heap.size wr w' → (Below wr.heap.size wr w' ∧ w'.cell? ⟨b1, o1 + j, none⟩ = some (.int .i64 x) ∧ w'.cell? ⟨b2, o2 + j, none⟩ = some (.int .i64 y))) := Lib.hid (fun w' h => ⟨h, (h.cell (p := ⟨b1, o1 + j, none⟩) hb1).trans x0, (h.cell (p := ⟨b2, o2 + j, none⟩) hb2).trans y0⟩)
        have jc : (0 : Int) ≤ j := by omega
        have jn : ((j : Int)).toNat = j := by omega
        by_cases e : x = y
        · have e2 : (x == y) = true := by rw [e]; simp
          have HT : Hid (decide (xs.drop (j + 1) = ys.drop (j + 1)) = G) := Lib.hid (by rw [HS.out, decide_eq_true e, Bool.true_and])
          clear HS
          go_wp2_with fail
          go_region_held3 (fun w' => Below wr.heap.size wr w' ∧ w'.cell? ⟨b1, o1 + j, none⟩ = some (.int .i64 x) ∧ w'.cell? ⟨b2, o2 + j, none⟩ = some (.int .i64 y)) (exact HZ.out _ (by (repeat first | with_reducible exact Below.refl _ _ | with_reducible assumption | with_reducible exact (‹Below _ _ _ ∧ _›).1 | (with_reducible refine Below.alloc ?_ ?_ _; rotate_left; exact (by first | omega | (simp; done) | (simp; omega))) | with_reducible refine Below.drew ?_))) (fail)
          all_goals go_wp2_with fail
          go_roundw
          case rel => exact ⟨j + 1, by omega, by go_num, HT, by (with_reducible repeat first | exact Below.refl _ _ | assumption | ((first | refine Below.setCell ?_ ?_ _ | refine Below.alloc ?_ ?_ _); rotate_left; exact (by first | omega | (simp; done) | (simp; omega))) | refine Below.drew ?_ | refine Below_drewN ?_ _)⟩
          case measure => simp [intOf]; omega
        · have e2 : (x == y) = false := by rw [beq_eq_false_iff_ne]; exact e
          have HT : Hid (false = G) := Lib.hid (by rw [HS.out, decide_eq_false e, Bool.false_and])
          clear HS
          go_wp2_with fail
          go_region_held3 (fun w' => Below wr.heap.size wr w' ∧ w'.cell? ⟨b1, o1 + j, none⟩ = some (.int .i64 x) ∧ w'.cell? ⟨b2, o2 + j, none⟩ = some (.int .i64 y)) (exact HZ.out _ (by (repeat first | with_reducible exact Below.refl _ _ | with_reducible assumption | with_reducible exact (‹Below _ _ _ ∧ _›).1 | (with_reducible refine Below.alloc ?_ ?_ _; rotate_left; exact (by first | omega | (simp; done) | (simp; omega))) | with_reducible refine Below.drew ?_))) (fail)
          all_goals go_wp2_with fail
          go_ret
          exact ⟨by rw [← HT.out]; rfl, by (with_reducible repeat first | exact Below.refl _ _ | assumption | ((first | refine Below.setCell ?_ ?_ _ | refine Below.alloc ?_ ?_ _); rotate_left; exact (by first | omega | (simp; done) | (simp; omega))) | refine Below.drew ?_ | refine Below_drewN ?_ _)⟩
      · have HT : Hid (true = G) := Lib.hid (by
          have h := hG.out
          rw [List.drop_of_length_le (by omega), List.drop_of_length_le (by omega)] at h
          exact h)
        clear hG
        go_wp2_with fail
        go_ret
        exact ⟨by rw [← HT.out]; rfl, by (with_reducible repeat first | exact Below.refl _ _ | assumption | ((first | refine Below.setCell ?_ ?_ _ | refine Below.alloc ?_ ?_ _); rotate_left; exact (by first | omega | (simp; done) | (simp; omega))) | refine Below.drew ?_ | refine Below_drewN ?_ _)⟩
  · have e1 := (int_eq la lb).trans (decide_eq_false b1)
    have HT := Lib.hid (HN.out b1)
    clear HG HN
    go_enter Tryz.func34, Tryz.ntmps34
    go_wp2_with fail
    go_ret
    exact ⟨by rw [← HT.out]; rfl, by (with_reducible repeat first | exact Below.refl _ _ | assumption | ((first | refine Below.setCell ?_ ?_ _ | refine Below.alloc ?_ ?_ _); rotate_left; exact (by first | omega | (simp; done) | (simp; omega))) | refine Below.drew ?_ | refine Below_drewN ?_ _)⟩

end Go.Proofs.YtjjajleiladbhaaGreatDoor
end
section
/- The specification of layer 2: SameCurrents, over this seat's translation (written by mk_smc.py). -/
namespace Go.Proofs.YtjjajleiladbhaaGreatDoor
set_option linter.unusedVariables false
set_option linter.unusedSimpArgs false
open Go.RowKit Go.Shelf

set_option maxRecDepth 100000 in
set_option maxHeartbeats 4000000 in
theorem rsameC_any (P Q : CurR) (C D : CurD) (w : World) (h1 : IsC w P C) (h2 : IsC w Q D) :
    Calls Tryz.prog 35 #[P.v, Q.v] w (Ret (.bool (decide (C.coils = D.coils) && (decide (C.shells = D.shells) && decide (C.plasma = D.plasma)))) w) := by
  have H1 := Lib.hid (fun W (hb : Below w.heap.size w W) => rsame_any P.A Q.A P.la P.ca Q.la Q.ca C.coils D.coils W (h1.below hb).coils (h2.below hb).coils h1.ka h2.ka)
  have H2 := Lib.hid (fun W (hb : Below w.heap.size w W) => rsame_any P.B Q.B P.lb P.cb Q.lb Q.cb C.shells D.shells W (h1.below hb).shells (h2.below hb).shells h1.kb h2.kb)
  have H3 := Lib.hid (fun W (hb : Below w.heap.size w W) => rsame_any P.C Q.C P.lc P.cc Q.lc Q.cc C.plasma D.plasma W (h1.below hb).plasma (h2.below hb).plasma h1.kc h2.kc)
  clear h1 h2
  generalize decide (C.coils = D.coils) = x1 at *
  generalize decide (C.shells = D.shells) = x2 at *
  generalize decide (C.plasma = D.plasma) = x3 at *
  obtain ⟨A1, B1, C1, na, qa, nb, qb, nc, qc⟩ := P
  obtain ⟨A2, B2, C2, ma, ra, mb, rb, mc, rc⟩ := Q
  dsimp only [CurR.v] at *
  go_enter Tryz.func35, Tryz.ntmps35
  go_upto_region 1 with (fail)
  have m0 : (((w.alloc (.cells #[.slice A1 na qa, .slice B1 nb qb, .slice C1 nc qc] 34)).alloc (.cells #[.slice A2 ma ra, .slice B2 mb rb, .slice C2 mc rc] 34))).cell? ⟨w.heap.size, 0, none⟩ = some (.slice A1 na qa) := by go_simp
  have m1 : (((w.alloc (.cells #[.slice A1 na qa, .slice B1 nb qb, .slice C1 nc qc] 34)).alloc (.cells #[.slice A2 ma ra, .slice B2 mb rb, .slice C2 mc rc] 34))).cell? ⟨w.heap.size, 1, none⟩ = some (.slice B1 nb qb) := by go_simp
  have m2 : (((w.alloc (.cells #[.slice A1 na qa, .slice B1 nb qb, .slice C1 nc qc] 34)).alloc (.cells #[.slice A2 ma ra, .slice B2 mb rb, .slice C2 mc rc] 34))).cell? ⟨w.heap.size, 2, none⟩ = some (.slice C1 nc qc) := by go_simp
  have q0 : (((w.alloc (.cells #[.slice A1 na qa, .slice B1 nb qb, .slice C1 nc qc] 34)).alloc (.cells #[.slice A2 ma ra, .slice B2 mb rb, .slice C2 mc rc] 34))).cell? ⟨w.heap.size + 1, 0, none⟩ = some (.slice A2 ma ra) := by go_simp
  have q1 : (((w.alloc (.cells #[.slice A1 na qa, .slice B1 nb qb, .slice C1 nc qc] 34)).alloc (.cells #[.slice A2 ma ra, .slice B2 mb rb, .slice C2 mc rc] 34))).cell? ⟨w.heap.size + 1, 1, none⟩ = some (.slice B2 mb rb) := by go_simp
  have q2 : (((w.alloc (.cells #[.slice A1 na qa, .slice B1 nb qb, .slice C1 nc qc] 34)).alloc (.cells #[.slice A2 ma ra, .slice B2 mb rb, .slice C2 mc rc] 34))).cell? ⟨w.heap.size + 1, 2, none⟩ = some (.slice C2 mc rc) := by go_simp
  have hB0 : Below w.heap.size w (((w.alloc (.cells #[.slice A1 na qa, .slice B1 nb qb, .slice C1 nc qc] 34)).alloc (.cells #[.slice A2 ma ra, .slice B2 mb rb, .slice C2 mc rc] 34))) := by (with_reducible repeat first | exact Below.refl _ _ | assumption | ((first | refine Below.setCell ?_ ?_ _ | refine Below.alloc ?_ ?_ _); rotate_left; exact (by first | omega | (simp; done) | (simp; omega))) | refine Below.drew ?_ | refine Below_drewN ?_ _)
  have hz : w.heap.size + 1 < (((w.alloc (.cells #[.slice A1 na qa, .slice B1 nb qb, .slice C1 nc qc] 34)).alloc (.cells #[.slice A2 ma ra, .slice B2 mb rb, .slice C2 mc rc] 34))).heap.size := by simp
  obtain ⟨W0, hW0⟩ : ∃ W, ((w.alloc (.cells #[.slice A1 na qa, .slice B1 nb qb, .slice C1 nc qc] 34)).alloc (.cells #[.slice A2 ma ra, .slice B2 mb rb, .slice C2 mc rc] 34)) = W := ⟨_, rfl⟩
  rw [hW0] at m0 m1 m2 q0 q1 q2 hB0 hz ⊢
  clear hW0
  have FA := Lib.hid (BoxL.mk3 (W := W0) (by omega) m0 m1 m2)
  have FB := Lib.hid (BoxL.mk3 (W := W0) hz q0 q1 q2)
  clear m0 m1 m2 q0 q1 q2
  have HB : Hid (∀ w' : World, Below W0.heap.size W0 w' → Below w.heap.size w w') := Lib.hid (fun w' h => hB0.trans (h.mono (by omega)))
  have m0 := (FA.out.below (Below.refl _ _)).at 0 (.slice A1 na qa) rfl
  have m1 := (FA.out.below (Below.refl _ _)).at 1 (.slice B1 nb qb) rfl
  have m2 := (FA.out.below (Below.refl _ _)).at 2 (.slice C1 nc qc) rfl
  have q0 := (FB.out.below (Below.refl _ _)).at 0 (.slice A2 ma ra) rfl
  have q1 := (FB.out.below (Below.refl _ _)).at 1 (.slice B2 mb rb) rfl
  have q2 := (FB.out.below (Below.refl _ _)).at 2 (.slice C2 mc rc) rfl
  cases x1
  · rw [Bool.false_and]
    go_wp2_with fail
    refine (H1.out _ (HB.out _ (by (repeat first | with_reducible exact Below.refl _ _ | with_reducible assumption | with_reducible exact (‹Below _ _ _ ∧ _›).1 | (with_reducible refine Below.alloc ?_ ?_ _; rotate_left; exact (by first | omega | (simp; done) | (simp; omega))) | with_reducible refine Below.drew ?_)))).mono ?_
    rintro e w1 ⟨rfl, hb1⟩
    have hB1 : Below W0.heap.size W0 w1 := Below.trans (by (repeat first | with_reducible exact Below.refl _ _ | with_reducible assumption | with_reducible exact (‹Below _ _ _ ∧ _›).1 | (with_reducible refine Below.alloc ?_ ?_ _; rotate_left; exact (by first | omega | (simp; done) | (simp; omega))) | with_reducible refine Below.drew ?_)) (hb1.mono (by (try simp only [World.size_alloc, size_drew]); omega))
    have sz1 := hB1.size
    clear hb1 m0 m1 m2 q0 q1 q2
    have m0 := (FA.out.below hB1).at 0 (.slice A1 na qa) rfl
    have m1 := (FA.out.below hB1).at 1 (.slice B1 nb qb) rfl
    have m2 := (FA.out.below hB1).at 2 (.slice C1 nc qc) rfl
    have q0 := (FB.out.below hB1).at 0 (.slice A2 ma ra) rfl
    have q1 := (FB.out.below hB1).at 1 (.slice B2 mb rb) rfl
    have q2 := (FB.out.below hB1).at 2 (.slice C2 mc rc) rfl
    go_wp2_with fail
    go_ret
    exact ⟨rfl, HB.out _ (by (repeat first | with_reducible exact Below.refl _ _ | with_reducible assumption | with_reducible exact (‹Below _ _ _ ∧ _›).1 | (with_reducible refine Below.alloc ?_ ?_ _; rotate_left; exact (by first | omega | (simp; done) | (simp; omega))) | with_reducible refine Below.drew ?_))⟩
  · rw [Bool.true_and]
    go_wp2_with fail
    refine (H1.out _ (HB.out _ (by (repeat first | with_reducible exact Below.refl _ _ | with_reducible assumption | with_reducible exact (‹Below _ _ _ ∧ _›).1 | (with_reducible refine Below.alloc ?_ ?_ _; rotate_left; exact (by first | omega | (simp; done) | (simp; omega))) | with_reducible refine Below.drew ?_)))).mono ?_
    rintro e w1 ⟨rfl, hb1⟩
    have hB1 : Below W0.heap.size W0 w1 := Below.trans (by (repeat first | with_reducible exact Below.refl _ _ | with_reducible assumption | with_reducible exact (‹Below _ _ _ ∧ _›).1 | (with_reducible refine Below.alloc ?_ ?_ _; rotate_left; exact (by first | omega | (simp; done) | (simp; omega))) | with_reducible refine Below.drew ?_)) (hb1.mono (by (try simp only [World.size_alloc, size_drew]); omega))
    have sz1 := hB1.size
    clear hb1 m0 m1 m2 q0 q1 q2
    have m0 := (FA.out.below hB1).at 0 (.slice A1 na qa) rfl
    have m1 := (FA.out.below hB1).at 1 (.slice B1 nb qb) rfl
    have m2 := (FA.out.below hB1).at 2 (.slice C1 nc qc) rfl
    have q0 := (FB.out.below hB1).at 0 (.slice A2 ma ra) rfl
    have q1 := (FB.out.below hB1).at 1 (.slice B2 mb rb) rfl
    have q2 := (FB.out.below hB1).at 2 (.slice C2 mc rc) rfl
    cases x2
    · rw [Bool.false_and]
      go_wp2_with fail
      refine (H2.out _ (HB.out _ (by (repeat first | with_reducible exact Below.refl _ _ | with_reducible assumption | with_reducible exact (‹Below _ _ _ ∧ _›).1 | (with_reducible refine Below.alloc ?_ ?_ _; rotate_left; exact (by first | omega | (simp; done) | (simp; omega))) | with_reducible refine Below.drew ?_)))).mono ?_
      rintro e w2 ⟨rfl, hb2⟩
      have hB2 : Below W0.heap.size W0 w2 := Below.trans (by (repeat first | with_reducible exact Below.refl _ _ | with_reducible assumption | with_reducible exact (‹Below _ _ _ ∧ _›).1 | (with_reducible refine Below.alloc ?_ ?_ _; rotate_left; exact (by first | omega | (simp; done) | (simp; omega))) | with_reducible refine Below.drew ?_)) (hb2.mono (by (try simp only [World.size_alloc, size_drew]); omega))
      have sz2 := hB2.size
      clear hb2 m0 m1 m2 q0 q1 q2
      have m0 := (FA.out.below hB2).at 0 (.slice A1 na qa) rfl
      have m1 := (FA.out.below hB2).at 1 (.slice B1 nb qb) rfl
      have m2 := (FA.out.below hB2).at 2 (.slice C1 nc qc) rfl
      have q0 := (FB.out.below hB2).at 0 (.slice A2 ma ra) rfl
      have q1 := (FB.out.below hB2).at 1 (.slice B2 mb rb) rfl
      have q2 := (FB.out.below hB2).at 2 (.slice C2 mc rc) rfl
      go_wp2_with fail
      go_ret
      exact ⟨rfl, HB.out _ (by (repeat first | with_reducible exact Below.refl _ _ | with_reducible assumption | with_reducible exact (‹Below _ _ _ ∧ _›).1 | (with_reducible refine Below.alloc ?_ ?_ _; rotate_left; exact (by first | omega | (simp; done) | (simp; omega))) | with_reducible refine Below.drew ?_))⟩
    · rw [Bool.true_and]
      go_wp2_with fail
      refine (H2.out _ (HB.out _ (by (repeat first | with_reducible exact Below.refl _ _ | with_reducible assumption | with_reducible exact (‹Below _ _ _ ∧ _›).1 | (with_reducible refine Below.alloc ?_ ?_ _; rotate_left; exact (by first | omega | (simp; done) | (simp; omega))) | with_reducible refine Below.drew ?_)))).mono ?_
      rintro e w2 ⟨rfl, hb2⟩
      have hB2 : Below W0.heap.size W0 w2 := Below.trans (by (repeat first | with_reducible exact Below.refl _ _ | with_reducible assumption | with_reducible exact (‹Below _ _ _ ∧ _›).1 | (with_reducible refine Below.alloc ?_ ?_ _; rotate_left; exact (by first | omega | (simp; done) | (simp; omega))) | with_reducible refine Below.drew ?_)) (hb2.mono (by (try simp only [World.size_alloc, size_drew]); omega))
      have sz2 := hB2.size
      clear hb2 m0 m1 m2 q0 q1 q2
      have m0 := (FA.out.below hB2).at 0 (.slice A1 na qa) rfl
      have m1 := (FA.out.below hB2).at 1 (.slice B1 nb qb) rfl
      have m2 := (FA.out.below hB2).at 2 (.slice C1 nc qc) rfl
      have q0 := (FB.out.below hB2).at 0 (.slice A2 ma ra) rfl
      have q1 := (FB.out.below hB2).at 1 (.slice B2 mb rb) rfl
      have q2 := (FB.out.below hB2).at 2 (.slice C2 mc rc) rfl
      go_wp2_with fail
      refine (H3.out _ (HB.out _ (by (repeat first | with_reducible exact Below.refl _ _ | with_reducible assumption | with_reducible exact (‹Below _ _ _ ∧ _›).1 | (with_reducible refine Below.alloc ?_ ?_ _; rotate_left; exact (by first | omega | (simp; done) | (simp; omega))) | with_reducible refine Below.drew ?_)))).mono ?_
      rintro e w3 ⟨rfl, hb3⟩
      have hB3 : Below W0.heap.size W0 w3 := Below.trans (by (repeat first | with_reducible exact Below.refl _ _ | with_reducible assumption | with_reducible exact (‹Below _ _ _ ∧ _›).1 | (with_reducible refine Below.alloc ?_ ?_ _; rotate_left; exact (by first | omega | (simp; done) | (simp; omega))) | with_reducible refine Below.drew ?_)) (hb3.mono (by (try simp only [World.size_alloc, size_drew]); omega))
      have sz3 := hB3.size
      clear hb3 m0 m1 m2 q0 q1 q2
      have m0 := (FA.out.below hB3).at 0 (.slice A1 na qa) rfl
      have m1 := (FA.out.below hB3).at 1 (.slice B1 nb qb) rfl
      have m2 := (FA.out.below hB3).at 2 (.slice C1 nc qc) rfl
      have q0 := (FB.out.below hB3).at 0 (.slice A2 ma ra) rfl
      have q1 := (FB.out.below hB3).at 1 (.slice B2 mb rb) rfl
      have q2 := (FB.out.below hB3).at 2 (.slice C2 mc rc) rfl
      go_wp2_with fail
      go_ret
      exact ⟨rfl, HB.out _ (by (repeat first | with_reducible exact Below.refl _ _ | with_reducible assumption | with_reducible exact (‹Below _ _ _ ∧ _›).1 | (with_reducible refine Below.alloc ?_ ?_ _; rotate_left; exact (by first | omega | (simp; done) | (simp; omega))) | with_reducible refine Below.drew ?_))⟩

end Go.Proofs.YtjjajleiladbhaaGreatDoor
end
section
/- MachineCurrents: the law's walk, over this seat's translation (written by ax_lw.py). -/
namespace Go.Proofs.YtjjajleiladbhaaGreatDoor
set_option linter.unusedVariables false
set_option linter.unusedSimpArgs false
open Go.RowKit

theorem isC_nil (w : World) : IsC w ⟨none, none, none, 0, 0, 0, 0, 0, 0⟩ ⟨[], [], []⟩ := ⟨IsT.nil _ _ _ _, IsT.nil _ _ _ _, IsT.nil _ _ _ _, Nat.le_refl _, Nat.le_refl _, Nat.le_refl _, by simp only; omega, by simp only; omega, by simp only; omega, by simp only; omega, by simp only; omega, by simp only; omega⟩

set_option maxRecDepth 100000 in
theorem currents_ok (R : MachR) (M : MachD) (Q : CurR) (C : CurD) (W : World) (hE : Env W) (hM : R.la ≤ 1000000000000000 → R.lb ≤ 1000000000000000 → R.lc ≤ 1000000000000000 → R.ld ≤ 1000000000000000 → IsM W R M) (hC : OpC W Q C) (hc : checkC M = 0) : Calls Tryz.prog 6 #[(.agg (machCells R M)), Q.v] W (Ret (.bool true) W) := by
  refine calls_ax (vs := [(.agg (machCells R M)), Q.v]) Tryz.func6 rfl rfl ?_
  refine ac_seq ?_
  refine ac_region ?_
  refine al_new (fun b => .pointer (some ⟨b, 0, none⟩)) (r_box rfl rfl) rfl rfl rfl ?_
  intro b1
  refine al_new (fun b => .pointer (some ⟨b, 0, none⟩)) (r_box rfl rfl) rfl rfl rfl ?_
  intro b2
  refine al_q (q_assign rfl) rfl rfl rfl ?_
  refine al_end ?_
  refine aq_then ?_
  refine ac_seq ?_
  refine ac_seq ?_
  refine ac_region ?_
  refine al_q (q_loadAll (i := 1) rfl rfl Tryz.isAgg29 Tryz.sizeOf29 rfl) rfl rfl rfl ?_
  refine al_q (q_loadAll (i := 0) rfl rfl Tryz.isAgg34 Tryz.sizeOf34 rfl) rfl rfl rfl ?_
  refine al_call Tryz.call16 (.cons rfl (.cons rfl .nil)) rfl rfl (fun w1 hs1 => ?_)
  refine (brief2_any R M Q _).mono ?_
  rintro e u1 ⟨rfl, hb_1⟩
  refine ⟨_, rfl, hb_1, ?_⟩
  clear hs1
  refine al_q (q_not rfl) rfl rfl rfl ?_
  refine al_end ?_
  refine aq_then ?_
  refine ac_cond rfl (fun h1 => ?_) (fun h1 => ?_)
  · skip
    refine ac_seq ?_
    refine ac_region ?_
    refine al_call Tryz.call19 .nil rfl rfl (fun w2 hs2 => ?_)
    refine (awake2_any _ (hE.below hs2.below)).mono ?_
    rintro e u2 ⟨rfl, hb_2⟩
    refine ⟨_, rfl, hb_2, ?_⟩
    clear hs2
    refine al_q (q_assign rfl) rfl rfl rfl ?_
    refine al_end ?_
    refine aq_then ?_
    refine ac_ret ?_
    refine aq_thenR ?_
    refine ret1 Tryz.results6 rfl (fun w9 hs => ?_)
    exact ⟨rfl, hs.below⟩
  · have hbf := brief2_iff.1 (show brief2 R Q = true by simpa using h1)
    have hM := hM (by omega) (by omega) (by omega) (by omega)
    have hC := hC.isC (by omega) (by omega) (by omega)
    have hs0 := sound_of hc
    have hg := cells_fine hs0.grid
    have hla := hM.coils.1
    have hlb := hM.shells.1
    refine ac_skip ?_
    refine aq_then ?_
    refine ac_seq ?_
    refine ac_draw 24 (by kernel_rfl) (by kernel_rfl) ?_
    refine ah_take 0 (fun w9 hs => hs) rfl rfl rfl (by kernel_rfl) (by kernel_rfl) (by kernel_rfl) (fun _ _ _ h => h) rfl (q_loadAll (i := 1) rfl rfl Tryz.isAgg29 Tryz.sizeOf29 rfl) ?_
    refine ah_take 2 (fun w9 hs => hs) rfl rfl rfl (by kernel_rfl) (by kernel_rfl) (by kernel_rfl) (fun _ _ _ h => h) rfl (q_loadAll (i := 1) rfl rfl Tryz.isAgg29 Tryz.sizeOf29 rfl) ?_
    refine ah_one 1 rfl (by kernel_rfl) (fun hok1 hcl1 => ?_)
    refine al_callS Tryz.call36 (.cons rfl .nil) rfl rfl (fun w3 hs3 => ?_)
    refine (quiet_ok R M _ (hM.below hs3.below) hc).mono ?_
    rintro e u3 ⟨x1, x2, x3, rfl, hb_3⟩
    refine ⟨_, _, _, rfl, hs3.gift hb_3, ?_⟩
    refine al_end (ah_back hok1 hcl1 (fun w9 hs => (hs.tail 3 rfl)) ?_)
    refine ah_one 3 rfl (by kernel_rfl) (fun hok2 hcl2 => ?_)
    refine al_callS Tryz.call37 (.cons rfl .nil) rfl rfl (fun w4 hs4 => ?_)
    refine (rQuiet_ok R M _ (hM.below hs4.below) hc).mono ?_
    rintro e u4 ⟨y1, y2, y3, rfl, hb_4⟩
    refine ⟨_, _, _, rfl, hs4.gift hb_4, ?_⟩
    refine al_end (ah_back hok2 hcl2 (fun w9 hs => (hs.tail 6 rfl)) ?_)
    refine ah_one 4 rfl (by kernel_rfl) (fun hok3 hcl3 => ?_)
    refine al_call Tryz.call35 (.cons rfl (.cons rfl .nil)) rfl rfl (fun w5 hs5 => ?_)
    have hx : IsC w5 ⟨some ⟨x1, 0, none⟩, some ⟨x2, 0, none⟩, some ⟨x3, 0, none⟩, R.la, R.la, R.lb, R.lb, (M.grid.nr * M.grid.nz).toNat, (M.grid.nr * M.grid.nz).toNat⟩ (zerosC M) := ⟨isT_box0 (n := 1) (enc := intCells) (fun _ => rfl) (hs5.at 3 rfl) (by rw [← hla]; exact flat_ints _) (by simp [zerosC, hla]), isT_box0 (n := 1) (enc := intCells) (fun _ => rfl) (hs5.at 4 rfl) (by rw [← hlb]; exact flat_ints _) (by simp [zerosC, hlb]), isT_box0 (n := 1) (enc := intCells) (fun _ => rfl) (hs5.at 5 rfl) (flat_ints _) (by simp [zerosC]), Nat.le_refl _, Nat.le_refl _, Nat.le_refl _, by simp only; omega, by simp only; omega, by simp only; omega, by simp only; omega, by simp only; omega, by simp only; omega⟩
    have hy : IsC w5 ⟨some ⟨y1, 0, none⟩, some ⟨y2, 0, none⟩, some ⟨y3, 0, none⟩, R.la, R.la, R.lb, R.lb, (M.grid.nr * M.grid.nz).toNat, (M.grid.nr * M.grid.nz).toNat⟩ (zerosC M) := ⟨isT_box0 (n := 1) (enc := intCells) (fun _ => rfl) (hs5.at 0 rfl) (by rw [← hla]; exact flat_ints _) (by simp [zerosC, hla]), isT_box0 (n := 1) (enc := intCells) (fun _ => rfl) (hs5.at 1 rfl) (by rw [← hlb]; exact flat_ints _) (by simp [zerosC, hlb]), isT_box0 (n := 1) (enc := intCells) (fun _ => rfl) (hs5.at 2 rfl) (flat_ints _) (by simp [zerosC]), Nat.le_refl _, Nat.le_refl _, Nat.le_refl _, by simp only; omega, by simp only; omega, by simp only; omega, by simp only; omega, by simp only; omega, by simp only; omega⟩
    refine (rsameC_any _ _ (zerosC M) (zerosC M) _ hx hy).mono ?_
    rintro e u5 ⟨rfl, hb_5⟩
    refine ⟨_, rfl, hb_5, ?_⟩
    clear hs5
    refine al_end (ah_back hok3 hcl3 (fun w9 hs => ((hs.fewer 1 rfl).tail 6 rfl)) ?_)
    refine ah_take 5 (fun w9 hs => ((hs.fewer 1 rfl).tail 6 rfl)) rfl rfl rfl (by kernel_rfl) (by kernel_rfl) (by kernel_rfl) (fun _ _ _ h => h) rfl (q_same (v' := .bool true) (q_move rfl) (by simp)) ?_
    refine ah_take 6 (fun w9 hs => ((hs.fewer 1 rfl).tail 6 rfl)) rfl rfl rfl (by kernel_rfl) (by kernel_rfl) (by kernel_rfl) (fun _ _ _ h => h) rfl (q_loadAll (i := 1) rfl rfl Tryz.isAgg29 Tryz.sizeOf29 rfl) ?_
    refine ah_take 7 (fun w9 hs => ((hs.fewer 1 rfl).tail 6 rfl)) rfl rfl rfl (by kernel_rfl) (by kernel_rfl) (by kernel_rfl) (fun _ _ _ h => h) rfl (q_loadAll (i := 0) rfl rfl Tryz.isAgg34 Tryz.sizeOf34 rfl) ?_
    refine ah_take 9 (fun w9 hs => ((hs.fewer 1 rfl).tail 6 rfl)) rfl rfl rfl (by kernel_rfl) (by kernel_rfl) (by kernel_rfl) (fun _ _ _ h => h) rfl (q_loadAll (i := 1) rfl rfl Tryz.isAgg29 Tryz.sizeOf29 rfl) ?_
    refine ah_take 10 (fun w9 hs => ((hs.fewer 1 rfl).tail 6 rfl)) rfl rfl rfl (by kernel_rfl) (by kernel_rfl) (by kernel_rfl) (fun _ _ _ h => h) rfl (q_loadAll (i := 0) rfl rfl Tryz.isAgg34 Tryz.sizeOf34 rfl) ?_
    refine ah_one 8 rfl (by kernel_rfl) (fun hok4 hcl4 => ?_)
    refine al_call Tryz.call38 (.cons rfl (.cons rfl .nil)) rfl rfl (fun w6 hs6 => ?_)
    refine (validCurrents_any R M Q C _ (hM.below hs6.below) (hC.below hs6.below)).mono ?_
    rintro e u6 ⟨rfl, hb_6⟩
    refine ⟨_, rfl, hb_6, ?_⟩
    clear hs6
    refine al_end (ah_back hok4 hcl4 (fun w9 hs => ((hs.fewer 2 rfl).tail 6 rfl)) ?_)
    refine ah_one 11 rfl (by kernel_rfl) (fun hok5 hcl5 => ?_)
    refine al_call Tryz.call39 (.cons rfl (.cons rfl .nil)) rfl rfl (fun w7 hs7 => ?_)
    refine (rvalid2_any R M Q C _ (hM.below hs7.below) (hC.below hs7.below)).mono ?_
    rintro e u7 ⟨rfl, hb_7⟩
    refine ⟨_, rfl, hb_7, ?_⟩
    clear hs7
    refine al_end (ah_back hok5 hcl5 (fun w9 hs => ((hs.fewer 3 rfl).tail 6 rfl)) ?_)
    refine ah_take 12 (fun w9 hs => ((hs.fewer 3 rfl).tail 6 rfl)) rfl rfl rfl (by kernel_rfl) (by kernel_rfl) (by kernel_rfl) (fun _ _ _ h => h) rfl (q_same (v' := .bool true) (q_eqlB rfl rfl Tryz.underlying4) (by simp)) ?_
    refine ah_take 13 (fun w9 hs => ((hs.fewer 3 rfl).tail 6 rfl)) rfl rfl rfl (by kernel_rfl) (by kernel_rfl) (by kernel_rfl) (fun _ _ _ h => h) rfl (q_pickT rfl rfl) ?_
    refine ah_take 14 (fun w9 hs => ((hs.fewer 3 rfl).tail 6 rfl)) rfl rfl rfl (by kernel_rfl) (by kernel_rfl) (by kernel_rfl) (fun _ _ _ h => h) rfl (q_move rfl) ?_
    refine ah_take 15 (fun w9 hs => ((hs.fewer 3 rfl).tail 6 rfl)) rfl rfl rfl (by kernel_rfl) (by kernel_rfl) (by kernel_rfl) (fun _ _ _ h => h) rfl (q_loadAll (i := 0) rfl rfl Tryz.isAgg34 Tryz.sizeOf34 rfl) ?_
    refine ah_take 17 (fun w9 hs => ((hs.fewer 3 rfl).tail 6 rfl)) rfl rfl rfl (by kernel_rfl) (by kernel_rfl) (by kernel_rfl) (fun _ _ _ h => h) rfl (q_loadAll (i := 0) rfl rfl Tryz.isAgg34 Tryz.sizeOf34 rfl) ?_
    refine ah_one 16 rfl (by kernel_rfl) (fun hok6 hcl6 => ?_)
    refine al_call Tryz.call40 (.cons rfl .nil) rfl rfl (fun w8 hs8 => ?_)
    refine (total_any Q.A Q.B Q.C Q.la Q.ca Q.lb Q.cb Q.lc Q.cc C.plasma _ (hC.plasma.below hs8.below) hC.kc).mono ?_
    rintro e u8 ⟨rfl, hb_8⟩
    refine ⟨_, rfl, hb_8, ?_⟩
    clear hs8
    refine al_end (ah_back hok6 hcl6 (fun w9 hs => ((hs.fewer 4 rfl).tail 6 rfl)) ?_)
    refine ah_one 18 rfl (by kernel_rfl) (fun hok7 hcl7 => ?_)
    refine al_call Tryz.call41 (.cons rfl .nil) rfl rfl (fun w9 hs9 => ?_)
    refine (rtotal_any Q C _ (hC.below hs9.below)).mono ?_
    rintro e u9 ⟨rfl, hb_9⟩
    refine ⟨_, rfl, hb_9, ?_⟩
    clear hs9
    refine al_end (ah_back hok7 hcl7 (fun w9 hs => ((hs.fewer 5 rfl).tail 6 rfl)) ?_)
    refine ah_take 19 (fun w9 hs => ((hs.fewer 5 rfl).tail 6 rfl)) rfl rfl rfl (by kernel_rfl) (by kernel_rfl) (by kernel_rfl) (fun _ _ _ h => h) rfl (q_same (v' := .bool true) (q_eql rfl rfl) (by simp)) ?_
    refine ah_take 20 (fun w9 hs => ((hs.fewer 5 rfl).tail 6 rfl)) rfl rfl rfl (by kernel_rfl) (by kernel_rfl) (by kernel_rfl) (fun _ _ _ h => h) rfl (q_pickT rfl rfl) ?_
    refine ah_take 21 (fun w9 hs => ((hs.fewer 5 rfl).tail 6 rfl)) rfl rfl rfl (by kernel_rfl) (by kernel_rfl) (by kernel_rfl) (fun _ _ _ h => h) rfl (q_move rfl) ?_
    refine ah_one 22 rfl (by kernel_rfl) (fun hok8 hcl8 => ?_)
    refine al_call Tryz.call19 .nil rfl rfl (fun w10 hs10 => ?_)
    refine (awake2_any _ (hE.below hs10.below)).mono ?_
    rintro e u10 ⟨rfl, hb_10⟩
    refine ⟨_, rfl, hb_10, ?_⟩
    clear hs10
    refine al_end (ah_back hok8 hcl8 (fun w9 hs => ((hs.fewer 6 rfl).tail 6 rfl)) ?_)
    refine ah_take 23 (fun w9 hs => ((hs.fewer 6 rfl).tail 6 rfl)) rfl rfl rfl (by kernel_rfl) (by kernel_rfl) (by kernel_rfl) (fun _ _ _ h => h) rfl (q_pickT rfl rfl) ?_
    refine ah_one 24 rfl (by kernel_rfl) (fun hok9 hcl9 => ?_)
    refine al_q (q_assign rfl) rfl rfl rfl ?_
    refine al_end (ah_last (by kernel_rfl) ?_)
    refine aq_then ?_
    refine ac_ret ?_
    refine ret1 Tryz.results6 rfl (fun w9 hs => ?_)
    exact ⟨rfl, hs.below⟩

set_option maxRecDepth 100000 in
theorem currents_bad (R : MachR) (M : MachD) (Q : CurR) (C : CurD) (W : World) (hE : Env W) (hM : R.la ≤ 1000000000000000 → R.lb ≤ 1000000000000000 → R.lc ≤ 1000000000000000 → R.ld ≤ 1000000000000000 → IsM W R M) (hC : OpC W Q C) (hc : checkC M ≠ 0) : Calls Tryz.prog 6 #[(.agg (machCells R M)), Q.v] W (Ret (.bool true) W) := by
  refine calls_ax (vs := [(.agg (machCells R M)), Q.v]) Tryz.func6 rfl rfl ?_
  refine ac_seq ?_
  refine ac_region ?_
  refine al_new (fun b => .pointer (some ⟨b, 0, none⟩)) (r_box rfl rfl) rfl rfl rfl ?_
  intro b1
  refine al_new (fun b => .pointer (some ⟨b, 0, none⟩)) (r_box rfl rfl) rfl rfl rfl ?_
  intro b2
  refine al_q (q_assign rfl) rfl rfl rfl ?_
  refine al_end ?_
  refine aq_then ?_
  refine ac_seq ?_
  refine ac_seq ?_
  refine ac_region ?_
  refine al_q (q_loadAll (i := 1) rfl rfl Tryz.isAgg29 Tryz.sizeOf29 rfl) rfl rfl rfl ?_
  refine al_q (q_loadAll (i := 0) rfl rfl Tryz.isAgg34 Tryz.sizeOf34 rfl) rfl rfl rfl ?_
  refine al_call Tryz.call16 (.cons rfl (.cons rfl .nil)) rfl rfl (fun w1 hs1 => ?_)
  refine (brief2_any R M Q _).mono ?_
  rintro e u1 ⟨rfl, hb_1⟩
  refine ⟨_, rfl, hb_1, ?_⟩
  clear hs1
  refine al_q (q_not rfl) rfl rfl rfl ?_
  refine al_end ?_
  refine aq_then ?_
  refine ac_cond rfl (fun h1 => ?_) (fun h1 => ?_)
  · skip
    refine ac_seq ?_
    refine ac_region ?_
    refine al_call Tryz.call19 .nil rfl rfl (fun w2 hs2 => ?_)
    refine (awake2_any _ (hE.below hs2.below)).mono ?_
    rintro e u2 ⟨rfl, hb_2⟩
    refine ⟨_, rfl, hb_2, ?_⟩
    clear hs2
    refine al_q (q_assign rfl) rfl rfl rfl ?_
    refine al_end ?_
    refine aq_then ?_
    refine ac_ret ?_
    refine aq_thenR ?_
    refine ret1 Tryz.results6 rfl (fun w9 hs => ?_)
    exact ⟨rfl, hs.below⟩
  · have hbf := brief2_iff.1 (show brief2 R Q = true by simpa using h1)
    have hM := hM (by omega) (by omega) (by omega) (by omega)
    have hC := hC.isC (by omega) (by omega) (by omega)
    refine ac_skip ?_
    refine aq_then ?_
    refine ac_seq ?_
    refine ac_draw 24 (by kernel_rfl) (by kernel_rfl) ?_
    refine ah_take 0 (fun w9 hs => hs) rfl rfl rfl (by kernel_rfl) (by kernel_rfl) (by kernel_rfl) (fun _ _ _ h => h) rfl (q_loadAll (i := 1) rfl rfl Tryz.isAgg29 Tryz.sizeOf29 rfl) ?_
    refine ah_take 2 (fun w9 hs => hs) rfl rfl rfl (by kernel_rfl) (by kernel_rfl) (by kernel_rfl) (fun _ _ _ h => h) rfl (q_loadAll (i := 1) rfl rfl Tryz.isAgg29 Tryz.sizeOf29 rfl) ?_
    refine ah_one 1 rfl (by kernel_rfl) (fun hok1 hcl1 => ?_)
    refine al_call Tryz.call36 (.cons rfl .nil) rfl rfl (fun w3 hs3 => ?_)
    refine (quiet_bad R M _ (hM.below hs3.below) hc).mono ?_
    rintro e u3 ⟨rfl, hb_3⟩
    refine ⟨_, rfl, hb_3, ?_⟩
    clear hs3
    refine al_end (ah_back hok1 hcl1 (fun w9 hs => (hs.fewer 1 rfl)) ?_)
    refine ah_one 3 rfl (by kernel_rfl) (fun hok2 hcl2 => ?_)
    refine al_call Tryz.call37 (.cons rfl .nil) rfl rfl (fun w4 hs4 => ?_)
    refine (rQuiet_bad R M _ (hM.below hs4.below) hc).mono ?_
    rintro e u4 ⟨rfl, hb_4⟩
    refine ⟨_, rfl, hb_4, ?_⟩
    clear hs4
    refine al_end (ah_back hok2 hcl2 (fun w9 hs => (hs.fewer 2 rfl)) ?_)
    refine ah_one 4 rfl (by kernel_rfl) (fun hok3 hcl3 => ?_)
    refine al_call Tryz.call35 (.cons rfl (.cons rfl .nil)) rfl rfl (fun w5 hs5 => ?_)
    refine (rsameC_any ⟨none, none, none, 0, 0, 0, 0, 0, 0⟩ ⟨none, none, none, 0, 0, 0, 0, 0, 0⟩ ⟨[], [], []⟩ ⟨[], [], []⟩ _ (isC_nil _) (isC_nil _)).mono ?_
    rintro e u5 ⟨rfl, hb_5⟩
    refine ⟨_, rfl, hb_5, ?_⟩
    clear hs5
    refine al_end (ah_back hok3 hcl3 (fun w9 hs => (hs.fewer 3 rfl)) ?_)
    refine ah_take 5 (fun w9 hs => (hs.fewer 3 rfl)) rfl rfl rfl (by kernel_rfl) (by kernel_rfl) (by kernel_rfl) (fun _ _ _ h => h) rfl (q_same (v' := .bool true) (q_move rfl) (by simp)) ?_
    refine ah_take 6 (fun w9 hs => (hs.fewer 3 rfl)) rfl rfl rfl (by kernel_rfl) (by kernel_rfl) (by kernel_rfl) (fun _ _ _ h => h) rfl (q_loadAll (i := 1) rfl rfl Tryz.isAgg29 Tryz.sizeOf29 rfl) ?_
    refine ah_take 7 (fun w9 hs => (hs.fewer 3 rfl)) rfl rfl rfl (by kernel_rfl) (by kernel_rfl) (by kernel_rfl) (fun _ _ _ h => h) rfl (q_loadAll (i := 0) rfl rfl Tryz.isAgg34 Tryz.sizeOf34 rfl) ?_
    refine ah_take 9 (fun w9 hs => (hs.fewer 3 rfl)) rfl rfl rfl (by kernel_rfl) (by kernel_rfl) (by kernel_rfl) (fun _ _ _ h => h) rfl (q_loadAll (i := 1) rfl rfl Tryz.isAgg29 Tryz.sizeOf29 rfl) ?_
    refine ah_take 10 (fun w9 hs => (hs.fewer 3 rfl)) rfl rfl rfl (by kernel_rfl) (by kernel_rfl) (by kernel_rfl) (fun _ _ _ h => h) rfl (q_loadAll (i := 0) rfl rfl Tryz.isAgg34 Tryz.sizeOf34 rfl) ?_
    refine ah_one 8 rfl (by kernel_rfl) (fun hok4 hcl4 => ?_)
    refine al_call Tryz.call38 (.cons rfl (.cons rfl .nil)) rfl rfl (fun w6 hs6 => ?_)
    refine (validCurrents_any R M Q C _ (hM.below hs6.below) (hC.below hs6.below)).mono ?_
    rintro e u6 ⟨rfl, hb_6⟩
    refine ⟨_, rfl, hb_6, ?_⟩
    clear hs6
    refine al_end (ah_back hok4 hcl4 (fun w9 hs => (hs.fewer 4 rfl)) ?_)
    refine ah_one 11 rfl (by kernel_rfl) (fun hok5 hcl5 => ?_)
    refine al_call Tryz.call39 (.cons rfl (.cons rfl .nil)) rfl rfl (fun w7 hs7 => ?_)
    refine (rvalid2_any R M Q C _ (hM.below hs7.below) (hC.below hs7.below)).mono ?_
    rintro e u7 ⟨rfl, hb_7⟩
    refine ⟨_, rfl, hb_7, ?_⟩
    clear hs7
    refine al_end (ah_back hok5 hcl5 (fun w9 hs => (hs.fewer 5 rfl)) ?_)
    refine ah_take 12 (fun w9 hs => (hs.fewer 5 rfl)) rfl rfl rfl (by kernel_rfl) (by kernel_rfl) (by kernel_rfl) (fun _ _ _ h => h) rfl (q_same (v' := .bool true) (q_eqlB rfl rfl Tryz.underlying4) (by simp)) ?_
    refine ah_take 13 (fun w9 hs => (hs.fewer 5 rfl)) rfl rfl rfl (by kernel_rfl) (by kernel_rfl) (by kernel_rfl) (fun _ _ _ h => h) rfl (q_pickT rfl rfl) ?_
    refine ah_take 14 (fun w9 hs => (hs.fewer 5 rfl)) rfl rfl rfl (by kernel_rfl) (by kernel_rfl) (by kernel_rfl) (fun _ _ _ h => h) rfl (q_move rfl) ?_
    refine ah_take 15 (fun w9 hs => (hs.fewer 5 rfl)) rfl rfl rfl (by kernel_rfl) (by kernel_rfl) (by kernel_rfl) (fun _ _ _ h => h) rfl (q_loadAll (i := 0) rfl rfl Tryz.isAgg34 Tryz.sizeOf34 rfl) ?_
    refine ah_take 17 (fun w9 hs => (hs.fewer 5 rfl)) rfl rfl rfl (by kernel_rfl) (by kernel_rfl) (by kernel_rfl) (fun _ _ _ h => h) rfl (q_loadAll (i := 0) rfl rfl Tryz.isAgg34 Tryz.sizeOf34 rfl) ?_
    refine ah_one 16 rfl (by kernel_rfl) (fun hok6 hcl6 => ?_)
    refine al_call Tryz.call40 (.cons rfl .nil) rfl rfl (fun w8 hs8 => ?_)
    refine (total_any Q.A Q.B Q.C Q.la Q.ca Q.lb Q.cb Q.lc Q.cc C.plasma _ (hC.plasma.below hs8.below) hC.kc).mono ?_
    rintro e u8 ⟨rfl, hb_8⟩
    refine ⟨_, rfl, hb_8, ?_⟩
    clear hs8
    refine al_end (ah_back hok6 hcl6 (fun w9 hs => (hs.fewer 6 rfl)) ?_)
    refine ah_one 18 rfl (by kernel_rfl) (fun hok7 hcl7 => ?_)
    refine al_call Tryz.call41 (.cons rfl .nil) rfl rfl (fun w9 hs9 => ?_)
    refine (rtotal_any Q C _ (hC.below hs9.below)).mono ?_
    rintro e u9 ⟨rfl, hb_9⟩
    refine ⟨_, rfl, hb_9, ?_⟩
    clear hs9
    refine al_end (ah_back hok7 hcl7 (fun w9 hs => (hs.fewer 7 rfl)) ?_)
    refine ah_take 19 (fun w9 hs => (hs.fewer 7 rfl)) rfl rfl rfl (by kernel_rfl) (by kernel_rfl) (by kernel_rfl) (fun _ _ _ h => h) rfl (q_same (v' := .bool true) (q_eql rfl rfl) (by simp)) ?_
    refine ah_take 20 (fun w9 hs => (hs.fewer 7 rfl)) rfl rfl rfl (by kernel_rfl) (by kernel_rfl) (by kernel_rfl) (fun _ _ _ h => h) rfl (q_pickT rfl rfl) ?_
    refine ah_take 21 (fun w9 hs => (hs.fewer 7 rfl)) rfl rfl rfl (by kernel_rfl) (by kernel_rfl) (by kernel_rfl) (fun _ _ _ h => h) rfl (q_move rfl) ?_
    refine ah_one 22 rfl (by kernel_rfl) (fun hok8 hcl8 => ?_)
    refine al_call Tryz.call19 .nil rfl rfl (fun w10 hs10 => ?_)
    refine (awake2_any _ (hE.below hs10.below)).mono ?_
    rintro e u10 ⟨rfl, hb_10⟩
    refine ⟨_, rfl, hb_10, ?_⟩
    clear hs10
    refine al_end (ah_back hok8 hcl8 (fun w9 hs => (hs.fewer 8 rfl)) ?_)
    refine ah_take 23 (fun w9 hs => (hs.fewer 8 rfl)) rfl rfl rfl (by kernel_rfl) (by kernel_rfl) (by kernel_rfl) (fun _ _ _ h => h) rfl (q_pickT rfl rfl) ?_
    refine ah_one 24 rfl (by kernel_rfl) (fun hok9 hcl9 => ?_)
    refine al_q (q_assign rfl) rfl rfl rfl ?_
    refine al_end (ah_last (by kernel_rfl) ?_)
    refine aq_then ?_
    refine ac_ret ?_
    refine ret1 Tryz.results6 rfl (fun w9 hs => ?_)
    exact ⟨rfl, hs.below⟩

theorem currents_walk (R : MachR) (M : MachD) (Q : CurR) (C : CurD) (W : World) (hE : Env W) (hM : R.la ≤ 1000000000000000 → R.lb ≤ 1000000000000000 → R.lc ≤ 1000000000000000 → R.ld ≤ 1000000000000000 → IsM W R M) (hC : OpC W Q C) : Calls Tryz.prog 6 #[.agg (machCells R M), Q.v] W (Ret (.bool true) W) := by
  by_cases hc : checkC M = 0
  · exact currents_ok R M Q C W hE hM hC hc
  · exact currents_bad R M Q C W hE hM hC hc

end Go.Proofs.YtjjajleiladbhaaGreatDoor
end
