import Derived.Test.YtogcjgjhmlifgaaGreatOAG
import Derived.Test.YtogcjgjhmlifgaaGreatOAM
import Derived.Test.YtogcjgjhmlifgaaGreatOAN
import Derived.Test.YtogcjgjhmlifgaaGreatOAP
import Derived.Test.YtogcjgjhmlifgaaGreatOAQ
import Derived.Test.YtogcjgjhmlifgaaGreatOAR
import Derived.Test.YtogcjgjhmlifgaaGreatRows
import Derived.KernelRfl
import Derived.Laws.StructEq
import Derived.Laws.Small
namespace Go.Proofs.YtogcjgjhmlifgaaGreat
set_option linter.unusedVariables false
set_option linter.unusedSimpArgs false
section
open Go.RowKit Go.Shelf
set_option maxRecDepth 100000 in
set_option maxHeartbeats 8000000 in
theorem rvalid2_any (R : MachR) (M : MachD) (Qr : CurR) (Cd : CurD) (w : World) (hM : IsM w R M) (hC : IsC w Qr Cd) :
    Calls Tryz.prog 30 #[.agg (machCells R M), Qr.v] w (Ret (.bool (validC M Cd)) w) := by
  have ea := hM.coils.1
  have eb := hM.shells.1
  have n1 := hC.coils.1
  have n2 := hC.shells.1
  have n3 := hC.plasma.1
  have k1 := hC.ka
  have k2 := hC.kb
  have k3 := hC.kc
  have H0 := Lib.hid (fun V (hb : Below w.heap.size w V) => rcheck_any R M V (hM.below hb))
  have HP : Hid (checkC M = 0 → ∀ V, Below w.heap.size w V → Calls Tryz.prog 69 #[.agg (machCells R M), .slice Qr.C Qr.lc Qr.cc] V (Ret (.bool (plasB (M.grid.nr * M.grid.nz) Cd.plasma)) V)) := Lib.hid (fun h V hb => by
    have hf := cells_fine (sound_of h).grid
    exact rplasma_any M.name R.A R.B R.C R.D R.la R.ca R.lb R.cb R.lc R.cc R.ld R.cd M.grid.r M.grid.z M.grid.nr M.grid.nz M.grid.step Qr.C Qr.lc Qr.cc Cd.plasma V (hC.below hb).plasma k3 hf.1 hf.2)
  have I1 := Lib.hid hC.coils
  have I2 := Lib.hid hC.shells
  have HE : Hid (validC M Cd = (decide (checkC M = 0) && (decide (Qr.la = R.la) && (decide (Qr.lb = R.lb) && (plasB (M.grid.nr * M.grid.nz) Cd.plasma && (allW Cd.coils (-1000000) 1000000 && allW Cd.shells (-1000000) 1000000)))))) := Lib.hid (by
    unfold validC plasB
    rw [n1, n2, ea, eb]
    cases decide (checkC M = 0) <;> cases decide (Qr.la = R.la) <;> cases decide (Qr.lb = R.lb) <;> cases allW Cd.coils (-1000000) 1000000 <;> cases allW Cd.shells (-1000000) 1000000 <;> simp)
  clear hM hC
  generalize validC M Cd = G at *
  generalize hE0 : checkC M = E0 at *
  obtain ⟨A, B, Cl, D, la, ca, lb, cb, lc, cl, ld, cd⟩ := R
  obtain ⟨name, coils, shells, limits, ⟨r, z, nr, nz, step⟩, sensors⟩ := M
  obtain ⟨A1, B1, C1, na, qa, nb, qb, nc, qc⟩ := Qr
  obtain ⟨z1, z2, z3⟩ := Cd
  dsimp only [machCells, CurR.v] at *
  generalize plasB (nr * nz) z3 = P at *
  clear ea eb n3 k3 hE0
  show Calls Tryz.prog 30 #[.agg #[.string name, .slice A la ca, .slice B lb cb, .slice Cl lc cl, .int .i64 r, .int .i64 z, .int .i64 nr, .int .i64 nz, .int .i64 step, .slice D ld cd], .agg #[.slice A1 na qa, .slice B1 nb qb, .slice C1 nc qc]] w _
  go_enter Tryz.func30, Tryz.ntmps30
  go_upto_region 1 with (fail)
  have m0 : (((w.alloc (.cells #[.string name, .slice A la ca, .slice B lb cb, .slice Cl lc cl, .int .i64 r, .int .i64 z, .int .i64 nr, .int .i64 nz, .int .i64 step, .slice D ld cd] 29)).alloc (.cells #[.slice A1 na qa, .slice B1 nb qb, .slice C1 nc qc] 32))).cell? ⟨w.heap.size, 0, none⟩ = some (.string name) := by go_simp
  have m1 : (((w.alloc (.cells #[.string name, .slice A la ca, .slice B lb cb, .slice Cl lc cl, .int .i64 r, .int .i64 z, .int .i64 nr, .int .i64 nz, .int .i64 step, .slice D ld cd] 29)).alloc (.cells #[.slice A1 na qa, .slice B1 nb qb, .slice C1 nc qc] 32))).cell? ⟨w.heap.size, 1, none⟩ = some (.slice A la ca) := by go_simp
  have m2 : (((w.alloc (.cells #[.string name, .slice A la ca, .slice B lb cb, .slice Cl lc cl, .int .i64 r, .int .i64 z, .int .i64 nr, .int .i64 nz, .int .i64 step, .slice D ld cd] 29)).alloc (.cells #[.slice A1 na qa, .slice B1 nb qb, .slice C1 nc qc] 32))).cell? ⟨w.heap.size, 2, none⟩ = some (.slice B lb cb) := by go_simp
  have m3 : (((w.alloc (.cells #[.string name, .slice A la ca, .slice B lb cb, .slice Cl lc cl, .int .i64 r, .int .i64 z, .int .i64 nr, .int .i64 nz, .int .i64 step, .slice D ld cd] 29)).alloc (.cells #[.slice A1 na qa, .slice B1 nb qb, .slice C1 nc qc] 32))).cell? ⟨w.heap.size, 3, none⟩ = some (.slice Cl lc cl) := by go_simp
  have m4 : (((w.alloc (.cells #[.string name, .slice A la ca, .slice B lb cb, .slice Cl lc cl, .int .i64 r, .int .i64 z, .int .i64 nr, .int .i64 nz, .int .i64 step, .slice D ld cd] 29)).alloc (.cells #[.slice A1 na qa, .slice B1 nb qb, .slice C1 nc qc] 32))).cell? ⟨w.heap.size, 4, none⟩ = some (.int .i64 r) := by go_simp
  have m5 : (((w.alloc (.cells #[.string name, .slice A la ca, .slice B lb cb, .slice Cl lc cl, .int .i64 r, .int .i64 z, .int .i64 nr, .int .i64 nz, .int .i64 step, .slice D ld cd] 29)).alloc (.cells #[.slice A1 na qa, .slice B1 nb qb, .slice C1 nc qc] 32))).cell? ⟨w.heap.size, 5, none⟩ = some (.int .i64 z) := by go_simp
  have m6 : (((w.alloc (.cells #[.string name, .slice A la ca, .slice B lb cb, .slice Cl lc cl, .int .i64 r, .int .i64 z, .int .i64 nr, .int .i64 nz, .int .i64 step, .slice D ld cd] 29)).alloc (.cells #[.slice A1 na qa, .slice B1 nb qb, .slice C1 nc qc] 32))).cell? ⟨w.heap.size, 6, none⟩ = some (.int .i64 nr) := by go_simp
  have m7 : (((w.alloc (.cells #[.string name, .slice A la ca, .slice B lb cb, .slice Cl lc cl, .int .i64 r, .int .i64 z, .int .i64 nr, .int .i64 nz, .int .i64 step, .slice D ld cd] 29)).alloc (.cells #[.slice A1 na qa, .slice B1 nb qb, .slice C1 nc qc] 32))).cell? ⟨w.heap.size, 7, none⟩ = some (.int .i64 nz) := by go_simp
  have m8 : (((w.alloc (.cells #[.string name, .slice A la ca, .slice B lb cb, .slice Cl lc cl, .int .i64 r, .int .i64 z, .int .i64 nr, .int .i64 nz, .int .i64 step, .slice D ld cd] 29)).alloc (.cells #[.slice A1 na qa, .slice B1 nb qb, .slice C1 nc qc] 32))).cell? ⟨w.heap.size, 8, none⟩ = some (.int .i64 step) := by go_simp
  have m9 : (((w.alloc (.cells #[.string name, .slice A la ca, .slice B lb cb, .slice Cl lc cl, .int .i64 r, .int .i64 z, .int .i64 nr, .int .i64 nz, .int .i64 step, .slice D ld cd] 29)).alloc (.cells #[.slice A1 na qa, .slice B1 nb qb, .slice C1 nc qc] 32))).cell? ⟨w.heap.size, 9, none⟩ = some (.slice D ld cd) := by go_simp
  have q0 : (((w.alloc (.cells #[.string name, .slice A la ca, .slice B lb cb, .slice Cl lc cl, .int .i64 r, .int .i64 z, .int .i64 nr, .int .i64 nz, .int .i64 step, .slice D ld cd] 29)).alloc (.cells #[.slice A1 na qa, .slice B1 nb qb, .slice C1 nc qc] 32))).cell? ⟨w.heap.size + 1, 0, none⟩ = some (.slice A1 na qa) := by go_simp
  have q1 : (((w.alloc (.cells #[.string name, .slice A la ca, .slice B lb cb, .slice Cl lc cl, .int .i64 r, .int .i64 z, .int .i64 nr, .int .i64 nz, .int .i64 step, .slice D ld cd] 29)).alloc (.cells #[.slice A1 na qa, .slice B1 nb qb, .slice C1 nc qc] 32))).cell? ⟨w.heap.size + 1, 1, none⟩ = some (.slice B1 nb qb) := by go_simp
  have q2 : (((w.alloc (.cells #[.string name, .slice A la ca, .slice B lb cb, .slice Cl lc cl, .int .i64 r, .int .i64 z, .int .i64 nr, .int .i64 nz, .int .i64 step, .slice D ld cd] 29)).alloc (.cells #[.slice A1 na qa, .slice B1 nb qb, .slice C1 nc qc] 32))).cell? ⟨w.heap.size + 1, 2, none⟩ = some (.slice C1 nc qc) := by go_simp
  have hB0 : Below w.heap.size w (((w.alloc (.cells #[.string name, .slice A la ca, .slice B lb cb, .slice Cl lc cl, .int .i64 r, .int .i64 z, .int .i64 nr, .int .i64 nz, .int .i64 step, .slice D ld cd] 29)).alloc (.cells #[.slice A1 na qa, .slice B1 nb qb, .slice C1 nc qc] 32))) := by (repeat first | with_reducible exact Below.refl _ _ | (with_reducible refine Below.alloc ?_ ?_ _; rotate_left; exact (by first | omega | (simp; done))))
  have hz : w.heap.size + 1 < (((w.alloc (.cells #[.string name, .slice A la ca, .slice B lb cb, .slice Cl lc cl, .int .i64 r, .int .i64 z, .int .i64 nr, .int .i64 nz, .int .i64 step, .slice D ld cd] 29)).alloc (.cells #[.slice A1 na qa, .slice B1 nb qb, .slice C1 nc qc] 32))).heap.size := by simp
  obtain ⟨W0, hW0⟩ : ∃ W, ((w.alloc (.cells #[.string name, .slice A la ca, .slice B lb cb, .slice Cl lc cl, .int .i64 r, .int .i64 z, .int .i64 nr, .int .i64 nz, .int .i64 step, .slice D ld cd] 29)).alloc (.cells #[.slice A1 na qa, .slice B1 nb qb, .slice C1 nc qc] 32)) = W := ⟨_, rfl⟩
  rw [hW0] at m0 m1 m2 m3 m4 m5 m6 m7 m8 m9 q0 q1 q2 hB0 hz ⊢
  clear hW0
  have FM := Lib.hid (BoxL.mk10 (W := W0) (by omega) m0 m1 m2 m3 m4 m5 m6 m7 m8 m9)
  have FC := Lib.hid (BoxL.mk3 (W := W0) hz q0 q1 q2)
  clear m0 m1 m2 m3 m4 m5 m6 m7 m8 m9 q0 q1 q2
  have HB : Hid (∀ w' : World, Below W0.heap.size W0 w' → Below w.heap.size w w') := Lib.hid (fun w' h => hB0.trans (h.mono (by omega)))
  have m0 := (FM.out.below (Below.refl _ _)).at 0 (.string name) rfl
  have m1 := (FM.out.below (Below.refl _ _)).at 1 (.slice A la ca) rfl
  have m2 := (FM.out.below (Below.refl _ _)).at 2 (.slice B lb cb) rfl
  have m3 := (FM.out.below (Below.refl _ _)).at 3 (.slice Cl lc cl) rfl
  have m4 := (FM.out.below (Below.refl _ _)).at 4 (.int .i64 r) rfl
  have m5 := (FM.out.below (Below.refl _ _)).at 5 (.int .i64 z) rfl
  have m6 := (FM.out.below (Below.refl _ _)).at 6 (.int .i64 nr) rfl
  have m7 := (FM.out.below (Below.refl _ _)).at 7 (.int .i64 nz) rfl
  have m8 := (FM.out.below (Below.refl _ _)).at 8 (.int .i64 step) rfl
  have m9 := (FM.out.below (Below.refl _ _)).at 9 (.slice D ld cd) rfl
  have q0 := (FC.out.below (Below.refl _ _)).at 0 (.slice A1 na qa) rfl
  have q1 := (FC.out.below (Below.refl _ _)).at 1 (.slice B1 nb qb) rfl
  have q2 := (FC.out.below (Below.refl _ _)).at 2 (.slice C1 nc qc) rfl
  go_wp2_with fail
  refine (H0.out _ (HB.out _ (by (repeat with_reducible exact Below.refl _ _)))).mono ?_
  rintro e w1 ⟨rfl, hb⟩
  have hB1 : Below W0.heap.size W0 w1 := Below.trans (by (repeat with_reducible exact Below.refl _ _)) (hb.mono (by (try simp only [World.size_alloc, size_drew]); omega))
  clear hb m0 m1 m2 m3 m4 m5 m6 m7 m8 m9 q0 q1 q2
  have sz1 := hB1.size
  have m0 := (FM.out.below hB1).at 0 (.string name) rfl
  have m1 := (FM.out.below hB1).at 1 (.slice A la ca) rfl
  have m2 := (FM.out.below hB1).at 2 (.slice B lb cb) rfl
  have m3 := (FM.out.below hB1).at 3 (.slice Cl lc cl) rfl
  have m4 := (FM.out.below hB1).at 4 (.int .i64 r) rfl
  have m5 := (FM.out.below hB1).at 5 (.int .i64 z) rfl
  have m6 := (FM.out.below hB1).at 6 (.int .i64 nr) rfl
  have m7 := (FM.out.below hB1).at 7 (.int .i64 nz) rfl
  have m8 := (FM.out.below hB1).at 8 (.int .i64 step) rfl
  have m9 := (FM.out.below hB1).at 9 (.slice D ld cd) rfl
  have q0 := (FC.out.below hB1).at 0 (.slice A1 na qa) rfl
  have q1 := (FC.out.below hB1).at 1 (.slice B1 nb qb) rfl
  have q2 := (FC.out.below hB1).at 2 (.slice C1 nc qc) rfl
  by_cases b0 : E0 = 0
  · have e0 : (E0 == 0) = true := by rw [b0]; rfl
    by_cases b1 : na = la
    · have e1 := (int_eq na la).trans (decide_eq_true b1)
      by_cases b2 : nb = lb
      · have e2 := (int_eq nb lb).trans (decide_eq_true b2)
        have HP2 := Lib.hid (HP.out b0)
        cases P
        · have HF : Hid (false = G) := Lib.hid (by rw [HE.out]; simp)
          go_wp2_with fail
          refine (HP2.out _ (HB.out _ (by (repeat with_reducible assumption)))).mono ?_
          rintro e w2 ⟨rfl, hb2⟩
          have hB2 : Below W0.heap.size W0 w2 := Below.trans (by (repeat with_reducible assumption)) (hb2.mono (by (try simp only [World.size_alloc, size_drew]); omega))
          go_wp2_with fail
          go_ret
          exact ⟨by rw [← HF.out]; rfl, HB.out _ (by (repeat with_reducible assumption))⟩
        · have HG : Hid ((allW (z1.drop 0) (-1000000) 1000000 && allW z2 (-1000000) 1000000) = G) := Lib.hid (by rw [HE.out, decide_eq_true b0, decide_eq_true b1, decide_eq_true b2]; simp)
          go_wp2_with fail
          refine (HP2.out _ (HB.out _ (by (repeat with_reducible assumption)))).mono ?_
          rintro e w2 ⟨rfl, hb2⟩
          have hB2 : Below W0.heap.size W0 w2 := Below.trans (by (repeat with_reducible assumption)) (hb2.mono (by (try simp only [World.size_alloc, size_drew]); omega))
          clear hb2 m0 m1 m2 m3 m4 m5 m6 m7 m8 m9 q0 q1 q2
          go_wp2_with fail
          go_loopw [5] (fun i wr => ∃ (j : Nat), j ≤ na ∧ i = .int .i64 j ∧ Hid ((allW (z1.drop j) (-1000000) 1000000 && allW z2 (-1000000) 1000000) = G) ∧ Below W0.heap.size W0 wr) (fun i _ => na - (intOf i).toNat)
          case atStart => exact ⟨0, Nat.zero_le _, rfl, HG, by (repeat with_reducible assumption)⟩
          case round =>
            obtain ⟨j, hj, rfl, hG, hBx⟩ := hrel
            have szx := hBx.size
            have m0 := (FM.out.below hBx).at 0 (.string name) rfl
            have m1 := (FM.out.below hBx).at 1 (.slice A la ca) rfl
            have m2 := (FM.out.below hBx).at 2 (.slice B lb cb) rfl
            have m3 := (FM.out.below hBx).at 3 (.slice Cl lc cl) rfl
            have m4 := (FM.out.below hBx).at 4 (.int .i64 r) rfl
            have m5 := (FM.out.below hBx).at 5 (.int .i64 z) rfl
            have m6 := (FM.out.below hBx).at 6 (.int .i64 nr) rfl
            have m7 := (FM.out.below hBx).at 7 (.int .i64 nz) rfl
            have m8 := (FM.out.below hBx).at 8 (.int .i64 step) rfl
            have m9 := (FM.out.below hBx).at 9 (.slice D ld cd) rfl
            have q0 := (FC.out.below hBx).at 0 (.slice A1 na qa) rfl
            have q1 := (FC.out.below hBx).at 1 (.slice B1 nb qb) rfl
            have q2 := (FC.out.below hBx).at 2 (.slice C1 nc qc) rfl
            by_cases hlt : j < na
            · obtain ⟨hzl, hcl⟩ := (I1.out.below (HB.out _ hBx))
              obtain ⟨b, o, rfl, hb0, hcl⟩ := hcl (by omega)
              obtain ⟨x, hx⟩ : ∃ x, z1[j]? = some x := ⟨_, List.getElem?_eq_getElem (by omega)⟩
              have x0 : wr.cell? ⟨b, o + j, none⟩ = some (.int .i64 x) := by have h := hcl j x hx 0 _ rfl; simpa using h
              have HS : Hid (((wthn x (-1000000) 1000000 && allW (z1.drop (j + 1)) (-1000000) 1000000) && allW z2 (-1000000) 1000000) = G) := Lib.hid (by
                have h := hG.out
                rw [allW_drop hx] at h
                exact h)
              clear hcl hx hzl hG
              have jc : (0 : Int) ≤ j := by omega
              have jn : ((j : Int)).toNat = j := by omega
              cases hv : wthn x (-1000000) 1000000
              · have HF : Hid (false = G) := Lib.hid (by rw [← HS.out, hv]; rfl)
                clear HS
                go_wp2_with (go_at_call 70; refine (rwithin2_any _ _ _ _).mono ?_; rintro e w7 ⟨rfl, rfl⟩)
                go_ret
                exact ⟨by rw [← HF.out]; first | rfl | (rw [hv]), HB.out _ (by (repeat with_reducible assumption))⟩
              · have HN : Hid ((allW (z1.drop (j + 1)) (-1000000) 1000000 && allW z2 (-1000000) 1000000) = G) := Lib.hid (by rw [← HS.out, hv]; rfl)
                clear HS
                go_wp2_with (go_at_call 70; refine (rwithin2_any _ _ _ _).mono ?_; rintro e w7 ⟨rfl, rfl⟩)
                go_roundw
                case rel => exact ⟨j + 1, by omega, by go_num, HN, by (repeat with_reducible assumption)⟩
                case measure => simp [intOf]; omega
            · have HG2 : Hid (allW (z2.drop 0) (-1000000) 1000000 = G) := Lib.hid (by
                have h := hG.out
                rw [List.drop_of_length_le (by omega)] at h
                exact h)
              clear hG
              have hlt2 : ¬ j < la := by omega
              go_wp2_with fail
              go_loopw [6] (fun i wr => ∃ (j : Nat), j ≤ nb ∧ i = .int .i64 j ∧ Hid (allW (z2.drop j) (-1000000) 1000000 = G) ∧ Below W0.heap.size W0 wr) (fun i _ => nb - (intOf i).toNat)
              case atStart => exact ⟨0, Nat.zero_le _, rfl, HG2, by (repeat with_reducible assumption)⟩
              case round =>
                clear m0 m1 m2 m3 m4 m5 m6 m7 m8 m9 q0 q1 q2
                obtain ⟨j, hj, rfl, hG, hBx⟩ := hrel
                have szx := hBx.size
                have m0 := (FM.out.below hBx).at 0 (.string name) rfl
                have m1 := (FM.out.below hBx).at 1 (.slice A la ca) rfl
                have m2 := (FM.out.below hBx).at 2 (.slice B lb cb) rfl
                have m3 := (FM.out.below hBx).at 3 (.slice Cl lc cl) rfl
                have m4 := (FM.out.below hBx).at 4 (.int .i64 r) rfl
                have m5 := (FM.out.below hBx).at 5 (.int .i64 z) rfl
                have m6 := (FM.out.below hBx).at 6 (.int .i64 nr) rfl
                have m7 := (FM.out.below hBx).at 7 (.int .i64 nz) rfl
                have m8 := (FM.out.below hBx).at 8 (.int .i64 step) rfl
                have m9 := (FM.out.below hBx).at 9 (.slice D ld cd) rfl
                have q0 := (FC.out.below hBx).at 0 (.slice A1 na qa) rfl
                have q1 := (FC.out.below hBx).at 1 (.slice B1 nb qb) rfl
                have q2 := (FC.out.below hBx).at 2 (.slice C1 nc qc) rfl
                by_cases hlt : j < nb
                · obtain ⟨hzl, hcl⟩ := (I2.out.below (HB.out _ hBx))
                  obtain ⟨b, o, rfl, hb0, hcl⟩ := hcl (by omega)
                  obtain ⟨x, hx⟩ : ∃ x, z2[j]? = some x := ⟨_, List.getElem?_eq_getElem (by omega)⟩
                  have x0 : wr.cell? ⟨b, o + j, none⟩ = some (.int .i64 x) := by have h := hcl j x hx 0 _ rfl; simpa using h
                  have HS : Hid ((wthn x (-1000000) 1000000 && allW (z2.drop (j + 1)) (-1000000) 1000000) = G) := Lib.hid (by
                    have h := hG.out
                    rw [allW_drop hx] at h
                    exact h)
                  clear hcl hx hzl hG
                  have jc : (0 : Int) ≤ j := by omega
                  have jn : ((j : Int)).toNat = j := by omega
                  cases hv : wthn x (-1000000) 1000000
                  · have HF : Hid (false = G) := Lib.hid (by rw [← HS.out, hv]; rfl)
                    clear HS
                    go_wp2_with (go_at_call 70; refine (rwithin2_any _ _ _ _).mono ?_; rintro e w7 ⟨rfl, rfl⟩)
                    go_ret
                    exact ⟨by rw [← HF.out]; first | rfl | (rw [hv]), HB.out _ (by (repeat with_reducible assumption))⟩
                  · have HN : Hid (allW (z2.drop (j + 1)) (-1000000) 1000000 = G) := Lib.hid (by rw [← HS.out, hv]; rfl)
                    clear HS
                    go_wp2_with (go_at_call 70; refine (rwithin2_any _ _ _ _).mono ?_; rintro e w7 ⟨rfl, rfl⟩)
                    go_roundw
                    case rel => exact ⟨j + 1, by omega, by go_num, HN, by (repeat with_reducible assumption)⟩
                    case measure => simp [intOf]; omega
                · have HF : Hid (true = G) := Lib.hid (by
                    have h := hG.out
                    rw [List.drop_of_length_le (by omega)] at h
                    exact h)
                  clear hG
                  go_wp2_with fail
                  go_ret
                  exact ⟨by rw [← HF.out]; rfl, HB.out _ (by (repeat with_reducible assumption))⟩
      · have e2 := (int_eq nb lb).trans (decide_eq_false b2)
        have HF : Hid (false = G) := Lib.hid (by rw [HE.out, decide_eq_false b2]; simp)
        go_wp2_with fail
        go_ret
        exact ⟨by rw [← HF.out]; rfl, HB.out _ (by (repeat with_reducible assumption))⟩
    · have e1 := (int_eq na la).trans (decide_eq_false b1)
      have HF : Hid (false = G) := Lib.hid (by rw [HE.out, decide_eq_false b1]; simp)
      go_wp2_with fail
      go_ret
      exact ⟨by rw [← HF.out]; rfl, HB.out _ (by (repeat with_reducible assumption))⟩
  · have e0 : (E0 == 0) = false := by rw [beq_eq_false_iff_ne]; exact b0
    have HF : Hid (false = G) := Lib.hid (by rw [HE.out, decide_eq_false b0]; rfl)
    go_wp2_with fail
    go_ret
    exact ⟨by rw [← HF.out]; rfl, HB.out _ (by (repeat with_reducible assumption))⟩
end
section
open Go.RowKit
theorem rcellsN_any (R : MachR) (M : MachD) (w : World) (hM : IsM w R M) : Calls Tryz.prog 68 #[.agg (machCells R M)] w (Ret (.int .i64 (cellsN M)) w) := rcells2_any R M w hM
end
section
open Go.RowKit
theorem cel_bl_apiPoint_ : ∀ w, (Instr.build 36 #[]).run Tryz.prog w = .ok (.agg #[(.int .i64 0), (.int .i64 0)]) w := by
  intro w; simp [Instr.build, Instr.fill, cells_agg, Tryz.runUnderlying36, Tryz.zeroValue36, Tryz.sizeOf3]
set_option maxRecDepth 100000 in
theorem mcell9_any (R : MachR) (M : MachD) (i : Int) (w : World) (hM : IsM w R M) : Calls Tryz.prog 153 #[(.agg (machCells R M)), (.int .i64 i)] w (Ret (.tuple #[.agg #[.int .i64 (cellL M i).1, .int .i64 (cellL M i).2.1], .int .i64 (cellL M i).2.2]) w) := by
  refine calls_ax (vs := [(.agg (machCells R M)), (.int .i64 i)]) Tryz.func153 rfl rfl ?_
  refine ac_seq (ac_region ?_)
  refine al_new (fun b => .pointer (some ⟨b, 0, none⟩)) (r_box rfl rfl) rfl rfl rfl ?_
  intro b1
  refine al_new (fun b => .pointer (some ⟨b, 0, none⟩)) (r_alloc Tryz.zeroValue36 rfl) rfl rfl rfl ?_
  intro b2
  refine al_p (q_assign rfl) (al_end (aq_then ?_))
  refine ac_seq (ac_seq (ac_region ?_))
  refine al_p (q_loadAll (i := 1) rfl rfl Tryz.isAgg29 Tryz.sizeOf29 rfl) (al_call Tryz.call88 (.cons rfl .nil) rfl rfl (fun w1 hs1 => ?_))
  refine (check_any R M _ (hM.below hs1.below)).mono ?_
  rintro e u1 ⟨rfl, hb_1⟩
  refine ⟨_, rfl, hb_1, ?_⟩
  clear hs1
  refine al_p (q_neq rfl rfl) (al_end (aq_then ?_))
  refine ac_cond rfl (fun h1 => ?_) (fun h1 => ?_)
  · have hc : checkC M ≠ 0 := by simpa using h1
    refine ac_seq (ac_region ?_)
    refine al_p (q_build .nil (cel_bl_apiPoint_)) (al_storeAll (i := 0) rfl rfl rfl rfl Tryz.sizeOf36 rfl rfl .k0 rfl (al_p (q_assign rfl) (al_end (aq_then ?_))))
    refine ac_ret (aq_thenR (retR Tryz.results153 (.agg (i := 0) rfl rfl Tryz.isAgg36 Tryz.sizeOf36 rfl (.tmp rfl .nil)) .two (fun w9 hs => ?_)))
    unfold cellL; rw [if_neg hc]; exact ⟨rfl, hs.below⟩
  · have hc : checkC M = 0 := by simpa using h1
    have hf := check_fine hc
    have hfc := fine_cells hf
    refine ac_skip (aq_then (ac_seq (ac_seq (ac_region ?_))))
    refine al_p (q_move rfl) ?_
    refine al_p (q_fieldAddr 4 rfl Tryz.runUnderlying29 rfl Tryz.sizeOf26 (by decide) rfl) (al_p (q_loadSub (i := 1) rfl rfl Tryz.isAgg26 Tryz.sizeOf26 .k4 .k5) (al_call Tryz.call90 (.cons rfl .nil) rfl rfl (fun w2 hs2 => ?_)))
    refine (cells_any M.grid _ (by omega) (by omega)).mono ?_
    rintro e u2 ⟨rfl, hb_2⟩
    refine ⟨_, rfl, hb_2, ?_⟩
    clear hs2
    refine al_p (q_sub rfl rfl (by omega)) (al_call Tryz.call146 (.cons rfl (.cons rfl (.cons rfl .nil))) rfl rfl (fun w3 hs3 => ?_))
    refine (mwithin_any i 0 (M.grid.nr * M.grid.nz - 1) _).mono ?_
    rintro e u3 ⟨rfl, rfl⟩
    refine ⟨_, rfl, (Below.refl _ _), ?_⟩
    clear hs3
    refine al_p (q_not rfl) (al_end (aq_then ?_))
    refine ac_cond rfl (fun h2 => ?_) (fun h2 => ?_)
    · have hi : wthn i 0 (M.grid.nr * M.grid.nz - 1) = false := by simpa using h2
      refine ac_seq (ac_region ?_)
      refine al_p (q_build .nil (cel_bl_apiPoint_)) (al_storeAll (i := 0) rfl rfl rfl rfl Tryz.sizeOf36 rfl rfl .k0 rfl (al_p (q_assign rfl) (al_end (aq_then ?_))))
      refine ac_ret (aq_thenR (retR Tryz.results153 (.agg (i := 0) rfl rfl Tryz.isAgg36 Tryz.sizeOf36 rfl (.tmp rfl .nil)) .two (fun w9 hs => ?_)))
      unfold cellL; rw [if_pos hc, if_neg (by rw [hi]; decide)]; exact ⟨rfl, hs.below⟩
    · have hi : wthn i 0 (M.grid.nr * M.grid.nz - 1) = true := by simpa using h2
      have hi2 := wthn_iff.1 hi
      refine ac_skip (aq_then (ac_seq (ac_region ?_)))
      refine al_p (q_fieldAddr 4 rfl Tryz.runUnderlying29 rfl Tryz.sizeOf26 (by decide) rfl) (al_p (q_loadSub (i := 1) rfl rfl Tryz.isAgg26 Tryz.sizeOf26 .k4 .k5) (al_p (q_move rfl) (al_call Tryz.call159 (.cons rfl (.cons rfl .nil)) rfl rfl (fun w4 hs4 => ?_))))
      refine (cellPlace_any M.grid i _ hf (by omega) (by omega)).mono ?_
      rintro e u4 ⟨rfl, hb_4⟩
      refine ⟨_, rfl, hb_4, ?_⟩
      clear hs4
      refine al_storeAll (i := 0) rfl rfl rfl rfl Tryz.sizeOf36 rfl rfl .k0 rfl (al_p (q_assign rfl) (al_end (aq_then ?_)))
      refine ac_ret (retR Tryz.results153 (.agg (i := 0) rfl rfl Tryz.isAgg36 Tryz.sizeOf36 rfl (.tmp rfl .nil)) .two (fun w9 hs => ?_))
      unfold cellL; rw [if_pos hc, if_pos hi]; exact ⟨rfl, hs.below⟩
set_option maxRecDepth 100000 in
theorem rcell9_any (R : MachR) (M : MachD) (i : Int) (w : World) (hM : IsM w R M) : Calls Tryz.prog 102 #[(.agg (machCells R M)), (.int .i64 i)] w (Ret (.tuple #[.agg #[.int .i64 (cellL M i).1, .int .i64 (cellL M i).2.1], .int .i64 (cellL M i).2.2]) w) := by
  refine calls_ax (vs := [(.agg (machCells R M)), (.int .i64 i)]) Tryz.func102 rfl rfl ?_
  refine ac_seq (ac_region ?_)
  refine al_new (fun b => .pointer (some ⟨b, 0, none⟩)) (r_box rfl rfl) rfl rfl rfl ?_
  intro b1
  refine al_new (fun b => .pointer (some ⟨b, 0, none⟩)) (r_alloc Tryz.zeroValue36 rfl) rfl rfl rfl ?_
  intro b2
  refine al_p (q_assign rfl) (al_end (aq_then ?_))
  refine ac_seq (ac_block (ac_seq (ac_region ?_)))
  refine al_p (q_loadAll (i := 1) rfl rfl Tryz.isAgg29 Tryz.sizeOf29 rfl) (al_call Tryz.call67 (.cons rfl .nil) rfl rfl (fun w1 hs1 => ?_))
  refine (rcheck_any R M _ (hM.below hs1.below)).mono ?_
  rintro e u1 ⟨rfl, hb_1⟩
  refine ⟨_, rfl, hb_1, ?_⟩
  clear hs1
  refine al_p (q_neq rfl rfl) (al_p (q_assign rfl) (al_end (aq_then ?_)))
  refine ac_cond rfl (fun h1 => ?_) (fun h1 => ?_)
  · have hc : checkC M ≠ 0 := by simpa using h1
    refine ac_seq (ac_region ?_)
    refine al_p (q_build .nil (cel_bl_apiPoint_)) (al_storeAll (i := 0) rfl rfl rfl rfl Tryz.sizeOf36 rfl rfl .k0 rfl (al_p (q_assign rfl) (al_end (aq_then ?_))))
    refine ac_ret (aq_inR (aq_thenR (retR Tryz.results102 (.agg (i := 0) rfl rfl Tryz.isAgg36 Tryz.sizeOf36 rfl (.tmp rfl .nil)) .two (fun w9 hs => ?_))))
    unfold cellL; rw [if_neg hc]; exact ⟨rfl, hs.below⟩
  · have hc : checkC M = 0 := by simpa using h1
    have hf := check_fine hc
    have hfc := fine_cells hf
    refine ac_seq (ac_region ?_)
    refine al_p (q_move rfl) (al_p (q_loadAll (i := 1) rfl rfl Tryz.isAgg29 Tryz.sizeOf29 rfl) (al_call Tryz.call68 (.cons rfl .nil) rfl rfl (fun w2 hs2 => ?_)))
    have hcn : cellsN M = M.grid.nr * M.grid.nz := if_pos hc
    refine (hcn ▸ rcellsN_any R M _ (hM.below hs2.below)).mono ?_
    rintro e u2 ⟨rfl, hb_2⟩
    refine ⟨_, rfl, hb_2, ?_⟩
    clear hs2
    refine al_p (q_sub rfl rfl (by omega)) (al_call Tryz.call70 (.cons rfl (.cons rfl (.cons rfl .nil))) rfl rfl (fun w3 hs3 => ?_))
    refine (rwithin2_any i 0 (M.grid.nr * M.grid.nz - 1) _).mono ?_
    rintro e u3 ⟨rfl, rfl⟩
    refine ⟨_, rfl, (Below.refl _ _), ?_⟩
    clear hs3
    refine al_p (q_not rfl) (al_p (q_assign rfl) (al_end (aq_then ?_)))
    refine ac_cond rfl (fun h2 => ?_) (fun h2 => ?_)
    · have hi : wthn i 0 (M.grid.nr * M.grid.nz - 1) = false := by simpa using h2
      refine ac_seq (ac_region ?_)
      refine al_p (q_build .nil (cel_bl_apiPoint_)) (al_storeAll (i := 0) rfl rfl rfl rfl Tryz.sizeOf36 rfl rfl .k0 rfl (al_p (q_assign rfl) (al_end (aq_then ?_))))
      refine ac_ret (aq_inR (aq_thenR (retR Tryz.results102 (.agg (i := 0) rfl rfl Tryz.isAgg36 Tryz.sizeOf36 rfl (.tmp rfl .nil)) .two (fun w9 hs => ?_))))
      unfold cellL; rw [if_pos hc, if_neg (by rw [hi]; decide)]; exact ⟨rfl, hs.below⟩
    · have hi : wthn i 0 (M.grid.nr * M.grid.nz - 1) = true := by simpa using h2
      have hi2 := wthn_iff.1 hi
      refine ac_skip (aq_inN (aq_then (ac_seq (ac_region ?_))))
      refine al_p (q_loadAll (i := 1) rfl rfl Tryz.isAgg29 Tryz.sizeOf29 rfl) (al_p (q_move rfl) (al_call Tryz.call148 (.cons rfl (.cons rfl .nil)) rfl rfl (fun w4 hs4 => ?_)))
      refine (rat_any M.name R.A R.B R.C R.D R.la R.ca R.lb R.cb R.lc R.cc R.ld R.cd M.grid.r M.grid.z M.grid.nr M.grid.nz M.grid.step (i) _ hf (by omega) (by omega)).mono ?_
      rintro e u4 ⟨rfl, hb_4⟩
      refine ⟨_, rfl, hb_4, ?_⟩
      clear hs4
      refine al_storeAll (i := 0) rfl rfl rfl rfl Tryz.sizeOf36 rfl rfl .k0 rfl (al_p (q_assign rfl) (al_end (aq_then ?_)))
      refine ac_ret (retR Tryz.results102 (.agg (i := 0) rfl rfl Tryz.isAgg36 Tryz.sizeOf36 rfl (.tmp rfl .nil)) .two (fun w9 hs => ?_))
      unfold cellL; rw [if_pos hc, if_pos hi]; exact ⟨rfl, hs.below⟩
end
section
open Go.RowKit Go.Shelf
end
section
open Go.RowKit Go.Shelf
end
section
set_option autoImplicit false
open Go.RowKit
theorem aq_swapT {E : Cfg} {U : Snaps} {l : Slots} {L L' L1 A B G : Boxes} {X : Act → World → Prop} (hT : Tl L1 (A ++ (B ++ G)) L) (hT' : Tl L1 (B ++ (A ++ G)) L') (h : AQ E U l L' X) : AQ E U l L X := fun a w hf hs => h a w hf (by
  refine hs.perm ?_
  rw [hT.eq, hT'.eq]
  refine List.Perm.append_left L1 ?_
  rw [← List.append_assoc, ← List.append_assoc]
  exact List.Perm.append_right G List.perm_append_comm)
def rowK (g : GridD) (n i : Nat) : List Int := (List.range n).map fun (j : Nat) => infl (cellR g i) (cellZ g i) (cellR g j) (cellZ g j)
theorem rowK_length (g : GridD) (n i : Nat) : (rowK g n i).length = n := by simp [rowK]
def RowsIn (g : GridD) (n : Nat) (G : Boxes) (rows : List (Option Addr × Nat)) : Prop := ∀ (i : Nat) r, rows[i]? = some r → ∃ b sp, r.1 = some ⟨b, 0, none⟩ ∧ (b, Cont.cells ((rowK g n i).map (Value.int .i64) ++ sp)) ∈ G ∧ n ≤ r.2 ∧ r.2 ≤ 9223372036854775807
theorem Sta.rowK {N : Nat} {D : List Deferred} {w0 w : World} {U : Snaps} {L G : Boxes} {g : GridD} {n : Nat} {rows : List (Option Addr × Nat)} (h : Sta ⟨N, D, w0, []⟩ U L w) (hG : ∀ x ∈ G, x ∈ L) (hr : RowsIn g n G rows) : ∀ (i : Nat) r, rows[i]? = some r → NewT 1 intCells w0.heap.size w r.1 n r.2 (rowK g n i) := by
  intro i r hi
  obtain ⟨b, sp, e, hm, h1, h2⟩ := hr i r hi
  obtain ⟨j, hj⟩ := List.getElem?_of_mem (hG _ hm)
  refine ⟨?_, fun b' off e' => ?_, h1, h2⟩
  · rw [e]; exact isT_box (n := 1) (enc := intCells) (fun _ => rfl) (h.at j hj) (flat_int _) (rowK_length _ _ _)
  · rw [e] at e'; cases e'
    rcases (h.box j _ _ hj).1 with g1 | g1
    · exact g1
    · cases g1
end
section
set_option autoImplicit false
open Go.RowKit
section
variable {P : Program} {e0 : Cfg} {U : Snaps} {l : Slots} {L : Boxes} {ops : Array Oper} {Q : Exit → Act → World → Prop} {rest : List Oper} {d : Nat} {v : Value}
variable {ty : TypeId} {pos : String} {af : Array Edge} {g : Option (Nat × Bool)} {dd : Option Nat}
theorem q_max {ox oy : Operand} {x y : Int} {ts : Array TypeId} (hx : E l ox = some (.int .i64 x)) (hy : E l oy = some (.int .i64 y)) : Q1 P e0 U l L ⟨dd, .call ⟨.builtin .max, #[ox, oy], ts⟩, ty, pos, af, g⟩ (.int .i64 (max x y)) := by
  intro a w hf hs
  have e : (if y > x then y else x) = max x y := by omega
  simp [execOp, resolve, invoke, hf.ev hx, hf.ev hy, builtin, run_max_int2, run_min_int2, Result.andThen, e]
theorem q_min {ox oy : Operand} {x y : Int} {ts : Array TypeId} (hx : E l ox = some (.int .i64 x)) (hy : E l oy = some (.int .i64 y)) : Q1 P e0 U l L ⟨dd, .call ⟨.builtin .min, #[ox, oy], ts⟩, ty, pos, af, g⟩ (.int .i64 (min x y)) := by
  intro a w hf hs
  have e : (if y < x then y else x) = min x y := by omega
  simp [execOp, resolve, invoke, hf.ev hx, hf.ev hy, builtin, run_max_int2, run_min_int2, Result.andThen, e]
end
theorem Tl.of {L1 G L : Boxes} (h : L = L1 ++ G) : Tl L1 G L := by
  subst h
  induction L1 with
  | nil => exact .z
  | cons x r ih => exact .s ih
section
variable {P : Program} {e0 : Cfg} {U : Snaps} {l : Slots} {L : Boxes} {ops : Array Oper} {Q : Exit → Act → World → Prop} {rest : List Oper} {d : Nat} {v : Value}
variable {ty : TypeId} {pos : String} {af : Array Edge} {g : Option (Nat × Bool)} {dd : Option Nat}
end
end
end Go.Proofs.YtogcjgjhmlifgaaGreat
