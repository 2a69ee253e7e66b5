import Derived.Test.YtjjajleiladbhaaGreatDoorJAV
import Derived.Test.YtjjajleiladbhaaGreatDoorJAW
import Derived.Test.YtjjajleiladbhaaGreatDoorJAZ
import Derived.Test.YtjjajleiladbhaaGreatDoorRows
import Derived.KernelRfl
import Derived.Laws.StructEq
section
/- The specification of layer 2: ValidCurrents, over this seat's translation (written by mk_vcu.py). -/
namespace Go.Proofs.YtjjajleiladbhaaGreatDoor
set_option linter.unusedVariables false
set_option linter.unusedSimpArgs false
open Go.RowKit Go.Shelf

set_option maxRecDepth 100000 in
set_option maxHeartbeats 8000000 in
theorem rvalid2_any (R : MachR) (M : MachD) (Qr : CurR) (Cd : CurD) (w : World) (hM : IsM w R M) (hC : IsC w Qr Cd) :
    Calls Tryz.prog 39 #[.agg (machCells R M), Qr.v] w (Ret (.bool (validC M Cd)) w) := by
  have ea := hM.coils.1
  have eb := hM.shells.1
  have n1 := hC.coils.1
  have n2 := hC.shells.1
  have n3 := hC.plasma.1
  have k1 := hC.ka
  have k2 := hC.kb
  have k3 := hC.kc
  have H0 := Lib.hid (fun V (hb : Below w.heap.size w V) => rcheck_any R M V (hM.below hb))
  have HP : Hid (checkC M = 0 → ∀ V, Below w.heap.size w V → Calls Tryz.prog 82 #[.agg (machCells R M), .slice Qr.C Qr.lc Qr.cc] V (Ret (.bool (plasB (M.grid.nr * M.grid.nz) Cd.plasma)) V)) := Lib.hid (fun h V hb => by
    have hf := cells_fine (sound_of h).grid
    exact rplasma_any M.name R.A R.B R.C R.D R.la R.ca R.lb R.cb R.lc R.cc R.ld R.cd M.grid.r M.grid.z M.grid.nr M.grid.nz M.grid.step Qr.C Qr.lc Qr.cc Cd.plasma V (hC.below hb).plasma k3 hf.1 hf.2)
  have I1 := Lib.hid hC.coils
  have I2 := Lib.hid hC.shells
  have HE : Hid (validC M Cd = (decide (checkC M = 0) && (decide (Qr.la = R.la) && (decide (Qr.lb = R.lb) && (plasB (M.grid.nr * M.grid.nz) Cd.plasma && (allW Cd.coils (-1000000) 1000000 && allW Cd.shells (-1000000) 1000000)))))) := Lib.hid (by
    unfold validC plasB
    rw [n1, n2, ea, eb]
    cases decide (checkC M = 0) <;> cases decide (Qr.la = R.la) <;> cases decide (Qr.lb = R.lb) <;> cases allW Cd.coils (-1000000) 1000000 <;> cases allW Cd.shells (-1000000) 1000000 <;> simp)
  clear hM hC
  generalize validC M Cd = G at *
  generalize hE0 : checkC M = E0 at *
  obtain ⟨A, B, Cl, D, la, ca, lb, cb, lc, cl, ld, cd⟩ := R
  obtain ⟨name, coils, shells, limits, ⟨r, z, nr, nz, step⟩, sensors⟩ := M
  obtain ⟨A1, B1, C1, na, qa, nb, qb, nc, qc⟩ := Qr
  obtain ⟨z1, z2, z3⟩ := Cd
  dsimp only [machCells, CurR.v] at *
  generalize plasB (nr * nz) z3 = P at *
  clear ea eb n3 k3 hE0
  show Calls Tryz.prog 39 #[.agg #[.string name, .slice A la ca, .slice B lb cb, .slice Cl lc cl, .int .i64 r, .int .i64 z, .int .i64 nr, .int .i64 nz, .int .i64 step, .slice D ld cd], .agg #[.slice A1 na qa, .slice B1 nb qb, .slice C1 nc qc]] w _
  go_enter Tryz.func39, Tryz.ntmps39
  go_upto_region 1 with (fail)
  have m0 : (((w.alloc (.cells #[.string name, .slice A la ca, .slice B lb cb, .slice Cl lc cl, .int .i64 r, .int .i64 z, .int .i64 nr, .int .i64 nz, .int .i64 step, .slice D ld cd] 29)).alloc (.cells #[.slice A1 na qa, .slice B1 nb qb, .slice C1 nc qc] 34))).cell? ⟨w.heap.size, 0, none⟩ = some (.string name) := by go_simp
  have m1 : (((w.alloc (.cells #[.string name, .slice A la ca, .slice B lb cb, .slice Cl lc cl, .int .i64 r, .int .i64 z, .int .i64 nr, .int .i64 nz, .int .i64 step, .slice D ld cd] 29)).alloc (.cells #[.slice A1 na qa, .slice B1 nb qb, .slice C1 nc qc] 34))).cell? ⟨w.heap.size, 1, none⟩ = some (.slice A la ca) := by go_simp
  have m2 : (((w.alloc (.cells #[.string name, .slice A la ca, .slice B lb cb, .slice Cl lc cl, .int .i64 r, .int .i64 z, .int .i64 nr, .int .i64 nz, .int .i64 step, .slice D ld cd] 29)).alloc (.cells #[.slice A1 na qa, .slice B1 nb qb, .slice C1 nc qc] 34))).cell? ⟨w.heap.size, 2, none⟩ = some (.slice B lb cb) := by go_simp
  have m3 : (((w.alloc (.cells #[.string name, .slice A la ca, .slice B lb cb, .slice Cl lc cl, .int .i64 r, .int .i64 z, .int .i64 nr, .int .i64 nz, .int .i64 step, .slice D ld cd] 29)).alloc (.cells #[.slice A1 na qa, .slice B1 nb qb, .slice C1 nc qc] 34))).cell? ⟨w.heap.size, 3, none⟩ = some (.slice Cl lc cl) := by go_simp
  have m4 : (((w.alloc (.cells #[.string name, .slice A la ca, .slice B lb cb, .slice Cl lc cl, .int .i64 r, .int .i64 z, .int .i64 nr, .int .i64 nz, .int .i64 step, .slice D ld cd] 29)).alloc (.cells #[.slice A1 na qa, .slice B1 nb qb, .slice C1 nc qc] 34))).cell? ⟨w.heap.size, 4, none⟩ = some (.int .i64 r) := by go_simp
  have m5 : (((w.alloc (.cells #[.string name, .slice A la ca, .slice B lb cb, .slice Cl lc cl, .int .i64 r, .int .i64 z, .int .i64 nr, .int .i64 nz, .int .i64 step, .slice D ld cd] 29)).alloc (.cells #[.slice A1 na qa, .slice B1 nb qb, .slice C1 nc qc] 34))).cell? ⟨w.heap.size, 5, none⟩ = some (.int .i64 z) := by go_simp
  have m6 : (((w.alloc (.cells #[.string name, .slice A la ca, .slice B lb cb, .slice Cl lc cl, .int .i64 r, .int .i64 z, .int .i64 nr, .int .i64 nz, .int .i64 step, .slice D ld cd] 29)).alloc (.cells #[.slice A1 na qa, .slice B1 nb qb, .slice C1 nc qc] 34))).cell? ⟨w.heap.size, 6, none⟩ = some (.int .i64 nr) := by go_simp
  have m7 : (((w.alloc (.cells #[.string name, .slice A la ca, .slice B lb cb, .slice Cl lc cl, .int .i64 r, .int .i64 z, .int .i64 nr, .int .i64 nz, .int .i64 step, .slice D ld cd] 29)).alloc (.cells #[.slice A1 na qa, .slice B1 nb qb, .slice C1 nc qc] 34))).cell? ⟨w.heap.size, 7, none⟩ = some (.int .i64 nz) := by go_simp
  have m8 : (((w.alloc (.cells #[.string name, .slice A la ca, .slice B lb cb, .slice Cl lc cl, .int .i64 r, .int .i64 z, .int .i64 nr, .int .i64 nz, .int .i64 step, .slice D ld cd] 29)).alloc (.cells #[.slice A1 na qa, .slice B1 nb qb, .slice C1 nc qc] 34))).cell? ⟨w.heap.size, 8, none⟩ = some (.int .i64 step) := by go_simp
  have m9 : (((w.alloc (.cells #[.string name, .slice A la ca, .slice B lb cb, .slice Cl lc cl, .int .i64 r, .int .i64 z, .int .i64 nr, .int .i64 nz, .int .i64 step, .slice D ld cd] 29)).alloc (.cells #[.slice A1 na qa, .slice B1 nb qb, .slice C1 nc qc] 34))).cell? ⟨w.heap.size, 9, none⟩ = some (.slice D ld cd) := by go_simp
  have q0 : (((w.alloc (.cells #[.string name, .slice A la ca, .slice B lb cb, .slice Cl lc cl, .int .i64 r, .int .i64 z, .int .i64 nr, .int .i64 nz, .int .i64 step, .slice D ld cd] 29)).alloc (.cells #[.slice A1 na qa, .slice B1 nb qb, .slice C1 nc qc] 34))).cell? ⟨w.heap.size + 1, 0, none⟩ = some (.slice A1 na qa) := by go_simp
  have q1 : (((w.alloc (.cells #[.string name, .slice A la ca, .slice B lb cb, .slice Cl lc cl, .int .i64 r, .int .i64 z, .int .i64 nr, .int .i64 nz, .int .i64 step, .slice D ld cd] 29)).alloc (.cells #[.slice A1 na qa, .slice B1 nb qb, .slice C1 nc qc] 34))).cell? ⟨w.heap.size + 1, 1, none⟩ = some (.slice B1 nb qb) := by go_simp
  have q2 : (((w.alloc (.cells #[.string name, .slice A la ca, .slice B lb cb, .slice Cl lc cl, .int .i64 r, .int .i64 z, .int .i64 nr, .int .i64 nz, .int .i64 step, .slice D ld cd] 29)).alloc (.cells #[.slice A1 na qa, .slice B1 nb qb, .slice C1 nc qc] 34))).cell? ⟨w.heap.size + 1, 2, none⟩ = some (.slice C1 nc qc) := by go_simp
  have hB0 : Below w.heap.size w (((w.alloc (.cells #[.string name, .slice A la ca, .slice B lb cb, .slice Cl lc cl, .int .i64 r, .int .i64 z, .int .i64 nr, .int .i64 nz, .int .i64 step, .slice D ld cd] 29)).alloc (.cells #[.slice A1 na qa, .slice B1 nb qb, .slice C1 nc qc] 34))) := by (with_reducible repeat first | exact Below.refl _ _ | assumption | ((first | refine Below.setCell ?_ ?_ _ | refine Below.alloc ?_ ?_ _); rotate_left; exact (by first | omega | (simp; done) | (simp; omega))) | refine Below.drew ?_ | refine Below_drewN ?_ _)
  have hz : w.heap.size + 1 < (((w.alloc (.cells #[.string name, .slice A la ca, .slice B lb cb, .slice Cl lc cl, .int .i64 r, .int .i64 z, .int .i64 nr, .int .i64 nz, .int .i64 step, .slice D ld cd] 29)).alloc (.cells #[.slice A1 na qa, .slice B1 nb qb, .slice C1 nc qc] 34))).heap.size := by simp
  obtain ⟨W0, hW0⟩ : ∃ W, ((w.alloc (.cells #[.string name, .slice A la ca, .slice B lb cb, .slice Cl lc cl, .int .i64 r, .int .i64 z, .int .i64 nr, .int .i64 nz, .int .i64 step, .slice D ld cd] 29)).alloc (.cells #[.slice A1 na qa, .slice B1 nb qb, .slice C1 nc qc] 34)) = W := ⟨_, rfl⟩
  rw [hW0] at m0 m1 m2 m3 m4 m5 m6 m7 m8 m9 q0 q1 q2 hB0 hz ⊢
  clear hW0
  have FM := Lib.hid (BoxL.mk10 (W := W0) (by omega) m0 m1 m2 m3 m4 m5 m6 m7 m8 m9)
  have FC := Lib.hid (BoxL.mk3 (W := W0) hz q0 q1 q2)
  clear m0 m1 m2 m3 m4 m5 m6 m7 m8 m9 q0 q1 q2
  have HB : Hid (∀ w' : World, Below W0.heap.size W0 w' → Below w.heap.size w w') := Lib.hid (fun w' h => hB0.trans (h.mono (by omega)))
  have m0 := (FM.out.below (Below.refl _ _)).at 0 (.string name) rfl
  have m1 := (FM.out.below (Below.refl _ _)).at 1 (.slice A la ca) rfl
  have m2 := (FM.out.below (Below.refl _ _)).at 2 (.slice B lb cb) rfl
  have m3 := (FM.out.below (Below.refl _ _)).at 3 (.slice Cl lc cl) rfl
  have m4 := (FM.out.below (Below.refl _ _)).at 4 (.int .i64 r) rfl
  have m5 := (FM.out.below (Below.refl _ _)).at 5 (.int .i64 z) rfl
  have m6 := (FM.out.below (Below.refl _ _)).at 6 (.int .i64 nr) rfl
  have m7 := (FM.out.below (Below.refl _ _)).at 7 (.int .i64 nz) rfl
  have m8 := (FM.out.below (Below.refl _ _)).at 8 (.int .i64 step) rfl
  have m9 := (FM.out.below (Below.refl _ _)).at 9 (.slice D ld cd) rfl
  have q0 := (FC.out.below (Below.refl _ _)).at 0 (.slice A1 na qa) rfl
  have q1 := (FC.out.below (Below.refl _ _)).at 1 (.slice B1 nb qb) rfl
  have q2 := (FC.out.below (Below.refl _ _)).at 2 (.slice C1 nc qc) rfl
  go_wp2_with fail
  refine (H0.out _ (HB.out _ (by (repeat first | with_reducible exact Below.refl _ _ | with_reducible assumption | with_reducible exact (‹Below _ _ _ ∧ _›).1 | (with_reducible refine Below.alloc ?_ ?_ _; rotate_left; exact (by first | omega | (simp; done) | (simp; omega))) | with_reducible refine Below.drew ?_)))).mono ?_
  rintro e w1 ⟨rfl, hb⟩
  have hB1 : Below W0.heap.size W0 w1 := Below.trans (by (repeat first | with_reducible exact Below.refl _ _ | with_reducible assumption | with_reducible exact (‹Below _ _ _ ∧ _›).1 | (with_reducible refine Below.alloc ?_ ?_ _; rotate_left; exact (by first | omega | (simp; done) | (simp; omega))) | with_reducible refine Below.drew ?_)) (hb.mono (by (try simp only [World.size_alloc, size_drew]); omega))
  clear hb m0 m1 m2 m3 m4 m5 m6 m7 m8 m9 q0 q1 q2
  have sz1 := hB1.size
  have m0 := (FM.out.below hB1).at 0 (.string name) rfl
  have m1 := (FM.out.below hB1).at 1 (.slice A la ca) rfl
  have m2 := (FM.out.below hB1).at 2 (.slice B lb cb) rfl
  have m3 := (FM.out.below hB1).at 3 (.slice Cl lc cl) rfl
  have m4 := (FM.out.below hB1).at 4 (.int .i64 r) rfl
  have m5 := (FM.out.below hB1).at 5 (.int .i64 z) rfl
  have m6 := (FM.out.below hB1).at 6 (.int .i64 nr) rfl
  have m7 := (FM.out.below hB1).at 7 (.int .i64 nz) rfl
  have m8 := (FM.out.below hB1).at 8 (.int .i64 step) rfl
  have m9 := (FM.out.below hB1).at 9 (.slice D ld cd) rfl
  have q0 := (FC.out.below hB1).at 0 (.slice A1 na qa) rfl
  have q1 := (FC.out.below hB1).at 1 (.slice B1 nb qb) rfl
  have q2 := (FC.out.below hB1).at 2 (.slice C1 nc qc) rfl
  by_cases b0 : E0 = 0
  · have e0 : (E0 == 0) = true := by rw [b0]; rfl
    by_cases b1 : na = la
    · have e1 := (int_eq na la).trans (decide_eq_true b1)
      by_cases b2 : nb = lb
      · have e2 := (int_eq nb lb).trans (decide_eq_true b2)
        have HP2 := Lib.hid (HP.out b0)
        cases P
        · have HF : Hid (false = G) := Lib.hid (by rw [HE.out]; simp)
          go_wp2_with fail
          refine (HP2.out _ (HB.out _ (by (repeat first | with_reducible exact Below.refl _ _ | with_reducible assumption | with_reducible exact (‹Below _ _ _ ∧ _›).1 | (with_reducible refine Below.alloc ?_ ?_ _; rotate_left; exact (by first | omega | (simp; done) | (simp; omega))) | with_reducible refine Below.drew ?_)))).mono ?_
          rintro e w2 ⟨rfl, hb2⟩
          have hB2 : Below W0.heap.size W0 w2 := Below.trans (by (repeat first | with_reducible exact Below.refl _ _ | with_reducible assumption | with_reducible exact (‹Below _ _ _ ∧ _›).1 | (with_reducible refine Below.alloc ?_ ?_ _; rotate_left; exact (by first | omega | (simp; done) | (simp; omega))) | with_reducible refine Below.drew ?_)) (hb2.mono (by (try simp only [World.size_alloc, size_drew]); omega))
          go_wp2_with fail
          go_ret
          exact ⟨by rw [← HF.out]; rfl, HB.out _ (by (repeat first | with_reducible exact Below.refl _ _ | with_reducible assumption | with_reducible exact (‹Below _ _ _ ∧ _›).1 | (with_reducible refine Below.alloc ?_ ?_ _; rotate_left; exact (by first | omega | (simp; done) | (simp; omega))) | with_reducible refine Below.drew ?_))⟩
        · have HG : Hid ((allW (z1.drop 0) (-1000000) 1000000 && allW z2 (-1000000) 1000000) = G) := Lib.hid (by rw [HE.out, decide_eq_true b0, decide_eq_true b1, decide_eq_true b2]; simp)
          go_wp2_with fail
          refine (HP2.out _ (HB.out _ (by (repeat first | with_reducible exact Below.refl _ _ | with_reducible assumption | with_reducible exact (‹Below _ _ _ ∧ _›).1 | (with_reducible refine Below.alloc ?_ ?_ _; rotate_left; exact (by first | omega | (simp; done) | (simp; omega))) | with_reducible refine Below.drew ?_)))).mono ?_
          rintro e w2 ⟨rfl, hb2⟩
          have hB2 : Below W0.heap.size W0 w2 := Below.trans (by (repeat first | with_reducible exact Below.refl _ _ | with_reducible assumption | with_reducible exact (‹Below _ _ _ ∧ _›).1 | (with_reducible refine Below.alloc ?_ ?_ _; rotate_left; exact (by first | omega | (simp; done) | (simp; omega))) | with_reducible refine Below.drew ?_)) (hb2.mono (by (try simp only [World.size_alloc, size_drew]); omega))
          clear hb2 m0 m1 m2 m3 m4 m5 m6 m7 m8 m9 q0 q1 q2
          go_wp2_with fail
          go_loopw [5] (fun i wr => ∃ (j : Nat), j ≤ na ∧ i = .int .i64 j ∧ Hid ((allW (z1.drop j) (-1000000) 1000000 && allW z2 (-1000000) 1000000) = G) ∧ Below W0.heap.size W0 wr) (fun i _ => na - (intOf i).toNat)
          case atStart => exact ⟨0, Nat.zero_le _, rfl, HG, by (repeat first | with_reducible exact Below.refl _ _ | with_reducible assumption | with_reducible exact (‹Below _ _ _ ∧ _›).1 | (with_reducible refine Below.alloc ?_ ?_ _; rotate_left; exact (by first | omega | (simp; done) | (simp; omega))) | with_reducible refine Below.drew ?_)⟩
          case round =>
            obtain ⟨j, hj, rfl, hG, hBx⟩ := hrel
            have szx := hBx.size
            have m0 := (FM.out.below hBx).at 0 (.string name) rfl
            have m1 := (FM.out.below hBx).at 1 (.slice A la ca) rfl
            have m2 := (FM.out.below hBx).at 2 (.slice B lb cb) rfl
            have m3 := (FM.out.below hBx).at 3 (.slice Cl lc cl) rfl
            have m4 := (FM.out.below hBx).at 4 (.int .i64 r) rfl
            have m5 := (FM.out.below hBx).at 5 (.int .i64 z) rfl
            have m6 := (FM.out.below hBx).at 6 (.int .i64 nr) rfl
            have m7 := (FM.out.below hBx).at 7 (.int .i64 nz) rfl
            have m8 := (FM.out.below hBx).at 8 (.int .i64 step) rfl
            have m9 := (FM.out.below hBx).at 9 (.slice D ld cd) rfl
            have q0 := (FC.out.below hBx).at 0 (.slice A1 na qa) rfl
            have q1 := (FC.out.below hBx).at 1 (.slice B1 nb qb) rfl
            have q2 := (FC.out.below hBx).at 2 (.slice C1 nc qc) rfl
            by_cases hlt : j < na
            · obtain ⟨hzl, hcl⟩ := (I1.out.below (HB.out _ hBx))
              obtain ⟨b, o, rfl, hb0, hcl⟩ := hcl (by omega)
              obtain ⟨x, hx⟩ : ∃ x, z1[j]? = some x := ⟨_, List.getElem?_eq_getElem (by omega)⟩
              have x0 : wr.cell? ⟨b, o + j, none⟩ = some (.int .i64 x) := by have h := hcl j x hx 0 _ rfl; simpa using h
              have HS : Hid (((wthn x (-1000000) 1000000 && allW (z1.drop (j + 1)) (-1000000) 1000000) && allW z2 (-1000000) 1000000) = G) := Lib.hid (by
                have h := hG.out
                rw [allW_drop hx] at h
                exact h)
              clear hcl hx hzl hG
              have jc : (0 : Int) ≤ j := by omega
              have jn : ((j : Int)).toNat = j := by omega
              cases hv : wthn x (-1000000) 1000000
              · have HF : Hid (false = G) := Lib.hid (by rw [← HS.out, hv]; rfl)
                clear HS
                go_wp2_with (go_at_call 70; refine (rwithin2_any _ _ _ _).mono ?_; rintro e w7 ⟨rfl, rfl⟩)
                go_ret
                exact ⟨by rw [← HF.out]; first | rfl | (rw [hv]), HB.out _ (by (repeat first | with_reducible exact Below.refl _ _ | with_reducible assumption | with_reducible exact (‹Below _ _ _ ∧ _›).1 | (with_reducible refine Below.alloc ?_ ?_ _; rotate_left; exact (by first | omega | (simp; done) | (simp; omega))) | with_reducible refine Below.drew ?_))⟩
              · have HN : Hid ((allW (z1.drop (j + 1)) (-1000000) 1000000 && allW z2 (-1000000) 1000000) = G) := Lib.hid (by rw [← HS.out, hv]; rfl)
                clear HS
                go_wp2_with (go_at_call 70; refine (rwithin2_any _ _ _ _).mono ?_; rintro e w7 ⟨rfl, rfl⟩)
                go_roundw
                case rel => exact ⟨j + 1, by omega, by go_num, HN, by (repeat first | with_reducible exact Below.refl _ _ | with_reducible assumption | with_reducible exact (‹Below _ _ _ ∧ _›).1 | (with_reducible refine Below.alloc ?_ ?_ _; rotate_left; exact (by first | omega | (simp; done) | (simp; omega))) | with_reducible refine Below.drew ?_)⟩
                case measure => simp [intOf]; omega
            · have HG2 : Hid (allW (z2.drop 0) (-1000000) 1000000 = G) := Lib.hid (by
                have h := hG.out
                rw [List.drop_of_length_le (by omega)] at h
                exact h)
              clear hG
              have hlt2 : ¬ j < la := by omega
              go_wp2_with fail
              go_loopw [6] (fun i wr => ∃ (j : Nat), j ≤ nb ∧ i = .int .i64 j ∧ Hid (allW (z2.drop j) (-1000000) 1000000 = G) ∧ Below W0.heap.size W0 wr) (fun i _ => nb - (intOf i).toNat)
              case atStart => exact ⟨0, Nat.zero_le _, rfl, HG2, by (repeat first | with_reducible exact Below.refl _ _ | with_reducible assumption | with_reducible exact (‹Below _ _ _ ∧ _›).1 | (with_reducible refine Below.alloc ?_ ?_ _; rotate_left; exact (by first | omega | (simp; done) | (simp; omega))) | with_reducible refine Below.drew ?_)⟩
              case round =>
                clear m0 m1 m2 m3 m4 m5 m6 m7 m8 m9 q0 q1 q2
                obtain ⟨j, hj, rfl, hG, hBx⟩ := hrel
                have szx := hBx.size
                have m0 := (FM.out.below hBx).at 0 (.string name) rfl
                have m1 := (FM.out.below hBx).at 1 (.slice A la ca) rfl
                have m2 := (FM.out.below hBx).at 2 (.slice B lb cb) rfl
                have m3 := (FM.out.below hBx).at 3 (.slice Cl lc cl) rfl
                have m4 := (FM.out.below hBx).at 4 (.int .i64 r) rfl
                have m5 := (FM.out.below hBx).at 5 (.int .i64 z) rfl
                have m6 := (FM.out.below hBx).at 6 (.int .i64 nr) rfl
                have m7 := (FM.out.below hBx).at 7 (.int .i64 nz) rfl
                have m8 := (FM.out.below hBx).at 8 (.int .i64 step) rfl
                have m9 := (FM.out.below hBx).at 9 (.slice D ld cd) rfl
                have q0 := (FC.out.below hBx).at 0 (.slice A1 na qa) rfl
                have q1 := (FC.out.below hBx).at 1 (.slice B1 nb qb) rfl
                have q2 := (FC.out.below hBx).at 2 (.slice C1 nc qc) rfl
                by_cases hlt : j < nb
                · obtain ⟨hzl, hcl⟩ := (I2.out.below (HB.out _ hBx))
                  obtain ⟨b, o, rfl, hb0, hcl⟩ := hcl (by omega)
                  obtain ⟨x, hx⟩ : ∃ x, z2[j]? = some x := ⟨_, List.getElem?_eq_getElem (by omega)⟩
                  have x0 : wr.cell? ⟨b, o + j, none⟩ = some (.int .i64 x) := by have h := hcl j x hx 0 _ rfl; simpa using h
                  have HS : Hid ((wthn x (-1000000) 1000000 && allW (z2.drop (j + 1)) (-1000000) 1000000) = G) := Lib.hid (by
                    have h := hG.out
                    rw [allW_drop hx] at h
                    exact h)
                  clear hcl hx hzl hG
                  have jc : (0 : Int) ≤ j := by omega
                  have jn : ((j : Int)).toNat = j := by omega
                  cases hv : wthn x (-1000000) 1000000
                  · have HF : Hid (false = G) := Lib.hid (by rw [← HS.out, hv]; rfl)
                    clear HS
                    go_wp2_with (go_at_call 70; refine (rwithin2_any _ _ _ _).mono ?_; rintro e w7 ⟨rfl, rfl⟩)
                    go_ret
                    exact ⟨by rw [← HF.out]; first | rfl | (rw [hv]), HB.out _ (by (repeat first | with_reducible exact Below.refl _ _ | with_reducible assumption | with_reducible exact (‹Below _ _ _ ∧ _›).1 | (with_reducible refine Below.alloc ?_ ?_ _; rotate_left; exact (by first | omega | (simp; done) | (simp; omega))) | with_reducible refine Below.drew ?_))⟩
                  · have HN : Hid (allW (z2.drop (j + 1)) (-1000000) 1000000 = G) := Lib.hid (by rw [← HS.out, hv]; rfl)
                    clear HS
                    go_wp2_with (go_at_call 70; refine (rwithin2_any _ _ _ _).mono ?_; rintro e w7 ⟨rfl, rfl⟩)
                    go_roundw
                    case rel => exact ⟨j + 1, by omega, by go_num, HN, by (repeat first | with_reducible exact Below.refl _ _ | with_reducible assumption | with_reducible exact (‹Below _ _ _ ∧ _›).1 | (with_reducible refine Below.alloc ?_ ?_ _; rotate_left; exact (by first | omega | (simp; done) | (simp; omega))) | with_reducible refine Below.drew ?_)⟩
                    case measure => simp [intOf]; omega
                · have HF : Hid (true = G) := Lib.hid (by
                    have h := hG.out
                    rw [List.drop_of_length_le (by omega)] at h
                    exact h)
                  clear hG
                  go_wp2_with fail
                  go_ret
                  exact ⟨by rw [← HF.out]; rfl, HB.out _ (by (repeat first | with_reducible exact Below.refl _ _ | with_reducible assumption | with_reducible exact (‹Below _ _ _ ∧ _›).1 | (with_reducible refine Below.alloc ?_ ?_ _; rotate_left; exact (by first | omega | (simp; done) | (simp; omega))) | with_reducible refine Below.drew ?_))⟩
      · have e2 := (int_eq nb lb).trans (decide_eq_false b2)
        have HF : Hid (false = G) := Lib.hid (by rw [HE.out, decide_eq_false b2]; simp)
        go_wp2_with fail
        go_ret
        exact ⟨by rw [← HF.out]; rfl, HB.out _ (by (repeat first | with_reducible exact Below.refl _ _ | with_reducible assumption | with_reducible exact (‹Below _ _ _ ∧ _›).1 | (with_reducible refine Below.alloc ?_ ?_ _; rotate_left; exact (by first | omega | (simp; done) | (simp; omega))) | with_reducible refine Below.drew ?_))⟩
    · have e1 := (int_eq na la).trans (decide_eq_false b1)
      have HF : Hid (false = G) := Lib.hid (by rw [HE.out, decide_eq_false b1]; simp)
      go_wp2_with fail
      go_ret
      exact ⟨by rw [← HF.out]; rfl, HB.out _ (by (repeat first | with_reducible exact Below.refl _ _ | with_reducible assumption | with_reducible exact (‹Below _ _ _ ∧ _›).1 | (with_reducible refine Below.alloc ?_ ?_ _; rotate_left; exact (by first | omega | (simp; done) | (simp; omega))) | with_reducible refine Below.drew ?_))⟩
  · have e0 : (E0 == 0) = false := by rw [beq_eq_false_iff_ne]; exact b0
    have HF : Hid (false = G) := Lib.hid (by rw [HE.out, decide_eq_false b0]; rfl)
    go_wp2_with fail
    go_ret
    exact ⟨by rw [← HF.out]; rfl, HB.out _ (by (repeat first | with_reducible exact Below.refl _ _ | with_reducible assumption | with_reducible exact (‹Below _ _ _ ∧ _›).1 | (with_reducible refine Below.alloc ?_ ?_ _; rotate_left; exact (by first | omega | (simp; done) | (simp; omega))) | with_reducible refine Below.drew ?_))⟩

end Go.Proofs.YtjjajleiladbhaaGreatDoor
end
section
/- The specification of layer 2: Coil, Sensor, CellAt, near, Flux, Field, over this seat's translation (written by ax_rc3.py). -/
namespace Go.Proofs.YtjjajleiladbhaaGreatDoor
set_option linter.unusedVariables false
set_option linter.unusedSimpArgs false
open Go.RowKit

theorem rcellsN_any (R : MachR) (M : MachD) (w : World) (hM : IsM w R M) : Calls Tryz.prog 23 #[.agg (machCells R M)] w (Ret (.int .i64 (cellsN M)) w) := rcells2_any R M w hM

set_option maxRecDepth 100000 in
theorem rcoil_any (R : MachR) (M : MachD) (s : ByteArray) (w : World) (hM : IsM w R M) : Calls Tryz.prog 25 #[(.agg (machCells R M)), (.string s)] w (Ret (.int .i64 (coilE M s)) w) := by
  have hl := hM.coils.1
  have hk := hM.ka
  refine calls_ax (vs := [(.agg (machCells R M)), (.string s)]) Tryz.func25 rfl rfl ?_
  refine ac_seq ?_
  refine ac_region ?_
  refine al_new (fun b => .pointer (some ⟨b, 0, none⟩)) (r_box rfl rfl) rfl rfl rfl ?_
  intro b1
  refine al_q (q_assign rfl) rfl rfl rfl ?_
  refine al_end ?_
  refine aq_then ?_
  refine ac_seq ?_
  refine ac_seq ?_
  refine ac_region ?_
  refine al_q (q_assign rfl) rfl rfl rfl ?_
  refine al_end ?_
  refine aq_then ?_
  refine ac_block ?_
  refine ac_loop (β := Nat) (fun k => k ≤ R.la ∧ (checkC M = 0 → idxGo (fun x : CoilD => decide (x.name = s)) (M.coils.drop k) (k : Int) = coilE M s)) (fun k => [(1, (.string s)), (2, (.pointer (some ⟨b1, 0, none⟩))), (4, (.int .i64 0)), (5, (.int .i64 (k : Int)))]) (fun _ => _) (fun k => [(b1, _)]) (fun k => R.la - k) 0 ⟨by omega, fun hc => by simp [coilE, hc, idxL]⟩ ⟨rfl, rfl, rfl, rfl, trivial⟩ (fun w9 hs => hs) (fun k hF1 => ?_)
  obtain ⟨hk0, hk1⟩ := hF1
  refine ac_seq ?_
  refine ac_seq ?_
  refine ac_region ?_
  refine al_q (q_move rfl) rfl rfl rfl ?_
  refine al_q (q_fieldAddr 1 rfl Tryz.runUnderlying29 rfl Tryz.sizeOf22 (by decide) rfl) rfl rfl rfl ?_
  refine al_q (q_load (i := 0) rfl rfl rfl Tryz.isAgg22) rfl rfl rfl ?_
  refine al_q (q_lenS rfl Tryz.runUnderlying22) rfl rfl rfl ?_
  refine al_q (q_lss rfl rfl) rfl rfl rfl ?_
  refine al_q (q_move rfl) rfl rfl rfl ?_
  refine aq_split 11 rfl (fun hb1 => ?_) (fun hb1 => ?_)
  · have hkl : k < R.la := by have := of_decide_eq_true hb1; omega
    obtain ⟨b1, o1, hA1, hlt1, hget1⟩ := hM.coils.2 (by omega)
    obtain ⟨x, hx⟩ : ∃ x, M.coils[k]? = some x := ⟨_, List.getElem?_eq_getElem (by omega)⟩
    refine al_q (q_loadAll (i := 0) rfl rfl Tryz.isAgg29 Tryz.sizeOf29 rfl) rfl rfl rfl ?_
    refine al_call Tryz.call18 (.cons rfl .nil) rfl rfl (fun w1 hs1 => ?_)
    refine (rcheck_any R M _ (hM.below hs1.below)).mono ?_
    rintro e u1 ⟨rfl, hb_1⟩
    refine ⟨_, rfl, hb_1, ?_⟩
    clear hs1
    refine al_q (q_eql rfl rfl) rfl rfl rfl ?_
    refine al_q (q_pickT rfl rfl) rfl rfl rfl ?_
    refine al_end ?_
    refine aq_then ?_
    refine ac_cond rfl (fun h1 => ?_) (fun h1 => ?_)
    · have hc : checkC M = 0 := of_decide_eq_true h1
      refine ac_skip ?_
      refine aq_then ?_
      refine ac_seq ?_
      refine ac_block ?_
      refine ac_seq ?_
      refine ac_region ?_
      refine al_q (q_fieldAddr 1 rfl Tryz.runUnderlying29 rfl Tryz.sizeOf22 (by decide) rfl) rfl rfl rfl ?_
      refine al_q (q_load (i := 0) rfl rfl rfl Tryz.isAgg22) rfl rfl rfl ?_
      refine al_q (q_move rfl) rfl rfl rfl ?_
      refine al_q (q_indexAddrA (i := k) (o1 + k * 8 + 0) hA1 rfl rfl rfl (by omega) Tryz.runUnderlying22 Tryz.sizeOf75 rfl) rfl rfl rfl ?_
      refine al_q (q_fieldAddr (o1 + k * 8 + 0) rfl Tryz.runUnderlying75 rfl Tryz.sizeOf9 (by decide) rfl) rfl rfl rfl ?_
      refine al_q (q_loadX rfl Tryz.isAgg9 (fun w9 hs => (hs.below.cell (p := ⟨_, _, none⟩) hlt1).trans ((hget1 k x hx) 0 _ rfl))) rfl rfl rfl ?_
      refine al_q (q_move rfl) rfl rfl rfl ?_
      refine al_q (q_eqlT rfl rfl) rfl rfl rfl ?_
      refine al_end ?_
      refine aq_then ?_
      refine ac_cond rfl (fun h2 => ?_) (fun h2 => ?_)
      · have he : x.name = s := of_decide_eq_true h2
        refine ac_seq ?_
        refine ac_region ?_
        refine al_q (q_move rfl) rfl rfl rfl ?_
        refine al_q (q_assign rfl) rfl rfl rfl ?_
        refine al_end ?_
        refine aq_then ?_
        refine ac_ret ?_
        refine aq_inR ?_
        refine aq_thenR ?_
        refine aq_thenR ?_
        refine aq_inR ?_
        refine aq_thenR ?_
        refine ret1 Tryz.results25 rfl (fun w9 hs => ?_)
        refine ⟨?_, hs.below⟩; have h := hk1 hc; rw [idxGo_drop _ hx, if_pos (by simpa using he)] at h; rw [← h]
      · have hne : x.name ≠ s := of_decide_eq_false h2
        refine ac_skip ?_
        refine aq_inN ?_
        refine aq_then ?_
        refine ac_region ?_
        refine al_q (q_move rfl) rfl rfl rfl ?_
        refine al_q (q_add rfl rfl (by omega)) rfl rfl rfl ?_
        refine al_q (q_assign rfl) rfl rfl rfl ?_
        refine al_end ?_
        refine aq_then ?_
        skip
        refine aq_round (k + 1) (by omega) ⟨by omega, fun hc => by have h := hk1 hc; rw [idxGo_drop _ hx, if_neg (by simpa using hne)] at h; exact_mod_cast h⟩ ⟨rfl, rfl, rfl, rfl, trivial⟩ (fun w9 hs => (hs.fewer 1 rfl))
    · have hc : checkC M ≠ 0 := of_decide_eq_false h1
      refine ac_exit ?_
      refine aq_thenE ?_
      refine aq_thenE ?_
      refine aq_hit ?_
      refine aq_then ?_
      refine ac_seq ?_
      refine ac_region ?_
      refine al_q (q_assign rfl) rfl rfl rfl ?_
      refine al_end ?_
      refine aq_then ?_
      refine ac_ret ?_
      refine ret1 Tryz.results25 rfl (fun w9 hs => ?_)
      refine ⟨?_, hs.below⟩; simp [coilE, hc]
  · have hkl : ¬ k < R.la := by have := of_decide_eq_false hb1; omega
    refine al_skip rfl rfl rfl ?_
    refine al_skip rfl rfl rfl ?_
    refine al_skip rfl rfl rfl ?_
    refine al_q (q_pickF rfl rfl) rfl rfl rfl ?_
    refine al_end ?_
    refine aq_then ?_
    refine ac_condF rfl ?_
    refine ac_exit ?_
    refine aq_thenE ?_
    refine aq_thenE ?_
    refine aq_hit ?_
    refine aq_then ?_
    refine ac_seq ?_
    refine ac_region ?_
    refine al_q (q_assign rfl) rfl rfl rfl ?_
    refine al_end ?_
    refine aq_then ?_
    refine ac_ret ?_
    refine ret1 Tryz.results25 rfl (fun w9 hs => ?_)
    refine ⟨?_, hs.below⟩; by_cases hc : checkC M = 0
    · have h := hk1 hc; rw [List.drop_eq_nil_of_le (by omega)] at h; rw [← h]; rfl
    · simp [coilE, hc]

set_option maxRecDepth 100000 in
theorem rsensor_any (R : MachR) (M : MachD) (s : ByteArray) (w : World) (hM : IsM w R M) : Calls Tryz.prog 27 #[(.agg (machCells R M)), (.string s)] w (Ret (.int .i64 (sensorE M s)) w) := by
  have hl := hM.sensors.1
  have hk := hM.kd
  refine calls_ax (vs := [(.agg (machCells R M)), (.string s)]) Tryz.func27 rfl rfl ?_
  refine ac_seq ?_
  refine ac_region ?_
  refine al_new (fun b => .pointer (some ⟨b, 0, none⟩)) (r_box rfl rfl) rfl rfl rfl ?_
  intro b1
  refine al_q (q_assign rfl) rfl rfl rfl ?_
  refine al_end ?_
  refine aq_then ?_
  refine ac_seq ?_
  refine ac_seq ?_
  refine ac_region ?_
  refine al_q (q_assign rfl) rfl rfl rfl ?_
  refine al_end ?_
  refine aq_then ?_
  refine ac_block ?_
  refine ac_loop (β := Nat) (fun k => k ≤ R.ld ∧ (checkC M = 0 → idxGo (fun x : SensorD => decide (x.name = s)) (M.sensors.drop k) (k : Int) = sensorE M s)) (fun k => [(1, (.string s)), (2, (.pointer (some ⟨b1, 0, none⟩))), (4, (.int .i64 0)), (5, (.int .i64 (k : Int)))]) (fun _ => _) (fun k => [(b1, _)]) (fun k => R.ld - k) 0 ⟨by omega, fun hc => by simp [sensorE, hc, idxL]⟩ ⟨rfl, rfl, rfl, rfl, trivial⟩ (fun w9 hs => hs) (fun k hF1 => ?_)
  obtain ⟨hk0, hk1⟩ := hF1
  refine ac_seq ?_
  refine ac_seq ?_
  refine ac_region ?_
  refine al_q (q_move rfl) rfl rfl rfl ?_
  refine al_q (q_fieldAddr 9 rfl Tryz.runUnderlying29 rfl Tryz.sizeOf27 (by decide) rfl) rfl rfl rfl ?_
  refine al_q (q_load (i := 0) rfl rfl rfl Tryz.isAgg27) rfl rfl rfl ?_
  refine al_q (q_lenS rfl Tryz.runUnderlying27) rfl rfl rfl ?_
  refine al_q (q_lss rfl rfl) rfl rfl rfl ?_
  refine al_q (q_move rfl) rfl rfl rfl ?_
  refine aq_split 11 rfl (fun hb1 => ?_) (fun hb1 => ?_)
  · have hkl : k < R.ld := by have := of_decide_eq_true hb1; omega
    obtain ⟨b1, o1, hA1, hlt1, hget1⟩ := hM.sensors.2 (by omega)
    obtain ⟨x, hx⟩ : ∃ x, M.sensors[k]? = some x := ⟨_, List.getElem?_eq_getElem (by omega)⟩
    refine al_q (q_loadAll (i := 0) rfl rfl Tryz.isAgg29 Tryz.sizeOf29 rfl) rfl rfl rfl ?_
    refine al_call Tryz.call18 (.cons rfl .nil) rfl rfl (fun w1 hs1 => ?_)
    refine (rcheck_any R M _ (hM.below hs1.below)).mono ?_
    rintro e u1 ⟨rfl, hb_1⟩
    refine ⟨_, rfl, hb_1, ?_⟩
    clear hs1
    refine al_q (q_eql rfl rfl) rfl rfl rfl ?_
    refine al_q (q_pickT rfl rfl) rfl rfl rfl ?_
    refine al_end ?_
    refine aq_then ?_
    refine ac_cond rfl (fun h1 => ?_) (fun h1 => ?_)
    · have hc : checkC M = 0 := of_decide_eq_true h1
      refine ac_skip ?_
      refine aq_then ?_
      refine ac_seq ?_
      refine ac_block ?_
      refine ac_seq ?_
      refine ac_region ?_
      refine al_q (q_fieldAddr 9 rfl Tryz.runUnderlying29 rfl Tryz.sizeOf27 (by decide) rfl) rfl rfl rfl ?_
      refine al_q (q_load (i := 0) rfl rfl rfl Tryz.isAgg27) rfl rfl rfl ?_
      refine al_q (q_move rfl) rfl rfl rfl ?_
      refine al_q (q_indexAddrA (i := k) (o1 + k * 5 + 0) hA1 rfl rfl rfl (by omega) Tryz.runUnderlying27 Tryz.sizeOf85 rfl) rfl rfl rfl ?_
      refine al_q (q_fieldAddr (o1 + k * 5 + 0) rfl Tryz.runUnderlying85 rfl Tryz.sizeOf9 (by decide) rfl) rfl rfl rfl ?_
      refine al_q (q_loadX rfl Tryz.isAgg9 (fun w9 hs => (hs.below.cell (p := ⟨_, _, none⟩) hlt1).trans ((hget1 k x hx) 0 _ rfl))) rfl rfl rfl ?_
      refine al_q (q_move rfl) rfl rfl rfl ?_
      refine al_q (q_eqlT rfl rfl) rfl rfl rfl ?_
      refine al_end ?_
      refine aq_then ?_
      refine ac_cond rfl (fun h2 => ?_) (fun h2 => ?_)
      · have he : x.name = s := of_decide_eq_true h2
        refine ac_seq ?_
        refine ac_region ?_
        refine al_q (q_move rfl) rfl rfl rfl ?_
        refine al_q (q_assign rfl) rfl rfl rfl ?_
        refine al_end ?_
        refine aq_then ?_
        refine ac_ret ?_
        refine aq_inR ?_
        refine aq_thenR ?_
        refine aq_thenR ?_
        refine aq_inR ?_
        refine aq_thenR ?_
        refine ret1 Tryz.results27 rfl (fun w9 hs => ?_)
        refine ⟨?_, hs.below⟩; have h := hk1 hc; rw [idxGo_drop _ hx, if_pos (by simpa using he)] at h; rw [← h]
      · have hne : x.name ≠ s := of_decide_eq_false h2
        refine ac_skip ?_
        refine aq_inN ?_
        refine aq_then ?_
        refine ac_region ?_
        refine al_q (q_move rfl) rfl rfl rfl ?_
        refine al_q (q_add rfl rfl (by omega)) rfl rfl rfl ?_
        refine al_q (q_assign rfl) rfl rfl rfl ?_
        refine al_end ?_
        refine aq_then ?_
        skip
        refine aq_round (k + 1) (by omega) ⟨by omega, fun hc => by have h := hk1 hc; rw [idxGo_drop _ hx, if_neg (by simpa using hne)] at h; exact_mod_cast h⟩ ⟨rfl, rfl, rfl, rfl, trivial⟩ (fun w9 hs => (hs.fewer 1 rfl))
    · have hc : checkC M ≠ 0 := of_decide_eq_false h1
      refine ac_exit ?_
      refine aq_thenE ?_
      refine aq_thenE ?_
      refine aq_hit ?_
      refine aq_then ?_
      refine ac_seq ?_
      refine ac_region ?_
      refine al_q (q_assign rfl) rfl rfl rfl ?_
      refine al_end ?_
      refine aq_then ?_
      refine ac_ret ?_
      refine ret1 Tryz.results27 rfl (fun w9 hs => ?_)
      refine ⟨?_, hs.below⟩; simp [sensorE, hc]
  · have hkl : ¬ k < R.ld := by have := of_decide_eq_false hb1; omega
    refine al_skip rfl rfl rfl ?_
    refine al_skip rfl rfl rfl ?_
    refine al_skip rfl rfl rfl ?_
    refine al_q (q_pickF rfl rfl) rfl rfl rfl ?_
    refine al_end ?_
    refine aq_then ?_
    refine ac_condF rfl ?_
    refine ac_exit ?_
    refine aq_thenE ?_
    refine aq_thenE ?_
    refine aq_hit ?_
    refine aq_then ?_
    refine ac_seq ?_
    refine ac_region ?_
    refine al_q (q_assign rfl) rfl rfl rfl ?_
    refine al_end ?_
    refine aq_then ?_
    refine ac_ret ?_
    refine ret1 Tryz.results27 rfl (fun w9 hs => ?_)
    refine ⟨?_, hs.below⟩; by_cases hc : checkC M = 0
    · have h := hk1 hc; rw [List.drop_eq_nil_of_le (by omega)] at h; rw [← h]; rfl
    · simp [sensorE, hc]

set_option maxRecDepth 100000 in
theorem rnear_any (p0 p1 : Int) (w : World) : Calls Tryz.prog 85 #[(.agg #[.int .i64 p0, .int .i64 p1])] w (Ret (.bool (nearB p0 p1 100)) w) := by
  refine calls_ax (vs := [(.agg #[.int .i64 p0, .int .i64 p1])]) Tryz.func85 rfl rfl ?_
  refine ac_seq ?_
  refine ac_region ?_
  refine al_new (fun b => .pointer (some ⟨b, 0, none⟩)) (r_box rfl rfl) rfl rfl rfl ?_
  intro b1
  refine al_q (q_assign rfl) rfl rfl rfl ?_
  refine al_end ?_
  refine aq_then ?_
  refine ac_seq ?_
  refine ac_region ?_
  refine al_q (q_fieldAddr 0 rfl Tryz.runUnderlying40 rfl Tryz.sizeOf3 (by decide) rfl) rfl rfl rfl ?_
  refine al_q (q_load (i := 0) rfl rfl rfl Tryz.isAgg3) rfl rfl rfl ?_
  refine al_call Tryz.call70 (.cons rfl (.cons rfl (.cons rfl .nil))) rfl rfl (fun w1 hs1 => ?_)
  refine (rwithin2_any p0 (-100) 100 _).mono ?_
  rintro e u1 ⟨rfl, rfl⟩
  refine ⟨_, rfl, (Below.refl _ _), ?_⟩
  clear hs1
  refine al_q (q_move rfl) rfl rfl rfl ?_
  refine aq_split 6 rfl (fun hb1 => ?_) (fun hb1 => ?_)
  · refine al_q (q_fieldAddr 1 rfl Tryz.runUnderlying40 rfl Tryz.sizeOf3 (by decide) rfl) rfl rfl rfl ?_
    refine al_q (q_load (i := 0) rfl rfl rfl Tryz.isAgg3) rfl rfl rfl ?_
    refine al_call Tryz.call70 (.cons rfl (.cons rfl (.cons rfl .nil))) rfl rfl (fun w2 hs2 => ?_)
    refine (rwithin2_any p1 (-100) 100 _).mono ?_
    rintro e u2 ⟨rfl, rfl⟩
    refine ⟨_, rfl, (Below.refl _ _), ?_⟩
    clear hs2
    refine al_q (q_pickT rfl rfl) rfl rfl rfl ?_
    refine al_q (q_assign rfl) rfl rfl rfl ?_
    refine al_end ?_
    refine aq_then ?_
    refine ac_ret ?_
    refine ret1 Tryz.results85 rfl (fun w9 hs => ?_)
    refine ⟨?_, hs.below⟩; simp_all [nearB]
  · refine al_skip rfl rfl rfl ?_
    refine al_skip rfl rfl rfl ?_
    refine al_skip rfl rfl rfl ?_
    refine al_q (q_pickF rfl rfl) rfl rfl rfl ?_
    refine al_q (q_assign rfl) rfl rfl rfl ?_
    refine al_end ?_
    refine aq_then ?_
    refine ac_ret ?_
    refine ret1 Tryz.results85 rfl (fun w9 hs => ?_)
    refine ⟨?_, hs.below⟩; simp_all [nearB]

set_option maxRecDepth 100000 in
theorem rc3_eq_eql_apiPoint (a0 b0 : Int) (a1 b1 : Int) : ∀ w, (binOp .eql 40 (.agg #[.int .i64 a0, .int .i64 a1]) (.agg #[.int .i64 b0, .int .i64 b1])).run Tryz.prog w = .ok (.bool (decide (a0 = b0 ∧ a1 = b1))) w := by
  intro w
  have e : binOp .eql 40 (.agg #[.int .i64 a0, .int .i64 a1]) (.agg #[.int .i64 b0, .int .i64 b1]) = (do pure (.bool (← Op.equal 40 (.agg #[.int .i64 a0, .int .i64 a1]) (.agg #[.int .i64 b0, .int .i64 b1]))) : Sem Value) := rfl
  have h : ∀ w, (Op.equal 40 (.agg #[.int .i64 a0, .int .i64 a1]) (.agg #[.int .i64 b0, .int .i64 b1])).run Tryz.prog w = .ok (decide (a0 = b0 ∧ a1 = b1)) w := by
    intro w
    show (Op.equalIn 10000 40 _ _).run _ w = _
    rw [run_equalIn_struct w 9999 40 _ _ (by kernel_rfl) (by kernel_rfl)]
    simp [Program.fieldsOf, Tryz.underlying40, Op.eqFields, go_sem, Tryz.underlying3, Tryz.isAgg3, Tryz.sizeOf3, str_eq]
    by_cases h0 : a0 = b0 <;> by_cases h1 : a1 = b1 <;> simp [h0, h1]
  rw [e]; simp [h]

set_option maxRecDepth 100000 in
theorem rcellAt_any (R : MachR) (M : MachD) (p0 p1 : Int) (w : World) (hM : IsM w R M) : Calls Tryz.prog 29 #[(.agg (machCells R M)), (.agg #[.int .i64 p0, .int .i64 p1])] w (Ret (.int .i64 (cellAtE M p0 p1)) w) := by
  have hN : 0 ≤ cellsN M ∧ cellsN M ≤ 64 := by
    unfold cellsN; split
    · rename_i hc; have := cells_fine (sound_of hc).grid; omega
    · omega
  have hpos : 0 < cellsN M → checkC M = 0 ∧ M.grid.Fine := fun h => by
    unfold cellsN at h; split at h
    · rename_i hc; exact ⟨hc, (sound_of hc).grid⟩
    · omega
  refine calls_ax (vs := [(.agg (machCells R M)), (.agg #[.int .i64 p0, .int .i64 p1])]) Tryz.func29 rfl rfl ?_
  refine ac_seq ?_
  refine ac_region ?_
  refine al_new (fun b => .pointer (some ⟨b, 0, none⟩)) (r_box rfl rfl) rfl rfl rfl ?_
  intro b1
  refine al_new (fun b => .pointer (some ⟨b, 0, none⟩)) (r_box rfl rfl) rfl rfl rfl ?_
  intro b2
  refine al_q (q_assign rfl) rfl rfl rfl ?_
  refine al_end ?_
  refine aq_then ?_
  refine ac_seq ?_
  refine ac_region ?_
  refine al_q (q_loadAll (i := 1) rfl rfl Tryz.isAgg29 Tryz.sizeOf29 rfl) rfl rfl rfl ?_
  refine al_call Tryz.call23 (.cons rfl .nil) rfl rfl (fun w1 hs1 => ?_)
  refine (rcellsN_any R M _ (hM.below hs1.below)).mono ?_
  rintro e u1 ⟨rfl, hb_1⟩
  refine ⟨_, rfl, hb_1, ?_⟩
  clear hs1
  refine al_q (q_assign rfl) rfl rfl rfl ?_
  refine al_end ?_
  refine aq_then ?_
  refine ac_seq ?_
  refine ac_seq ?_
  refine ac_region ?_
  refine al_q (q_assign rfl) rfl rfl rfl ?_
  refine al_end ?_
  refine aq_then ?_
  refine ac_block ?_
  refine ac_loop (β := Nat) (fun k => (k : Int) ≤ cellsN M ∧ cellAtF M.grid p0 p1 k ((cellsN M).toNat - k) = cellAtE M p0 p1) (fun k => [(2, (.pointer (some ⟨b1, 0, none⟩))), (3, (.pointer (some ⟨b2, 0, none⟩))), (4, (.int .i64 0)), (5, (.int .i64 (cellsN M))), (6, (.int .i64 (k : Int)))]) (fun _ => _) (fun k => [(b2, _), (b1, _)]) (fun k => (cellsN M).toNat - k) 0 ⟨by omega, rfl⟩ ⟨rfl, rfl, rfl, rfl, rfl, trivial⟩ (fun w9 hs => hs) (fun k hF1 => ?_)
  obtain ⟨hk0, hk1⟩ := hF1
  refine ac_seq ?_
  refine ac_seq ?_
  refine ac_region ?_
  refine al_q (q_move rfl) rfl rfl rfl ?_
  refine al_q (q_move rfl) rfl rfl rfl ?_
  refine al_q (q_lss rfl rfl) rfl rfl rfl ?_
  refine al_end ?_
  refine aq_then ?_
  refine ac_cond rfl (fun h1 => ?_) (fun h1 => ?_)
  · have hlt : (k : Int) < cellsN M := by simpa using h1
    obtain ⟨hc, hg⟩ := hpos (by omega)
    rw [show (cellsN M).toNat - k = ((cellsN M).toNat - (k + 1)) + 1 by omega] at hk1
    simp only [cellAtF] at hk1
    refine ac_skip ?_
    refine aq_then ?_
    refine ac_seq ?_
    refine ac_block ?_
    refine ac_seq ?_
    refine ac_draw 4 (by kernel_rfl) (by kernel_rfl) ?_
    refine ah_take 0 (fun w9 hs => hs) rfl rfl rfl (by kernel_rfl) (by kernel_rfl) (by kernel_rfl) (fun _ _ _ h => h) rfl (q_loadAll (i := 1) rfl rfl Tryz.isAgg29 Tryz.sizeOf29 rfl) ?_
    refine ah_take 1 (fun w9 hs => hs) rfl rfl rfl (by kernel_rfl) (by kernel_rfl) (by kernel_rfl) (fun _ _ _ h => h) rfl (q_move rfl) ?_
    refine ah_take 3 (fun w9 hs => hs) rfl rfl rfl (by kernel_rfl) (by kernel_rfl) (by kernel_rfl) (fun _ _ _ h => h) rfl (q_loadAll (i := 0) rfl rfl Tryz.isAgg40 Tryz.sizeOf40 rfl) ?_
    refine ah_one 2 rfl (by kernel_rfl) (fun hok1 hcl1 => ?_)
    refine al_call Tryz.call77 (.cons rfl (.cons rfl .nil)) rfl rfl (fun w2 hs2 => ?_)
    refine (rat_any M.name R.A R.B R.C R.D R.la R.ca R.lb R.cb R.lc R.cc R.ld R.cd M.grid.r M.grid.z M.grid.nr M.grid.nz M.grid.step ((k : Int)) _ hg (by omega) (by omega)).mono ?_
    rintro e u2 ⟨rfl, hb_2⟩
    refine ⟨_, rfl, hb_2, ?_⟩
    clear hs2
    refine al_end (ah_back hok1 hcl1 (fun w9 hs => (hs.fewer 1 rfl)) ?_)
    refine ah_take 4 (fun w9 hs => (hs.fewer 1 rfl)) rfl rfl rfl (by kernel_rfl) (by kernel_rfl) (by kernel_rfl) (fun _ _ _ h => h) rfl (q_cmpS rfl rfl (by kernel_rfl) (rc3_eq_eql_apiPoint _ _ _ _)) ?_
    refine ah_done (by kernel_rfl) ?_
    refine aq_then ?_
    refine ac_cond rfl (fun h2 => ?_) (fun h2 => ?_)
    · have he : cellR M.grid k = p0 ∧ cellZ M.grid k = p1 := of_decide_eq_true h2
      rw [if_pos he] at hk1
      refine ac_seq ?_
      refine ac_region ?_
      refine al_q (q_move rfl) rfl rfl rfl ?_
      refine al_q (q_assign rfl) rfl rfl rfl ?_
      refine al_end ?_
      refine aq_then ?_
      refine ac_ret ?_
      refine aq_inR ?_
      refine aq_thenR ?_
      refine aq_thenR ?_
      refine aq_inR ?_
      refine aq_thenR ?_
      refine ret1 Tryz.results29 rfl (fun w9 hs => ?_)
      exact ⟨by rw [← hk1], hs.below⟩
    · have he : ¬ (cellR M.grid k = p0 ∧ cellZ M.grid k = p1) := of_decide_eq_false h2
      rw [if_neg he] at hk1
      have hnext : ((k + 1 : Nat) : Int) ≤ cellsN M ∧ cellAtF M.grid p0 p1 (k + 1) ((cellsN M).toNat - (k + 1)) = cellAtE M p0 p1 := ⟨by omega, hk1⟩
      refine ac_skip ?_
      refine aq_inN ?_
      refine aq_then ?_
      refine ac_region ?_
      refine al_q (q_move rfl) rfl rfl rfl ?_
      refine al_q (q_add rfl rfl (by omega)) rfl rfl rfl ?_
      refine al_q (q_assign rfl) rfl rfl rfl ?_
      refine al_end ?_
      refine aq_then ?_
      skip
      refine aq_round (k + 1) (by omega) hnext ⟨rfl, rfl, rfl, rfl, rfl, trivial⟩ (fun w9 hs => (hs.fewer 1 rfl))
  · have hge : ¬ (k : Int) < cellsN M := by simpa using h1
    rw [show (cellsN M).toNat - k = 0 by omega] at hk1
    simp only [cellAtF] at hk1
    refine ac_exit ?_
    refine aq_thenE ?_
    refine aq_thenE ?_
    refine aq_hit ?_
    refine aq_then ?_
    refine ac_seq ?_
    refine ac_region ?_
    refine al_q (q_assign rfl) rfl rfl rfl ?_
    refine al_end ?_
    refine aq_then ?_
    refine ac_ret ?_
    refine ret1 Tryz.results29 rfl (fun w9 hs => ?_)
    exact ⟨by rw [← hk1], hs.below⟩

set_option maxRecDepth 100000 in
theorem rFlux_any (R : MachR) (M : MachD) (Q : CurR) (C : CurD) (p0 p1 : Int) (w : World) (hM : IsM w R M) (hC : IsC w Q C) : Calls Tryz.prog 43 #[(.agg (machCells R M)), Q.v, (.agg #[.int .i64 p0, .int .i64 p1])] w (Ret (.tuple #[.int .i64 (fluxE M C p0 p1).1, .int .i64 (fluxE M C p0 p1).2]) w) := by
  refine calls_ax (vs := [(.agg (machCells R M)), Q.v, (.agg #[.int .i64 p0, .int .i64 p1])]) Tryz.func43 rfl rfl ?_
  refine ac_seq ?_
  refine ac_region ?_
  refine al_new (fun b => .pointer (some ⟨b, 0, none⟩)) (r_box rfl rfl) rfl rfl rfl ?_
  intro b1
  refine al_new (fun b => .pointer (some ⟨b, 0, none⟩)) (r_box rfl rfl) rfl rfl rfl ?_
  intro b2
  refine al_new (fun b => .pointer (some ⟨b, 0, none⟩)) (r_box rfl rfl) rfl rfl rfl ?_
  intro b3
  refine al_q (q_assign rfl) rfl rfl rfl ?_
  refine al_q (q_assign rfl) rfl rfl rfl ?_
  refine al_end ?_
  refine aq_then ?_
  refine ac_seq ?_
  refine ac_block ?_
  refine ac_seq ?_
  refine ac_region ?_
  refine al_q (q_loadAll (i := 2) rfl rfl Tryz.isAgg29 Tryz.sizeOf29 rfl) rfl rfl rfl ?_
  refine al_q (q_loadAll (i := 1) rfl rfl Tryz.isAgg34 Tryz.sizeOf34 rfl) rfl rfl rfl ?_
  refine al_call Tryz.call39 (.cons rfl (.cons rfl .nil)) rfl rfl (fun w1 hs1 => ?_)
  refine (rvalid2_any R M Q C _ (hM.below hs1.below) (hC.below hs1.below)).mono ?_
  rintro e u1 ⟨rfl, hb_1⟩
  refine ⟨_, rfl, hb_1, ?_⟩
  clear hs1
  refine al_q (q_not rfl) rfl rfl rfl ?_
  refine al_q (q_assign rfl) rfl rfl rfl ?_
  refine al_end ?_
  refine aq_then ?_
  refine ac_cond rfl (fun h1 => ?_) (fun h1 => ?_)
  · have hv : validC M C = false := by simpa using h1
    refine ac_seq ?_
    refine ac_region ?_
    refine al_q (q_assign rfl) rfl rfl rfl ?_
    refine al_q (q_assign rfl) rfl rfl rfl ?_
    refine al_end ?_
    refine aq_then ?_
    refine ac_ret ?_
    refine aq_inR ?_
    refine aq_thenR ?_
    refine ret2 Tryz.results43 rfl rfl (fun w9 hs => ?_)
    refine ⟨?_, hs.below⟩; simp_all [fluxE, fieldE]
  · have hv : validC M C = true := by simpa using h1
    have hf := fit2_iff.1 hv
    refine ac_seq ?_
    refine ac_region ?_
    refine al_q (q_loadAll (i := 0) rfl rfl Tryz.isAgg40 Tryz.sizeOf40 rfl) rfl rfl rfl ?_
    refine al_call Tryz.call85 (.cons rfl .nil) rfl rfl (fun w2 hs2 => ?_)
    refine (rnear_any p0 p1 _).mono ?_
    rintro e u2 ⟨rfl, hb_2⟩
    refine ⟨_, rfl, hb_2, ?_⟩
    clear hs2
    refine al_q (q_not rfl) rfl rfl rfl ?_
    refine al_q (q_assign rfl) rfl rfl rfl ?_
    refine al_end ?_
    refine aq_then ?_
    refine ac_cond rfl (fun h2 => ?_) (fun h2 => ?_)
    · have hn : nearB p0 p1 100 = false := by simpa using h2
      refine ac_seq ?_
      refine ac_region ?_
      refine al_q (q_assign rfl) rfl rfl rfl ?_
      refine al_q (q_assign rfl) rfl rfl rfl ?_
      refine al_end ?_
      refine aq_then ?_
      refine ac_ret ?_
      refine aq_inR ?_
      refine aq_thenR ?_
      refine ret2 Tryz.results43 rfl rfl (fun w9 hs => ?_)
      refine ⟨?_, hs.below⟩; simp_all [fluxE, fieldE]
    · have hn : nearB p0 p1 100 = true := by simpa using h2
      have hn2 := near_iff.1 hn
      refine ac_skip ?_
      refine aq_inN ?_
      refine aq_then ?_
      refine ac_seq ?_
      refine ac_region ?_
      refine al_q (q_loadAll (i := 2) rfl rfl Tryz.isAgg29 Tryz.sizeOf29 rfl) rfl rfl rfl ?_
      refine al_q (q_loadAll (i := 1) rfl rfl Tryz.isAgg34 Tryz.sizeOf34 rfl) rfl rfl rfl ?_
      refine al_q (q_fieldAddr 0 rfl Tryz.runUnderlying40 rfl Tryz.sizeOf3 (by decide) rfl) rfl rfl rfl ?_
      refine al_q (q_load (i := 0) rfl rfl rfl Tryz.isAgg3) rfl rfl rfl ?_
      refine al_q (q_fieldAddr 1 rfl Tryz.runUnderlying40 rfl Tryz.sizeOf3 (by decide) rfl) rfl rfl rfl ?_
      refine al_q (q_load (i := 0) rfl rfl rfl Tryz.isAgg3) rfl rfl rfl ?_
      refine al_call Tryz.call86 (.cons rfl (.cons rfl (.cons rfl (.cons rfl .nil)))) rfl rfl (fun w3 hs3 => ?_)
      refine (rflux_any R M Q C p0 p1 _ (hM.below hs3.below) (hC.below hs3.below) hf).mono ?_
      rintro e u3 ⟨rfl, hb_3⟩
      refine ⟨_, rfl, hb_3, ?_⟩
      clear hs3
      refine al_q (q_assign rfl) rfl rfl rfl ?_
      refine al_q (q_assign rfl) rfl rfl rfl ?_
      refine al_end ?_
      refine aq_then ?_
      refine ac_ret ?_
      refine ret2 Tryz.results43 rfl rfl (fun w9 hs => ?_)
      refine ⟨?_, hs.below⟩; simp_all [fluxE, fieldE]

set_option maxRecDepth 100000 in
theorem rField_any (R : MachR) (M : MachD) (Q : CurR) (C : CurD) (p0 p1 : Int) (w : World) (hM : IsM w R M) (hC : IsC w Q C) : Calls Tryz.prog 45 #[(.agg (machCells R M)), Q.v, (.agg #[.int .i64 p0, .int .i64 p1])] w (Ret (.tuple #[.int .i64 (fieldsE M C p0 p1).1, .int .i64 (fieldsE M C p0 p1).2.1, .int .i64 (fieldsE M C p0 p1).2.2]) w) := by
  refine calls_ax (vs := [(.agg (machCells R M)), Q.v, (.agg #[.int .i64 p0, .int .i64 p1])]) Tryz.func45 rfl rfl ?_
  refine ac_seq ?_
  refine ac_region ?_
  refine al_new (fun b => .pointer (some ⟨b, 0, none⟩)) (r_box rfl rfl) rfl rfl rfl ?_
  intro b1
  refine al_new (fun b => .pointer (some ⟨b, 0, none⟩)) (r_box rfl rfl) rfl rfl rfl ?_
  intro b2
  refine al_new (fun b => .pointer (some ⟨b, 0, none⟩)) (r_box rfl rfl) rfl rfl rfl ?_
  intro b3
  refine al_q (q_assign rfl) rfl rfl rfl ?_
  refine al_q (q_assign rfl) rfl rfl rfl ?_
  refine al_q (q_assign rfl) rfl rfl rfl ?_
  refine al_end ?_
  refine aq_then ?_
  refine ac_seq ?_
  refine ac_block ?_
  refine ac_seq ?_
  refine ac_region ?_
  refine al_q (q_loadAll (i := 2) rfl rfl Tryz.isAgg29 Tryz.sizeOf29 rfl) rfl rfl rfl ?_
  refine al_q (q_loadAll (i := 1) rfl rfl Tryz.isAgg34 Tryz.sizeOf34 rfl) rfl rfl rfl ?_
  refine al_call Tryz.call39 (.cons rfl (.cons rfl .nil)) rfl rfl (fun w1 hs1 => ?_)
  refine (rvalid2_any R M Q C _ (hM.below hs1.below) (hC.below hs1.below)).mono ?_
  rintro e u1 ⟨rfl, hb_1⟩
  refine ⟨_, rfl, hb_1, ?_⟩
  clear hs1
  refine al_q (q_not rfl) rfl rfl rfl ?_
  refine al_q (q_assign rfl) rfl rfl rfl ?_
  refine al_end ?_
  refine aq_then ?_
  refine ac_cond rfl (fun h1 => ?_) (fun h1 => ?_)
  · have hv : validC M C = false := by simpa using h1
    refine ac_seq ?_
    refine ac_region ?_
    refine al_q (q_assign rfl) rfl rfl rfl ?_
    refine al_q (q_assign rfl) rfl rfl rfl ?_
    refine al_q (q_assign rfl) rfl rfl rfl ?_
    refine al_end ?_
    refine aq_then ?_
    refine ac_ret ?_
    refine aq_inR ?_
    refine aq_thenR ?_
    refine retR Tryz.results45 (.tmp rfl (.tmp rfl (.tmp rfl .nil))) .two (fun w9 hs => ?_)
    refine ⟨?_, hs.below⟩; simp_all [fieldsE, fieldE]
  · have hv : validC M C = true := by simpa using h1
    have hf := fit2_iff.1 hv
    refine ac_seq ?_
    refine ac_region ?_
    refine al_q (q_loadAll (i := 0) rfl rfl Tryz.isAgg40 Tryz.sizeOf40 rfl) rfl rfl rfl ?_
    refine al_call Tryz.call85 (.cons rfl .nil) rfl rfl (fun w2 hs2 => ?_)
    refine (rnear_any p0 p1 _).mono ?_
    rintro e u2 ⟨rfl, hb_2⟩
    refine ⟨_, rfl, hb_2, ?_⟩
    clear hs2
    refine al_q (q_not rfl) rfl rfl rfl ?_
    refine al_q (q_assign rfl) rfl rfl rfl ?_
    refine al_end ?_
    refine aq_then ?_
    refine ac_cond rfl (fun h2 => ?_) (fun h2 => ?_)
    · have hn : nearB p0 p1 100 = false := by simpa using h2
      refine ac_seq ?_
      refine ac_region ?_
      refine al_q (q_assign rfl) rfl rfl rfl ?_
      refine al_q (q_assign rfl) rfl rfl rfl ?_
      refine al_q (q_assign rfl) rfl rfl rfl ?_
      refine al_end ?_
      refine aq_then ?_
      refine ac_ret ?_
      refine aq_inR ?_
      refine aq_thenR ?_
      refine retR Tryz.results45 (.tmp rfl (.tmp rfl (.tmp rfl .nil))) .two (fun w9 hs => ?_)
      refine ⟨?_, hs.below⟩; simp_all [fieldsE, fieldE]
    · have hn : nearB p0 p1 100 = true := by simpa using h2
      have hn2 := near_iff.1 hn
      refine ac_skip ?_
      refine aq_inN ?_
      refine aq_then ?_
      refine ac_seq ?_
      refine ac_region ?_
      refine al_q (q_loadAll (i := 2) rfl rfl Tryz.isAgg29 Tryz.sizeOf29 rfl) rfl rfl rfl ?_
      refine al_q (q_loadAll (i := 1) rfl rfl Tryz.isAgg34 Tryz.sizeOf34 rfl) rfl rfl rfl ?_
      refine al_q (q_fieldAddr 0 rfl Tryz.runUnderlying40 rfl Tryz.sizeOf3 (by decide) rfl) rfl rfl rfl ?_
      refine al_q (q_load (i := 0) rfl rfl rfl Tryz.isAgg3) rfl rfl rfl ?_
      refine al_q (q_fieldAddr 1 rfl Tryz.runUnderlying40 rfl Tryz.sizeOf3 (by decide) rfl) rfl rfl rfl ?_
      refine al_q (q_load (i := 0) rfl rfl rfl Tryz.isAgg3) rfl rfl rfl ?_
      refine al_call Tryz.call88 (.cons rfl (.cons rfl (.cons rfl (.cons rfl .nil)))) rfl rfl (fun w3 hs3 => ?_)
      refine (rfield_any R M Q C p0 p1 _ (hM.below hs3.below) (hC.below hs3.below) hf (by omega) (by omega) (by omega) (by omega)).mono ?_
      rintro e u3 ⟨rfl, hb_3⟩
      refine ⟨_, rfl, hb_3, ?_⟩
      clear hs3
      refine al_q (q_move rfl) rfl rfl rfl ?_
      refine al_q (q_extract rfl rfl) rfl rfl rfl ?_
      refine al_q (q_extract rfl rfl) rfl rfl rfl ?_
      refine al_q (q_assign rfl) rfl rfl rfl ?_
      refine al_q (q_assign rfl) rfl rfl rfl ?_
      refine al_end ?_
      refine aq_then ?_
      refine ac_seq ?_
      refine ac_region ?_
      refine al_q (q_move rfl) rfl rfl rfl ?_
      refine al_q (q_move rfl) rfl rfl rfl ?_
      refine al_q (q_assign rfl) rfl rfl rfl ?_
      refine al_q (q_assign rfl) rfl rfl rfl ?_
      refine al_q (q_assign rfl) rfl rfl rfl ?_
      refine al_end ?_
      refine aq_then ?_
      refine ac_ret ?_
      refine retR Tryz.results45 (.tmp rfl (.tmp rfl (.tmp rfl .nil))) .two (fun w9 hs => ?_)
      refine ⟨?_, hs.below⟩; simp_all [fieldsE, fieldE]

end Go.Proofs.YtjjajleiladbhaaGreatDoor
end
