import Derived.Test.YthggkidiidnaoaaGreatDoorKAA
import Derived.Test.YthggkidiidnaoaaGreatDoorKAC
import Derived.Test.YthggkidiidnaoaaGreatDoorKAJ
import Derived.Test.YthggkidiidnaoaaGreatDoorKAL
import Derived.Test.YthggkidiidnaoaaGreatDoorKAM
import Derived.Test.YthggkidiidnaoaaGreatDoorKAU
import Derived.Test.YthggkidiidnaoaaGreatDoorKAX
import Derived.Test.YthggkidiidnaoaaGreatDoorKAY
import Derived.Test.YthggkidiidnaoaaGreatDoorRows
import Derived.KernelRfl
import Derived.Laws.StructEq
import Derived.Lib.Hide
import Derived.Deep.RegionHeld3
import Derived.Deep.DeepCutAuto
import Derived.Deep.QuietTactic
import Derived.BigQuiet
import Derived.IntWalk
namespace Go.Proofs.YthggkidiidnaoaaGreatDoor
set_option linter.unusedVariables false
set_option linter.unusedSimpArgs false
section
open Go.RowKit Go.Shelf
set_option maxRecDepth 100000 in
set_option maxHeartbeats 8000000 in
theorem rvalid2_any (R : MachR) (M : MachD) (Qr : CurR) (Cd : CurD) (w : World) (hM : IsM w R M) (hC : IsC w Qr Cd) :
  Calls Tryz.prog 37 #[.agg (machCells R M), Qr.v] w (Ret (.bool (validC M Cd)) w) := by
 have ea := hM.coils.1
 have eb := hM.shells.1
 have n1 := hC.coils.1
 have n2 := hC.shells.1
 have n3 := hC.plasma.1
 have k1 := hC.ka
 have k2 := hC.kb
 have k3 := hC.kc
 have H0 := Lib.hid (fun V (hb : Below w.heap.size w V) => rcheck_any R M V (hM.below hb))
 have HP : Hid (checkC M = 0 → ∀ V, Below w.heap.size w V → Calls Tryz.prog 69 #[.agg (machCells R M), .slice Qr.C Qr.lc Qr.cc] V (Ret (.bool (plasB (M.grid.nr * M.grid.nz) Cd.plasma)) V)) := Lib.hid (fun h V hb => by
  have hf := cells_fine (sound_of h).grid
  exact rplasma_any M.name R.A R.B R.C R.D R.la R.ca R.lb R.cb R.lc R.cc R.ld R.cd M.grid.r M.grid.z M.grid.nr M.grid.nz M.grid.step Qr.C Qr.lc Qr.cc Cd.plasma V (hC.below hb).plasma k3 hf.1 hf.2)
 have I1 := Lib.hid hC.coils
 have I2 := Lib.hid hC.shells
 have HE : Hid (validC M Cd = (decide (checkC M = 0) && (decide (Qr.la = R.la) && (decide (Qr.lb = R.lb) && (plasB (M.grid.nr * M.grid.nz) Cd.plasma && (allW Cd.coils (-1000000) 1000000 && allW Cd.shells (-1000000) 1000000)))))) := Lib.hid (by
  unfold validC plasB
  rw [n1, n2, ea, eb]
  cases decide (checkC M = 0) <;> cases decide (Qr.la = R.la) <;> cases decide (Qr.lb = R.lb) <;> cases allW Cd.coils (-1000000) 1000000 <;> cases allW Cd.shells (-1000000) 1000000 <;> simp)
 clear hM hC
 generalize validC M Cd = G at *
 generalize hE0 : checkC M = E0 at *
 obtain ⟨A, B, Cl, D, la, ca, lb, cb, lc, cl, ld, cd⟩ := R
 obtain ⟨name, coils, shells, limits, ⟨r, z, nr, nz, step⟩, sensors⟩ := M
 obtain ⟨A1, B1, C1, na, qa, nb, qb, nc, qc⟩ := Qr
 obtain ⟨z1, z2, z3⟩ := Cd
 dsimp only [machCells, CurR.v] at *
 generalize plasB (nr * nz) z3 = P at *
 clear ea eb n3 k3 hE0
 show Calls Tryz.prog 37 #[.agg #[.string name, .slice A la ca, .slice B lb cb, .slice Cl lc cl, .int .i64 r, .int .i64 z, .int .i64 nr, .int .i64 nz, .int .i64 step, .slice D ld cd], .agg #[.slice A1 na qa, .slice B1 nb qb, .slice C1 nc qc]] w _
 go_enter Tryz.func37, Tryz.ntmps37
 go_upto_region 1 with (fail)
 have m0 : (((w.alloc (.cells #[.string name, .slice A la ca, .slice B lb cb, .slice Cl lc cl, .int .i64 r, .int .i64 z, .int .i64 nr, .int .i64 nz, .int .i64 step, .slice D ld cd] 29)).alloc (.cells #[.slice A1 na qa, .slice B1 nb qb, .slice C1 nc qc] 32))).cell? ⟨w.heap.size, 0, none⟩ = some (.string name) := by go_simp
 have m1 : (((w.alloc (.cells #[.string name, .slice A la ca, .slice B lb cb, .slice Cl lc cl, .int .i64 r, .int .i64 z, .int .i64 nr, .int .i64 nz, .int .i64 step, .slice D ld cd] 29)).alloc (.cells #[.slice A1 na qa, .slice B1 nb qb, .slice C1 nc qc] 32))).cell? ⟨w.heap.size, 1, none⟩ = some (.slice A la ca) := by go_simp
 have m2 : (((w.alloc (.cells #[.string name, .slice A la ca, .slice B lb cb, .slice Cl lc cl, .int .i64 r, .int .i64 z, .int .i64 nr, .int .i64 nz, .int .i64 step, .slice D ld cd] 29)).alloc (.cells #[.slice A1 na qa, .slice B1 nb qb, .slice C1 nc qc] 32))).cell? ⟨w.heap.size, 2, none⟩ = some (.slice B lb cb) := by go_simp
 have m3 : (((w.alloc (.cells #[.string name, .slice A la ca, .slice B lb cb, .slice Cl lc cl, .int .i64 r, .int .i64 z, .int .i64 nr, .int .i64 nz, .int .i64 step, .slice D ld cd] 29)).alloc (.cells #[.slice A1 na qa, .slice B1 nb qb, .slice C1 nc qc] 32))).cell? ⟨w.heap.size, 3, none⟩ = some (.slice Cl lc cl) := by go_simp
 have m4 : (((w.alloc (.cells #[.string name, .slice A la ca, .slice B lb cb, .slice Cl lc cl, .int .i64 r, .int .i64 z, .int .i64 nr, .int .i64 nz, .int .i64 step, .slice D ld cd] 29)).alloc (.cells #[.slice A1 na qa, .slice B1 nb qb, .slice C1 nc qc] 32))).cell? ⟨w.heap.size, 4, none⟩ = some (.int .i64 r) := by go_simp
 have m5 : (((w.alloc (.cells #[.string name, .slice A la ca, .slice B lb cb, .slice Cl lc cl, .int .i64 r, .int .i64 z, .int .i64 nr, .int .i64 nz, .int .i64 step, .slice D ld cd] 29)).alloc (.cells #[.slice A1 na qa, .slice B1 nb qb, .slice C1 nc qc] 32))).cell? ⟨w.heap.size, 5, none⟩ = some (.int .i64 z) := by go_simp
 have m6 : (((w.alloc (.cells #[.string name, .slice A la ca, .slice B lb cb, .slice Cl lc cl, .int .i64 r, .int .i64 z, .int .i64 nr, .int .i64 nz, .int .i64 step, .slice D ld cd] 29)).alloc (.cells #[.slice A1 na qa, .slice B1 nb qb, .slice C1 nc qc] 32))).cell? ⟨w.heap.size, 6, none⟩ = some (.int .i64 nr) := by go_simp
 have m7 : (((w.alloc (.cells #[.string name, .slice A la ca, .slice B lb cb, .slice Cl lc cl, .int .i64 r, .int .i64 z, .int .i64 nr, .int .i64 nz, .int .i64 step, .slice D ld cd] 29)).alloc (.cells #[.slice A1 na qa, .slice B1 nb qb, .slice C1 nc qc] 32))).cell? ⟨w.heap.size, 7, none⟩ = some (.int .i64 nz) := by go_simp
 have m8 : (((w.alloc (.cells #[.string name, .slice A la ca, .slice B lb cb, .slice Cl lc cl, .int .i64 r, .int .i64 z, .int .i64 nr, .int .i64 nz, .int .i64 step, .slice D ld cd] 29)).alloc (.cells #[.slice A1 na qa, .slice B1 nb qb, .slice C1 nc qc] 32))).cell? ⟨w.heap.size, 8, none⟩ = some (.int .i64 step) := by go_simp
 have m9 : (((w.alloc (.cells #[.string name, .slice A la ca, .slice B lb cb, .slice Cl lc cl, .int .i64 r, .int .i64 z, .int .i64 nr, .int .i64 nz, .int .i64 step, .slice D ld cd] 29)).alloc (.cells #[.slice A1 na qa, .slice B1 nb qb, .slice C1 nc qc] 32))).cell? ⟨w.heap.size, 9, none⟩ = some (.slice D ld cd) := by go_simp
 have q0 : (((w.alloc (.cells #[.string name, .slice A la ca, .slice B lb cb, .slice Cl lc cl, .int .i64 r, .int .i64 z, .int .i64 nr, .int .i64 nz, .int .i64 step, .slice D ld cd] 29)).alloc (.cells #[.slice A1 na qa, .slice B1 nb qb, .slice C1 nc qc] 32))).cell? ⟨w.heap.size + 1, 0, none⟩ = some (.slice A1 na qa) := by go_simp
 have q1 : (((w.alloc (.cells #[.string name, .slice A la ca, .slice B lb cb, .slice Cl lc cl, .int .i64 r, .int .i64 z, .int .i64 nr, .int .i64 nz, .int .i64 step, .slice D ld cd] 29)).alloc (.cells #[.slice A1 na qa, .slice B1 nb qb, .slice C1 nc qc] 32))).cell? ⟨w.heap.size + 1, 1, none⟩ = some (.slice B1 nb qb) := by go_simp
 have q2 : (((w.alloc (.cells #[.string name, .slice A la ca, .slice B lb cb, .slice Cl lc cl, .int .i64 r, .int .i64 z, .int .i64 nr, .int .i64 nz, .int .i64 step, .slice D ld cd] 29)).alloc (.cells #[.slice A1 na qa, .slice B1 nb qb, .slice C1 nc qc] 32))).cell? ⟨w.heap.size + 1, 2, none⟩ = some (.slice C1 nc qc) := by go_simp
 have hB0 : Below w.heap.size w (((w.alloc (.cells #[.string name, .slice A la ca, .slice B lb cb, .slice Cl lc cl, .int .i64 r, .int .i64 z, .int .i64 nr, .int .i64 nz, .int .i64 step, .slice D ld cd] 29)).alloc (.cells #[.slice A1 na qa, .slice B1 nb qb, .slice C1 nc qc] 32))) := by (repeat first | with_reducible exact Below.refl _ _ | (with_reducible refine Below.alloc ?_ ?_ _; rotate_left; exact (by first | omega | (simp; done))))
 have hz : w.heap.size + 1 < (((w.alloc (.cells #[.string name, .slice A la ca, .slice B lb cb, .slice Cl lc cl, .int .i64 r, .int .i64 z, .int .i64 nr, .int .i64 nz, .int .i64 step, .slice D ld cd] 29)).alloc (.cells #[.slice A1 na qa, .slice B1 nb qb, .slice C1 nc qc] 32))).heap.size := by simp
 obtain ⟨W0, hW0⟩ : ∃ W, ((w.alloc (.cells #[.string name, .slice A la ca, .slice B lb cb, .slice Cl lc cl, .int .i64 r, .int .i64 z, .int .i64 nr, .int .i64 nz, .int .i64 step, .slice D ld cd] 29)).alloc (.cells #[.slice A1 na qa, .slice B1 nb qb, .slice C1 nc qc] 32)) = W := ⟨_, rfl⟩
 rw [hW0] at m0 m1 m2 m3 m4 m5 m6 m7 m8 m9 q0 q1 q2 hB0 hz ⊢
 clear hW0
 have FM := Lib.hid (BoxL.mk10 (W := W0) (by omega) m0 m1 m2 m3 m4 m5 m6 m7 m8 m9)
 have FC := Lib.hid (BoxL.mk3 (W := W0) hz q0 q1 q2)
 clear m0 m1 m2 m3 m4 m5 m6 m7 m8 m9 q0 q1 q2
 have HB : Hid (∀ w' : World, Below W0.heap.size W0 w' → Below w.heap.size w w') := Lib.hid (fun w' h => hB0.trans (h.mono (by omega)))
 have m0 := (FM.out.below (Below.refl _ _)).at 0 (.string name) rfl
 have m1 := (FM.out.below (Below.refl _ _)).at 1 (.slice A la ca) rfl
 have m2 := (FM.out.below (Below.refl _ _)).at 2 (.slice B lb cb) rfl
 have m3 := (FM.out.below (Below.refl _ _)).at 3 (.slice Cl lc cl) rfl
 have m4 := (FM.out.below (Below.refl _ _)).at 4 (.int .i64 r) rfl
 have m5 := (FM.out.below (Below.refl _ _)).at 5 (.int .i64 z) rfl
 have m6 := (FM.out.below (Below.refl _ _)).at 6 (.int .i64 nr) rfl
 have m7 := (FM.out.below (Below.refl _ _)).at 7 (.int .i64 nz) rfl
 have m8 := (FM.out.below (Below.refl _ _)).at 8 (.int .i64 step) rfl
 have m9 := (FM.out.below (Below.refl _ _)).at 9 (.slice D ld cd) rfl
 have q0 := (FC.out.below (Below.refl _ _)).at 0 (.slice A1 na qa) rfl
 have q1 := (FC.out.below (Below.refl _ _)).at 1 (.slice B1 nb qb) rfl
 have q2 := (FC.out.below (Below.refl _ _)).at 2 (.slice C1 nc qc) rfl
 go_wp2_with fail
 refine (H0.out _ (HB.out _ (by (repeat with_reducible exact Below.refl _ _)))).mono ?_
 rintro e w1 ⟨rfl, hb⟩
 have hB1 : Below W0.heap.size W0 w1 := Below.trans (by (repeat with_reducible exact Below.refl _ _)) (hb.mono (by (try simp only [World.size_alloc, size_drew]); omega))
 clear hb m0 m1 m2 m3 m4 m5 m6 m7 m8 m9 q0 q1 q2
 have sz1 := hB1.size
 have m0 := (FM.out.below hB1).at 0 (.string name) rfl
 have m1 := (FM.out.below hB1).at 1 (.slice A la ca) rfl
 have m2 := (FM.out.below hB1).at 2 (.slice B lb cb) rfl
 have m3 := (FM.out.below hB1).at 3 (.slice Cl lc cl) rfl
 have m4 := (FM.out.below hB1).at 4 (.int .i64 r) rfl
 have m5 := (FM.out.below hB1).at 5 (.int .i64 z) rfl
 have m6 := (FM.out.below hB1).at 6 (.int .i64 nr) rfl
 have m7 := (FM.out.below hB1).at 7 (.int .i64 nz) rfl
 have m8 := (FM.out.below hB1).at 8 (.int .i64 step) rfl
 have m9 := (FM.out.below hB1).at 9 (.slice D ld cd) rfl
 have q0 := (FC.out.below hB1).at 0 (.slice A1 na qa) rfl
 have q1 := (FC.out.below hB1).at 1 (.slice B1 nb qb) rfl
 have q2 := (FC.out.below hB1).at 2 (.slice C1 nc qc) rfl
 by_cases b0 : E0 = 0
 ·have e0 : (E0 == 0) = true := by rw [b0]; rfl
  by_cases b1 : na = la
  ·have e1 := (int_eq na la).trans (decide_eq_true b1)
   by_cases b2 : nb = lb
   ·have e2 := (int_eq nb lb).trans (decide_eq_true b2)
    have HP2 := Lib.hid (HP.out b0)
    cases P
    ·have HF : Hid (false = G) := Lib.hid (by rw [HE.out]; simp)
     go_wp2_with fail
     refine (HP2.out _ (HB.out _ (by (repeat with_reducible assumption)))).mono ?_
     rintro e w2 ⟨rfl, hb2⟩
     have hB2 : Below W0.heap.size W0 w2 := Below.trans (by (repeat with_reducible assumption)) (hb2.mono (by (try simp only [World.size_alloc, size_drew]); omega))
     go_wp2_with fail
     go_ret
     exact ⟨by rw [← HF.out]; rfl, HB.out _ (by (repeat with_reducible assumption))⟩
    ·have HG : Hid ((allW (z1.drop 0) (-1000000) 1000000 && allW z2 (-1000000) 1000000) = G) := Lib.hid (by rw [HE.out, decide_eq_true b0, decide_eq_true b1, decide_eq_true b2]; simp)
     go_wp2_with fail
     refine (HP2.out _ (HB.out _ (by (repeat with_reducible assumption)))).mono ?_
     rintro e w2 ⟨rfl, hb2⟩
     have hB2 : Below W0.heap.size W0 w2 := Below.trans (by (repeat with_reducible assumption)) (hb2.mono (by (try simp only [World.size_alloc, size_drew]); omega))
     clear hb2 m0 m1 m2 m3 m4 m5 m6 m7 m8 m9 q0 q1 q2
     go_wp2_with fail
     go_loopw [5] (fun i wr => ∃ (j : Nat), j ≤ na ∧ i = .int .i64 j ∧ Hid ((allW (z1.drop j) (-1000000) 1000000 && allW z2 (-1000000) 1000000) = G) ∧ Below W0.heap.size W0 wr) (fun i _ => na - (intOf i).toNat)
     case atStart => exact ⟨0, Nat.zero_le _, rfl, HG, by (repeat with_reducible assumption)⟩
     case round =>
      obtain ⟨j, hj, rfl, hG, hBx⟩ := hrel
      have szx := hBx.size
      have m0 := (FM.out.below hBx).at 0 (.string name) rfl
      have m1 := (FM.out.below hBx).at 1 (.slice A la ca) rfl
      have m2 := (FM.out.below hBx).at 2 (.slice B lb cb) rfl
      have m3 := (FM.out.below hBx).at 3 (.slice Cl lc cl) rfl
      have m4 := (FM.out.below hBx).at 4 (.int .i64 r) rfl
      have m5 := (FM.out.below hBx).at 5 (.int .i64 z) rfl
      have m6 := (FM.out.below hBx).at 6 (.int .i64 nr) rfl
      have m7 := (FM.out.below hBx).at 7 (.int .i64 nz) rfl
      have m8 := (FM.out.below hBx).at 8 (.int .i64 step) rfl
      have m9 := (FM.out.below hBx).at 9 (.slice D ld cd) rfl
      have q0 := (FC.out.below hBx).at 0 (.slice A1 na qa) rfl
      have q1 := (FC.out.below hBx).at 1 (.slice B1 nb qb) rfl
      have q2 := (FC.out.below hBx).at 2 (.slice C1 nc qc) rfl
      by_cases hlt : j < na
      ·obtain ⟨hzl, hcl⟩ := (I1.out.below (HB.out _ hBx))
       obtain ⟨b, o, rfl, hb0, hcl⟩ := hcl (by omega)
       obtain ⟨x, hx⟩ : ∃ x, z1[j]? = some x := ⟨_, List.getElem?_eq_getElem (by omega)⟩
       have x0 : wr.cell? ⟨b, o + j, none⟩ = some (.int .i64 x) := by have h := hcl j x hx 0 _ rfl; simpa using h
       have HS : Hid (((wthn x (-1000000) 1000000 && allW (z1.drop (j + 1)) (-1000000) 1000000) && allW z2 (-1000000) 1000000) = G) := Lib.hid (by
        have h := hG.out
        rw [allW_drop hx] at h
        exact h)
       clear hcl hx hzl hG
       have jc : (0 : Int) ≤ j := by omega
       have jn : ((j : Int)).toNat = j := by omega
       cases hv : wthn x (-1000000) 1000000
       ·have HF : Hid (false = G) := Lib.hid (by rw [← HS.out, hv]; rfl)
        clear HS
        go_wp2_with (go_at_call 70; refine (rwithin2_any _ _ _ _).mono ?_; rintro e w7 ⟨rfl, rfl⟩)
        go_ret
        exact ⟨by rw [← HF.out]; first | rfl | (rw [hv]), HB.out _ (by (repeat with_reducible assumption))⟩
       ·have HN : Hid ((allW (z1.drop (j + 1)) (-1000000) 1000000 && allW z2 (-1000000) 1000000) = G) := Lib.hid (by rw [← HS.out, hv]; rfl)
        clear HS
        go_wp2_with (go_at_call 70; refine (rwithin2_any _ _ _ _).mono ?_; rintro e w7 ⟨rfl, rfl⟩)
        go_roundw
        case rel => exact ⟨j + 1, by omega, by go_num, HN, by (repeat with_reducible assumption)⟩
        case measure => simp [intOf]; omega
      ·have HG2 : Hid (allW (z2.drop 0) (-1000000) 1000000 = G) := Lib.hid (by
        have h := hG.out
        rw [List.drop_of_length_le (by omega)] at h
        exact h)
       clear hG
       have hlt2 : ¬ j < la := by omega
       go_wp2_with fail
       go_loopw [6] (fun i wr => ∃ (j : Nat), j ≤ nb ∧ i = .int .i64 j ∧ Hid (allW (z2.drop j) (-1000000) 1000000 = G) ∧ Below W0.heap.size W0 wr) (fun i _ => nb - (intOf i).toNat)
       case atStart => exact ⟨0, Nat.zero_le _, rfl, HG2, by (repeat with_reducible assumption)⟩
       case round =>
        clear m0 m1 m2 m3 m4 m5 m6 m7 m8 m9 q0 q1 q2
        obtain ⟨j, hj, rfl, hG, hBx⟩ := hrel
        have szx := hBx.size
        have m0 := (FM.out.below hBx).at 0 (.string name) rfl
        have m1 := (FM.out.below hBx).at 1 (.slice A la ca) rfl
        have m2 := (FM.out.below hBx).at 2 (.slice B lb cb) rfl
        have m3 := (FM.out.below hBx).at 3 (.slice Cl lc cl) rfl
        have m4 := (FM.out.below hBx).at 4 (.int .i64 r) rfl
        have m5 := (FM.out.below hBx).at 5 (.int .i64 z) rfl
        have m6 := (FM.out.below hBx).at 6 (.int .i64 nr) rfl
        have m7 := (FM.out.below hBx).at 7 (.int .i64 nz) rfl
        have m8 := (FM.out.below hBx).at 8 (.int .i64 step) rfl
        have m9 := (FM.out.below hBx).at 9 (.slice D ld cd) rfl
        have q0 := (FC.out.below hBx).at 0 (.slice A1 na qa) rfl
        have q1 := (FC.out.below hBx).at 1 (.slice B1 nb qb) rfl
        have q2 := (FC.out.below hBx).at 2 (.slice C1 nc qc) rfl
        by_cases hlt : j < nb
        ·obtain ⟨hzl, hcl⟩ := (I2.out.below (HB.out _ hBx))
         obtain ⟨b, o, rfl, hb0, hcl⟩ := hcl (by omega)
         obtain ⟨x, hx⟩ : ∃ x, z2[j]? = some x := ⟨_, List.getElem?_eq_getElem (by omega)⟩
         have x0 : wr.cell? ⟨b, o + j, none⟩ = some (.int .i64 x) := by have h := hcl j x hx 0 _ rfl; simpa using h
         have HS : Hid ((wthn x (-1000000) 1000000 && allW (z2.drop (j + 1)) (-1000000) 1000000) = G) := Lib.hid (by
          have h := hG.out
          rw [allW_drop hx] at h
          exact h)
         clear hcl hx hzl hG
         have jc : (0 : Int) ≤ j := by omega
         have jn : ((j : Int)).toNat = j := by omega
         cases hv : wthn x (-1000000) 1000000
         ·have HF : Hid (false = G) := Lib.hid (by rw [← HS.out, hv]; rfl)
          clear HS
          go_wp2_with (go_at_call 70; refine (rwithin2_any _ _ _ _).mono ?_; rintro e w7 ⟨rfl, rfl⟩)
          go_ret
          exact ⟨by rw [← HF.out]; first | rfl | (rw [hv]), HB.out _ (by (repeat with_reducible assumption))⟩
         ·have HN : Hid (allW (z2.drop (j + 1)) (-1000000) 1000000 = G) := Lib.hid (by rw [← HS.out, hv]; rfl)
          clear HS
          go_wp2_with (go_at_call 70; refine (rwithin2_any _ _ _ _).mono ?_; rintro e w7 ⟨rfl, rfl⟩)
          go_roundw
          case rel => exact ⟨j + 1, by omega, by go_num, HN, by (repeat with_reducible assumption)⟩
          case measure => simp [intOf]; omega
        ·have HF : Hid (true = G) := Lib.hid (by
          have h := hG.out
          rw [List.drop_of_length_le (by omega)] at h
          exact h)
         clear hG
         go_wp2_with fail
         go_ret
         exact ⟨by rw [← HF.out]; rfl, HB.out _ (by (repeat with_reducible assumption))⟩
   ·have e2 := (int_eq nb lb).trans (decide_eq_false b2)
    have HF : Hid (false = G) := Lib.hid (by rw [HE.out, decide_eq_false b2]; simp)
    go_wp2_with fail
    go_ret
    exact ⟨by rw [← HF.out]; rfl, HB.out _ (by (repeat with_reducible assumption))⟩
  ·have e1 := (int_eq na la).trans (decide_eq_false b1)
   have HF : Hid (false = G) := Lib.hid (by rw [HE.out, decide_eq_false b1]; simp)
   go_wp2_with fail
   go_ret
   exact ⟨by rw [← HF.out]; rfl, HB.out _ (by (repeat with_reducible assumption))⟩
 ·have e0 : (E0 == 0) = false := by rw [beq_eq_false_iff_ne]; exact b0
  have HF : Hid (false = G) := Lib.hid (by rw [HE.out, decide_eq_false b0]; rfl)
  go_wp2_with fail
  go_ret
  exact ⟨by rw [← HF.out]; rfl, HB.out _ (by (repeat with_reducible assumption))⟩
end
section
open Go.RowKit
theorem rcellsN_any (R : MachR) (M : MachD) (w : World) (hM : IsM w R M) : Calls Tryz.prog 26 #[.agg (machCells R M)] w (Ret (.int .i64 (cellsN M)) w) := rcells2_any R M w hM
end
section
open Go.RowKit
theorem cel_bl_apiPoint_ : ∀ w, (Instr.build 76 #[]).run Tryz.prog w = .ok (.agg #[(.int .i64 0), (.int .i64 0)]) w := by
 intro w; simp [Instr.build, Instr.fill, cells_agg, Tryz.runUnderlying76, Tryz.zeroValue76, Tryz.sizeOf3]
set_option maxRecDepth 100000 in
theorem mcell9_any (R : MachR) (M : MachD) (i : Int) (w : World) (hM : IsM w R M) : Calls Tryz.prog 63 #[(.agg (machCells R M)), (.int .i64 i)] w (Ret (.tuple #[.agg #[.int .i64 (cellL M i).1, .int .i64 (cellL M i).2.1], .int .i64 (cellL M i).2.2]) w) := by
 refine calls_ax (vs := [(.agg (machCells R M)), (.int .i64 i)]) Tryz.func63 rfl rfl ?_
 refine ac_seq (ac_region ?_)
 refine al_new (fun b => .pointer (some ⟨b, 0, none⟩)) (r_box rfl rfl) rfl rfl rfl ?_
 intro b1
 refine al_new (fun b => .pointer (some ⟨b, 0, none⟩)) (r_alloc Tryz.zeroValue76 rfl) rfl rfl rfl ?_
 intro b2
 refine al_p (q_assign rfl) (al_end (aq_then ?_))
 refine ac_seq (ac_seq (ac_region ?_))
 refine al_p (q_loadAll (i := 1) rfl rfl Tryz.isAgg29 Tryz.sizeOf29 rfl) (al_call Tryz.call71 (.cons rfl .nil) rfl rfl (fun w1 hs1 => ?_))
 refine (check_any R M _ (hM.below hs1.below)).mono ?_
 rintro e u1 ⟨rfl, hb_1⟩
 refine ⟨_, rfl, hb_1, ?_⟩
 clear hs1
 refine al_p (q_neq rfl rfl) (al_end (aq_then ?_))
 refine ac_cond rfl (fun h1 => ?_) (fun h1 => ?_)
 ·have hc : checkC M ≠ 0 := by simpa using h1
  refine ac_seq (ac_region ?_)
  refine al_p (q_build .nil (cel_bl_apiPoint_)) (al_storeAll (i := 0) rfl rfl rfl rfl Tryz.sizeOf76 rfl rfl .k0 rfl (al_p (q_assign rfl) (al_end (aq_then ?_))))
  refine ac_ret (aq_thenR (retR Tryz.results63 (.agg (i := 0) rfl rfl Tryz.isAgg76 Tryz.sizeOf76 rfl (.tmp rfl .nil)) .two (fun w9 hs => ?_)))
  unfold cellL; rw [if_neg hc]; exact ⟨rfl, hs.below⟩
 ·have hc : checkC M = 0 := by simpa using h1
  have hf := check_fine hc
  have hfc := fine_cells hf
  refine ac_skip (aq_then (ac_seq (ac_seq (ac_region ?_))))
  refine al_p (q_move rfl) ?_
  refine al_p (q_fieldAddr 4 rfl Tryz.runUnderlying29 rfl Tryz.sizeOf26 (by decide) rfl) (al_p (q_loadSub (i := 1) rfl rfl Tryz.isAgg26 Tryz.sizeOf26 .k4 .k5) (al_call Tryz.call73 (.cons rfl .nil) rfl rfl (fun w2 hs2 => ?_)))
  refine (cells_any M.grid _ (by omega) (by omega)).mono ?_
  rintro e u2 ⟨rfl, hb_2⟩
  refine ⟨_, rfl, hb_2, ?_⟩
  clear hs2
  refine al_p (q_sub rfl rfl (by omega)) (al_call Tryz.call78 (.cons rfl (.cons rfl (.cons rfl .nil))) rfl rfl (fun w3 hs3 => ?_))
  refine (mwithin_any i 0 (M.grid.nr * M.grid.nz - 1) _).mono ?_
  rintro e u3 ⟨rfl, rfl⟩
  refine ⟨_, rfl, (Below.refl _ _), ?_⟩
  clear hs3
  refine al_p (q_not rfl) (al_end (aq_then ?_))
  refine ac_cond rfl (fun h2 => ?_) (fun h2 => ?_)
  ·have hi : wthn i 0 (M.grid.nr * M.grid.nz - 1) = false := by simpa using h2
   refine ac_seq (ac_region ?_)
   refine al_p (q_build .nil (cel_bl_apiPoint_)) (al_storeAll (i := 0) rfl rfl rfl rfl Tryz.sizeOf76 rfl rfl .k0 rfl (al_p (q_assign rfl) (al_end (aq_then ?_))))
   refine ac_ret (aq_thenR (retR Tryz.results63 (.agg (i := 0) rfl rfl Tryz.isAgg76 Tryz.sizeOf76 rfl (.tmp rfl .nil)) .two (fun w9 hs => ?_)))
   unfold cellL; rw [if_pos hc, if_neg (by rw [hi]; decide)]; exact ⟨rfl, hs.below⟩
  ·have hi : wthn i 0 (M.grid.nr * M.grid.nz - 1) = true := by simpa using h2
   have hi2 := wthn_iff.1 hi
   refine ac_skip (aq_then (ac_seq (ac_region ?_)))
   refine al_p (q_fieldAddr 4 rfl Tryz.runUnderlying29 rfl Tryz.sizeOf26 (by decide) rfl) (al_p (q_loadSub (i := 1) rfl rfl Tryz.isAgg26 Tryz.sizeOf26 .k4 .k5) (al_p (q_move rfl) (al_call Tryz.call107 (.cons rfl (.cons rfl .nil)) rfl rfl (fun w4 hs4 => ?_))))
   refine (cellPlace_any M.grid i _ hf (by omega) (by omega)).mono ?_
   rintro e u4 ⟨rfl, hb_4⟩
   refine ⟨_, rfl, hb_4, ?_⟩
   clear hs4
   refine al_storeAll (i := 0) rfl rfl rfl rfl Tryz.sizeOf76 rfl rfl .k0 rfl (al_p (q_assign rfl) (al_end (aq_then ?_)))
   refine ac_ret (retR Tryz.results63 (.agg (i := 0) rfl rfl Tryz.isAgg76 Tryz.sizeOf76 rfl (.tmp rfl .nil)) .two (fun w9 hs => ?_))
   unfold cellL; rw [if_pos hc, if_pos hi]; exact ⟨rfl, hs.below⟩
end
section
open Go.RowKit Go.Shelf
def respL (M : MachD) (s cell : Int) : Int × Int :=
 if (cellL M cell).2.2 = 0 then if wthn s 0 ((M.sensors.length : Int) - 1) = true then match M.sensors[s.toNat]? with
  | some x => ((exactL (aloneM M x (cellL M cell).1 (cellL M cell).2.1) oneC4 0).1, 0)
  | none => (0, 7)
 else (0, 7) else (0, (cellL M cell).2.2)
theorem limits_pos {M : MachD} (h : checkC M = 0) : 0 < M.limits.length := by
 have h4 := (orL_zero (orL_zero (orL_zero (orL_zero h).2).2).2).1
 unfold limitsC at h4
 by_cases h0 : M.limits.length = 0
 ·rw [if_pos h0] at h4; simp at h4
 ·omega
end
section
open Go.RowKit Go.Shelf
theorem tot_zeros4 (n : Nat) (s : Int) (h0 : 0 ≤ s) (h1 : s ≤ 1000000) : tot s (List.replicate n 0) = s := by
 induction n with
 | zero => rfl
 | succ n ih =>
  rw [List.replicate_succ]
  unfold tot
  rw [IntWalk.wrap64_in _ (by omega), show s + 0 = s by omega]
  exact ih
theorem tot_put (c : Int) (c0 : 0 ≤ c) (c1 : c ≤ 1000000) : ∀ (n i : Nat), i < n → tot 0 ((List.replicate n 0).set i c) = c
 | 0, i, h => absurd h (Nat.not_lt_zero i)
 | n + 1, 0, _ => by
  rw [List.replicate_succ, List.set_cons_zero]
  unfold tot
  rw [IntWalk.wrap64_in _ (by omega), show (0 : Int) + c = c by omega]
  exact tot_zeros4 n c c0 c1
 | n + 1, i + 1, h => by
  rw [List.replicate_succ, List.set_cons_succ]
  unfold tot
  rw [IntWalk.wrap64_in _ (by omega), show (0 : Int) + 0 = 0 by omega]
  exact tot_put c c0 c1 n i (by omega)
theorem set_mem {n i : Nat} {c x : Int} (h : x ∈ (List.replicate n (0 : Int)).set i c) : x = c ∨ x = 0 := by
 rcases List.mem_or_eq_of_mem_set h with h | h
 ·exact .inr (List.eq_of_mem_replicate h)
 ·exact .inl h
theorem fila_fit {M : MachD} {C : CurD} {cell cur : Int} (h : Fit2 M C) (hi : inB C cell cur = true) : Fit2 M (filaD C cell cur) := by
 unfold inB at hi
 rw [Bool.and_eq_true] at hi
 have a := wthn_iff.1 hi.1
 have b := wthn_iff.1 hi.2
 exact ⟨h.check, h.coils, h.shells, ⟨by unfold filaD; simpa using h.plasma.1, fun x hx => by
  rcases set_mem hx with rfl | rfl <;> omega⟩, by
  show tot 0 ((List.replicate C.plasma.length 0).set cell.toNat cur) ≤ 1000000
  rw [tot_put cur b.1 b.2 _ _ (by omega)]; exact b.2⟩
theorem dark_fit {M : MachD} {C : CurD} (h : Fit2 M C) : Fit2 M (darkD C) :=
 ⟨h.check, h.coils, h.shells, ⟨by unfold darkD; simpa using h.plasma.1, fun x hx => by
  have := List.eq_of_mem_replicate hx
  omega⟩, by
  show tot 0 (List.replicate C.plasma.length 0) ≤ 1000000
  rw [tot_zeros4 _ 0 (by omega) (by omega)]; omega⟩
theorem fluxP_one (p : Int × Int) (x : Src) : fluxP p [x] = infl p.1 p.2 x.1.1 x.1.2 * x.2 := by simp [fluxP]
theorem cells_zero (p : Int × Int) (g : GridD) (n : Nat) : ∀ k, k ≤ n → fluxP p (cellSrc g (List.replicate n 0) k) = 0
 | 0, _ => rfl
 | k + 1, h => by
  rw [cellSrc_succ, fluxP_append, cells_zero p g n k (by omega), fluxP_one]
  simp [List.getElem?_replicate, show k < n by omega]
theorem cells_put (p : Int × Int) (g : GridD) (n i : Nat) (hi : i < n) (c : Int) : ∀ k, k ≤ n → fluxP p (cellSrc g ((List.replicate n 0).set i c) k) = if i < k then infl p.1 p.2 (cellR g i) (cellZ g i) * c else 0
 | 0, _ => by simp [cellSrc, fluxP]
 | k + 1, h => by
  rw [cellSrc_succ, fluxP_append, cells_put p g n i hi c k (by omega), fluxP_one]
  by_cases e : i = k
  ·subst e
   simp [hi]
  ·rw [List.getElem?_set_ne e, List.getElem?_replicate, if_pos (show k < n by omega)]
   by_cases h1 : i < k
   ·rw [if_pos h1, if_pos (by omega)]; simp
   ·rw [if_neg h1, if_neg (by omega)]; simp
theorem flux_fila (M : MachD) (C : CurD) (cell cur : Int) (h0 : 0 ≤ cell) (h1 : cell ≤ (C.plasma.length : Int) - 1) (p : Int × Int) :
  fluxP p (srcM M (filaD C cell cur)) = fluxP p (srcM M (darkD C)) + infl p.1 p.2 (cellR M.grid cell) (cellZ M.grid cell) * cur := by
 obtain ⟨i, rfl⟩ : ∃ i : Nat, cell = i := ⟨cell.toNat, by omega⟩
 unfold srcM srcL filaD darkD
 dsimp only
 rw [Int.toNat_natCast]
 simp only [fluxP_append, List.length_set, List.length_replicate]
 rw [cells_zero p M.grid _ _ (Nat.le_refl _), cells_put p M.grid _ i (by omega) cur _ (Nat.le_refl _), if_pos (by omega)]
 omega
def sensOne (x : SensorD) (X Y : Int) : Int := sensP [((X, Y), 1)] x
theorem sens_fila (M : MachD) (C : CurD) (cell cur : Int) (h0 : 0 ≤ cell) (h1 : cell ≤ (C.plasma.length : Int) - 1) (x : SensorD) :
  sensP (srcM M (filaD C cell cur)) x = sensP (srcM M (darkD C)) x + sensOne x (cellR M.grid cell) (cellZ M.grid cell) * cur := by
 have H := flux_fila M C cell cur h0 h1
 unfold sensOne sensP fieldP
 simp only [H, fluxP_one, Int.mul_one]
 split
 ·rfl
 ·split
  ·rw [Int.sub_mul]; omega
  ·rw [Int.sub_mul]; omega
theorem sensOne_bd (x : SensorD) (X Y : Int) : -250000 ≤ sensOne x X Y ∧ sensOne x X Y ≤ 250000 := by
 unfold sensOne sensP fieldP
 simp only [fluxP_one, Int.mul_one]
 have a := infl_bd x.r x.z X Y
 have b := infl_bd x.r (x.z - 1) X Y
 have c := infl_bd x.r (x.z + 1) X Y
 have d := infl_bd (x.r + 1) x.z X Y
 have e := infl_bd (x.r - 1) x.z X Y
 split
 ·omega
 ·split <;> omega
theorem sensP_bd {S : List Src} (h : Small S) (x : SensorD) : -50000000000000000 ≤ sensP S x ∧ sensP S x ≤ 50000000000000000 := by
 unfold sensP fieldP
 have a := h.bd (x.r, x.z)
 have b := h.bd (x.r, x.z - 1)
 have c := h.bd (x.r, x.z + 1)
 have d := h.bd (x.r + 1, x.z)
 have e := h.bd (x.r - 1, x.z)
 split
 ·omega
 ·split
  ·dsimp only; omega
  ·dsimp only; omega
theorem cell_near {M : MachD} (h : checkC M = 0) {i : Int} (h0 : 0 ≤ i) (h1 : i ≤ M.grid.nr * M.grid.nz - 1) : nearB (cellR M.grid i) (cellZ M.grid i) 60 = true := by
 have hg := grid_of h
 have hf := fine_grid hg
 have hc := cells_fine hf
 unfold gridC at hg
 obtain ⟨r0, r1, z0, z1, n0, n1, k0, k1, s0, s1⟩ := hf
 split at hg
 ·split at hg
  ·have hl := near_iff.1 (rng_zero hg)
   unfold cellR cellZ at *
   generalize M.grid.r = r at *
   generalize M.grid.z = z at *
   generalize M.grid.nr = a at *
   generalize M.grid.nz = b at *
   generalize M.grid.step = s at *
   have m1 : (a * b - 1) % a = a - 1 := by
    rw [show a * b - 1 = (a - 1) + (b - 1) * a by rw [Int.sub_mul, Int.one_mul, Int.mul_comm b a]; omega, Int.add_mul_emod_self_right]
    exact Int.emod_eq_of_lt (by omega) (by omega)
   have d1 : (a * b - 1) / a = b - 1 := by
    rw [show a * b - 1 = (a - 1) + (b - 1) * a by rw [Int.sub_mul, Int.one_mul, Int.mul_comm b a]; omega, Int.add_mul_ediv_right _ _ (by omega), Int.ediv_eq_zero_of_lt (by omega) (by omega)]
    omega
   rw [m1, d1] at hl
   have a0 := Int.emod_nonneg i (show a ≠ 0 by omega)
   have a1 := Int.emod_lt_of_pos i (show 0 < a by omega)
   have b0 := Int.ediv_nonneg h0 (show 0 ≤ a by omega)
   have b1 : i / a ≤ b - 1 := by
    have : i / a < b := Int.ediv_lt_of_lt_mul (by omega) (by rw [Int.mul_comm b a]; omega)
    omega
   have u0 := Int.mul_nonneg a0 (show 0 ≤ s by omega)
   have u1 := Int.mul_le_mul_of_nonneg_right (show i % a ≤ a - 1 by omega) (show 0 ≤ s by omega)
   have v0 := Int.mul_nonneg b0 (show 0 ≤ s by omega)
   have v1 := Int.mul_le_mul_of_nonneg_right b1 (show 0 ≤ s by omega)
   rw [near_iff]
   omega
  ·simp at hg
 ·simp at hg
theorem eachGo_first {α : Type} {chk : α → List α → Int} {y : α} {r : List α} (h : eachGo chk [] (y :: r) = 0) : chk y [] = 0 := by
 unfold eachGo at h
 by_cases hc : chk y [] = 0
 ·exact hc
 ·rw [if_neg hc] at h; exact absurd h hc
theorem sensor_alone {x : SensorD} {e : List SensorD} (h : sensorC x e = 0) : sensorC x [] = 0 := by
 unfold sensorC at *
 split at h
 ·rename_i hn
  rw [if_pos hn]
  split at h
  ·simp at h
  ·simpa using h
 ·simp at h
theorem alone_check {M : MachD} (h : checkC M = 0) {x : SensorD} (hx : x ∈ M.sensors) {X Y : Int} (hn : nearB X Y 60 = true) : checkC (aloneM M x X Y) = 0 := by
 have g1 := (orL_zero h).1
 have h4 := (orL_zero (orL_zero (orL_zero (orL_zero h).2).2).2).1
 have h6 := (orL_zero (orL_zero (orL_zero (orL_zero (orL_zero (orL_zero h).2).2).2).2).2).1
 obtain ⟨e, he⟩ := (eachC_all h6).2 x hx
 have g6 : eachC sensorC 24 [x] = 0 := by
  unfold eachC
  rw [if_neg (by simp)]
  unfold eachGo
  rw [if_pos (sensor_alone he)]; rfl
 have g4 : limitsC (M.limits.take 1) = 0 := by
  unfold limitsC at *
  cases hm : M.limits with
  | nil => rw [hm] at h4; simp at h4
  | cons y r =>
   rw [hm] at h4
   rw [if_neg (by simp)] at h4
   unfold eachC at h4
   split at h4
   ·simp at h4
   ·have := eachGo_first h4
    rw [if_neg (by simp)]
    unfold eachC
    rw [if_neg (by simp), List.take_succ_cons, List.take_zero]
    unfold eachGo
    rw [if_pos this]; rfl
 have g5 : gridC ⟨X, Y, 1, 1, 1⟩ = 0 := by
  unfold gridC
  rw [if_pos (by simp [wthn]), if_pos hn]
  have : nearB (cellR ⟨X, Y, 1, 1, 1⟩ (1 * 1 - 1)) (cellZ ⟨X, Y, 1, 1, 1⟩ (1 * 1 - 1)) 60 = nearB X Y 60 := by simp [cellR, cellZ]
  dsimp only at this ⊢
  rw [this, hn]; rfl
 unfold checkC aloneM
 dsimp only
 rw [g1, g4, g5, g6]
 rfl
theorem alone_fit4 {M : MachD} (h : checkC M = 0) {x : SensorD} (hx : x ∈ M.sensors) {X Y : Int} (hn : nearB X Y 60 = true) : Fit2 (aloneM M x X Y) oneC4 :=
 ⟨alone_check h hx hn, ⟨rfl, fun y hy => by cases hy⟩, ⟨rfl, fun y hy => by cases hy⟩, ⟨rfl, fun y hy => by
  have : y = 1 := by simpa [oneC4] using hy
  omega⟩, by show tot 0 [1] ≤ 1000000; simp only [tot]; rw [IntWalk.wrap64_in _ (by omega)]; omega⟩
theorem alone_exact {M : MachD} (h : checkC M = 0) {x : SensorD} (hx : x ∈ M.sensors) {X Y : Int} (hn : nearB X Y 60 = true) : (exactL (aloneM M x X Y) oneC4 0).1 = sensOne x X Y := by
 unfold exactL
 rw [fit2_iff.2 (alone_fit4 h hx hn), if_pos rfl, if_pos (by rfl)]
 show sensP (srcM (aloneM M x X Y) oneC4) x = _
 have : srcM (aloneM M x X Y) oneC4 = [((X, Y), 1)] := by
  simp [srcM, srcL, aloneM, oneC4, cellSrc, cellR, cellZ]
 rw [this]; rfl
theorem linear {M : MachD} {C : CurD} {s cell cur : Int} (h1 : filaE M C cell cur = 0) (h2 : (backL M C s).2 = 0) (h3 : (respL M s cell).2 = 0) :
  exactL M (filaD C cell cur) s = ((backL M C s).1 + (respL M s cell).1 * cur, 0) ∧ (-50000000000000000 ≤ (backL M C s).1 ∧ (backL M C s).1 ≤ 50000000000000000) ∧ (-250000 ≤ (respL M s cell).1 ∧ (respL M s cell).1 ≤ 250000) ∧ 0 ≤ cur ∧ cur ≤ 1000000 := by
 have hv : validC M C = true := by
  unfold filaE at h1
  cases hv : validC M C
  ·rw [hv] at h1; simp at h1
  ·rfl
 have hi : inB C cell cur = true := by
  unfold filaE at h1
  rw [hv, if_pos rfl] at h1
  cases hi : inB C cell cur
  ·rw [hi] at h1; simp at h1
  ·rfl
 have hf := fit2_iff.1 hv
 have hd := dark_fit hf
 have hl := fila_fit hf hi
 have hi' := hi
 unfold inB at hi'
 rw [Bool.and_eq_true] at hi'
 have a := wthn_iff.1 hi'.1
 have b := wthn_iff.1 hi'.2
 have hp := hf.plasma.1
 have hcl : cellL M cell = (cellR M.grid cell, cellZ M.grid cell, 0) := by
  unfold cellL
  rw [if_pos hf.check, if_pos (wthn_iff.2 (by omega))]
 have hw : wthn s 0 ((M.sensors.length : Int) - 1) = true := by
  unfold respL at h3
  rw [hcl, if_pos rfl] at h3
  cases hw : wthn s 0 ((M.sensors.length : Int) - 1)
  ·rw [hw] at h3; simp at h3
  ·rfl
 have c := wthn_iff.1 hw
 obtain ⟨x, hx⟩ : ∃ x, M.sensors[s.toNat]? = some x := ⟨_, List.getElem?_eq_getElem (by omega)⟩
 have hm := List.mem_of_getElem? hx
 have e1 : exactL M (filaD C cell cur) s = (sensP (srcM M (filaD C cell cur)) x, 0) := by
  unfold exactL; rw [fit2_iff.2 hl, if_pos rfl, hw, if_pos rfl, hx]
 have e2 : backL M C s = (sensP (srcM M (darkD C)) x, 0) := by
  unfold backL exactL; rw [hv, if_pos rfl, fit2_iff.2 hd, if_pos rfl, hw, if_pos rfl, hx]
 have e3 : respL M s cell = (sensOne x (cellR M.grid cell) (cellZ M.grid cell), 0) := by
  unfold respL
  rw [hcl, if_pos rfl, hw, if_pos rfl, hx]
  dsimp only
  rw [alone_exact hf.check hm (cell_near hf.check (by omega) (by omega))]
 rw [e1, e2, e3]
 dsimp only
 exact ⟨by rw [sens_fila M C cell cur (by omega) (by omega) x], sensP_bd (small_of hd) x, sensOne_bd _ _ _, b.1, b.2⟩
end
section
abbrev Tri := Int × Int × Int
def okP (x : Tri) : Bool := inR x.1 && vld x.2.1 x.2.2
def gLo (x : Tri) : Int := if 0 < x.1 then flo (x.2.1 * 1000) x.1 else if x.1 < 0 then flo (x.2.2 * 1000) x.1 else if x.2.1 ≤ 0 ∧ 0 ≤ x.2.2 then -1000000000 else 1
def gHi (x : Tri) : Int := if 0 < x.1 then cei (x.2.2 * 1000) x.1 else if x.1 < 0 then cei (x.2.1 * 1000) x.1 else if x.2.1 ≤ 0 ∧ 0 ≤ x.2.2 then 1000000000 else 0
def nar (s : Int × Int) (x : Tri) : Int × Int := (max s.1 (gLo x), min s.2 (gHi x))
def left (s : Int × Int) : List Tri → Int × Int
 | [] => s
 | x :: r => left (nar s x) r
def first (s : Int × Int) : List Tri → Int → Int
 | [], _ => -1
 | x :: r, i => if vld (nar s x).1 (nar s x).2 = true then first (nar s x) r (i + 1) else i
theorem okP_iff {x : Tri} : okP x = true ↔ (-1000000000000000 ≤ x.1 ∧ x.1 ≤ 1000000000000000) ∧ x.2.1 ≤ x.2.2 ∧ -1000000000000000 ≤ x.2.1 ∧ x.2.2 ≤ 1000000000000000 := by
 simp [okP, inR_iff, vld_iff]
def Lies (g : Int) (x : Tri) : Prop := x.2.1 * 1000 ≤ x.1 * g ∧ x.1 * g ≤ x.2.2 * 1000
end
section
open Go.RowKit
theorem flo_t (a b : Int) (hb : b ≠ 0) : flo a b = if a.tmod b ≠ 0 ∧ (decide (a < 0) != decide (b < 0)) = true then a.tdiv b - 1 else a.tdiv b := by
 have key : ∀ Z m : Int, 0 ≤ Z → 0 < m → Z.tdiv m = Z / m ∧ Z.tmod m = Z % m := fun Z m h0 h1 => ⟨Int.tdiv_eq_ediv_of_nonneg h0, Int.tmod_eq_emod_of_nonneg h0⟩
 by_cases h1 : a < 0 <;> by_cases h2 : b < 0
 ·obtain ⟨Z, rfl⟩ : ∃ Z, a = -Z := ⟨-a, by omega⟩
  obtain ⟨m, rfl⟩ : ∃ m, b = -m := ⟨-b, by omega⟩
  obtain ⟨k1, k2⟩ := key Z m (by omega) (by omega)
  rw [Int.neg_tdiv, Int.tdiv_neg, Int.neg_tmod, Int.tmod_neg, k1, k2]
  unfold flo
  rw [if_neg (by omega), Int.neg_neg, Int.neg_neg, if_neg (fun h => absurd h.2 (by rw [decide_eq_true h1, decide_eq_true h2]; decide)), Int.neg_neg]
 ·obtain ⟨Z, rfl⟩ : ∃ Z, a = -Z := ⟨-a, by omega⟩
  obtain ⟨k1, k2⟩ := key Z b (by omega) (by omega)
  rw [Int.neg_tdiv, Int.neg_tmod, k1, k2]
  unfold flo
  rw [if_pos (by omega)]
  rcases neg_quo Z b (by omega) with ⟨c, d⟩ | ⟨c, d⟩
  ·rw [d, if_neg (by rw [c]; simp)]
  ·rw [d, if_pos ⟨by omega, by simp [h1, h2]; try omega⟩]; omega
 ·obtain ⟨m, rfl⟩ : ∃ m, b = -m := ⟨-b, by omega⟩
  obtain ⟨k1, k2⟩ := key a m (by omega) (by omega)
  rw [Int.tdiv_neg, Int.tmod_neg, k1, k2]
  unfold flo
  rw [if_neg (by omega), Int.neg_neg]
  rcases neg_quo a m (by omega) with ⟨c, d⟩ | ⟨c, d⟩
  ·rw [d, if_neg (by rw [c]; simp)]
  ·rw [d, if_pos ⟨by omega, by simp [h1, h2]; try omega⟩]; omega
 ·obtain ⟨k1, k2⟩ := key a b (by omega) (by omega)
  rw [k1, k2]
  unfold flo
  rw [if_pos (by omega), if_neg (by simp [h1, h2])]
theorem tdiv_fit (a b : Int) (h1 : -1000000000000000000 ≤ a) (h2 : a ≤ 1000000000000000000) (hb : b ≠ 0) : (-1000000000000000000 ≤ a.tdiv b ∧ a.tdiv b ≤ 1000000000000000000) ∧ (-1000000000000000000 ≤ a.tmod b ∧ a.tmod b ≤ 1000000000000000000) := by
 have k1 := Int.natAbs_tdiv a b
 have k2 := Int.natAbs_tmod a b
 have k3 := Nat.div_le_self a.natAbs b.natAbs
 have k4 := Nat.mod_le a.natAbs b.natAbs
 have k5 : (a.tdiv b).natAbs ≤ a.natAbs := by rw [k1]; exact k3
 have k6 : (a.tmod b).natAbs ≤ a.natAbs := by rw [k2]; exact k4
 omega
theorem flo_bd (a b : Int) (h1 : -1000000000000000000 ≤ a) (h2 : a ≤ 1000000000000000000) (hb : b ≠ 0) : -1000000000000000001 ≤ flo a b ∧ flo a b ≤ 1000000000000000000 := by
 have h := tdiv_fit a b h1 h2 hb
 rw [flo_t a b hb]
 split <;> omega
set_option maxHeartbeats 1000000 in
theorem down_any (a b : Int) (w : World) (h1 : -1000000000000000000 ≤ a) (h2 : a ≤ 1000000000000000000) (b1 : -1000000000000000 ≤ b) (b2 : b ≤ 1000000000000000) (hb : b ≠ 0) :
  Calls Tryz.prog 83 #[.int .i64 a, .int .i64 b] w fun e w' => e = .returned (.int .i64 (flo a b)) ∧ w = w' := by
 obtain ⟨⟨q1, q2⟩, r1, r2⟩ := tdiv_fit a b h1 h2 hb
 have HF := Lib.hid (flo_t a b hb)
 generalize flo a b = f at *
 have hb0 : (b == 0) = false := by rw [beq_eq_false_iff_ne]; exact hb
 have hb1 : ¬b = 0 := hb
 generalize hq : a.tdiv b = q at *
 generalize hr : a.tmod b = r at *
 clear hb
 by_cases hz : r = 0
 ·have hz1 : (r != 0) = false := by simp [hz]
  have HE : Hid (f = q) := Lib.hid (by rw [HF.out, if_neg (by simp [hz])])
  clear HF hz
  go_enter Tryz.func83, Tryz.ntmps83
  go_wp2
  go_ret
  exact ⟨by rw [HE.out]; rfl, rfl⟩
 ·have hz1 : (r != 0) = true := by rw [bne_iff_ne]; exact hz
  by_cases ha : a < 0 <;> by_cases hb' : b < 0
  all_goals have HE : Hid (f = if (decide (a < 0) != decide (b < 0)) = true then q - 1 else q) := Lib.hid (by rw [HF.out]; simp [hz])
  all_goals simp only [ha, hb', decide_true, decide_false, bne_self_eq_false, Bool.false_eq_true, if_false, Bool.true_bne, Bool.false_bne, Bool.not_false, if_true] at HE
  all_goals clear HF hz
  all_goals go_enter Tryz.func83, Tryz.ntmps83
  all_goals go_wp2
  all_goals go_ret
  all_goals exact ⟨by rw [HE.out]; rfl, rfl⟩
set_option maxHeartbeats 1000000 in
theorem up_any (a b : Int) (w : World) (h1 : -1000000000000000000 ≤ a) (h2 : a ≤ 1000000000000000000) (b1 : -1000000000000000 ≤ b) (b2 : b ≤ 1000000000000000) (hb : b ≠ 0) :
  Calls Tryz.prog 84 #[.int .i64 a, .int .i64 b] w fun e w' => e = .returned (.int .i64 (cei a b)) ∧ w = w' := by
 have hf := flo_bd (-a) b (by omega) (by omega) hb
 have HD := Lib.hid (fun W => down_any (-a) b W (by omega) (by omega) b1 b2 hb)
 unfold cei
 clear hb
 generalize flo (-a) b = f at *
 go_enter Tryz.func84, Tryz.ntmps84
 go_wp2_with (go_at_call 83; refine (HD.out _).mono ?_; rintro e w' ⟨rfl, rfl⟩)
 go_ret
 exact ⟨rfl, rfl⟩
end
section
open Go.RowKit
theorem resS {fn : Func} {p : Tmp} (h : fn.results = #[.cell p 67]) (tmps : Array Value) (W : World) (b : Nat) (x y : Value)
  (hp : tmps.getD p undef = .pointer (some ⟨b, 0, none⟩)) (h0 : (W.cell? ⟨b, 0, none⟩).isSome = true) (h1 : (W.cell? ⟨b, 1, none⟩).isSome = true) :
  (results fn tmps).run Tryz.prog ((W.setCell ⟨b, 0, none⟩ x).setCell ⟨b, 1, none⟩ y) = .ok (.agg #[x, y]) ((W.setCell ⟨b, 0, none⟩ x).setCell ⟨b, 1, none⟩ y) := by
 have n1 : (⟨b, 1, none⟩ : Addr) ≠ ⟨b, 0, none⟩ := by simp
 have n0 : (⟨b, 0, none⟩ : Addr) ≠ ⟨b, 1, none⟩ := by simp
 have e1 : ((W.setCell ⟨b, 0, none⟩ x).setCell ⟨b, 1, none⟩ y).cell? ⟨b, 0, none⟩ = some x :=
  (World.cell?_setCell_other _ _ _ _ n1).trans (World.cell?_setCell_same' _ _ _ h0)
 have e2 : ((W.setCell ⟨b, 0, none⟩ x).setCell ⟨b, 1, none⟩ y).cell? ⟨b, 1, none⟩ = some y :=
  World.cell?_setCell_same' _ _ _ (by rw [World.cell?_setCell_other _ _ _ _ n0]; exact h1)
 have hp' : tmps[p]?.getD undef = .pointer (some ⟨b, 0, none⟩) := by simpa using hp
 simp only [results, h]
 simp [Sem.run_bind, Result.andThen, go_sem, hp', e1, e2]
theorem resF {fn : Func} {p : Tmp} (h : fn.results = #[.cell p 67]) (tmps : Array Value) (W : World) (b : Nat) (x y : Value)
  (hp : tmps.getD p undef = .pointer (some ⟨b, 0, none⟩)) (h0 : (W.cell? ⟨b, 0, none⟩).isSome = true) (h1 : (W.cell? ⟨b, 1, none⟩).isSome = true) :
  (results fn tmps).run Tryz.prog ((W.setCell ⟨b, 0, none⟩ x).setCell ⟨b, 1, none⟩ y).drew = .ok (.agg #[x, y]) ((W.setCell ⟨b, 0, none⟩ x).setCell ⟨b, 1, none⟩ y).drew := by
 have n1 : (⟨b, 1, none⟩ : Addr) ≠ ⟨b, 0, none⟩ := by simp
 have n0 : (⟨b, 0, none⟩ : Addr) ≠ ⟨b, 1, none⟩ := by simp
 have e1 : ((W.setCell ⟨b, 0, none⟩ x).setCell ⟨b, 1, none⟩ y).drew.cell? ⟨b, 0, none⟩ = some x := by
  rw [World.cell?_drew]; exact (World.cell?_setCell_other _ _ _ _ n1).trans (World.cell?_setCell_same' _ _ _ h0)
 have e2 : ((W.setCell ⟨b, 0, none⟩ x).setCell ⟨b, 1, none⟩ y).drew.cell? ⟨b, 1, none⟩ = some y := by
  rw [World.cell?_drew]; exact World.cell?_setCell_same' _ _ _ (by rw [World.cell?_setCell_other _ _ _ _ n0]; exact h1)
 have hp' : tmps[p]?.getD undef = .pointer (some ⟨b, 0, none⟩) := by simpa using hp
 simp only [results, h]
 simp [Sem.run_bind, Result.andThen, go_sem, hp', e1, e2]
theorem resP {fn : Func} {p : Tmp} (h : fn.results = #[.cell p 67]) (tmps : Array Value) (W : World) (b : Nat) (x y : Value)
  (hp : tmps.getD p undef = .pointer (some ⟨b, 0, none⟩)) (h0 : W.cell? ⟨b, 0, none⟩ = some x) (h1 : W.cell? ⟨b, 1, none⟩ = some y) :
  (results fn tmps).run Tryz.prog W = .ok (.agg #[x, y]) W := by
 have hp' : tmps[p]?.getD undef = .pointer (some ⟨b, 0, none⟩) := by simpa using hp
 simp only [results, h]
 simp [Sem.run_bind, Result.andThen, go_sem, hp', h0, h1]
abbrev Pr (x : Tri) : Value := .agg #[.int .i64 x.1, .int .i64 x.2.1, .int .i64 x.2.2]
set_option maxHeartbeats 400000 in
theorem swithin_any (n a b : Int) (w : World) :
  Calls Tryz.prog 32 #[.int .i64 n, .int .i64 a, .int .i64 b] w fun e w' => e = .returned (.bool (wthn n a b)) ∧ w = w' := by
 go_enter Tryz.func32, Tryz.ntmps32
 go_wp2
 all_goals go_ret
 all_goals (simp [wthn]; try omega)
set_option maxHeartbeats 1000000 in
theorem validPair_any (v lo hi : Int) (w : World) :
  Calls Tryz.prog 46 #[Pr (v, lo, hi)] w (Ret (.bool (okP (v, lo, hi))) w) := by
 have e : okP (v, lo, hi) = (wthn v (-1000000000000000) 1000000000000000 && vld lo hi) := rfl
 have HE := Lib.hid e
 clear e
 by_cases h : wthn v (-1000000000000000) 1000000000000000 = true
 ·go_enter Tryz.func46, Tryz.ntmps46
  go_wp2_with (first | (go_at_call 32; refine (swithin_any _ _ _ _).mono ?_; rintro e w1 ⟨rfl, rfl⟩) | (go_at_call 48; refine (valid_any _ _ _).mono ?_; rintro e w1 ⟨rfl, hb⟩; have hB : Below w.heap.size w w1 := Below.trans (by (repeat first | with_reducible exact Below.refl _ _ | (with_reducible refine Below.alloc ?_ ?_ _; rotate_left; exact (by omega)))) (hb.mono (by (simp; done))); obtain ⟨hc, hf⟩ := bcell hb; have hs := hb.size; clear hb; (try simp only [World.size_alloc, World.size_setCell] at hc hf); (try simp only [World.size_alloc, World.size_setCell] at hs); (try have hs' := Nat.lt_of_succ_le hs); (try have hs0 : w.heap.size < w1.heap.size := by omega); (try have hs1 : w.heap.size + 1 < w1.heap.size := by omega); (try have hs2 : w.heap.size + 1 + 1 < w1.heap.size := by omega); (try have hs3 : w.heap.size + 1 + 1 + 1 < w1.heap.size := by omega); (try have iso : (w1.cell? ⟨w.heap.size, 0, none⟩).isSome = true := by (rw [hc _ _ (by omega)]; (try simp only [isSome_setCell]); first | assumption | go_simp)); (try have iso : (w1.cell? ⟨w.heap.size, 1, none⟩).isSome = true := by (rw [hc _ _ (by omega)]; (try simp only [isSome_setCell]); first | assumption | go_simp)); (try have iso : (w1.cell? ⟨w.heap.size + 1, 0, none⟩).isSome = true := by (rw [hc _ _ (by first | omega | (simp; done) | (simp; omega))]; (try simp only [isSome_setCell]); first | assumption | go_simp)); (try have iso : (w1.cell? ⟨w.heap.size + 1, 1, none⟩).isSome = true := by (rw [hc _ _ (by first | omega | (simp; done) | (simp; omega))]; (try simp only [isSome_setCell]); first | assumption | go_simp)); (try have iso : (w1.cell? ⟨w.heap.size + 1 + 1, 0, none⟩).isSome = true := by (rw [hc _ _ (by first | omega | (simp; done) | (simp; omega))]; (try simp only [isSome_setCell]); first | assumption | go_simp)); (try have iso : (w1.cell? ⟨w.heap.size + 1 + 1, 1, none⟩).isSome = true := by (rw [hc _ _ (by first | omega | (simp; done) | (simp; omega))]; (try simp only [isSome_setCell]); first | assumption | go_simp))))
  go_ret
  exact ⟨by rw [HE.out, h]; simp, by (repeat with_reducible assumption)⟩
 ·have h : wthn v (-1000000000000000) 1000000000000000 = false := by simpa using h
  go_enter Tryz.func46, Tryz.ntmps46
  go_wp2_with (go_at_call 32; refine (swithin_any _ _ _ _).mono ?_; rintro e w1 ⟨rfl, rfl⟩)
  go_ret
  exact ⟨by rw [HE.out, h]; simp, by (repeat first | with_reducible exact Below.refl _ _ | (with_reducible refine Below.alloc ?_ ?_ _; rotate_left; exact (by omega)))⟩
set_option maxHeartbeats 400000 in
theorem everyGain_any (w : World) :
  Calls Tryz.prog 85 #[] w (Ret (Sp (-1000000000) 1000000000) w) := by
 go_enter Tryz.func85, Tryz.ntmps85
 go_wp2_with fail
 exact bodyPost_ret (resP Tryz.results85 _ _ _ _ _ rfl (by go_simp) (by go_simp)) rfl ⟨rfl, by (repeat first | with_reducible exact Below.refl _ _ | (with_reducible refine Below.alloc ?_ ?_ _; rotate_left; exact (by omega)))⟩
end
end Go.Proofs.YthggkidiidnaoaaGreatDoor
