import Derived.Test.YthggkidiidnaoaaGreatWAA
import Derived.Test.YthggkidiidnaoaaGreatWAL
import Derived.Test.YthggkidiidnaoaaGreatWAN
import Derived.Test.YthggkidiidnaoaaGreatWAU
import Derived.Test.YthggkidiidnaoaaGreatWAY
import Derived.Test.YthggkidiidnaoaaGreatWBA
import Derived.Test.YthggkidiidnaoaaGreatRows
import Derived.KernelRfl
import Derived.Laws.StructEq
namespace Go.Proofs.YthggkidiidnaoaaGreat
set_option linter.unusedVariables false
set_option linter.unusedSimpArgs false
section
open Go.RowKit Go.Shelf
end
section
open Go.RowKit Go.Shelf
def plasB (n : Int) (l : List Int) : Bool := decide ((l.length : Int) = n) && (allW l 0 1000000 && decide (tot 0 l ≤ 1000000))
theorem allW_drop {l : List Int} {k : Nat} {x : Int} (h : l[k]? = some x) (a b : Int) : allW (l.drop k) a b = (wthn x a b && allW (l.drop (k + 1)) a b) := by
 obtain ⟨hk, rfl⟩ := List.getElem?_eq_some_iff.1 h
 unfold allW
 rw [List.drop_eq_getElem_cons hk]
 rfl
set_option maxRecDepth 100000 in
set_option maxHeartbeats 4000000 in
theorem rplasma_any (name : ByteArray) (A B Cl D : Option Addr) (la ca lb cb lc cl ld cd : Nat) (r z nr nz step : Int) (A1 : Option Addr) (len cap : Nat) (zs : List Int) (w : World) (hI : IsT 1 intCells w A1 len zs) (hl : len ≤ 1000000000000000) (h0 : 1 ≤ nr * nz) (h1 : nr * nz ≤ 64) :
  Calls Tryz.prog 81 #[.agg #[.string name, .slice A la ca, .slice B lb cb, .slice Cl lc cl, .int .i64 r, .int .i64 z, .int .i64 nr, .int .i64 nz, .int .i64 step, .slice D ld cd], .slice A1 len cap] w (Ret (.bool (plasB (nr * nz) zs)) w) := by
 have hlen := hI.1
 have HI := Lib.hid hI
 clear hI
 have u0 : IntKind.i64.wrap (nr * nz) = nr * nz := IntWalk.i64_in _ om9
 have HG : Hid (plasB (nr * nz) zs = (decide ((len : Int) = nr * nz) && (allW (zs.drop 0) 0 1000000 && decide (tot 0 (zs.drop 0) ≤ 1000000)))) := Lib.hid (by unfold plasB; rw [hlen]; rfl)
 generalize plasB (nr * nz) zs = G at *
 by_cases b5 : (len : Int) = nr * nz
 ·have e5 : ((len : Int) == nr * nz) = true := by rw [b5]; simp
  have HG2 : Hid ((allW (zs.drop 0) 0 1000000 && decide (tot 0 (zs.drop 0) ≤ 1000000)) = G) := Lib.hid (by rw [HG.out, decide_eq_true b5, Bool.true_and])
  clear HG
  go_enter Tryz.func81, Tryz.ntmps81
  go_wp2_with fail
  go_loopw [5, 6] (fun s i wr => ∃ (j : Nat) (t : Int), j ≤ len ∧ i = .int .i64 j ∧ s = .int .i64 t ∧ Hid ((allW (zs.drop j) 0 1000000 && decide (tot t (zs.drop j) ≤ 1000000)) = G) ∧ Below w.heap.size w wr) (fun _ i _ => len - (intOf i).toNat)
  case atStart => exact ⟨0, 0, Nat.zero_le _, rfl, rfl, HG2, by (repeat first | with_reducible exact Below.refl _ _ | (with_reducible refine Below.alloc ?_ ?_ _; rotate_left; exact om9))⟩
  case round =>
   obtain ⟨j, t, hj, rfl, rfl, hG, hB⟩ := hrel
   have sz0 := hB.size
   by_cases hlt : j < len
   ·obtain ⟨hzl, hcl⟩ := HI.out.below hB
    obtain ⟨b, o, rfl, hb0, hcl⟩ := hcl om9
    obtain ⟨x, hx⟩ : ∃ x, zs[j]? = some x := ⟨_, List.getElem?_eq_getElem om9⟩
    have x0 : wr.cell? ⟨b, o + j, none⟩ = some (.int .i64 x) := by have h := hcl j x hx 0 _ rfl; simpa using h
    have HS : Hid (((wthn x 0 1000000 && allW (zs.drop (j + 1)) 0 1000000) && decide (tot (wrap64 (t + x)) (zs.drop (j + 1)) ≤ 1000000)) = G) := Lib.hid (by
     have h := hG.out
     rw [tot_drop hx, allW_drop hx] at h
     exact h)
    clear hcl hx hzl hG
    have jc : (0 : Int) ≤ j := by omega
    have jn : ((j : Int)).toNat = j := by omega
    cases hv : wthn x 0 1000000
    ·have HF : Hid (false = G) := Lib.hid (by rw [← HS.out, hv]; rfl)
     clear HS
     go_wp2_with (go_at_call 44; refine (rwithin2_any _ _ _ _).mono ?_; rintro e w2 ⟨rfl, rfl⟩)
     go_ret
     exact ⟨by rw [← HF.out]; first | rfl | (rw [hv]), by (repeat with_reducible assumption)⟩
    ·have HN : Hid ((allW (zs.drop (j + 1)) 0 1000000 && decide (tot (wrap64 (t + x)) (zs.drop (j + 1)) ≤ 1000000)) = G) := Lib.hid (by rw [← HS.out, hv]; rfl)
     clear HS
     go_wp2_with (go_at_call 44; refine (rwithin2_any _ _ _ _).mono ?_; rintro e w2 ⟨rfl, rfl⟩)
     go_roundw
     case rel => exact ⟨j + 1, wrap64 (t + x), by omega, by go_num, rfl, HN, by (repeat with_reducible assumption)⟩
     case measure => simp [intOf]; omega
   ·have je : j = len := by omega
    have hE : Hid (decide (t ≤ 1000000) = G) := Lib.hid (by
     have h := hG.out
     rw [List.drop_of_length_le om9] at h
     exact h)
    clear hG
    go_wp2_with fail
    go_ret
    exact ⟨by rw [← hE.out]; rfl, by (repeat with_reducible assumption)⟩
 ·have e5 : ((len : Int) == nr * nz) = false := by rw [beq_eq_false_iff_ne]; exact b5
  have HF : Hid (false = G) := Lib.hid (by rw [HG.out, decide_eq_false b5]; rfl)
  clear HG
  go_enter Tryz.func81, Tryz.ntmps81
  go_wp2_with fail
  go_ret
  exact ⟨by rw [← HF.out]; rfl, by (repeat first | with_reducible exact Below.refl _ _ | (with_reducible refine Below.alloc ?_ ?_ _; rotate_left; exact om9))⟩
end
section
open Go.RowKit Go.Shelf
set_option maxRecDepth 100000 in
set_option maxHeartbeats 8000000 in
theorem rvalid2_any (R : MachR) (M : MachD) (Qr : CurR) (Cd : CurD) (w : World) (hM : IsM w R M) (hC : IsC w Qr Cd) :
  Calls Tryz.prog 41 #[.agg (machCells R M), Qr.v] w (Ret (.bool (validC M Cd)) w) := by
 have ea := hM.coils.1
 have eb := hM.shells.1
 have n1 := hC.coils.1
 have n2 := hC.shells.1
 have n3 := hC.plasma.1
 have k1 := hC.ka
 have k2 := hC.kb
 have k3 := hC.kc
 have H0 := Lib.hid (fun V (hb : Below w.heap.size w V) => rcheck_any R M V (hM.below hb))
 have HP : Hid (checkC M = 0 → ∀ V, Below w.heap.size w V → Calls Tryz.prog 81 #[.agg (machCells R M), .slice Qr.C Qr.lc Qr.cc] V (Ret (.bool (plasB (M.grid.nr * M.grid.nz) Cd.plasma)) V)) := Lib.hid (fun h V hb => by
  have hf := cells_fine (sound_of h).grid
  exact rplasma_any M.name R.A R.B R.C R.D R.la R.ca R.lb R.cb R.lc R.cc R.ld R.cd M.grid.r M.grid.z M.grid.nr M.grid.nz M.grid.step Qr.C Qr.lc Qr.cc Cd.plasma V (hC.below hb).plasma k3 hf.1 hf.2)
 have I1 := Lib.hid hC.coils
 have I2 := Lib.hid hC.shells
 have HE : Hid (validC M Cd = (decide (checkC M = 0) && (decide (Qr.la = R.la) && (decide (Qr.lb = R.lb) && (plasB (M.grid.nr * M.grid.nz) Cd.plasma && (allW Cd.coils (-1000000) 1000000 && allW Cd.shells (-1000000) 1000000)))))) := Lib.hid (by
  unfold validC plasB
  rw [n1, n2, ea, eb]
  cases decide (checkC M = 0) <;> cases decide (Qr.la = R.la) <;> cases decide (Qr.lb = R.lb) <;> cases allW Cd.coils (-1000000) 1000000 <;> cases allW Cd.shells (-1000000) 1000000 <;> simp)
 clear hM hC
 generalize validC M Cd = G at *
 generalize hE0 : checkC M = E0 at *
 obtain ⟨A, B, Cl, D, la, ca, lb, cb, lc, cl, ld, cd⟩ := R
 obtain ⟨name, coils, shells, limits, ⟨r, z, nr, nz, step⟩, sensors⟩ := M
 obtain ⟨A1, B1, C1, na, qa, nb, qb, nc, qc⟩ := Qr
 obtain ⟨z1, z2, z3⟩ := Cd
 dsimp only [machCells, CurR.v] at *
 generalize plasB (nr * nz) z3 = P at *
 clear ea eb n3 k3 hE0
 show Calls Tryz.prog 41 #[.agg #[.string name, .slice A la ca, .slice B lb cb, .slice Cl lc cl, .int .i64 r, .int .i64 z, .int .i64 nr, .int .i64 nz, .int .i64 step, .slice D ld cd], .agg #[.slice A1 na qa, .slice B1 nb qb, .slice C1 nc qc]] w _
 go_enter Tryz.func41, Tryz.ntmps41
 go_upto_region 1 with (fail)
 have m0 : (((w.alloc (.cells #[.string name, .slice A la ca, .slice B lb cb, .slice Cl lc cl, .int .i64 r, .int .i64 z, .int .i64 nr, .int .i64 nz, .int .i64 step, .slice D ld cd] 29)).alloc (.cells #[.slice A1 na qa, .slice B1 nb qb, .slice C1 nc qc] 32))).cell? ⟨w.heap.size, 0, none⟩ = some (.string name) := by go_simp
 have m1 : (((w.alloc (.cells #[.string name, .slice A la ca, .slice B lb cb, .slice Cl lc cl, .int .i64 r, .int .i64 z, .int .i64 nr, .int .i64 nz, .int .i64 step, .slice D ld cd] 29)).alloc (.cells #[.slice A1 na qa, .slice B1 nb qb, .slice C1 nc qc] 32))).cell? ⟨w.heap.size, 1, none⟩ = some (.slice A la ca) := by go_simp
 have m2 : (((w.alloc (.cells #[.string name, .slice A la ca, .slice B lb cb, .slice Cl lc cl, .int .i64 r, .int .i64 z, .int .i64 nr, .int .i64 nz, .int .i64 step, .slice D ld cd] 29)).alloc (.cells #[.slice A1 na qa, .slice B1 nb qb, .slice C1 nc qc] 32))).cell? ⟨w.heap.size, 2, none⟩ = some (.slice B lb cb) := by go_simp
 have m3 : (((w.alloc (.cells #[.string name, .slice A la ca, .slice B lb cb, .slice Cl lc cl, .int .i64 r, .int .i64 z, .int .i64 nr, .int .i64 nz, .int .i64 step, .slice D ld cd] 29)).alloc (.cells #[.slice A1 na qa, .slice B1 nb qb, .slice C1 nc qc] 32))).cell? ⟨w.heap.size, 3, none⟩ = some (.slice Cl lc cl) := by go_simp
 have m4 : (((w.alloc (.cells #[.string name, .slice A la ca, .slice B lb cb, .slice Cl lc cl, .int .i64 r, .int .i64 z, .int .i64 nr, .int .i64 nz, .int .i64 step, .slice D ld cd] 29)).alloc (.cells #[.slice A1 na qa, .slice B1 nb qb, .slice C1 nc qc] 32))).cell? ⟨w.heap.size, 4, none⟩ = some (.int .i64 r) := by go_simp
 have m5 : (((w.alloc (.cells #[.string name, .slice A la ca, .slice B lb cb, .slice Cl lc cl, .int .i64 r, .int .i64 z, .int .i64 nr, .int .i64 nz, .int .i64 step, .slice D ld cd] 29)).alloc (.cells #[.slice A1 na qa, .slice B1 nb qb, .slice C1 nc qc] 32))).cell? ⟨w.heap.size, 5, none⟩ = some (.int .i64 z) := by go_simp
 have m6 : (((w.alloc (.cells #[.string name, .slice A la ca, .slice B lb cb, .slice Cl lc cl, .int .i64 r, .int .i64 z, .int .i64 nr, .int .i64 nz, .int .i64 step, .slice D ld cd] 29)).alloc (.cells #[.slice A1 na qa, .slice B1 nb qb, .slice C1 nc qc] 32))).cell? ⟨w.heap.size, 6, none⟩ = some (.int .i64 nr) := by go_simp
 have m7 : (((w.alloc (.cells #[.string name, .slice A la ca, .slice B lb cb, .slice Cl lc cl, .int .i64 r, .int .i64 z, .int .i64 nr, .int .i64 nz, .int .i64 step, .slice D ld cd] 29)).alloc (.cells #[.slice A1 na qa, .slice B1 nb qb, .slice C1 nc qc] 32))).cell? ⟨w.heap.size, 7, none⟩ = some (.int .i64 nz) := by go_simp
 have m8 : (((w.alloc (.cells #[.string name, .slice A la ca, .slice B lb cb, .slice Cl lc cl, .int .i64 r, .int .i64 z, .int .i64 nr, .int .i64 nz, .int .i64 step, .slice D ld cd] 29)).alloc (.cells #[.slice A1 na qa, .slice B1 nb qb, .slice C1 nc qc] 32))).cell? ⟨w.heap.size, 8, none⟩ = some (.int .i64 step) := by go_simp
 have m9 : (((w.alloc (.cells #[.string name, .slice A la ca, .slice B lb cb, .slice Cl lc cl, .int .i64 r, .int .i64 z, .int .i64 nr, .int .i64 nz, .int .i64 step, .slice D ld cd] 29)).alloc (.cells #[.slice A1 na qa, .slice B1 nb qb, .slice C1 nc qc] 32))).cell? ⟨w.heap.size, 9, none⟩ = some (.slice D ld cd) := by go_simp
 have q0 : (((w.alloc (.cells #[.string name, .slice A la ca, .slice B lb cb, .slice Cl lc cl, .int .i64 r, .int .i64 z, .int .i64 nr, .int .i64 nz, .int .i64 step, .slice D ld cd] 29)).alloc (.cells #[.slice A1 na qa, .slice B1 nb qb, .slice C1 nc qc] 32))).cell? ⟨w.heap.size + 1, 0, none⟩ = some (.slice A1 na qa) := by go_simp
 have q1 : (((w.alloc (.cells #[.string name, .slice A la ca, .slice B lb cb, .slice Cl lc cl, .int .i64 r, .int .i64 z, .int .i64 nr, .int .i64 nz, .int .i64 step, .slice D ld cd] 29)).alloc (.cells #[.slice A1 na qa, .slice B1 nb qb, .slice C1 nc qc] 32))).cell? ⟨w.heap.size + 1, 1, none⟩ = some (.slice B1 nb qb) := by go_simp
 have q2 : (((w.alloc (.cells #[.string name, .slice A la ca, .slice B lb cb, .slice Cl lc cl, .int .i64 r, .int .i64 z, .int .i64 nr, .int .i64 nz, .int .i64 step, .slice D ld cd] 29)).alloc (.cells #[.slice A1 na qa, .slice B1 nb qb, .slice C1 nc qc] 32))).cell? ⟨w.heap.size + 1, 2, none⟩ = some (.slice C1 nc qc) := by go_simp
 have hB0 : Below w.heap.size w (((w.alloc (.cells #[.string name, .slice A la ca, .slice B lb cb, .slice Cl lc cl, .int .i64 r, .int .i64 z, .int .i64 nr, .int .i64 nz, .int .i64 step, .slice D ld cd] 29)).alloc (.cells #[.slice A1 na qa, .slice B1 nb qb, .slice C1 nc qc] 32))) := by (repeat first | with_reducible exact Below.refl _ _ | (with_reducible refine Below.alloc ?_ ?_ _; rotate_left; exact (by first | omega | (simp; done))))
 have hz : w.heap.size + 1 < (((w.alloc (.cells #[.string name, .slice A la ca, .slice B lb cb, .slice Cl lc cl, .int .i64 r, .int .i64 z, .int .i64 nr, .int .i64 nz, .int .i64 step, .slice D ld cd] 29)).alloc (.cells #[.slice A1 na qa, .slice B1 nb qb, .slice C1 nc qc] 32))).heap.size := by simp
 obtain ⟨W0, hW0⟩ : ∃ W, ((w.alloc (.cells #[.string name, .slice A la ca, .slice B lb cb, .slice Cl lc cl, .int .i64 r, .int .i64 z, .int .i64 nr, .int .i64 nz, .int .i64 step, .slice D ld cd] 29)).alloc (.cells #[.slice A1 na qa, .slice B1 nb qb, .slice C1 nc qc] 32)) = W := ⟨_, rfl⟩
 rw [hW0] at m0 m1 m2 m3 m4 m5 m6 m7 m8 m9 q0 q1 q2 hB0 hz ⊢
 clear hW0
 have FM := Lib.hid (BoxL.mk10 (W := W0) om9 m0 m1 m2 m3 m4 m5 m6 m7 m8 m9)
 have FC := Lib.hid (BoxL.mk3 (W := W0) hz q0 q1 q2)
 clear m0 m1 m2 m3 m4 m5 m6 m7 m8 m9 q0 q1 q2
 have HB : Hid (∀ w' : World, Below W0.heap.size W0 w' → Below w.heap.size w w') := Lib.hid (fun w' h => hB0.trans (h.mono om9))
 have m0 := (FM.out.below (Below.refl _ _)).at 0 (.string name) rfl
 have m1 := (FM.out.below (Below.refl _ _)).at 1 (.slice A la ca) rfl
 have m2 := (FM.out.below (Below.refl _ _)).at 2 (.slice B lb cb) rfl
 have m3 := (FM.out.below (Below.refl _ _)).at 3 (.slice Cl lc cl) rfl
 have m4 := (FM.out.below (Below.refl _ _)).at 4 (.int .i64 r) rfl
 have m5 := (FM.out.below (Below.refl _ _)).at 5 (.int .i64 z) rfl
 have m6 := (FM.out.below (Below.refl _ _)).at 6 (.int .i64 nr) rfl
 have m7 := (FM.out.below (Below.refl _ _)).at 7 (.int .i64 nz) rfl
 have m8 := (FM.out.below (Below.refl _ _)).at 8 (.int .i64 step) rfl
 have m9 := (FM.out.below (Below.refl _ _)).at 9 (.slice D ld cd) rfl
 have q0 := (FC.out.below (Below.refl _ _)).at 0 (.slice A1 na qa) rfl
 have q1 := (FC.out.below (Below.refl _ _)).at 1 (.slice B1 nb qb) rfl
 have q2 := (FC.out.below (Below.refl _ _)).at 2 (.slice C1 nc qc) rfl
 go_wp2_with fail
 refine (H0.out _ (HB.out _ (by (repeat with_reducible exact Below.refl _ _)))).mono ?_
 rintro e w1 ⟨rfl, hb⟩
 have hB1 : Below W0.heap.size W0 w1 := Below.trans (by (repeat with_reducible exact Below.refl _ _)) (hb.mono (by (try simp only [World.size_alloc, size_drew]); omega))
 clear hb m0 m1 m2 m3 m4 m5 m6 m7 m8 m9 q0 q1 q2
 have sz1 := hB1.size
 have m0 := (FM.out.below hB1).at 0 (.string name) rfl
 have m1 := (FM.out.below hB1).at 1 (.slice A la ca) rfl
 have m2 := (FM.out.below hB1).at 2 (.slice B lb cb) rfl
 have m3 := (FM.out.below hB1).at 3 (.slice Cl lc cl) rfl
 have m4 := (FM.out.below hB1).at 4 (.int .i64 r) rfl
 have m5 := (FM.out.below hB1).at 5 (.int .i64 z) rfl
 have m6 := (FM.out.below hB1).at 6 (.int .i64 nr) rfl
 have m7 := (FM.out.below hB1).at 7 (.int .i64 nz) rfl
 have m8 := (FM.out.below hB1).at 8 (.int .i64 step) rfl
 have m9 := (FM.out.below hB1).at 9 (.slice D ld cd) rfl
 have q0 := (FC.out.below hB1).at 0 (.slice A1 na qa) rfl
 have q1 := (FC.out.below hB1).at 1 (.slice B1 nb qb) rfl
 have q2 := (FC.out.below hB1).at 2 (.slice C1 nc qc) rfl
 by_cases b0 : E0 = 0
 ·have e0 : (E0 == 0) = true := by rw [b0]; rfl
  by_cases b1 : na = la
  ·have e1 := (int_eq na la).trans (decide_eq_true b1)
   by_cases b2 : nb = lb
   ·have e2 := (int_eq nb lb).trans (decide_eq_true b2)
    have HP2 := Lib.hid (HP.out b0)
    cases P
    ·have HF : Hid (false = G) := Lib.hid (by rw [HE.out]; simp)
     go_wp2_with fail
     refine (HP2.out _ (HB.out _ ra9)).mono ?_
     rintro e w2 ⟨rfl, hb2⟩
     have hB2 : Below W0.heap.size W0 w2 := Below.trans ra9 (hb2.mono (by (try simp only [World.size_alloc, size_drew]); omega))
     go_wp2_with fail
     go_ret
     exact ⟨by rw [← HF.out]; rfl, HB.out _ ra9⟩
    ·have HG : Hid ((allW (z1.drop 0) (-1000000) 1000000 && allW z2 (-1000000) 1000000) = G) := Lib.hid (by rw [HE.out, decide_eq_true b0, decide_eq_true b1, decide_eq_true b2]; simp)
     go_wp2_with fail
     refine (HP2.out _ (HB.out _ ra9)).mono ?_
     rintro e w2 ⟨rfl, hb2⟩
     have hB2 : Below W0.heap.size W0 w2 := Below.trans ra9 (hb2.mono (by (try simp only [World.size_alloc, size_drew]); omega))
     clear hb2 m0 m1 m2 m3 m4 m5 m6 m7 m8 m9 q0 q1 q2
     go_wp2_with fail
     go_loopw [5] (fun i wr => ∃ (j : Nat), j ≤ na ∧ i = .int .i64 j ∧ Hid ((allW (z1.drop j) (-1000000) 1000000 && allW z2 (-1000000) 1000000) = G) ∧ Below W0.heap.size W0 wr) (fun i _ => na - (intOf i).toNat)
     case atStart => exact ⟨0, Nat.zero_le _, rfl, HG, by (repeat with_reducible assumption)⟩
     case round =>
      obtain ⟨j, hj, rfl, hG, hBx⟩ := hrel
      have szx := hBx.size
      have m0 := (FM.out.below hBx).at 0 (.string name) rfl
      have m1 := (FM.out.below hBx).at 1 (.slice A la ca) rfl
      have m2 := (FM.out.below hBx).at 2 (.slice B lb cb) rfl
      have m3 := (FM.out.below hBx).at 3 (.slice Cl lc cl) rfl
      have m4 := (FM.out.below hBx).at 4 (.int .i64 r) rfl
      have m5 := (FM.out.below hBx).at 5 (.int .i64 z) rfl
      have m6 := (FM.out.below hBx).at 6 (.int .i64 nr) rfl
      have m7 := (FM.out.below hBx).at 7 (.int .i64 nz) rfl
      have m8 := (FM.out.below hBx).at 8 (.int .i64 step) rfl
      have m9 := (FM.out.below hBx).at 9 (.slice D ld cd) rfl
      have q0 := (FC.out.below hBx).at 0 (.slice A1 na qa) rfl
      have q1 := (FC.out.below hBx).at 1 (.slice B1 nb qb) rfl
      have q2 := (FC.out.below hBx).at 2 (.slice C1 nc qc) rfl
      by_cases hlt : j < na
      ·obtain ⟨hzl, hcl⟩ := (I1.out.below (HB.out _ hBx))
       obtain ⟨b, o, rfl, hb0, hcl⟩ := hcl om9
       obtain ⟨x, hx⟩ : ∃ x, z1[j]? = some x := ⟨_, List.getElem?_eq_getElem om9⟩
       have x0 : wr.cell? ⟨b, o + j, none⟩ = some (.int .i64 x) := by have h := hcl j x hx 0 _ rfl; simpa using h
       have HS : Hid (((wthn x (-1000000) 1000000 && allW (z1.drop (j + 1)) (-1000000) 1000000) && allW z2 (-1000000) 1000000) = G) := Lib.hid (by
        have h := hG.out
        rw [allW_drop hx] at h
        exact h)
       clear hcl hx hzl hG
       have jc : (0 : Int) ≤ j := by omega
       have jn : ((j : Int)).toNat = j := by omega
       cases hv : wthn x (-1000000) 1000000
       ·have HF : Hid (false = G) := Lib.hid (by rw [← HS.out, hv]; rfl)
        clear HS
        go_wp2_with (go_at_call 44; refine (rwithin2_any _ _ _ _).mono ?_; rintro e w7 ⟨rfl, rfl⟩)
        go_ret
        exact ⟨by rw [← HF.out]; first | rfl | (rw [hv]), HB.out _ ra9⟩
       ·have HN : Hid ((allW (z1.drop (j + 1)) (-1000000) 1000000 && allW z2 (-1000000) 1000000) = G) := Lib.hid (by rw [← HS.out, hv]; rfl)
        clear HS
        go_wp2_with (go_at_call 44; refine (rwithin2_any _ _ _ _).mono ?_; rintro e w7 ⟨rfl, rfl⟩)
        go_roundw
        case rel => exact ⟨j + 1, by omega, by go_num, HN, by (repeat with_reducible assumption)⟩
        case measure => simp [intOf]; omega
      ·have HG2 : Hid (allW (z2.drop 0) (-1000000) 1000000 = G) := Lib.hid (by
        have h := hG.out
        rw [List.drop_of_length_le om9] at h
        exact h)
       clear hG
       have hlt2 : ¬ j < la := by omega
       go_wp2_with fail
       go_loopw [6] (fun i wr => ∃ (j : Nat), j ≤ nb ∧ i = .int .i64 j ∧ Hid (allW (z2.drop j) (-1000000) 1000000 = G) ∧ Below W0.heap.size W0 wr) (fun i _ => nb - (intOf i).toNat)
       case atStart => exact ⟨0, Nat.zero_le _, rfl, HG2, by (repeat with_reducible assumption)⟩
       case round =>
        clear m0 m1 m2 m3 m4 m5 m6 m7 m8 m9 q0 q1 q2
        obtain ⟨j, hj, rfl, hG, hBx⟩ := hrel
        have szx := hBx.size
        have m0 := (FM.out.below hBx).at 0 (.string name) rfl
        have m1 := (FM.out.below hBx).at 1 (.slice A la ca) rfl
        have m2 := (FM.out.below hBx).at 2 (.slice B lb cb) rfl
        have m3 := (FM.out.below hBx).at 3 (.slice Cl lc cl) rfl
        have m4 := (FM.out.below hBx).at 4 (.int .i64 r) rfl
        have m5 := (FM.out.below hBx).at 5 (.int .i64 z) rfl
        have m6 := (FM.out.below hBx).at 6 (.int .i64 nr) rfl
        have m7 := (FM.out.below hBx).at 7 (.int .i64 nz) rfl
        have m8 := (FM.out.below hBx).at 8 (.int .i64 step) rfl
        have m9 := (FM.out.below hBx).at 9 (.slice D ld cd) rfl
        have q0 := (FC.out.below hBx).at 0 (.slice A1 na qa) rfl
        have q1 := (FC.out.below hBx).at 1 (.slice B1 nb qb) rfl
        have q2 := (FC.out.below hBx).at 2 (.slice C1 nc qc) rfl
        by_cases hlt : j < nb
        ·obtain ⟨hzl, hcl⟩ := (I2.out.below (HB.out _ hBx))
         obtain ⟨b, o, rfl, hb0, hcl⟩ := hcl om9
         obtain ⟨x, hx⟩ : ∃ x, z2[j]? = some x := ⟨_, List.getElem?_eq_getElem om9⟩
         have x0 : wr.cell? ⟨b, o + j, none⟩ = some (.int .i64 x) := by have h := hcl j x hx 0 _ rfl; simpa using h
         have HS : Hid ((wthn x (-1000000) 1000000 && allW (z2.drop (j + 1)) (-1000000) 1000000) = G) := Lib.hid (by
          have h := hG.out
          rw [allW_drop hx] at h
          exact h)
         clear hcl hx hzl hG
         have jc : (0 : Int) ≤ j := by omega
         have jn : ((j : Int)).toNat = j := by omega
         cases hv : wthn x (-1000000) 1000000
         ·have HF : Hid (false = G) := Lib.hid (by rw [← HS.out, hv]; rfl)
          clear HS
          go_wp2_with (go_at_call 44; refine (rwithin2_any _ _ _ _).mono ?_; rintro e w7 ⟨rfl, rfl⟩)
          go_ret
          exact ⟨by rw [← HF.out]; first | rfl | (rw [hv]), HB.out _ ra9⟩
         ·have HN : Hid (allW (z2.drop (j + 1)) (-1000000) 1000000 = G) := Lib.hid (by rw [← HS.out, hv]; rfl)
          clear HS
          go_wp2_with (go_at_call 44; refine (rwithin2_any _ _ _ _).mono ?_; rintro e w7 ⟨rfl, rfl⟩)
          go_roundw
          case rel => exact ⟨j + 1, by omega, by go_num, HN, by (repeat with_reducible assumption)⟩
          case measure => simp [intOf]; omega
        ·have HF : Hid (true = G) := Lib.hid (by
          have h := hG.out
          rw [List.drop_of_length_le om9] at h
          exact h)
         clear hG
         go_wp2_with fail
         go_ret
         exact ⟨by rw [← HF.out]; rfl, HB.out _ ra9⟩
   ·have e2 := (int_eq nb lb).trans (decide_eq_false b2)
    have HF : Hid (false = G) := Lib.hid (by rw [HE.out, decide_eq_false b2]; simp)
    go_wp2_with fail
    go_ret
    exact ⟨by rw [← HF.out]; rfl, HB.out _ ra9⟩
  ·have e1 := (int_eq na la).trans (decide_eq_false b1)
   have HF : Hid (false = G) := Lib.hid (by rw [HE.out, decide_eq_false b1]; simp)
   go_wp2_with fail
   go_ret
   exact ⟨by rw [← HF.out]; rfl, HB.out _ ra9⟩
 ·have e0 : (E0 == 0) = false := by rw [beq_eq_false_iff_ne]; exact b0
  have HF : Hid (false = G) := Lib.hid (by rw [HE.out, decide_eq_false b0]; rfl)
  go_wp2_with fail
  go_ret
  exact ⟨by rw [← HF.out]; rfl, HB.out _ ra9⟩
end
section
open Go.RowKit
end
section
open Go.RowKit
theorem cel_bl_apiPoint_ : ∀ w, (Instr.build 53 #[]).run Tryz.prog w = .ok (.agg #[(.int .i64 0), (.int .i64 0)]) w := by
 intro w; simp [Instr.build, Instr.fill, cells_agg, Tryz.runUnderlying53, Tryz.zeroValue53, Tryz.sizeOf3]
set_option maxRecDepth 100000 in
theorem mcell9_any (R : MachR) (M : MachD) (i : Int) (w : World) (hM : IsM w R M) : Calls Tryz.prog 95 #[(.agg (machCells R M)), (.int .i64 i)] w (Ret (.tuple #[.agg #[.int .i64 (cellL M i).1, .int .i64 (cellL M i).2.1], .int .i64 (cellL M i).2.2]) w) := by
 refine calls_ax (vs := [(.agg (machCells R M)), (.int .i64 i)]) Tryz.func95 rfl rfl ?_
 refine ac_seq (ac_region ?_)
 refine al_nb (r_box rfl rfl) ?_
 intro b1
 refine al_nb (r_alloc Tryz.zeroValue53 rfl) ?_
 intro b2
 refine al_p (q_assign rfl) (al_end (aq_then ?_))
 refine ac_seq (ac_seq (ac_region ?_))
 refine al_p (q_loadAll (i := 1) rfl rfl Tryz.isAgg29 Tryz.sizeOf29 rfl) (al_call Tryz.call38 (.cons rfl .nil) rfl rfl (fun w1 hs1 => ?_))
 refine (check_any R M _ (hM.below hs1.below)).mono ?_
 rintro e u1 ⟨rfl, hb_1⟩
 refine ⟨_, rfl, hb_1, ?_⟩
 clear hs1
 refine al_p (q_neq rfl rfl) (al_end (aq_then ?_))
 refine ac_cond rfl (fun h1 => ?_) (fun h1 => ?_)
 ·have hc : checkC M ≠ 0 := by simpa using h1
  refine ac_seq (ac_region ?_)
  refine al_p (q_build .nil (cel_bl_apiPoint_)) (al_storeAll (i := 0) rfl rfl rfl rfl Tryz.sizeOf53 rfl rfl .k0 rfl (al_p (q_assign rfl) (al_end (aq_then ?_))))
  refine ac_ret (aq_thenR (retR Tryz.results95 (.agg (i := 0) rfl rfl Tryz.isAgg53 Tryz.sizeOf53 rfl (.tmp rfl .nil)) .two (fun w9 hs => ?_)))
  unfold cellL; rw [if_neg hc]; exact ⟨rfl, hs.below⟩
 ·have hc : checkC M = 0 := by simpa using h1
  have hf := check_fine hc
  have hfc := fine_cells hf
  refine ac_skip (aq_then (ac_seq (ac_seq (ac_region ?_))))
  refine al_p (q_move rfl) ?_
  refine al_p (q_fieldAddr 4 rfl Tryz.runUnderlying29 rfl Tryz.sizeOf26 de9 rfl) (al_p (q_loadSub (i := 1) rfl rfl Tryz.isAgg26 Tryz.sizeOf26 .k4 .k5) (al_call Tryz.call54 (.cons rfl .nil) rfl rfl (fun w2 hs2 => ?_)))
  refine (cells_any M.grid _ om9 om9).mono ?_
  rintro e u2 ⟨rfl, hb_2⟩
  refine ⟨_, rfl, hb_2, ?_⟩
  clear hs2
  refine al_p (q_sub rfl rfl om9) (al_call Tryz.call27 (.cons rfl (.cons rfl (.cons rfl .nil))) rfl rfl (fun w3 hs3 => ?_))
  refine (mwithin_any i 0 (M.grid.nr * M.grid.nz - 1) _).mono ?_
  rintro e u3 ⟨rfl, rfl⟩
  refine ⟨_, rfl, (Below.refl _ _), ?_⟩
  clear hs3
  refine al_p (q_not rfl) (al_end (aq_then ?_))
  refine ac_cond rfl (fun h2 => ?_) (fun h2 => ?_)
  ·have hi : wthn i 0 (M.grid.nr * M.grid.nz - 1) = false := by simpa using h2
   refine ac_seq (ac_region ?_)
   refine al_p (q_build .nil (cel_bl_apiPoint_)) (al_storeAll (i := 0) rfl rfl rfl rfl Tryz.sizeOf53 rfl rfl .k0 rfl (al_p (q_assign rfl) (al_end (aq_then ?_))))
   refine ac_ret (aq_thenR (retR Tryz.results95 (.agg (i := 0) rfl rfl Tryz.isAgg53 Tryz.sizeOf53 rfl (.tmp rfl .nil)) .two (fun w9 hs => ?_)))
   unfold cellL; rw [if_pos hc, if_neg (by rw [hi]; decide)]; exact ⟨rfl, hs.below⟩
  ·have hi : wthn i 0 (M.grid.nr * M.grid.nz - 1) = true := by simpa using h2
   have hi2 := wthn_iff.1 hi
   refine ac_skip (aq_then (ac_seq (ac_region ?_)))
   refine al_p (q_fieldAddr 4 rfl Tryz.runUnderlying29 rfl Tryz.sizeOf26 de9 rfl) (al_p (q_loadSub (i := 1) rfl rfl Tryz.isAgg26 Tryz.sizeOf26 .k4 .k5) (al_p (q_move rfl) (al_call Tryz.call121 (.cons rfl (.cons rfl .nil)) rfl rfl (fun w4 hs4 => ?_))))
   refine (cellPlace_any M.grid i _ hf om9 om9).mono ?_
   rintro e u4 ⟨rfl, hb_4⟩
   refine ⟨_, rfl, hb_4, ?_⟩
   clear hs4
   refine al_storeAll (i := 0) rfl rfl rfl rfl Tryz.sizeOf53 rfl rfl .k0 rfl (al_p (q_assign rfl) (al_end (aq_then ?_)))
   refine ac_ret (retR Tryz.results95 (.agg (i := 0) rfl rfl Tryz.isAgg53 Tryz.sizeOf53 rfl (.tmp rfl .nil)) .two (fun w9 hs => ?_))
   unfold cellL; rw [if_pos hc, if_pos hi]; exact ⟨rfl, hs.below⟩
end
end Go.Proofs.YthggkidiidnaoaaGreat
