import Derived.Test.YtapldonpflgnfaaGreatDoorKAK
import Derived.Test.YtapldonpflgnfaaGreatDoorKAT
import Derived.Test.YtapldonpflgnfaaGreatDoorKAW
import Derived.Test.YtapldonpflgnfaaGreatDoorKAX
import Derived.Handy
import Derived.Outline
namespace Go.Proofs.YtapldonpflgnfaaGreatDoor
set_option linter.unusedVariables false
set_option linter.unusedSimpArgs false
section
open Go.RowKit Go.Shelf
def inB (C : CurD) (cell cur : Int) : Bool := wthn cell 0 ((C.plasma.length : Int) - 1) && wthn cur 0 1000000
def filaE (M : MachD) (C : CurD) (cell cur : Int) : Int := if validC M C = true then if inB C cell cur = true then 0 else 7 else 1
def filaD (C : CurD) (cell cur : Int) : CurD := ⟨C.coils, C.shells, (List.replicate C.plasma.length 0).set cell.toNat cur⟩
theorem seWithin_any (n a b : Int) (w : World) :
    Calls Tryz.prog 37 #[.int .i64 n, .int .i64 a, .int .i64 b] w fun e w' => e = .returned (.bool (wthn n a b)) ∧ w = w' := by
  go_enter Tryz.func37, Tryz.ntmps37
  go_wp2
  all_goals go_ret
  all_goals (simp [wthn]; try omega)
end
section
open Go.RowKit Go.Shelf
theorem isT_zero {b n : Nat} {W : World} (h : ZeroL b n W) : IsT 1 intCells W (some ⟨b, 0, none⟩) n (List.replicate n 0) := by
  refine ⟨by simp, fun _ => ⟨b, 0, rfl, h.lt, fun j x hx k v hv => ?_⟩⟩
  have hk : k = 0 := by
    have := (List.getElem?_eq_some_iff.1 hv).1
    simp [intCells] at this; omega
  subst hk
  have hv' : v = .int .i64 x := by simpa [intCells] using hv.symm
  subst hv'
  have hj : j < n := by
    have := (List.getElem?_eq_some_iff.1 hx).1
    simpa using this
  have hx0 : x = 0 := by
    rw [List.getElem?_replicate, if_pos hj] at hx
    exact (Option.some.inj hx).symm
  subst hx0
  rw [show (0 + j * 1 + 0 : Nat) = j by omega]
  exact h.cell j hj
theorem dark_isC {B : Nat} {W : World} {A : Option Addr} {na ca : Nat} {z1 : List Int} {A2 : Option Addr} {nb cb : Nat} {z2 : List Int} {pb nc : Nat} (h : DarkAt B W A na ca z1 A2 nb cb z2 pb nc) (l1 : na ≤ 1000) (l2 : nb ≤ 1000) (l3 : nc ≤ 1000) :
    IsC W ⟨A, A2, some ⟨pb, 0, none⟩, na, ca, nb, cb, nc, nc⟩ ⟨z1, z2, List.replicate nc 0⟩ := by
  have c1 := h.coils.cap
  have c2 := h.shells.cap
  unfold maxLen at c1 c2
  exact ⟨h.coils.isT, h.shells.isT, isT_zero h.zero, h.coils.le, h.shells.le, Nat.le_refl _, by dsimp only; omega, by dsimp only; omega, by dsimp only; omega, by dsimp only; omega, by dsimp only; omega, by dsimp only; omega⟩
def darkD (C : CurD) : CurD := ⟨C.coils, C.shells, List.replicate C.plasma.length 0⟩
def backL (M : MachD) (C : CurD) (s : Int) : Int × Int := if validC M C = true then exactL M (darkD C) s else (0, 1)
set_option maxRecDepth 100000 in
set_option maxHeartbeats 8000000 in
theorem background_any (R : MachR) (M : MachD) (Qr : CurR) (Cd : CurD) (s : Int) (w : World) (hM : IsM w R M) (hC : IsC w Qr Cd) (i0 : -9223372036854775808 ≤ s) (i1 : s ≤ 9223372036854775807) :
    Calls Tryz.prog 29 #[.agg (machCells R M), Qr.v, .int .i64 s] w (Ret (.tuple #[.int .i64 (backL M Cd s).1, .int .i64 (backL M Cd s).2]) w) := by
  unfold backL
  cases hv : validC M Cd
  · have HV0 := Lib.hid (fun W (hb : Below w.heap.size w W) => (by have := validCurrents_any R M Qr Cd W (hM.below hb) (hC.below hb); rw [hv] at this; exact this : Calls Tryz.prog 56 #[.agg (machCells R M), Qr.v] W (Ret (.bool false) W)))
    clear hM hC hv
    obtain ⟨A, B, Cl, D, la, ca, lb, cb, lc, cl, ld, cd⟩ := R
    obtain ⟨name, coils, shells, limits, ⟨r, z, nr, nz, step⟩, sensors⟩ := M
    obtain ⟨A1, B1, C1, na, qa, nb, qb, nc, qc⟩ := Qr
    have HV := Lib.hid (show ∀ W, Below w.heap.size w W → Calls Tryz.prog 56 #[.agg #[.string name, .slice A la ca, .slice B lb cb, .slice Cl lc cl, .int .i64 r, .int .i64 z, .int .i64 nr, .int .i64 nz, .int .i64 step, .slice D ld cd], .agg #[.slice A1 na qa, .slice B1 nb qb, .slice C1 nc qc]] W (Ret (.bool false) W) from HV0.out)
    show Calls Tryz.prog 29 #[.agg #[.string name, .slice A la ca, .slice B lb cb, .slice Cl lc cl, .int .i64 r, .int .i64 z, .int .i64 nr, .int .i64 nz, .int .i64 step, .slice D ld cd], .agg #[.slice A1 na qa, .slice B1 nb qb, .slice C1 nc qc], .int .i64 s] w _
    go_enter Tryz.func29, Tryz.ntmps29
    go_wp2_with fail
    refine (HV.out _ (by (repeat first | with_reducible exact Below.refl _ _ | (with_reducible refine Below.alloc ?_ ?_ _; rotate_left; exact (by first | omega | (simp; done)))))).mono ?_
    rintro e w1 ⟨rfl, hb⟩
    have m0 : w1.cell? ⟨w.heap.size, 0, none⟩ = some (.string name) := by rw [hb.cell (p := ⟨w.heap.size, 0, none⟩) (by ((try simp only [World.size_alloc, World.size_setCell, size_drew, size_drewN]); omega))]; go_simp
    have m1 : w1.cell? ⟨w.heap.size, 1, none⟩ = some (.slice A la ca) := by rw [hb.cell (p := ⟨w.heap.size, 1, none⟩) (by ((try simp only [World.size_alloc, World.size_setCell, size_drew, size_drewN]); omega))]; go_simp
    have m2 : w1.cell? ⟨w.heap.size, 2, none⟩ = some (.slice B lb cb) := by rw [hb.cell (p := ⟨w.heap.size, 2, none⟩) (by ((try simp only [World.size_alloc, World.size_setCell, size_drew, size_drewN]); omega))]; go_simp
    have m3 : w1.cell? ⟨w.heap.size, 3, none⟩ = some (.slice Cl lc cl) := by rw [hb.cell (p := ⟨w.heap.size, 3, none⟩) (by ((try simp only [World.size_alloc, World.size_setCell, size_drew, size_drewN]); omega))]; go_simp
    have m4 : w1.cell? ⟨w.heap.size, 4, none⟩ = some (.int .i64 r) := by rw [hb.cell (p := ⟨w.heap.size, 4, none⟩) (by ((try simp only [World.size_alloc, World.size_setCell, size_drew, size_drewN]); omega))]; go_simp
    have m5 : w1.cell? ⟨w.heap.size, 5, none⟩ = some (.int .i64 z) := by rw [hb.cell (p := ⟨w.heap.size, 5, none⟩) (by ((try simp only [World.size_alloc, World.size_setCell, size_drew, size_drewN]); omega))]; go_simp
    have m6 : w1.cell? ⟨w.heap.size, 6, none⟩ = some (.int .i64 nr) := by rw [hb.cell (p := ⟨w.heap.size, 6, none⟩) (by ((try simp only [World.size_alloc, World.size_setCell, size_drew, size_drewN]); omega))]; go_simp
    have m7 : w1.cell? ⟨w.heap.size, 7, none⟩ = some (.int .i64 nz) := by rw [hb.cell (p := ⟨w.heap.size, 7, none⟩) (by ((try simp only [World.size_alloc, World.size_setCell, size_drew, size_drewN]); omega))]; go_simp
    have m8 : w1.cell? ⟨w.heap.size, 8, none⟩ = some (.int .i64 step) := by rw [hb.cell (p := ⟨w.heap.size, 8, none⟩) (by ((try simp only [World.size_alloc, World.size_setCell, size_drew, size_drewN]); omega))]; go_simp
    have m9 : w1.cell? ⟨w.heap.size, 9, none⟩ = some (.slice D ld cd) := by rw [hb.cell (p := ⟨w.heap.size, 9, none⟩) (by ((try simp only [World.size_alloc, World.size_setCell, size_drew, size_drewN]); omega))]; go_simp
    have c0 : w1.cell? ⟨w.heap.size + 1, 0, none⟩ = some (.slice A1 na qa) := by rw [hb.cell (p := ⟨w.heap.size + 1, 0, none⟩) (by ((try simp only [World.size_alloc, World.size_setCell, size_drew, size_drewN]); omega))]; go_simp
    have c1 : w1.cell? ⟨w.heap.size + 1, 1, none⟩ = some (.slice B1 nb qb) := by rw [hb.cell (p := ⟨w.heap.size + 1, 1, none⟩) (by ((try simp only [World.size_alloc, World.size_setCell, size_drew, size_drewN]); omega))]; go_simp
    have c2 : w1.cell? ⟨w.heap.size + 1, 2, none⟩ = some (.slice C1 nc qc) := by rw [hb.cell (p := ⟨w.heap.size + 1, 2, none⟩) (by ((try simp only [World.size_alloc, World.size_setCell, size_drew, size_drewN]); omega))]; go_simp
    have hB : Below w.heap.size w w1 := Below.trans (by (repeat first | with_reducible exact Below.refl _ _ | (with_reducible refine Below.alloc ?_ ?_ _; rotate_left; exact (by first | omega | (simp; done))))) (hb.mono (by ((try simp only [World.size_alloc, World.size_setCell, size_drew, size_drewN]); omega)))
    have hz1 : w.heap.size + 1 < w1.heap.size := Nat.lt_of_lt_of_le (by ((try simp only [World.size_alloc, World.size_setCell, size_drew, size_drewN]); omega)) hb.size
    have hz0 : w.heap.size < w1.heap.size := by omega
    clear hb
    go_wp2_with fail
    go_ret2
    exact ⟨rfl, by (repeat with_reducible assumption)⟩
  rw [if_pos rfl]
  have hf := fit2_iff.1 hv
  have hs := sound_of hf.check
  have hfc := cells_fine hs.grid
  have e1 := hC.coils.1
  have e2 := hC.shells.1
  have e3 := hC.plasma.1
  have e4 := hf.coils.1
  have e5 := hf.shells.1
  have e6 := hf.plasma.1
  have e7 := hs.coils.1
  have e8 := hs.shells.1
  have l1 : Qr.la ≤ 1000 := by omega
  have l2 : Qr.lb ≤ 1000 := by omega
  have l3 : Qr.lc ≤ 1000 := by omega
  have HV0 := Lib.hid (fun W (hb : Below w.heap.size w W) => (by have := validCurrents_any R M Qr Cd W (hM.below hb) (hC.below hb); rw [hv] at this; exact this : Calls Tryz.prog 56 #[.agg (machCells R M), Qr.v] W (Ret (.bool true) W)))
  have HD0 := Lib.hid (fun W (hb : Below w.heap.size w W) => dark_any Qr.A Qr.B Qr.C Qr.la Qr.ca Qr.lb Qr.cb Qr.lc Qr.cc Cd.coils Cd.shells W (hC.below hb).coils (hC.below hb).shells (by omega) (by omega) (by omega))
  have HX0 := Lib.hid (fun (A' A2' : Option Addr) (ca' cb' pb : Nat) W (hb : Below w.heap.size w W) (hC' : IsC W ⟨A', A2', some ⟨pb, 0, none⟩, Qr.la, ca', Qr.lb, cb', Qr.lc, Qr.lc⟩ ⟨Cd.coils, Cd.shells, List.replicate Qr.lc 0⟩) => exact_any R M ⟨A', A2', some ⟨pb, 0, none⟩, Qr.la, ca', Qr.lb, cb', Qr.lc, Qr.lc⟩ ⟨Cd.coils, Cd.shells, List.replicate Qr.lc 0⟩ s W (hM.below hb) hC' i0 i1)
  unfold darkD
  rw [e3]
  clear hM hC hv hf hs hfc e1 e2 e3 e4 e5 e6 e7 e8
  obtain ⟨z1, z2, z3⟩ := Cd
  dsimp only at *
  generalize exactL M ⟨z1, z2, List.replicate Qr.lc 0⟩ s = G at *
  obtain ⟨G1, G2⟩ := G
  obtain ⟨A, B, Cl, D, la, ca, lb, cb, lc, cl, ld, cd⟩ := R
  obtain ⟨name, coils, shells, limits, ⟨r, z, nr, nz, step⟩, sensors⟩ := M
  obtain ⟨A1, B1, C1, na, qa, nb, qb, nc, qc⟩ := Qr
  dsimp only at *
  have HV := Lib.hid (show ∀ W, Below w.heap.size w W → Calls Tryz.prog 56 #[.agg #[.string name, .slice A la ca, .slice B lb cb, .slice Cl lc cl, .int .i64 r, .int .i64 z, .int .i64 nr, .int .i64 nz, .int .i64 step, .slice D ld cd], .agg #[.slice A1 na qa, .slice B1 nb qb, .slice C1 nc qc]] W (Ret (.bool true) W) from HV0.out)
  have HD := Lib.hid (show ∀ W, Below w.heap.size w W → Calls Tryz.prog 66 #[.agg #[.slice A1 na qa, .slice B1 nb qb, .slice C1 nc qc]] W (Dark na nb nc z1 z2 W) from HD0.out)
  have HX := Lib.hid (show ∀ (A' A2' : Option Addr) (ca' cb' pb : Nat) W, Below w.heap.size w W → IsC W ⟨A', A2', some ⟨pb, 0, none⟩, na, ca', nb, cb', nc, nc⟩ ⟨z1, z2, List.replicate nc 0⟩ → Calls Tryz.prog 58 #[.agg #[.string name, .slice A la ca, .slice B lb cb, .slice Cl lc cl, .int .i64 r, .int .i64 z, .int .i64 nr, .int .i64 nz, .int .i64 step, .slice D ld cd], .agg #[.slice A' na ca', .slice A2' nb cb', .slice (some ⟨pb, 0, none⟩) nc nc], .int .i64 s] W (Ret (.tuple #[.int .i64 G1, .int .i64 G2]) W) from HX0.out)
  clear HV0 HD0 HX0
  show Calls Tryz.prog 29 #[.agg #[.string name, .slice A la ca, .slice B lb cb, .slice Cl lc cl, .int .i64 r, .int .i64 z, .int .i64 nr, .int .i64 nz, .int .i64 step, .slice D ld cd], .agg #[.slice A1 na qa, .slice B1 nb qb, .slice C1 nc qc], .int .i64 s] w _
  go_enter Tryz.func29, Tryz.ntmps29
  go_wp2_with fail
  refine (HV.out _ (by (repeat first | with_reducible exact Below.refl _ _ | (with_reducible refine Below.alloc ?_ ?_ _; rotate_left; exact (by first | omega | (simp; done)))))).mono ?_
  rintro e w1 ⟨rfl, hb⟩
  have m0 : w1.cell? ⟨w.heap.size, 0, none⟩ = some (.string name) := by rw [hb.cell (p := ⟨w.heap.size, 0, none⟩) (by ((try simp only [World.size_alloc, World.size_setCell, size_drew, size_drewN]); omega))]; go_simp
  have m1 : w1.cell? ⟨w.heap.size, 1, none⟩ = some (.slice A la ca) := by rw [hb.cell (p := ⟨w.heap.size, 1, none⟩) (by ((try simp only [World.size_alloc, World.size_setCell, size_drew, size_drewN]); omega))]; go_simp
  have m2 : w1.cell? ⟨w.heap.size, 2, none⟩ = some (.slice B lb cb) := by rw [hb.cell (p := ⟨w.heap.size, 2, none⟩) (by ((try simp only [World.size_alloc, World.size_setCell, size_drew, size_drewN]); omega))]; go_simp
  have m3 : w1.cell? ⟨w.heap.size, 3, none⟩ = some (.slice Cl lc cl) := by rw [hb.cell (p := ⟨w.heap.size, 3, none⟩) (by ((try simp only [World.size_alloc, World.size_setCell, size_drew, size_drewN]); omega))]; go_simp
  have m4 : w1.cell? ⟨w.heap.size, 4, none⟩ = some (.int .i64 r) := by rw [hb.cell (p := ⟨w.heap.size, 4, none⟩) (by ((try simp only [World.size_alloc, World.size_setCell, size_drew, size_drewN]); omega))]; go_simp
  have m5 : w1.cell? ⟨w.heap.size, 5, none⟩ = some (.int .i64 z) := by rw [hb.cell (p := ⟨w.heap.size, 5, none⟩) (by ((try simp only [World.size_alloc, World.size_setCell, size_drew, size_drewN]); omega))]; go_simp
  have m6 : w1.cell? ⟨w.heap.size, 6, none⟩ = some (.int .i64 nr) := by rw [hb.cell (p := ⟨w.heap.size, 6, none⟩) (by ((try simp only [World.size_alloc, World.size_setCell, size_drew, size_drewN]); omega))]; go_simp
  have m7 : w1.cell? ⟨w.heap.size, 7, none⟩ = some (.int .i64 nz) := by rw [hb.cell (p := ⟨w.heap.size, 7, none⟩) (by ((try simp only [World.size_alloc, World.size_setCell, size_drew, size_drewN]); omega))]; go_simp
  have m8 : w1.cell? ⟨w.heap.size, 8, none⟩ = some (.int .i64 step) := by rw [hb.cell (p := ⟨w.heap.size, 8, none⟩) (by ((try simp only [World.size_alloc, World.size_setCell, size_drew, size_drewN]); omega))]; go_simp
  have m9 : w1.cell? ⟨w.heap.size, 9, none⟩ = some (.slice D ld cd) := by rw [hb.cell (p := ⟨w.heap.size, 9, none⟩) (by ((try simp only [World.size_alloc, World.size_setCell, size_drew, size_drewN]); omega))]; go_simp
  have c0 : w1.cell? ⟨w.heap.size + 1, 0, none⟩ = some (.slice A1 na qa) := by rw [hb.cell (p := ⟨w.heap.size + 1, 0, none⟩) (by ((try simp only [World.size_alloc, World.size_setCell, size_drew, size_drewN]); omega))]; go_simp
  have c1 : w1.cell? ⟨w.heap.size + 1, 1, none⟩ = some (.slice B1 nb qb) := by rw [hb.cell (p := ⟨w.heap.size + 1, 1, none⟩) (by ((try simp only [World.size_alloc, World.size_setCell, size_drew, size_drewN]); omega))]; go_simp
  have c2 : w1.cell? ⟨w.heap.size + 1, 2, none⟩ = some (.slice C1 nc qc) := by rw [hb.cell (p := ⟨w.heap.size + 1, 2, none⟩) (by ((try simp only [World.size_alloc, World.size_setCell, size_drew, size_drewN]); omega))]; go_simp
  have hB : Below w.heap.size w w1 := Below.trans (by (repeat first | with_reducible exact Below.refl _ _ | (with_reducible refine Below.alloc ?_ ?_ _; rotate_left; exact (by first | omega | (simp; done))))) (hb.mono (by ((try simp only [World.size_alloc, World.size_setCell, size_drew, size_drewN]); omega)))
  have hz1 : w.heap.size + 1 < w1.heap.size := Nat.lt_of_lt_of_le (by ((try simp only [World.size_alloc, World.size_setCell, size_drew, size_drewN]); omega)) hb.size
  have hz0 : w.heap.size < w1.heap.size := by omega
  clear hb
  go_wp2_with fail
  have HS : Hid (∀ w' : World, Reg (w1.heap.size) (w1) w' → (Reg (w1.heap.size) (w1) w' ∧ w'.cell? ⟨w.heap.size, 0, none⟩ = some (.string name) ∧ w'.cell? ⟨w.heap.size, 1, none⟩ = some (.slice A la ca) ∧ w'.cell? ⟨w.heap.size, 2, none⟩ = some (.slice B lb cb) ∧ w'.cell? ⟨w.heap.size, 3, none⟩ = some (.slice Cl lc cl) ∧ w'.cell? ⟨w.heap.size, 4, none⟩ = some (.int .i64 r) ∧ w'.cell? ⟨w.heap.size, 5, none⟩ = some (.int .i64 z) ∧ w'.cell? ⟨w.heap.size, 6, none⟩ = some (.int .i64 nr) ∧ w'.cell? ⟨w.heap.size, 7, none⟩ = some (.int .i64 nz) ∧ w'.cell? ⟨w.heap.size, 8, none⟩ = some (.int .i64 step) ∧ w'.cell? ⟨w.heap.size, 9, none⟩ = some (.slice D ld cd) ∧ w'.cell? ⟨w.heap.size + 1, 0, none⟩ = some (.slice A1 na qa) ∧ w'.cell? ⟨w.heap.size + 1, 1, none⟩ = some (.slice B1 nb qb) ∧ w'.cell? ⟨w.heap.size + 1, 2, none⟩ = some (.slice C1 nc qc))) := (fun w' h => by (have hc := h.cells; have hs := h.some; have hf := h.frozen; refine ⟨h, ?_⟩; (try simp only [World.size_alloc, World.size_setCell, size_drew, size_drewN] at hc hs hf); first | (simp (disch := omega) only [hc, hs, hf, cur_iff]; (try go_simp); done) | (simp (disch := first | omega | (simp; done)) only [hc, hs, hf, cur_iff]; (try go_simp); done) | (simp (maxDischargeDepth := 4) [hc, hs, hf, cur_iff, go_sem]; done) | (go_simp; done) | (simp (maxDischargeDepth := 4) [hc, hs, hf, cur_iff, go_sem]; go_simp))); go_region_held3 (fun w' => Reg (w1.heap.size) (w1) w' ∧ w'.cell? ⟨w.heap.size, 0, none⟩ = some (.string name) ∧ w'.cell? ⟨w.heap.size, 1, none⟩ = some (.slice A la ca) ∧ w'.cell? ⟨w.heap.size, 2, none⟩ = some (.slice B lb cb) ∧ w'.cell? ⟨w.heap.size, 3, none⟩ = some (.slice Cl lc cl) ∧ w'.cell? ⟨w.heap.size, 4, none⟩ = some (.int .i64 r) ∧ w'.cell? ⟨w.heap.size, 5, none⟩ = some (.int .i64 z) ∧ w'.cell? ⟨w.heap.size, 6, none⟩ = some (.int .i64 nr) ∧ w'.cell? ⟨w.heap.size, 7, none⟩ = some (.int .i64 nz) ∧ w'.cell? ⟨w.heap.size, 8, none⟩ = some (.int .i64 step) ∧ w'.cell? ⟨w.heap.size, 9, none⟩ = some (.slice D ld cd) ∧ w'.cell? ⟨w.heap.size + 1, 0, none⟩ = some (.slice A1 na qa) ∧ w'.cell? ⟨w.heap.size + 1, 1, none⟩ = some (.slice B1 nb qb) ∧ w'.cell? ⟨w.heap.size + 1, 2, none⟩ = some (.slice C1 nc qc)) (exact HS.out _ (by (repeat first | with_reducible exact Reg.refl _ _ | with_reducible exact (‹Reg _ _ _ ∧ _›).1 | with_reducible refine Reg.drew ?_ | (with_reducible apply Reg.call; rotate_left; with_reducible assumption)))) (first | (go_at_call 66; (with_reducible refine (HD.out _ (Reg.out (‹Reg _ _ _ ∧ _›).1 (by (repeat with_reducible assumption)) (by omega))).mono ?_); rintro e w8 ⟨A', ca', A2', cb', pb, rfl, hd0, hb⟩; have hd := dark_isC hd0 l1 l2 l3; clear hd0; (skip); (try simp only [World.size_alloc, World.size_setCell, size_drew, size_drewN] at hk); obtain ⟨hc, hf⟩ := bcell hb; have hs := hb.size; (try simp only [World.size_alloc, World.size_setCell, size_drew, size_drewN] at hs)) | (go_at_call 58; (with_reducible refine (HX.out _ _ _ _ _ _ (Reg.out (‹Reg _ _ _ ∧ _›).1 (by (repeat with_reducible assumption)) (by omega)) (by assumption)).mono ?_); rintro e w9 ⟨rfl, hb⟩; (skip); (try simp only [World.size_alloc, World.size_setCell, size_drew, size_drewN] at hk); obtain ⟨hc, hf⟩ := bcell hb; have hs := hb.size; (try simp only [World.size_alloc, World.size_setCell, size_drew, size_drewN] at hs)))
  all_goals go_wp2_with fail
  all_goals go_ret2
  all_goals exact ⟨rfl, (Reg.out (‹Reg _ _ _ ∧ _›).1 (by (repeat with_reducible assumption)) (by omega))⟩
end
section
open Go.RowKit Go.Shelf
theorem isT_sub1 {α : Type} {n : Nat} {enc : α → List Value} {w : World} {A : Option Addr} {len : Nat} {zs : List α} (h : IsT n enc w A len zs) {k : Nat} {x : α} (hx : zs[k]? = some x) :
    ∃ b o : Nat, A = some ⟨b, o, none⟩ ∧ b < w.heap.size ∧ IsT n enc w (some ⟨b, o + k * n, none⟩) 1 [x] := by
  have hk : k < len := by rw [← h.1]; exact (List.getElem?_eq_some_iff.1 hx).1
  obtain ⟨b, o, e, h1, h2⟩ := h.2 (by omega)
  refine ⟨b, o, e, h1, rfl, fun _ => ⟨b, o + k * n, rfl, h1, fun j y hy i v hv => ?_⟩⟩
  have hj : j = 0 := by
    have := (List.getElem?_eq_some_iff.1 hy).1
    simp at this; omega
  subst hj
  obtain rfl : x = y := by simpa using hy
  have := h2 k x hx i v hv
  rw [show o + k * n + 0 * n + i = o + k * n + i by omega]
  exact this
def aloneM (M : MachD) (x : SensorD) (X Y : Int) : MachD := ⟨M.name, [], [], M.limits.take 1, ⟨X, Y, 1, 1, 1⟩, [x]⟩
def oneC4 : CurD := ⟨[], [], [1]⟩
theorem isC_one {W : World} {pb : Nat} (h : W.cell? ⟨pb, 0, none⟩ = some (.int .i64 1)) (hp : pb < W.heap.size) : IsC W ⟨none, none, some ⟨pb, 0, none⟩, 0, 0, 0, 0, 1, 1⟩ oneC4 := by
  refine ⟨IsT.nil _ _ _ _, IsT.nil _ _ _ _, ⟨rfl, fun _ => ⟨pb, 0, rfl, hp, fun j x hx i v hv => ?_⟩⟩, by dsimp only; omega, by dsimp only; omega, by dsimp only; omega, by dsimp only; omega, by dsimp only; omega, by dsimp only; omega, by dsimp only; omega, by dsimp only; omega, by dsimp only; omega⟩
  have hj : j = 0 := by
    have := (List.getElem?_eq_some_iff.1 hx).1
    simp [oneC4] at this; omega
  subst hj
  have hi : i = 0 := by
    have := (List.getElem?_eq_some_iff.1 hv).1
    simp [intCells] at this; omega
  subst hi
  obtain rfl : x = 1 := by simpa [oneC4] using hx.symm
  have hv' : v = .int .i64 1 := by simpa [intCells] using hv.symm
  subst hv'
  exact h
set_option maxRecDepth 100000 in
set_option maxHeartbeats 8000000 in
theorem respAt_any (R : MachR) (M : MachD) (k : Nat) (x : SensorD) (X Y : Int) (w : World) (hM : IsM w R M) (hx : M.sensors[k]? = some x) (hl : 1 ≤ R.lc) :
    Calls Tryz.prog 65 #[.agg (machCells R M), .int .i64 k, .agg #[.int .i64 X, .int .i64 Y]] w (Ret (.int .i64 (exactL (aloneM M x X Y) oneC4 0).1) w) := by
  obtain ⟨b, o, hD, hb0, hsub⟩ := isT_sub1 hM.sensors hx
  have hk : k < R.ld := by have := hM.sensors.1; have := (List.getElem?_eq_some_iff.1 hx).1; omega
  have hld := hM.ld
  have hlc := hM.lc
  have hcc := hM.cc
  have hcd := hM.cd
  have hkd := hM.kd
  have hM' : IsM w ⟨none, none, R.C, some ⟨b, o + k * 5, none⟩, 0, 0, 0, 0, 1, R.cc, 1, R.cd - k⟩ (aloneM M x X Y) :=
    ⟨IsT.nil _ _ _ _, IsT.nil _ _ _ _, hM.limits.take hl, hsub, by dsimp only; omega, by dsimp only; omega, by dsimp only; omega, by dsimp only; omega, by dsimp only; omega, by dsimp only; omega, by dsimp only; omega, by dsimp only; omega, by dsimp only; omega, by dsimp only; omega, by dsimp only; omega, by dsimp only; omega⟩
  have HX0 := Lib.hid (fun (pb : Nat) W (hb : Below w.heap.size w W) (hc : IsC W ⟨none, none, some ⟨pb, 0, none⟩, 0, 0, 0, 0, 1, 1⟩ oneC4) => exact_any _ (aloneM M x X Y) _ oneC4 0 W (hM'.below hb) hc (by omega) (by omega))
  generalize exactL (aloneM M x X Y) oneC4 0 = G at *
  obtain ⟨G1, G2⟩ := G
  clear hM hM' hsub hx
  unfold aloneM at HX0
  obtain ⟨A, B, Cl, D, la, ca, lb, cb, lc, cl, ld, cd⟩ := R
  obtain ⟨name, coils, shells, limits, ⟨r, z, nr, nz, step⟩, sensors⟩ := M
  dsimp only at *
  subst hD
  have HX := Lib.hid (show ∀ (pb : Nat) W, Below w.heap.size w W → IsC W ⟨none, none, some ⟨pb, 0, none⟩, 0, 0, 0, 0, 1, 1⟩ oneC4 → Calls Tryz.prog 58 #[.agg #[.string name, .slice none 0 0, .slice none 0 0, .slice Cl 1 cl, .int .i64 X, .int .i64 Y, .int .i64 1, .int .i64 1, .int .i64 1, .slice (some ⟨b, o + k * 5, none⟩) 1 (cd - k)], .agg #[.slice none 0 0, .slice none 0 0, .slice (some ⟨pb, 0, none⟩) 1 1], .int .i64 0] W (Ret (.tuple #[.int .i64 G1, .int .i64 G2]) W) from HX0.out)
  clear HX0
  show Calls Tryz.prog 65 #[.agg #[.string name, .slice A la ca, .slice B lb cb, .slice Cl lc cl, .int .i64 r, .int .i64 z, .int .i64 nr, .int .i64 nz, .int .i64 step, .slice (some ⟨b, o, none⟩) ld cd], .int .i64 k, .agg #[.int .i64 X, .int .i64 Y]] w _
  have k0 : (0 : Int) ≤ k := by omega
  have w1 : IntKind.i64.wrap ((k : Int) + 1) = (k : Int) + 1 := IntWalk.i64_in _ (by omega)
  have n1 : ((k : Int)).toNat = k := by omega
  have n2 : ((k : Int) + 1).toNat = k + 1 := by omega
  have n3 : k + 1 - k = 1 := by omega
  have n4 : ¬ k = cd := by omega
  have i0 : (0 : Int) ≤ (cl : Int) := by omega
  have i1 : (1 : Int) ≤ (cl : Int) := by omega
  have i2 : (k : Int) + 1 ≤ (cd : Int) := by omega
  have i3 : (k : Int) ≤ (k : Int) + 1 := by omega
  have i4 : (k : Int) ≤ (cd : Int) := by omega
  have i5 : (0 : Int) ≤ (k : Int) + 1 := by omega
  have i6 : k < cd := by omega
  have i7 : 1 ≤ cl := by omega
  go_enter Tryz.func65, Tryz.ntmps65
  go_upto_region 1 with (fail)
  have m0 : ((w.alloc (.cells #[.string name, .slice A la ca, .slice B lb cb, .slice Cl lc cl, .int .i64 r, .int .i64 z, .int .i64 nr, .int .i64 nz, .int .i64 step, .slice (some ⟨b, o, none⟩) ld cd] 29)).alloc (.cells #[.int .i64 X, .int .i64 Y] 79)).cell? ⟨w.heap.size, 0, none⟩ = some (.string name) := by go_simp
  have m1 : ((w.alloc (.cells #[.string name, .slice A la ca, .slice B lb cb, .slice Cl lc cl, .int .i64 r, .int .i64 z, .int .i64 nr, .int .i64 nz, .int .i64 step, .slice (some ⟨b, o, none⟩) ld cd] 29)).alloc (.cells #[.int .i64 X, .int .i64 Y] 79)).cell? ⟨w.heap.size, 1, none⟩ = some (.slice A la ca) := by go_simp
  have m2 : ((w.alloc (.cells #[.string name, .slice A la ca, .slice B lb cb, .slice Cl lc cl, .int .i64 r, .int .i64 z, .int .i64 nr, .int .i64 nz, .int .i64 step, .slice (some ⟨b, o, none⟩) ld cd] 29)).alloc (.cells #[.int .i64 X, .int .i64 Y] 79)).cell? ⟨w.heap.size, 2, none⟩ = some (.slice B lb cb) := by go_simp
  have m3 : ((w.alloc (.cells #[.string name, .slice A la ca, .slice B lb cb, .slice Cl lc cl, .int .i64 r, .int .i64 z, .int .i64 nr, .int .i64 nz, .int .i64 step, .slice (some ⟨b, o, none⟩) ld cd] 29)).alloc (.cells #[.int .i64 X, .int .i64 Y] 79)).cell? ⟨w.heap.size, 3, none⟩ = some (.slice Cl lc cl) := by go_simp
  have m4 : ((w.alloc (.cells #[.string name, .slice A la ca, .slice B lb cb, .slice Cl lc cl, .int .i64 r, .int .i64 z, .int .i64 nr, .int .i64 nz, .int .i64 step, .slice (some ⟨b, o, none⟩) ld cd] 29)).alloc (.cells #[.int .i64 X, .int .i64 Y] 79)).cell? ⟨w.heap.size, 4, none⟩ = some (.int .i64 r) := by go_simp
  have m5 : ((w.alloc (.cells #[.string name, .slice A la ca, .slice B lb cb, .slice Cl lc cl, .int .i64 r, .int .i64 z, .int .i64 nr, .int .i64 nz, .int .i64 step, .slice (some ⟨b, o, none⟩) ld cd] 29)).alloc (.cells #[.int .i64 X, .int .i64 Y] 79)).cell? ⟨w.heap.size, 5, none⟩ = some (.int .i64 z) := by go_simp
  have m6 : ((w.alloc (.cells #[.string name, .slice A la ca, .slice B lb cb, .slice Cl lc cl, .int .i64 r, .int .i64 z, .int .i64 nr, .int .i64 nz, .int .i64 step, .slice (some ⟨b, o, none⟩) ld cd] 29)).alloc (.cells #[.int .i64 X, .int .i64 Y] 79)).cell? ⟨w.heap.size, 6, none⟩ = some (.int .i64 nr) := by go_simp
  have m7 : ((w.alloc (.cells #[.string name, .slice A la ca, .slice B lb cb, .slice Cl lc cl, .int .i64 r, .int .i64 z, .int .i64 nr, .int .i64 nz, .int .i64 step, .slice (some ⟨b, o, none⟩) ld cd] 29)).alloc (.cells #[.int .i64 X, .int .i64 Y] 79)).cell? ⟨w.heap.size, 7, none⟩ = some (.int .i64 nz) := by go_simp
  have m8 : ((w.alloc (.cells #[.string name, .slice A la ca, .slice B lb cb, .slice Cl lc cl, .int .i64 r, .int .i64 z, .int .i64 nr, .int .i64 nz, .int .i64 step, .slice (some ⟨b, o, none⟩) ld cd] 29)).alloc (.cells #[.int .i64 X, .int .i64 Y] 79)).cell? ⟨w.heap.size, 8, none⟩ = some (.int .i64 step) := by go_simp
  have m9 : ((w.alloc (.cells #[.string name, .slice A la ca, .slice B lb cb, .slice Cl lc cl, .int .i64 r, .int .i64 z, .int .i64 nr, .int .i64 nz, .int .i64 step, .slice (some ⟨b, o, none⟩) ld cd] 29)).alloc (.cells #[.int .i64 X, .int .i64 Y] 79)).cell? ⟨w.heap.size, 9, none⟩ = some (.slice (some ⟨b, o, none⟩) ld cd) := by go_simp
  have p0 : ((w.alloc (.cells #[.string name, .slice A la ca, .slice B lb cb, .slice Cl lc cl, .int .i64 r, .int .i64 z, .int .i64 nr, .int .i64 nz, .int .i64 step, .slice (some ⟨b, o, none⟩) ld cd] 29)).alloc (.cells #[.int .i64 X, .int .i64 Y] 79)).cell? ⟨w.heap.size + 1, 0, none⟩ = some (.int .i64 X) := by go_simp
  have p1 : ((w.alloc (.cells #[.string name, .slice A la ca, .slice B lb cb, .slice Cl lc cl, .int .i64 r, .int .i64 z, .int .i64 nr, .int .i64 nz, .int .i64 step, .slice (some ⟨b, o, none⟩) ld cd] 29)).alloc (.cells #[.int .i64 X, .int .i64 Y] 79)).cell? ⟨w.heap.size + 1, 1, none⟩ = some (.int .i64 Y) := by go_simp
  have hB : Below w.heap.size w ((w.alloc (.cells #[.string name, .slice A la ca, .slice B lb cb, .slice Cl lc cl, .int .i64 r, .int .i64 z, .int .i64 nr, .int .i64 nz, .int .i64 step, .slice (some ⟨b, o, none⟩) ld cd] 29)).alloc (.cells #[.int .i64 X, .int .i64 Y] 79)) := by (repeat first | with_reducible exact Below.refl _ _ | (with_reducible refine Below.alloc ?_ ?_ _; rotate_left; exact (by first | omega | (simp; done))))
  have hz : w.heap.size + 1 < ((w.alloc (.cells #[.string name, .slice A la ca, .slice B lb cb, .slice Cl lc cl, .int .i64 r, .int .i64 z, .int .i64 nr, .int .i64 nz, .int .i64 step, .slice (some ⟨b, o, none⟩) ld cd] 29)).alloc (.cells #[.int .i64 X, .int .i64 Y] 79)).heap.size := by simp
  obtain ⟨W0, hW0⟩ : ∃ W, (w.alloc (.cells #[.string name, .slice A la ca, .slice B lb cb, .slice Cl lc cl, .int .i64 r, .int .i64 z, .int .i64 nr, .int .i64 nz, .int .i64 step, .slice (some ⟨b, o, none⟩) ld cd] 29)).alloc (.cells #[.int .i64 X, .int .i64 Y] 79) = W := ⟨_, rfl⟩
  rw [hW0] at m0 m1 m2 m3 m4 m5 m6 m7 m8 m9 p0 p1 hB hz ⊢
  clear hW0
  go_cut [7] (fun s7 wx => ∃ y : Nat, s7 = .pointer (some ⟨y, 0, none⟩) ∧ wx.cell? ⟨y, 0, none⟩ = some (.string name) ∧ wx.cell? ⟨y, 1, none⟩ = some (.slice none 0 0) ∧ wx.cell? ⟨y, 2, none⟩ = some (.slice none 0 0) ∧ wx.cell? ⟨y, 3, none⟩ = some (.slice Cl 1 cl) ∧ wx.cell? ⟨y, 4, none⟩ = some (.int .i64 X) ∧ wx.cell? ⟨y, 5, none⟩ = some (.int .i64 Y) ∧ wx.cell? ⟨y, 6, none⟩ = some (.int .i64 1) ∧ wx.cell? ⟨y, 7, none⟩ = some (.int .i64 1) ∧ wx.cell? ⟨y, 8, none⟩ = some (.int .i64 1) ∧ wx.cell? ⟨y, 9, none⟩ = some (.slice (some ⟨b, o + k * 5, none⟩) 1 (cd - k)) ∧ y < wx.heap.size ∧ W0.heap.size ≤ y ∧ Below W0.heap.size W0 wx)
  case first =>
    have HS : Hid (∀ w' : World, Reg (W0.heap.size) (W0) w' → (Reg (W0.heap.size) (W0) w' ∧ w'.cell? ⟨w.heap.size, 0, none⟩ = some (.string name) ∧ w'.cell? ⟨w.heap.size, 1, none⟩ = some (.slice A la ca) ∧ w'.cell? ⟨w.heap.size, 2, none⟩ = some (.slice B lb cb) ∧ w'.cell? ⟨w.heap.size, 3, none⟩ = some (.slice Cl lc cl) ∧ w'.cell? ⟨w.heap.size, 4, none⟩ = some (.int .i64 r) ∧ w'.cell? ⟨w.heap.size, 5, none⟩ = some (.int .i64 z) ∧ w'.cell? ⟨w.heap.size, 6, none⟩ = some (.int .i64 nr) ∧ w'.cell? ⟨w.heap.size, 7, none⟩ = some (.int .i64 nz) ∧ w'.cell? ⟨w.heap.size, 8, none⟩ = some (.int .i64 step) ∧ w'.cell? ⟨w.heap.size, 9, none⟩ = some (.slice (some ⟨b, o, none⟩) ld cd) ∧ w'.cell? ⟨w.heap.size + 1, 0, none⟩ = some (.int .i64 X) ∧ w'.cell? ⟨w.heap.size + 1, 1, none⟩ = some (.int .i64 Y))) := (fun w' h => by (have hc := h.cells; have hs := h.some; have hf := h.frozen; refine ⟨h, ?_⟩; (try simp only [World.size_alloc, World.size_setCell, size_drew, size_drewN] at hc hs hf); first | (simp (disch := omega) only [hc, hs, hf, cur_iff]; (try go_simp); done) | (simp (disch := first | omega | (simp; done)) only [hc, hs, hf, cur_iff]; (try go_simp); done) | (simp (maxDischargeDepth := 4) [hc, hs, hf, cur_iff, go_sem]; done) | (go_simp; done) | (simp (maxDischargeDepth := 4) [hc, hs, hf, cur_iff, go_sem]; go_simp))); go_region_held3 (fun w' => Reg (W0.heap.size) (W0) w' ∧ w'.cell? ⟨w.heap.size, 0, none⟩ = some (.string name) ∧ w'.cell? ⟨w.heap.size, 1, none⟩ = some (.slice A la ca) ∧ w'.cell? ⟨w.heap.size, 2, none⟩ = some (.slice B lb cb) ∧ w'.cell? ⟨w.heap.size, 3, none⟩ = some (.slice Cl lc cl) ∧ w'.cell? ⟨w.heap.size, 4, none⟩ = some (.int .i64 r) ∧ w'.cell? ⟨w.heap.size, 5, none⟩ = some (.int .i64 z) ∧ w'.cell? ⟨w.heap.size, 6, none⟩ = some (.int .i64 nr) ∧ w'.cell? ⟨w.heap.size, 7, none⟩ = some (.int .i64 nz) ∧ w'.cell? ⟨w.heap.size, 8, none⟩ = some (.int .i64 step) ∧ w'.cell? ⟨w.heap.size, 9, none⟩ = some (.slice (some ⟨b, o, none⟩) ld cd) ∧ w'.cell? ⟨w.heap.size + 1, 0, none⟩ = some (.int .i64 X) ∧ w'.cell? ⟨w.heap.size + 1, 1, none⟩ = some (.int .i64 Y)) (exact HS.out _ (by (repeat first | with_reducible exact Reg.refl _ _ | with_reducible refine Reg.alloc ?_ _ | with_reducible refine Reg.drew ?_))) (first | fail)
    all_goals go_wp2_with fail
    all_goals go_meet
    all_goals exact ⟨_, rfl, by go_simp, by go_simp, by go_simp, by go_simp, by go_simp, by go_simp, by go_simp, by go_simp, by go_simp, by go_simp, (by ((try simp only [World.size_alloc, World.size_setCell, size_drew, size_drewN]); omega)), (by omega), by (repeat first | with_reducible exact Below.refl _ _ | (with_reducible refine Below.alloc ?_ ?_ _; rotate_left; exact (by omega)) | with_reducible refine Below.drew ?_)⟩
  case rest =>
    obtain ⟨y, rfl, a0, a1, a2, a3, a4, a5, a6, a7, a8, a9, hy, ly, hb⟩ := hcut
    have hBc := hB.trans (hb.mono hB.size)
    have hsz := hBc.size
    clear hb ly hz hB m0 m1 m2 m3 m4 m5 m6 m7 m8 m9 p0 p1
    go_wp2_with fail
    refine (HX.out _ _ (by (repeat first | with_reducible assumption | (with_reducible refine Below.alloc ?_ ?_ _; rotate_left; exact (by omega)))) (isC_one (by go_simp) (by simp))).mono ?_
    rintro e w3 ⟨rfl, hb⟩
    have hB3 : Below w.heap.size w w3 := Below.trans (by (repeat first | with_reducible assumption | (with_reducible refine Below.alloc ?_ ?_ _; rotate_left; exact (by omega)))) (hb.mono (by ((try simp only [World.size_alloc, World.size_setCell, size_drew, size_drewN]); omega)))
    clear hb a0 a1 a2 a3 a4 a5 a6 a7 a8 a9
    go_wp2_with fail
    go_ret
    exact ⟨rfl, by (repeat with_reducible assumption)⟩
end
section
open Go.RowKit Go.Shelf
def respL (M : MachD) (s cell : Int) : Int × Int :=
  if (cellL M cell).2.2 = 0 then if wthn s 0 ((M.sensors.length : Int) - 1) = true then match M.sensors[s.toNat]? with
    | some x => ((exactL (aloneM M x (cellL M cell).1 (cellL M cell).2.1) oneC4 0).1, 0)
    | none => (0, 7)
  else (0, 7) else (0, (cellL M cell).2.2)
theorem cellL_check {M : MachD} {i : Int} (h : (cellL M i).2.2 = 0) : checkC M = 0 := by
  unfold cellL at h
  by_cases hc : checkC M = 0
  · exact hc
  · rw [if_neg hc] at h; simp at h
theorem limits_pos {M : MachD} (h : checkC M = 0) : 0 < M.limits.length := by
  have h4 := (orL_zero (orL_zero (orL_zero (orL_zero h).2).2).2).1
  unfold limitsC at h4
  by_cases h0 : M.limits.length = 0
  · rw [if_pos h0] at h4; simp at h4
  · omega
set_option maxRecDepth 100000 in
set_option maxHeartbeats 8000000 in
theorem response_any (R : MachR) (M : MachD) (s cell : Int) (w : World) (hM : IsM w R M) :
    Calls Tryz.prog 28 #[.agg (machCells R M), .int .i64 s, .int .i64 cell] w (Ret (.tuple #[.int .i64 (respL M s cell).1, .int .i64 (respL M s cell).2]) w) := by
  have HC0 := Lib.hid (fun W (hb : Below w.heap.size w W) => mcell_any R M cell W (hM.below hb))
  have hl := hM.sensors.1
  have hlim := hM.limits.1
  have hkd := hM.kd
  unfold respL
  by_cases he : (cellL M cell).2.2 = 0
  rotate_left
  · rw [if_neg he]
    clear hM hl hlim hkd
    generalize (cellL M cell).1 = X at *
    generalize (cellL M cell).2.1 = Y at *
    generalize (cellL M cell).2.2 = e at *
    have heb : (e != 0) = true := by rw [bne_iff_ne]; exact he
    obtain ⟨A, B, Cl, D, la, ca, lb, cb, lc, cl, ld, cd⟩ := R
    obtain ⟨name, coils, shells, limits, ⟨r, z, nr, nz, step⟩, sensors⟩ := M
    have HC := Lib.hid (show ∀ W, Below w.heap.size w W → Calls Tryz.prog 64 #[.agg #[.string name, .slice A la ca, .slice B lb cb, .slice Cl lc cl, .int .i64 r, .int .i64 z, .int .i64 nr, .int .i64 nz, .int .i64 step, .slice D ld cd], .int .i64 cell] W (Ret (.tuple #[.agg #[.int .i64 X, .int .i64 Y], .int .i64 e]) W) from HC0.out)
    clear HC0 he
    show Calls Tryz.prog 28 #[.agg #[.string name, .slice A la ca, .slice B lb cb, .slice Cl lc cl, .int .i64 r, .int .i64 z, .int .i64 nr, .int .i64 nz, .int .i64 step, .slice D ld cd], .int .i64 s, .int .i64 cell] w _
    go_enter Tryz.func28, Tryz.ntmps28
    go_wp2_with fail
    refine (HC.out _ (by (repeat first | with_reducible exact Below.refl _ _ | (with_reducible refine Below.alloc ?_ ?_ _; rotate_left; exact (by omega))))).mono ?_
    rintro _ w1 ⟨rfl, hb⟩
    have hB : Below w.heap.size w w1 := Below.trans (by (repeat first | with_reducible exact Below.refl _ _ | (with_reducible refine Below.alloc ?_ ?_ _; rotate_left; exact (by omega)))) (hb.mono (by ((try simp only [World.size_alloc, World.size_setCell, size_drew, size_drewN]); omega)))
    have hz := hB.size
    clear hb
    go_wp2_with fail
    go_ret2
    exact ⟨rfl, by (repeat first | with_reducible assumption | (with_reducible refine Below.alloc ?_ ?_ _; rotate_left; exact (by omega)))⟩
  rw [if_pos he]
  cases hw : wthn s 0 ((M.sensors.length : Int) - 1)
  · rw [hl] at hw
    clear hM hl hlim
    generalize (cellL M cell).1 = X at *
    generalize (cellL M cell).2.1 = Y at *
    generalize (cellL M cell).2.2 = e at *
    subst he
    obtain ⟨A, B, Cl, D, la, ca, lb, cb, lc, cl, ld, cd⟩ := R
    obtain ⟨name, coils, shells, limits, ⟨r, z, nr, nz, step⟩, sensors⟩ := M
    dsimp only at hw hkd
    have HC := Lib.hid (show ∀ W, Below w.heap.size w W → Calls Tryz.prog 64 #[.agg #[.string name, .slice A la ca, .slice B lb cb, .slice Cl lc cl, .int .i64 r, .int .i64 z, .int .i64 nr, .int .i64 nz, .int .i64 step, .slice D ld cd], .int .i64 cell] W (Ret (.tuple #[.agg #[.int .i64 X, .int .i64 Y], .int .i64 0]) W) from HC0.out)
    clear HC0
    show Calls Tryz.prog 28 #[.agg #[.string name, .slice A la ca, .slice B lb cb, .slice Cl lc cl, .int .i64 r, .int .i64 z, .int .i64 nr, .int .i64 nz, .int .i64 step, .slice D ld cd], .int .i64 s, .int .i64 cell] w _
    go_enter Tryz.func28, Tryz.ntmps28
    go_wp2_with fail
    refine (HC.out _ (by (repeat first | with_reducible exact Below.refl _ _ | (with_reducible refine Below.alloc ?_ ?_ _; rotate_left; exact (by omega))))).mono ?_
    rintro _ w1 ⟨rfl, hb⟩
    have m9 : w1.cell? ⟨w.heap.size, 9, none⟩ = some (.slice D ld cd) := by rw [hb.cell (p := ⟨w.heap.size, 9, none⟩) (by ((try simp only [World.size_alloc, World.size_setCell, size_drew, size_drewN]); omega))]; go_simp
    have hB : Below w.heap.size w w1 := Below.trans (by (repeat first | with_reducible exact Below.refl _ _ | (with_reducible refine Below.alloc ?_ ?_ _; rotate_left; exact (by omega)))) (hb.mono (by ((try simp only [World.size_alloc, World.size_setCell, size_drew, size_drewN]); omega)))
    have hz0 : w.heap.size < w1.heap.size := Nat.lt_of_lt_of_le (by ((try simp only [World.size_alloc, World.size_setCell, size_drew, size_drewN]); omega)) hb.size
    clear hb
    go_wp2_with (go_at_call 37; refine (seWithin_any _ _ _ _).mono ?_; rintro e w' ⟨rfl, rfl⟩)
    go_ret2
    exact ⟨rfl, by (repeat first | with_reducible assumption | (with_reducible refine Below.alloc ?_ ?_ _; rotate_left; exact (by omega)))⟩
  obtain ⟨j0, j1⟩ := wthn_iff.1 hw
  obtain ⟨k, rfl⟩ : ∃ k : Nat, s = k := ⟨s.toNat, by omega⟩
  obtain ⟨x, hx⟩ : ∃ x, M.sensors[k]? = some x := ⟨_, List.getElem?_eq_getElem (by omega)⟩
  rw [if_pos rfl, Int.toNat_natCast, hx]
  have hc := cellL_check he
  have hlp := limits_pos hc
  have HR0 := Lib.hid (fun W (hb : Below w.heap.size w W) => respAt_any R M k x (cellL M cell).1 (cellL M cell).2.1 W (hM.below hb) hx (by omega))
  dsimp only
  generalize (exactL (aloneM M x (cellL M cell).1 (cellL M cell).2.1) oneC4 0).1 = G at *
  rw [hl] at hw
  clear hM hl hlim hx hc hlp j0 j1
  generalize (cellL M cell).1 = X at *
  generalize (cellL M cell).2.1 = Y at *
  generalize (cellL M cell).2.2 = e at *
  subst he
  obtain ⟨A, B, Cl, D, la, ca, lb, cb, lc, cl, ld, cd⟩ := R
  obtain ⟨name, coils, shells, limits, ⟨r, z, nr, nz, step⟩, sensors⟩ := M
  dsimp only at hw hkd
  have HC := Lib.hid (show ∀ W, Below w.heap.size w W → Calls Tryz.prog 64 #[.agg #[.string name, .slice A la ca, .slice B lb cb, .slice Cl lc cl, .int .i64 r, .int .i64 z, .int .i64 nr, .int .i64 nz, .int .i64 step, .slice D ld cd], .int .i64 cell] W (Ret (.tuple #[.agg #[.int .i64 X, .int .i64 Y], .int .i64 0]) W) from HC0.out)
  have HR := Lib.hid (show ∀ W, Below w.heap.size w W → Calls Tryz.prog 65 #[.agg #[.string name, .slice A la ca, .slice B lb cb, .slice Cl lc cl, .int .i64 r, .int .i64 z, .int .i64 nr, .int .i64 nz, .int .i64 step, .slice D ld cd], .int .i64 k, .agg #[.int .i64 X, .int .i64 Y]] W (Ret (.int .i64 G) W) from HR0.out)
  clear HC0 HR0
  show Calls Tryz.prog 28 #[.agg #[.string name, .slice A la ca, .slice B lb cb, .slice Cl lc cl, .int .i64 r, .int .i64 z, .int .i64 nr, .int .i64 nz, .int .i64 step, .slice D ld cd], .int .i64 k, .int .i64 cell] w _
  go_enter Tryz.func28, Tryz.ntmps28
  go_wp2_with fail
  refine (HC.out _ (by (repeat first | with_reducible exact Below.refl _ _ | (with_reducible refine Below.alloc ?_ ?_ _; rotate_left; exact (by omega))))).mono ?_
  rintro _ w1 ⟨rfl, hb⟩
  have m0 : w1.cell? ⟨w.heap.size, 0, none⟩ = some (.string name) := by rw [hb.cell (p := ⟨w.heap.size, 0, none⟩) (by ((try simp only [World.size_alloc, World.size_setCell, size_drew, size_drewN]); omega))]; go_simp
  have m1 : w1.cell? ⟨w.heap.size, 1, none⟩ = some (.slice A la ca) := by rw [hb.cell (p := ⟨w.heap.size, 1, none⟩) (by ((try simp only [World.size_alloc, World.size_setCell, size_drew, size_drewN]); omega))]; go_simp
  have m2 : w1.cell? ⟨w.heap.size, 2, none⟩ = some (.slice B lb cb) := by rw [hb.cell (p := ⟨w.heap.size, 2, none⟩) (by ((try simp only [World.size_alloc, World.size_setCell, size_drew, size_drewN]); omega))]; go_simp
  have m3 : w1.cell? ⟨w.heap.size, 3, none⟩ = some (.slice Cl lc cl) := by rw [hb.cell (p := ⟨w.heap.size, 3, none⟩) (by ((try simp only [World.size_alloc, World.size_setCell, size_drew, size_drewN]); omega))]; go_simp
  have m4 : w1.cell? ⟨w.heap.size, 4, none⟩ = some (.int .i64 r) := by rw [hb.cell (p := ⟨w.heap.size, 4, none⟩) (by ((try simp only [World.size_alloc, World.size_setCell, size_drew, size_drewN]); omega))]; go_simp
  have m5 : w1.cell? ⟨w.heap.size, 5, none⟩ = some (.int .i64 z) := by rw [hb.cell (p := ⟨w.heap.size, 5, none⟩) (by ((try simp only [World.size_alloc, World.size_setCell, size_drew, size_drewN]); omega))]; go_simp
  have m6 : w1.cell? ⟨w.heap.size, 6, none⟩ = some (.int .i64 nr) := by rw [hb.cell (p := ⟨w.heap.size, 6, none⟩) (by ((try simp only [World.size_alloc, World.size_setCell, size_drew, size_drewN]); omega))]; go_simp
  have m7 : w1.cell? ⟨w.heap.size, 7, none⟩ = some (.int .i64 nz) := by rw [hb.cell (p := ⟨w.heap.size, 7, none⟩) (by ((try simp only [World.size_alloc, World.size_setCell, size_drew, size_drewN]); omega))]; go_simp
  have m8 : w1.cell? ⟨w.heap.size, 8, none⟩ = some (.int .i64 step) := by rw [hb.cell (p := ⟨w.heap.size, 8, none⟩) (by ((try simp only [World.size_alloc, World.size_setCell, size_drew, size_drewN]); omega))]; go_simp
  have m9 : w1.cell? ⟨w.heap.size, 9, none⟩ = some (.slice D ld cd) := by rw [hb.cell (p := ⟨w.heap.size, 9, none⟩) (by ((try simp only [World.size_alloc, World.size_setCell, size_drew, size_drewN]); omega))]; go_simp
  have hB : Below w.heap.size w w1 := Below.trans (by (repeat first | with_reducible exact Below.refl _ _ | (with_reducible refine Below.alloc ?_ ?_ _; rotate_left; exact (by omega)))) (hb.mono (by ((try simp only [World.size_alloc, World.size_setCell, size_drew, size_drewN]); omega)))
  have hz0 : w.heap.size < w1.heap.size := Nat.lt_of_lt_of_le (by ((try simp only [World.size_alloc, World.size_setCell, size_drew, size_drewN]); omega)) hb.size
  clear hb
  go_wp2_with (go_at_call 37; refine (seWithin_any _ _ _ _).mono ?_; rintro e w' ⟨rfl, rfl⟩)
  refine (HR.out _ (by (repeat first | with_reducible assumption | (with_reducible refine Below.alloc ?_ ?_ _; rotate_left; exact (by omega))))).mono ?_
  rintro _ w3 ⟨rfl, hb⟩
  have hB3 : Below w.heap.size w w3 := Below.trans (by (repeat first | with_reducible assumption | (with_reducible refine Below.alloc ?_ ?_ _; rotate_left; exact (by omega)))) (hb.mono (by ((try simp only [World.size_alloc, World.size_setCell, size_drew, size_drewN]); omega)))
  clear hb
  go_wp2_with fail
  go_ret2
  exact ⟨rfl, by (repeat with_reducible assumption)⟩
end
end Go.Proofs.YtapldonpflgnfaaGreatDoor
