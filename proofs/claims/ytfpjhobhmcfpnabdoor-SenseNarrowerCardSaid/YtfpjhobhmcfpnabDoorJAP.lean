import Derived.Test.YtfpjhobhmcfpnabDoorJAC
import Derived.Test.YtfpjhobhmcfpnabDoorJAD
import Derived.Test.YtfpjhobhmcfpnabDoorJAE
import Derived.Test.YtfpjhobhmcfpnabDoorJAF
import Derived.Test.YtfpjhobhmcfpnabDoorJAH
import Derived.Test.YtfpjhobhmcfpnabDoorJAO
import Derived.Ground.Names2Prog
import Derived.Shelf.Slices.Clone
import Derived.Ground.SlgnProg
import Derived.Shelf.SlicesE.Clone
import Derived.Test.YtfpjhobhmcfpnabDoorProg
section
/- Package machine: the flux of valid currents as a plain sum; fluxAt over them, over this seat's translation (written by mk_fld.py). -/
namespace Go.Proofs.YtfpjhobhmcfpnabDoor
set_option linter.unusedVariables false
set_option linter.unusedSimpArgs false
open Go.RowKit Go.Shelf

/-- The flux at a place: each current times its influence there. -/
def fluxP (p : Int × Int) : List Src → Int
  | [] => 0
  | x :: r => infl p.1 p.2 x.1.1 x.1.2 * x.2 + fluxP p r
theorem mul_bd {a b A B : Int} (a0 : 0 ≤ a) (a1 : a ≤ A) (b0 : -B ≤ b) (b1 : b ≤ B) : -(A * B) ≤ a * b ∧ a * b ≤ A * B := by
  have hB : 0 ≤ B := by omega
  have hA : 0 ≤ A := by omega
  have h1 : a * B ≤ A * B := Int.mul_le_mul_of_nonneg_right a1 hB
  have h2 : a * b ≤ a * B := Int.mul_le_mul_of_nonneg_left b1 a0
  have h3 : a * (-B) ≤ a * b := Int.mul_le_mul_of_nonneg_left b0 a0
  rw [Int.mul_neg] at h3
  omega
/-- Currents that are small enough. -/
def Small (S : List Src) : Prop := S.length ≤ 1000 ∧ ∀ x ∈ S, -100000000 ≤ x.2 ∧ x.2 ≤ 100000000
theorem fluxP_bd (p : Int × Int) : ∀ (S : List Src), (∀ x ∈ S, -100000000 ≤ x.2 ∧ x.2 ≤ 100000000) → -(25000000000000 * (S.length : Int)) ≤ fluxP p S ∧ fluxP p S ≤ 25000000000000 * (S.length : Int)
  | [], _ => by simp [fluxP]
  | x :: r, h => by
    have h1 := fluxP_bd p r (fun y hy => h y (List.mem_cons_of_mem _ hy))
    have h2 := h x (by simp)
    have h3 := infl_bd p.1 p.2 x.1.1 x.1.2
    have h4 := mul_bd h3.1 h3.2 h2.1 h2.2
    simp only [fluxP, List.length_cons]
    omega
theorem Small.bd {S : List Src} (h : Small S) (p : Int × Int) : -25000000000000000 ≤ fluxP p S ∧ fluxP p S ≤ 25000000000000000 := by
  have h1 := fluxP_bd p S h.2
  have h2 := h.1
  omega
theorem fluxW_eq (p : Int × Int) : ∀ (S : List Src) (s : Int), (∀ x ∈ S, -100000000 ≤ x.2 ∧ x.2 ≤ 100000000) → -(25000000000000000 : Int) ≤ s - 25000000000000 * (S.length : Int) → s + 25000000000000 * (S.length : Int) ≤ 25000000000000000 → fluxW p s S = s + fluxP p S
  | [], s, _, _, _ => by simp [fluxW, fluxP]
  | x :: r, s, h, h0, h1 => by
    have h2 := h x (by simp)
    have h3 := infl_bd p.1 p.2 x.1.1 x.1.2
    have h4 := mul_bd h3.1 h3.2 h2.1 h2.2
    simp only [List.length_cons] at h0 h1
    simp only [fluxW, fluxP]
    have e1 : wrap64 (infl p.1 p.2 x.1.1 x.1.2 * x.2) = infl p.1 p.2 x.1.1 x.1.2 * x.2 := IntWalk.wrap64_in _ (by omega)
    rw [e1, IntWalk.wrap64_in _ (by omega), fluxW_eq p r _ (fun y hy => h y (List.mem_cons_of_mem _ hy)) (by omega) (by omega)]
    omega
theorem fluxW_plain {S : List Src} (h : Small S) (p : Int × Int) : fluxW p 0 S = fluxP p S := by
  have h1 := h.1
  rw [fluxW_eq p S 0 h.2 (by omega) (by omega)]; omega

theorem eachGo_all {α : Type} {chk : α → List α → Int} : ∀ (l pre : List α), eachGo chk pre l = 0 → ∀ x ∈ l, ∃ e, chk x e = 0
  | [], _, _, x, hx => by cases hx
  | y :: r, pre, h, x, hx => by
    unfold eachGo at h
    by_cases hc : chk y pre = 0
    · rw [if_pos hc] at h
      rcases List.mem_cons.1 hx with rfl | hx
      · exact ⟨pre, hc⟩
      · exact eachGo_all r _ h x hx
    · rw [if_neg hc] at h; exact absurd h hc
theorem eachC_all {α : Type} {chk : α → List α → Int} {most : Int} {l : List α} (h : eachC chk most l = 0) : (l.length : Int) ≤ most ∧ ∀ x ∈ l, ∃ e, chk x e = 0 := by
  unfold eachC at h
  by_cases hm : most < l.length
  · rw [if_pos hm] at h; simp at h
  · rw [if_neg hm] at h; exact ⟨by omega, eachGo_all _ _ h⟩
theorem near_iff {r z f : Int} : nearB r z f = true ↔ (-f ≤ r ∧ r ≤ f) ∧ -f ≤ z ∧ z ≤ f := by simp [nearB, wthn]
theorem coil_ok {c : CoilD} {e : List CoilD} (h : coilC c e = 0) : (1 ≤ c.turns ∧ c.turns ≤ 100) ∧ (-60 ≤ c.r ∧ c.r ≤ 60) ∧ -60 ≤ c.z ∧ c.z ≤ 60 := by
  unfold coilC at h
  split at h
  · split at h
    · simp at h
    · have h1 := rng_zero h
      simp only [Bool.and_eq_true] at h1
      exact ⟨wthn_iff.1 h1.2.1, near_iff.1 h1.1⟩
  · simp at h
theorem shell_ok {c : ShellD} {e : List ShellD} (h : shellC c e = 0) : (-60 ≤ c.r ∧ c.r ≤ 60) ∧ -60 ≤ c.z ∧ c.z ≤ 60 := by
  unfold shellC at h
  have h1 := rng_zero h
  simp only [Bool.and_eq_true] at h1
  exact near_iff.1 h1.1
theorem sensor_ok {c : SensorD} {e : List SensorD} (h : sensorC c e = 0) : (1 ≤ c.kind ∧ c.kind ≤ 3) ∧ ((-60 ≤ c.r ∧ c.r ≤ 60) ∧ -60 ≤ c.z ∧ c.z ≤ 60) ∧ 0 ≤ c.error ∧ c.error ≤ 1000000000 := by
  unfold sensorC at h
  split at h
  · split at h
    · simp at h
    · have h1 := rng_zero h
      simp only [Bool.and_eq_true] at h1
      exact ⟨wthn_iff.1 h1.1, near_iff.1 h1.2.1, wthn_iff.1 h1.2.2⟩
  · simp at h
/-- What a machine without an error is. -/
structure Sound (M : MachD) : Prop where
  coils : (M.coils.length : Int) ≤ 12 ∧ ∀ x ∈ M.coils, (1 ≤ x.turns ∧ x.turns ≤ 100) ∧ (-60 ≤ x.r ∧ x.r ≤ 60) ∧ -60 ≤ x.z ∧ x.z ≤ 60
  shells : (M.shells.length : Int) ≤ 16 ∧ ∀ x ∈ M.shells, (-60 ≤ x.r ∧ x.r ≤ 60) ∧ -60 ≤ x.z ∧ x.z ≤ 60
  sensors : (M.sensors.length : Int) ≤ 24 ∧ ∀ x ∈ M.sensors, (1 ≤ x.kind ∧ x.kind ≤ 3) ∧ ((-60 ≤ x.r ∧ x.r ≤ 60) ∧ -60 ≤ x.z ∧ x.z ≤ 60) ∧ 0 ≤ x.error ∧ x.error ≤ 1000000000
  grid : M.grid.Fine
theorem sound_of {M : MachD} (h : checkC M = 0) : Sound M := by
  have h1 := (orL_zero (orL_zero h).2)
  have h2 := orL_zero h1.2
  have h6 := (orL_zero (orL_zero (orL_zero h2.2).2).2).1
  have c := eachC_all h1.1
  have s := eachC_all h2.1
  have q := eachC_all h6
  exact ⟨⟨c.1, fun x hx => (c.2 x hx).elim fun e he => coil_ok he⟩, ⟨s.1, fun x hx => (s.2 x hx).elim fun e he => shell_ok he⟩, ⟨q.1, fun x hx => (q.2 x hx).elim fun e he => sensor_ok he⟩, fine_grid (grid_of h)⟩
/-- What currents that are valid for a machine are. -/
structure Fit2 (M : MachD) (C : CurD) : Prop where
  check : checkC M = 0
  coils : C.coils.length = M.coils.length ∧ ∀ x ∈ C.coils, -1000000 ≤ x ∧ x ≤ 1000000
  shells : C.shells.length = M.shells.length ∧ ∀ x ∈ C.shells, -1000000 ≤ x ∧ x ≤ 1000000
  plasma : (C.plasma.length : Int) = M.grid.nr * M.grid.nz ∧ ∀ x ∈ C.plasma, 0 ≤ x ∧ x ≤ 1000000
  total : tot 0 C.plasma ≤ 1000000
theorem allW_iff {l : List Int} {a b : Int} : allW l a b = true ↔ ∀ x ∈ l, a ≤ x ∧ x ≤ b := by
  unfold allW; rw [List.all_eq_true]
  exact ⟨fun h x hx => wthn_iff.1 (h x hx), fun h x hx => wthn_iff.2 (h x hx)⟩
theorem fit2_iff {M : MachD} {C : CurD} : validC M C = true ↔ Fit2 M C := by
  unfold validC
  simp only [Bool.and_eq_true, decide_eq_true_eq, allW_iff]
  exact ⟨fun ⟨h0, h1, h2, h3, h4, h5, h6, h7⟩ => ⟨h0, ⟨h1, h2⟩, ⟨h3, h4⟩, ⟨h5, h6⟩, h7⟩, fun h => ⟨h.check, h.coils.1, h.coils.2, h.shells.1, h.shells.2, h.plasma.1, h.plasma.2, h.total⟩⟩
/-- All that makes flux in a machine with its currents. -/
def srcM (M : MachD) (C : CurD) : List Src := srcL M.grid M.coils M.shells C.coils C.shells C.plasma
theorem small_of {M : MachD} {C : CurD} (h : Fit2 M C) : Small (srcM M C) := by
  have hs := sound_of h.check
  have hc := cells_fine hs.grid
  have hp := h.plasma.1
  refine ⟨?_, fun x hx => ?_⟩
  · unfold srcM; rw [srcL_length h.coils.1 h.shells.1]; have := hs.coils.1; have := hs.shells.1; omega
  · unfold srcM srcL at hx
    rcases List.mem_append.1 hx with hx | hx
    · obtain ⟨k, hk, e⟩ := List.mem_iff_getElem.1 hx
      simp at e
      simp at hk
      have h1 := hs.coils.2 _ (List.getElem_mem (show k < M.coils.length by omega))
      have h2 := h.coils.2 _ (List.getElem_mem (show k < C.coils.length by omega))
      have h3 := mul_bd (show 0 ≤ M.coils[k].turns by omega) h1.1.2 h2.1 h2.2
      rw [← e]; dsimp only; omega
    · rcases List.mem_append.1 hx with hx | hx
      · obtain ⟨k, hk, e⟩ := List.mem_iff_getElem.1 hx
        simp at e
        simp at hk
        have h2 := h.shells.2 _ (List.getElem_mem (show k < C.shells.length by omega))
        rw [← e]; dsimp only; omega
      · unfold cellSrc at hx
        obtain ⟨k, hk, e⟩ := List.mem_map.1 hx
        rw [List.mem_range] at hk
        have h2 := h.plasma.2 _ (List.getElem_mem hk)
        rw [← e]; dsimp only
        rw [List.getElem?_eq_getElem hk]; simp only [Option.getD_some]; omega

set_option maxHeartbeats 2000000 in
theorem fluxAt_any (R : MachR) (M : MachD) (Q : CurR) (C : CurD) (p0 p1 : Int) (w : World) (hM : IsM w R M) (hC : IsC w Q C) (hv : Fit2 M C) :
    Calls Tryd.prog 40 #[.agg (machCells R M), Q.v, .agg #[.int .i64 p0, .int .i64 p1]] w (Ret (.int .i64 (fluxP (p0, p1) (srcM M C))) w) := by
  rw [← fluxW_plain (small_of hv)]
  have hs := sound_of hv.check
  have hc := cells_fine hs.grid
  have hla := hM.coils.1
  have hlb := hM.shells.1
  have hlc := hC.plasma.1
  have h1 := hs.coils.1
  have h2 := hs.shells.1
  have h3 := hv.plasma.1
  exact fluxAt_any0 M.name R.A R.B R.C R.D R.la R.ca R.lb R.cb R.lc R.cc R.ld R.cd M.grid hs.grid Q.A Q.B Q.C Q.la Q.ca Q.lb Q.cb Q.lc Q.cc M.coils M.shells C.coils C.shells C.plasma p0 p1 w
    hM.coils hM.shells hC.coils hC.shells hC.plasma hv.coils.1 hv.shells.1 (by omega) (by omega) (by omega)
    (fun k c x hc hx => by
      have t := hs.coils.2 c (List.mem_of_getElem? hc)
      have u := hv.coils.2 x (List.mem_of_getElem? hx)
      have b := mul_bd (show 0 ≤ c.turns by omega) t.1.2 u.1 u.2
      exact IntWalk.i64_in _ (by omega))

end Go.Proofs.YtfpjhobhmcfpnabDoor
end
section
/- The specification of package machine: the contract of coils, over this seat's translation (written by mk_ref.py). -/
namespace Go.Proofs.YtfpjhobhmcfpnabDoor
set_option linter.unusedVariables false
set_option linter.unusedSimpArgs false
open Go.RowKit Go.Shelf

end Go.Proofs.YtfpjhobhmcfpnabDoor
end
section
/- The specification of package machine: the contract of sensors, over this seat's translation (written by mk_ref.py). -/
namespace Go.Proofs.YtfpjhobhmcfpnabDoor
set_option linter.unusedVariables false
set_option linter.unusedSimpArgs false
open Go.RowKit Go.Shelf

end Go.Proofs.YtfpjhobhmcfpnabDoor
end
section
/- The specification of package machine: the contract of shells, over this seat's translation (written by mk_ref.py). -/
namespace Go.Proofs.YtfpjhobhmcfpnabDoor
set_option linter.unusedVariables false
set_option linter.unusedSimpArgs false
open Go.RowKit Go.Shelf

end Go.Proofs.YtfpjhobhmcfpnabDoor
end
section
/- The specification of package machine: the contract of limits, over this seat's translation (written by mk_ref.py). -/
namespace Go.Proofs.YtfpjhobhmcfpnabDoor
set_option linter.unusedVariables false
set_option linter.unusedSimpArgs false
open Go.RowKit Go.Shelf

end Go.Proofs.YtfpjhobhmcfpnabDoor
end
section
/- The specification of package machine: the contract of Check, over this seat's translation (written by mk_refc.py). -/
namespace Go.Proofs.YtfpjhobhmcfpnabDoor
set_option linter.unusedVariables false
set_option linter.unusedSimpArgs false
open Go.RowKit Go.Shelf

end Go.Proofs.YtfpjhobhmcfpnabDoor
end
section
/- The cells of a machine: Cells, at, Cell of the specification, and Cell of package machine, over this seat's translation (written by mk_refd.py). -/
namespace Go.Proofs.YtfpjhobhmcfpnabDoor
set_option linter.unusedVariables false
set_option linter.unusedSimpArgs false
open Go.RowKit Go.Shelf

theorem orL_zeroes {l : List Int} (h : orL l = 0) : ∀ x ∈ l, x = 0 := by
  induction l with
  | nil => intro x hx; cases hx
  | cons y r ih =>
    intro x hx
    unfold orL at h
    by_cases hy : y = 0
    · rw [if_pos hy] at h
      rcases List.mem_cons.1 hx with rfl | hx
      · exact hy
      · exact ih h x hx
    · rw [if_neg hy] at h; exact absurd h hy
/-- A machine without an error has a grid whose cells can be reckoned. -/
theorem check_fine {M : MachD} (h : checkC M = 0) : M.grid.Fine := by
  have h5 := orL_zeroes h (gridC M.grid) (by simp)
  unfold gridC at h5
  by_cases a : (wthn M.grid.nr 1 8 && (wthn M.grid.nz 1 8 && wthn M.grid.step 1 10)) = true
  · rw [if_pos a] at h5
    by_cases b : nearB M.grid.r M.grid.z 60 = true
    · exact fine_of a b
    · rw [if_neg b] at h5; simp at h5
  · rw [if_neg a] at h5; simp at h5
theorem fine_cells {g : GridD} (h : g.Fine) : 1 ≤ g.nr * g.nz ∧ g.nr * g.nz ≤ 64 := by
  obtain ⟨r0, r1, z0, z1, n0, n1, k0, k1, s0, s1⟩ := h
  have h1 := Int.mul_le_mul n0 k0 (by omega) (by omega)
  have h2 := Int.mul_le_mul n1 k1 (by omega) (by omega)
  omega

def cellL (M : MachD) (i : Int) : Int × Int × Int :=
  if checkC M = 0 then if wthn i 0 (M.grid.nr * M.grid.nz - 1) = true then (cellR M.grid i, cellZ M.grid i, 0) else (0, 0, 7) else (0, 0, 1)

theorem res3P {fn : Func} {p u : Tmp} (h : fn.results = #[.cell p 53, .tmp u]) (tmps : Array Value) (W : World) (b : Nat) (x y z : Value)
    (hp : tmps.getD p undef = .pointer (some ⟨b, 0, none⟩)) (hu : tmps.getD u undef = z) (h0 : W.cell? ⟨b, 0, none⟩ = some x) (h1 : W.cell? ⟨b, 1, none⟩ = some y) :
    (results fn tmps).run Tryd.prog W = .ok (.tuple #[.agg #[x, y], z]) W := by
  rw [results_cell_tmp h, hp, hu]
  simp [go_sem, h0, h1]

set_option maxRecDepth 100000 in
set_option maxHeartbeats 8000000 in
theorem mcell_any (R : MachR) (M : MachD) (i : Int) (w : World) (hM : IsM w R M) :
    Calls Tryd.prog 46 #[.agg (machCells R M), .int .i64 i] w (Ret (.tuple #[.agg #[.int .i64 (cellL M i).1, .int .i64 (cellL M i).2.1], .int .i64 (cellL M i).2.2]) w) := by
  have HE : Hid (cellL M i = if checkC M = 0 then if wthn i 0 (M.grid.nr * M.grid.nz - 1) = true then (cellR M.grid i, cellZ M.grid i, 0) else (0, 0, 7) else (0, 0, 1)) := Lib.hid rfl
  have HF := Lib.hid (fun h : checkC M = 0 => check_fine h)
  have H0 := Lib.hid (fun W (hb : Below w.heap.size w W) => check_any R M W (hM.below hb))
  generalize cellL M i = G at *
  generalize checkC M = c at *
  clear hM
  obtain ⟨A, B, C, D, la, ca, lb, cb, lc, cc, ld, cd⟩ := R
  obtain ⟨name, coils, shells, limits, ⟨r, z, nr, nz, step⟩, sensors⟩ := M
  dsimp only at *
  have H0 := Lib.hid (show ∀ W, Below w.heap.size w W → Calls Tryd.prog 32 #[.agg #[.string name, .slice A la ca, .slice B lb cb, .slice C lc cc, .int .i64 r, .int .i64 z, .int .i64 nr, .int .i64 nz, .int .i64 step, .slice D ld cd]] W (Ret (.int .i64 c) W) from H0.out)
  show Calls Tryd.prog 46 #[.agg #[.string name, .slice A la ca, .slice B lb cb, .slice C lc cc, .int .i64 r, .int .i64 z, .int .i64 nr, .int .i64 nz, .int .i64 step, .slice D ld cd], .int .i64 i] w _
  by_cases hc : c = 0
  rotate_left
  · have HG : Hid (G = (0, 0, 1)) := Lib.hid (by rw [HE.out, if_neg hc])
    have hcb : (c != 0) = true := by rw [bne_iff_ne]; exact hc
    clear HE HF hc
    go_enter Tryd.func46, Tryd.ntmps46
    go_wp2_with fail
    refine (H0.out _ (by (with_reducible repeat first | exact Below.refl _ _ | assumption | ((first | refine Below.setCell ?_ ?_ _ | refine Below.alloc ?_ ?_ _); rotate_left; exact (by first | omega | (simp; done) | (simp; omega))) | refine Below.drew ?_ | refine Below_drewN ?_ _))).mono ?_
    rintro e w1 ⟨rfl, hb⟩
    have m0 : w1.cell? ⟨w.heap.size, 0, none⟩ = some (.string name) := by rw [hb.cell (p := ⟨w.heap.size, 0, none⟩) (by first | omega | ((try simp only [World.size_alloc, World.size_setCell, size_drew, size_drewN]); omega) | (simp; done) | (simp; omega))]; go_simp
    have m1 : w1.cell? ⟨w.heap.size, 1, none⟩ = some (.slice A la ca) := by rw [hb.cell (p := ⟨w.heap.size, 1, none⟩) (by first | omega | ((try simp only [World.size_alloc, World.size_setCell, size_drew, size_drewN]); omega) | (simp; done) | (simp; omega))]; go_simp
    have m2 : w1.cell? ⟨w.heap.size, 2, none⟩ = some (.slice B lb cb) := by rw [hb.cell (p := ⟨w.heap.size, 2, none⟩) (by first | omega | ((try simp only [World.size_alloc, World.size_setCell, size_drew, size_drewN]); omega) | (simp; done) | (simp; omega))]; go_simp
    have m3 : w1.cell? ⟨w.heap.size, 3, none⟩ = some (.slice C lc cc) := by rw [hb.cell (p := ⟨w.heap.size, 3, none⟩) (by first | omega | ((try simp only [World.size_alloc, World.size_setCell, size_drew, size_drewN]); omega) | (simp; done) | (simp; omega))]; go_simp
    have m4 : w1.cell? ⟨w.heap.size, 4, none⟩ = some (.int .i64 r) := by rw [hb.cell (p := ⟨w.heap.size, 4, none⟩) (by first | omega | ((try simp only [World.size_alloc, World.size_setCell, size_drew, size_drewN]); omega) | (simp; done) | (simp; omega))]; go_simp
    have m5 : w1.cell? ⟨w.heap.size, 5, none⟩ = some (.int .i64 z) := by rw [hb.cell (p := ⟨w.heap.size, 5, none⟩) (by first | omega | ((try simp only [World.size_alloc, World.size_setCell, size_drew, size_drewN]); omega) | (simp; done) | (simp; omega))]; go_simp
    have m6 : w1.cell? ⟨w.heap.size, 6, none⟩ = some (.int .i64 nr) := by rw [hb.cell (p := ⟨w.heap.size, 6, none⟩) (by first | omega | ((try simp only [World.size_alloc, World.size_setCell, size_drew, size_drewN]); omega) | (simp; done) | (simp; omega))]; go_simp
    have m7 : w1.cell? ⟨w.heap.size, 7, none⟩ = some (.int .i64 nz) := by rw [hb.cell (p := ⟨w.heap.size, 7, none⟩) (by first | omega | ((try simp only [World.size_alloc, World.size_setCell, size_drew, size_drewN]); omega) | (simp; done) | (simp; omega))]; go_simp
    have m8 : w1.cell? ⟨w.heap.size, 8, none⟩ = some (.int .i64 step) := by rw [hb.cell (p := ⟨w.heap.size, 8, none⟩) (by first | omega | ((try simp only [World.size_alloc, World.size_setCell, size_drew, size_drewN]); omega) | (simp; done) | (simp; omega))]; go_simp
    have m9 : w1.cell? ⟨w.heap.size, 9, none⟩ = some (.slice D ld cd) := by rw [hb.cell (p := ⟨w.heap.size, 9, none⟩) (by first | omega | ((try simp only [World.size_alloc, World.size_setCell, size_drew, size_drewN]); omega) | (simp; done) | (simp; omega))]; go_simp
    have mt0 : w1.cell? ⟨w.heap.size + 1, 0, none⟩ = some (.int .i64 0) := by rw [hb.cell (p := ⟨w.heap.size + 1, 0, none⟩) (by first | omega | ((try simp only [World.size_alloc, World.size_setCell, size_drew, size_drewN]); omega) | (simp; done) | (simp; omega))]; go_simp
    have mt1 : w1.cell? ⟨w.heap.size + 1, 1, none⟩ = some (.int .i64 0) := by rw [hb.cell (p := ⟨w.heap.size + 1, 1, none⟩) (by first | omega | ((try simp only [World.size_alloc, World.size_setCell, size_drew, size_drewN]); omega) | (simp; done) | (simp; omega))]; go_simp
    have mf0 : w1.frozen? ⟨w.heap.size + 1, 0, none⟩ = false := by rw [hb.frozen (p := ⟨w.heap.size + 1, 0, none⟩) (by first | omega | ((try simp only [World.size_alloc, World.size_setCell, size_drew, size_drewN]); omega) | (simp; done) | (simp; omega))]; go_simp
    have mf1 : w1.frozen? ⟨w.heap.size + 1, 1, none⟩ = false := by rw [hb.frozen (p := ⟨w.heap.size + 1, 1, none⟩) (by first | omega | ((try simp only [World.size_alloc, World.size_setCell, size_drew, size_drewN]); omega) | (simp; done) | (simp; omega))]; go_simp
    have hB1 : Below w.heap.size w w1 := Below.trans (by (with_reducible repeat first | exact Below.refl _ _ | assumption | ((first | refine Below.setCell ?_ ?_ _ | refine Below.alloc ?_ ?_ _); rotate_left; exact (by first | omega | (simp; done) | (simp; omega))) | refine Below.drew ?_ | refine Below_drewN ?_ _)) (hb.mono (by first | omega | ((try simp only [World.size_alloc, World.size_setCell, size_drew, size_drewN]); omega) | (simp; done) | (simp; omega)))
    have sz1 : w.heap.size + 1 < w1.heap.size := Nat.lt_of_lt_of_le (by first | omega | ((try simp only [World.size_alloc, World.size_setCell, size_drew, size_drewN]); omega) | (simp; done) | (simp; omega)) hb.size
    have sy1 : w.heap.size < w1.heap.size := by omega
    clear hb
    go_wp2_with fail
    rw [HG.out]
    exact bodyPost_ret (res3P Tryd.results46 _ _ _ _ _ _ rfl rfl (by go_simp) (by go_simp)) rfl ⟨rfl, by (with_reducible repeat first | exact Below.refl _ _ | assumption | ((first | refine Below.setCell ?_ ?_ _ | refine Below.alloc ?_ ?_ _); rotate_left; exact (by first | omega | (simp; done) | (simp; omega))) | refine Below.drew ?_ | refine Below_drewN ?_ _)⟩
  have hf := HF.out hc
  obtain ⟨b0, b1⟩ := fine_cells hf
  dsimp only at b0 b1
  have HE := Lib.hid (HE.out.trans (if_pos hc))
  subst hc
  have HCP := Lib.hid (fun (j0 : 0 ≤ i) (j1 : i ≤ 1000) => fun W => cellPlace_any ⟨r, z, nr, nz, step⟩ i W hf j0 j1)
  generalize cellR ⟨r, z, nr, nz, step⟩ i = X at *
  generalize cellZ ⟨r, z, nr, nz, step⟩ i = Y at *
  have HCS := Lib.hid (fun W => cells_any ⟨r, z, nr, nz, step⟩ W (by dsimp only; omega) (by dsimp only; omega))
  dsimp only at HCS
  generalize nr * nz = P at *
  clear hf HF
  by_cases hw : wthn i 0 (P - 1) = true
  rotate_left
  · have HG : Hid (G = (0, 0, 7)) := Lib.hid (by rw [HE.out]; simp [hw])
    have hw : wthn i 0 (P - 1) = false := by simpa using hw
    clear HE HCP
    go_enter Tryd.func46, Tryd.ntmps46
    go_wp2_with fail
    refine (H0.out _ (by (with_reducible repeat first | exact Below.refl _ _ | assumption | ((first | refine Below.setCell ?_ ?_ _ | refine Below.alloc ?_ ?_ _); rotate_left; exact (by first | omega | (simp; done) | (simp; omega))) | refine Below.drew ?_ | refine Below_drewN ?_ _))).mono ?_
    rintro e w1 ⟨rfl, hb⟩
    have m0 : w1.cell? ⟨w.heap.size, 0, none⟩ = some (.string name) := by rw [hb.cell (p := ⟨w.heap.size, 0, none⟩) (by first | omega | ((try simp only [World.size_alloc, World.size_setCell, size_drew, size_drewN]); omega) | (simp; done) | (simp; omega))]; go_simp
    have m1 : w1.cell? ⟨w.heap.size, 1, none⟩ = some (.slice A la ca) := by rw [hb.cell (p := ⟨w.heap.size, 1, none⟩) (by first | omega | ((try simp only [World.size_alloc, World.size_setCell, size_drew, size_drewN]); omega) | (simp; done) | (simp; omega))]; go_simp
    have m2 : w1.cell? ⟨w.heap.size, 2, none⟩ = some (.slice B lb cb) := by rw [hb.cell (p := ⟨w.heap.size, 2, none⟩) (by first | omega | ((try simp only [World.size_alloc, World.size_setCell, size_drew, size_drewN]); omega) | (simp; done) | (simp; omega))]; go_simp
    have m3 : w1.cell? ⟨w.heap.size, 3, none⟩ = some (.slice C lc cc) := by rw [hb.cell (p := ⟨w.heap.size, 3, none⟩) (by first | omega | ((try simp only [World.size_alloc, World.size_setCell, size_drew, size_drewN]); omega) | (simp; done) | (simp; omega))]; go_simp
    have m4 : w1.cell? ⟨w.heap.size, 4, none⟩ = some (.int .i64 r) := by rw [hb.cell (p := ⟨w.heap.size, 4, none⟩) (by first | omega | ((try simp only [World.size_alloc, World.size_setCell, size_drew, size_drewN]); omega) | (simp; done) | (simp; omega))]; go_simp
    have m5 : w1.cell? ⟨w.heap.size, 5, none⟩ = some (.int .i64 z) := by rw [hb.cell (p := ⟨w.heap.size, 5, none⟩) (by first | omega | ((try simp only [World.size_alloc, World.size_setCell, size_drew, size_drewN]); omega) | (simp; done) | (simp; omega))]; go_simp
    have m6 : w1.cell? ⟨w.heap.size, 6, none⟩ = some (.int .i64 nr) := by rw [hb.cell (p := ⟨w.heap.size, 6, none⟩) (by first | omega | ((try simp only [World.size_alloc, World.size_setCell, size_drew, size_drewN]); omega) | (simp; done) | (simp; omega))]; go_simp
    have m7 : w1.cell? ⟨w.heap.size, 7, none⟩ = some (.int .i64 nz) := by rw [hb.cell (p := ⟨w.heap.size, 7, none⟩) (by first | omega | ((try simp only [World.size_alloc, World.size_setCell, size_drew, size_drewN]); omega) | (simp; done) | (simp; omega))]; go_simp
    have m8 : w1.cell? ⟨w.heap.size, 8, none⟩ = some (.int .i64 step) := by rw [hb.cell (p := ⟨w.heap.size, 8, none⟩) (by first | omega | ((try simp only [World.size_alloc, World.size_setCell, size_drew, size_drewN]); omega) | (simp; done) | (simp; omega))]; go_simp
    have m9 : w1.cell? ⟨w.heap.size, 9, none⟩ = some (.slice D ld cd) := by rw [hb.cell (p := ⟨w.heap.size, 9, none⟩) (by first | omega | ((try simp only [World.size_alloc, World.size_setCell, size_drew, size_drewN]); omega) | (simp; done) | (simp; omega))]; go_simp
    have mt0 : w1.cell? ⟨w.heap.size + 1, 0, none⟩ = some (.int .i64 0) := by rw [hb.cell (p := ⟨w.heap.size + 1, 0, none⟩) (by first | omega | ((try simp only [World.size_alloc, World.size_setCell, size_drew, size_drewN]); omega) | (simp; done) | (simp; omega))]; go_simp
    have mt1 : w1.cell? ⟨w.heap.size + 1, 1, none⟩ = some (.int .i64 0) := by rw [hb.cell (p := ⟨w.heap.size + 1, 1, none⟩) (by first | omega | ((try simp only [World.size_alloc, World.size_setCell, size_drew, size_drewN]); omega) | (simp; done) | (simp; omega))]; go_simp
    have mf0 : w1.frozen? ⟨w.heap.size + 1, 0, none⟩ = false := by rw [hb.frozen (p := ⟨w.heap.size + 1, 0, none⟩) (by first | omega | ((try simp only [World.size_alloc, World.size_setCell, size_drew, size_drewN]); omega) | (simp; done) | (simp; omega))]; go_simp
    have mf1 : w1.frozen? ⟨w.heap.size + 1, 1, none⟩ = false := by rw [hb.frozen (p := ⟨w.heap.size + 1, 1, none⟩) (by first | omega | ((try simp only [World.size_alloc, World.size_setCell, size_drew, size_drewN]); omega) | (simp; done) | (simp; omega))]; go_simp
    have hB1 : Below w.heap.size w w1 := Below.trans (by (with_reducible repeat first | exact Below.refl _ _ | assumption | ((first | refine Below.setCell ?_ ?_ _ | refine Below.alloc ?_ ?_ _); rotate_left; exact (by first | omega | (simp; done) | (simp; omega))) | refine Below.drew ?_ | refine Below_drewN ?_ _)) (hb.mono (by first | omega | ((try simp only [World.size_alloc, World.size_setCell, size_drew, size_drewN]); omega) | (simp; done) | (simp; omega)))
    have sz1 : w.heap.size + 1 < w1.heap.size := Nat.lt_of_lt_of_le (by first | omega | ((try simp only [World.size_alloc, World.size_setCell, size_drew, size_drewN]); omega) | (simp; done) | (simp; omega)) hb.size
    have sy1 : w.heap.size < w1.heap.size := by omega
    clear hb
    go_wp2_with fail
    refine (HCS.out _).mono ?_
    rintro e w2 ⟨rfl, hb⟩
    have n0 : w2.cell? ⟨w.heap.size, 0, none⟩ = some (.string name) := by rw [hb.cell (p := ⟨w.heap.size, 0, none⟩) (by first | omega | ((try simp only [World.size_alloc, World.size_setCell, size_drew, size_drewN]); omega) | (simp; done) | (simp; omega))]; first | assumption | go_simp
    have n1 : w2.cell? ⟨w.heap.size, 1, none⟩ = some (.slice A la ca) := by rw [hb.cell (p := ⟨w.heap.size, 1, none⟩) (by first | omega | ((try simp only [World.size_alloc, World.size_setCell, size_drew, size_drewN]); omega) | (simp; done) | (simp; omega))]; first | assumption | go_simp
    have n2 : w2.cell? ⟨w.heap.size, 2, none⟩ = some (.slice B lb cb) := by rw [hb.cell (p := ⟨w.heap.size, 2, none⟩) (by first | omega | ((try simp only [World.size_alloc, World.size_setCell, size_drew, size_drewN]); omega) | (simp; done) | (simp; omega))]; first | assumption | go_simp
    have n3 : w2.cell? ⟨w.heap.size, 3, none⟩ = some (.slice C lc cc) := by rw [hb.cell (p := ⟨w.heap.size, 3, none⟩) (by first | omega | ((try simp only [World.size_alloc, World.size_setCell, size_drew, size_drewN]); omega) | (simp; done) | (simp; omega))]; first | assumption | go_simp
    have n4 : w2.cell? ⟨w.heap.size, 4, none⟩ = some (.int .i64 r) := by rw [hb.cell (p := ⟨w.heap.size, 4, none⟩) (by first | omega | ((try simp only [World.size_alloc, World.size_setCell, size_drew, size_drewN]); omega) | (simp; done) | (simp; omega))]; first | assumption | go_simp
    have n5 : w2.cell? ⟨w.heap.size, 5, none⟩ = some (.int .i64 z) := by rw [hb.cell (p := ⟨w.heap.size, 5, none⟩) (by first | omega | ((try simp only [World.size_alloc, World.size_setCell, size_drew, size_drewN]); omega) | (simp; done) | (simp; omega))]; first | assumption | go_simp
    have n6 : w2.cell? ⟨w.heap.size, 6, none⟩ = some (.int .i64 nr) := by rw [hb.cell (p := ⟨w.heap.size, 6, none⟩) (by first | omega | ((try simp only [World.size_alloc, World.size_setCell, size_drew, size_drewN]); omega) | (simp; done) | (simp; omega))]; first | assumption | go_simp
    have n7 : w2.cell? ⟨w.heap.size, 7, none⟩ = some (.int .i64 nz) := by rw [hb.cell (p := ⟨w.heap.size, 7, none⟩) (by first | omega | ((try simp only [World.size_alloc, World.size_setCell, size_drew, size_drewN]); omega) | (simp; done) | (simp; omega))]; first | assumption | go_simp
    have n8 : w2.cell? ⟨w.heap.size, 8, none⟩ = some (.int .i64 step) := by rw [hb.cell (p := ⟨w.heap.size, 8, none⟩) (by first | omega | ((try simp only [World.size_alloc, World.size_setCell, size_drew, size_drewN]); omega) | (simp; done) | (simp; omega))]; first | assumption | go_simp
    have n9 : w2.cell? ⟨w.heap.size, 9, none⟩ = some (.slice D ld cd) := by rw [hb.cell (p := ⟨w.heap.size, 9, none⟩) (by first | omega | ((try simp only [World.size_alloc, World.size_setCell, size_drew, size_drewN]); omega) | (simp; done) | (simp; omega))]; first | assumption | go_simp
    have nt0 : w2.cell? ⟨w.heap.size + 1, 0, none⟩ = some (.int .i64 0) := by rw [hb.cell (p := ⟨w.heap.size + 1, 0, none⟩) (by first | omega | ((try simp only [World.size_alloc, World.size_setCell, size_drew, size_drewN]); omega) | (simp; done) | (simp; omega))]; first | assumption | go_simp
    have nt1 : w2.cell? ⟨w.heap.size + 1, 1, none⟩ = some (.int .i64 0) := by rw [hb.cell (p := ⟨w.heap.size + 1, 1, none⟩) (by first | omega | ((try simp only [World.size_alloc, World.size_setCell, size_drew, size_drewN]); omega) | (simp; done) | (simp; omega))]; first | assumption | go_simp
    have nf0 : w2.frozen? ⟨w.heap.size + 1, 0, none⟩ = false := by rw [hb.frozen (p := ⟨w.heap.size + 1, 0, none⟩) (by first | omega | ((try simp only [World.size_alloc, World.size_setCell, size_drew, size_drewN]); omega) | (simp; done) | (simp; omega))]; first | assumption | go_simp
    have nf1 : w2.frozen? ⟨w.heap.size + 1, 1, none⟩ = false := by rw [hb.frozen (p := ⟨w.heap.size + 1, 1, none⟩) (by first | omega | ((try simp only [World.size_alloc, World.size_setCell, size_drew, size_drewN]); omega) | (simp; done) | (simp; omega))]; first | assumption | go_simp
    have hB2 : Below w.heap.size w w2 := Below.trans (by (with_reducible repeat first | exact Below.refl _ _ | assumption | ((first | refine Below.setCell ?_ ?_ _ | refine Below.alloc ?_ ?_ _); rotate_left; exact (by first | omega | (simp; done) | (simp; omega))) | refine Below.drew ?_ | refine Below_drewN ?_ _)) (hb.mono (by first | omega | ((try simp only [World.size_alloc, World.size_setCell, size_drew, size_drewN]); omega) | (simp; done) | (simp; omega)))
    have sz2 : w.heap.size + 1 < w2.heap.size := Nat.lt_of_lt_of_le (by first | assumption | (simp; omega)) hb.size
    have sy2 : w.heap.size < w2.heap.size := by omega
    clear hb
    clear m0 m1 m2 m3 m4 m5 m6 m7 m8 m9 mt0 mt1 mf0 mf1
    go_wp2_with (go_at_call 39; refine (mwithin_any _ _ _ _).mono ?_; rintro e w3 ⟨rfl, rfl⟩)
    rw [HG.out]
    exact bodyPost_ret (res3P Tryd.results46 _ _ _ _ _ _ rfl rfl (by go_simp) (by go_simp)) rfl ⟨rfl, by (with_reducible repeat first | exact Below.refl _ _ | assumption | ((first | refine Below.setCell ?_ ?_ _ | refine Below.alloc ?_ ?_ _); rotate_left; exact (by first | omega | (simp; done) | (simp; omega))) | refine Below.drew ?_ | refine Below_drewN ?_ _)⟩
  · have HG : Hid (G = (X, Y, 0)) := Lib.hid (by rw [HE.out]; simp [hw])
    obtain ⟨j0, j1⟩ := wthn_iff.1 hw
    have HCP := Lib.hid (HCP.out j0 (by omega))
    clear HE
    go_enter Tryd.func46, Tryd.ntmps46
    go_wp2_with fail
    refine (H0.out _ (by (with_reducible repeat first | exact Below.refl _ _ | assumption | ((first | refine Below.setCell ?_ ?_ _ | refine Below.alloc ?_ ?_ _); rotate_left; exact (by first | omega | (simp; done) | (simp; omega))) | refine Below.drew ?_ | refine Below_drewN ?_ _))).mono ?_
    rintro e w1 ⟨rfl, hb⟩
    have m0 : w1.cell? ⟨w.heap.size, 0, none⟩ = some (.string name) := by rw [hb.cell (p := ⟨w.heap.size, 0, none⟩) (by first | omega | ((try simp only [World.size_alloc, World.size_setCell, size_drew, size_drewN]); omega) | (simp; done) | (simp; omega))]; go_simp
    have m1 : w1.cell? ⟨w.heap.size, 1, none⟩ = some (.slice A la ca) := by rw [hb.cell (p := ⟨w.heap.size, 1, none⟩) (by first | omega | ((try simp only [World.size_alloc, World.size_setCell, size_drew, size_drewN]); omega) | (simp; done) | (simp; omega))]; go_simp
    have m2 : w1.cell? ⟨w.heap.size, 2, none⟩ = some (.slice B lb cb) := by rw [hb.cell (p := ⟨w.heap.size, 2, none⟩) (by first | omega | ((try simp only [World.size_alloc, World.size_setCell, size_drew, size_drewN]); omega) | (simp; done) | (simp; omega))]; go_simp
    have m3 : w1.cell? ⟨w.heap.size, 3, none⟩ = some (.slice C lc cc) := by rw [hb.cell (p := ⟨w.heap.size, 3, none⟩) (by first | omega | ((try simp only [World.size_alloc, World.size_setCell, size_drew, size_drewN]); omega) | (simp; done) | (simp; omega))]; go_simp
    have m4 : w1.cell? ⟨w.heap.size, 4, none⟩ = some (.int .i64 r) := by rw [hb.cell (p := ⟨w.heap.size, 4, none⟩) (by first | omega | ((try simp only [World.size_alloc, World.size_setCell, size_drew, size_drewN]); omega) | (simp; done) | (simp; omega))]; go_simp
    have m5 : w1.cell? ⟨w.heap.size, 5, none⟩ = some (.int .i64 z) := by rw [hb.cell (p := ⟨w.heap.size, 5, none⟩) (by first | omega | ((try simp only [World.size_alloc, World.size_setCell, size_drew, size_drewN]); omega) | (simp; done) | (simp; omega))]; go_simp
    have m6 : w1.cell? ⟨w.heap.size, 6, none⟩ = some (.int .i64 nr) := by rw [hb.cell (p := ⟨w.heap.size, 6, none⟩) (by first | omega | ((try simp only [World.size_alloc, World.size_setCell, size_drew, size_drewN]); omega) | (simp; done) | (simp; omega))]; go_simp
    have m7 : w1.cell? ⟨w.heap.size, 7, none⟩ = some (.int .i64 nz) := by rw [hb.cell (p := ⟨w.heap.size, 7, none⟩) (by first | omega | ((try simp only [World.size_alloc, World.size_setCell, size_drew, size_drewN]); omega) | (simp; done) | (simp; omega))]; go_simp
    have m8 : w1.cell? ⟨w.heap.size, 8, none⟩ = some (.int .i64 step) := by rw [hb.cell (p := ⟨w.heap.size, 8, none⟩) (by first | omega | ((try simp only [World.size_alloc, World.size_setCell, size_drew, size_drewN]); omega) | (simp; done) | (simp; omega))]; go_simp
    have m9 : w1.cell? ⟨w.heap.size, 9, none⟩ = some (.slice D ld cd) := by rw [hb.cell (p := ⟨w.heap.size, 9, none⟩) (by first | omega | ((try simp only [World.size_alloc, World.size_setCell, size_drew, size_drewN]); omega) | (simp; done) | (simp; omega))]; go_simp
    have mt0 : w1.cell? ⟨w.heap.size + 1, 0, none⟩ = some (.int .i64 0) := by rw [hb.cell (p := ⟨w.heap.size + 1, 0, none⟩) (by first | omega | ((try simp only [World.size_alloc, World.size_setCell, size_drew, size_drewN]); omega) | (simp; done) | (simp; omega))]; go_simp
    have mt1 : w1.cell? ⟨w.heap.size + 1, 1, none⟩ = some (.int .i64 0) := by rw [hb.cell (p := ⟨w.heap.size + 1, 1, none⟩) (by first | omega | ((try simp only [World.size_alloc, World.size_setCell, size_drew, size_drewN]); omega) | (simp; done) | (simp; omega))]; go_simp
    have mf0 : w1.frozen? ⟨w.heap.size + 1, 0, none⟩ = false := by rw [hb.frozen (p := ⟨w.heap.size + 1, 0, none⟩) (by first | omega | ((try simp only [World.size_alloc, World.size_setCell, size_drew, size_drewN]); omega) | (simp; done) | (simp; omega))]; go_simp
    have mf1 : w1.frozen? ⟨w.heap.size + 1, 1, none⟩ = false := by rw [hb.frozen (p := ⟨w.heap.size + 1, 1, none⟩) (by first | omega | ((try simp only [World.size_alloc, World.size_setCell, size_drew, size_drewN]); omega) | (simp; done) | (simp; omega))]; go_simp
    have hB1 : Below w.heap.size w w1 := Below.trans (by (with_reducible repeat first | exact Below.refl _ _ | assumption | ((first | refine Below.setCell ?_ ?_ _ | refine Below.alloc ?_ ?_ _); rotate_left; exact (by first | omega | (simp; done) | (simp; omega))) | refine Below.drew ?_ | refine Below_drewN ?_ _)) (hb.mono (by first | omega | ((try simp only [World.size_alloc, World.size_setCell, size_drew, size_drewN]); omega) | (simp; done) | (simp; omega)))
    have sz1 : w.heap.size + 1 < w1.heap.size := Nat.lt_of_lt_of_le (by first | omega | ((try simp only [World.size_alloc, World.size_setCell, size_drew, size_drewN]); omega) | (simp; done) | (simp; omega)) hb.size
    have sy1 : w.heap.size < w1.heap.size := by omega
    clear hb
    go_wp2_with fail
    refine (HCS.out _).mono ?_
    rintro e w2 ⟨rfl, hb⟩
    have n0 : w2.cell? ⟨w.heap.size, 0, none⟩ = some (.string name) := by rw [hb.cell (p := ⟨w.heap.size, 0, none⟩) (by first | omega | ((try simp only [World.size_alloc, World.size_setCell, size_drew, size_drewN]); omega) | (simp; done) | (simp; omega))]; first | assumption | go_simp
    have n1 : w2.cell? ⟨w.heap.size, 1, none⟩ = some (.slice A la ca) := by rw [hb.cell (p := ⟨w.heap.size, 1, none⟩) (by first | omega | ((try simp only [World.size_alloc, World.size_setCell, size_drew, size_drewN]); omega) | (simp; done) | (simp; omega))]; first | assumption | go_simp
    have n2 : w2.cell? ⟨w.heap.size, 2, none⟩ = some (.slice B lb cb) := by rw [hb.cell (p := ⟨w.heap.size, 2, none⟩) (by first | omega | ((try simp only [World.size_alloc, World.size_setCell, size_drew, size_drewN]); omega) | (simp; done) | (simp; omega))]; first | assumption | go_simp
    have n3 : w2.cell? ⟨w.heap.size, 3, none⟩ = some (.slice C lc cc) := by rw [hb.cell (p := ⟨w.heap.size, 3, none⟩) (by first | omega | ((try simp only [World.size_alloc, World.size_setCell, size_drew, size_drewN]); omega) | (simp; done) | (simp; omega))]; first | assumption | go_simp
    have n4 : w2.cell? ⟨w.heap.size, 4, none⟩ = some (.int .i64 r) := by rw [hb.cell (p := ⟨w.heap.size, 4, none⟩) (by first | omega | ((try simp only [World.size_alloc, World.size_setCell, size_drew, size_drewN]); omega) | (simp; done) | (simp; omega))]; first | assumption | go_simp
    have n5 : w2.cell? ⟨w.heap.size, 5, none⟩ = some (.int .i64 z) := by rw [hb.cell (p := ⟨w.heap.size, 5, none⟩) (by first | omega | ((try simp only [World.size_alloc, World.size_setCell, size_drew, size_drewN]); omega) | (simp; done) | (simp; omega))]; first | assumption | go_simp
    have n6 : w2.cell? ⟨w.heap.size, 6, none⟩ = some (.int .i64 nr) := by rw [hb.cell (p := ⟨w.heap.size, 6, none⟩) (by first | omega | ((try simp only [World.size_alloc, World.size_setCell, size_drew, size_drewN]); omega) | (simp; done) | (simp; omega))]; first | assumption | go_simp
    have n7 : w2.cell? ⟨w.heap.size, 7, none⟩ = some (.int .i64 nz) := by rw [hb.cell (p := ⟨w.heap.size, 7, none⟩) (by first | omega | ((try simp only [World.size_alloc, World.size_setCell, size_drew, size_drewN]); omega) | (simp; done) | (simp; omega))]; first | assumption | go_simp
    have n8 : w2.cell? ⟨w.heap.size, 8, none⟩ = some (.int .i64 step) := by rw [hb.cell (p := ⟨w.heap.size, 8, none⟩) (by first | omega | ((try simp only [World.size_alloc, World.size_setCell, size_drew, size_drewN]); omega) | (simp; done) | (simp; omega))]; first | assumption | go_simp
    have n9 : w2.cell? ⟨w.heap.size, 9, none⟩ = some (.slice D ld cd) := by rw [hb.cell (p := ⟨w.heap.size, 9, none⟩) (by first | omega | ((try simp only [World.size_alloc, World.size_setCell, size_drew, size_drewN]); omega) | (simp; done) | (simp; omega))]; first | assumption | go_simp
    have nt0 : w2.cell? ⟨w.heap.size + 1, 0, none⟩ = some (.int .i64 0) := by rw [hb.cell (p := ⟨w.heap.size + 1, 0, none⟩) (by first | omega | ((try simp only [World.size_alloc, World.size_setCell, size_drew, size_drewN]); omega) | (simp; done) | (simp; omega))]; first | assumption | go_simp
    have nt1 : w2.cell? ⟨w.heap.size + 1, 1, none⟩ = some (.int .i64 0) := by rw [hb.cell (p := ⟨w.heap.size + 1, 1, none⟩) (by first | omega | ((try simp only [World.size_alloc, World.size_setCell, size_drew, size_drewN]); omega) | (simp; done) | (simp; omega))]; first | assumption | go_simp
    have nf0 : w2.frozen? ⟨w.heap.size + 1, 0, none⟩ = false := by rw [hb.frozen (p := ⟨w.heap.size + 1, 0, none⟩) (by first | omega | ((try simp only [World.size_alloc, World.size_setCell, size_drew, size_drewN]); omega) | (simp; done) | (simp; omega))]; first | assumption | go_simp
    have nf1 : w2.frozen? ⟨w.heap.size + 1, 1, none⟩ = false := by rw [hb.frozen (p := ⟨w.heap.size + 1, 1, none⟩) (by first | omega | ((try simp only [World.size_alloc, World.size_setCell, size_drew, size_drewN]); omega) | (simp; done) | (simp; omega))]; first | assumption | go_simp
    have hB2 : Below w.heap.size w w2 := Below.trans (by (with_reducible repeat first | exact Below.refl _ _ | assumption | ((first | refine Below.setCell ?_ ?_ _ | refine Below.alloc ?_ ?_ _); rotate_left; exact (by first | omega | (simp; done) | (simp; omega))) | refine Below.drew ?_ | refine Below_drewN ?_ _)) (hb.mono (by first | omega | ((try simp only [World.size_alloc, World.size_setCell, size_drew, size_drewN]); omega) | (simp; done) | (simp; omega)))
    have sz2 : w.heap.size + 1 < w2.heap.size := Nat.lt_of_lt_of_le (by first | assumption | (simp; omega)) hb.size
    have sy2 : w.heap.size < w2.heap.size := by omega
    clear hb
    clear m0 m1 m2 m3 m4 m5 m6 m7 m8 m9 mt0 mt1 mf0 mf1
    go_wp2_with (go_at_call 39; refine (mwithin_any _ _ _ _).mono ?_; rintro e w3 ⟨rfl, rfl⟩)
    refine (HCP.out _).mono ?_
    rintro e w3 ⟨rfl, hb⟩
    have o0 : w3.cell? ⟨w.heap.size, 0, none⟩ = some (.string name) := by rw [hb.cell (p := ⟨w.heap.size, 0, none⟩) (by first | omega | ((try simp only [World.size_alloc, World.size_setCell, size_drew, size_drewN]); omega) | (simp; done) | (simp; omega))]; first | assumption | go_simp
    have o1 : w3.cell? ⟨w.heap.size, 1, none⟩ = some (.slice A la ca) := by rw [hb.cell (p := ⟨w.heap.size, 1, none⟩) (by first | omega | ((try simp only [World.size_alloc, World.size_setCell, size_drew, size_drewN]); omega) | (simp; done) | (simp; omega))]; first | assumption | go_simp
    have o2 : w3.cell? ⟨w.heap.size, 2, none⟩ = some (.slice B lb cb) := by rw [hb.cell (p := ⟨w.heap.size, 2, none⟩) (by first | omega | ((try simp only [World.size_alloc, World.size_setCell, size_drew, size_drewN]); omega) | (simp; done) | (simp; omega))]; first | assumption | go_simp
    have o3 : w3.cell? ⟨w.heap.size, 3, none⟩ = some (.slice C lc cc) := by rw [hb.cell (p := ⟨w.heap.size, 3, none⟩) (by first | omega | ((try simp only [World.size_alloc, World.size_setCell, size_drew, size_drewN]); omega) | (simp; done) | (simp; omega))]; first | assumption | go_simp
    have o4 : w3.cell? ⟨w.heap.size, 4, none⟩ = some (.int .i64 r) := by rw [hb.cell (p := ⟨w.heap.size, 4, none⟩) (by first | omega | ((try simp only [World.size_alloc, World.size_setCell, size_drew, size_drewN]); omega) | (simp; done) | (simp; omega))]; first | assumption | go_simp
    have o5 : w3.cell? ⟨w.heap.size, 5, none⟩ = some (.int .i64 z) := by rw [hb.cell (p := ⟨w.heap.size, 5, none⟩) (by first | omega | ((try simp only [World.size_alloc, World.size_setCell, size_drew, size_drewN]); omega) | (simp; done) | (simp; omega))]; first | assumption | go_simp
    have o6 : w3.cell? ⟨w.heap.size, 6, none⟩ = some (.int .i64 nr) := by rw [hb.cell (p := ⟨w.heap.size, 6, none⟩) (by first | omega | ((try simp only [World.size_alloc, World.size_setCell, size_drew, size_drewN]); omega) | (simp; done) | (simp; omega))]; first | assumption | go_simp
    have o7 : w3.cell? ⟨w.heap.size, 7, none⟩ = some (.int .i64 nz) := by rw [hb.cell (p := ⟨w.heap.size, 7, none⟩) (by first | omega | ((try simp only [World.size_alloc, World.size_setCell, size_drew, size_drewN]); omega) | (simp; done) | (simp; omega))]; first | assumption | go_simp
    have o8 : w3.cell? ⟨w.heap.size, 8, none⟩ = some (.int .i64 step) := by rw [hb.cell (p := ⟨w.heap.size, 8, none⟩) (by first | omega | ((try simp only [World.size_alloc, World.size_setCell, size_drew, size_drewN]); omega) | (simp; done) | (simp; omega))]; first | assumption | go_simp
    have o9 : w3.cell? ⟨w.heap.size, 9, none⟩ = some (.slice D ld cd) := by rw [hb.cell (p := ⟨w.heap.size, 9, none⟩) (by first | omega | ((try simp only [World.size_alloc, World.size_setCell, size_drew, size_drewN]); omega) | (simp; done) | (simp; omega))]; first | assumption | go_simp
    have ot0 : w3.cell? ⟨w.heap.size + 1, 0, none⟩ = some (.int .i64 0) := by rw [hb.cell (p := ⟨w.heap.size + 1, 0, none⟩) (by first | omega | ((try simp only [World.size_alloc, World.size_setCell, size_drew, size_drewN]); omega) | (simp; done) | (simp; omega))]; first | assumption | go_simp
    have ot1 : w3.cell? ⟨w.heap.size + 1, 1, none⟩ = some (.int .i64 0) := by rw [hb.cell (p := ⟨w.heap.size + 1, 1, none⟩) (by first | omega | ((try simp only [World.size_alloc, World.size_setCell, size_drew, size_drewN]); omega) | (simp; done) | (simp; omega))]; first | assumption | go_simp
    have of0 : w3.frozen? ⟨w.heap.size + 1, 0, none⟩ = false := by rw [hb.frozen (p := ⟨w.heap.size + 1, 0, none⟩) (by first | omega | ((try simp only [World.size_alloc, World.size_setCell, size_drew, size_drewN]); omega) | (simp; done) | (simp; omega))]; first | assumption | go_simp
    have of1 : w3.frozen? ⟨w.heap.size + 1, 1, none⟩ = false := by rw [hb.frozen (p := ⟨w.heap.size + 1, 1, none⟩) (by first | omega | ((try simp only [World.size_alloc, World.size_setCell, size_drew, size_drewN]); omega) | (simp; done) | (simp; omega))]; first | assumption | go_simp
    have hB3 : Below w.heap.size w w3 := Below.trans (by (with_reducible repeat first | exact Below.refl _ _ | assumption | ((first | refine Below.setCell ?_ ?_ _ | refine Below.alloc ?_ ?_ _); rotate_left; exact (by first | omega | (simp; done) | (simp; omega))) | refine Below.drew ?_ | refine Below_drewN ?_ _)) (hb.mono (by first | omega | ((try simp only [World.size_alloc, World.size_setCell, size_drew, size_drewN]); omega) | (simp; done) | (simp; omega)))
    have sz3 : w.heap.size + 1 < w3.heap.size := Nat.lt_of_lt_of_le (by first | assumption | (simp; omega)) hb.size
    have sy3 : w.heap.size < w3.heap.size := by omega
    clear hb
    clear n0 n1 n2 n3 n4 n5 n6 n7 n8 n9 nt0 nt1 nf0 nf1
    go_wp2_with fail
    rw [HG.out]
    exact bodyPost_ret (res3P Tryd.results46 _ _ _ _ _ _ rfl rfl (by go_simp) (by go_simp)) rfl ⟨rfl, by (with_reducible repeat first | exact Below.refl _ _ | assumption | ((first | refine Below.setCell ?_ ?_ _ | refine Below.alloc ?_ ?_ _); rotate_left; exact (by first | omega | (simp; done) | (simp; omega))) | refine Below.drew ?_ | refine Below_drewN ?_ _)⟩

end Go.Proofs.YtfpjhobhmcfpnabDoor
end
section
/- The library's contracts that these proofs use, at this seat's numbers: laid by the kit's own programs, in plain words. -/
namespace Go.Proofs
open Go.Shelf
def Tryd.laysNm215_ren : Go.Shelf.Ren := ⟨fun | 15 => 80 | n => n, fun | 22 => 30 | 3 => 3 | 4 => 4 | n => n, fun | n => n⟩
theorem Tryd.laysNm215 : Go.Proofs.Lays2.n15 Tryd.prog Tryd.laysNm215_ren := {
  mixed := by kernel_rfl
  f15 := Tryd.func80.trans (congrArg some (by kernel_rfl))
  t3 := Tryd.underlying3
  a3 := Tryd.isAgg3
  z3 := Tryd.sizeOf3
  v3 := Tryd.zeroValue3
  t4 := Tryd.underlying4
  a4 := Tryd.isAgg4
  z4 := Tryd.sizeOf4
  v4 := Tryd.zeroValue4
  t22 := Tryd.underlying30
  a22 := Tryd.isAgg30
  z22 := Tryd.sizeOf30
  v22 := Tryd.zeroValue30
  i3 := by kernel_rfl }
open Go.RowKit Go.Lib in
theorem Tryd.slices_Clone_int (b off n c : Nat) (zs : List Int) (w : World) (hz : n ≤ zs.length) (hbig : n * 8 ≤ 140737488355328) (hc : ∀ j, j < zs.length → w.cell? ⟨b, off + j, none⟩ = some (.int .i64 (zs.getD j 0))) :
    Calls Tryd.prog 80 #[.slice (some ⟨b, off, none⟩) n c] w fun e w' => ∃ v', e = .returned v' ∧ w'.ownsRow w.heap.size 3 1 v' n ((zs.take n).map (Value.int .i64)) ∧ v' ≠ .slice none 0 0 ∧ Below w.heap.size w w' := Any.slices_Clone_int Tryd.laysNm215 b off n c zs w hz hbig hc
open Go.RowKit Go.Lib in
theorem Tryd.slices_Clone_int_nil (n c : Nat) (w : World) :
    Calls Tryd.prog 80 #[.slice none n c] w fun e w' => e = .returned (.slice none 0 0) ∧ w' = w := Any.slices_Clone_int_nil Tryd.laysNm215 n c w
open Go.RowKit Go.Lib in
theorem Tryd.slices_Clone_int_zero (a : Addr) (c : Nat) (w : World) :
    Calls Tryd.prog 80 #[.slice (some a) 0 c] w fun e w' => ∃ v', e = .returned v' ∧ w'.ownsRow w.heap.size 3 1 v' 0 [] ∧ v' ≠ .slice none 0 0 ∧ Below w.heap.size w w' := Any.slices_Clone_int_zero Tryd.laysNm215 a c w
end Go.Proofs
end
