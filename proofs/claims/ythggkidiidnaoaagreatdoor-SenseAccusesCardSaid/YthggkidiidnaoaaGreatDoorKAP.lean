import Derived.Test.YthggkidiidnaoaaGreatDoorKAI
import Derived.Test.YthggkidiidnaoaaGreatDoorKAJ
import Derived.Test.YthggkidiidnaoaaGreatDoorKAL
import Derived.Test.YthggkidiidnaoaaGreatDoorKAN
import Derived.Test.YthggkidiidnaoaaGreatDoorKAO
import Derived.Handy
import Derived.Outline
import Derived.Test.YthggkidiidnaoaaGreatDoorRows
import Derived.KernelRfl
import Derived.Laws.StructEq
namespace Go.Proofs.YthggkidiidnaoaaGreatDoor
set_option linter.unusedVariables false
set_option linter.unusedSimpArgs false
section
open Go.RowKit Go.Shelf
theorem validC_check {M : MachD} {C : CurD} (h : validC M C = true) : checkC M = 0 := by
 unfold validC at h; simp only [Bool.and_eq_true, decide_eq_true_eq] at h; exact h.1
theorem validC_cells {M : MachD} {C : CurD} (h : validC M C = true) : (C.plasma.length : Int) = M.grid.nr * M.grid.nz := by
 unfold validC at h; simp only [Bool.and_eq_true, decide_eq_true_eq] at h; exact h.2.2.2.2.2.1
set_option maxRecDepth 100000 in
set_option maxHeartbeats 4000000 in
theorem exact_flux (name : ByteArray) (A B Cl D : Option Addr) (ca cb lc cl ld cd : Nat) (g : GridD) (limits : List PointD) (sensors : List SensorD) (A1 B1 C : Option Addr) (na qa nb qb len cap : Nat) (c1 c2 zs : List Int) (i : Nat) (x : SensorD) (w : World)
  (hM : IsM w ⟨A, B, Cl, D, 0, ca, 0, cb, lc, cl, ld, cd⟩ ⟨name, [], [], limits, g, sensors⟩) (hC : IsC w ⟨A1, B1, C, na, qa, nb, qb, len, cap⟩ ⟨c1, c2, zs⟩) (hv : validC ⟨name, [], [], limits, g, sensors⟩ ⟨c1, c2, zs⟩ = true) (hx : sensors[i]? = some x) (hk : x.kind = 1) :
  Calls Tryz.prog 42 #[.agg #[.string name, .slice A 0 ca, .slice B 0 cb, .slice Cl lc cl, .int .i64 g.r, .int .i64 g.z, .int .i64 g.nr, .int .i64 g.nz, .int .i64 g.step, .slice D ld cd], .agg #[.slice A1 na qa, .slice B1 nb qb, .slice C len cap], .int .i64 i] w
   (Ret (.tuple #[.int .i64 (fluxW (x.r, x.z) 0 (cellSrc g zs len)), .int .i64 0]) w) := by
 have HV := Lib.hid (fun W (hb : Below w.heap.size w W) => show Calls Tryz.prog 40 #[.agg #[.string name, .slice A 0 ca, .slice B 0 cb, .slice Cl lc cl, .int .i64 g.r, .int .i64 g.z, .int .i64 g.nr, .int .i64 g.nz, .int .i64 g.step, .slice D ld cd], .agg #[.slice A1 na qa, .slice B1 nb qb, .slice C len cap]] W (Ret (.bool true) W) from by
  have := validCurrents_any _ _ _ _ W (hM.below hb) (hC.below hb); rw [hv] at this; exact this)
 have hg := fine_grid (grid_of (validC_check hv))
 have hl : len ≤ 1000 := by have h1 := validC_cells hv; have h2 := hC.plasma.1; have h3 := cells_fine hg; dsimp only at h1 h2 h3; omega
 have HF := Lib.hid (fun W (hb : Below w.heap.size w W) => fluxAt_bare name A B Cl D ca cb lc cl ld cd g hg A1 B1 C na qa nb qb len cap zs x.r x.z W (hC.below hb).plasma hl)
 have hi : i < ld := by have h1 := hM.sensors.1; have h2 := (List.getElem?_eq_some_iff.1 hx).1; dsimp only at h1; omega
 obtain ⟨b, o, hD, hb0, hcl⟩ := hM.sensors.2 (show 0 < ld by omega)
 dsimp only at hD hcl
 subst hD
 have X0 : Hid (w.cell? ⟨b, o + i * 5, none⟩ = some (.string x.name)) := Lib.hid (by have h := hcl i x hx 0 _ rfl; simpa using h)
 have X1 : Hid (w.cell? ⟨b, o + i * 5 + 1, none⟩ = some (.int .i64 1)) := Lib.hid (by have h := hcl i x hx 1 _ rfl; rw [hk] at h; simpa using h)
 have X2 : Hid (w.cell? ⟨b, o + i * 5 + 2, none⟩ = some (.int .i64 x.r)) := Lib.hid (by have h := hcl i x hx 2 _ rfl; simpa using h)
 have X3 : Hid (w.cell? ⟨b, o + i * 5 + 3, none⟩ = some (.int .i64 x.z)) := Lib.hid (by have h := hcl i x hx 3 _ rfl; simpa using h)
 have X4 : Hid (w.cell? ⟨b, o + i * 5 + 4, none⟩ = some (.int .i64 x.error)) := Lib.hid (by have h := hcl i x hx 4 _ rfl; simpa using h)
 have hcd := hM.kd
 have hld := hM.ld
 dsimp only at hcd hld
 have hw : wthn (i : Int) 0 ((ld : Int) - 1) = true := wthn_iff.2 (by omega)
 generalize fluxW (x.r, x.z) 0 (cellSrc g zs len) = V at *
 obtain ⟨xn, xk, xr, xz, xe⟩ := x
 dsimp only at *
 clear hM hC hv hx hk hg hcl
 go_enter Tryz.func42, Tryz.ntmps42
 go_wp2_with (first | (go_at_call 40; refine (HV.out _ (by (repeat first | with_reducible exact Below.refl _ _ | (with_reducible refine Below.alloc ?_ ?_ _; rotate_left; exact (by first | omega | (simp; done)))))).mono ?_; rintro e w1 ⟨rfl, hb⟩; have hB : Below w.heap.size w w1 := Below.trans (by (repeat first | with_reducible exact Below.refl _ _ | (with_reducible refine Below.alloc ?_ ?_ _; rotate_left; exact (by first | omega | (simp; done))))) (hb.mono (by (simp; omega))); obtain ⟨hc, hf⟩ := bcell hb; have hs := hb.size; clear hb; (try simp only [World.size_alloc, World.size_setCell] at hc hf); (try simp only [World.size_alloc, World.size_setCell] at hs); (try have hs' := Nat.lt_of_succ_le hs); (try have hs0 : w.heap.size < w1.heap.size := by omega); (try have hs1 : w.heap.size + 1 < w1.heap.size := by omega); (try have hs2 : w.heap.size + 1 + 1 < w1.heap.size := by omega); (try have hs3 : w.heap.size + 1 + 1 + 1 < w1.heap.size := by omega); have y0 := (hB.cell (p := ⟨b, o + i * 5, none⟩) hb0).trans X0.out; have y1 := (hB.cell (p := ⟨b, o + i * 5 + 1, none⟩) hb0).trans X1.out; have y2 := (hB.cell (p := ⟨b, o + i * 5 + 2, none⟩) hb0).trans X2.out; have y3 := (hB.cell (p := ⟨b, o + i * 5 + 3, none⟩) hb0).trans X3.out; have y4 := (hB.cell (p := ⟨b, o + i * 5 + 4, none⟩) hb0).trans X4.out) | (go_at_call 78; refine (mwithin_any _ _ _ _).mono ?_; rintro e w1 ⟨rfl, rfl⟩) | (go_at_call 79; refine (HF.out _ (by (repeat first | with_reducible assumption | (with_reducible refine Below.alloc ?_ ?_ _; rotate_left; exact (by first | omega | (simp; omega)))))).mono ?_; rintro e w1 ⟨rfl, hb⟩; have hB : Below w.heap.size w w1 := Below.trans (by (repeat first | with_reducible assumption | (with_reducible refine Below.alloc ?_ ?_ _; rotate_left; exact (by first | omega | (simp; omega))))) (hb.mono (by (simp; omega))); obtain ⟨hc, hf⟩ := bcell hb; have hs := hb.size; clear hb; (try simp only [World.size_alloc, World.size_setCell] at hc hf); (try simp only [World.size_alloc, World.size_setCell] at hs); (try have hs' := Nat.lt_of_succ_le hs); (try have hs0 : w.heap.size < w1.heap.size := by omega); (try have hs1 : w.heap.size + 1 < w1.heap.size := by omega); (try have hs2 : w.heap.size + 1 + 1 < w1.heap.size := by omega); (try have hs3 : w.heap.size + 1 + 1 + 1 < w1.heap.size := by omega)))
 go_ret2
 exact ⟨rfl, by (repeat with_reducible assumption)⟩
end
section
open Go.RowKit Go.Shelf
def fluxP (p : Int × Int) : List Src → Int
 | [] => 0
 | x :: r => infl p.1 p.2 x.1.1 x.1.2 * x.2 + fluxP p r
theorem fluxP_append (p : Int × Int) (a b : List Src) : fluxP p (a ++ b) = fluxP p a + fluxP p b := by
 induction a with
 | nil => simp [fluxP]
 | cons x r ih => simp only [List.cons_append, fluxP, ih]; omega
theorem mul_bd {a b A B : Int} (a0 : 0 ≤ a) (a1 : a ≤ A) (b0 : -B ≤ b) (b1 : b ≤ B) : -(A * B) ≤ a * b ∧ a * b ≤ A * B := by
 have hB : 0 ≤ B := by omega
 have hA : 0 ≤ A := by omega
 have h1 : a * B ≤ A * B := Int.mul_le_mul_of_nonneg_right a1 hB
 have h2 : a * b ≤ a * B := Int.mul_le_mul_of_nonneg_left b1 a0
 have h3 : a * (-B) ≤ a * b := Int.mul_le_mul_of_nonneg_left b0 a0
 rw [Int.mul_neg] at h3
 omega
def Small (S : List Src) : Prop := S.length ≤ 1000 ∧ ∀ x ∈ S, -100000000 ≤ x.2 ∧ x.2 ≤ 100000000
theorem fluxP_bd (p : Int × Int) : ∀ (S : List Src), (∀ x ∈ S, -100000000 ≤ x.2 ∧ x.2 ≤ 100000000) → -(25000000000000 * (S.length : Int)) ≤ fluxP p S ∧ fluxP p S ≤ 25000000000000 * (S.length : Int)
 | [], _ => by simp [fluxP]
 | x :: r, h => by
  have h1 := fluxP_bd p r (fun y hy => h y (List.mem_cons_of_mem _ hy))
  have h2 := h x (by simp)
  have h3 := infl_bd p.1 p.2 x.1.1 x.1.2
  have h4 := mul_bd h3.1 h3.2 h2.1 h2.2
  simp only [fluxP, List.length_cons]
  omega
theorem Small.bd {S : List Src} (h : Small S) (p : Int × Int) : -25000000000000000 ≤ fluxP p S ∧ fluxP p S ≤ 25000000000000000 := by
 have h1 := fluxP_bd p S h.2
 have h2 := h.1
 omega
theorem fluxW_eq (p : Int × Int) : ∀ (S : List Src) (s : Int), (∀ x ∈ S, -100000000 ≤ x.2 ∧ x.2 ≤ 100000000) → -(25000000000000000 : Int) ≤ s - 25000000000000 * (S.length : Int) → s + 25000000000000 * (S.length : Int) ≤ 25000000000000000 → fluxW p s S = s + fluxP p S
 | [], s, _, _, _ => by simp [fluxW, fluxP]
 | x :: r, s, h, h0, h1 => by
  have h2 := h x (by simp)
  have h3 := infl_bd p.1 p.2 x.1.1 x.1.2
  have h4 := mul_bd h3.1 h3.2 h2.1 h2.2
  simp only [List.length_cons] at h0 h1
  simp only [fluxW, fluxP]
  have e1 : wrap64 (infl p.1 p.2 x.1.1 x.1.2 * x.2) = infl p.1 p.2 x.1.1 x.1.2 * x.2 := IntWalk.wrap64_in _ (by omega)
  rw [e1, IntWalk.wrap64_in _ (by omega), fluxW_eq p r _ (fun y hy => h y (List.mem_cons_of_mem _ hy)) (by omega) (by omega)]
  omega
theorem fluxW_plain {S : List Src} (h : Small S) (p : Int × Int) : fluxW p 0 S = fluxP p S := by
 have h1 := h.1
 rw [fluxW_eq p S 0 h.2 (by omega) (by omega)]; omega
theorem eachGo_all {α : Type} {chk : α → List α → Int} : ∀ (l pre : List α), eachGo chk pre l = 0 → ∀ x ∈ l, ∃ e, chk x e = 0
 | [], _, _, x, hx => by cases hx
 | y :: r, pre, h, x, hx => by
  unfold eachGo at h
  by_cases hc : chk y pre = 0
  ·rw [if_pos hc] at h
   rcases List.mem_cons.1 hx with rfl | hx
   ·exact ⟨pre, hc⟩
   ·exact eachGo_all r _ h x hx
  ·rw [if_neg hc] at h; exact absurd h hc
theorem eachC_all {α : Type} {chk : α → List α → Int} {most : Int} {l : List α} (h : eachC chk most l = 0) : (l.length : Int) ≤ most ∧ ∀ x ∈ l, ∃ e, chk x e = 0 := by
 unfold eachC at h
 by_cases hm : most < l.length
 ·rw [if_pos hm] at h; simp at h
 ·rw [if_neg hm] at h; exact ⟨by omega, eachGo_all _ _ h⟩
theorem near_iff {r z f : Int} : nearB r z f = true ↔ (-f ≤ r ∧ r ≤ f) ∧ -f ≤ z ∧ z ≤ f := by simp [nearB, wthn]
theorem coil_ok {c : CoilD} {e : List CoilD} (h : coilC c e = 0) : (1 ≤ c.turns ∧ c.turns ≤ 100) ∧ (-60 ≤ c.r ∧ c.r ≤ 60) ∧ -60 ≤ c.z ∧ c.z ≤ 60 := by
 unfold coilC at h
 split at h
 ·split at h
  ·simp at h
  ·have h1 := rng_zero h
   simp only [Bool.and_eq_true] at h1
   exact ⟨wthn_iff.1 h1.2.1, near_iff.1 h1.1⟩
 ·simp at h
theorem shell_ok {c : ShellD} {e : List ShellD} (h : shellC c e = 0) : (-60 ≤ c.r ∧ c.r ≤ 60) ∧ -60 ≤ c.z ∧ c.z ≤ 60 := by
 unfold shellC at h
 have h1 := rng_zero h
 simp only [Bool.and_eq_true] at h1
 exact near_iff.1 h1.1
theorem sensor_ok {c : SensorD} {e : List SensorD} (h : sensorC c e = 0) : (1 ≤ c.kind ∧ c.kind ≤ 3) ∧ ((-60 ≤ c.r ∧ c.r ≤ 60) ∧ -60 ≤ c.z ∧ c.z ≤ 60) ∧ 0 ≤ c.error ∧ c.error ≤ 1000000000 := by
 unfold sensorC at h
 split at h
 ·split at h
  ·simp at h
  ·have h1 := rng_zero h
   simp only [Bool.and_eq_true] at h1
   exact ⟨wthn_iff.1 h1.1, near_iff.1 h1.2.1, wthn_iff.1 h1.2.2⟩
 ·simp at h
structure Sound (M : MachD) : Prop where
 coils : (M.coils.length : Int) ≤ 12 ∧ ∀ x ∈ M.coils, (1 ≤ x.turns ∧ x.turns ≤ 100) ∧ (-60 ≤ x.r ∧ x.r ≤ 60) ∧ -60 ≤ x.z ∧ x.z ≤ 60
 shells : (M.shells.length : Int) ≤ 16 ∧ ∀ x ∈ M.shells, (-60 ≤ x.r ∧ x.r ≤ 60) ∧ -60 ≤ x.z ∧ x.z ≤ 60
 sensors : (M.sensors.length : Int) ≤ 24 ∧ ∀ x ∈ M.sensors, (1 ≤ x.kind ∧ x.kind ≤ 3) ∧ ((-60 ≤ x.r ∧ x.r ≤ 60) ∧ -60 ≤ x.z ∧ x.z ≤ 60) ∧ 0 ≤ x.error ∧ x.error ≤ 1000000000
 grid : M.grid.Fine
theorem sound_of {M : MachD} (h : checkC M = 0) : Sound M := by
 have h1 := (orL_zero (orL_zero h).2)
 have h2 := orL_zero h1.2
 have h6 := (orL_zero (orL_zero (orL_zero h2.2).2).2).1
 have c := eachC_all h1.1
 have s := eachC_all h2.1
 have q := eachC_all h6
 exact ⟨⟨c.1, fun x hx => (c.2 x hx).elim fun e he => coil_ok he⟩, ⟨s.1, fun x hx => (s.2 x hx).elim fun e he => shell_ok he⟩, ⟨q.1, fun x hx => (q.2 x hx).elim fun e he => sensor_ok he⟩, fine_grid (grid_of h)⟩
structure Fit2 (M : MachD) (C : CurD) : Prop where
 check : checkC M = 0
 coils : C.coils.length = M.coils.length ∧ ∀ x ∈ C.coils, -1000000 ≤ x ∧ x ≤ 1000000
 shells : C.shells.length = M.shells.length ∧ ∀ x ∈ C.shells, -1000000 ≤ x ∧ x ≤ 1000000
 plasma : (C.plasma.length : Int) = M.grid.nr * M.grid.nz ∧ ∀ x ∈ C.plasma, 0 ≤ x ∧ x ≤ 1000000
 total : tot 0 C.plasma ≤ 1000000
theorem allW_iff {l : List Int} {a b : Int} : allW l a b = true ↔ ∀ x ∈ l, a ≤ x ∧ x ≤ b := by
 unfold allW; rw [List.all_eq_true]
 exact ⟨fun h x hx => wthn_iff.1 (h x hx), fun h x hx => wthn_iff.2 (h x hx)⟩
theorem fit2_iff {M : MachD} {C : CurD} : validC M C = true ↔ Fit2 M C := by
 unfold validC
 simp only [Bool.and_eq_true, decide_eq_true_eq, allW_iff]
 exact ⟨fun ⟨h0, h1, h2, h3, h4, h5, h6, h7⟩ => ⟨h0, ⟨h1, h2⟩, ⟨h3, h4⟩, ⟨h5, h6⟩, h7⟩, fun h => ⟨h.check, h.coils.1, h.coils.2, h.shells.1, h.shells.2, h.plasma.1, h.plasma.2, h.total⟩⟩
def srcM (M : MachD) (C : CurD) : List Src := srcL M.grid M.coils M.shells C.coils C.shells C.plasma
theorem small_of {M : MachD} {C : CurD} (h : Fit2 M C) : Small (srcM M C) := by
 have hs := sound_of h.check
 have hc := cells_fine hs.grid
 have hp := h.plasma.1
 refine ⟨?_, fun x hx => ?_⟩
 ·unfold srcM; rw [srcL_length h.coils.1 h.shells.1]; have := hs.coils.1; have := hs.shells.1; omega
 ·unfold srcM srcL at hx
  rcases List.mem_append.1 hx with hx | hx
  ·obtain ⟨k, hk, e⟩ := List.mem_iff_getElem.1 hx
   simp at e
   simp at hk
   have h1 := hs.coils.2 _ (List.getElem_mem (show k < M.coils.length by omega))
   have h2 := h.coils.2 _ (List.getElem_mem (show k < C.coils.length by omega))
   have h3 := mul_bd (show 0 ≤ M.coils[k].turns by omega) h1.1.2 h2.1 h2.2
   rw [← e]; dsimp only; omega
  ·rcases List.mem_append.1 hx with hx | hx
   ·obtain ⟨k, hk, e⟩ := List.mem_iff_getElem.1 hx
    simp at e
    simp at hk
    have h2 := h.shells.2 _ (List.getElem_mem (show k < C.shells.length by omega))
    rw [← e]; dsimp only; omega
   ·unfold cellSrc at hx
    obtain ⟨k, hk, e⟩ := List.mem_map.1 hx
    rw [List.mem_range] at hk
    have h2 := h.plasma.2 _ (List.getElem_mem hk)
    rw [← e]; dsimp only
    rw [List.getElem?_eq_getElem hk]; simp only [Option.getD_some]; omega
set_option maxHeartbeats 2000000 in
theorem fluxAt_any (R : MachR) (M : MachD) (Q : CurR) (C : CurD) (p0 p1 : Int) (w : World) (hM : IsM w R M) (hC : IsC w Q C) (hv : Fit2 M C) :
  Calls Tryz.prog 79 #[.agg (machCells R M), Q.v, .agg #[.int .i64 p0, .int .i64 p1]] w (Ret (.int .i64 (fluxP (p0, p1) (srcM M C))) w) := by
 rw [← fluxW_plain (small_of hv)]
 have hs := sound_of hv.check
 have hc := cells_fine hs.grid
 have hla := hM.coils.1
 have hlb := hM.shells.1
 have hlc := hC.plasma.1
 have h1 := hs.coils.1
 have h2 := hs.shells.1
 have h3 := hv.plasma.1
 exact fluxAt_any0 M.name R.A R.B R.C R.D R.la R.ca R.lb R.cb R.lc R.cc R.ld R.cd M.grid hs.grid Q.A Q.B Q.C Q.la Q.ca Q.lb Q.cb Q.lc Q.cc M.coils M.shells C.coils C.shells C.plasma p0 p1 w
  hM.coils hM.shells hC.coils hC.shells hC.plasma hv.coils.1 hv.shells.1 (by omega) (by omega) (by omega)
  (fun k c x hc hx => by
   have t := hs.coils.2 c (List.mem_of_getElem? hc)
   have u := hv.coils.2 x (List.mem_of_getElem? hx)
   have b := mul_bd (show 0 ≤ c.turns by omega) t.1.2 u.1 u.2
   exact IntWalk.i64_in _ (by omega))
end
section
open Go.RowKit
def BoxL (b : Nat) (vs : List Value) (W : World) : Prop := b < W.heap.size ∧ ∀ (k : Nat) (v : Value), vs[k]? = some v → W.cell? ⟨b, k, none⟩ = some v
theorem BoxL.at {b : Nat} {vs : List Value} {W : World} (h : BoxL b vs W) (k : Nat) (v : Value) (hv : vs[k]? = some v) : W.cell? ⟨b, k, none⟩ = some v := h.2 k v hv
theorem BoxL.below {b : Nat} {vs : List Value} {W W' : World} (h : BoxL b vs W) (hb : Below W.heap.size W W') : BoxL b vs W' :=
 ⟨Nat.lt_of_lt_of_le h.1 hb.size, fun k v hv => (hb.cell (p := ⟨b, k, none⟩) h.1).trans (h.2 k v hv)⟩
theorem BoxL.mk2 {b : Nat} {v0 v1 : Value} {W : World} (hb : b < W.heap.size) (h0 : W.cell? ⟨b, 0, none⟩ = some v0) (h1 : W.cell? ⟨b, 1, none⟩ = some v1) : BoxL b [v0, v1] W :=
 ⟨hb, fun k v hv => by match k, hv with | 0, hv => rw [h0]; exact hv | 1, hv => rw [h1]; exact hv⟩
theorem BoxL.mk3 {b : Nat} {v0 v1 v2 : Value} {W : World} (hb : b < W.heap.size) (h0 : W.cell? ⟨b, 0, none⟩ = some v0) (h1 : W.cell? ⟨b, 1, none⟩ = some v1) (h2 : W.cell? ⟨b, 2, none⟩ = some v2) : BoxL b [v0, v1, v2] W :=
 ⟨hb, fun k v hv => by match k, hv with | 0, hv => rw [h0]; exact hv | 1, hv => rw [h1]; exact hv | 2, hv => rw [h2]; exact hv⟩
theorem BoxL.mk10 {b : Nat} {v0 v1 v2 v3 v4 v5 v6 v7 v8 v9 : Value} {W : World} (hb : b < W.heap.size) (h0 : W.cell? ⟨b, 0, none⟩ = some v0) (h1 : W.cell? ⟨b, 1, none⟩ = some v1) (h2 : W.cell? ⟨b, 2, none⟩ = some v2) (h3 : W.cell? ⟨b, 3, none⟩ = some v3) (h4 : W.cell? ⟨b, 4, none⟩ = some v4) (h5 : W.cell? ⟨b, 5, none⟩ = some v5) (h6 : W.cell? ⟨b, 6, none⟩ = some v6) (h7 : W.cell? ⟨b, 7, none⟩ = some v7) (h8 : W.cell? ⟨b, 8, none⟩ = some v8) (h9 : W.cell? ⟨b, 9, none⟩ = some v9) : BoxL b [v0, v1, v2, v3, v4, v5, v6, v7, v8, v9] W :=
 ⟨hb, fun k v hv => by match k, hv with | 0, hv => rw [h0]; exact hv | 1, hv => rw [h1]; exact hv | 2, hv => rw [h2]; exact hv | 3, hv => rw [h3]; exact hv | 4, hv => rw [h4]; exact hv | 5, hv => rw [h5]; exact hv | 6, hv => rw [h6]; exact hv | 7, hv => rw [h7]; exact hv | 8, hv => rw [h8]; exact hv | 9, hv => rw [h9]; exact hv⟩
def MarkL (b n : Nat) (W : World) : Prop := b < W.heap.size ∧ ∀ k, k < n → W.frozen? ⟨b, k, none⟩ = false
theorem MarkL.at {b n : Nat} {W : World} (h : MarkL b n W) (k : Nat) (hk : k < n) : W.frozen? ⟨b, k, none⟩ = false := h.2 k hk
theorem MarkL.below {b n : Nat} {W W' : World} (h : MarkL b n W) (hb : Below W.heap.size W W') : MarkL b n W' :=
 ⟨Nat.lt_of_lt_of_le h.1 hb.size, fun k hk => (hb.frozen (p := ⟨b, k, none⟩) h.1).trans (h.2 k hk)⟩
theorem MarkL.mk2 {b : Nat} {W : World} (hb : b < W.heap.size) (h0 : W.frozen? ⟨b, 0, none⟩ = false) (h1 : W.frozen? ⟨b, 1, none⟩ = false) : MarkL b 2 W :=
 ⟨hb, fun k hk => by match k, hk with | 0, _ => exact h0 | 1, _ => exact h1⟩
end
section
open Go.RowKit Go.Shelf
def fieldP (p : Int × Int) (S : List Src) : Int × Int := (fluxP (p.1, p.2 - 1) S - fluxP (p.1, p.2 + 1) S, fluxP (p.1 + 1, p.2) S - fluxP (p.1 - 1, p.2) S)
set_option maxRecDepth 100000 in
set_option maxHeartbeats 16000000 in
theorem fieldAt_any (R : MachR) (M : MachD) (Qr : CurR) (Cd : CurD) (p0 p1 : Int) (w : World) (hM : IsM w R M) (hC : IsC w Qr Cd) (hv : Fit2 M Cd) (g0 : -1000000 ≤ p0) (g1 : p0 ≤ 1000000) (g2 : -1000000 ≤ p1) (g3 : p1 ≤ 1000000) :
  Calls Tryz.prog 80 #[.agg (machCells R M), Qr.v, .agg #[.int .i64 p0, .int .i64 p1]] w (Ret (.tuple #[.int .i64 (fieldP (p0, p1) (srcM M Cd)).1, .int .i64 (fieldP (p0, p1) (srcM M Cd)).2]) w) := by
 have HF := Lib.hid (fun a b W (hb : Below w.heap.size w W) => fluxAt_any R M Qr Cd a b W (hM.below hb) (hC.below hb) hv)
 have HB := Lib.hid (fun p => (small_of hv).bd p)
 unfold fieldP
 dsimp only
 clear hM hC hv
 generalize srcM M Cd = S at *
 obtain ⟨A, B, Cl, D, la, ca, lb, cb, lc, cl, ld, cd⟩ := R
 obtain ⟨name, coils, shells, limits, ⟨r, z, nr, nz, step⟩, sensors⟩ := M
 obtain ⟨A1, B1, C1, na, qa, nb, qb, nc, qc⟩ := Qr
 have b1 := HB.out (p0, p1 - 1)
 have b2 := HB.out (p0, p1 + 1)
 have b3 := HB.out (p0 + 1, p1)
 have b4 := HB.out (p0 - 1, p1)
 have H1 := Lib.hid (show ∀ W, Below w.heap.size w W → Calls Tryz.prog 79 #[.agg #[.string name, .slice A la ca, .slice B lb cb, .slice Cl lc cl, .int .i64 r, .int .i64 z, .int .i64 nr, .int .i64 nz, .int .i64 step, .slice D ld cd], .agg #[.slice A1 na qa, .slice B1 nb qb, .slice C1 nc qc], .agg #[.int .i64 p0, .int .i64 (p1 - 1)]] W (Ret (.int .i64 (fluxP (p0, p1 - 1) S)) W) from fun W hb => HF.out _ _ W hb)
 have H2 := Lib.hid (show ∀ W, Below w.heap.size w W → Calls Tryz.prog 79 #[.agg #[.string name, .slice A la ca, .slice B lb cb, .slice Cl lc cl, .int .i64 r, .int .i64 z, .int .i64 nr, .int .i64 nz, .int .i64 step, .slice D ld cd], .agg #[.slice A1 na qa, .slice B1 nb qb, .slice C1 nc qc], .agg #[.int .i64 p0, .int .i64 (p1 + 1)]] W (Ret (.int .i64 (fluxP (p0, p1 + 1) S)) W) from fun W hb => HF.out _ _ W hb)
 have H3 := Lib.hid (show ∀ W, Below w.heap.size w W → Calls Tryz.prog 79 #[.agg #[.string name, .slice A la ca, .slice B lb cb, .slice Cl lc cl, .int .i64 r, .int .i64 z, .int .i64 nr, .int .i64 nz, .int .i64 step, .slice D ld cd], .agg #[.slice A1 na qa, .slice B1 nb qb, .slice C1 nc qc], .agg #[.int .i64 (p0 + 1), .int .i64 p1]] W (Ret (.int .i64 (fluxP (p0 + 1, p1) S)) W) from fun W hb => HF.out _ _ W hb)
 have H4 := Lib.hid (show ∀ W, Below w.heap.size w W → Calls Tryz.prog 79 #[.agg #[.string name, .slice A la ca, .slice B lb cb, .slice Cl lc cl, .int .i64 r, .int .i64 z, .int .i64 nr, .int .i64 nz, .int .i64 step, .slice D ld cd], .agg #[.slice A1 na qa, .slice B1 nb qb, .slice C1 nc qc], .agg #[.int .i64 (p0 - 1), .int .i64 p1]] W (Ret (.int .i64 (fluxP (p0 - 1, p1) S)) W) from fun W hb => HF.out _ _ W hb)
 generalize fluxP (p0, p1 - 1) S = f1 at *
 generalize fluxP (p0, p1 + 1) S = f2 at *
 generalize fluxP (p0 + 1, p1) S = f3 at *
 generalize fluxP (p0 - 1, p1) S = f4 at *
 clear HF HB
 show Calls Tryz.prog 80 #[.agg #[.string name, .slice A la ca, .slice B lb cb, .slice Cl lc cl, .int .i64 r, .int .i64 z, .int .i64 nr, .int .i64 nz, .int .i64 step, .slice D ld cd], .agg #[.slice A1 na qa, .slice B1 nb qb, .slice C1 nc qc], .agg #[.int .i64 p0, .int .i64 p1]] w _
 go_enter Tryz.func80, Tryz.ntmps80
 go_upto_region 1 with (fail)
 have m0 : (((w.alloc (.cells #[.string name, .slice A la ca, .slice B lb cb, .slice Cl lc cl, .int .i64 r, .int .i64 z, .int .i64 nr, .int .i64 nz, .int .i64 step, .slice D ld cd] 29)).alloc (.cells #[.slice A1 na qa, .slice B1 nb qb, .slice C1 nc qc] 32)).alloc (.cells #[.int .i64 p0, .int .i64 p1] 76)).cell? ⟨w.heap.size, 0, none⟩ = some (.string name) := by go_simp
 have m1 : (((w.alloc (.cells #[.string name, .slice A la ca, .slice B lb cb, .slice Cl lc cl, .int .i64 r, .int .i64 z, .int .i64 nr, .int .i64 nz, .int .i64 step, .slice D ld cd] 29)).alloc (.cells #[.slice A1 na qa, .slice B1 nb qb, .slice C1 nc qc] 32)).alloc (.cells #[.int .i64 p0, .int .i64 p1] 76)).cell? ⟨w.heap.size, 1, none⟩ = some (.slice A la ca) := by go_simp
 have m2 : (((w.alloc (.cells #[.string name, .slice A la ca, .slice B lb cb, .slice Cl lc cl, .int .i64 r, .int .i64 z, .int .i64 nr, .int .i64 nz, .int .i64 step, .slice D ld cd] 29)).alloc (.cells #[.slice A1 na qa, .slice B1 nb qb, .slice C1 nc qc] 32)).alloc (.cells #[.int .i64 p0, .int .i64 p1] 76)).cell? ⟨w.heap.size, 2, none⟩ = some (.slice B lb cb) := by go_simp
 have m3 : (((w.alloc (.cells #[.string name, .slice A la ca, .slice B lb cb, .slice Cl lc cl, .int .i64 r, .int .i64 z, .int .i64 nr, .int .i64 nz, .int .i64 step, .slice D ld cd] 29)).alloc (.cells #[.slice A1 na qa, .slice B1 nb qb, .slice C1 nc qc] 32)).alloc (.cells #[.int .i64 p0, .int .i64 p1] 76)).cell? ⟨w.heap.size, 3, none⟩ = some (.slice Cl lc cl) := by go_simp
 have m4 : (((w.alloc (.cells #[.string name, .slice A la ca, .slice B lb cb, .slice Cl lc cl, .int .i64 r, .int .i64 z, .int .i64 nr, .int .i64 nz, .int .i64 step, .slice D ld cd] 29)).alloc (.cells #[.slice A1 na qa, .slice B1 nb qb, .slice C1 nc qc] 32)).alloc (.cells #[.int .i64 p0, .int .i64 p1] 76)).cell? ⟨w.heap.size, 4, none⟩ = some (.int .i64 r) := by go_simp
 have m5 : (((w.alloc (.cells #[.string name, .slice A la ca, .slice B lb cb, .slice Cl lc cl, .int .i64 r, .int .i64 z, .int .i64 nr, .int .i64 nz, .int .i64 step, .slice D ld cd] 29)).alloc (.cells #[.slice A1 na qa, .slice B1 nb qb, .slice C1 nc qc] 32)).alloc (.cells #[.int .i64 p0, .int .i64 p1] 76)).cell? ⟨w.heap.size, 5, none⟩ = some (.int .i64 z) := by go_simp
 have m6 : (((w.alloc (.cells #[.string name, .slice A la ca, .slice B lb cb, .slice Cl lc cl, .int .i64 r, .int .i64 z, .int .i64 nr, .int .i64 nz, .int .i64 step, .slice D ld cd] 29)).alloc (.cells #[.slice A1 na qa, .slice B1 nb qb, .slice C1 nc qc] 32)).alloc (.cells #[.int .i64 p0, .int .i64 p1] 76)).cell? ⟨w.heap.size, 6, none⟩ = some (.int .i64 nr) := by go_simp
 have m7 : (((w.alloc (.cells #[.string name, .slice A la ca, .slice B lb cb, .slice Cl lc cl, .int .i64 r, .int .i64 z, .int .i64 nr, .int .i64 nz, .int .i64 step, .slice D ld cd] 29)).alloc (.cells #[.slice A1 na qa, .slice B1 nb qb, .slice C1 nc qc] 32)).alloc (.cells #[.int .i64 p0, .int .i64 p1] 76)).cell? ⟨w.heap.size, 7, none⟩ = some (.int .i64 nz) := by go_simp
 have m8 : (((w.alloc (.cells #[.string name, .slice A la ca, .slice B lb cb, .slice Cl lc cl, .int .i64 r, .int .i64 z, .int .i64 nr, .int .i64 nz, .int .i64 step, .slice D ld cd] 29)).alloc (.cells #[.slice A1 na qa, .slice B1 nb qb, .slice C1 nc qc] 32)).alloc (.cells #[.int .i64 p0, .int .i64 p1] 76)).cell? ⟨w.heap.size, 8, none⟩ = some (.int .i64 step) := by go_simp
 have m9 : (((w.alloc (.cells #[.string name, .slice A la ca, .slice B lb cb, .slice Cl lc cl, .int .i64 r, .int .i64 z, .int .i64 nr, .int .i64 nz, .int .i64 step, .slice D ld cd] 29)).alloc (.cells #[.slice A1 na qa, .slice B1 nb qb, .slice C1 nc qc] 32)).alloc (.cells #[.int .i64 p0, .int .i64 p1] 76)).cell? ⟨w.heap.size, 9, none⟩ = some (.slice D ld cd) := by go_simp
 have c0 : (((w.alloc (.cells #[.string name, .slice A la ca, .slice B lb cb, .slice Cl lc cl, .int .i64 r, .int .i64 z, .int .i64 nr, .int .i64 nz, .int .i64 step, .slice D ld cd] 29)).alloc (.cells #[.slice A1 na qa, .slice B1 nb qb, .slice C1 nc qc] 32)).alloc (.cells #[.int .i64 p0, .int .i64 p1] 76)).cell? ⟨w.heap.size + 1, 0, none⟩ = some (.slice A1 na qa) := by go_simp
 have c1 : (((w.alloc (.cells #[.string name, .slice A la ca, .slice B lb cb, .slice Cl lc cl, .int .i64 r, .int .i64 z, .int .i64 nr, .int .i64 nz, .int .i64 step, .slice D ld cd] 29)).alloc (.cells #[.slice A1 na qa, .slice B1 nb qb, .slice C1 nc qc] 32)).alloc (.cells #[.int .i64 p0, .int .i64 p1] 76)).cell? ⟨w.heap.size + 1, 1, none⟩ = some (.slice B1 nb qb) := by go_simp
 have c2 : (((w.alloc (.cells #[.string name, .slice A la ca, .slice B lb cb, .slice Cl lc cl, .int .i64 r, .int .i64 z, .int .i64 nr, .int .i64 nz, .int .i64 step, .slice D ld cd] 29)).alloc (.cells #[.slice A1 na qa, .slice B1 nb qb, .slice C1 nc qc] 32)).alloc (.cells #[.int .i64 p0, .int .i64 p1] 76)).cell? ⟨w.heap.size + 1, 2, none⟩ = some (.slice C1 nc qc) := by go_simp
 have p0c : (((w.alloc (.cells #[.string name, .slice A la ca, .slice B lb cb, .slice Cl lc cl, .int .i64 r, .int .i64 z, .int .i64 nr, .int .i64 nz, .int .i64 step, .slice D ld cd] 29)).alloc (.cells #[.slice A1 na qa, .slice B1 nb qb, .slice C1 nc qc] 32)).alloc (.cells #[.int .i64 p0, .int .i64 p1] 76)).cell? ⟨w.heap.size + 1 + 1, 0, none⟩ = some (.int .i64 p0) := by go_simp
 have p1c : (((w.alloc (.cells #[.string name, .slice A la ca, .slice B lb cb, .slice Cl lc cl, .int .i64 r, .int .i64 z, .int .i64 nr, .int .i64 nz, .int .i64 step, .slice D ld cd] 29)).alloc (.cells #[.slice A1 na qa, .slice B1 nb qb, .slice C1 nc qc] 32)).alloc (.cells #[.int .i64 p0, .int .i64 p1] 76)).cell? ⟨w.heap.size + 1 + 1, 1, none⟩ = some (.int .i64 p1) := by go_simp
 have hz : w.heap.size + 1 + 1 < (((w.alloc (.cells #[.string name, .slice A la ca, .slice B lb cb, .slice Cl lc cl, .int .i64 r, .int .i64 z, .int .i64 nr, .int .i64 nz, .int .i64 step, .slice D ld cd] 29)).alloc (.cells #[.slice A1 na qa, .slice B1 nb qb, .slice C1 nc qc] 32)).alloc (.cells #[.int .i64 p0, .int .i64 p1] 76)).heap.size := by simp
 have hB : Below w.heap.size w (((w.alloc (.cells #[.string name, .slice A la ca, .slice B lb cb, .slice Cl lc cl, .int .i64 r, .int .i64 z, .int .i64 nr, .int .i64 nz, .int .i64 step, .slice D ld cd] 29)).alloc (.cells #[.slice A1 na qa, .slice B1 nb qb, .slice C1 nc qc] 32)).alloc (.cells #[.int .i64 p0, .int .i64 p1] 76)) := by (repeat first | with_reducible exact Below.refl _ _ | (with_reducible refine Below.alloc ?_ ?_ _; rotate_left; exact (by first | omega | (simp; done) | (simp; omega))))
 obtain ⟨W0, hW0⟩ : ∃ W, ((w.alloc (.cells #[.string name, .slice A la ca, .slice B lb cb, .slice Cl lc cl, .int .i64 r, .int .i64 z, .int .i64 nr, .int .i64 nz, .int .i64 step, .slice D ld cd] 29)).alloc (.cells #[.slice A1 na qa, .slice B1 nb qb, .slice C1 nc qc] 32)).alloc (.cells #[.int .i64 p0, .int .i64 p1] 76) = W := ⟨_, rfl⟩
 rw [hW0] at hz hB m0 m1 m2 m3 m4 m5 m6 m7 m8 m9 c0 c1 c2 p0c p1c ⊢
 clear hW0
 have FM := Lib.hid (BoxL.mk10 (W := W0) (by omega) m0 m1 m2 m3 m4 m5 m6 m7 m8 m9)
 have FC := Lib.hid (BoxL.mk3 (W := W0) (by omega) c0 c1 c2)
 have FP := Lib.hid (BoxL.mk2 (W := W0) hz p0c p1c)
 have HZ := Lib.hid hz
 clear m0 m1 m2 m3 m4 m5 m6 m7 m8 m9 c0 c1 c2
 go_cut [8, 9] (fun s t wx => ∃ y x : Nat, s = .pointer (some ⟨y, 0, none⟩) ∧ t = .pointer (some ⟨x, 0, none⟩) ∧ wx.cell? ⟨y, 0, none⟩ = some (.int .i64 (p0)) ∧ wx.cell? ⟨y, 1, none⟩ = some (.int .i64 (p1 - 1)) ∧ wx.cell? ⟨x, 0, none⟩ = some (.int .i64 (p0)) ∧ wx.cell? ⟨x, 1, none⟩ = some (.int .i64 (p1 + 1)) ∧ y < wx.heap.size ∧ x < wx.heap.size ∧ W0.heap.size ≤ y ∧ W0.heap.size ≤ x ∧ Below W0.heap.size W0 wx)
 case first =>
  have v0 : IntKind.i64.wrap (p1 - 1) = p1 - 1 := IntWalk.i64_in _ (by omega)
  have v1 : IntKind.i64.wrap (p1 + 1) = p1 + 1 := IntWalk.i64_in _ (by omega)
  have HS : Hid (∀ w' : World, Reg (W0.heap.size) (W0) w' → (Reg (W0.heap.size) (W0) w' ∧ w'.cell? ⟨w.heap.size + 1 + 1, 0, none⟩ = some (.int .i64 p0) ∧ w'.cell? ⟨w.heap.size + 1 + 1, 1, none⟩ = some (.int .i64 p1))) := (fun w' h => by (have hc := h.cells; have hs := h.some; have hf := h.frozen; refine ⟨h, ?_⟩; (try simp only [World.size_alloc, World.size_setCell, size_drew, size_drewN] at hc hs hf); first | (simp (disch := omega) only [hc, hs, hf, cur_iff]; (try go_simp); done) | (simp (disch := first | omega | (simp; done)) only [hc, hs, hf, cur_iff]; (try go_simp); done) | (simp (maxDischargeDepth := 4) [hc, hs, hf, cur_iff, go_sem]; done) | (go_simp; done) | (simp (maxDischargeDepth := 4) [hc, hs, hf, cur_iff, go_sem]; go_simp))); go_region_held3 (fun w' => Reg (W0.heap.size) (W0) w' ∧ w'.cell? ⟨w.heap.size + 1 + 1, 0, none⟩ = some (.int .i64 p0) ∧ w'.cell? ⟨w.heap.size + 1 + 1, 1, none⟩ = some (.int .i64 p1)) (exact HS.out _ (by (repeat first | with_reducible exact Reg.refl _ _ | with_reducible refine Reg.alloc ?_ _ | with_reducible refine Reg.drew ?_))) (first | fail)
  all_goals go_wp2_with fail
  all_goals go_meet
  all_goals exact ⟨_, _, rfl, rfl, by go_simp, by go_simp, by go_simp, by go_simp, (by ((try simp only [World.size_alloc, World.size_setCell, size_drew, size_drewN]); omega)), (by ((try simp only [World.size_alloc, World.size_setCell, size_drew, size_drewN]); omega)), (by omega), (by omega), by (repeat first | with_reducible exact Below.refl _ _ | (with_reducible refine Below.alloc ?_ ?_ _; rotate_left; exact (by first | omega | (simp; done))) | with_reducible refine Below.drew ?_)⟩
 case rest =>
  obtain ⟨y8, y9, rfl, rfl, a0, a1, d0, d1, h8, h9, l8, l9, hb⟩ := hcut
  obtain ⟨W1, hW1⟩ : ∃ x, x = wc := ⟨_, rfl⟩
  subst hW1
  have hz1 := Nat.lt_of_lt_of_le HZ.out hb.size
  have p0d := (FP.out.below hb).at 0 (.int .i64 p0) rfl
  have p1d := (FP.out.below hb).at 1 (.int .i64 p1) rfl
  have hB1 := hB.trans (hb.mono hB.size)
  have E8 := Lib.hid (BoxL.mk2 h8 a0 a1)
  have E9 := Lib.hid (BoxL.mk2 h9 d0 d1)
  have HB1 := Lib.hid hb
  clear hb p0c p1c a0 a1 d0 d1 h8 h9 l8 l9 hz hB
  go_wp2_with fail
  go_cut [10, 11] (fun s t wx => ∃ y x : Nat, s = .pointer (some ⟨y, 0, none⟩) ∧ t = .pointer (some ⟨x, 0, none⟩) ∧ wx.cell? ⟨y, 0, none⟩ = some (.int .i64 (p0 - 1)) ∧ wx.cell? ⟨y, 1, none⟩ = some (.int .i64 (p1)) ∧ wx.cell? ⟨x, 0, none⟩ = some (.int .i64 (p0 + 1)) ∧ wx.cell? ⟨x, 1, none⟩ = some (.int .i64 (p1)) ∧ y < wx.heap.size ∧ x < wx.heap.size ∧ W1.heap.size ≤ y ∧ W1.heap.size ≤ x ∧ Below W1.heap.size W1 wx)
  case first =>
   have v0 : IntKind.i64.wrap (p0 - 1) = p0 - 1 := IntWalk.i64_in _ (by omega)
   have v1 : IntKind.i64.wrap (p0 + 1) = p0 + 1 := IntWalk.i64_in _ (by omega)
   have HS : Hid (∀ w' : World, Reg (W1.heap.size) (W1) w' → (Reg (W1.heap.size) (W1) w' ∧ w'.cell? ⟨w.heap.size + 1 + 1, 0, none⟩ = some (.int .i64 p0) ∧ w'.cell? ⟨w.heap.size + 1 + 1, 1, none⟩ = some (.int .i64 p1))) := (fun w' h => by (have hc := h.cells; have hs := h.some; have hf := h.frozen; refine ⟨h, ?_⟩; (try simp only [World.size_alloc, World.size_setCell, size_drew, size_drewN] at hc hs hf); first | (simp (disch := omega) only [hc, hs, hf, cur_iff]; (try go_simp); done) | (simp (disch := first | omega | (simp; done)) only [hc, hs, hf, cur_iff]; (try go_simp); done) | (simp (maxDischargeDepth := 4) [hc, hs, hf, cur_iff, go_sem]; done) | (go_simp; done) | (simp (maxDischargeDepth := 4) [hc, hs, hf, cur_iff, go_sem]; go_simp))); go_region_held3 (fun w' => Reg (W1.heap.size) (W1) w' ∧ w'.cell? ⟨w.heap.size + 1 + 1, 0, none⟩ = some (.int .i64 p0) ∧ w'.cell? ⟨w.heap.size + 1 + 1, 1, none⟩ = some (.int .i64 p1)) (exact HS.out _ (by (repeat first | with_reducible exact Reg.refl _ _ | with_reducible refine Reg.alloc ?_ _ | with_reducible refine Reg.drew ?_))) (first | fail)
   all_goals go_wp2_with fail
   all_goals go_meet
   all_goals exact ⟨_, _, rfl, rfl, by go_simp, by go_simp, by go_simp, by go_simp, (by ((try simp only [World.size_alloc, World.size_setCell, size_drew, size_drewN]); omega)), (by ((try simp only [World.size_alloc, World.size_setCell, size_drew, size_drewN]); omega)), (by omega), (by omega), by (repeat first | with_reducible exact Below.refl _ _ | (with_reducible refine Below.alloc ?_ ?_ _; rotate_left; exact (by first | omega | (simp; done))) | with_reducible refine Below.drew ?_)⟩
  case rest =>
   obtain ⟨y10, y11, rfl, rfl, a0, a1, d0, d1, h10, h11, l10, l11, hb⟩ := hcut
   have hbb := HB1.out.trans (hb.mono HB1.out.size)
   have m0 := (FM.out.below hbb).at 0 (.string name) rfl
   have m1 := (FM.out.below hbb).at 1 (.slice A la ca) rfl
   have m2 := (FM.out.below hbb).at 2 (.slice B lb cb) rfl
   have m3 := (FM.out.below hbb).at 3 (.slice Cl lc cl) rfl
   have m4 := (FM.out.below hbb).at 4 (.int .i64 r) rfl
   have m5 := (FM.out.below hbb).at 5 (.int .i64 z) rfl
   have m6 := (FM.out.below hbb).at 6 (.int .i64 nr) rfl
   have m7 := (FM.out.below hbb).at 7 (.int .i64 nz) rfl
   have m8 := (FM.out.below hbb).at 8 (.int .i64 step) rfl
   have m9 := (FM.out.below hbb).at 9 (.slice D ld cd) rfl
   have c0 := (FC.out.below hbb).at 0 (.slice A1 na qa) rfl
   have c1 := (FC.out.below hbb).at 1 (.slice B1 nb qb) rfl
   have c2 := (FC.out.below hbb).at 2 (.slice C1 nc qc) rfl
   have e0 := (E8.out.below hb).at 0 (.int .i64 p0) rfl
   have e1 := (E8.out.below hb).at 1 (.int .i64 (p1 - 1)) rfl
   have e2 := (E9.out.below hb).at 0 (.int .i64 p0) rfl
   have e3 := (E9.out.below hb).at 1 (.int .i64 (p1 + 1)) rfl
   have k8 := (E8.out.below hb).1
   have k9 := (E9.out.below hb).1
   have hz2 := Nat.lt_of_lt_of_le hz1 hb.size
   have hz3 : w.heap.size < wc.heap.size := by omega
   have hz4 : w.heap.size + 1 < wc.heap.size := by omega
   have hB2 := hB1.trans (hb.mono hB1.size)
   clear hb hbb p0d p1d E8 E9 HB1 FM FC FP HZ hz1 hB1 l10 l11
   have v0 : IntKind.i64.wrap (f1 - f2) = f1 - f2 := IntWalk.i64_in _ (by omega)
   have v1 : IntKind.i64.wrap (f3 - f4) = f3 - f4 := IntWalk.i64_in _ (by omega)
   go_wp2_with fail
   have HS : Hid (∀ w' : World, Reg (wc.heap.size) (wc) w' → (Reg (wc.heap.size) (wc) w' ∧ w'.cell? ⟨w.heap.size, 0, none⟩ = some (.string name) ∧ w'.cell? ⟨w.heap.size, 1, none⟩ = some (.slice A la ca) ∧ w'.cell? ⟨w.heap.size, 2, none⟩ = some (.slice B lb cb) ∧ w'.cell? ⟨w.heap.size, 3, none⟩ = some (.slice Cl lc cl) ∧ w'.cell? ⟨w.heap.size, 4, none⟩ = some (.int .i64 r) ∧ w'.cell? ⟨w.heap.size, 5, none⟩ = some (.int .i64 z) ∧ w'.cell? ⟨w.heap.size, 6, none⟩ = some (.int .i64 nr) ∧ w'.cell? ⟨w.heap.size, 7, none⟩ = some (.int .i64 nz) ∧ w'.cell? ⟨w.heap.size, 8, none⟩ = some (.int .i64 step) ∧ w'.cell? ⟨w.heap.size, 9, none⟩ = some (.slice D ld cd) ∧ w'.cell? ⟨w.heap.size + 1, 0, none⟩ = some (.slice A1 na qa) ∧ w'.cell? ⟨w.heap.size + 1, 1, none⟩ = some (.slice B1 nb qb) ∧ w'.cell? ⟨w.heap.size + 1, 2, none⟩ = some (.slice C1 nc qc) ∧ w'.cell? ⟨y8, 0, none⟩ = some (.int .i64 p0) ∧ w'.cell? ⟨y8, 1, none⟩ = some (.int .i64 (p1 - 1)) ∧ w'.cell? ⟨y9, 0, none⟩ = some (.int .i64 p0) ∧ w'.cell? ⟨y9, 1, none⟩ = some (.int .i64 (p1 + 1)) ∧ w'.cell? ⟨y10, 0, none⟩ = some (.int .i64 (p0 - 1)) ∧ w'.cell? ⟨y10, 1, none⟩ = some (.int .i64 p1) ∧ w'.cell? ⟨y11, 0, none⟩ = some (.int .i64 (p0 + 1)) ∧ w'.cell? ⟨y11, 1, none⟩ = some (.int .i64 p1))) := (fun w' h => by (have hc := h.cells; have hs := h.some; have hf := h.frozen; refine ⟨h, ?_⟩; (try simp only [World.size_alloc, World.size_setCell, size_drew, size_drewN] at hc hs hf); first | (simp (disch := omega) only [hc, hs, hf, cur_iff]; (try go_simp); done) | (simp (disch := first | omega | (simp; done)) only [hc, hs, hf, cur_iff]; (try go_simp); done) | (simp (maxDischargeDepth := 4) [hc, hs, hf, cur_iff, go_sem]; done) | (go_simp; done) | (simp (maxDischargeDepth := 4) [hc, hs, hf, cur_iff, go_sem]; go_simp))); go_region_held3 (fun w' => Reg (wc.heap.size) (wc) w' ∧ w'.cell? ⟨w.heap.size, 0, none⟩ = some (.string name) ∧ w'.cell? ⟨w.heap.size, 1, none⟩ = some (.slice A la ca) ∧ w'.cell? ⟨w.heap.size, 2, none⟩ = some (.slice B lb cb) ∧ w'.cell? ⟨w.heap.size, 3, none⟩ = some (.slice Cl lc cl) ∧ w'.cell? ⟨w.heap.size, 4, none⟩ = some (.int .i64 r) ∧ w'.cell? ⟨w.heap.size, 5, none⟩ = some (.int .i64 z) ∧ w'.cell? ⟨w.heap.size, 6, none⟩ = some (.int .i64 nr) ∧ w'.cell? ⟨w.heap.size, 7, none⟩ = some (.int .i64 nz) ∧ w'.cell? ⟨w.heap.size, 8, none⟩ = some (.int .i64 step) ∧ w'.cell? ⟨w.heap.size, 9, none⟩ = some (.slice D ld cd) ∧ w'.cell? ⟨w.heap.size + 1, 0, none⟩ = some (.slice A1 na qa) ∧ w'.cell? ⟨w.heap.size + 1, 1, none⟩ = some (.slice B1 nb qb) ∧ w'.cell? ⟨w.heap.size + 1, 2, none⟩ = some (.slice C1 nc qc) ∧ w'.cell? ⟨y8, 0, none⟩ = some (.int .i64 p0) ∧ w'.cell? ⟨y8, 1, none⟩ = some (.int .i64 (p1 - 1)) ∧ w'.cell? ⟨y9, 0, none⟩ = some (.int .i64 p0) ∧ w'.cell? ⟨y9, 1, none⟩ = some (.int .i64 (p1 + 1)) ∧ w'.cell? ⟨y10, 0, none⟩ = some (.int .i64 (p0 - 1)) ∧ w'.cell? ⟨y10, 1, none⟩ = some (.int .i64 p1) ∧ w'.cell? ⟨y11, 0, none⟩ = some (.int .i64 (p0 + 1)) ∧ w'.cell? ⟨y11, 1, none⟩ = some (.int .i64 p1)) (exact HS.out _ (by (repeat first | with_reducible exact Reg.refl _ _ | with_reducible exact (‹Reg _ _ _ ∧ _›).1 | with_reducible refine Reg.drew ?_ | (with_reducible apply Reg.call; rotate_left; with_reducible assumption)))) (first | (go_at_call 79; (with_reducible refine (H1.out _ (Reg.out (‹Reg _ _ _ ∧ _›).1 (by (repeat with_reducible assumption)) (by omega))).mono ?_); rintro e w9 ⟨rfl, hb⟩; (skip); (try simp only [World.size_alloc, World.size_setCell, size_drew, size_drewN] at hk); obtain ⟨hc, hf⟩ := bcell hb; have hs := hb.size; (try simp only [World.size_alloc, World.size_setCell, size_drew, size_drewN] at hs)) | (go_at_call 79; (with_reducible refine (H2.out _ (Reg.out (‹Reg _ _ _ ∧ _›).1 (by (repeat with_reducible assumption)) (by omega))).mono ?_); rintro e w9 ⟨rfl, hb⟩; (skip); (try simp only [World.size_alloc, World.size_setCell, size_drew, size_drewN] at hk); obtain ⟨hc, hf⟩ := bcell hb; have hs := hb.size; (try simp only [World.size_alloc, World.size_setCell, size_drew, size_drewN] at hs)))
   all_goals go_wp2_with fail
   all_goals (have HS : Hid (∀ w' : World, Reg (wc.heap.size) (wc) w' → (Reg (wc.heap.size) (wc) w' ∧ w'.cell? ⟨w.heap.size, 0, none⟩ = some (.string name) ∧ w'.cell? ⟨w.heap.size, 1, none⟩ = some (.slice A la ca) ∧ w'.cell? ⟨w.heap.size, 2, none⟩ = some (.slice B lb cb) ∧ w'.cell? ⟨w.heap.size, 3, none⟩ = some (.slice Cl lc cl) ∧ w'.cell? ⟨w.heap.size, 4, none⟩ = some (.int .i64 r) ∧ w'.cell? ⟨w.heap.size, 5, none⟩ = some (.int .i64 z) ∧ w'.cell? ⟨w.heap.size, 6, none⟩ = some (.int .i64 nr) ∧ w'.cell? ⟨w.heap.size, 7, none⟩ = some (.int .i64 nz) ∧ w'.cell? ⟨w.heap.size, 8, none⟩ = some (.int .i64 step) ∧ w'.cell? ⟨w.heap.size, 9, none⟩ = some (.slice D ld cd) ∧ w'.cell? ⟨w.heap.size + 1, 0, none⟩ = some (.slice A1 na qa) ∧ w'.cell? ⟨w.heap.size + 1, 1, none⟩ = some (.slice B1 nb qb) ∧ w'.cell? ⟨w.heap.size + 1, 2, none⟩ = some (.slice C1 nc qc) ∧ w'.cell? ⟨y8, 0, none⟩ = some (.int .i64 p0) ∧ w'.cell? ⟨y8, 1, none⟩ = some (.int .i64 (p1 - 1)) ∧ w'.cell? ⟨y9, 0, none⟩ = some (.int .i64 p0) ∧ w'.cell? ⟨y9, 1, none⟩ = some (.int .i64 (p1 + 1)) ∧ w'.cell? ⟨y10, 0, none⟩ = some (.int .i64 (p0 - 1)) ∧ w'.cell? ⟨y10, 1, none⟩ = some (.int .i64 p1) ∧ w'.cell? ⟨y11, 0, none⟩ = some (.int .i64 (p0 + 1)) ∧ w'.cell? ⟨y11, 1, none⟩ = some (.int .i64 p1))) := (fun w' h => by (have hc := h.cells; have hs := h.some; have hf := h.frozen; refine ⟨h, ?_⟩; (try simp only [World.size_alloc, World.size_setCell, size_drew, size_drewN] at hc hs hf); first | (simp (disch := omega) only [hc, hs, hf, cur_iff]; (try go_simp); done) | (simp (disch := first | omega | (simp; done)) only [hc, hs, hf, cur_iff]; (try go_simp); done) | (simp (maxDischargeDepth := 4) [hc, hs, hf, cur_iff, go_sem]; done) | (go_simp; done) | (simp (maxDischargeDepth := 4) [hc, hs, hf, cur_iff, go_sem]; go_simp))); go_region_held3 (fun w' => Reg (wc.heap.size) (wc) w' ∧ w'.cell? ⟨w.heap.size, 0, none⟩ = some (.string name) ∧ w'.cell? ⟨w.heap.size, 1, none⟩ = some (.slice A la ca) ∧ w'.cell? ⟨w.heap.size, 2, none⟩ = some (.slice B lb cb) ∧ w'.cell? ⟨w.heap.size, 3, none⟩ = some (.slice Cl lc cl) ∧ w'.cell? ⟨w.heap.size, 4, none⟩ = some (.int .i64 r) ∧ w'.cell? ⟨w.heap.size, 5, none⟩ = some (.int .i64 z) ∧ w'.cell? ⟨w.heap.size, 6, none⟩ = some (.int .i64 nr) ∧ w'.cell? ⟨w.heap.size, 7, none⟩ = some (.int .i64 nz) ∧ w'.cell? ⟨w.heap.size, 8, none⟩ = some (.int .i64 step) ∧ w'.cell? ⟨w.heap.size, 9, none⟩ = some (.slice D ld cd) ∧ w'.cell? ⟨w.heap.size + 1, 0, none⟩ = some (.slice A1 na qa) ∧ w'.cell? ⟨w.heap.size + 1, 1, none⟩ = some (.slice B1 nb qb) ∧ w'.cell? ⟨w.heap.size + 1, 2, none⟩ = some (.slice C1 nc qc) ∧ w'.cell? ⟨y8, 0, none⟩ = some (.int .i64 p0) ∧ w'.cell? ⟨y8, 1, none⟩ = some (.int .i64 (p1 - 1)) ∧ w'.cell? ⟨y9, 0, none⟩ = some (.int .i64 p0) ∧ w'.cell? ⟨y9, 1, none⟩ = some (.int .i64 (p1 + 1)) ∧ w'.cell? ⟨y10, 0, none⟩ = some (.int .i64 (p0 - 1)) ∧ w'.cell? ⟨y10, 1, none⟩ = some (.int .i64 p1) ∧ w'.cell? ⟨y11, 0, none⟩ = some (.int .i64 (p0 + 1)) ∧ w'.cell? ⟨y11, 1, none⟩ = some (.int .i64 p1)) (exact HS.out _ (by (repeat first | with_reducible exact (‹Reg _ _ _ ∧ _›).1 | with_reducible refine Reg.drew ?_ | (with_reducible apply Reg.call; rotate_left; with_reducible assumption)))) (first | (go_at_call 79; (with_reducible refine (H3.out _ (Reg.out (‹Reg _ _ _ ∧ _›).1 (by (repeat with_reducible assumption)) (by omega))).mono ?_); rintro e w9 ⟨rfl, hb⟩; (skip); (try simp only [World.size_alloc, World.size_setCell, size_drew, size_drewN] at hk); obtain ⟨hc, hf⟩ := bcell hb; have hs := hb.size; (try simp only [World.size_alloc, World.size_setCell, size_drew, size_drewN] at hs)) | (go_at_call 79; (with_reducible refine (H4.out _ (Reg.out (‹Reg _ _ _ ∧ _›).1 (by (repeat with_reducible assumption)) (by omega))).mono ?_); rintro e w9 ⟨rfl, hb⟩; (skip); (try simp only [World.size_alloc, World.size_setCell, size_drew, size_drewN] at hk); obtain ⟨hc, hf⟩ := bcell hb; have hs := hb.size; (try simp only [World.size_alloc, World.size_setCell, size_drew, size_drewN] at hs))))
   all_goals go_wp2_with fail
   all_goals go_ret2
   all_goals exact ⟨rfl, (Reg.out (‹Reg _ _ _ ∧ _›).1 (by (repeat with_reducible assumption)) (by omega))⟩
end
section
open Go.RowKit
def zeros (n : Nat) : List Value := List.replicate n (.int .i64 0)
end
section
open Go.RowKit
def cellsN (M : MachD) : Int := if checkC M = 0 then M.grid.nr * M.grid.nz else 0
end
section
open Go.RowKit
end
section
open Go.RowKit Go.Shelf
end
end Go.Proofs.YthggkidiidnaoaaGreatDoor
