import Derived.Test.YtjjajleiladbhaaGreatDoorLAD
import Derived.Test.YtjjajleiladbhaaGreatDoorLAL
import Derived.Handy
import Derived.Outline
section
/- Package machine: the flux of valid currents as a plain sum; fluxAt over them, over this seat's translation (written by mk_fld.py). -/
namespace Go.Proofs.YtjjajleiladbhaaGreatDoor
set_option linter.unusedVariables false
set_option linter.unusedSimpArgs false
open Go.RowKit Go.Shelf

/-- The flux at a place: each current times its influence there. -/
def fluxP (p : Int × Int) : List Src → Int
  | [] => 0
  | x :: r => infl p.1 p.2 x.1.1 x.1.2 * x.2 + fluxP p r
theorem mul_bd {a b A B : Int} (a0 : 0 ≤ a) (a1 : a ≤ A) (b0 : -B ≤ b) (b1 : b ≤ B) : -(A * B) ≤ a * b ∧ a * b ≤ A * B := by
  have hB : 0 ≤ B := by omega
  have hA : 0 ≤ A := by omega
  have h1 : a * B ≤ A * B := Int.mul_le_mul_of_nonneg_right a1 hB
  have h2 : a * b ≤ a * B := Int.mul_le_mul_of_nonneg_left b1 a0
  have h3 : a * (-B) ≤ a * b := Int.mul_le_mul_of_nonneg_left b0 a0
  rw [Int.mul_neg] at h3
  omega
/-- Currents that are small enough. -/
def Small (S : List Src) : Prop := S.length ≤ 1000 ∧ ∀ x ∈ S, -100000000 ≤ x.2 ∧ x.2 ≤ 100000000
theorem fluxW_eq (p : Int × Int) : ∀ (S : List Src) (s : Int), (∀ x ∈ S, -100000000 ≤ x.2 ∧ x.2 ≤ 100000000) → -(25000000000000000 : Int) ≤ s - 25000000000000 * (S.length : Int) → s + 25000000000000 * (S.length : Int) ≤ 25000000000000000 → fluxW p s S = s + fluxP p S
  | [], s, _, _, _ => by simp [fluxW, fluxP]
  | x :: r, s, h, h0, h1 => by
    have h2 := h x (by simp)
    have h3 := infl_bd p.1 p.2 x.1.1 x.1.2
    have h4 := mul_bd h3.1 h3.2 h2.1 h2.2
    simp only [List.length_cons] at h0 h1
    simp only [fluxW, fluxP]
    have e1 : wrap64 (infl p.1 p.2 x.1.1 x.1.2 * x.2) = infl p.1 p.2 x.1.1 x.1.2 * x.2 := IntWalk.wrap64_in _ (by omega)
    rw [e1, IntWalk.wrap64_in _ (by omega), fluxW_eq p r _ (fun y hy => h y (List.mem_cons_of_mem _ hy)) (by omega) (by omega)]
    omega
theorem fluxW_plain {S : List Src} (h : Small S) (p : Int × Int) : fluxW p 0 S = fluxP p S := by
  have h1 := h.1
  rw [fluxW_eq p S 0 h.2 (by omega) (by omega)]; omega

theorem eachGo_all {α : Type} {chk : α → List α → Int} : ∀ (l pre : List α), eachGo chk pre l = 0 → ∀ x ∈ l, ∃ e, chk x e = 0
  | [], _, _, x, hx => by cases hx
  | y :: r, pre, h, x, hx => by
    unfold eachGo at h
    by_cases hc : chk y pre = 0
    · rw [if_pos hc] at h
      rcases List.mem_cons.1 hx with rfl | hx
      · exact ⟨pre, hc⟩
      · exact eachGo_all r _ h x hx
    · rw [if_neg hc] at h; exact absurd h hc
theorem eachC_all {α : Type} {chk : α → List α → Int} {most : Int} {l : List α} (h : eachC chk most l = 0) : (l.length : Int) ≤ most ∧ ∀ x ∈ l, ∃ e, chk x e = 0 := by
  unfold eachC at h
  by_cases hm : most < l.length
  · rw [if_pos hm] at h; simp at h
  · rw [if_neg hm] at h; exact ⟨by omega, eachGo_all _ _ h⟩
theorem near_iff {r z f : Int} : nearB r z f = true ↔ (-f ≤ r ∧ r ≤ f) ∧ -f ≤ z ∧ z ≤ f := by simp [nearB, wthn]
theorem coil_ok {c : CoilD} {e : List CoilD} (h : coilC c e = 0) : (1 ≤ c.turns ∧ c.turns ≤ 100) ∧ (-60 ≤ c.r ∧ c.r ≤ 60) ∧ -60 ≤ c.z ∧ c.z ≤ 60 := by
  unfold coilC at h
  split at h
  · split at h
    · simp at h
    · have h1 := rng_zero h
      simp only [Bool.and_eq_true] at h1
      exact ⟨wthn_iff.1 h1.2.1, near_iff.1 h1.1⟩
  · simp at h
theorem shell_ok {c : ShellD} {e : List ShellD} (h : shellC c e = 0) : (-60 ≤ c.r ∧ c.r ≤ 60) ∧ -60 ≤ c.z ∧ c.z ≤ 60 := by
  unfold shellC at h
  have h1 := rng_zero h
  simp only [Bool.and_eq_true] at h1
  exact near_iff.1 h1.1
theorem sensor_ok {c : SensorD} {e : List SensorD} (h : sensorC c e = 0) : (1 ≤ c.kind ∧ c.kind ≤ 3) ∧ ((-60 ≤ c.r ∧ c.r ≤ 60) ∧ -60 ≤ c.z ∧ c.z ≤ 60) ∧ 0 ≤ c.error ∧ c.error ≤ 1000000000 := by
  unfold sensorC at h
  split at h
  · split at h
    · simp at h
    · have h1 := rng_zero h
      simp only [Bool.and_eq_true] at h1
      exact ⟨wthn_iff.1 h1.1, near_iff.1 h1.2.1, wthn_iff.1 h1.2.2⟩
  · simp at h
/-- What a machine without an error is. -/
structure Sound (M : MachD) : Prop where
  coils : (M.coils.length : Int) ≤ 12 ∧ ∀ x ∈ M.coils, (1 ≤ x.turns ∧ x.turns ≤ 100) ∧ (-60 ≤ x.r ∧ x.r ≤ 60) ∧ -60 ≤ x.z ∧ x.z ≤ 60
  shells : (M.shells.length : Int) ≤ 16 ∧ ∀ x ∈ M.shells, (-60 ≤ x.r ∧ x.r ≤ 60) ∧ -60 ≤ x.z ∧ x.z ≤ 60
  sensors : (M.sensors.length : Int) ≤ 24 ∧ ∀ x ∈ M.sensors, (1 ≤ x.kind ∧ x.kind ≤ 3) ∧ ((-60 ≤ x.r ∧ x.r ≤ 60) ∧ -60 ≤ x.z ∧ x.z ≤ 60) ∧ 0 ≤ x.error ∧ x.error ≤ 1000000000
  grid : M.grid.Fine
theorem sound_of {M : MachD} (h : checkC M = 0) : Sound M := by
  have h1 := (orL_zero (orL_zero h).2)
  have h2 := orL_zero h1.2
  have h6 := (orL_zero (orL_zero (orL_zero h2.2).2).2).1
  have c := eachC_all h1.1
  have s := eachC_all h2.1
  have q := eachC_all h6
  exact ⟨⟨c.1, fun x hx => (c.2 x hx).elim fun e he => coil_ok he⟩, ⟨s.1, fun x hx => (s.2 x hx).elim fun e he => shell_ok he⟩, ⟨q.1, fun x hx => (q.2 x hx).elim fun e he => sensor_ok he⟩, fine_grid (grid_of h)⟩
/-- What currents that are valid for a machine are. -/
structure Fit2 (M : MachD) (C : CurD) : Prop where
  check : checkC M = 0
  coils : C.coils.length = M.coils.length ∧ ∀ x ∈ C.coils, -1000000 ≤ x ∧ x ≤ 1000000
  shells : C.shells.length = M.shells.length ∧ ∀ x ∈ C.shells, -1000000 ≤ x ∧ x ≤ 1000000
  plasma : (C.plasma.length : Int) = M.grid.nr * M.grid.nz ∧ ∀ x ∈ C.plasma, 0 ≤ x ∧ x ≤ 1000000
  total : tot 0 C.plasma ≤ 1000000
theorem allW_iff {l : List Int} {a b : Int} : allW l a b = true ↔ ∀ x ∈ l, a ≤ x ∧ x ≤ b := by
  unfold allW; rw [List.all_eq_true]
  exact ⟨fun h x hx => wthn_iff.1 (h x hx), fun h x hx => wthn_iff.2 (h x hx)⟩
theorem fit2_iff {M : MachD} {C : CurD} : validC M C = true ↔ Fit2 M C := by
  unfold validC
  simp only [Bool.and_eq_true, decide_eq_true_eq, allW_iff]
  exact ⟨fun ⟨h0, h1, h2, h3, h4, h5, h6, h7⟩ => ⟨h0, ⟨h1, h2⟩, ⟨h3, h4⟩, ⟨h5, h6⟩, h7⟩, fun h => ⟨h.check, h.coils.1, h.coils.2, h.shells.1, h.shells.2, h.plasma.1, h.plasma.2, h.total⟩⟩
/-- All that makes flux in a machine with its currents. -/
def srcM (M : MachD) (C : CurD) : List Src := srcL M.grid M.coils M.shells C.coils C.shells C.plasma
theorem small_of {M : MachD} {C : CurD} (h : Fit2 M C) : Small (srcM M C) := by
  have hs := sound_of h.check
  have hc := cells_fine hs.grid
  have hp := h.plasma.1
  refine ⟨?_, fun x hx => ?_⟩
  · unfold srcM; rw [srcL_length h.coils.1 h.shells.1]; have := hs.coils.1; have := hs.shells.1; omega
  · unfold srcM srcL at hx
    rcases List.mem_append.1 hx with hx | hx
    · obtain ⟨k, hk, e⟩ := List.mem_iff_getElem.1 hx
      simp at e
      simp at hk
      have h1 := hs.coils.2 _ (List.getElem_mem (show k < M.coils.length by omega))
      have h2 := h.coils.2 _ (List.getElem_mem (show k < C.coils.length by omega))
      have h3 := mul_bd (show 0 ≤ M.coils[k].turns by omega) h1.1.2 h2.1 h2.2
      rw [← e]; dsimp only; omega
    · rcases List.mem_append.1 hx with hx | hx
      · obtain ⟨k, hk, e⟩ := List.mem_iff_getElem.1 hx
        simp at e
        simp at hk
        have h2 := h.shells.2 _ (List.getElem_mem (show k < C.shells.length by omega))
        rw [← e]; dsimp only; omega
      · unfold cellSrc at hx
        obtain ⟨k, hk, e⟩ := List.mem_map.1 hx
        rw [List.mem_range] at hk
        have h2 := h.plasma.2 _ (List.getElem_mem hk)
        rw [← e]; dsimp only
        rw [List.getElem?_eq_getElem hk]; simp only [Option.getD_some]; omega

set_option maxHeartbeats 2000000 in
theorem fluxAt_any (R : MachR) (M : MachD) (Q : CurR) (C : CurD) (p0 p1 : Int) (w : World) (hM : IsM w R M) (hC : IsC w Q C) (hv : Fit2 M C) :
    Calls Tryz.prog 84 #[.agg (machCells R M), Q.v, .agg #[.int .i64 p0, .int .i64 p1]] w (Ret (.int .i64 (fluxP (p0, p1) (srcM M C))) w) := by
  rw [← fluxW_plain (small_of hv)]
  have hs := sound_of hv.check
  have hc := cells_fine hs.grid
  have hla := hM.coils.1
  have hlb := hM.shells.1
  have hlc := hC.plasma.1
  have h1 := hs.coils.1
  have h2 := hs.shells.1
  have h3 := hv.plasma.1
  exact fluxAt_any0 M.name R.A R.B R.C R.D R.la R.ca R.lb R.cb R.lc R.cc R.ld R.cd M.grid hs.grid Q.A Q.B Q.C Q.la Q.ca Q.lb Q.cb Q.lc Q.cc M.coils M.shells C.coils C.shells C.plasma p0 p1 w
    hM.coils hM.shells hC.coils hC.shells hC.plasma hv.coils.1 hv.shells.1 (by omega) (by omega) (by omega)
    (fun k c x hc hx => by
      have t := hs.coils.2 c (List.mem_of_getElem? hc)
      have u := hv.coils.2 x (List.mem_of_getElem? hx)
      have b := mul_bd (show 0 ≤ c.turns by omega) t.1.2 u.1 u.2
      exact IntWalk.i64_in _ (by omega))

end Go.Proofs.YtjjajleiladbhaaGreatDoor
end
section
/- Blocks whose cells are known, carried on as long as the memory below stays, over this seat's translation (written by mk_whc.py). -/
namespace Go.Proofs.YtjjajleiladbhaaGreatDoor
set_option linter.unusedVariables false
set_option linter.unusedSimpArgs false
open Go.RowKit

/-- Block b holds the values vs from its first cell on. -/
def BoxL (b : Nat) (vs : List Value) (W : World) : Prop := b < W.heap.size ∧ ∀ (k : Nat) (v : Value), vs[k]? = some v → W.cell? ⟨b, k, none⟩ = some v
theorem BoxL.at {b : Nat} {vs : List Value} {W : World} (h : BoxL b vs W) (k : Nat) (v : Value) (hv : vs[k]? = some v) : W.cell? ⟨b, k, none⟩ = some v := h.2 k v hv
theorem BoxL.below {b : Nat} {vs : List Value} {W W' : World} (h : BoxL b vs W) (hb : Below W.heap.size W W') : BoxL b vs W' :=
  ⟨Nat.lt_of_lt_of_le h.1 hb.size, fun k v hv => (hb.cell (p := ⟨b, k, none⟩) h.1).trans (h.2 k v hv)⟩
/-- The first n cells of block b bear no mark. -/
def MarkL (b n : Nat) (W : World) : Prop := b < W.heap.size ∧ ∀ k, k < n → W.frozen? ⟨b, k, none⟩ = false
theorem MarkL.at {b n : Nat} {W : World} (h : MarkL b n W) (k : Nat) (hk : k < n) : W.frozen? ⟨b, k, none⟩ = false := h.2 k hk
theorem MarkL.below {b n : Nat} {W W' : World} (h : MarkL b n W) (hb : Below W.heap.size W W') : MarkL b n W' :=
  ⟨Nat.lt_of_lt_of_le h.1 hb.size, fun k hk => (hb.frozen (p := ⟨b, k, none⟩) h.1).trans (h.2 k hk)⟩
end Go.Proofs.YtjjajleiladbhaaGreatDoor
end
section
/- Package machine: fieldAt over valid currents, over this seat's translation (written by mk_fld.py). -/
namespace Go.Proofs.YtjjajleiladbhaaGreatDoor
set_option linter.unusedVariables false
set_option linter.unusedSimpArgs false
open Go.RowKit Go.Shelf

end Go.Proofs.YtjjajleiladbhaaGreatDoor
end
