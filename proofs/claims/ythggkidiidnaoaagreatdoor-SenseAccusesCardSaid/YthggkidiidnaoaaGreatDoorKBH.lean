import Derived.Test.YthggkidiidnaoaaGreatDoorKAW
import Derived.Test.YthggkidiidnaoaaGreatDoorKAZ
import Derived.Test.YthggkidiidnaoaaGreatDoorKBE
import Derived.Test.YthggkidiidnaoaaGreatDoorKBG
namespace Go.Proofs.YthggkidiidnaoaaGreatDoor
set_option linter.unusedVariables false
set_option linter.unusedSimpArgs false
section
open Go.RowKit Go.Shelf
end
section
open Go.RowKit Go.Shelf
end
section
open Go.RowKit Go.Shelf
theorem backL_eq {M : MachD} {C : CurD} {s : Int} (hv : validC M C = true) : backL M C s = if wthn s 0 ((M.sensors.length : Int) - 1) = true then exactL M (darkD C) s else (0, 7) := by
 unfold backL
 rw [hv, if_pos rfl]
 cases hw : wthn s 0 ((M.sensors.length : Int) - 1)
 ·unfold exactL
  rw [fit2_iff.2 (dark_fit (fit2_iff.1 hv)), hw]; rfl
 ·rfl
end
section
open Go.RowKit Go.Shelf
def zeroD (la lb nc : Nat) : CurD := ⟨List.replicate la 0, List.replicate lb 0, List.replicate nc 0⟩
theorem zero_fit {M : MachD} (h : checkC M = 0) {nc : Nat} (hn : (nc : Int) = M.grid.nr * M.grid.nz) : Fit2 M (zeroD M.coils.length M.shells.length nc) :=
 ⟨h, ⟨by simp [zeroD], fun x hx => by have := List.eq_of_mem_replicate hx; omega⟩, ⟨by simp [zeroD], fun x hx => by have := List.eq_of_mem_replicate hx; omega⟩, ⟨by simp [zeroD, hn], fun x hx => by have := List.eq_of_mem_replicate hx; omega⟩, by
  show tot 0 (List.replicate nc 0) ≤ 1000000
  rw [tot_zeros4 _ 0 (by omega) (by omega)]; omega⟩
theorem flux_zero (p : Int × Int) : ∀ S : List Src, (∀ x ∈ S, x.2 = 0) → fluxP p S = 0
 | [], _ => rfl
 | x :: r, h => by
  show infl p.1 p.2 x.1.1 x.1.2 * x.2 + fluxP p r = 0
  rw [flux_zero p r (fun y hy => h y (List.mem_cons_of_mem _ hy)), h x (by simp)]; simp
theorem src_zero (M : MachD) (la lb nc : Nat) : ∀ x ∈ srcM M (zeroD la lb nc), x.2 = 0 := by
 intro x hx
 unfold srcM srcL zeroD at hx
 dsimp only at hx
 rw [List.mem_append, List.mem_append] at hx
 rcases hx with hx | hx | hx
 ·obtain ⟨k, hk⟩ := List.mem_iff_getElem?.1 hx
  rw [List.getElem?_zipWith] at hk
  cases h1 : M.coils[k]? with
  | none => rw [h1] at hk; cases hk
  | some c =>
   rw [h1] at hk
   cases h2 : (List.replicate la (0 : Int))[k]? with
   | none => rw [h2] at hk; cases hk
   | some y =>
    rw [h2] at hk
    have := List.eq_of_mem_replicate (List.mem_of_getElem? h2)
    subst this
    obtain rfl := Option.some.inj hk
    simp
 ·obtain ⟨k, hk⟩ := List.mem_iff_getElem?.1 hx
  rw [List.getElem?_zipWith] at hk
  cases h1 : M.shells[k]? with
  | none => rw [h1] at hk; cases hk
  | some c =>
   rw [h1] at hk
   cases h2 : (List.replicate lb (0 : Int))[k]? with
   | none => rw [h2] at hk; cases hk
   | some y =>
    rw [h2] at hk
    have := List.eq_of_mem_replicate (List.mem_of_getElem? h2)
    subst this
    obtain rfl := Option.some.inj hk
    simp
 ·unfold cellSrc at hx
  obtain ⟨j, -, rfl⟩ := List.mem_map.1 hx
  simp only [List.getElem?_replicate]
  split <;> simp
theorem sens_zero (M : MachD) (la lb nc : Nat) (x : SensorD) : sensP (srcM M (zeroD la lb nc)) x = 0 := by
 unfold sensP fieldP
 simp only [flux_zero _ _ (src_zero M la lb nc)]
 split <;> simp
theorem respL_eq {M : MachD} (h : checkC M = 0) {nc : Nat} (hn : (nc : Int) = M.grid.nr * M.grid.nz) {s : Int} {cell : Nat} (hs : wthn s 0 ((M.sensors.length : Int) - 1) = true) (hc : cell < nc) :
  respL M s cell = exactL M (unitD M.coils.length M.shells.length nc cell) s := by
 have hz := zero_fit h hn
 have hcl : cellL M cell = (cellR M.grid cell, cellZ M.grid cell, 0) := by
  unfold cellL
  rw [if_pos h, if_pos (wthn_iff.2 (by omega))]
 have c := wthn_iff.1 hs
 obtain ⟨x, hx⟩ : ∃ x, M.sensors[s.toNat]? = some x := ⟨_, List.getElem?_eq_getElem (by omega)⟩
 have hm := List.mem_of_getElem? hx
 have hD : filaD (zeroD M.coils.length M.shells.length nc) cell 1 = unitD M.coils.length M.shells.length nc cell := by
  unfold filaD zeroD unitD
  simp
 have hK : darkD (zeroD M.coils.length M.shells.length nc) = zeroD M.coils.length M.shells.length nc := by
  unfold darkD zeroD; simp
 have hf : Fit2 M (unitD M.coils.length M.shells.length nc cell) := by
  rw [← hD]
  refine fila_fit hz ?_
  unfold inB
  rw [Bool.and_eq_true]
  exact ⟨wthn_iff.2 (by simp [zeroD]; omega), wthn_iff.2 (by omega)⟩
 have e1 := sens_fila M (zeroD M.coils.length M.shells.length nc) cell 1 (by omega) (by simp [zeroD]; omega) x
 rw [hD, hK, sens_zero, Int.zero_add, Int.mul_one] at e1
 have e3 : respL M s cell = (sensOne x (cellR M.grid cell) (cellZ M.grid cell), 0) := by
  unfold respL
  rw [hcl, if_pos rfl, hs, if_pos rfl, hx]
  dsimp only
  rw [alone_exact h hm (cell_near h (by omega) (by omega))]
 have e4 : exactL M (unitD M.coils.length M.shells.length nc cell) s = (sensP (srcM M (unitD M.coils.length M.shells.length nc cell)) x, 0) := by
  unfold exactL
  rw [fit2_iff.2 hf, if_pos rfl, hs, if_pos rfl, hx]
 rw [e3, e4, e1]
end
end Go.Proofs.YthggkidiidnaoaaGreatDoor
