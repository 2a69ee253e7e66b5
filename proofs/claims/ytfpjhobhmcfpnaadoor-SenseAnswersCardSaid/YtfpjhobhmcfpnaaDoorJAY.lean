import Derived.Test.YtfpjhobhmcfpnaaDoorJAU
import Derived.Test.YtfpjhobhmcfpnaaDoorJAX
section
/- The specification of layer 4: Response, over this seat's translation (written by mk_run.py). -/
namespace Go.Proofs.YtfpjhobhmcfpnaaDoor
set_option linter.unusedVariables false
set_option linter.unusedSimpArgs false
open Go.RowKit Go.Shelf

def zeroD (la lb nc : Nat) : CurD := ⟨List.replicate la 0, List.replicate lb 0, List.replicate nc 0⟩
theorem zero_fit {M : MachD} (h : checkC M = 0) {nc : Nat} (hn : (nc : Int) = M.grid.nr * M.grid.nz) : Fit2 M (zeroD M.coils.length M.shells.length nc) :=
  ⟨h, ⟨by simp [zeroD], fun x hx => by have := List.eq_of_mem_replicate hx; omega⟩, ⟨by simp [zeroD], fun x hx => by have := List.eq_of_mem_replicate hx; omega⟩, ⟨by simp [zeroD, hn], fun x hx => by have := List.eq_of_mem_replicate hx; omega⟩, by
    show tot 0 (List.replicate nc 0) ≤ 1000000
    rw [tot_zeros _ 0 (by omega) (by omega)]; omega⟩
theorem flux_zero (p : Int × Int) : ∀ S : List Src, (∀ x ∈ S, x.2 = 0) → fluxP p S = 0
  | [], _ => rfl
  | x :: r, h => by
    show infl p.1 p.2 x.1.1 x.1.2 * x.2 + fluxP p r = 0
    rw [flux_zero p r (fun y hy => h y (List.mem_cons_of_mem _ hy)), h x (by simp)]; simp
theorem src_zero (M : MachD) (la lb nc : Nat) : ∀ x ∈ srcM M (zeroD la lb nc), x.2 = 0 := by
  intro x hx
  unfold srcM srcL zeroD at hx
  dsimp only at hx
  rw [List.mem_append, List.mem_append] at hx
  rcases hx with hx | hx | hx
  · obtain ⟨k, hk⟩ := List.mem_iff_getElem?.1 hx
    rw [List.getElem?_zipWith] at hk
    cases h1 : M.coils[k]? with
    | none => rw [h1] at hk; cases hk
    | some c =>
      rw [h1] at hk
      cases h2 : (List.replicate la (0 : Int))[k]? with
      | none => rw [h2] at hk; cases hk
      | some y =>
        rw [h2] at hk
        have := List.eq_of_mem_replicate (List.mem_of_getElem? h2)
        subst this
        obtain rfl := Option.some.inj hk
        simp
  · obtain ⟨k, hk⟩ := List.mem_iff_getElem?.1 hx
    rw [List.getElem?_zipWith] at hk
    cases h1 : M.shells[k]? with
    | none => rw [h1] at hk; cases hk
    | some c =>
      rw [h1] at hk
      cases h2 : (List.replicate lb (0 : Int))[k]? with
      | none => rw [h2] at hk; cases hk
      | some y =>
        rw [h2] at hk
        have := List.eq_of_mem_replicate (List.mem_of_getElem? h2)
        subst this
        obtain rfl := Option.some.inj hk
        simp
  · unfold cellSrc at hx
    obtain ⟨j, -, rfl⟩ := List.mem_map.1 hx
    simp only [List.getElem?_replicate]
    split <;> simp
theorem sens_zero (M : MachD) (la lb nc : Nat) (x : SensorD) : sensP (srcM M (zeroD la lb nc)) x = 0 := by
  unfold sensP fieldP
  simp only [flux_zero _ _ (src_zero M la lb nc)]
  split <;> simp
theorem respL_eq {M : MachD} (h : checkC M = 0) {nc : Nat} (hn : (nc : Int) = M.grid.nr * M.grid.nz) {s : Int} {cell : Nat} (hs : wthn s 0 ((M.sensors.length : Int) - 1) = true) (hc : cell < nc) :
    respL M s cell = exactL M (unitD M.coils.length M.shells.length nc cell) s := by
  have hz := zero_fit h hn
  have hcl : cellL M cell = (cellR M.grid cell, cellZ M.grid cell, 0) := by
    unfold cellL
    rw [if_pos h, if_pos (wthn_iff.2 (by omega))]
  have c := wthn_iff.1 hs
  obtain ⟨x, hx⟩ : ∃ x, M.sensors[s.toNat]? = some x := ⟨_, List.getElem?_eq_getElem (by omega)⟩
  have hm := List.mem_of_getElem? hx
  have hD : filaD (zeroD M.coils.length M.shells.length nc) cell 1 = unitD M.coils.length M.shells.length nc cell := by
    unfold filaD zeroD unitD
    simp
  have hK : darkD (zeroD M.coils.length M.shells.length nc) = zeroD M.coils.length M.shells.length nc := by
    unfold darkD zeroD; simp
  have hf : Fit2 M (unitD M.coils.length M.shells.length nc cell) := by
    rw [← hD]
    refine fila_fit hz ?_
    unfold inB
    rw [Bool.and_eq_true]
    exact ⟨wthn_iff.2 (by simp [zeroD]; omega), wthn_iff.2 (by omega)⟩
  have e1 := sens_fila M (zeroD M.coils.length M.shells.length nc) cell 1 (by omega) (by simp [zeroD]; omega) x
  rw [hD, hK, sens_zero, Int.zero_add, Int.mul_one] at e1
  have e3 : respL M s cell = (sensOne x (cellR M.grid cell) (cellZ M.grid cell), 0) := by
    unfold respL
    rw [hcl, if_pos rfl, hs, if_pos rfl, hx]
    dsimp only
    rw [alone_exact h hm (cell_near h (by omega) (by omega))]
  have e4 : exactL M (unitD M.coils.length M.shells.length nc cell) s = (sensP (srcM M (unitD M.coils.length M.shells.length nc cell)) x, 0) := by
    unfold exactL
    rw [fit2_iff.2 hf, if_pos rfl, hs, if_pos rfl, hx]
  rw [e3, e4, e1]
theorem respL_bad {M : MachD} (h : checkC M = 0) {nc : Nat} (hn : (nc : Int) = M.grid.nr * M.grid.nz) {s cell : Int} (hb : wthn s 0 ((M.sensors.length : Int) - 1) = false ∨ wthn cell 0 ((nc : Int) - 1) = false) : respL M s cell = (0, 7) := by
  unfold respL cellL
  rw [if_pos h]
  rcases hb with hb | hb
  · cases h2 : wthn cell 0 (M.grid.nr * M.grid.nz - 1)
    · rfl
    · rw [if_pos rfl, if_pos rfl, hb]; rfl
  · rw [hn] at hb
    rw [hb]; rfl
theorem respL_inv {M : MachD} (h : checkC M ≠ 0) (s cell : Int) : respL M s cell = (0, 1) := by
  unfold respL cellL
  rw [if_neg h]; rfl

set_option maxRecDepth 100000 in
set_option maxHeartbeats 8000000 in
theorem rresponse_any (R : MachR) (M : MachD) (s cell : Int) (w : World) (hM : IsM w R M) :
    Calls Tryd.prog 11 #[.agg (machCells R M), .int .i64 s, .int .i64 cell] w (Ret (.tuple #[.int .i64 (respL M s cell).1, .int .i64 (respL M s cell).2]) w) := by
  have HC0 := Lib.hid (fun W (hb : Below w.heap.size w W) => rcheck_any R M W (hM.below hb))
  by_cases hc : checkC M = 0
  rotate_left
  · rw [respL_inv hc]
    generalize checkC M = E at *
    have hE : (E != 0) = true := by rw [bne_iff_ne]; exact hc
    clear hc
    clear hM
    obtain ⟨A, B, Cl, D, la, ca, lb, cb, lc, cl, ld, cd⟩ := R
    obtain ⟨name, coils, shells, limits, ⟨r, z, nr, nz, step⟩, sensors⟩ := M
    dsimp only at *
    have HC := Lib.hid (show ∀ W, Below w.heap.size w W → Calls Tryd.prog 33 #[.agg #[.string name, .slice A la ca, .slice B lb cb, .slice Cl lc cl, .int .i64 r, .int .i64 z, .int .i64 nr, .int .i64 nz, .int .i64 step, .slice D ld cd]] W (Ret (.int .i64 E) W) from HC0.out)
    clear HC0
    show Calls Tryd.prog 11 #[.agg #[.string name, .slice A la ca, .slice B lb cb, .slice Cl lc cl, .int .i64 r, .int .i64 z, .int .i64 nr, .int .i64 nz, .int .i64 step, .slice D ld cd], .int .i64 s, .int .i64 cell] w _
    go_enter Tryd.func11, Tryd.ntmps11
    go_upto_region 1 with (fail)
    have Fm : Hid (RowL (w.heap.size) [.string name, .slice A la ca, .slice B lb cb, .slice Cl lc cl, .int .i64 r, .int .i64 z, .int .i64 nr, .int .i64 nz, .int .i64 step, .slice D ld cd] (w.alloc (.cells #[.string name, .slice A la ca, .slice B lb cb, .slice Cl lc cl, .int .i64 r, .int .i64 z, .int .i64 nr, .int .i64 nz, .int .i64 step, .slice D ld cd] 29))) := Lib.hid (by have h := RowL.new w #[.string name, .slice A la ca, .slice B lb cb, .slice Cl lc cl, .int .i64 r, .int .i64 z, .int .i64 nr, .int .i64 nz, .int .i64 step, .slice D ld cd] 29; (try simp only [World.size_alloc] at h); exact h)
    have hB0 : Below w.heap.size w (w.alloc (.cells #[.string name, .slice A la ca, .slice B lb cb, .slice Cl lc cl, .int .i64 r, .int .i64 z, .int .i64 nr, .int .i64 nz, .int .i64 step, .slice D ld cd] 29)) := by (with_reducible repeat first | exact Below.refl _ _ | assumption | ((first | refine Below.setCell ?_ ?_ _ | refine Below.alloc ?_ ?_ _); rotate_left; exact (by first | omega | (simp; done) | (simp; omega))) | refine Below.drew ?_ | refine Below_drewN ?_ _)
    have sW0 : w.heap.size < (w.alloc (.cells #[.string name, .slice A la ca, .slice B lb cb, .slice Cl lc cl, .int .i64 r, .int .i64 z, .int .i64 nr, .int .i64 nz, .int .i64 step, .slice D ld cd] 29)).heap.size := by simp only [World.size_alloc]; omega
    obtain ⟨W0, hW0⟩ : ∃ W, (w.alloc (.cells #[.string name, .slice A la ca, .slice B lb cb, .slice Cl lc cl, .int .i64 r, .int .i64 z, .int .i64 nr, .int .i64 nz, .int .i64 step, .slice D ld cd] 29)) = W := ⟨_, rfl⟩
    rw [hW0] at Fm hB0 sW0 ⊢
    clear hW0
    have m0 := Fm.out.cell 0 (.string name) rfl
    have m1 := Fm.out.cell 1 (.slice A la ca) rfl
    have m2 := Fm.out.cell 2 (.slice B lb cb) rfl
    have m3 := Fm.out.cell 3 (.slice Cl lc cl) rfl
    have m4 := Fm.out.cell 4 (.int .i64 r) rfl
    have m5 := Fm.out.cell 5 (.int .i64 z) rfl
    have m6 := Fm.out.cell 6 (.int .i64 nr) rfl
    have m7 := Fm.out.cell 7 (.int .i64 nz) rfl
    have m8 := Fm.out.cell 8 (.int .i64 step) rfl
    have m9 := Fm.out.cell 9 (.slice D ld cd) rfl
    go_wp2_with fail
    refine (HC.out _ hB0).mono ?_
    rintro e w1 ⟨rfl, hb⟩
    clear m0 m1 m2 m3 m4 m5 m6 m7 m8 m9
    have Gm := Lib.hid (Fm.out.below hb)
    clear Fm
    have Fm := Lib.hid Gm.out
    clear Gm
    have m0 := Fm.out.cell 0 (.string name) rfl
    have m1 := Fm.out.cell 1 (.slice A la ca) rfl
    have m2 := Fm.out.cell 2 (.slice B lb cb) rfl
    have m3 := Fm.out.cell 3 (.slice Cl lc cl) rfl
    have m4 := Fm.out.cell 4 (.int .i64 r) rfl
    have m5 := Fm.out.cell 5 (.int .i64 z) rfl
    have m6 := Fm.out.cell 6 (.int .i64 nr) rfl
    have m7 := Fm.out.cell 7 (.int .i64 nz) rfl
    have m8 := Fm.out.cell 8 (.int .i64 step) rfl
    have m9 := Fm.out.cell 9 (.slice D ld cd) rfl
    have hB1 := hB0.trans (hb.mono hB0.size)
    have hz1 : w.heap.size < w1.heap.size := Nat.lt_of_lt_of_le sW0 hb.size
    clear hb hB0 sW0
    go_wp2_with fail
    go_ret2
    exact ⟨rfl, by (with_reducible repeat first | exact Below.refl _ _ | assumption | ((first | refine Below.setCell ?_ ?_ _ | refine Below.alloc ?_ ?_ _); rotate_left; exact (by first | omega | (simp; done) | (simp; omega))) | refine Below.drew ?_ | refine Below_drewN ?_ _)⟩
  have hs := sound_of hc
  have hf := cells_fine hs.grid
  obtain ⟨nc, hn⟩ : ∃ nc : Nat, (nc : Int) = M.grid.nr * M.grid.nz := ⟨(M.grid.nr * M.grid.nz).toNat, by omega⟩
  rw [hc] at HC0
  have hl := hM.sensors.1
  have hkd := hM.kd
  have HN0 := Lib.hid (fun W (hb : Below w.heap.size w W) => (by have h := rcells2_any R M W (hM.below hb); unfold cellsC at h; rw [if_pos hc, ← hn] at h; exact h : Calls Tryd.prog 34 #[.agg (machCells R M)] W (Ret (.int .i64 (nc : Int)) W)))
  have v0 : IntKind.i64.wrap ((R.ld : Int) - 1) = (R.ld : Int) - 1 := IntWalk.i64_in _ (by omega)
  have v1 : IntKind.i64.wrap ((nc : Int) - 1) = (nc : Int) - 1 := IntWalk.i64_in _ (by omega)
  have HW1 := Lib.hid (fun U => rwithin4_any s 0 ((R.ld : Int) - 1) U)
  have HW2 := Lib.hid (fun U => rwithin4_any cell 0 ((nc : Int) - 1) U)
  cases h1 : wthn s 0 ((M.sensors.length : Int) - 1)
  · rw [respL_bad hc hn (Or.inl h1)]
    rw [hl] at h1
    rw [h1] at HW1
    clear hc hn hs hf hl h1 HW2 HN0 v1
    clear hM
    obtain ⟨A, B, Cl, D, la, ca, lb, cb, lc, cl, ld, cd⟩ := R
    obtain ⟨name, coils, shells, limits, ⟨r, z, nr, nz, step⟩, sensors⟩ := M
    dsimp only at *
    have HC := Lib.hid (show ∀ W, Below w.heap.size w W → Calls Tryd.prog 33 #[.agg #[.string name, .slice A la ca, .slice B lb cb, .slice Cl lc cl, .int .i64 r, .int .i64 z, .int .i64 nr, .int .i64 nz, .int .i64 step, .slice D ld cd]] W (Ret (.int .i64 0) W) from HC0.out)
    clear HC0
    show Calls Tryd.prog 11 #[.agg #[.string name, .slice A la ca, .slice B lb cb, .slice Cl lc cl, .int .i64 r, .int .i64 z, .int .i64 nr, .int .i64 nz, .int .i64 step, .slice D ld cd], .int .i64 s, .int .i64 cell] w _
    go_enter Tryd.func11, Tryd.ntmps11
    go_upto_region 1 with (fail)
    have Fm : Hid (RowL (w.heap.size) [.string name, .slice A la ca, .slice B lb cb, .slice Cl lc cl, .int .i64 r, .int .i64 z, .int .i64 nr, .int .i64 nz, .int .i64 step, .slice D ld cd] (w.alloc (.cells #[.string name, .slice A la ca, .slice B lb cb, .slice Cl lc cl, .int .i64 r, .int .i64 z, .int .i64 nr, .int .i64 nz, .int .i64 step, .slice D ld cd] 29))) := Lib.hid (by have h := RowL.new w #[.string name, .slice A la ca, .slice B lb cb, .slice Cl lc cl, .int .i64 r, .int .i64 z, .int .i64 nr, .int .i64 nz, .int .i64 step, .slice D ld cd] 29; (try simp only [World.size_alloc] at h); exact h)
    have hB0 : Below w.heap.size w (w.alloc (.cells #[.string name, .slice A la ca, .slice B lb cb, .slice Cl lc cl, .int .i64 r, .int .i64 z, .int .i64 nr, .int .i64 nz, .int .i64 step, .slice D ld cd] 29)) := by (with_reducible repeat first | exact Below.refl _ _ | assumption | ((first | refine Below.setCell ?_ ?_ _ | refine Below.alloc ?_ ?_ _); rotate_left; exact (by first | omega | (simp; done) | (simp; omega))) | refine Below.drew ?_ | refine Below_drewN ?_ _)
    have sW0 : w.heap.size < (w.alloc (.cells #[.string name, .slice A la ca, .slice B lb cb, .slice Cl lc cl, .int .i64 r, .int .i64 z, .int .i64 nr, .int .i64 nz, .int .i64 step, .slice D ld cd] 29)).heap.size := by simp only [World.size_alloc]; omega
    obtain ⟨W0, hW0⟩ : ∃ W, (w.alloc (.cells #[.string name, .slice A la ca, .slice B lb cb, .slice Cl lc cl, .int .i64 r, .int .i64 z, .int .i64 nr, .int .i64 nz, .int .i64 step, .slice D ld cd] 29)) = W := ⟨_, rfl⟩
    rw [hW0] at Fm hB0 sW0 ⊢
    clear hW0
    have m0 := Fm.out.cell 0 (.string name) rfl
    have m1 := Fm.out.cell 1 (.slice A la ca) rfl
    have m2 := Fm.out.cell 2 (.slice B lb cb) rfl
    have m3 := Fm.out.cell 3 (.slice Cl lc cl) rfl
    have m4 := Fm.out.cell 4 (.int .i64 r) rfl
    have m5 := Fm.out.cell 5 (.int .i64 z) rfl
    have m6 := Fm.out.cell 6 (.int .i64 nr) rfl
    have m7 := Fm.out.cell 7 (.int .i64 nz) rfl
    have m8 := Fm.out.cell 8 (.int .i64 step) rfl
    have m9 := Fm.out.cell 9 (.slice D ld cd) rfl
    go_wp2_with fail
    refine (HC.out _ hB0).mono ?_
    rintro e w1 ⟨rfl, hb⟩
    clear m0 m1 m2 m3 m4 m5 m6 m7 m8 m9
    have Gm := Lib.hid (Fm.out.below hb)
    clear Fm
    have Fm := Lib.hid Gm.out
    clear Gm
    have m0 := Fm.out.cell 0 (.string name) rfl
    have m1 := Fm.out.cell 1 (.slice A la ca) rfl
    have m2 := Fm.out.cell 2 (.slice B lb cb) rfl
    have m3 := Fm.out.cell 3 (.slice Cl lc cl) rfl
    have m4 := Fm.out.cell 4 (.int .i64 r) rfl
    have m5 := Fm.out.cell 5 (.int .i64 z) rfl
    have m6 := Fm.out.cell 6 (.int .i64 nr) rfl
    have m7 := Fm.out.cell 7 (.int .i64 nz) rfl
    have m8 := Fm.out.cell 8 (.int .i64 step) rfl
    have m9 := Fm.out.cell 9 (.slice D ld cd) rfl
    have hB1 := hB0.trans (hb.mono hB0.size)
    have hz1 : w.heap.size < w1.heap.size := Nat.lt_of_lt_of_le sW0 hb.size
    clear hb hB0 sW0
    go_wp2_with (go_at_call 27; refine (HW1.out _).mono ?_; rintro e w7 ⟨rfl, rfl⟩)
    go_ret2
    exact ⟨rfl, by (with_reducible repeat first | exact Below.refl _ _ | assumption | ((first | refine Below.setCell ?_ ?_ _ | refine Below.alloc ?_ ?_ _); rotate_left; exact (by first | omega | (simp; done) | (simp; omega))) | refine Below.drew ?_ | refine Below_drewN ?_ _)⟩
  have h1' := h1
  rw [hl] at h1'
  rw [h1'] at HW1
  clear h1'
  cases h2 : wthn cell 0 ((nc : Int) - 1)
  · rw [respL_bad hc hn (Or.inr h2)]
    rw [h2] at HW2
    clear hc hn hs hf hl h1 h2
    clear hM
    obtain ⟨A, B, Cl, D, la, ca, lb, cb, lc, cl, ld, cd⟩ := R
    obtain ⟨name, coils, shells, limits, ⟨r, z, nr, nz, step⟩, sensors⟩ := M
    dsimp only at *
    have HC := Lib.hid (show ∀ W, Below w.heap.size w W → Calls Tryd.prog 33 #[.agg #[.string name, .slice A la ca, .slice B lb cb, .slice Cl lc cl, .int .i64 r, .int .i64 z, .int .i64 nr, .int .i64 nz, .int .i64 step, .slice D ld cd]] W (Ret (.int .i64 0) W) from HC0.out)
    clear HC0
    have HN := Lib.hid (show ∀ W, Below w.heap.size w W → Calls Tryd.prog 34 #[.agg #[.string name, .slice A la ca, .slice B lb cb, .slice Cl lc cl, .int .i64 r, .int .i64 z, .int .i64 nr, .int .i64 nz, .int .i64 step, .slice D ld cd]] W (Ret (.int .i64 (nc : Int)) W) from HN0.out)
    clear HN0
    show Calls Tryd.prog 11 #[.agg #[.string name, .slice A la ca, .slice B lb cb, .slice Cl lc cl, .int .i64 r, .int .i64 z, .int .i64 nr, .int .i64 nz, .int .i64 step, .slice D ld cd], .int .i64 s, .int .i64 cell] w _
    go_enter Tryd.func11, Tryd.ntmps11
    go_upto_region 1 with (fail)
    have Fm : Hid (RowL (w.heap.size) [.string name, .slice A la ca, .slice B lb cb, .slice Cl lc cl, .int .i64 r, .int .i64 z, .int .i64 nr, .int .i64 nz, .int .i64 step, .slice D ld cd] (w.alloc (.cells #[.string name, .slice A la ca, .slice B lb cb, .slice Cl lc cl, .int .i64 r, .int .i64 z, .int .i64 nr, .int .i64 nz, .int .i64 step, .slice D ld cd] 29))) := Lib.hid (by have h := RowL.new w #[.string name, .slice A la ca, .slice B lb cb, .slice Cl lc cl, .int .i64 r, .int .i64 z, .int .i64 nr, .int .i64 nz, .int .i64 step, .slice D ld cd] 29; (try simp only [World.size_alloc] at h); exact h)
    have hB0 : Below w.heap.size w (w.alloc (.cells #[.string name, .slice A la ca, .slice B lb cb, .slice Cl lc cl, .int .i64 r, .int .i64 z, .int .i64 nr, .int .i64 nz, .int .i64 step, .slice D ld cd] 29)) := by (with_reducible repeat first | exact Below.refl _ _ | assumption | ((first | refine Below.setCell ?_ ?_ _ | refine Below.alloc ?_ ?_ _); rotate_left; exact (by first | omega | (simp; done) | (simp; omega))) | refine Below.drew ?_ | refine Below_drewN ?_ _)
    have sW0 : w.heap.size < (w.alloc (.cells #[.string name, .slice A la ca, .slice B lb cb, .slice Cl lc cl, .int .i64 r, .int .i64 z, .int .i64 nr, .int .i64 nz, .int .i64 step, .slice D ld cd] 29)).heap.size := by simp only [World.size_alloc]; omega
    obtain ⟨W0, hW0⟩ : ∃ W, (w.alloc (.cells #[.string name, .slice A la ca, .slice B lb cb, .slice Cl lc cl, .int .i64 r, .int .i64 z, .int .i64 nr, .int .i64 nz, .int .i64 step, .slice D ld cd] 29)) = W := ⟨_, rfl⟩
    rw [hW0] at Fm hB0 sW0 ⊢
    clear hW0
    have m0 := Fm.out.cell 0 (.string name) rfl
    have m1 := Fm.out.cell 1 (.slice A la ca) rfl
    have m2 := Fm.out.cell 2 (.slice B lb cb) rfl
    have m3 := Fm.out.cell 3 (.slice Cl lc cl) rfl
    have m4 := Fm.out.cell 4 (.int .i64 r) rfl
    have m5 := Fm.out.cell 5 (.int .i64 z) rfl
    have m6 := Fm.out.cell 6 (.int .i64 nr) rfl
    have m7 := Fm.out.cell 7 (.int .i64 nz) rfl
    have m8 := Fm.out.cell 8 (.int .i64 step) rfl
    have m9 := Fm.out.cell 9 (.slice D ld cd) rfl
    go_wp2_with fail
    refine (HC.out _ hB0).mono ?_
    rintro e w1 ⟨rfl, hb⟩
    clear m0 m1 m2 m3 m4 m5 m6 m7 m8 m9
    have Gm := Lib.hid (Fm.out.below hb)
    clear Fm
    have Fm := Lib.hid Gm.out
    clear Gm
    have m0 := Fm.out.cell 0 (.string name) rfl
    have m1 := Fm.out.cell 1 (.slice A la ca) rfl
    have m2 := Fm.out.cell 2 (.slice B lb cb) rfl
    have m3 := Fm.out.cell 3 (.slice Cl lc cl) rfl
    have m4 := Fm.out.cell 4 (.int .i64 r) rfl
    have m5 := Fm.out.cell 5 (.int .i64 z) rfl
    have m6 := Fm.out.cell 6 (.int .i64 nr) rfl
    have m7 := Fm.out.cell 7 (.int .i64 nz) rfl
    have m8 := Fm.out.cell 8 (.int .i64 step) rfl
    have m9 := Fm.out.cell 9 (.slice D ld cd) rfl
    have hB1 := hB0.trans (hb.mono hB0.size)
    have hz1 : w.heap.size < w1.heap.size := Nat.lt_of_lt_of_le sW0 hb.size
    clear hb hB0 sW0
    go_wp2_with (go_at_call 27; refine (HW1.out _).mono ?_; rintro e w7 ⟨rfl, rfl⟩)
    refine (HN.out _ (by (with_reducible repeat first | exact Below.refl _ _ | assumption | ((first | refine Below.setCell ?_ ?_ _ | refine Below.alloc ?_ ?_ _); rotate_left; exact (by first | omega | (simp; done) | (simp; omega))) | refine Below.drew ?_ | refine Below_drewN ?_ _))).mono ?_
    rintro e w2 ⟨rfl, hb⟩
    clear m0 m1 m2 m3 m4 m5 m6 m7 m8 m9
    have Gm := Lib.hid (Fm.out.below hb)
    clear Fm
    have Fm := Lib.hid Gm.out
    clear Gm
    have m0 := Fm.out.cell 0 (.string name) rfl
    have m1 := Fm.out.cell 1 (.slice A la ca) rfl
    have m2 := Fm.out.cell 2 (.slice B lb cb) rfl
    have m3 := Fm.out.cell 3 (.slice Cl lc cl) rfl
    have m4 := Fm.out.cell 4 (.int .i64 r) rfl
    have m5 := Fm.out.cell 5 (.int .i64 z) rfl
    have m6 := Fm.out.cell 6 (.int .i64 nr) rfl
    have m7 := Fm.out.cell 7 (.int .i64 nz) rfl
    have m8 := Fm.out.cell 8 (.int .i64 step) rfl
    have m9 := Fm.out.cell 9 (.slice D ld cd) rfl
    have hB2 := hB1.trans (hb.mono hB1.size)
    have hz2 : w.heap.size < w2.heap.size := Nat.lt_of_lt_of_le hz1 hb.size
    clear hb
    go_wp2_with (go_at_call 27; refine (HW2.out _).mono ?_; rintro e w7 ⟨rfl, rfl⟩)
    go_ret2
    exact ⟨rfl, by (with_reducible repeat first | exact Below.refl _ _ | assumption | ((first | refine Below.setCell ?_ ?_ _ | refine Below.alloc ?_ ?_ _); rotate_left; exact (by first | omega | (simp; done) | (simp; omega))) | refine Below.drew ?_ | refine Below_drewN ?_ _)⟩
  · obtain ⟨j0, j1⟩ := wthn_iff.1 h2
    obtain ⟨k, rfl⟩ : ∃ k : Nat, cell = k := ⟨cell.toNat, by omega⟩
    have hk : k < nc := by omega
    rw [respL_eq hc hn h1 hk]
    rw [h2] at HW2
    have e1 := hM.coils.1
    have e2 := hM.shells.1
    have HU0 := Lib.hid (fun W (hb : Below w.heap.size w W) => runit_any R M k W (hM.below hb) hc nc hn hk)
    have HX0 := Lib.hid (fun (Q2 : CurR) W (hb : Below w.heap.size w W) (hq : IsC W Q2 (unitD M.coils.length M.shells.length nc k)) => rexact_any R M Q2 (unitD M.coils.length M.shells.length nc k) s W (hM.below hb) hq)
    rw [e1, e2] at HX0 ⊢
    generalize exactL M (unitD R.la R.lb nc k) s = G at *
    obtain ⟨G1, G2⟩ := G
    clear hc hn hs hf hl h1 h2 e1 e2 j0 j1
    have k0 : (0 : Int) ≤ k := by omega
    clear hM
    obtain ⟨A, B, Cl, D, la, ca, lb, cb, lc, cl, ld, cd⟩ := R
    obtain ⟨name, coils, shells, limits, ⟨r, z, nr, nz, step⟩, sensors⟩ := M
    dsimp only at *
    have HC := Lib.hid (show ∀ W, Below w.heap.size w W → Calls Tryd.prog 33 #[.agg #[.string name, .slice A la ca, .slice B lb cb, .slice Cl lc cl, .int .i64 r, .int .i64 z, .int .i64 nr, .int .i64 nz, .int .i64 step, .slice D ld cd]] W (Ret (.int .i64 0) W) from HC0.out)
    clear HC0
    have HU := Lib.hid (show ∀ W, Below w.heap.size w W → Calls Tryd.prog 35 #[.agg #[.string name, .slice A la ca, .slice B lb cb, .slice Cl lc cl, .int .i64 r, .int .i64 z, .int .i64 nr, .int .i64 nz, .int .i64 step, .slice D ld cd], .int .i64 k] W (UnitAt la lb nc k W) from HU0.out)
    have HX := Lib.hid (show ∀ (Q2 : CurR) W, Below w.heap.size w W → IsC W Q2 (unitD la lb nc k) → Calls Tryd.prog 28 #[.agg #[.string name, .slice A la ca, .slice B lb cb, .slice Cl lc cl, .int .i64 r, .int .i64 z, .int .i64 nr, .int .i64 nz, .int .i64 step, .slice D ld cd], .agg #[.slice Q2.A Q2.la Q2.ca, .slice Q2.B Q2.lb Q2.cb, .slice Q2.C Q2.lc Q2.cc], .int .i64 s] W (Ret (.tuple #[.int .i64 G1, .int .i64 G2]) W) from HX0.out)
    clear HU0 HX0
    have HN := Lib.hid (show ∀ W, Below w.heap.size w W → Calls Tryd.prog 34 #[.agg #[.string name, .slice A la ca, .slice B lb cb, .slice Cl lc cl, .int .i64 r, .int .i64 z, .int .i64 nr, .int .i64 nz, .int .i64 step, .slice D ld cd]] W (Ret (.int .i64 (nc : Int)) W) from HN0.out)
    clear HN0
    show Calls Tryd.prog 11 #[.agg #[.string name, .slice A la ca, .slice B lb cb, .slice Cl lc cl, .int .i64 r, .int .i64 z, .int .i64 nr, .int .i64 nz, .int .i64 step, .slice D ld cd], .int .i64 s, .int .i64 k] w _
    go_enter Tryd.func11, Tryd.ntmps11
    go_upto_region 1 with (fail)
    have Fm : Hid (RowL (w.heap.size) [.string name, .slice A la ca, .slice B lb cb, .slice Cl lc cl, .int .i64 r, .int .i64 z, .int .i64 nr, .int .i64 nz, .int .i64 step, .slice D ld cd] (w.alloc (.cells #[.string name, .slice A la ca, .slice B lb cb, .slice Cl lc cl, .int .i64 r, .int .i64 z, .int .i64 nr, .int .i64 nz, .int .i64 step, .slice D ld cd] 29))) := Lib.hid (by have h := RowL.new w #[.string name, .slice A la ca, .slice B lb cb, .slice Cl lc cl, .int .i64 r, .int .i64 z, .int .i64 nr, .int .i64 nz, .int .i64 step, .slice D ld cd] 29; (try simp only [World.size_alloc] at h); exact h)
    have hB0 : Below w.heap.size w (w.alloc (.cells #[.string name, .slice A la ca, .slice B lb cb, .slice Cl lc cl, .int .i64 r, .int .i64 z, .int .i64 nr, .int .i64 nz, .int .i64 step, .slice D ld cd] 29)) := by (with_reducible repeat first | exact Below.refl _ _ | assumption | ((first | refine Below.setCell ?_ ?_ _ | refine Below.alloc ?_ ?_ _); rotate_left; exact (by first | omega | (simp; done) | (simp; omega))) | refine Below.drew ?_ | refine Below_drewN ?_ _)
    have sW0 : w.heap.size < (w.alloc (.cells #[.string name, .slice A la ca, .slice B lb cb, .slice Cl lc cl, .int .i64 r, .int .i64 z, .int .i64 nr, .int .i64 nz, .int .i64 step, .slice D ld cd] 29)).heap.size := by simp only [World.size_alloc]; omega
    obtain ⟨W0, hW0⟩ : ∃ W, (w.alloc (.cells #[.string name, .slice A la ca, .slice B lb cb, .slice Cl lc cl, .int .i64 r, .int .i64 z, .int .i64 nr, .int .i64 nz, .int .i64 step, .slice D ld cd] 29)) = W := ⟨_, rfl⟩
    rw [hW0] at Fm hB0 sW0 ⊢
    clear hW0
    have m0 := Fm.out.cell 0 (.string name) rfl
    have m1 := Fm.out.cell 1 (.slice A la ca) rfl
    have m2 := Fm.out.cell 2 (.slice B lb cb) rfl
    have m3 := Fm.out.cell 3 (.slice Cl lc cl) rfl
    have m4 := Fm.out.cell 4 (.int .i64 r) rfl
    have m5 := Fm.out.cell 5 (.int .i64 z) rfl
    have m6 := Fm.out.cell 6 (.int .i64 nr) rfl
    have m7 := Fm.out.cell 7 (.int .i64 nz) rfl
    have m8 := Fm.out.cell 8 (.int .i64 step) rfl
    have m9 := Fm.out.cell 9 (.slice D ld cd) rfl
    go_wp2_with fail
    refine (HC.out _ hB0).mono ?_
    rintro e w1 ⟨rfl, hb⟩
    clear m0 m1 m2 m3 m4 m5 m6 m7 m8 m9
    have Gm := Lib.hid (Fm.out.below hb)
    clear Fm
    have Fm := Lib.hid Gm.out
    clear Gm
    have m0 := Fm.out.cell 0 (.string name) rfl
    have m1 := Fm.out.cell 1 (.slice A la ca) rfl
    have m2 := Fm.out.cell 2 (.slice B lb cb) rfl
    have m3 := Fm.out.cell 3 (.slice Cl lc cl) rfl
    have m4 := Fm.out.cell 4 (.int .i64 r) rfl
    have m5 := Fm.out.cell 5 (.int .i64 z) rfl
    have m6 := Fm.out.cell 6 (.int .i64 nr) rfl
    have m7 := Fm.out.cell 7 (.int .i64 nz) rfl
    have m8 := Fm.out.cell 8 (.int .i64 step) rfl
    have m9 := Fm.out.cell 9 (.slice D ld cd) rfl
    have hB1 := hB0.trans (hb.mono hB0.size)
    have hz1 : w.heap.size < w1.heap.size := Nat.lt_of_lt_of_le sW0 hb.size
    clear hb hB0 sW0
    go_wp2_with (go_at_call 27; refine (HW1.out _).mono ?_; rintro e w7 ⟨rfl, rfl⟩)
    refine (HN.out _ (by (with_reducible repeat first | exact Below.refl _ _ | assumption | ((first | refine Below.setCell ?_ ?_ _ | refine Below.alloc ?_ ?_ _); rotate_left; exact (by first | omega | (simp; done) | (simp; omega))) | refine Below.drew ?_ | refine Below_drewN ?_ _))).mono ?_
    rintro e w2 ⟨rfl, hb⟩
    clear m0 m1 m2 m3 m4 m5 m6 m7 m8 m9
    have Gm := Lib.hid (Fm.out.below hb)
    clear Fm
    have Fm := Lib.hid Gm.out
    clear Gm
    have m0 := Fm.out.cell 0 (.string name) rfl
    have m1 := Fm.out.cell 1 (.slice A la ca) rfl
    have m2 := Fm.out.cell 2 (.slice B lb cb) rfl
    have m3 := Fm.out.cell 3 (.slice Cl lc cl) rfl
    have m4 := Fm.out.cell 4 (.int .i64 r) rfl
    have m5 := Fm.out.cell 5 (.int .i64 z) rfl
    have m6 := Fm.out.cell 6 (.int .i64 nr) rfl
    have m7 := Fm.out.cell 7 (.int .i64 nz) rfl
    have m8 := Fm.out.cell 8 (.int .i64 step) rfl
    have m9 := Fm.out.cell 9 (.slice D ld cd) rfl
    have hB2 := hB1.trans (hb.mono hB1.size)
    have hz2 : w.heap.size < w2.heap.size := Nat.lt_of_lt_of_le hz1 hb.size
    clear hb
    go_wp2_with (go_at_call 27; refine (HW2.out _).mono ?_; rintro e w7 ⟨rfl, rfl⟩)
    have HS : Hid (∀ w' : World, Reg (w2.heap.size) (w2) w' → (Reg (w2.heap.size) (w2) w' ∧ w'.cell? ⟨w.heap.size, 0, none⟩ = some (.string name) ∧ w'.cell? ⟨w.heap.size, 1, none⟩ = some (.slice A la ca) ∧ w'.cell? ⟨w.heap.size, 2, none⟩ = some (.slice B lb cb) ∧ w'.cell? ⟨w.heap.size, 3, none⟩ = some (.slice Cl lc cl) ∧ w'.cell? ⟨w.heap.size, 4, none⟩ = some (.int .i64 r) ∧ w'.cell? ⟨w.heap.size, 5, none⟩ = some (.int .i64 z) ∧ w'.cell? ⟨w.heap.size, 6, none⟩ = some (.int .i64 nr) ∧ w'.cell? ⟨w.heap.size, 7, none⟩ = some (.int .i64 nz) ∧ w'.cell? ⟨w.heap.size, 8, none⟩ = some (.int .i64 step) ∧ w'.cell? ⟨w.heap.size, 9, none⟩ = some (.slice D ld cd))) := (fun w' h => by (have hc := h.cells; have hs := h.some; have hf := h.frozen; refine ⟨h, ?_⟩; (try simp only [World.size_alloc, World.size_setCell, size_drew, size_drewN] at hc hs hf); first | (simp (disch := omega) only [hc, hs, hf, cur_iff]; (try go_simp); done) | (simp (disch := first | omega | (simp; done)) only [hc, hs, hf, cur_iff]; (try go_simp); done) | (simp (maxDischargeDepth := 4) [hc, hs, hf, cur_iff, go_sem]; done) | (go_simp; done) | (simp (maxDischargeDepth := 4) [hc, hs, hf, cur_iff, go_sem]; go_simp))); go_region_held3 (fun w' => Reg (w2.heap.size) (w2) w' ∧ w'.cell? ⟨w.heap.size, 0, none⟩ = some (.string name) ∧ w'.cell? ⟨w.heap.size, 1, none⟩ = some (.slice A la ca) ∧ w'.cell? ⟨w.heap.size, 2, none⟩ = some (.slice B lb cb) ∧ w'.cell? ⟨w.heap.size, 3, none⟩ = some (.slice Cl lc cl) ∧ w'.cell? ⟨w.heap.size, 4, none⟩ = some (.int .i64 r) ∧ w'.cell? ⟨w.heap.size, 5, none⟩ = some (.int .i64 z) ∧ w'.cell? ⟨w.heap.size, 6, none⟩ = some (.int .i64 nr) ∧ w'.cell? ⟨w.heap.size, 7, none⟩ = some (.int .i64 nz) ∧ w'.cell? ⟨w.heap.size, 8, none⟩ = some (.int .i64 step) ∧ w'.cell? ⟨w.heap.size, 9, none⟩ = some (.slice D ld cd)) (exact HS.out _ (by (repeat first | with_reducible exact Reg.refl _ _ | with_reducible exact Reg.drewN2 _ _ _ _ | with_reducible exact (‹Reg _ _ _ ∧ _›).1 | (with_reducible refine Reg.setCell ?_ ?_ _; rotate_left; exact (by first | omega | ((try simp only [World.size_alloc, World.size_setCell, size_drew, size_drewN]); omega) | (simp; done) | (simp; omega))) | with_reducible refine Reg.alloc ?_ _ | with_reducible refine Reg.drew ?_ | with_reducible refine Reg.drewN ?_ _ | (with_reducible apply Reg.call; rotate_left; with_reducible assumption)))) (first | (go_at_call 35; (with_reducible refine (HU.out _ (Reg.out (‹Reg _ _ _ ∧ _›).1 (by (with_reducible repeat first | exact Below.refl _ _ | assumption | ((first | refine Below.setCell ?_ ?_ _ | refine Below.alloc ?_ ?_ _); rotate_left; exact (by first | omega | (simp; done) | (simp; omega))) | refine Below.drew ?_ | refine Below_drewN ?_ _)) (by first | omega | (simp; done) | (simp; omega)))).mono ?_); rintro e w8 ⟨pa, pb, pc, rfl, hd, hb⟩; (first | (with_reducible have hk := Nat.lt_of_lt_of_le (size_alloc_lt _ _) hb.size) | (with_reducible have hk := Nat.lt_of_lt_of_le (size_alloc_drew_lt _ _) hb.size) | (with_reducible have hk := Nat.lt_of_lt_of_le hk hb.size) | skip); (try simp only [World.size_alloc, World.size_setCell, size_drew, size_drewN] at hk); obtain ⟨hc, hf⟩ := bcell hb; have hs := hb.size; (try simp only [World.size_alloc, World.size_setCell, size_drew, size_drewN] at hs)) | (go_at_call 28; (with_reducible refine (HX.out ⟨some ⟨pa, 0, none⟩, some ⟨pb, 0, none⟩, some ⟨pc, 0, none⟩, la, la, lb, lb, nc, nc⟩ _ (Reg.out (‹Reg _ _ _ ∧ _›).1 (by (with_reducible repeat first | exact Below.refl _ _ | assumption | ((first | refine Below.setCell ?_ ?_ _ | refine Below.alloc ?_ ?_ _); rotate_left; exact (by first | omega | (simp; done) | (simp; omega))) | refine Below.drew ?_ | refine Below_drewN ?_ _)) (by first | omega | (simp; done) | (simp; omega))) (by assumption)).mono ?_); rintro e w9 ⟨rfl, hb⟩; (first | (with_reducible have hk := Nat.lt_of_lt_of_le (size_alloc_lt _ _) hb.size) | (with_reducible have hk := Nat.lt_of_lt_of_le (size_alloc_drew_lt _ _) hb.size) | (with_reducible have hk := Nat.lt_of_lt_of_le hk hb.size) | skip); (try simp only [World.size_alloc, World.size_setCell, size_drew, size_drewN] at hk); obtain ⟨hc, hf⟩ := bcell hb; have hs := hb.size; (try simp only [World.size_alloc, World.size_setCell, size_drew, size_drewN] at hs)))
    all_goals go_wp2_with fail
    all_goals go_ret2
    all_goals exact ⟨rfl, (Reg.out (‹Reg _ _ _ ∧ _›).1 (by (with_reducible repeat first | exact Below.refl _ _ | assumption | ((first | refine Below.setCell ?_ ?_ _ | refine Below.alloc ?_ ?_ _); rotate_left; exact (by first | omega | (simp; done) | (simp; omega))) | refine Below.drew ?_ | refine Below_drewN ?_ _)) (by first | omega | (simp; done) | (simp; omega)))⟩

end Go.Proofs.YtfpjhobhmcfpnaaDoor
end
