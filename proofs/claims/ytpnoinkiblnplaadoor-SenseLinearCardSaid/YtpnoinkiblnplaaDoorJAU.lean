import Derived.Test.YtpnoinkiblnplaaDoorJAA
import Derived.Test.YtpnoinkiblnplaaDoorJAQ
import Derived.Test.YtpnoinkiblnplaaDoorJAT
import Derived.Deep.RegionHeld3
import Derived.Deep.DeepCutAuto
import Derived.Deep.QuietTactic
import Derived.BigQuiet
import Derived.IntWalk
section
/- Package sense: Response, over this seat's translation (written by mk_bak.py). -/
namespace Go.Proofs.YtpnoinkiblnplaaDoor
set_option linter.unusedVariables false
set_option linter.unusedSimpArgs false
open Go.RowKit Go.Shelf

def respL (M : MachD) (s cell : Int) : Int × Int :=
  if (cellL M cell).2.2 = 0 then if wthn s 0 ((M.sensors.length : Int) - 1) = true then match M.sensors[s.toNat]? with
    | some x => ((exactL (aloneM M x (cellL M cell).1 (cellL M cell).2.1) oneC 0).1, 0)
    | none => (0, 7)
  else (0, 7) else (0, (cellL M cell).2.2)
theorem cellL_check {M : MachD} {i : Int} (h : (cellL M i).2.2 = 0) : checkC M = 0 := by
  unfold cellL at h
  by_cases hc : checkC M = 0
  · exact hc
  · rw [if_neg hc] at h; simp at h
theorem limits_pos {M : MachD} (h : checkC M = 0) : 0 < M.limits.length := by
  have h4 := (orL_zero (orL_zero (orL_zero (orL_zero h).2).2).2).1
  unfold limitsC at h4
  by_cases h0 : M.limits.length = 0
  · rw [if_pos h0] at h4; simp at h4
  · omega

set_option maxRecDepth 100000 in
set_option maxHeartbeats 8000000 in
theorem response_any (R : MachR) (M : MachD) (s cell : Int) (w : World) (hM : IsM w R M) :
    Calls Tryd.prog 10 #[.agg (machCells R M), .int .i64 s, .int .i64 cell] w (Ret (.tuple #[.int .i64 (respL M s cell).1, .int .i64 (respL M s cell).2]) w) := by
  have HC0 := Lib.hid (fun W (hb : Below w.heap.size w W) => mcell_any R M cell W (hM.below hb))
  have hl := hM.sensors.1
  have hlim := hM.limits.1
  have hkd := hM.kd
  unfold respL
  by_cases he : (cellL M cell).2.2 = 0
  rotate_left
  · rw [if_neg he]
    clear hM hl hlim hkd
    generalize (cellL M cell).1 = X at *
    generalize (cellL M cell).2.1 = Y at *
    generalize (cellL M cell).2.2 = e at *
    have heb : (e != 0) = true := by rw [bne_iff_ne]; exact he
    obtain ⟨A, B, Cl, D, la, ca, lb, cb, lc, cl, ld, cd⟩ := R
    obtain ⟨name, coils, shells, limits, ⟨r, z, nr, nz, step⟩, sensors⟩ := M
    have HC := Lib.hid (show ∀ W, Below w.heap.size w W → Calls Tryd.prog 25 #[.agg #[.string name, .slice A la ca, .slice B lb cb, .slice Cl lc cl, .int .i64 r, .int .i64 z, .int .i64 nr, .int .i64 nz, .int .i64 step, .slice D ld cd], .int .i64 cell] W (Ret (.tuple #[.agg #[.int .i64 X, .int .i64 Y], .int .i64 e]) W) from HC0.out)
    clear HC0 he
    show Calls Tryd.prog 10 #[.agg #[.string name, .slice A la ca, .slice B lb cb, .slice Cl lc cl, .int .i64 r, .int .i64 z, .int .i64 nr, .int .i64 nz, .int .i64 step, .slice D ld cd], .int .i64 s, .int .i64 cell] w _
    go_enter Tryd.func10, Tryd.ntmps10
    go_wp2_with fail
    refine (HC.out _ (by (repeat first | with_reducible exact Below.refl _ _ | with_reducible assumption | (with_reducible refine Below.setCell ?_ ?_ _; rotate_left; exact (by first | omega | (simp; done) | (simp; omega))) | (with_reducible refine Below.alloc ?_ ?_ _; rotate_left; exact (by first | omega | (simp; done) | (simp; omega))) | with_reducible refine Below.drew ?_ | with_reducible refine Below_drewN ?_ _))).mono ?_
    rintro _ w1 ⟨rfl, hb⟩
    have hB : Below w.heap.size w w1 := Below.trans (by (repeat first | with_reducible exact Below.refl _ _ | with_reducible assumption | (with_reducible refine Below.setCell ?_ ?_ _; rotate_left; exact (by first | omega | (simp; done) | (simp; omega))) | (with_reducible refine Below.alloc ?_ ?_ _; rotate_left; exact (by first | omega | (simp; done) | (simp; omega))) | with_reducible refine Below.drew ?_ | with_reducible refine Below_drewN ?_ _)) (hb.mono (by first | omega | ((try simp only [World.size_alloc, World.size_setCell, size_drew, size_drewN]); omega) | (simp; done) | (simp; omega)))
    have hz := hB.size
    clear hb
    go_wp2_with fail
    go_ret2
    exact ⟨rfl, by (repeat first | with_reducible exact Below.refl _ _ | with_reducible assumption | (with_reducible refine Below.setCell ?_ ?_ _; rotate_left; exact (by first | omega | (simp; done) | (simp; omega))) | (with_reducible refine Below.alloc ?_ ?_ _; rotate_left; exact (by first | omega | (simp; done) | (simp; omega))) | with_reducible refine Below.drew ?_ | with_reducible refine Below_drewN ?_ _)⟩
  rw [if_pos he]
  cases hw : wthn s 0 ((M.sensors.length : Int) - 1)
  · rw [hl] at hw
    clear hM hl hlim
    generalize (cellL M cell).1 = X at *
    generalize (cellL M cell).2.1 = Y at *
    generalize (cellL M cell).2.2 = e at *
    subst he
    obtain ⟨A, B, Cl, D, la, ca, lb, cb, lc, cl, ld, cd⟩ := R
    obtain ⟨name, coils, shells, limits, ⟨r, z, nr, nz, step⟩, sensors⟩ := M
    dsimp only at hw hkd
    have HC := Lib.hid (show ∀ W, Below w.heap.size w W → Calls Tryd.prog 25 #[.agg #[.string name, .slice A la ca, .slice B lb cb, .slice Cl lc cl, .int .i64 r, .int .i64 z, .int .i64 nr, .int .i64 nz, .int .i64 step, .slice D ld cd], .int .i64 cell] W (Ret (.tuple #[.agg #[.int .i64 X, .int .i64 Y], .int .i64 0]) W) from HC0.out)
    clear HC0
    show Calls Tryd.prog 10 #[.agg #[.string name, .slice A la ca, .slice B lb cb, .slice Cl lc cl, .int .i64 r, .int .i64 z, .int .i64 nr, .int .i64 nz, .int .i64 step, .slice D ld cd], .int .i64 s, .int .i64 cell] w _
    go_enter Tryd.func10, Tryd.ntmps10
    go_wp2_with fail
    refine (HC.out _ (by (repeat first | with_reducible exact Below.refl _ _ | with_reducible assumption | (with_reducible refine Below.setCell ?_ ?_ _; rotate_left; exact (by first | omega | (simp; done) | (simp; omega))) | (with_reducible refine Below.alloc ?_ ?_ _; rotate_left; exact (by first | omega | (simp; done) | (simp; omega))) | with_reducible refine Below.drew ?_ | with_reducible refine Below_drewN ?_ _))).mono ?_
    rintro _ w1 ⟨rfl, hb⟩
    have m9 : w1.cell? ⟨w.heap.size, 9, none⟩ = some (.slice D ld cd) := by rw [hb.cell (p := ⟨w.heap.size, 9, none⟩) (by first | omega | ((try simp only [World.size_alloc, World.size_setCell, size_drew, size_drewN]); omega) | (simp; done) | (simp; omega))]; go_simp
    have hB : Below w.heap.size w w1 := Below.trans (by (repeat first | with_reducible exact Below.refl _ _ | with_reducible assumption | (with_reducible refine Below.setCell ?_ ?_ _; rotate_left; exact (by first | omega | (simp; done) | (simp; omega))) | (with_reducible refine Below.alloc ?_ ?_ _; rotate_left; exact (by first | omega | (simp; done) | (simp; omega))) | with_reducible refine Below.drew ?_ | with_reducible refine Below_drewN ?_ _)) (hb.mono (by first | omega | ((try simp only [World.size_alloc, World.size_setCell, size_drew, size_drewN]); omega) | (simp; done) | (simp; omega)))
    have hz0 : w.heap.size < w1.heap.size := Nat.lt_of_lt_of_le (by first | omega | ((try simp only [World.size_alloc, World.size_setCell, size_drew, size_drewN]); omega) | (simp; done) | (simp; omega)) hb.size
    clear hb
    go_wp2_with (go_at_call 26; refine (seWithin_any _ _ _ _).mono ?_; rintro e w' ⟨rfl, rfl⟩)
    go_ret2
    exact ⟨rfl, by (repeat first | with_reducible exact Below.refl _ _ | with_reducible assumption | (with_reducible refine Below.setCell ?_ ?_ _; rotate_left; exact (by first | omega | (simp; done) | (simp; omega))) | (with_reducible refine Below.alloc ?_ ?_ _; rotate_left; exact (by first | omega | (simp; done) | (simp; omega))) | with_reducible refine Below.drew ?_ | with_reducible refine Below_drewN ?_ _)⟩
  obtain ⟨j0, j1⟩ := wthn_iff.1 hw
  obtain ⟨k, rfl⟩ : ∃ k : Nat, s = k := ⟨s.toNat, by omega⟩
  obtain ⟨x, hx⟩ : ∃ x, M.sensors[k]? = some x := ⟨_, List.getElem?_eq_getElem (by omega)⟩
  rw [if_pos rfl, Int.toNat_natCast, hx]
  have hc := cellL_check he
  have hlp := limits_pos hc
  have HR0 := Lib.hid (fun W (hb : Below w.heap.size w W) => respAt_any R M k x (cellL M cell).1 (cellL M cell).2.1 W (hM.below hb) hx (by omega))
  dsimp only
  generalize (exactL (aloneM M x (cellL M cell).1 (cellL M cell).2.1) oneC 0).1 = G at *
  rw [hl] at hw
  clear hM hl hlim hx hc hlp j0 j1
  generalize (cellL M cell).1 = X at *
  generalize (cellL M cell).2.1 = Y at *
  generalize (cellL M cell).2.2 = e at *
  subst he
  obtain ⟨A, B, Cl, D, la, ca, lb, cb, lc, cl, ld, cd⟩ := R
  obtain ⟨name, coils, shells, limits, ⟨r, z, nr, nz, step⟩, sensors⟩ := M
  dsimp only at hw hkd
  have HC := Lib.hid (show ∀ W, Below w.heap.size w W → Calls Tryd.prog 25 #[.agg #[.string name, .slice A la ca, .slice B lb cb, .slice Cl lc cl, .int .i64 r, .int .i64 z, .int .i64 nr, .int .i64 nz, .int .i64 step, .slice D ld cd], .int .i64 cell] W (Ret (.tuple #[.agg #[.int .i64 X, .int .i64 Y], .int .i64 0]) W) from HC0.out)
  have HR := Lib.hid (show ∀ W, Below w.heap.size w W → Calls Tryd.prog 27 #[.agg #[.string name, .slice A la ca, .slice B lb cb, .slice Cl lc cl, .int .i64 r, .int .i64 z, .int .i64 nr, .int .i64 nz, .int .i64 step, .slice D ld cd], .int .i64 k, .agg #[.int .i64 X, .int .i64 Y]] W (Ret (.int .i64 G) W) from HR0.out)
  clear HC0 HR0
  show Calls Tryd.prog 10 #[.agg #[.string name, .slice A la ca, .slice B lb cb, .slice Cl lc cl, .int .i64 r, .int .i64 z, .int .i64 nr, .int .i64 nz, .int .i64 step, .slice D ld cd], .int .i64 k, .int .i64 cell] w _
  go_enter Tryd.func10, Tryd.ntmps10
  go_wp2_with fail
  refine (HC.out _ (by (repeat first | with_reducible exact Below.refl _ _ | with_reducible assumption | (with_reducible refine Below.setCell ?_ ?_ _; rotate_left; exact (by first | omega | (simp; done) | (simp; omega))) | (with_reducible refine Below.alloc ?_ ?_ _; rotate_left; exact (by first | omega | (simp; done) | (simp; omega))) | with_reducible refine Below.drew ?_ | with_reducible refine Below_drewN ?_ _))).mono ?_
  rintro _ w1 ⟨rfl, hb⟩
  have m0 : w1.cell? ⟨w.heap.size, 0, none⟩ = some (.string name) := by rw [hb.cell (p := ⟨w.heap.size, 0, none⟩) (by first | omega | ((try simp only [World.size_alloc, World.size_setCell, size_drew, size_drewN]); omega) | (simp; done) | (simp; omega))]; go_simp
  have m1 : w1.cell? ⟨w.heap.size, 1, none⟩ = some (.slice A la ca) := by rw [hb.cell (p := ⟨w.heap.size, 1, none⟩) (by first | omega | ((try simp only [World.size_alloc, World.size_setCell, size_drew, size_drewN]); omega) | (simp; done) | (simp; omega))]; go_simp
  have m2 : w1.cell? ⟨w.heap.size, 2, none⟩ = some (.slice B lb cb) := by rw [hb.cell (p := ⟨w.heap.size, 2, none⟩) (by first | omega | ((try simp only [World.size_alloc, World.size_setCell, size_drew, size_drewN]); omega) | (simp; done) | (simp; omega))]; go_simp
  have m3 : w1.cell? ⟨w.heap.size, 3, none⟩ = some (.slice Cl lc cl) := by rw [hb.cell (p := ⟨w.heap.size, 3, none⟩) (by first | omega | ((try simp only [World.size_alloc, World.size_setCell, size_drew, size_drewN]); omega) | (simp; done) | (simp; omega))]; go_simp
  have m4 : w1.cell? ⟨w.heap.size, 4, none⟩ = some (.int .i64 r) := by rw [hb.cell (p := ⟨w.heap.size, 4, none⟩) (by first | omega | ((try simp only [World.size_alloc, World.size_setCell, size_drew, size_drewN]); omega) | (simp; done) | (simp; omega))]; go_simp
  have m5 : w1.cell? ⟨w.heap.size, 5, none⟩ = some (.int .i64 z) := by rw [hb.cell (p := ⟨w.heap.size, 5, none⟩) (by first | omega | ((try simp only [World.size_alloc, World.size_setCell, size_drew, size_drewN]); omega) | (simp; done) | (simp; omega))]; go_simp
  have m6 : w1.cell? ⟨w.heap.size, 6, none⟩ = some (.int .i64 nr) := by rw [hb.cell (p := ⟨w.heap.size, 6, none⟩) (by first | omega | ((try simp only [World.size_alloc, World.size_setCell, size_drew, size_drewN]); omega) | (simp; done) | (simp; omega))]; go_simp
  have m7 : w1.cell? ⟨w.heap.size, 7, none⟩ = some (.int .i64 nz) := by rw [hb.cell (p := ⟨w.heap.size, 7, none⟩) (by first | omega | ((try simp only [World.size_alloc, World.size_setCell, size_drew, size_drewN]); omega) | (simp; done) | (simp; omega))]; go_simp
  have m8 : w1.cell? ⟨w.heap.size, 8, none⟩ = some (.int .i64 step) := by rw [hb.cell (p := ⟨w.heap.size, 8, none⟩) (by first | omega | ((try simp only [World.size_alloc, World.size_setCell, size_drew, size_drewN]); omega) | (simp; done) | (simp; omega))]; go_simp
  have m9 : w1.cell? ⟨w.heap.size, 9, none⟩ = some (.slice D ld cd) := by rw [hb.cell (p := ⟨w.heap.size, 9, none⟩) (by first | omega | ((try simp only [World.size_alloc, World.size_setCell, size_drew, size_drewN]); omega) | (simp; done) | (simp; omega))]; go_simp
  have hB : Below w.heap.size w w1 := Below.trans (by (repeat first | with_reducible exact Below.refl _ _ | with_reducible assumption | (with_reducible refine Below.setCell ?_ ?_ _; rotate_left; exact (by first | omega | (simp; done) | (simp; omega))) | (with_reducible refine Below.alloc ?_ ?_ _; rotate_left; exact (by first | omega | (simp; done) | (simp; omega))) | with_reducible refine Below.drew ?_ | with_reducible refine Below_drewN ?_ _)) (hb.mono (by first | omega | ((try simp only [World.size_alloc, World.size_setCell, size_drew, size_drewN]); omega) | (simp; done) | (simp; omega)))
  have hz0 : w.heap.size < w1.heap.size := Nat.lt_of_lt_of_le (by first | omega | ((try simp only [World.size_alloc, World.size_setCell, size_drew, size_drewN]); omega) | (simp; done) | (simp; omega)) hb.size
  clear hb
  go_wp2_with (go_at_call 26; refine (seWithin_any _ _ _ _).mono ?_; rintro e w' ⟨rfl, rfl⟩)
  refine (HR.out _ (by (repeat first | with_reducible exact Below.refl _ _ | with_reducible assumption | (with_reducible refine Below.setCell ?_ ?_ _; rotate_left; exact (by first | omega | (simp; done) | (simp; omega))) | (with_reducible refine Below.alloc ?_ ?_ _; rotate_left; exact (by first | omega | (simp; done) | (simp; omega))) | with_reducible refine Below.drew ?_ | with_reducible refine Below_drewN ?_ _))).mono ?_
  rintro _ w3 ⟨rfl, hb⟩
  have hB3 : Below w.heap.size w w3 := Below.trans (by (repeat first | with_reducible exact Below.refl _ _ | with_reducible assumption | (with_reducible refine Below.setCell ?_ ?_ _; rotate_left; exact (by first | omega | (simp; done) | (simp; omega))) | (with_reducible refine Below.alloc ?_ ?_ _; rotate_left; exact (by first | omega | (simp; done) | (simp; omega))) | with_reducible refine Below.drew ?_ | with_reducible refine Below_drewN ?_ _)) (hb.mono (by first | omega | ((try simp only [World.size_alloc, World.size_setCell, size_drew, size_drewN]); omega) | (simp; done) | (simp; omega)))
  clear hb
  go_wp2_with fail
  go_ret2
  exact ⟨rfl, by (repeat first | with_reducible exact Below.refl _ _ | with_reducible assumption | (with_reducible refine Below.setCell ?_ ?_ _; rotate_left; exact (by first | omega | (simp; done) | (simp; omega))) | (with_reducible refine Below.alloc ?_ ?_ _; rotate_left; exact (by first | omega | (simp; done) | (simp; omega))) | with_reducible refine Below.drew ?_ | with_reducible refine Below_drewN ?_ _)⟩

end Go.Proofs.YtpnoinkiblnplaaDoor
end
section
/- A filament's reading is the background's and the response's: plain arithmetic, over this seat's translation. -/
namespace Go.Proofs.YtpnoinkiblnplaaDoor
set_option linter.unusedVariables false
set_option linter.unusedSimpArgs false
open Go.RowKit Go.Shelf

theorem tot_zeros (n : Nat) (s : Int) (h0 : 0 ≤ s) (h1 : s ≤ 1000000) : tot s (List.replicate n 0) = s := by
  induction n with
  | zero => rfl
  | succ n ih =>
    rw [List.replicate_succ]
    unfold tot
    rw [IntWalk.wrap64_in _ (by omega), show s + 0 = s by omega]
    exact ih
theorem tot_put (c : Int) (c0 : 0 ≤ c) (c1 : c ≤ 1000000) : ∀ (n i : Nat), i < n → tot 0 ((List.replicate n 0).set i c) = c
  | 0, i, h => absurd h (Nat.not_lt_zero i)
  | n + 1, 0, _ => by
    rw [List.replicate_succ, List.set_cons_zero]
    unfold tot
    rw [IntWalk.wrap64_in _ (by omega), show (0 : Int) + c = c by omega]
    exact tot_zeros n c c0 c1
  | n + 1, i + 1, h => by
    rw [List.replicate_succ, List.set_cons_succ]
    unfold tot
    rw [IntWalk.wrap64_in _ (by omega), show (0 : Int) + 0 = 0 by omega]
    exact tot_put c c0 c1 n i (by omega)
theorem set_mem {n i : Nat} {c x : Int} (h : x ∈ (List.replicate n (0 : Int)).set i c) : x = c ∨ x = 0 := by
  rcases List.mem_or_eq_of_mem_set h with h | h
  · exact .inr (List.eq_of_mem_replicate h)
  · exact .inl h
/-- The currents of a filament are valid. -/
theorem fila_fit {M : MachD} {C : CurD} {cell cur : Int} (h : Fit2 M C) (hi : inB C cell cur = true) : Fit2 M (filaD C cell cur) := by
  unfold inB at hi
  rw [Bool.and_eq_true] at hi
  have a := wthn_iff.1 hi.1
  have b := wthn_iff.1 hi.2
  exact ⟨h.check, h.coils, h.shells, ⟨by unfold filaD; simpa using h.plasma.1, fun x hx => by
    rcases set_mem hx with rfl | rfl <;> omega⟩, by
    show tot 0 ((List.replicate C.plasma.length 0).set cell.toNat cur) ≤ 1000000
    rw [tot_put cur b.1 b.2 _ _ (by omega)]; exact b.2⟩
theorem dark_fit {M : MachD} {C : CurD} (h : Fit2 M C) : Fit2 M (darkD C) :=
  ⟨h.check, h.coils, h.shells, ⟨by unfold darkD; simpa using h.plasma.1, fun x hx => by
    have := List.eq_of_mem_replicate hx
    omega⟩, by
    show tot 0 (List.replicate C.plasma.length 0) ≤ 1000000
    rw [tot_zeros _ 0 (by omega) (by omega)]; omega⟩

theorem fluxP_one (p : Int × Int) (x : Src) : fluxP p [x] = infl p.1 p.2 x.1.1 x.1.2 * x.2 := by simp [fluxP]
theorem cells_zero (p : Int × Int) (g : GridD) (n : Nat) : ∀ k, k ≤ n → fluxP p (cellSrc g (List.replicate n 0) k) = 0
  | 0, _ => rfl
  | k + 1, h => by
    rw [cellSrc_succ, fluxP_append, cells_zero p g n k (by omega), fluxP_one]
    simp [List.getElem?_replicate, show k < n by omega]
theorem cells_put (p : Int × Int) (g : GridD) (n i : Nat) (hi : i < n) (c : Int) : ∀ k, k ≤ n → fluxP p (cellSrc g ((List.replicate n 0).set i c) k) = if i < k then infl p.1 p.2 (cellR g i) (cellZ g i) * c else 0
  | 0, _ => by simp [cellSrc, fluxP]
  | k + 1, h => by
    rw [cellSrc_succ, fluxP_append, cells_put p g n i hi c k (by omega), fluxP_one]
    by_cases e : i = k
    · subst e
      simp [hi]
    · rw [List.getElem?_set_ne e, List.getElem?_replicate, if_pos (show k < n by omega)]
      by_cases h1 : i < k
      · rw [if_pos h1, if_pos (by omega)]; simp
      · rw [if_neg h1, if_neg (by omega)]; simp
theorem flux_fila (M : MachD) (C : CurD) (cell cur : Int) (h0 : 0 ≤ cell) (h1 : cell ≤ (C.plasma.length : Int) - 1) (p : Int × Int) :
    fluxP p (srcM M (filaD C cell cur)) = fluxP p (srcM M (darkD C)) + infl p.1 p.2 (cellR M.grid cell) (cellZ M.grid cell) * cur := by
  obtain ⟨i, rfl⟩ : ∃ i : Nat, cell = i := ⟨cell.toNat, by omega⟩
  unfold srcM srcL filaD darkD
  dsimp only
  rw [Int.toNat_natCast]
  simp only [fluxP_append, List.length_set, List.length_replicate]
  rw [cells_zero p M.grid _ _ (Nat.le_refl _), cells_put p M.grid _ i (by omega) cur _ (Nat.le_refl _), if_pos (by omega)]
  omega
/-- The response of a sensor: of a current of 1 at a place. -/
def sensOne (x : SensorD) (X Y : Int) : Int := sensP [((X, Y), 1)] x
theorem sens_fila (M : MachD) (C : CurD) (cell cur : Int) (h0 : 0 ≤ cell) (h1 : cell ≤ (C.plasma.length : Int) - 1) (x : SensorD) :
    sensP (srcM M (filaD C cell cur)) x = sensP (srcM M (darkD C)) x + sensOne x (cellR M.grid cell) (cellZ M.grid cell) * cur := by
  have H := flux_fila M C cell cur h0 h1
  unfold sensOne sensP fieldP
  simp only [H, fluxP_one, Int.mul_one]
  split
  · rfl
  · split
    · rw [Int.sub_mul]; omega
    · rw [Int.sub_mul]; omega
theorem sensOne_bd (x : SensorD) (X Y : Int) : -250000 ≤ sensOne x X Y ∧ sensOne x X Y ≤ 250000 := by
  unfold sensOne sensP fieldP
  simp only [fluxP_one, Int.mul_one]
  have a := infl_bd x.r x.z X Y
  have b := infl_bd x.r (x.z - 1) X Y
  have c := infl_bd x.r (x.z + 1) X Y
  have d := infl_bd (x.r + 1) x.z X Y
  have e := infl_bd (x.r - 1) x.z X Y
  split
  · omega
  · split <;> omega
theorem sensP_bd {S : List Src} (h : Small S) (x : SensorD) : -50000000000000000 ≤ sensP S x ∧ sensP S x ≤ 50000000000000000 := by
  unfold sensP fieldP
  have a := h.bd (x.r, x.z)
  have b := h.bd (x.r, x.z - 1)
  have c := h.bd (x.r, x.z + 1)
  have d := h.bd (x.r + 1, x.z)
  have e := h.bd (x.r - 1, x.z)
  split
  · omega
  · split
    · dsimp only; omega
    · dsimp only; omega

/-- A cell of a machine without an error lies where things may lie. -/
theorem cell_near {M : MachD} (h : checkC M = 0) {i : Int} (h0 : 0 ≤ i) (h1 : i ≤ M.grid.nr * M.grid.nz - 1) : nearB (cellR M.grid i) (cellZ M.grid i) 60 = true := by
  have hg := grid_of h
  have hf := fine_grid hg
  have hc := cells_fine hf
  unfold gridC at hg
  obtain ⟨r0, r1, z0, z1, n0, n1, k0, k1, s0, s1⟩ := hf
  split at hg
  · split at hg
    · have hl := near_iff.1 (rng_zero hg)
      unfold cellR cellZ at *
      generalize M.grid.r = r at *
      generalize M.grid.z = z at *
      generalize M.grid.nr = a at *
      generalize M.grid.nz = b at *
      generalize M.grid.step = s at *
      have m1 : (a * b - 1) % a = a - 1 := by
        rw [show a * b - 1 = (a - 1) + (b - 1) * a by rw [Int.sub_mul, Int.one_mul, Int.mul_comm b a]; omega, Int.add_mul_emod_self_right]
        exact Int.emod_eq_of_lt (by omega) (by omega)
      have d1 : (a * b - 1) / a = b - 1 := by
        rw [show a * b - 1 = (a - 1) + (b - 1) * a by rw [Int.sub_mul, Int.one_mul, Int.mul_comm b a]; omega, Int.add_mul_ediv_right _ _ (by omega), Int.ediv_eq_zero_of_lt (by omega) (by omega)]
        omega
      rw [m1, d1] at hl
      have a0 := Int.emod_nonneg i (show a ≠ 0 by omega)
      have a1 := Int.emod_lt_of_pos i (show 0 < a by omega)
      have b0 := Int.ediv_nonneg h0 (show 0 ≤ a by omega)
      have b1 : i / a ≤ b - 1 := by
        have : i / a < b := Int.ediv_lt_of_lt_mul (by omega) (by rw [Int.mul_comm b a]; omega)
        omega
      have u0 := Int.mul_nonneg a0 (show 0 ≤ s by omega)
      have u1 := Int.mul_le_mul_of_nonneg_right (show i % a ≤ a - 1 by omega) (show 0 ≤ s by omega)
      have v0 := Int.mul_nonneg b0 (show 0 ≤ s by omega)
      have v1 := Int.mul_le_mul_of_nonneg_right b1 (show 0 ≤ s by omega)
      rw [near_iff]
      omega
    · simp at hg
  · simp at hg
theorem eachGo_first {α : Type} {chk : α → List α → Int} {y : α} {r : List α} (h : eachGo chk [] (y :: r) = 0) : chk y [] = 0 := by
  unfold eachGo at h
  by_cases hc : chk y [] = 0
  · exact hc
  · rw [if_neg hc] at h; exact absurd h hc
theorem sensor_alone {x : SensorD} {e : List SensorD} (h : sensorC x e = 0) : sensorC x [] = 0 := by
  unfold sensorC at *
  split at h
  · rename_i hn
    rw [if_pos hn]
    split at h
    · simp at h
    · simpa using h
  · simp at h
theorem alone_check {M : MachD} (h : checkC M = 0) {x : SensorD} (hx : x ∈ M.sensors) {X Y : Int} (hn : nearB X Y 60 = true) : checkC (aloneM M x X Y) = 0 := by
  have g1 := (orL_zero h).1
  have h4 := (orL_zero (orL_zero (orL_zero (orL_zero h).2).2).2).1
  have h6 := (orL_zero (orL_zero (orL_zero (orL_zero (orL_zero (orL_zero h).2).2).2).2).2).1
  obtain ⟨e, he⟩ := (eachC_all h6).2 x hx
  have g6 : eachC sensorC 24 [x] = 0 := by
    unfold eachC
    rw [if_neg (by simp)]
    unfold eachGo
    rw [if_pos (sensor_alone he)]; rfl
  have g4 : limitsC (M.limits.take 1) = 0 := by
    unfold limitsC at *
    cases hm : M.limits with
    | nil => rw [hm] at h4; simp at h4
    | cons y r =>
      rw [hm] at h4
      rw [if_neg (by simp)] at h4
      unfold eachC at h4
      split at h4
      · simp at h4
      · have := eachGo_first h4
        rw [if_neg (by simp)]
        unfold eachC
        rw [if_neg (by simp), List.take_succ_cons, List.take_zero]
        unfold eachGo
        rw [if_pos this]; rfl
  have g5 : gridC ⟨X, Y, 1, 1, 1⟩ = 0 := by
    unfold gridC
    rw [if_pos (by simp [wthn]), if_pos hn]
    have : nearB (cellR ⟨X, Y, 1, 1, 1⟩ (1 * 1 - 1)) (cellZ ⟨X, Y, 1, 1, 1⟩ (1 * 1 - 1)) 60 = nearB X Y 60 := by simp [cellR, cellZ]
    dsimp only at this ⊢
    rw [this, hn]; rfl
  unfold checkC aloneM
  dsimp only
  rw [g1, g4, g5, g6]
  rfl
theorem alone_fit {M : MachD} (h : checkC M = 0) {x : SensorD} (hx : x ∈ M.sensors) {X Y : Int} (hn : nearB X Y 60 = true) : Fit2 (aloneM M x X Y) oneC :=
  ⟨alone_check h hx hn, ⟨rfl, fun y hy => by cases hy⟩, ⟨rfl, fun y hy => by cases hy⟩, ⟨rfl, fun y hy => by
    have : y = 1 := by simpa [oneC] using hy
    omega⟩, by show tot 0 [1] ≤ 1000000; simp only [tot]; rw [IntWalk.wrap64_in _ (by omega)]; omega⟩
theorem alone_exact {M : MachD} (h : checkC M = 0) {x : SensorD} (hx : x ∈ M.sensors) {X Y : Int} (hn : nearB X Y 60 = true) : (exactL (aloneM M x X Y) oneC 0).1 = sensOne x X Y := by
  unfold exactL
  rw [fit2_iff.2 (alone_fit h hx hn), if_pos rfl, if_pos (by rfl)]
  show sensP (srcM (aloneM M x X Y) oneC) x = _
  have : srcM (aloneM M x X Y) oneC = [((X, Y), 1)] := by
    simp [srcM, srcL, aloneM, oneC, cellSrc, cellR, cellZ]
  rw [this]; rfl

/-- What the law says: the reading of a filament. -/
theorem linear {M : MachD} {C : CurD} {s cell cur : Int} (h1 : filaE M C cell cur = 0) (h2 : (backL M C s).2 = 0) (h3 : (respL M s cell).2 = 0) :
    exactL M (filaD C cell cur) s = ((backL M C s).1 + (respL M s cell).1 * cur, 0) ∧ (-50000000000000000 ≤ (backL M C s).1 ∧ (backL M C s).1 ≤ 50000000000000000) ∧ (-250000 ≤ (respL M s cell).1 ∧ (respL M s cell).1 ≤ 250000) ∧ 0 ≤ cur ∧ cur ≤ 1000000 := by
  have hv : validC M C = true := by
    unfold filaE at h1
    cases hv : validC M C
    · rw [hv] at h1; simp at h1
    · rfl
  have hi : inB C cell cur = true := by
    unfold filaE at h1
    rw [hv, if_pos rfl] at h1
    cases hi : inB C cell cur
    · rw [hi] at h1; simp at h1
    · rfl
  have hf := fit2_iff.1 hv
  have hd := dark_fit hf
  have hl := fila_fit hf hi
  have hi' := hi
  unfold inB at hi'
  rw [Bool.and_eq_true] at hi'
  have a := wthn_iff.1 hi'.1
  have b := wthn_iff.1 hi'.2
  have hp := hf.plasma.1
  have hcl : cellL M cell = (cellR M.grid cell, cellZ M.grid cell, 0) := by
    unfold cellL
    rw [if_pos hf.check, if_pos (wthn_iff.2 (by omega))]
  have hw : wthn s 0 ((M.sensors.length : Int) - 1) = true := by
    unfold respL at h3
    rw [hcl, if_pos rfl] at h3
    cases hw : wthn s 0 ((M.sensors.length : Int) - 1)
    · rw [hw] at h3; simp at h3
    · rfl
  have c := wthn_iff.1 hw
  obtain ⟨x, hx⟩ : ∃ x, M.sensors[s.toNat]? = some x := ⟨_, List.getElem?_eq_getElem (by omega)⟩
  have hm := List.mem_of_getElem? hx
  have e1 : exactL M (filaD C cell cur) s = (sensP (srcM M (filaD C cell cur)) x, 0) := by
    unfold exactL; rw [fit2_iff.2 hl, if_pos rfl, hw, if_pos rfl, hx]
  have e2 : backL M C s = (sensP (srcM M (darkD C)) x, 0) := by
    unfold backL exactL; rw [hv, if_pos rfl, fit2_iff.2 hd, if_pos rfl, hw, if_pos rfl, hx]
  have e3 : respL M s cell = (sensOne x (cellR M.grid cell) (cellZ M.grid cell), 0) := by
    unfold respL
    rw [hcl, if_pos rfl, hw, if_pos rfl, hx]
    dsimp only
    rw [alone_exact hf.check hm (cell_near hf.check (by omega) (by omega))]
  rw [e1, e2, e3]
  dsimp only
  exact ⟨by rw [sens_fila M C cell cur (by omega) (by omega) x], sensP_bd (small_of hd) x, sensOne_bd _ _ _, b.1, b.2⟩

end Go.Proofs.YtpnoinkiblnplaaDoor
end
section
/- slices.IndexFunc and ContainsFunc over []Fault, over this seat's translation (written by mk_mac.py). -/
namespace Go.Proofs.YtpnoinkiblnplaaDoor
set_option linter.unusedVariables false
set_option linter.unusedSimpArgs false
open Go.RowKit

set_option maxHeartbeats 2000000 in
theorem indexFault1 (k : Nat) (c0 : Nat) (p : FaultD → Bool) (A : Option Addr) (len cap : Nat) (zs : List FaultD) (w : World) (hI : IsT 4 FaultD.cells w A len zs) (hl : len ≤ 1000000000000000)
    (hE : ∀ (args : Array Value) (W : World), (callFunc k args).run Tryd.prog W = .ok (.enter k args) W)
    (hk : ∀ (x : FaultD) (W : World), x ∈ zs → Below w.heap.size w W → Calls Tryd.prog k #[FaultD.v x, .pointer (some ⟨c0, 0, none⟩)] W (Ret (.bool (p x)) W)) :
    Calls Tryd.prog 95 #[.slice A len cap, .func (.func k) #[] #[.pointer (some ⟨c0, 0, none⟩)]] w (Ret (.int .i64 (idxL p zs)) w) := by
  have HI := Lib.hid hI
  have HK := Lib.hid hk
  have HG : Hid (idxL p zs = idxGo p zs 0) := Lib.hid rfl
  generalize idxL p zs = G at *
  clear hI hk
  go_enter Tryd.func95, Tryd.ntmps95
  go_wp2_with fail
  go_loopw [5, 8] (fun _ i wr => ∃ j : Nat, j ≤ len ∧ i = .int .i64 j ∧ Hid (idxGo p (zs.drop j) j = G) ∧ Below w.heap.size w wr) (fun _ i _ => len - (intOf i).toNat)
  case atStart => exact ⟨0, Nat.zero_le _, rfl, Lib.hid HG.out.symm, Below.refl _ _⟩
  case round =>
    obtain ⟨j, hj, rfl, hG, hB⟩ := hrel
    by_cases hlt : j < len
    · obtain ⟨hzl, hcl⟩ := HI.out.below hB
      obtain ⟨b, o, rfl, hb0, hcl⟩ := hcl (by omega)
      obtain ⟨x, hx⟩ : ∃ x, zs[j]? = some x := ⟨_, List.getElem?_eq_getElem (by omega)⟩
      have HM := Lib.hid (List.mem_of_getElem? hx)
      have HS := Lib.hid (idxGo_drop p hx (j : Int))
      have x0 : wr.cell? ⟨b, o + j * 4, none⟩ = some (.int .i64 x.at_) := by have h := hcl j x hx 0 _ rfl; simpa using h
      have x1 : wr.cell? ⟨b, o + j * 4 + 1, none⟩ = some (.int .i64 x.sensor) := by have h := hcl j x hx 1 _ rfl; simpa using h
      have x2 : wr.cell? ⟨b, o + j * 4 + 2, none⟩ = some (.int .i64 x.kind) := by have h := hcl j x hx 2 _ rfl; simpa using h
      have x3 : wr.cell? ⟨b, o + j * 4 + 3, none⟩ = some (.int .i64 x.n) := by have h := hcl j x hx 3 _ rfl; simpa using h
      have hsz := hB.size
      have HC := Lib.hid (HK.out x)
      clear hcl hx hzl
      cases hp : p x
      · have HN : Hid (idxGo p (zs.drop (j + 1)) ((j + 1 : Nat) : Int) = G) := Lib.hid (by rw [← hG.out, HS.out, hp]; rfl)
        have HC := Lib.hid (show ∀ W, Below w.heap.size w W → Calls Tryd.prog k #[FaultD.v x, .pointer (some ⟨c0, 0, none⟩)] W (Ret (.bool false) W) from fun W h => by have := HC.out W HM.out h; rwa [hp] at this)
        clear hp
        go_wp2_with ((with_reducible show Calls _ k _ _ _); refine (HC.out _ (by (repeat first | with_reducible exact Below.refl _ _ | with_reducible assumption | (with_reducible refine Below.setCell ?_ ?_ _; rotate_left; exact (by first | omega | (simp; done) | (simp; omega))) | (with_reducible refine Below.alloc ?_ ?_ _; rotate_left; exact (by first | omega | (simp; done) | (simp; omega))) | with_reducible refine Below.drew ?_ | with_reducible refine Below_drewN ?_ _))).mono ?_; rintro e w1 ⟨rfl, hb⟩; have hB1 : Below w.heap.size w w1 := Below.trans (by (repeat first | with_reducible exact Below.refl _ _ | with_reducible assumption | (with_reducible refine Below.setCell ?_ ?_ _; rotate_left; exact (by first | omega | (simp; done) | (simp; omega))) | (with_reducible refine Below.alloc ?_ ?_ _; rotate_left; exact (by first | omega | (simp; done) | (simp; omega))) | with_reducible refine Below.drew ?_ | with_reducible refine Below_drewN ?_ _)) (hb.mono (by first | omega | ((try simp only [World.size_alloc, World.size_setCell, size_drew, size_drewN]); omega) | (simp; done) | (simp; omega))))
        go_roundw
        case rel => exact ⟨j + 1, by omega, by go_num, HN, by (repeat first | with_reducible exact Below.refl _ _ | with_reducible assumption | (with_reducible refine Below.setCell ?_ ?_ _; rotate_left; exact (by first | omega | (simp; done) | (simp; omega))) | (with_reducible refine Below.alloc ?_ ?_ _; rotate_left; exact (by first | omega | (simp; done) | (simp; omega))) | with_reducible refine Below.drew ?_ | with_reducible refine Below_drewN ?_ _)⟩
        case measure => simp [intOf]; omega
      · have HN : Hid ((j : Int) = G) := Lib.hid (by rw [← hG.out, HS.out, hp]; rfl)
        have HC := Lib.hid (show ∀ W, Below w.heap.size w W → Calls Tryd.prog k #[FaultD.v x, .pointer (some ⟨c0, 0, none⟩)] W (Ret (.bool true) W) from fun W h => by have := HC.out W HM.out h; rwa [hp] at this)
        clear hp
        go_wp2_with ((with_reducible show Calls _ k _ _ _); refine (HC.out _ (by (repeat first | with_reducible exact Below.refl _ _ | with_reducible assumption | (with_reducible refine Below.setCell ?_ ?_ _; rotate_left; exact (by first | omega | (simp; done) | (simp; omega))) | (with_reducible refine Below.alloc ?_ ?_ _; rotate_left; exact (by first | omega | (simp; done) | (simp; omega))) | with_reducible refine Below.drew ?_ | with_reducible refine Below_drewN ?_ _))).mono ?_; rintro e w1 ⟨rfl, hb⟩; have hB1 : Below w.heap.size w w1 := Below.trans (by (repeat first | with_reducible exact Below.refl _ _ | with_reducible assumption | (with_reducible refine Below.setCell ?_ ?_ _; rotate_left; exact (by first | omega | (simp; done) | (simp; omega))) | (with_reducible refine Below.alloc ?_ ?_ _; rotate_left; exact (by first | omega | (simp; done) | (simp; omega))) | with_reducible refine Below.drew ?_ | with_reducible refine Below_drewN ?_ _)) (hb.mono (by first | omega | ((try simp only [World.size_alloc, World.size_setCell, size_drew, size_drewN]); omega) | (simp; done) | (simp; omega))))
        go_ret
        exact ⟨by rw [← HN.out]; rfl, by (repeat first | with_reducible exact Below.refl _ _ | with_reducible assumption | (with_reducible refine Below.setCell ?_ ?_ _; rotate_left; exact (by first | omega | (simp; done) | (simp; omega))) | (with_reducible refine Below.alloc ?_ ?_ _; rotate_left; exact (by first | omega | (simp; done) | (simp; omega))) | with_reducible refine Below.drew ?_ | with_reducible refine Below_drewN ?_ _)⟩
    · have HN : Hid ((-1 : Int) = G) := Lib.hid (by rw [← hG.out, List.drop_of_length_le (by rw [HI.out.1]; omega)]; rfl)
      go_wp2
      go_ret
      exact ⟨by rw [← HN.out]; rfl, hB⟩

set_option maxHeartbeats 1000000 in
theorem containsFault1 (k : Nat) (c0 : Nat) (p : FaultD → Bool) (A : Option Addr) (len cap : Nat) (zs : List FaultD) (w : World) (hI : IsT 4 FaultD.cells w A len zs) (hl : len ≤ 1000000000000000)
    (hE : ∀ (args : Array Value) (W : World), (callFunc k args).run Tryd.prog W = .ok (.enter k args) W)
    (hk : ∀ (x : FaultD) (W : World), x ∈ zs → Below w.heap.size w W → Calls Tryd.prog k #[FaultD.v x, .pointer (some ⟨c0, 0, none⟩)] W (Ret (.bool (p x)) W)) :
    Calls Tryd.prog 71 #[.slice A len cap, .func (.func k) #[] #[.pointer (some ⟨c0, 0, none⟩)]] w (Ret (.bool (zs.any p)) w) := by
  have HI := Lib.hid (indexFault1 k c0 p A len cap zs w hI hl hE hk)
  have HA := Lib.hid (idxL_nonneg p zs)
  obtain ⟨b1, b2⟩ := idxL_bd p zs
  rw [hI.1] at b2
  clear hI hE hk
  generalize idxL p zs = G at *
  go_enter Tryd.func71, Tryd.ntmps71
  go_wp2_with (go_at_call 95; refine HI.out.mono ?_; rintro e w1 ⟨rfl, hb⟩)
  go_ret
  exact ⟨by rw [← HA.out]; rfl, hb⟩

end Go.Proofs.YtpnoinkiblnplaaDoor
end
