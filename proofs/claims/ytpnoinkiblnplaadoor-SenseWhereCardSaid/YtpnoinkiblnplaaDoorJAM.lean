import Derived.Test.YtpnoinkiblnplaaDoorJAJ
import Derived.Test.YtpnoinkiblnplaaDoorJAL
import Derived.Deep.RegionLaw
import Derived.Handy
import Derived.Outline
section
/- The specification of layer 4: Where, over this seat's translation (written by mk_whc.py). -/
namespace Go.Proofs.YtpnoinkiblnplaaDoor
set_option linter.unusedVariables false
set_option linter.unusedSimpArgs false
open Go.RowKit Go.Shelf

theorem okW_eq {M : MachD} (h : checkC M = 0) (x : Tri) : okW M x = (wthn x.1 0 (M.grid.nr * M.grid.nz - 1) && vld x.2.1 x.2.2) := by
  unfold okW cellL
  rw [if_pos h]
  cases wthn x.1 0 (M.grid.nr * M.grid.nz - 1) <;> simp
theorem goW_none {M : MachD} {l : List Tri} {k : Nat} {x : Tri} (h : l[k]? = some x) (hx : okW M x = false) : ∀ (b : Bool) (s : St), goW M b s l = none := by
  induction l generalizing k with
  | nil => simp at h
  | cons y r ih =>
    intro b s
    unfold goW
    cases k with
    | zero =>
      obtain rfl : y = x := by simpa using h
      rw [hx]; simp
    | succ k =>
      have h' : r[k]? = some x := by simpa using h
      cases okW M y
      · simp
      · simp [ih h']
/-- A candidate that is one: its cell, its place, its span. -/
structure OkC (M : MachD) (x : Tri) : Prop where
  e : (cellL M x.1).2.2 = 0
  v : vld x.2.1 x.2.2 = true
  r : vld (cellL M x.1).1 (cellL M x.1).1 = true
  z : vld (cellL M x.1).2.1 (cellL M x.1).2.1 = true
theorem okC_of {M : MachD} {x : Tri} (h : okW M x = true) : OkC M x := by
  unfold okW at h
  simp only [Bool.and_eq_true, decide_eq_true_iff] at h
  exact ⟨h.1, h.2, (cellL_vld h.1).1, (cellL_vld h.1).2⟩

theorem rwithin4w_any (n a b : Int) (w : World) :
    Calls Tryd.prog 22 #[.int .i64 n, .int .i64 a, .int .i64 b] w fun e w' => e = .returned (.bool (wthn n a b)) ∧ w = w' := by
  go_enter Tryd.func22, Tryd.ntmps22
  go_wp2
  all_goals go_ret
  all_goals (simp [wthn]; try omega)

set_option maxRecDepth 100000 in
set_option maxHeartbeats 32000000 in
theorem rwhere_any (R : MachR) (M : MachD) (F : Option Addr) (len cap : Nat) (zs : List Tri) (w : World) (hM : IsM w R M) (hF : IsT 3 pairCells w F len zs) (hl : len ≤ 1000000000000000) :
    Calls Tryd.prog 36 #[.agg (machCells R M), .slice F len cap] w (Ret (whereV (whereL M zs)) w) := by
  have HE : Hid (whereL M zs = if checkC M = 0 then (match goW M true .zero zs with
    | none => (.zero, 1)
    | some s => if zs.length = 0 then ((.zero, 8) : St × Int) else (s, 0))
  else (.zero, 1)) := Lib.hid rfl
  have H0 := Lib.hid (fun W (hb : Below w.heap.size w W) => rcheck_any R M W (hM.below hb))
  have HC := Lib.hid (fun i W (hb : Below w.heap.size w W) => rcell_any R M i W (hM.below hb))
  have HN := Lib.hid (fun W (hb : Below w.heap.size w W) => rcells2_any R M W (hM.below hb))
  have HI := Lib.hid hF
  have HNE : Hid (checkC M = 0 → cellsC M = M.grid.nr * M.grid.nz ∧ 0 ≤ cellsC M ∧ cellsC M ≤ 1000000) := Lib.hid (fun h => by
    have := fine_cells (check_fine h)
    have e : cellsC M = M.grid.nr * M.grid.nz := if_pos h
    rw [e]; omega)
  have HOK : Hid (checkC M = 0 → ∀ x : Tri, okW M x = (wthn x.1 0 (M.grid.nr * M.grid.nz - 1) && vld x.2.1 x.2.2)) := Lib.hid okW_eq
  generalize whereL M zs = G at *
  generalize cellsC M = n at *
  generalize hc0 : checkC M = c at *
  clear hc0 hM hF
  have HO : Hid (goW M (decide ((0 : Nat) = 0)) ⟨0, 0, 0, 0, 0, 0⟩ (zs.drop 0) = goW M true .zero zs) := Lib.hid rfl
  have HNO : Hid (∀ (k : Nat) (x : Tri), zs[k]? = some x → okW M x = false → goW M true .zero zs = none) := Lib.hid (fun k x h1 h2 => goW_none h1 h2 true .zero)
  generalize goW M true .zero zs = O at *
  obtain ⟨A, B, C, D, la, ca, lb, cb, lc, cc, ld, cd⟩ := R
  have HCELL : Hid (∀ (i : Int) W, Below w.heap.size w W → Calls Tryd.prog 64 #[.agg #[.string M.name, .slice A la ca, .slice B lb cb, .slice C lc cc, .int .i64 M.grid.r, .int .i64 M.grid.z, .int .i64 M.grid.nr, .int .i64 M.grid.nz, .int .i64 M.grid.step, .slice D ld cd], .int .i64 i] W (Ret (.tuple #[.agg #[.int .i64 (cellL M i).1, .int .i64 (cellL M i).2.1], .int .i64 (cellL M i).2.2]) W)) := Lib.hid HC.out
  have H0 := Lib.hid (show ∀ W, Below w.heap.size w W → Calls Tryd.prog 28 #[.agg #[.string M.name, .slice A la ca, .slice B lb cb, .slice C lc cc, .int .i64 M.grid.r, .int .i64 M.grid.z, .int .i64 M.grid.nr, .int .i64 M.grid.nz, .int .i64 M.grid.step, .slice D ld cd]] W (Ret (.int .i64 c) W) from H0.out)
  have HN := Lib.hid (show ∀ W, Below w.heap.size w W → Calls Tryd.prog 29 #[.agg #[.string M.name, .slice A la ca, .slice B lb cb, .slice C lc cc, .int .i64 M.grid.r, .int .i64 M.grid.z, .int .i64 M.grid.nr, .int .i64 M.grid.nz, .int .i64 M.grid.step, .slice D ld cd]] W (Ret (.int .i64 n) W) from HN.out)
  clear HC
  show Calls Tryd.prog 36 #[.agg #[.string M.name, .slice A la ca, .slice B lb cb, .slice C lc cc, .int .i64 M.grid.r, .int .i64 M.grid.z, .int .i64 M.grid.nr, .int .i64 M.grid.nz, .int .i64 M.grid.step, .slice D ld cd], .slice F len cap] w _
  obtain ⟨name, hname⟩ : ∃ x, M.name = x := ⟨_, rfl⟩
  obtain ⟨r, hr⟩ : ∃ x, M.grid.r = x := ⟨_, rfl⟩
  obtain ⟨z, hz⟩ : ∃ x, M.grid.z = x := ⟨_, rfl⟩
  obtain ⟨nr, hnr⟩ : ∃ x, M.grid.nr = x := ⟨_, rfl⟩
  obtain ⟨nz, hnz⟩ : ∃ x, M.grid.nz = x := ⟨_, rfl⟩
  obtain ⟨step, hst⟩ : ∃ x, M.grid.step = x := ⟨_, rfl⟩
  rw [hname, hr, hz, hnr, hnz, hst] at HCELL H0 HN ⊢
  rw [hnr, hnz] at HNE HOK
  clear hname hr hz hnr hnz hst
  by_cases hc : c = 0
  rotate_left
  · have HG : Hid (G = (.zero, 1)) := Lib.hid (by rw [HE.out, if_neg hc])
    have hcb : (c != 0) = true := by rw [bne_iff_ne]; exact hc
    clear HE HO HI HCELL HN HNE HOK HNO hc
    rw [HG.out]
    go_enter Tryd.func36, Tryd.ntmps36
    go_wp2_with fail
    refine (H0.out _ (by (repeat first | with_reducible exact Below.refl _ _ | with_reducible assumption | (with_reducible refine Below.setCell ?_ ?_ _; rotate_left; exact (by first | omega | (simp; done) | (simp; omega))) | (with_reducible refine Below.alloc ?_ ?_ _; rotate_left; exact (by first | omega | (simp; done) | (simp; omega))) | with_reducible refine Below.drew ?_ | with_reducible refine Below_drewN ?_ _))).mono ?_
    rintro e w1 ⟨rfl, hb⟩
    have m0 : w1.cell? ⟨w.heap.size, 0, none⟩ = some (.string name) := by rw [hb.cell (p := ⟨w.heap.size, 0, none⟩) (by first | omega | ((try simp only [World.size_alloc, World.size_setCell, size_drew, size_drewN]); omega) | (simp; done) | (simp; omega))]; go_simp
    have m1 : w1.cell? ⟨w.heap.size, 1, none⟩ = some (.slice A la ca) := by rw [hb.cell (p := ⟨w.heap.size, 1, none⟩) (by first | omega | ((try simp only [World.size_alloc, World.size_setCell, size_drew, size_drewN]); omega) | (simp; done) | (simp; omega))]; go_simp
    have m2 : w1.cell? ⟨w.heap.size, 2, none⟩ = some (.slice B lb cb) := by rw [hb.cell (p := ⟨w.heap.size, 2, none⟩) (by first | omega | ((try simp only [World.size_alloc, World.size_setCell, size_drew, size_drewN]); omega) | (simp; done) | (simp; omega))]; go_simp
    have m3 : w1.cell? ⟨w.heap.size, 3, none⟩ = some (.slice C lc cc) := by rw [hb.cell (p := ⟨w.heap.size, 3, none⟩) (by first | omega | ((try simp only [World.size_alloc, World.size_setCell, size_drew, size_drewN]); omega) | (simp; done) | (simp; omega))]; go_simp
    have m4 : w1.cell? ⟨w.heap.size, 4, none⟩ = some (.int .i64 r) := by rw [hb.cell (p := ⟨w.heap.size, 4, none⟩) (by first | omega | ((try simp only [World.size_alloc, World.size_setCell, size_drew, size_drewN]); omega) | (simp; done) | (simp; omega))]; go_simp
    have m5 : w1.cell? ⟨w.heap.size, 5, none⟩ = some (.int .i64 z) := by rw [hb.cell (p := ⟨w.heap.size, 5, none⟩) (by first | omega | ((try simp only [World.size_alloc, World.size_setCell, size_drew, size_drewN]); omega) | (simp; done) | (simp; omega))]; go_simp
    have m6 : w1.cell? ⟨w.heap.size, 6, none⟩ = some (.int .i64 nr) := by rw [hb.cell (p := ⟨w.heap.size, 6, none⟩) (by first | omega | ((try simp only [World.size_alloc, World.size_setCell, size_drew, size_drewN]); omega) | (simp; done) | (simp; omega))]; go_simp
    have m7 : w1.cell? ⟨w.heap.size, 7, none⟩ = some (.int .i64 nz) := by rw [hb.cell (p := ⟨w.heap.size, 7, none⟩) (by first | omega | ((try simp only [World.size_alloc, World.size_setCell, size_drew, size_drewN]); omega) | (simp; done) | (simp; omega))]; go_simp
    have m8 : w1.cell? ⟨w.heap.size, 8, none⟩ = some (.int .i64 step) := by rw [hb.cell (p := ⟨w.heap.size, 8, none⟩) (by first | omega | ((try simp only [World.size_alloc, World.size_setCell, size_drew, size_drewN]); omega) | (simp; done) | (simp; omega))]; go_simp
    have m9 : w1.cell? ⟨w.heap.size, 9, none⟩ = some (.slice D ld cd) := by rw [hb.cell (p := ⟨w.heap.size, 9, none⟩) (by first | omega | ((try simp only [World.size_alloc, World.size_setCell, size_drew, size_drewN]); omega) | (simp; done) | (simp; omega))]; go_simp
    have s10 : w1.cell? ⟨w.heap.size + 1, 0, none⟩ = some (.int .i64 0) := by rw [hb.cell (p := ⟨w.heap.size + 1, 0, none⟩) (by first | omega | ((try simp only [World.size_alloc, World.size_setCell, size_drew, size_drewN]); omega) | (simp; done) | (simp; omega))]; go_simp
    have s11 : w1.cell? ⟨w.heap.size + 1, 1, none⟩ = some (.int .i64 0) := by rw [hb.cell (p := ⟨w.heap.size + 1, 1, none⟩) (by first | omega | ((try simp only [World.size_alloc, World.size_setCell, size_drew, size_drewN]); omega) | (simp; done) | (simp; omega))]; go_simp
    have s20 : w1.cell? ⟨w.heap.size + 1 + 1, 0, none⟩ = some (.int .i64 0) := by rw [hb.cell (p := ⟨w.heap.size + 1 + 1, 0, none⟩) (by first | omega | ((try simp only [World.size_alloc, World.size_setCell, size_drew, size_drewN]); omega) | (simp; done) | (simp; omega))]; go_simp
    have s21 : w1.cell? ⟨w.heap.size + 1 + 1, 1, none⟩ = some (.int .i64 0) := by rw [hb.cell (p := ⟨w.heap.size + 1 + 1, 1, none⟩) (by first | omega | ((try simp only [World.size_alloc, World.size_setCell, size_drew, size_drewN]); omega) | (simp; done) | (simp; omega))]; go_simp
    have s30 : w1.cell? ⟨w.heap.size + 1 + 1 + 1, 0, none⟩ = some (.int .i64 0) := by rw [hb.cell (p := ⟨w.heap.size + 1 + 1 + 1, 0, none⟩) (by first | omega | ((try simp only [World.size_alloc, World.size_setCell, size_drew, size_drewN]); omega) | (simp; done) | (simp; omega))]; go_simp
    have s31 : w1.cell? ⟨w.heap.size + 1 + 1 + 1, 1, none⟩ = some (.int .i64 0) := by rw [hb.cell (p := ⟨w.heap.size + 1 + 1 + 1, 1, none⟩) (by first | omega | ((try simp only [World.size_alloc, World.size_setCell, size_drew, size_drewN]); omega) | (simp; done) | (simp; omega))]; go_simp
    have s40 : w1.cell? ⟨w.heap.size + 1 + 1 + 1 + 1, 0, none⟩ = some (.int .i64 0) := by rw [hb.cell (p := ⟨w.heap.size + 1 + 1 + 1 + 1, 0, none⟩) (by first | omega | ((try simp only [World.size_alloc, World.size_setCell, size_drew, size_drewN]); omega) | (simp; done) | (simp; omega))]; go_simp
    have s41 : w1.cell? ⟨w.heap.size + 1 + 1 + 1 + 1, 1, none⟩ = some (.int .i64 0) := by rw [hb.cell (p := ⟨w.heap.size + 1 + 1 + 1 + 1, 1, none⟩) (by first | omega | ((try simp only [World.size_alloc, World.size_setCell, size_drew, size_drewN]); omega) | (simp; done) | (simp; omega))]; go_simp
    have f10 : w1.frozen? ⟨w.heap.size + 1, 0, none⟩ = false := by rw [hb.frozen (p := ⟨w.heap.size + 1, 0, none⟩) (by first | omega | ((try simp only [World.size_alloc, World.size_setCell, size_drew, size_drewN]); omega) | (simp; done) | (simp; omega))]; go_simp
    have f11 : w1.frozen? ⟨w.heap.size + 1, 1, none⟩ = false := by rw [hb.frozen (p := ⟨w.heap.size + 1, 1, none⟩) (by first | omega | ((try simp only [World.size_alloc, World.size_setCell, size_drew, size_drewN]); omega) | (simp; done) | (simp; omega))]; go_simp
    have f20 : w1.frozen? ⟨w.heap.size + 1 + 1, 0, none⟩ = false := by rw [hb.frozen (p := ⟨w.heap.size + 1 + 1, 0, none⟩) (by first | omega | ((try simp only [World.size_alloc, World.size_setCell, size_drew, size_drewN]); omega) | (simp; done) | (simp; omega))]; go_simp
    have f21 : w1.frozen? ⟨w.heap.size + 1 + 1, 1, none⟩ = false := by rw [hb.frozen (p := ⟨w.heap.size + 1 + 1, 1, none⟩) (by first | omega | ((try simp only [World.size_alloc, World.size_setCell, size_drew, size_drewN]); omega) | (simp; done) | (simp; omega))]; go_simp
    have f30 : w1.frozen? ⟨w.heap.size + 1 + 1 + 1, 0, none⟩ = false := by rw [hb.frozen (p := ⟨w.heap.size + 1 + 1 + 1, 0, none⟩) (by first | omega | ((try simp only [World.size_alloc, World.size_setCell, size_drew, size_drewN]); omega) | (simp; done) | (simp; omega))]; go_simp
    have f31 : w1.frozen? ⟨w.heap.size + 1 + 1 + 1, 1, none⟩ = false := by rw [hb.frozen (p := ⟨w.heap.size + 1 + 1 + 1, 1, none⟩) (by first | omega | ((try simp only [World.size_alloc, World.size_setCell, size_drew, size_drewN]); omega) | (simp; done) | (simp; omega))]; go_simp
    have k0 : w.heap.size < w1.heap.size := Nat.lt_of_lt_of_le (by first | omega | ((try simp only [World.size_alloc, World.size_setCell, size_drew, size_drewN]); omega) | (simp; done) | (simp; omega)) hb.size
    have k1 : w.heap.size + 1 < w1.heap.size := Nat.lt_of_lt_of_le (by first | omega | ((try simp only [World.size_alloc, World.size_setCell, size_drew, size_drewN]); omega) | (simp; done) | (simp; omega)) hb.size
    have k2 : w.heap.size + 1 + 1 < w1.heap.size := Nat.lt_of_lt_of_le (by first | omega | ((try simp only [World.size_alloc, World.size_setCell, size_drew, size_drewN]); omega) | (simp; done) | (simp; omega)) hb.size
    have k3 : w.heap.size + 1 + 1 + 1 < w1.heap.size := Nat.lt_of_lt_of_le (by first | omega | ((try simp only [World.size_alloc, World.size_setCell, size_drew, size_drewN]); omega) | (simp; done) | (simp; omega)) hb.size
    have k4 : w.heap.size + 1 + 1 + 1 + 1 < w1.heap.size := Nat.lt_of_lt_of_le (by first | omega | ((try simp only [World.size_alloc, World.size_setCell, size_drew, size_drewN]); omega) | (simp; done) | (simp; omega)) hb.size
    have hw1 : Below w.heap.size w w1 := Below.trans (by (repeat first | with_reducible exact Below.refl _ _ | with_reducible assumption | (with_reducible refine Below.setCell ?_ ?_ _; rotate_left; exact (by first | omega | (simp; done) | (simp; omega))) | (with_reducible refine Below.alloc ?_ ?_ _; rotate_left; exact (by first | omega | (simp; done) | (simp; omega))) | with_reducible refine Below.drew ?_ | with_reducible refine Below_drewN ?_ _)) (hb.mono (by first | omega | ((try simp only [World.size_alloc, World.size_setCell, size_drew, size_drewN]); omega) | (simp; done) | (simp; omega)))
    clear hb
    have hB0 := Below.refl w1.heap.size w1
    go_wp2_with fail
    go_region_held3 (fun w' => Reg3 (w.heap.size + 1) (w.heap.size + 1 + 1) (w.heap.size + 1 + 1 + 1) w1 w' ∧ w'.cell? ⟨w.heap.size + 1, 0, none⟩ = some (.int .i64 0) ∧ w'.cell? ⟨w.heap.size + 1, 1, none⟩ = some (.int .i64 0) ∧ w'.cell? ⟨w.heap.size + 1 + 1, 0, none⟩ = some (.int .i64 0) ∧ w'.cell? ⟨w.heap.size + 1 + 1, 1, none⟩ = some (.int .i64 0) ∧ w'.cell? ⟨w.heap.size + 1 + 1 + 1, 0, none⟩ = some (.int .i64 0) ∧ w'.cell? ⟨w.heap.size + 1 + 1 + 1, 1, none⟩ = some (.int .i64 0) ∧ w'.cell? ⟨w.heap.size + 1 + 1 + 1 + 1, 0, none⟩ = some (.int .i64 0) ∧ w'.cell? ⟨w.heap.size + 1 + 1 + 1 + 1, 1, none⟩ = some (.int .i64 0) ∧ w'.frozen? ⟨w.heap.size + 1, 0, none⟩ = false ∧ w'.frozen? ⟨w.heap.size + 1, 1, none⟩ = false ∧ w'.frozen? ⟨w.heap.size + 1 + 1, 0, none⟩ = false ∧ w'.frozen? ⟨w.heap.size + 1 + 1, 1, none⟩ = false ∧ w'.frozen? ⟨w.heap.size + 1 + 1 + 1, 0, none⟩ = false ∧ w'.frozen? ⟨w.heap.size + 1 + 1 + 1, 1, none⟩ = false) (exact ⟨by (repeat first | with_reducible exact Reg3.refl _ _ _ _ | with_reducible exact Reg3.drewN2 _ _ _ _ _ _ | with_reducible exact (‹Reg3 _ _ _ _ _ ∧ _›).1 | (with_reducible refine Reg3.setCell ?_ ?_ _; rotate_left; exact (by first | omega | ((try simp only [World.size_alloc, World.size_setCell, size_drew, size_drewN]); omega) | (simp; done) | (simp; omega))) | with_reducible refine Reg3.alloc ?_ _ | with_reducible refine Reg3.drew ?_ | with_reducible refine Reg3.drewN ?_ _ | (with_reducible apply Reg3.call; rotate_left; with_reducible assumption)), by go_simp, by go_simp, by go_simp, by go_simp, by go_simp, by go_simp, by go_simp, by go_simp, by go_simp, by go_simp, by go_simp, by go_simp, by go_simp, by go_simp⟩) (fail)
    all_goals go_wp2_with fail
    all_goals exact bodyPost_ret (resW Tryd.results36 _ _ _ _ _ (.int .i64 0) (.int .i64 0) (.int .i64 0) (.int .i64 0) (.int .i64 0) (.int .i64 0) (.int .i64 1) rfl rfl rfl rfl (by go_simp) (by go_simp) (by go_simp) (by go_simp) (by go_simp) (by go_simp)) rfl ⟨rfl, (Reg3.out (‹Reg3 _ _ _ _ _ ∧ _›).1 (by (repeat first | with_reducible exact Below.refl _ _ | with_reducible assumption | (with_reducible refine Below.setCell ?_ ?_ _; rotate_left; exact (by first | omega | (simp; done) | (simp; omega))) | (with_reducible refine Below.alloc ?_ ?_ _; rotate_left; exact (by first | omega | (simp; done) | (simp; omega))) | with_reducible refine Below.drew ?_ | with_reducible refine Below_drewN ?_ _)) (by first | omega | (simp; done) | (simp; omega)) (by first | omega | (simp; done) | (simp; omega)) (by first | omega | (simp; done) | (simp; omega)))⟩
  subst hc
  obtain ⟨hn, n0, n1⟩ := HNE.out rfl
  have HOK2 : Hid (∀ x : Tri, okW M x = (wthn x.1 0 (n - 1) && vld x.2.1 x.2.2)) := Lib.hid (fun x => by rw [hn]; exact HOK.out rfl x)
  have HE2 := Lib.hid (HE.out.trans (if_pos rfl))
  clear HNE hn HOK HE
  go_enter Tryd.func36, Tryd.ntmps36
  go_wp2_with fail
  refine (H0.out _ (by (repeat first | with_reducible exact Below.refl _ _ | with_reducible assumption | (with_reducible refine Below.setCell ?_ ?_ _; rotate_left; exact (by first | omega | (simp; done) | (simp; omega))) | (with_reducible refine Below.alloc ?_ ?_ _; rotate_left; exact (by first | omega | (simp; done) | (simp; omega))) | with_reducible refine Below.drew ?_ | with_reducible refine Below_drewN ?_ _))).mono ?_
  rintro e w1 ⟨rfl, hb⟩
  have m0 : w1.cell? ⟨w.heap.size, 0, none⟩ = some (.string name) := by rw [hb.cell (p := ⟨w.heap.size, 0, none⟩) (by first | omega | ((try simp only [World.size_alloc, World.size_setCell, size_drew, size_drewN]); omega) | (simp; done) | (simp; omega))]; go_simp
  have m1 : w1.cell? ⟨w.heap.size, 1, none⟩ = some (.slice A la ca) := by rw [hb.cell (p := ⟨w.heap.size, 1, none⟩) (by first | omega | ((try simp only [World.size_alloc, World.size_setCell, size_drew, size_drewN]); omega) | (simp; done) | (simp; omega))]; go_simp
  have m2 : w1.cell? ⟨w.heap.size, 2, none⟩ = some (.slice B lb cb) := by rw [hb.cell (p := ⟨w.heap.size, 2, none⟩) (by first | omega | ((try simp only [World.size_alloc, World.size_setCell, size_drew, size_drewN]); omega) | (simp; done) | (simp; omega))]; go_simp
  have m3 : w1.cell? ⟨w.heap.size, 3, none⟩ = some (.slice C lc cc) := by rw [hb.cell (p := ⟨w.heap.size, 3, none⟩) (by first | omega | ((try simp only [World.size_alloc, World.size_setCell, size_drew, size_drewN]); omega) | (simp; done) | (simp; omega))]; go_simp
  have m4 : w1.cell? ⟨w.heap.size, 4, none⟩ = some (.int .i64 r) := by rw [hb.cell (p := ⟨w.heap.size, 4, none⟩) (by first | omega | ((try simp only [World.size_alloc, World.size_setCell, size_drew, size_drewN]); omega) | (simp; done) | (simp; omega))]; go_simp
  have m5 : w1.cell? ⟨w.heap.size, 5, none⟩ = some (.int .i64 z) := by rw [hb.cell (p := ⟨w.heap.size, 5, none⟩) (by first | omega | ((try simp only [World.size_alloc, World.size_setCell, size_drew, size_drewN]); omega) | (simp; done) | (simp; omega))]; go_simp
  have m6 : w1.cell? ⟨w.heap.size, 6, none⟩ = some (.int .i64 nr) := by rw [hb.cell (p := ⟨w.heap.size, 6, none⟩) (by first | omega | ((try simp only [World.size_alloc, World.size_setCell, size_drew, size_drewN]); omega) | (simp; done) | (simp; omega))]; go_simp
  have m7 : w1.cell? ⟨w.heap.size, 7, none⟩ = some (.int .i64 nz) := by rw [hb.cell (p := ⟨w.heap.size, 7, none⟩) (by first | omega | ((try simp only [World.size_alloc, World.size_setCell, size_drew, size_drewN]); omega) | (simp; done) | (simp; omega))]; go_simp
  have m8 : w1.cell? ⟨w.heap.size, 8, none⟩ = some (.int .i64 step) := by rw [hb.cell (p := ⟨w.heap.size, 8, none⟩) (by first | omega | ((try simp only [World.size_alloc, World.size_setCell, size_drew, size_drewN]); omega) | (simp; done) | (simp; omega))]; go_simp
  have m9 : w1.cell? ⟨w.heap.size, 9, none⟩ = some (.slice D ld cd) := by rw [hb.cell (p := ⟨w.heap.size, 9, none⟩) (by first | omega | ((try simp only [World.size_alloc, World.size_setCell, size_drew, size_drewN]); omega) | (simp; done) | (simp; omega))]; go_simp
  have s10 : w1.cell? ⟨w.heap.size + 1, 0, none⟩ = some (.int .i64 0) := by rw [hb.cell (p := ⟨w.heap.size + 1, 0, none⟩) (by first | omega | ((try simp only [World.size_alloc, World.size_setCell, size_drew, size_drewN]); omega) | (simp; done) | (simp; omega))]; go_simp
  have s11 : w1.cell? ⟨w.heap.size + 1, 1, none⟩ = some (.int .i64 0) := by rw [hb.cell (p := ⟨w.heap.size + 1, 1, none⟩) (by first | omega | ((try simp only [World.size_alloc, World.size_setCell, size_drew, size_drewN]); omega) | (simp; done) | (simp; omega))]; go_simp
  have s20 : w1.cell? ⟨w.heap.size + 1 + 1, 0, none⟩ = some (.int .i64 0) := by rw [hb.cell (p := ⟨w.heap.size + 1 + 1, 0, none⟩) (by first | omega | ((try simp only [World.size_alloc, World.size_setCell, size_drew, size_drewN]); omega) | (simp; done) | (simp; omega))]; go_simp
  have s21 : w1.cell? ⟨w.heap.size + 1 + 1, 1, none⟩ = some (.int .i64 0) := by rw [hb.cell (p := ⟨w.heap.size + 1 + 1, 1, none⟩) (by first | omega | ((try simp only [World.size_alloc, World.size_setCell, size_drew, size_drewN]); omega) | (simp; done) | (simp; omega))]; go_simp
  have s30 : w1.cell? ⟨w.heap.size + 1 + 1 + 1, 0, none⟩ = some (.int .i64 0) := by rw [hb.cell (p := ⟨w.heap.size + 1 + 1 + 1, 0, none⟩) (by first | omega | ((try simp only [World.size_alloc, World.size_setCell, size_drew, size_drewN]); omega) | (simp; done) | (simp; omega))]; go_simp
  have s31 : w1.cell? ⟨w.heap.size + 1 + 1 + 1, 1, none⟩ = some (.int .i64 0) := by rw [hb.cell (p := ⟨w.heap.size + 1 + 1 + 1, 1, none⟩) (by first | omega | ((try simp only [World.size_alloc, World.size_setCell, size_drew, size_drewN]); omega) | (simp; done) | (simp; omega))]; go_simp
  have s40 : w1.cell? ⟨w.heap.size + 1 + 1 + 1 + 1, 0, none⟩ = some (.int .i64 0) := by rw [hb.cell (p := ⟨w.heap.size + 1 + 1 + 1 + 1, 0, none⟩) (by first | omega | ((try simp only [World.size_alloc, World.size_setCell, size_drew, size_drewN]); omega) | (simp; done) | (simp; omega))]; go_simp
  have s41 : w1.cell? ⟨w.heap.size + 1 + 1 + 1 + 1, 1, none⟩ = some (.int .i64 0) := by rw [hb.cell (p := ⟨w.heap.size + 1 + 1 + 1 + 1, 1, none⟩) (by first | omega | ((try simp only [World.size_alloc, World.size_setCell, size_drew, size_drewN]); omega) | (simp; done) | (simp; omega))]; go_simp
  have f10 : w1.frozen? ⟨w.heap.size + 1, 0, none⟩ = false := by rw [hb.frozen (p := ⟨w.heap.size + 1, 0, none⟩) (by first | omega | ((try simp only [World.size_alloc, World.size_setCell, size_drew, size_drewN]); omega) | (simp; done) | (simp; omega))]; go_simp
  have f11 : w1.frozen? ⟨w.heap.size + 1, 1, none⟩ = false := by rw [hb.frozen (p := ⟨w.heap.size + 1, 1, none⟩) (by first | omega | ((try simp only [World.size_alloc, World.size_setCell, size_drew, size_drewN]); omega) | (simp; done) | (simp; omega))]; go_simp
  have f20 : w1.frozen? ⟨w.heap.size + 1 + 1, 0, none⟩ = false := by rw [hb.frozen (p := ⟨w.heap.size + 1 + 1, 0, none⟩) (by first | omega | ((try simp only [World.size_alloc, World.size_setCell, size_drew, size_drewN]); omega) | (simp; done) | (simp; omega))]; go_simp
  have f21 : w1.frozen? ⟨w.heap.size + 1 + 1, 1, none⟩ = false := by rw [hb.frozen (p := ⟨w.heap.size + 1 + 1, 1, none⟩) (by first | omega | ((try simp only [World.size_alloc, World.size_setCell, size_drew, size_drewN]); omega) | (simp; done) | (simp; omega))]; go_simp
  have f30 : w1.frozen? ⟨w.heap.size + 1 + 1 + 1, 0, none⟩ = false := by rw [hb.frozen (p := ⟨w.heap.size + 1 + 1 + 1, 0, none⟩) (by first | omega | ((try simp only [World.size_alloc, World.size_setCell, size_drew, size_drewN]); omega) | (simp; done) | (simp; omega))]; go_simp
  have f31 : w1.frozen? ⟨w.heap.size + 1 + 1 + 1, 1, none⟩ = false := by rw [hb.frozen (p := ⟨w.heap.size + 1 + 1 + 1, 1, none⟩) (by first | omega | ((try simp only [World.size_alloc, World.size_setCell, size_drew, size_drewN]); omega) | (simp; done) | (simp; omega))]; go_simp
  have k0 : w.heap.size < w1.heap.size := Nat.lt_of_lt_of_le (by first | omega | ((try simp only [World.size_alloc, World.size_setCell, size_drew, size_drewN]); omega) | (simp; done) | (simp; omega)) hb.size
  have k1 : w.heap.size + 1 < w1.heap.size := Nat.lt_of_lt_of_le (by first | omega | ((try simp only [World.size_alloc, World.size_setCell, size_drew, size_drewN]); omega) | (simp; done) | (simp; omega)) hb.size
  have k2 : w.heap.size + 1 + 1 < w1.heap.size := Nat.lt_of_lt_of_le (by first | omega | ((try simp only [World.size_alloc, World.size_setCell, size_drew, size_drewN]); omega) | (simp; done) | (simp; omega)) hb.size
  have k3 : w.heap.size + 1 + 1 + 1 < w1.heap.size := Nat.lt_of_lt_of_le (by first | omega | ((try simp only [World.size_alloc, World.size_setCell, size_drew, size_drewN]); omega) | (simp; done) | (simp; omega)) hb.size
  have k4 : w.heap.size + 1 + 1 + 1 + 1 < w1.heap.size := Nat.lt_of_lt_of_le (by first | omega | ((try simp only [World.size_alloc, World.size_setCell, size_drew, size_drewN]); omega) | (simp; done) | (simp; omega)) hb.size
  have hw1 : Below w.heap.size w w1 := Below.trans (by (repeat first | with_reducible exact Below.refl _ _ | with_reducible assumption | (with_reducible refine Below.setCell ?_ ?_ _; rotate_left; exact (by first | omega | (simp; done) | (simp; omega))) | (with_reducible refine Below.alloc ?_ ?_ _; rotate_left; exact (by first | omega | (simp; done) | (simp; omega))) | with_reducible refine Below.drew ?_ | with_reducible refine Below_drewN ?_ _)) (hb.mono (by first | omega | ((try simp only [World.size_alloc, World.size_setCell, size_drew, size_drewN]); omega) | (simp; done) | (simp; omega)))
  clear hb
  have FM := Lib.hid (BoxL.mk10 (W := w1) k0 m0 m1 m2 m3 m4 m5 m6 m7 m8 m9)
  have FZ1 := Lib.hid (BoxL.mk2 (W := w1) k1 s10 s11)
  have FZ2 := Lib.hid (BoxL.mk2 (W := w1) k2 s20 s21)
  have FZ3 := Lib.hid (BoxL.mk2 (W := w1) k3 s30 s31)
  have FZ4 := Lib.hid (BoxL.mk2 (W := w1) k4 s40 s41)
  have FF1 := Lib.hid (MarkL.mk2 (W := w1) k1 f10 f11)
  have FF2 := Lib.hid (MarkL.mk2 (W := w1) k2 f20 f21)
  have FF3 := Lib.hid (MarkL.mk2 (W := w1) k3 f30 f31)
  have K4 := Lib.hid k4
  clear m0 m1 m2 m3 m4 m5 m6 m7 m8 m9 s10 s11 s20 s21 s30 s31 s40 s41 f10 f11 f20 f21 f30 f31 k0 k1 k2 k3 k4
  go_wp2_with fail
  go_loopw [9] (fun i wr => ∃ j : Nat, j ≤ len ∧ i = .int .i64 j ∧ Hid (∀ (k : Nat) (x : Tri), k < j → zs[k]? = some x → okW M x = true) ∧ Below w1.heap.size w1 wr) (fun i _ => len - (intOf i).toNat)
  case atStart => exact ⟨0, Nat.zero_le _, rfl, Lib.hid (fun k x hk => absurd hk (Nat.not_lt_zero k)), Below.refl _ _⟩
  case round =>
    obtain ⟨j, hj, rfl, HA, hB⟩ := hrel
    by_cases hlt : j < len
    · have hBw := Below.trans hw1 (hB.mono hw1.size)
      obtain ⟨hzl, hcl⟩ := HI.out.below hBw
      obtain ⟨b, o, rfl, hb0, hcl⟩ := hcl (by omega)
      obtain ⟨x, hx⟩ : ∃ x, zs[j]? = some x := ⟨_, List.getElem?_eq_getElem (by omega)⟩
      have x0 : wr.cell? ⟨b, o + j * 3, none⟩ = some (.int .i64 x.1) := by have h := hcl j x hx 0 _ rfl; simpa using h
      have x1 : wr.cell? ⟨b, o + j * 3 + 1, none⟩ = some (.int .i64 x.2.1) := by have h := hcl j x hx 1 _ rfl; simpa using h
      have x2 : wr.cell? ⟨b, o + j * 3 + 2, none⟩ = some (.int .i64 x.2.2) := by have h := hcl j x hx 2 _ rfl; simpa using h
      have HX := Lib.hid hx
      have HK := Lib.hid (HOK2.out x)
      have sz0 := hBw.size
      clear hcl hx hzl HO HCELL
      have jc : (0 : Int) ≤ j := by omega
      have jn : ((j : Int)).toNat = j := by omega
      obtain ⟨v, lo, hi⟩ := x
      dsimp only at x0 x1 x2 HK
      have m0 := (FM.out.below hB).at 0 (.string name) rfl
      have m1 := (FM.out.below hB).at 1 (.slice A la ca) rfl
      have m2 := (FM.out.below hB).at 2 (.slice B lb cb) rfl
      have m3 := (FM.out.below hB).at 3 (.slice C lc cc) rfl
      have m4 := (FM.out.below hB).at 4 (.int .i64 r) rfl
      have m5 := (FM.out.below hB).at 5 (.int .i64 z) rfl
      have m6 := (FM.out.below hB).at 6 (.int .i64 nr) rfl
      have m7 := (FM.out.below hB).at 7 (.int .i64 nz) rfl
      have m8 := (FM.out.below hB).at 8 (.int .i64 step) rfl
      have m9 := (FM.out.below hB).at 9 (.slice D ld cd) rfl
      have kk := Nat.lt_of_lt_of_le K4.out hB.size
      have kq := Nat.lt_trans (by omega : w.heap.size < w.heap.size + 1 + 1 + 1 + 1) kk
      have nw : IntKind.i64.wrap (n - 1) = n - 1 := IntWalk.i64_in _ (by omega)
      have HWI := Lib.hid (fun W => rwithin4w_any v 0 (n - 1) W)
      have HVA := Lib.hid (fun W => rvalid_any lo hi W)
      generalize wthn v 0 (n - 1) = a1 at *
      generalize hvv : vld lo hi = a2 at *
      clear hvv
      cases a1
      case false =>
        have HG : G = (.zero, 1) := by rw [HE2.out, HNO.out j _ HX.out (by rw [HK.out]; rfl)]
        subst HG
        clear HA HK HX HE2 HNO
        go_wp2_with fail
        have HS : Hid (∀ w' : World, Reg (wr.heap.size) (wr) w' → (Reg (wr.heap.size) (wr) w' ∧ w'.cell? ⟨w.heap.size, 0, none⟩ = some (.string name) ∧ w'.cell? ⟨w.heap.size, 1, none⟩ = some (.slice A la ca) ∧ w'.cell? ⟨w.heap.size, 2, none⟩ = some (.slice B lb cb) ∧ w'.cell? ⟨w.heap.size, 3, none⟩ = some (.slice C lc cc) ∧ w'.cell? ⟨w.heap.size, 4, none⟩ = some (.int .i64 r) ∧ w'.cell? ⟨w.heap.size, 5, none⟩ = some (.int .i64 z) ∧ w'.cell? ⟨w.heap.size, 6, none⟩ = some (.int .i64 nr) ∧ w'.cell? ⟨w.heap.size, 7, none⟩ = some (.int .i64 nz) ∧ w'.cell? ⟨w.heap.size, 8, none⟩ = some (.int .i64 step) ∧ w'.cell? ⟨w.heap.size, 9, none⟩ = some (.slice D ld cd) ∧ w'.cell? ⟨b, o + j * 3, none⟩ = some (.int .i64 v) ∧ w'.cell? ⟨b, o + j * 3 + 1, none⟩ = some (.int .i64 lo) ∧ w'.cell? ⟨b, o + j * 3 + 2, none⟩ = some (.int .i64 hi))) := (fun w' h => by (have hc := h.cells; have hs := h.some; have hf := h.frozen; refine ⟨h, ?_⟩; (try simp only [World.size_alloc, World.size_setCell, size_drew, size_drewN] at hc hs hf); first | (simp (disch := omega) only [hc, hs, hf, cur_iff]; (try go_simp); done) | (simp (disch := first | omega | (simp; done)) only [hc, hs, hf, cur_iff]; (try go_simp); done) | (simp (maxDischargeDepth := 4) [hc, hs, hf, cur_iff, go_sem]; done) | (go_simp; done) | (simp (maxDischargeDepth := 4) [hc, hs, hf, cur_iff, go_sem]; go_simp)))
        refine wp_region_held_drew (S := fun w' => Reg (wr.heap.size) (wr) w' ∧ w'.cell? ⟨w.heap.size, 0, none⟩ = some (.string name) ∧ w'.cell? ⟨w.heap.size, 1, none⟩ = some (.slice A la ca) ∧ w'.cell? ⟨w.heap.size, 2, none⟩ = some (.slice B lb cb) ∧ w'.cell? ⟨w.heap.size, 3, none⟩ = some (.slice C lc cc) ∧ w'.cell? ⟨w.heap.size, 4, none⟩ = some (.int .i64 r) ∧ w'.cell? ⟨w.heap.size, 5, none⟩ = some (.int .i64 z) ∧ w'.cell? ⟨w.heap.size, 6, none⟩ = some (.int .i64 nr) ∧ w'.cell? ⟨w.heap.size, 7, none⟩ = some (.int .i64 nz) ∧ w'.cell? ⟨w.heap.size, 8, none⟩ = some (.int .i64 step) ∧ w'.cell? ⟨w.heap.size, 9, none⟩ = some (.slice D ld cd) ∧ w'.cell? ⟨b, o + j * 3, none⟩ = some (.int .i64 v) ∧ w'.cell? ⟨b, o + j * 3 + 1, none⟩ = some (.int .i64 lo) ∧ w'.cell? ⟨b, o + j * 3 + 2, none⟩ = some (.int .i64 hi)) (by kernel_rfl) (HS.out _ (by (repeat first | with_reducible exact Reg.refl _ _ | with_reducible exact Reg.drewN2 _ _ _ _ | with_reducible exact (‹Reg _ _ _ ∧ _›).1 | (with_reducible refine Reg.setCell ?_ ?_ _; rotate_left; exact (by first | omega | ((try simp only [World.size_alloc, World.size_setCell, size_drew, size_drewN]); omega) | (simp; done) | (simp; omega))) | with_reducible refine Reg.alloc ?_ _ | with_reducible refine Reg.drew ?_ | with_reducible refine Reg.drewN ?_ _ | (with_reducible apply Reg.call; rotate_left; with_reducible assumption)))) (fun hHeld => ?_)
        refine wpAnyH_takeD (i := 0) (v := (.slice (some ⟨b, o, none⟩) len cap)) (some 30) rfl rfl (by kernel_rfl) (by kernel_rfl) (by kernel_rfl) (fun _ _ _ h => h) (Or.inl ⟨by rfl, fun w' hSw => (by (try dsimp only at hSw); go_simp)⟩) (by assumption) ?_; (try simp only [Act.put, List.setIfInBounds_toArray, List.set_cons_zero, List.set_cons_succ])
        refine wpAnyH_takeD (i := 1) (v := (.int .i64 j)) (some 31) rfl rfl (by kernel_rfl) (by kernel_rfl) (by kernel_rfl) (fun _ _ _ h => h) (Or.inl ⟨by rfl, fun w' hSw => (by (try dsimp only at hSw); go_simp)⟩) (by assumption) ?_; (try simp only [Act.put, List.setIfInBounds_toArray, List.set_cons_zero, List.set_cons_succ])
        refine wpAnyH_takeD (i := 2) (v := (.pointer (some ⟨b, o + j * 3, none⟩))) (some 32) rfl rfl (by kernel_rfl) (by kernel_rfl) (by kernel_rfl) (fun _ _ _ h => h) (Or.inl ⟨by rfl, fun w' hSw => (by (try dsimp only at hSw); go_simp)⟩) (by assumption) ?_; (try simp only [Act.put, List.setIfInBounds_toArray, List.set_cons_zero, List.set_cons_succ])
        refine wpAnyH_takeD (i := 3) (v := (.pointer (some ⟨b, o + j * 3, none⟩))) (some 33) rfl rfl (by kernel_rfl) (by kernel_rfl) (by kernel_rfl) (fun _ _ _ h => h) (Or.inl ⟨by rfl, fun w' hSw => (by (try dsimp only at hSw); go_simp)⟩) (by assumption) ?_; (try simp only [Act.put, List.setIfInBounds_toArray, List.set_cons_zero, List.set_cons_succ])
        refine wpAnyH_takeD (i := 4) (v := (.int .i64 v)) (some 34) rfl rfl (by kernel_rfl) (by kernel_rfl) (by kernel_rfl) (fun _ _ _ h => h) (Or.inl ⟨by rfl, fun w' hSw => (by (try dsimp only at hSw); go_simp)⟩) (by assumption) ?_; (try simp only [Act.put, List.setIfInBounds_toArray, List.set_cons_zero, List.set_cons_succ])
        refine wpAnyH_takeD (i := 5) (v := (.agg #[.string name, .slice A la ca, .slice B lb cb, .slice C lc cc, .int .i64 r, .int .i64 z, .int .i64 nr, .int .i64 nz, .int .i64 step, .slice D ld cd])) (some 35) rfl rfl (by kernel_rfl) (by kernel_rfl) (by kernel_rfl) (fun _ _ _ h => h) (Or.inl ⟨by rfl, fun w' hSw => (by (try dsimp only at hSw); go_simp)⟩) (by assumption) ?_; (try simp only [Act.put, List.setIfInBounds_toArray, List.set_cons_zero, List.set_cons_succ])
        refine wpAnyH_ready (rs := [6]) (by kernel_rfl) (by simp) ?_; refine AllReadyH.cons rfl (fun K hK => ?_) AllReadyH.nil; go_simp; (go_at_call 29; refine (HN.out _ (hBw.trans (Below.mono (Reg.out (‹Reg _ _ _ ∧ _›).1 (Below.refl _ _) (Nat.le_refl _)) hBw.size))).mono ?_; rintro e w9 ⟨rfl, hb⟩; (first | (with_reducible have hk := Nat.lt_of_lt_of_le (size_alloc_lt _ _) hb.size) | (with_reducible have hk := Nat.lt_of_lt_of_le (size_alloc_drew_lt _ _) hb.size) | (with_reducible have hk := Nat.lt_of_lt_of_le hk hb.size) | skip); (try simp only [World.size_alloc, World.size_setCell, size_drew, size_drewN] at hk); obtain ⟨hc, hf⟩ := bcell hb; have hs := hb.size; (try simp only [World.size_alloc, World.size_setCell, size_drew, size_drewN] at hs)); refine hK.out _ _ (by (try dsimp only); exact HS.out _ (by (repeat first | with_reducible exact Reg.refl _ _ | with_reducible exact Reg.drewN2 _ _ _ _ | with_reducible exact (‹Reg _ _ _ ∧ _›).1 | (with_reducible refine Reg.setCell ?_ ?_ _; rotate_left; exact (by first | omega | ((try simp only [World.size_alloc, World.size_setCell, size_drew, size_drewN]); omega) | (simp; done) | (simp; omega))) | with_reducible refine Reg.alloc ?_ _ | with_reducible refine Reg.drew ?_ | with_reducible refine Reg.drewN ?_ _ | (with_reducible apply Reg.call; rotate_left; with_reducible assumption)))) (fun hHeld => ?_); clear hK K; (try simp only [Act.put, List.setIfInBounds_toArray, List.set_cons_zero, List.set_cons_succ])
        refine wpAnyH_takeD (i := 7) (v := (.int .i64 (n - 1))) (some 37) rfl rfl (by kernel_rfl) (by kernel_rfl) (by kernel_rfl) (fun _ _ _ h => h) (Or.inl ⟨by rfl, fun w' hSw => (by (try dsimp only at hSw); go_simp)⟩) (by assumption) ?_; (try simp only [Act.put, List.setIfInBounds_toArray, List.set_cons_zero, List.set_cons_succ])
        refine wpAnyH_ready (rs := [8]) (by kernel_rfl) (by simp) ?_; refine AllReadyH.cons rfl (fun K hK => ?_) AllReadyH.nil; go_simp; (go_at_call 22; refine (HWI.out _).mono ?_; rintro e w9 ⟨rfl, rfl⟩); refine hK.out _ _ (by (try dsimp only); exact HS.out _ (by (repeat first | with_reducible exact Reg.refl _ _ | with_reducible exact Reg.drewN2 _ _ _ _ | with_reducible exact (‹Reg _ _ _ ∧ _›).1 | (with_reducible refine Reg.setCell ?_ ?_ _; rotate_left; exact (by first | omega | ((try simp only [World.size_alloc, World.size_setCell, size_drew, size_drewN]); omega) | (simp; done) | (simp; omega))) | with_reducible refine Reg.alloc ?_ _ | with_reducible refine Reg.drew ?_ | with_reducible refine Reg.drewN ?_ _ | (with_reducible apply Reg.call; rotate_left; with_reducible assumption)))) (fun hHeld => ?_); clear hK K; (try simp only [Act.put, List.setIfInBounds_toArray, List.set_cons_zero, List.set_cons_succ])
        refine wpAnyH_takeD (i := 9) (v := (.bool true)) (some 39) rfl rfl (by kernel_rfl) (by kernel_rfl) (by kernel_rfl) (fun _ _ _ h => h) (Or.inl ⟨by rfl, fun w' hSw => (by (try dsimp only at hSw); go_simp)⟩) (by assumption) ?_; (try simp only [Act.put, List.setIfInBounds_toArray, List.set_cons_zero, List.set_cons_succ])
        refine wpAnyH_takeD (i := 10) (v := (.bool true)) (some 40) rfl rfl (by kernel_rfl) (by kernel_rfl) (by kernel_rfl) (fun _ _ _ h => h) (Or.inl ⟨by rfl, fun w' hSw => (by (try dsimp only at hSw); go_simp)⟩) (by assumption) ?_; (try simp only [Act.put, List.setIfInBounds_toArray, List.set_cons_zero, List.set_cons_succ])
        refine wpAnyH_takeD (i := 11) (v := undef) (some 41) rfl rfl (by kernel_rfl) (by kernel_rfl) (by kernel_rfl) (fun _ _ _ h => h) (Or.inr ⟨by rfl, rfl⟩) (by assumption) ?_; (try simp only [Act.put, List.setIfInBounds_toArray, List.set_cons_zero, List.set_cons_succ])
        refine wpAnyH_takeD (i := 12) (v := undef) (some 42) rfl rfl (by kernel_rfl) (by kernel_rfl) (by kernel_rfl) (fun _ _ _ h => h) (Or.inr ⟨by rfl, rfl⟩) (by assumption) ?_; (try simp only [Act.put, List.setIfInBounds_toArray, List.set_cons_zero, List.set_cons_succ])
        refine wpAnyH_takeD (i := 13) (v := undef) (some 43) rfl rfl (by kernel_rfl) (by kernel_rfl) (by kernel_rfl) (fun _ _ _ h => h) (Or.inr ⟨by rfl, rfl⟩) (by assumption) ?_; (try simp only [Act.put, List.setIfInBounds_toArray, List.set_cons_zero, List.set_cons_succ])
        refine wpAnyH_takeD (i := 14) (v := undef) (some 44) rfl rfl (by kernel_rfl) (by kernel_rfl) (by kernel_rfl) (fun _ _ _ h => h) (Or.inr ⟨by rfl, rfl⟩) (by assumption) ?_; (try simp only [Act.put, List.setIfInBounds_toArray, List.set_cons_zero, List.set_cons_succ])
        refine wpAnyH_takeD (i := 15) (v := undef) (some 45) rfl rfl (by kernel_rfl) (by kernel_rfl) (by kernel_rfl) (fun _ _ _ h => h) (Or.inr ⟨by rfl, rfl⟩) (by assumption) ?_; (try simp only [Act.put, List.setIfInBounds_toArray, List.set_cons_zero, List.set_cons_succ])
        refine wpAnyH_ready (rs := [16]) (by kernel_rfl) (by simp) ?_; refine AllReadyH.cons rfl (fun K hK => ?_) AllReadyH.nil; go_simp; refine hK.out _ _ (by assumption) (fun hHeld => ?_); clear hK K; (try simp only [Act.put, List.setIfInBounds_toArray, List.set_cons_zero, List.set_cons_succ])
        refine wpAnyH_takeD (i := 17) (v := undef) (some 47) rfl rfl (by kernel_rfl) (by kernel_rfl) (by kernel_rfl) (fun _ _ _ h => h) (Or.inr ⟨by rfl, rfl⟩) (by assumption) ?_; (try simp only [Act.put, List.setIfInBounds_toArray, List.set_cons_zero, List.set_cons_succ])
        refine wpAnyH_takeD (i := 18) (v := (.bool true)) (some 48) rfl rfl (by kernel_rfl) (by kernel_rfl) (by kernel_rfl) (fun _ _ _ h => h) (Or.inl ⟨by rfl, fun w' hSw => (by (try dsimp only at hSw); go_simp)⟩) (by assumption) ?_; (try simp only [Act.put, List.setIfInBounds_toArray, List.set_cons_zero, List.set_cons_succ])
        refine wpAnyH_done (by kernel_rfl) ?_ _
        all_goals go_wp2_with fail
        all_goals have hB2 := hB.trans (Below.mono (Reg.out (‹Reg _ _ _ ∧ _›).1 (Below.refl _ _) (Nat.le_refl _)) hB.size)
        all_goals clear m0 m1 m2 m3 m4 m5 m6 m7 m8 m9 x0 x1 x2
        all_goals have s10 := (FZ1.out.below hB2).at 0 (.int .i64 0) rfl
        all_goals have s11 := (FZ1.out.below hB2).at 1 (.int .i64 0) rfl
        all_goals have s20 := (FZ2.out.below hB2).at 0 (.int .i64 0) rfl
        all_goals have s21 := (FZ2.out.below hB2).at 1 (.int .i64 0) rfl
        all_goals have s30 := (FZ3.out.below hB2).at 0 (.int .i64 0) rfl
        all_goals have s31 := (FZ3.out.below hB2).at 1 (.int .i64 0) rfl
        all_goals have s40 := (FZ4.out.below hB2).at 0 (.int .i64 0) rfl
        all_goals have s41 := (FZ4.out.below hB2).at 1 (.int .i64 0) rfl
        all_goals have f10 := (FF1.out.below hB2).at 0 (by omega)
        all_goals have f11 := (FF1.out.below hB2).at 1 (by omega)
        all_goals have f20 := (FF2.out.below hB2).at 0 (by omega)
        all_goals have f21 := (FF2.out.below hB2).at 1 (by omega)
        all_goals have f30 := (FF3.out.below hB2).at 0 (by omega)
        all_goals have f31 := (FF3.out.below hB2).at 1 (by omega)
        all_goals have kk := Nat.lt_of_lt_of_le K4.out hB2.size
        all_goals have k0 := Nat.lt_trans (by omega : w.heap.size < w.heap.size + 1 + 1 + 1 + 1) kk
        all_goals have k1 := Nat.lt_trans (by omega : w.heap.size + 1 < w.heap.size + 1 + 1 + 1 + 1) kk
        all_goals have k2 := Nat.lt_trans (by omega : w.heap.size + 1 + 1 < w.heap.size + 1 + 1 + 1 + 1) kk
        all_goals have k3 := Nat.lt_trans (by omega : w.heap.size + 1 + 1 + 1 < w.heap.size + 1 + 1 + 1 + 1) kk
        all_goals go_region_held3 (fun w' => Reg3 (w.heap.size + 1) (w.heap.size + 1 + 1) (w.heap.size + 1 + 1 + 1) w1 w' ∧ w'.cell? ⟨w.heap.size + 1, 0, none⟩ = some (.int .i64 0) ∧ w'.cell? ⟨w.heap.size + 1, 1, none⟩ = some (.int .i64 0) ∧ w'.cell? ⟨w.heap.size + 1 + 1, 0, none⟩ = some (.int .i64 0) ∧ w'.cell? ⟨w.heap.size + 1 + 1, 1, none⟩ = some (.int .i64 0) ∧ w'.cell? ⟨w.heap.size + 1 + 1 + 1, 0, none⟩ = some (.int .i64 0) ∧ w'.cell? ⟨w.heap.size + 1 + 1 + 1, 1, none⟩ = some (.int .i64 0) ∧ w'.cell? ⟨w.heap.size + 1 + 1 + 1 + 1, 0, none⟩ = some (.int .i64 0) ∧ w'.cell? ⟨w.heap.size + 1 + 1 + 1 + 1, 1, none⟩ = some (.int .i64 0) ∧ w'.frozen? ⟨w.heap.size + 1, 0, none⟩ = false ∧ w'.frozen? ⟨w.heap.size + 1, 1, none⟩ = false ∧ w'.frozen? ⟨w.heap.size + 1 + 1, 0, none⟩ = false ∧ w'.frozen? ⟨w.heap.size + 1 + 1, 1, none⟩ = false ∧ w'.frozen? ⟨w.heap.size + 1 + 1 + 1, 0, none⟩ = false ∧ w'.frozen? ⟨w.heap.size + 1 + 1 + 1, 1, none⟩ = false) (exact ⟨by (repeat first | with_reducible exact Reg3.refl _ _ _ _ | with_reducible exact Reg3.drewN2 _ _ _ _ _ _ | with_reducible exact (‹Reg3 _ _ _ _ _ ∧ _›).1 | (with_reducible refine Reg3.setCell ?_ ?_ _; rotate_left; exact (by first | omega | ((try simp only [World.size_alloc, World.size_setCell, size_drew, size_drewN]); omega) | (simp; done) | (simp; omega))) | with_reducible refine Reg3.alloc ?_ _ | with_reducible refine Reg3.drew ?_ | with_reducible refine Reg3.drewN ?_ _ | (with_reducible apply Reg3.call; rotate_left; with_reducible assumption)), by go_simp, by go_simp, by go_simp, by go_simp, by go_simp, by go_simp, by go_simp, by go_simp, by go_simp, by go_simp, by go_simp, by go_simp, by go_simp, by go_simp⟩) (fail)
        all_goals go_wp2_with fail
        all_goals exact bodyPost_ret (resW Tryd.results36 _ _ _ _ _ (.int .i64 0) (.int .i64 0) (.int .i64 0) (.int .i64 0) (.int .i64 0) (.int .i64 0) (.int .i64 1) rfl rfl rfl rfl (by go_simp) (by go_simp) (by go_simp) (by go_simp) (by go_simp) (by go_simp)) rfl ⟨rfl, (Reg3.out (‹Reg3 _ _ _ _ _ ∧ _›).1 (by (repeat first | with_reducible exact Below.refl _ _ | with_reducible assumption | (with_reducible refine Below.setCell ?_ ?_ _; rotate_left; exact (by first | omega | (simp; done) | (simp; omega))) | (with_reducible refine Below.alloc ?_ ?_ _; rotate_left; exact (by first | omega | (simp; done) | (simp; omega))) | with_reducible refine Below.drew ?_ | with_reducible refine Below_drewN ?_ _)) (by first | omega | (simp; done) | (simp; omega)) (by first | omega | (simp; done) | (simp; omega)) (by first | omega | (simp; done) | (simp; omega)))⟩
      cases a2
      rotate_left
      · have HA' : Hid (∀ (k : Nat) (x : Tri), k < j + 1 → zs[k]? = some x → okW M x = true) := Lib.hid (fun k x hk hx => by
          by_cases h : k < j
          · exact HA.out k x h hx
          · obtain rfl : k = j := by omega
            obtain rfl : (v, lo, hi) = x := Option.some.inj (HX.out.symm.trans hx)
            rw [HK.out]; rfl)
        clear HA HK HX
        go_wp2_with fail
        have HS : Hid (∀ w' : World, Reg (wr.heap.size) (wr) w' → (Reg (wr.heap.size) (wr) w' ∧ w'.cell? ⟨w.heap.size, 0, none⟩ = some (.string name) ∧ w'.cell? ⟨w.heap.size, 1, none⟩ = some (.slice A la ca) ∧ w'.cell? ⟨w.heap.size, 2, none⟩ = some (.slice B lb cb) ∧ w'.cell? ⟨w.heap.size, 3, none⟩ = some (.slice C lc cc) ∧ w'.cell? ⟨w.heap.size, 4, none⟩ = some (.int .i64 r) ∧ w'.cell? ⟨w.heap.size, 5, none⟩ = some (.int .i64 z) ∧ w'.cell? ⟨w.heap.size, 6, none⟩ = some (.int .i64 nr) ∧ w'.cell? ⟨w.heap.size, 7, none⟩ = some (.int .i64 nz) ∧ w'.cell? ⟨w.heap.size, 8, none⟩ = some (.int .i64 step) ∧ w'.cell? ⟨w.heap.size, 9, none⟩ = some (.slice D ld cd) ∧ w'.cell? ⟨b, o + j * 3, none⟩ = some (.int .i64 v) ∧ w'.cell? ⟨b, o + j * 3 + 1, none⟩ = some (.int .i64 lo) ∧ w'.cell? ⟨b, o + j * 3 + 2, none⟩ = some (.int .i64 hi))) := (fun w' h => by (have hc := h.cells; have hs := h.some; have hf := h.frozen; refine ⟨h, ?_⟩; (try simp only [World.size_alloc, World.size_setCell, size_drew, size_drewN] at hc hs hf); first | (simp (disch := omega) only [hc, hs, hf, cur_iff]; (try go_simp); done) | (simp (disch := first | omega | (simp; done)) only [hc, hs, hf, cur_iff]; (try go_simp); done) | (simp (maxDischargeDepth := 4) [hc, hs, hf, cur_iff, go_sem]; done) | (go_simp; done) | (simp (maxDischargeDepth := 4) [hc, hs, hf, cur_iff, go_sem]; go_simp))); go_region_held3 (fun w' => Reg (wr.heap.size) (wr) w' ∧ w'.cell? ⟨w.heap.size, 0, none⟩ = some (.string name) ∧ w'.cell? ⟨w.heap.size, 1, none⟩ = some (.slice A la ca) ∧ w'.cell? ⟨w.heap.size, 2, none⟩ = some (.slice B lb cb) ∧ w'.cell? ⟨w.heap.size, 3, none⟩ = some (.slice C lc cc) ∧ w'.cell? ⟨w.heap.size, 4, none⟩ = some (.int .i64 r) ∧ w'.cell? ⟨w.heap.size, 5, none⟩ = some (.int .i64 z) ∧ w'.cell? ⟨w.heap.size, 6, none⟩ = some (.int .i64 nr) ∧ w'.cell? ⟨w.heap.size, 7, none⟩ = some (.int .i64 nz) ∧ w'.cell? ⟨w.heap.size, 8, none⟩ = some (.int .i64 step) ∧ w'.cell? ⟨w.heap.size, 9, none⟩ = some (.slice D ld cd) ∧ w'.cell? ⟨b, o + j * 3, none⟩ = some (.int .i64 v) ∧ w'.cell? ⟨b, o + j * 3 + 1, none⟩ = some (.int .i64 lo) ∧ w'.cell? ⟨b, o + j * 3 + 2, none⟩ = some (.int .i64 hi)) (exact HS.out _ (by (repeat first | with_reducible exact Reg.refl _ _ | with_reducible exact Reg.drewN2 _ _ _ _ | with_reducible exact (‹Reg _ _ _ ∧ _›).1 | (with_reducible refine Reg.setCell ?_ ?_ _; rotate_left; exact (by first | omega | ((try simp only [World.size_alloc, World.size_setCell, size_drew, size_drewN]); omega) | (simp; done) | (simp; omega))) | with_reducible refine Reg.alloc ?_ _ | with_reducible refine Reg.drew ?_ | with_reducible refine Reg.drewN ?_ _ | (with_reducible apply Reg.call; rotate_left; with_reducible assumption)))) (first | (go_at_call 29; refine (HN.out _ (hBw.trans (Below.mono (Reg.out (‹Reg _ _ _ ∧ _›).1 (Below.refl _ _) (Nat.le_refl _)) hBw.size))).mono ?_; rintro e w9 ⟨rfl, hb⟩; (first | (with_reducible have hk := Nat.lt_of_lt_of_le (size_alloc_lt _ _) hb.size) | (with_reducible have hk := Nat.lt_of_lt_of_le (size_alloc_drew_lt _ _) hb.size) | (with_reducible have hk := Nat.lt_of_lt_of_le hk hb.size) | skip); (try simp only [World.size_alloc, World.size_setCell, size_drew, size_drewN] at hk); obtain ⟨hc, hf⟩ := bcell hb; have hs := hb.size; (try simp only [World.size_alloc, World.size_setCell, size_drew, size_drewN] at hs)) | (go_at_call 22; refine (HWI.out _).mono ?_; rintro e w' ⟨rfl, rfl⟩) | (go_at_call 63; refine (HVA.out _).mono ?_; rintro e w9 ⟨rfl, hb⟩; (first | (with_reducible have hk := Nat.lt_of_lt_of_le (size_alloc_lt _ _) hb.size) | (with_reducible have hk := Nat.lt_of_lt_of_le (size_alloc_drew_lt _ _) hb.size) | (with_reducible have hk := Nat.lt_of_lt_of_le hk hb.size) | skip); (try simp only [World.size_alloc, World.size_setCell, size_drew, size_drewN] at hk); obtain ⟨hc, hf⟩ := bcell hb; have hs := hb.size; (try simp only [World.size_alloc, World.size_setCell, size_drew, size_drewN] at hs)))
        all_goals go_wp2_with fail
        all_goals go_roundw
        case rel => exact ⟨j + 1, by omega, by go_num, HA', hB.trans (Below.mono (Reg.out (‹Reg _ _ _ ∧ _›).1 (Below.refl _ _) (Nat.le_refl _)) hB.size)⟩
        case measure => simp [intOf]; omega
      · have HG : G = (.zero, 1) := by rw [HE2.out, HNO.out j _ HX.out (by rw [HK.out]; rfl)]
        subst HG
        clear HA HK HX HE2 HNO
        go_wp2_with fail
        have HS : Hid (∀ w' : World, Reg (wr.heap.size) (wr) w' → (Reg (wr.heap.size) (wr) w' ∧ w'.cell? ⟨w.heap.size, 0, none⟩ = some (.string name) ∧ w'.cell? ⟨w.heap.size, 1, none⟩ = some (.slice A la ca) ∧ w'.cell? ⟨w.heap.size, 2, none⟩ = some (.slice B lb cb) ∧ w'.cell? ⟨w.heap.size, 3, none⟩ = some (.slice C lc cc) ∧ w'.cell? ⟨w.heap.size, 4, none⟩ = some (.int .i64 r) ∧ w'.cell? ⟨w.heap.size, 5, none⟩ = some (.int .i64 z) ∧ w'.cell? ⟨w.heap.size, 6, none⟩ = some (.int .i64 nr) ∧ w'.cell? ⟨w.heap.size, 7, none⟩ = some (.int .i64 nz) ∧ w'.cell? ⟨w.heap.size, 8, none⟩ = some (.int .i64 step) ∧ w'.cell? ⟨w.heap.size, 9, none⟩ = some (.slice D ld cd) ∧ w'.cell? ⟨b, o + j * 3, none⟩ = some (.int .i64 v) ∧ w'.cell? ⟨b, o + j * 3 + 1, none⟩ = some (.int .i64 lo) ∧ w'.cell? ⟨b, o + j * 3 + 2, none⟩ = some (.int .i64 hi))) := (fun w' h => by (have hc := h.cells; have hs := h.some; have hf := h.frozen; refine ⟨h, ?_⟩; (try simp only [World.size_alloc, World.size_setCell, size_drew, size_drewN] at hc hs hf); first | (simp (disch := omega) only [hc, hs, hf, cur_iff]; (try go_simp); done) | (simp (disch := first | omega | (simp; done)) only [hc, hs, hf, cur_iff]; (try go_simp); done) | (simp (maxDischargeDepth := 4) [hc, hs, hf, cur_iff, go_sem]; done) | (go_simp; done) | (simp (maxDischargeDepth := 4) [hc, hs, hf, cur_iff, go_sem]; go_simp))); go_region_held3 (fun w' => Reg (wr.heap.size) (wr) w' ∧ w'.cell? ⟨w.heap.size, 0, none⟩ = some (.string name) ∧ w'.cell? ⟨w.heap.size, 1, none⟩ = some (.slice A la ca) ∧ w'.cell? ⟨w.heap.size, 2, none⟩ = some (.slice B lb cb) ∧ w'.cell? ⟨w.heap.size, 3, none⟩ = some (.slice C lc cc) ∧ w'.cell? ⟨w.heap.size, 4, none⟩ = some (.int .i64 r) ∧ w'.cell? ⟨w.heap.size, 5, none⟩ = some (.int .i64 z) ∧ w'.cell? ⟨w.heap.size, 6, none⟩ = some (.int .i64 nr) ∧ w'.cell? ⟨w.heap.size, 7, none⟩ = some (.int .i64 nz) ∧ w'.cell? ⟨w.heap.size, 8, none⟩ = some (.int .i64 step) ∧ w'.cell? ⟨w.heap.size, 9, none⟩ = some (.slice D ld cd) ∧ w'.cell? ⟨b, o + j * 3, none⟩ = some (.int .i64 v) ∧ w'.cell? ⟨b, o + j * 3 + 1, none⟩ = some (.int .i64 lo) ∧ w'.cell? ⟨b, o + j * 3 + 2, none⟩ = some (.int .i64 hi)) (exact HS.out _ (by (repeat first | with_reducible exact Reg.refl _ _ | with_reducible exact Reg.drewN2 _ _ _ _ | with_reducible exact (‹Reg _ _ _ ∧ _›).1 | (with_reducible refine Reg.setCell ?_ ?_ _; rotate_left; exact (by first | omega | ((try simp only [World.size_alloc, World.size_setCell, size_drew, size_drewN]); omega) | (simp; done) | (simp; omega))) | with_reducible refine Reg.alloc ?_ _ | with_reducible refine Reg.drew ?_ | with_reducible refine Reg.drewN ?_ _ | (with_reducible apply Reg.call; rotate_left; with_reducible assumption)))) (first | (go_at_call 29; refine (HN.out _ (hBw.trans (Below.mono (Reg.out (‹Reg _ _ _ ∧ _›).1 (Below.refl _ _) (Nat.le_refl _)) hBw.size))).mono ?_; rintro e w9 ⟨rfl, hb⟩; (first | (with_reducible have hk := Nat.lt_of_lt_of_le (size_alloc_lt _ _) hb.size) | (with_reducible have hk := Nat.lt_of_lt_of_le (size_alloc_drew_lt _ _) hb.size) | (with_reducible have hk := Nat.lt_of_lt_of_le hk hb.size) | skip); (try simp only [World.size_alloc, World.size_setCell, size_drew, size_drewN] at hk); obtain ⟨hc, hf⟩ := bcell hb; have hs := hb.size; (try simp only [World.size_alloc, World.size_setCell, size_drew, size_drewN] at hs)) | (go_at_call 22; refine (HWI.out _).mono ?_; rintro e w' ⟨rfl, rfl⟩) | (go_at_call 63; refine (HVA.out _).mono ?_; rintro e w9 ⟨rfl, hb⟩; (first | (with_reducible have hk := Nat.lt_of_lt_of_le (size_alloc_lt _ _) hb.size) | (with_reducible have hk := Nat.lt_of_lt_of_le (size_alloc_drew_lt _ _) hb.size) | (with_reducible have hk := Nat.lt_of_lt_of_le hk hb.size) | skip); (try simp only [World.size_alloc, World.size_setCell, size_drew, size_drewN] at hk); obtain ⟨hc, hf⟩ := bcell hb; have hs := hb.size; (try simp only [World.size_alloc, World.size_setCell, size_drew, size_drewN] at hs)))
        all_goals go_wp2_with fail
        all_goals have hB2 := hB.trans (Below.mono (Reg.out (‹Reg _ _ _ ∧ _›).1 (Below.refl _ _) (Nat.le_refl _)) hB.size)
        all_goals clear m0 m1 m2 m3 m4 m5 m6 m7 m8 m9 x0 x1 x2
        all_goals have s10 := (FZ1.out.below hB2).at 0 (.int .i64 0) rfl
        all_goals have s11 := (FZ1.out.below hB2).at 1 (.int .i64 0) rfl
        all_goals have s20 := (FZ2.out.below hB2).at 0 (.int .i64 0) rfl
        all_goals have s21 := (FZ2.out.below hB2).at 1 (.int .i64 0) rfl
        all_goals have s30 := (FZ3.out.below hB2).at 0 (.int .i64 0) rfl
        all_goals have s31 := (FZ3.out.below hB2).at 1 (.int .i64 0) rfl
        all_goals have s40 := (FZ4.out.below hB2).at 0 (.int .i64 0) rfl
        all_goals have s41 := (FZ4.out.below hB2).at 1 (.int .i64 0) rfl
        all_goals have f10 := (FF1.out.below hB2).at 0 (by omega)
        all_goals have f11 := (FF1.out.below hB2).at 1 (by omega)
        all_goals have f20 := (FF2.out.below hB2).at 0 (by omega)
        all_goals have f21 := (FF2.out.below hB2).at 1 (by omega)
        all_goals have f30 := (FF3.out.below hB2).at 0 (by omega)
        all_goals have f31 := (FF3.out.below hB2).at 1 (by omega)
        all_goals have kk := Nat.lt_of_lt_of_le K4.out hB2.size
        all_goals have k0 := Nat.lt_trans (by omega : w.heap.size < w.heap.size + 1 + 1 + 1 + 1) kk
        all_goals have k1 := Nat.lt_trans (by omega : w.heap.size + 1 < w.heap.size + 1 + 1 + 1 + 1) kk
        all_goals have k2 := Nat.lt_trans (by omega : w.heap.size + 1 + 1 < w.heap.size + 1 + 1 + 1 + 1) kk
        all_goals have k3 := Nat.lt_trans (by omega : w.heap.size + 1 + 1 + 1 < w.heap.size + 1 + 1 + 1 + 1) kk
        all_goals go_region_held3 (fun w' => Reg3 (w.heap.size + 1) (w.heap.size + 1 + 1) (w.heap.size + 1 + 1 + 1) w1 w' ∧ w'.cell? ⟨w.heap.size + 1, 0, none⟩ = some (.int .i64 0) ∧ w'.cell? ⟨w.heap.size + 1, 1, none⟩ = some (.int .i64 0) ∧ w'.cell? ⟨w.heap.size + 1 + 1, 0, none⟩ = some (.int .i64 0) ∧ w'.cell? ⟨w.heap.size + 1 + 1, 1, none⟩ = some (.int .i64 0) ∧ w'.cell? ⟨w.heap.size + 1 + 1 + 1, 0, none⟩ = some (.int .i64 0) ∧ w'.cell? ⟨w.heap.size + 1 + 1 + 1, 1, none⟩ = some (.int .i64 0) ∧ w'.cell? ⟨w.heap.size + 1 + 1 + 1 + 1, 0, none⟩ = some (.int .i64 0) ∧ w'.cell? ⟨w.heap.size + 1 + 1 + 1 + 1, 1, none⟩ = some (.int .i64 0) ∧ w'.frozen? ⟨w.heap.size + 1, 0, none⟩ = false ∧ w'.frozen? ⟨w.heap.size + 1, 1, none⟩ = false ∧ w'.frozen? ⟨w.heap.size + 1 + 1, 0, none⟩ = false ∧ w'.frozen? ⟨w.heap.size + 1 + 1, 1, none⟩ = false ∧ w'.frozen? ⟨w.heap.size + 1 + 1 + 1, 0, none⟩ = false ∧ w'.frozen? ⟨w.heap.size + 1 + 1 + 1, 1, none⟩ = false) (exact ⟨by (repeat first | with_reducible exact Reg3.refl _ _ _ _ | with_reducible exact Reg3.drewN2 _ _ _ _ _ _ | with_reducible exact (‹Reg3 _ _ _ _ _ ∧ _›).1 | (with_reducible refine Reg3.setCell ?_ ?_ _; rotate_left; exact (by first | omega | ((try simp only [World.size_alloc, World.size_setCell, size_drew, size_drewN]); omega) | (simp; done) | (simp; omega))) | with_reducible refine Reg3.alloc ?_ _ | with_reducible refine Reg3.drew ?_ | with_reducible refine Reg3.drewN ?_ _ | (with_reducible apply Reg3.call; rotate_left; with_reducible assumption)), by go_simp, by go_simp, by go_simp, by go_simp, by go_simp, by go_simp, by go_simp, by go_simp, by go_simp, by go_simp, by go_simp, by go_simp, by go_simp, by go_simp⟩) (fail)
        all_goals go_wp2_with fail
        all_goals exact bodyPost_ret (resW Tryd.results36 _ _ _ _ _ (.int .i64 0) (.int .i64 0) (.int .i64 0) (.int .i64 0) (.int .i64 0) (.int .i64 0) (.int .i64 1) rfl rfl rfl rfl (by go_simp) (by go_simp) (by go_simp) (by go_simp) (by go_simp) (by go_simp)) rfl ⟨rfl, (Reg3.out (‹Reg3 _ _ _ _ _ ∧ _›).1 (by (repeat first | with_reducible exact Below.refl _ _ | with_reducible assumption | (with_reducible refine Below.setCell ?_ ?_ _; rotate_left; exact (by first | omega | (simp; done) | (simp; omega))) | (with_reducible refine Below.alloc ?_ ?_ _; rotate_left; exact (by first | omega | (simp; done) | (simp; omega))) | with_reducible refine Below.drew ?_ | with_reducible refine Below_drewN ?_ _)) (by first | omega | (simp; done) | (simp; omega)) (by first | omega | (simp; done) | (simp; omega)) (by first | omega | (simp; done) | (simp; omega)))⟩
    · have HA2 : Hid (∀ (k : Nat) (x : Tri), zs[k]? = some x → okW M x = true) := Lib.hid (fun k x hx => HA.out k x (by have h1 := (List.getElem?_eq_some_iff.1 hx).1; have h2 := HI.out.1; omega) hx)
      clear HNO HOK2 HN HA
      obtain ⟨ws, hws⟩ : ∃ x, x = wr := ⟨_, rfl⟩
      subst hws
      have szs := hB.size
      have K4s := Lib.hid (Nat.lt_of_lt_of_le K4.out hB.size)
      have s10 := (FZ1.out.below hB).at 0 (.int .i64 0) rfl
      have s11 := (FZ1.out.below hB).at 1 (.int .i64 0) rfl
      have s20 := (FZ2.out.below hB).at 0 (.int .i64 0) rfl
      have s21 := (FZ2.out.below hB).at 1 (.int .i64 0) rfl
      have s30 := (FZ3.out.below hB).at 0 (.int .i64 0) rfl
      have s31 := (FZ3.out.below hB).at 1 (.int .i64 0) rfl
      have s40 := (FZ4.out.below hB).at 0 (.int .i64 0) rfl
      have s41 := (FZ4.out.below hB).at 1 (.int .i64 0) rfl
      have f10 := (FF1.out.below hB).at 0 (by omega)
      have f11 := (FF1.out.below hB).at 1 (by omega)
      have f20 := (FF2.out.below hB).at 0 (by omega)
      have f21 := (FF2.out.below hB).at 1 (by omega)
      have f30 := (FF3.out.below hB).at 0 (by omega)
      have f31 := (FF3.out.below hB).at 1 (by omega)
      have kk := Nat.lt_of_lt_of_le K4.out hB.size
      have k0 := Nat.lt_trans (by omega : w.heap.size < w.heap.size + 1 + 1 + 1 + 1) kk
      have k1 := Nat.lt_trans (by omega : w.heap.size + 1 < w.heap.size + 1 + 1 + 1 + 1) kk
      have k2 := Nat.lt_trans (by omega : w.heap.size + 1 + 1 < w.heap.size + 1 + 1 + 1 + 1) kk
      have k3 := Nat.lt_trans (by omega : w.heap.size + 1 + 1 + 1 < w.heap.size + 1 + 1 + 1 + 1) kk
      by_cases h0 : len = 0
      · have HG : G = (.zero, 8) := by
          have hO : O = some St.zero := by rw [← HO.out, List.eq_nil_of_length_eq_zero (HI.out.1.trans h0)]; rfl
          rw [HE2.out, hO]; simp [HI.out.1, h0]
        have h0b : ((len : Int) == 0) = true := by rw [beq_iff_eq]; omega
        subst HG
        clear h0 HI HE2 HO HA2 HCELL
        go_wp2_with fail
        go_region_held3 (fun w' => Reg3 (w.heap.size + 1) (w.heap.size + 1 + 1) (w.heap.size + 1 + 1 + 1) w1 w' ∧ w'.cell? ⟨w.heap.size + 1, 0, none⟩ = some (.int .i64 0) ∧ w'.cell? ⟨w.heap.size + 1, 1, none⟩ = some (.int .i64 0) ∧ w'.cell? ⟨w.heap.size + 1 + 1, 0, none⟩ = some (.int .i64 0) ∧ w'.cell? ⟨w.heap.size + 1 + 1, 1, none⟩ = some (.int .i64 0) ∧ w'.cell? ⟨w.heap.size + 1 + 1 + 1, 0, none⟩ = some (.int .i64 0) ∧ w'.cell? ⟨w.heap.size + 1 + 1 + 1, 1, none⟩ = some (.int .i64 0) ∧ w'.cell? ⟨w.heap.size + 1 + 1 + 1 + 1, 0, none⟩ = some (.int .i64 0) ∧ w'.cell? ⟨w.heap.size + 1 + 1 + 1 + 1, 1, none⟩ = some (.int .i64 0) ∧ w'.frozen? ⟨w.heap.size + 1, 0, none⟩ = false ∧ w'.frozen? ⟨w.heap.size + 1, 1, none⟩ = false ∧ w'.frozen? ⟨w.heap.size + 1 + 1, 0, none⟩ = false ∧ w'.frozen? ⟨w.heap.size + 1 + 1, 1, none⟩ = false ∧ w'.frozen? ⟨w.heap.size + 1 + 1 + 1, 0, none⟩ = false ∧ w'.frozen? ⟨w.heap.size + 1 + 1 + 1, 1, none⟩ = false) (exact ⟨by (repeat first | with_reducible exact Reg3.refl _ _ _ _ | with_reducible exact Reg3.drewN2 _ _ _ _ _ _ | with_reducible exact (‹Reg3 _ _ _ _ _ ∧ _›).1 | (with_reducible refine Reg3.setCell ?_ ?_ _; rotate_left; exact (by first | omega | ((try simp only [World.size_alloc, World.size_setCell, size_drew, size_drewN]); omega) | (simp; done) | (simp; omega))) | with_reducible refine Reg3.alloc ?_ _ | with_reducible refine Reg3.drew ?_ | with_reducible refine Reg3.drewN ?_ _ | (with_reducible apply Reg3.call; rotate_left; with_reducible assumption)), by go_simp, by go_simp, by go_simp, by go_simp, by go_simp, by go_simp, by go_simp, by go_simp, by go_simp, by go_simp, by go_simp, by go_simp, by go_simp, by go_simp⟩) (fail)
        all_goals go_wp2_with fail
        all_goals exact bodyPost_ret (resW Tryd.results36 _ _ _ _ _ (.int .i64 0) (.int .i64 0) (.int .i64 0) (.int .i64 0) (.int .i64 0) (.int .i64 0) (.int .i64 8) rfl rfl rfl rfl (by go_simp) (by go_simp) (by go_simp) (by go_simp) (by go_simp) (by go_simp)) rfl ⟨rfl, (Reg3.out (‹Reg3 _ _ _ _ _ ∧ _›).1 (by (repeat first | with_reducible exact Below.refl _ _ | with_reducible assumption | (with_reducible refine Below.setCell ?_ ?_ _; rotate_left; exact (by first | omega | (simp; done) | (simp; omega))) | (with_reducible refine Below.alloc ?_ ?_ _; rotate_left; exact (by first | omega | (simp; done) | (simp; omega))) | with_reducible refine Below.drew ?_ | with_reducible refine Below_drewN ?_ _)) (by first | omega | (simp; done) | (simp; omega)) (by first | omega | (simp; done) | (simp; omega)) (by first | omega | (simp; done) | (simp; omega)))⟩
      · have h0b : ((len : Int) == 0) = false := by rw [beq_eq_false_iff_ne]; omega
        have HE3 : Hid (∀ s : St, O = some s → G = (s, 0)) := Lib.hid (fun s hs => by rw [HE2.out, hs]; simp [HI.out.1, h0])
        clear h0 HE2 s10 s11 s20 s21 s30 s31 s40 s41 f10 f11 f20 f21 f30 f31 k0 k1 k2 k3 kk
        go_wp2_with fail
        go_loopw [13] (fun i wx => ∃ (j : Nat) (r1 r2 z1 z2 c1 c2 : Int), j ≤ len ∧ i = .int .i64 j ∧ (j = 0 ∨ (⟨r1, r2, z1, z2, c1, c2⟩ : St).ok = true) ∧ Hid (goW M (decide (j = 0)) ⟨r1, r2, z1, z2, c1, c2⟩ (zs.drop j) = O) ∧ wx.cell? ⟨ws.heap.size, 0, none⟩ = some (.int .i64 r1) ∧ wx.cell? ⟨ws.heap.size, 1, none⟩ = some (.int .i64 r2) ∧ wx.cell? ⟨ws.heap.size + 1, 0, none⟩ = some (.int .i64 z1) ∧ wx.cell? ⟨ws.heap.size + 1, 1, none⟩ = some (.int .i64 z2) ∧ wx.cell? ⟨ws.heap.size + 1 + 1, 0, none⟩ = some (.int .i64 c1) ∧ wx.cell? ⟨ws.heap.size + 1 + 1, 1, none⟩ = some (.int .i64 c2) ∧ wx.frozen? ⟨ws.heap.size, 0, none⟩ = false ∧ wx.frozen? ⟨ws.heap.size, 1, none⟩ = false ∧ wx.frozen? ⟨ws.heap.size + 1, 0, none⟩ = false ∧ wx.frozen? ⟨ws.heap.size + 1, 1, none⟩ = false ∧ wx.frozen? ⟨ws.heap.size + 1 + 1, 0, none⟩ = false ∧ wx.frozen? ⟨ws.heap.size + 1 + 1, 1, none⟩ = false ∧ ws.heap.size + 1 + 1 < wx.heap.size ∧ Below w1.heap.size w1 wx) (fun i _ => len - (intOf i).toNat)
        case atStart => exact ⟨0, 0, 0, 0, 0, 0, 0, Nat.zero_le _, rfl, Or.inl rfl, Lib.hid HO.out, by go_simp, by go_simp, by go_simp, by go_simp, by go_simp, by go_simp, by go_simp, by go_simp, by go_simp, by go_simp, by go_simp, by go_simp, by simp, by (repeat first | with_reducible exact Below.refl _ _ | with_reducible assumption | (with_reducible refine Below.setCell ?_ ?_ _; rotate_left; exact (by first | omega | (simp; done) | (simp; omega))) | (with_reducible refine Below.alloc ?_ ?_ _; rotate_left; exact (by first | omega | (simp; done) | (simp; omega))) | with_reducible refine Below.drew ?_ | with_reducible refine Below_drewN ?_ _)⟩
        case round =>
          obtain ⟨j, r1, r2, z1, z2, c1, c2, hj, rfl, hok, hG, p0, p1, p2, p3, p4, p5, q0, q1, q2, q3, q4, q5, kp, hBx⟩ := hrel
          have hBw := Below.trans hw1 (hBx.mono hw1.size)
          have hw1s := hw1.size
          have kz := K4s.out
          have k41 := K4.out
          have kp1 : ws.heap.size + 1 < wr.heap.size := by omega
          have kp0 : ws.heap.size < wr.heap.size := by omega
          by_cases hlt : j < len
          · obtain ⟨hzl, hcl⟩ := HI.out
            obtain ⟨b, o, rfl, hb0, hcl⟩ := hcl (by omega)
            obtain ⟨x, hx⟩ : ∃ x, zs[j]? = some x := ⟨_, List.getElem?_eq_getElem (by omega)⟩
            have x0 : wr.cell? ⟨b, o + j * 3, none⟩ = some (.int .i64 x.1) := (hBw.cell (p := ⟨b, o + j * 3, none⟩) hb0).trans (by have h := hcl j x hx 0 _ rfl; simpa using h)
            have x1 : wr.cell? ⟨b, o + j * 3 + 1, none⟩ = some (.int .i64 x.2.1) := (hBw.cell (p := ⟨b, o + j * 3 + 1, none⟩) hb0).trans (by have h := hcl j x hx 1 _ rfl; simpa using h)
            have x2 : wr.cell? ⟨b, o + j * 3 + 2, none⟩ = some (.int .i64 x.2.2) := (hBw.cell (p := ⟨b, o + j * 3 + 2, none⟩) hb0).trans (by have h := hcl j x hx 2 _ rfl; simpa using h)
            have okx := HA2.out j x hx
            have HS := Lib.hid (hG.out.symm.trans ((goW_drop hx).trans (if_pos okx)))
            have HC1 := Lib.hid (okC_of okx)
            have HK := Lib.hid (fun W (hb : Below w.heap.size w W) => HCELL.out x.1 W hb)
            unfold stepW at HS
            have he := HC1.out.e
            have hv := HC1.out.v
            have vX := HC1.out.r
            have vY := HC1.out.z
            clear hcl hx hzl hG okx HC1
            have jc : (0 : Int) ≤ j := by omega
            have jn : ((j : Int)).toNat = j := by omega
            generalize (cellL M x.1).1 = X at *
            generalize (cellL M x.1).2.1 = Y at *
            generalize (cellL M x.1).2.2 = e at *
            subst he
            obtain ⟨v, lo, hi⟩ := x
            dsimp only at x0 x1 x2 HS hv
            have m0 := (FM.out.below hBx).at 0 (.string name) rfl
            have m1 := (FM.out.below hBx).at 1 (.slice A la ca) rfl
            have m2 := (FM.out.below hBx).at 2 (.slice B lb cb) rfl
            have m3 := (FM.out.below hBx).at 3 (.slice C lc cc) rfl
            have m4 := (FM.out.below hBx).at 4 (.int .i64 r) rfl
            have m5 := (FM.out.below hBx).at 5 (.int .i64 z) rfl
            have m6 := (FM.out.below hBx).at 6 (.int .i64 nr) rfl
            have m7 := (FM.out.below hBx).at 7 (.int .i64 nz) rfl
            have m8 := (FM.out.below hBx).at 8 (.int .i64 step) rfl
            have m9 := (FM.out.below hBx).at 9 (.slice D ld cd) rfl
            have kq : w.heap.size < wr.heap.size := by omega
            go_wp2_with fail
            go_cut [14] (fun s14 wx => ∃ y : Nat, s14 = .pointer (some ⟨y, 0, none⟩) ∧ wx.cell? ⟨y, 0, none⟩ = some (.int .i64 X) ∧ wx.cell? ⟨y, 1, none⟩ = some (.int .i64 Y) ∧ y < wx.heap.size ∧ wr.heap.size ≤ y ∧ Below wr.heap.size wr wx)
            case first =>
              have HS : Hid (∀ w' : World, Reg (wr.heap.size) (wr) w' → (Reg (wr.heap.size) (wr) w' ∧ w'.cell? ⟨w.heap.size, 0, none⟩ = some (.string name) ∧ w'.cell? ⟨w.heap.size, 1, none⟩ = some (.slice A la ca) ∧ w'.cell? ⟨w.heap.size, 2, none⟩ = some (.slice B lb cb) ∧ w'.cell? ⟨w.heap.size, 3, none⟩ = some (.slice C lc cc) ∧ w'.cell? ⟨w.heap.size, 4, none⟩ = some (.int .i64 r) ∧ w'.cell? ⟨w.heap.size, 5, none⟩ = some (.int .i64 z) ∧ w'.cell? ⟨w.heap.size, 6, none⟩ = some (.int .i64 nr) ∧ w'.cell? ⟨w.heap.size, 7, none⟩ = some (.int .i64 nz) ∧ w'.cell? ⟨w.heap.size, 8, none⟩ = some (.int .i64 step) ∧ w'.cell? ⟨w.heap.size, 9, none⟩ = some (.slice D ld cd) ∧ w'.cell? ⟨b, o + j * 3, none⟩ = some (.int .i64 v))) := (fun w' h => by (have hc := h.cells; have hs := h.some; have hf := h.frozen; refine ⟨h, ?_⟩; (try simp only [World.size_alloc, World.size_setCell, size_drew, size_drewN] at hc hs hf); first | (simp (disch := omega) only [hc, hs, hf, cur_iff]; (try go_simp); done) | (simp (disch := first | omega | (simp; done)) only [hc, hs, hf, cur_iff]; (try go_simp); done) | (simp (maxDischargeDepth := 4) [hc, hs, hf, cur_iff, go_sem]; done) | (go_simp; done) | (simp (maxDischargeDepth := 4) [hc, hs, hf, cur_iff, go_sem]; go_simp))); go_region_held3 (fun w' => Reg (wr.heap.size) (wr) w' ∧ w'.cell? ⟨w.heap.size, 0, none⟩ = some (.string name) ∧ w'.cell? ⟨w.heap.size, 1, none⟩ = some (.slice A la ca) ∧ w'.cell? ⟨w.heap.size, 2, none⟩ = some (.slice B lb cb) ∧ w'.cell? ⟨w.heap.size, 3, none⟩ = some (.slice C lc cc) ∧ w'.cell? ⟨w.heap.size, 4, none⟩ = some (.int .i64 r) ∧ w'.cell? ⟨w.heap.size, 5, none⟩ = some (.int .i64 z) ∧ w'.cell? ⟨w.heap.size, 6, none⟩ = some (.int .i64 nr) ∧ w'.cell? ⟨w.heap.size, 7, none⟩ = some (.int .i64 nz) ∧ w'.cell? ⟨w.heap.size, 8, none⟩ = some (.int .i64 step) ∧ w'.cell? ⟨w.heap.size, 9, none⟩ = some (.slice D ld cd) ∧ w'.cell? ⟨b, o + j * 3, none⟩ = some (.int .i64 v)) (exact HS.out _ (by (repeat first | with_reducible exact Reg.refl _ _ | with_reducible exact Reg.drewN2 _ _ _ _ | with_reducible exact (‹Reg _ _ _ ∧ _›).1 | (with_reducible refine Reg.setCell ?_ ?_ _; rotate_left; exact (by first | omega | ((try simp only [World.size_alloc, World.size_setCell, size_drew, size_drewN]); omega) | (simp; done) | (simp; omega))) | with_reducible refine Reg.alloc ?_ _ | with_reducible refine Reg.drew ?_ | with_reducible refine Reg.drewN ?_ _ | (with_reducible apply Reg.call; rotate_left; with_reducible assumption)))) (first | (go_at_call 64; refine (HK.out _ (hBw.trans (Below.mono (Reg.out (‹Reg _ _ _ ∧ _›).1 (Below.refl _ _) (Nat.le_refl _)) hBw.size))).mono ?_; rintro e w9 ⟨rfl, hb⟩; (first | (with_reducible have hk := Nat.lt_of_lt_of_le (size_alloc_lt _ _) hb.size) | (with_reducible have hk := Nat.lt_of_lt_of_le (size_alloc_drew_lt _ _) hb.size) | (with_reducible have hk := Nat.lt_of_lt_of_le hk hb.size) | skip); (try simp only [World.size_alloc, World.size_setCell, size_drew, size_drewN] at hk); obtain ⟨hc, hf⟩ := bcell hb; have hs := hb.size; (try simp only [World.size_alloc, World.size_setCell, size_drew, size_drewN] at hs)))
              all_goals go_wp2_with fail
              all_goals go_meet
              all_goals exact ⟨_, rfl, by go_simp, by go_simp, (by first | omega | ((try simp only [World.size_alloc, World.size_setCell, size_drew, size_drewN]); omega) | (simp; done) | (simp; omega)), (by first | omega | ((try simp only [World.size_alloc, World.size_setCell, size_drew, size_drewN]); omega) | (simp; done) | (simp; omega)), Reg.out (x := wr.heap.size) (by (repeat first | with_reducible exact Reg.refl _ _ | with_reducible exact Reg.drewN2 _ _ _ _ | with_reducible exact (‹Reg _ _ _ ∧ _›).1 | (with_reducible refine Reg.setCell ?_ ?_ _; rotate_left; exact (by first | omega | ((try simp only [World.size_alloc, World.size_setCell, size_drew, size_drewN]); omega) | (simp; done) | (simp; omega))) | with_reducible refine Reg.alloc ?_ _ | with_reducible refine Reg.drew ?_ | with_reducible refine Reg.drewN ?_ _ | (with_reducible apply Reg.call; rotate_left; with_reducible assumption))) (Below.refl _ _) (Nat.le_refl _)⟩
            case rest =>
              obtain ⟨y, rfl, u0, u1, hy, ly, hb⟩ := hcut
              obtain ⟨wa, hwa⟩ : ∃ x, x = wc := ⟨_, rfl⟩
              subst hwa
              have kb : b < wr.heap.size := Nat.lt_of_lt_of_le hb0 hBw.size
              have p0A : wa.cell? ⟨ws.heap.size, 0, none⟩ = some (.int .i64 r1) := by rw [hb.cell (p := ⟨ws.heap.size, 0, none⟩) (by first | omega | ((try simp only [World.size_alloc, World.size_setCell, size_drew, size_drewN]); omega) | (simp; done) | (simp; omega))]; first | assumption | go_simp
              have p1A : wa.cell? ⟨ws.heap.size, 1, none⟩ = some (.int .i64 r2) := by rw [hb.cell (p := ⟨ws.heap.size, 1, none⟩) (by first | omega | ((try simp only [World.size_alloc, World.size_setCell, size_drew, size_drewN]); omega) | (simp; done) | (simp; omega))]; first | assumption | go_simp
              have p2A : wa.cell? ⟨ws.heap.size + 1, 0, none⟩ = some (.int .i64 z1) := by rw [hb.cell (p := ⟨ws.heap.size + 1, 0, none⟩) (by first | omega | ((try simp only [World.size_alloc, World.size_setCell, size_drew, size_drewN]); omega) | (simp; done) | (simp; omega))]; first | assumption | go_simp
              have p3A : wa.cell? ⟨ws.heap.size + 1, 1, none⟩ = some (.int .i64 z2) := by rw [hb.cell (p := ⟨ws.heap.size + 1, 1, none⟩) (by first | omega | ((try simp only [World.size_alloc, World.size_setCell, size_drew, size_drewN]); omega) | (simp; done) | (simp; omega))]; first | assumption | go_simp
              have p4A : wa.cell? ⟨ws.heap.size + 1 + 1, 0, none⟩ = some (.int .i64 c1) := by rw [hb.cell (p := ⟨ws.heap.size + 1 + 1, 0, none⟩) (by first | omega | ((try simp only [World.size_alloc, World.size_setCell, size_drew, size_drewN]); omega) | (simp; done) | (simp; omega))]; first | assumption | go_simp
              have p5A : wa.cell? ⟨ws.heap.size + 1 + 1, 1, none⟩ = some (.int .i64 c2) := by rw [hb.cell (p := ⟨ws.heap.size + 1 + 1, 1, none⟩) (by first | omega | ((try simp only [World.size_alloc, World.size_setCell, size_drew, size_drewN]); omega) | (simp; done) | (simp; omega))]; first | assumption | go_simp
              have q0A : wa.frozen? ⟨ws.heap.size, 0, none⟩ = false := by rw [hb.frozen (p := ⟨ws.heap.size, 0, none⟩) (by first | omega | ((try simp only [World.size_alloc, World.size_setCell, size_drew, size_drewN]); omega) | (simp; done) | (simp; omega))]; first | assumption | go_simp
              have q1A : wa.frozen? ⟨ws.heap.size, 1, none⟩ = false := by rw [hb.frozen (p := ⟨ws.heap.size, 1, none⟩) (by first | omega | ((try simp only [World.size_alloc, World.size_setCell, size_drew, size_drewN]); omega) | (simp; done) | (simp; omega))]; first | assumption | go_simp
              have q2A : wa.frozen? ⟨ws.heap.size + 1, 0, none⟩ = false := by rw [hb.frozen (p := ⟨ws.heap.size + 1, 0, none⟩) (by first | omega | ((try simp only [World.size_alloc, World.size_setCell, size_drew, size_drewN]); omega) | (simp; done) | (simp; omega))]; first | assumption | go_simp
              have q3A : wa.frozen? ⟨ws.heap.size + 1, 1, none⟩ = false := by rw [hb.frozen (p := ⟨ws.heap.size + 1, 1, none⟩) (by first | omega | ((try simp only [World.size_alloc, World.size_setCell, size_drew, size_drewN]); omega) | (simp; done) | (simp; omega))]; first | assumption | go_simp
              have q4A : wa.frozen? ⟨ws.heap.size + 1 + 1, 0, none⟩ = false := by rw [hb.frozen (p := ⟨ws.heap.size + 1 + 1, 0, none⟩) (by first | omega | ((try simp only [World.size_alloc, World.size_setCell, size_drew, size_drewN]); omega) | (simp; done) | (simp; omega))]; first | assumption | go_simp
              have q5A : wa.frozen? ⟨ws.heap.size + 1 + 1, 1, none⟩ = false := by rw [hb.frozen (p := ⟨ws.heap.size + 1 + 1, 1, none⟩) (by first | omega | ((try simp only [World.size_alloc, World.size_setCell, size_drew, size_drewN]); omega) | (simp; done) | (simp; omega))]; first | assumption | go_simp
              have x1A : wa.cell? ⟨b, o + j * 3 + 1, none⟩ = some (.int .i64 lo) := by rw [hb.cell (p := ⟨b, o + j * 3 + 1, none⟩) (by first | omega | ((try simp only [World.size_alloc, World.size_setCell, size_drew, size_drewN]); omega) | (simp; done) | (simp; omega))]; first | assumption | go_simp
              have x2A : wa.cell? ⟨b, o + j * 3 + 2, none⟩ = some (.int .i64 hi) := by rw [hb.cell (p := ⟨b, o + j * 3 + 2, none⟩) (by first | omega | ((try simp only [World.size_alloc, World.size_setCell, size_drew, size_drewN]); omega) | (simp; done) | (simp; omega))]; first | assumption | go_simp
              have kp0A : ws.heap.size < wa.heap.size := Nat.lt_of_lt_of_le (by first | omega | ((try simp only [World.size_alloc, World.size_setCell, size_drew, size_drewN]); omega) | (simp; done) | (simp; omega)) hb.size
              have kp1A : ws.heap.size + 1 < wa.heap.size := Nat.lt_of_lt_of_le (by first | omega | ((try simp only [World.size_alloc, World.size_setCell, size_drew, size_drewN]); omega) | (simp; done) | (simp; omega)) hb.size
              have kpA : ws.heap.size + 1 + 1 < wa.heap.size := Nat.lt_of_lt_of_le (by first | omega | ((try simp only [World.size_alloc, World.size_setCell, size_drew, size_drewN]); omega) | (simp; done) | (simp; omega)) hb.size
              have kbA : b < wa.heap.size := Nat.lt_of_lt_of_le (by first | omega | ((try simp only [World.size_alloc, World.size_setCell, size_drew, size_drewN]); omega) | (simp; done) | (simp; omega)) hb.size
              have hBa := hBx.trans (hb.mono hBx.size)
              clear hb m0 m1 m2 m3 m4 m5 m6 m7 m8 m9 x0
              clear p0 p1 p2 p3 p4 p5 q0 q1 q2 q3 q4 q5 x1 x2 kp0 kp1 kp kb HK
              go_wp2_with fail
              go_cut [16, 17] (fun s16 s17 wx => ∃ y16 y17 : Nat, s16 = .pointer (some ⟨y16, 0, none⟩) ∧ s17 = .pointer (some ⟨y17, 0, none⟩) ∧ wx.cell? ⟨y16, 0, none⟩ = some (.int .i64 X) ∧ wx.cell? ⟨y16, 1, none⟩ = some (.int .i64 X) ∧ wx.cell? ⟨y17, 0, none⟩ = some (.int .i64 Y) ∧ wx.cell? ⟨y17, 1, none⟩ = some (.int .i64 Y) ∧ y16 < wx.heap.size ∧ y17 < wx.heap.size ∧ wa.heap.size ≤ y16 ∧ wa.heap.size ≤ y17 ∧ Below wa.heap.size wa wx)
              case first =>
                have HS : Hid (∀ w' : World, Reg (wa.heap.size) (wa) w' → (Reg (wa.heap.size) (wa) w' ∧ w'.cell? ⟨y, 0, none⟩ = some (.int .i64 X) ∧ w'.cell? ⟨y, 1, none⟩ = some (.int .i64 Y))) := (fun w' h => by (have hc := h.cells; have hs := h.some; have hf := h.frozen; refine ⟨h, ?_⟩; (try simp only [World.size_alloc, World.size_setCell, size_drew, size_drewN] at hc hs hf); first | (simp (disch := omega) only [hc, hs, hf, cur_iff]; (try go_simp); done) | (simp (disch := first | omega | (simp; done)) only [hc, hs, hf, cur_iff]; (try go_simp); done) | (simp (maxDischargeDepth := 4) [hc, hs, hf, cur_iff, go_sem]; done) | (go_simp; done) | (simp (maxDischargeDepth := 4) [hc, hs, hf, cur_iff, go_sem]; go_simp))); go_region_held3 (fun w' => Reg (wa.heap.size) (wa) w' ∧ w'.cell? ⟨y, 0, none⟩ = some (.int .i64 X) ∧ w'.cell? ⟨y, 1, none⟩ = some (.int .i64 Y)) (exact HS.out _ (by (repeat first | with_reducible exact Reg.refl _ _ | with_reducible exact Reg.drewN2 _ _ _ _ | with_reducible exact (‹Reg _ _ _ ∧ _›).1 | (with_reducible refine Reg.setCell ?_ ?_ _; rotate_left; exact (by first | omega | ((try simp only [World.size_alloc, World.size_setCell, size_drew, size_drewN]); omega) | (simp; done) | (simp; omega))) | with_reducible refine Reg.alloc ?_ _ | with_reducible refine Reg.drew ?_ | with_reducible refine Reg.drewN ?_ _ | (with_reducible apply Reg.call; rotate_left; with_reducible assumption)))) (first | fail)
                all_goals go_wp2_with fail
                all_goals go_meet
                all_goals exact ⟨_, _, rfl, rfl, by go_simp, by go_simp, by go_simp, by go_simp, (by first | omega | ((try simp only [World.size_alloc, World.size_setCell, size_drew, size_drewN]); omega) | (simp; done) | (simp; omega)), (by first | omega | ((try simp only [World.size_alloc, World.size_setCell, size_drew, size_drewN]); omega) | (simp; done) | (simp; omega)), (by first | omega | ((try simp only [World.size_alloc, World.size_setCell, size_drew, size_drewN]); omega) | (simp; done) | (simp; omega)), (by first | omega | ((try simp only [World.size_alloc, World.size_setCell, size_drew, size_drewN]); omega) | (simp; done) | (simp; omega)), by (repeat first | with_reducible exact Below.refl _ _ | with_reducible assumption | (with_reducible refine Below.setCell ?_ ?_ _; rotate_left; exact (by first | omega | (simp; done) | (simp; omega))) | (with_reducible refine Below.alloc ?_ ?_ _; rotate_left; exact (by first | omega | (simp; done) | (simp; omega))) | with_reducible refine Below.drew ?_ | with_reducible refine Below_drewN ?_ _)⟩
              case rest =>
                obtain ⟨y16, y17, rfl, rfl, a0, a1, b0, b1, h16, h17, l16, l17, hb⟩ := hcut
                have p0B : wc.cell? ⟨ws.heap.size, 0, none⟩ = some (.int .i64 r1) := by rw [hb.cell (p := ⟨ws.heap.size, 0, none⟩) (by first | omega | ((try simp only [World.size_alloc, World.size_setCell, size_drew, size_drewN]); omega) | (simp; done) | (simp; omega))]; first | assumption | go_simp
                have p1B : wc.cell? ⟨ws.heap.size, 1, none⟩ = some (.int .i64 r2) := by rw [hb.cell (p := ⟨ws.heap.size, 1, none⟩) (by first | omega | ((try simp only [World.size_alloc, World.size_setCell, size_drew, size_drewN]); omega) | (simp; done) | (simp; omega))]; first | assumption | go_simp
                have p2B : wc.cell? ⟨ws.heap.size + 1, 0, none⟩ = some (.int .i64 z1) := by rw [hb.cell (p := ⟨ws.heap.size + 1, 0, none⟩) (by first | omega | ((try simp only [World.size_alloc, World.size_setCell, size_drew, size_drewN]); omega) | (simp; done) | (simp; omega))]; first | assumption | go_simp
                have p3B : wc.cell? ⟨ws.heap.size + 1, 1, none⟩ = some (.int .i64 z2) := by rw [hb.cell (p := ⟨ws.heap.size + 1, 1, none⟩) (by first | omega | ((try simp only [World.size_alloc, World.size_setCell, size_drew, size_drewN]); omega) | (simp; done) | (simp; omega))]; first | assumption | go_simp
                have p4B : wc.cell? ⟨ws.heap.size + 1 + 1, 0, none⟩ = some (.int .i64 c1) := by rw [hb.cell (p := ⟨ws.heap.size + 1 + 1, 0, none⟩) (by first | omega | ((try simp only [World.size_alloc, World.size_setCell, size_drew, size_drewN]); omega) | (simp; done) | (simp; omega))]; first | assumption | go_simp
                have p5B : wc.cell? ⟨ws.heap.size + 1 + 1, 1, none⟩ = some (.int .i64 c2) := by rw [hb.cell (p := ⟨ws.heap.size + 1 + 1, 1, none⟩) (by first | omega | ((try simp only [World.size_alloc, World.size_setCell, size_drew, size_drewN]); omega) | (simp; done) | (simp; omega))]; first | assumption | go_simp
                have q0B : wc.frozen? ⟨ws.heap.size, 0, none⟩ = false := by rw [hb.frozen (p := ⟨ws.heap.size, 0, none⟩) (by first | omega | ((try simp only [World.size_alloc, World.size_setCell, size_drew, size_drewN]); omega) | (simp; done) | (simp; omega))]; first | assumption | go_simp
                have q1B : wc.frozen? ⟨ws.heap.size, 1, none⟩ = false := by rw [hb.frozen (p := ⟨ws.heap.size, 1, none⟩) (by first | omega | ((try simp only [World.size_alloc, World.size_setCell, size_drew, size_drewN]); omega) | (simp; done) | (simp; omega))]; first | assumption | go_simp
                have q2B : wc.frozen? ⟨ws.heap.size + 1, 0, none⟩ = false := by rw [hb.frozen (p := ⟨ws.heap.size + 1, 0, none⟩) (by first | omega | ((try simp only [World.size_alloc, World.size_setCell, size_drew, size_drewN]); omega) | (simp; done) | (simp; omega))]; first | assumption | go_simp
                have q3B : wc.frozen? ⟨ws.heap.size + 1, 1, none⟩ = false := by rw [hb.frozen (p := ⟨ws.heap.size + 1, 1, none⟩) (by first | omega | ((try simp only [World.size_alloc, World.size_setCell, size_drew, size_drewN]); omega) | (simp; done) | (simp; omega))]; first | assumption | go_simp
                have q4B : wc.frozen? ⟨ws.heap.size + 1 + 1, 0, none⟩ = false := by rw [hb.frozen (p := ⟨ws.heap.size + 1 + 1, 0, none⟩) (by first | omega | ((try simp only [World.size_alloc, World.size_setCell, size_drew, size_drewN]); omega) | (simp; done) | (simp; omega))]; first | assumption | go_simp
                have q5B : wc.frozen? ⟨ws.heap.size + 1 + 1, 1, none⟩ = false := by rw [hb.frozen (p := ⟨ws.heap.size + 1 + 1, 1, none⟩) (by first | omega | ((try simp only [World.size_alloc, World.size_setCell, size_drew, size_drewN]); omega) | (simp; done) | (simp; omega))]; first | assumption | go_simp
                have x1B : wc.cell? ⟨b, o + j * 3 + 1, none⟩ = some (.int .i64 lo) := by rw [hb.cell (p := ⟨b, o + j * 3 + 1, none⟩) (by first | omega | ((try simp only [World.size_alloc, World.size_setCell, size_drew, size_drewN]); omega) | (simp; done) | (simp; omega))]; first | assumption | go_simp
                have x2B : wc.cell? ⟨b, o + j * 3 + 2, none⟩ = some (.int .i64 hi) := by rw [hb.cell (p := ⟨b, o + j * 3 + 2, none⟩) (by first | omega | ((try simp only [World.size_alloc, World.size_setCell, size_drew, size_drewN]); omega) | (simp; done) | (simp; omega))]; first | assumption | go_simp
                have kp0B : ws.heap.size < wc.heap.size := Nat.lt_of_lt_of_le (by first | omega | ((try simp only [World.size_alloc, World.size_setCell, size_drew, size_drewN]); omega) | (simp; done) | (simp; omega)) hb.size
                have kp1B : ws.heap.size + 1 < wc.heap.size := Nat.lt_of_lt_of_le (by first | omega | ((try simp only [World.size_alloc, World.size_setCell, size_drew, size_drewN]); omega) | (simp; done) | (simp; omega)) hb.size
                have kpB : ws.heap.size + 1 + 1 < wc.heap.size := Nat.lt_of_lt_of_le (by first | omega | ((try simp only [World.size_alloc, World.size_setCell, size_drew, size_drewN]); omega) | (simp; done) | (simp; omega)) hb.size
                have kbB : b < wc.heap.size := Nat.lt_of_lt_of_le (by first | omega | ((try simp only [World.size_alloc, World.size_setCell, size_drew, size_drewN]); omega) | (simp; done) | (simp; omega)) hb.size
                have hBb := hBa.trans (hb.mono hBa.size)
                have g16 : ws.heap.size + 1 + 1 < y16 := Nat.lt_of_lt_of_le kpA l16
                have g17 : ws.heap.size + 1 + 1 < y17 := Nat.lt_of_lt_of_le kpA l17
                have g160 : ws.heap.size < y16 := by omega
                have g161 : ws.heap.size + 1 < y16 := by omega
                have g170 : ws.heap.size < y17 := by omega
                have g171 : ws.heap.size + 1 < y17 := by omega
                have gb : b < ws.heap.size := by omega
                clear hb u0 u1 hy ly l16 l17
                clear p0A p1A p2A p3A p4A p5A q0A q1A q2A q3A q4A q5A x1A x2A kp0A kp1A kpA kbA 
                by_cases hj0 : j = 0
                · have HS2 : Hid (O = goW M false (St.init X Y lo hi) (zs.drop (j + 1))) := Lib.hid (HS.out.trans (by rw [decide_eq_true hj0, if_pos rfl]))
                  have hj0b : ((j : Int) == 0) = true := by rw [beq_iff_eq]; omega
                  have HQ := Lib.hid (St.init_ok vX vY hv)
                  clear hj0 hok HS
                  unfold St.init at HS2 HQ
                  go_wp2_with fail
                  have HS : Hid (∀ w' : World, Reg3 (ws.heap.size) (ws.heap.size + 1) (ws.heap.size + 1 + 1) (wc) w' → (Reg3 (ws.heap.size) (ws.heap.size + 1) (ws.heap.size + 1 + 1) (wc) w' ∧ w'.cell? ⟨y16, 0, none⟩ = some (.int .i64 X) ∧ w'.cell? ⟨y16, 1, none⟩ = some (.int .i64 X) ∧ w'.cell? ⟨y17, 0, none⟩ = some (.int .i64 Y) ∧ w'.cell? ⟨y17, 1, none⟩ = some (.int .i64 Y) ∧ w'.cell? ⟨b, o + j * 3 + 1, none⟩ = some (.int .i64 lo) ∧ w'.cell? ⟨b, o + j * 3 + 2, none⟩ = some (.int .i64 hi) ∧ w'.cell? ⟨ws.heap.size, 0, none⟩ = some (cur w' ⟨ws.heap.size, 0, none⟩) ∧ w'.frozen? ⟨ws.heap.size, 0, none⟩ = false ∧ w'.cell? ⟨ws.heap.size, 1, none⟩ = some (cur w' ⟨ws.heap.size, 1, none⟩) ∧ w'.frozen? ⟨ws.heap.size, 1, none⟩ = false ∧ w'.cell? ⟨ws.heap.size + 1, 0, none⟩ = some (cur w' ⟨ws.heap.size + 1, 0, none⟩) ∧ w'.frozen? ⟨ws.heap.size + 1, 0, none⟩ = false ∧ w'.cell? ⟨ws.heap.size + 1, 1, none⟩ = some (cur w' ⟨ws.heap.size + 1, 1, none⟩) ∧ w'.frozen? ⟨ws.heap.size + 1, 1, none⟩ = false ∧ w'.cell? ⟨ws.heap.size + 1 + 1, 0, none⟩ = some (cur w' ⟨ws.heap.size + 1 + 1, 0, none⟩) ∧ w'.frozen? ⟨ws.heap.size + 1 + 1, 0, none⟩ = false ∧ w'.cell? ⟨ws.heap.size + 1 + 1, 1, none⟩ = some (cur w' ⟨ws.heap.size + 1 + 1, 1, none⟩) ∧ w'.frozen? ⟨ws.heap.size + 1 + 1, 1, none⟩ = false)) := (fun w' h => by (have hc := h.cells; have hs := h.some; have hf := h.frozen; refine ⟨h, ?_⟩; (try simp only [World.size_alloc, World.size_setCell, size_drew, size_drewN] at hc hs hf); first | (simp (disch := omega) only [hc, hs, hf, cur_iff]; (try go_simp); done) | (simp (disch := first | omega | (simp; done)) only [hc, hs, hf, cur_iff]; (try go_simp); done) | (simp (maxDischargeDepth := 4) [hc, hs, hf, cur_iff, go_sem]; done) | (go_simp; done) | (simp (maxDischargeDepth := 4) [hc, hs, hf, cur_iff, go_sem]; go_simp))); go_region_held3 (fun w' => Reg3 (ws.heap.size) (ws.heap.size + 1) (ws.heap.size + 1 + 1) (wc) w' ∧ w'.cell? ⟨y16, 0, none⟩ = some (.int .i64 X) ∧ w'.cell? ⟨y16, 1, none⟩ = some (.int .i64 X) ∧ w'.cell? ⟨y17, 0, none⟩ = some (.int .i64 Y) ∧ w'.cell? ⟨y17, 1, none⟩ = some (.int .i64 Y) ∧ w'.cell? ⟨b, o + j * 3 + 1, none⟩ = some (.int .i64 lo) ∧ w'.cell? ⟨b, o + j * 3 + 2, none⟩ = some (.int .i64 hi) ∧ w'.cell? ⟨ws.heap.size, 0, none⟩ = some (cur w' ⟨ws.heap.size, 0, none⟩) ∧ w'.frozen? ⟨ws.heap.size, 0, none⟩ = false ∧ w'.cell? ⟨ws.heap.size, 1, none⟩ = some (cur w' ⟨ws.heap.size, 1, none⟩) ∧ w'.frozen? ⟨ws.heap.size, 1, none⟩ = false ∧ w'.cell? ⟨ws.heap.size + 1, 0, none⟩ = some (cur w' ⟨ws.heap.size + 1, 0, none⟩) ∧ w'.frozen? ⟨ws.heap.size + 1, 0, none⟩ = false ∧ w'.cell? ⟨ws.heap.size + 1, 1, none⟩ = some (cur w' ⟨ws.heap.size + 1, 1, none⟩) ∧ w'.frozen? ⟨ws.heap.size + 1, 1, none⟩ = false ∧ w'.cell? ⟨ws.heap.size + 1 + 1, 0, none⟩ = some (cur w' ⟨ws.heap.size + 1 + 1, 0, none⟩) ∧ w'.frozen? ⟨ws.heap.size + 1 + 1, 0, none⟩ = false ∧ w'.cell? ⟨ws.heap.size + 1 + 1, 1, none⟩ = some (cur w' ⟨ws.heap.size + 1 + 1, 1, none⟩) ∧ w'.frozen? ⟨ws.heap.size + 1 + 1, 1, none⟩ = false) (exact HS.out _ (by (repeat first | with_reducible exact Reg3.refl _ _ _ _ | with_reducible exact Reg3.drewN2 _ _ _ _ _ _ | with_reducible exact (‹Reg3 _ _ _ _ _ ∧ _›).1 | (with_reducible refine Reg3.setCell ?_ ?_ _; rotate_left; exact (by first | omega | ((try simp only [World.size_alloc, World.size_setCell, size_drew, size_drewN]); omega) | (simp; done) | (simp; omega))) | with_reducible refine Reg3.alloc ?_ _ | with_reducible refine Reg3.drew ?_ | with_reducible refine Reg3.drewN ?_ _ | (with_reducible apply Reg3.call; rotate_left; with_reducible assumption)))) (first | fail)
                  all_goals (rename_i hH; clear hH)
                  all_goals go_wp2_with fail
                  all_goals go_roundw
                  case rel => exact ⟨j + 1, X, X, Y, Y, lo, hi, by omega, by go_num, Or.inr HQ.out, Lib.hid (by rw [decide_eq_false (by omega)]; exact HS2.out.symm), by go_simp, by go_simp, by go_simp, by go_simp, by go_simp, by go_simp, by go_simp, by go_simp, by go_simp, by go_simp, by go_simp, by go_simp, (by first | omega | ((try simp only [World.size_alloc, World.size_setCell, size_drew, size_drewN]); omega) | (simp; done) | (simp; omega)), (by first | (((repeat first | with_reducible exact Below.refl _ _ | with_reducible assumption | (with_reducible refine Below.setCell ?_ ?_ _; rotate_left; exact (by first | omega | (simp; done) | (simp; omega))) | (with_reducible refine Below.alloc ?_ ?_ _; rotate_left; exact (by first | omega | (simp; done) | (simp; omega))) | with_reducible refine Below.drew ?_ | with_reducible refine Below_drewN ?_ _)); done) | exact (Reg3.out (‹Reg3 _ _ _ _ _ ∧ _›).1 (by (repeat first | with_reducible exact Below.refl _ _ | with_reducible assumption | (with_reducible refine Below.setCell ?_ ?_ _; rotate_left; exact (by first | omega | (simp; done) | (simp; omega))) | (with_reducible refine Below.alloc ?_ ?_ _; rotate_left; exact (by first | omega | (simp; done) | (simp; omega))) | with_reducible refine Below.drew ?_ | with_reducible refine Below_drewN ?_ _)) (by first | omega | (simp; done) | (simp; omega)) (by first | omega | (simp; done) | (simp; omega)) (by first | omega | (simp; done) | (simp; omega))))⟩
                  case measure => simp [intOf]; omega
                · have HS2 : Hid (O = goW M false ((⟨r1, r2, z1, z2, c1, c2⟩ : St).hull X Y lo hi) (zs.drop (j + 1))) := Lib.hid (HS.out.trans (by rw [decide_eq_false hj0]; rfl))
                  have hok := hok.resolve_left hj0
                  have hj0b : ((j : Int) == 0) = false := by rw [beq_eq_false_iff_ne]; omega
                  have HU1 := Lib.hid (fun W => rhull_any r1 r2 X X W)
                  have HU2 := Lib.hid (fun W => rhull_any z1 z2 Y Y W)
                  have HU3 := Lib.hid (fun W => rhull_any c1 c2 lo hi W)
                  have ht := hok
                  simp only [St.ok, Bool.and_eq_true] at ht
                  rw [hullL_ok ht.1 vX] at HU1
                  rw [hullL_ok ht.2.1 vY] at HU2
                  rw [hullL_ok ht.2.2 hv] at HU3
                  have HQ := Lib.hid (St.hull_ok hok vX vY hv)
                  clear ht hok hj0 HS
                  unfold St.hull at HS2 HQ
                  dsimp only at HS2 HQ HU1 HU2 HU3
                  generalize min r1 X = u1 at *
                  generalize max r2 X = u2 at *
                  generalize min z1 Y = u3 at *
                  generalize max z2 Y = u4 at *
                  generalize min c1 lo = u5 at *
                  generalize max c2 hi = u6 at *
                  go_wp2_with fail
                  refine (HU1.out _).mono ?_
                  rintro _ w4 ⟨rfl, hb⟩
                  have p0C : w4.cell? ⟨ws.heap.size, 0, none⟩ = some (.int .i64 r1) := by rw [hb.cell (p := ⟨ws.heap.size, 0, none⟩) (by first | omega | ((try simp only [World.size_alloc, World.size_setCell, size_drew, size_drewN]); omega) | (simp; done) | (simp; omega))]; first | assumption | go_simp
                  have p1C : w4.cell? ⟨ws.heap.size, 1, none⟩ = some (.int .i64 r2) := by rw [hb.cell (p := ⟨ws.heap.size, 1, none⟩) (by first | omega | ((try simp only [World.size_alloc, World.size_setCell, size_drew, size_drewN]); omega) | (simp; done) | (simp; omega))]; first | assumption | go_simp
                  have p2C : w4.cell? ⟨ws.heap.size + 1, 0, none⟩ = some (.int .i64 z1) := by rw [hb.cell (p := ⟨ws.heap.size + 1, 0, none⟩) (by first | omega | ((try simp only [World.size_alloc, World.size_setCell, size_drew, size_drewN]); omega) | (simp; done) | (simp; omega))]; first | assumption | go_simp
                  have p3C : w4.cell? ⟨ws.heap.size + 1, 1, none⟩ = some (.int .i64 z2) := by rw [hb.cell (p := ⟨ws.heap.size + 1, 1, none⟩) (by first | omega | ((try simp only [World.size_alloc, World.size_setCell, size_drew, size_drewN]); omega) | (simp; done) | (simp; omega))]; first | assumption | go_simp
                  have p4C : w4.cell? ⟨ws.heap.size + 1 + 1, 0, none⟩ = some (.int .i64 c1) := by rw [hb.cell (p := ⟨ws.heap.size + 1 + 1, 0, none⟩) (by first | omega | ((try simp only [World.size_alloc, World.size_setCell, size_drew, size_drewN]); omega) | (simp; done) | (simp; omega))]; first | assumption | go_simp
                  have p5C : w4.cell? ⟨ws.heap.size + 1 + 1, 1, none⟩ = some (.int .i64 c2) := by rw [hb.cell (p := ⟨ws.heap.size + 1 + 1, 1, none⟩) (by first | omega | ((try simp only [World.size_alloc, World.size_setCell, size_drew, size_drewN]); omega) | (simp; done) | (simp; omega))]; first | assumption | go_simp
                  have q0C : w4.frozen? ⟨ws.heap.size, 0, none⟩ = false := by rw [hb.frozen (p := ⟨ws.heap.size, 0, none⟩) (by first | omega | ((try simp only [World.size_alloc, World.size_setCell, size_drew, size_drewN]); omega) | (simp; done) | (simp; omega))]; first | assumption | go_simp
                  have q1C : w4.frozen? ⟨ws.heap.size, 1, none⟩ = false := by rw [hb.frozen (p := ⟨ws.heap.size, 1, none⟩) (by first | omega | ((try simp only [World.size_alloc, World.size_setCell, size_drew, size_drewN]); omega) | (simp; done) | (simp; omega))]; first | assumption | go_simp
                  have q2C : w4.frozen? ⟨ws.heap.size + 1, 0, none⟩ = false := by rw [hb.frozen (p := ⟨ws.heap.size + 1, 0, none⟩) (by first | omega | ((try simp only [World.size_alloc, World.size_setCell, size_drew, size_drewN]); omega) | (simp; done) | (simp; omega))]; first | assumption | go_simp
                  have q3C : w4.frozen? ⟨ws.heap.size + 1, 1, none⟩ = false := by rw [hb.frozen (p := ⟨ws.heap.size + 1, 1, none⟩) (by first | omega | ((try simp only [World.size_alloc, World.size_setCell, size_drew, size_drewN]); omega) | (simp; done) | (simp; omega))]; first | assumption | go_simp
                  have q4C : w4.frozen? ⟨ws.heap.size + 1 + 1, 0, none⟩ = false := by rw [hb.frozen (p := ⟨ws.heap.size + 1 + 1, 0, none⟩) (by first | omega | ((try simp only [World.size_alloc, World.size_setCell, size_drew, size_drewN]); omega) | (simp; done) | (simp; omega))]; first | assumption | go_simp
                  have q5C : w4.frozen? ⟨ws.heap.size + 1 + 1, 1, none⟩ = false := by rw [hb.frozen (p := ⟨ws.heap.size + 1 + 1, 1, none⟩) (by first | omega | ((try simp only [World.size_alloc, World.size_setCell, size_drew, size_drewN]); omega) | (simp; done) | (simp; omega))]; first | assumption | go_simp
                  have x1C : w4.cell? ⟨b, o + j * 3 + 1, none⟩ = some (.int .i64 lo) := by rw [hb.cell (p := ⟨b, o + j * 3 + 1, none⟩) (by first | omega | ((try simp only [World.size_alloc, World.size_setCell, size_drew, size_drewN]); omega) | (simp; done) | (simp; omega))]; first | assumption | go_simp
                  have x2C : w4.cell? ⟨b, o + j * 3 + 2, none⟩ = some (.int .i64 hi) := by rw [hb.cell (p := ⟨b, o + j * 3 + 2, none⟩) (by first | omega | ((try simp only [World.size_alloc, World.size_setCell, size_drew, size_drewN]); omega) | (simp; done) | (simp; omega))]; first | assumption | go_simp
                  have a0C : w4.cell? ⟨y16, 0, none⟩ = some (.int .i64 X) := by rw [hb.cell (p := ⟨y16, 0, none⟩) (by first | omega | ((try simp only [World.size_alloc, World.size_setCell, size_drew, size_drewN]); omega) | (simp; done) | (simp; omega))]; first | assumption | go_simp
                  have a1C : w4.cell? ⟨y16, 1, none⟩ = some (.int .i64 X) := by rw [hb.cell (p := ⟨y16, 1, none⟩) (by first | omega | ((try simp only [World.size_alloc, World.size_setCell, size_drew, size_drewN]); omega) | (simp; done) | (simp; omega))]; first | assumption | go_simp
                  have b0C : w4.cell? ⟨y17, 0, none⟩ = some (.int .i64 Y) := by rw [hb.cell (p := ⟨y17, 0, none⟩) (by first | omega | ((try simp only [World.size_alloc, World.size_setCell, size_drew, size_drewN]); omega) | (simp; done) | (simp; omega))]; first | assumption | go_simp
                  have b1C : w4.cell? ⟨y17, 1, none⟩ = some (.int .i64 Y) := by rw [hb.cell (p := ⟨y17, 1, none⟩) (by first | omega | ((try simp only [World.size_alloc, World.size_setCell, size_drew, size_drewN]); omega) | (simp; done) | (simp; omega))]; first | assumption | go_simp
                  have kp0C : ws.heap.size < w4.heap.size := Nat.lt_of_lt_of_le (by first | omega | ((try simp only [World.size_alloc, World.size_setCell, size_drew, size_drewN]); omega) | (simp; done) | (simp; omega)) hb.size
                  have kp1C : ws.heap.size + 1 < w4.heap.size := Nat.lt_of_lt_of_le (by first | omega | ((try simp only [World.size_alloc, World.size_setCell, size_drew, size_drewN]); omega) | (simp; done) | (simp; omega)) hb.size
                  have kpC : ws.heap.size + 1 + 1 < w4.heap.size := Nat.lt_of_lt_of_le (by first | omega | ((try simp only [World.size_alloc, World.size_setCell, size_drew, size_drewN]); omega) | (simp; done) | (simp; omega)) hb.size
                  have kbC : b < w4.heap.size := Nat.lt_of_lt_of_le (by first | omega | ((try simp only [World.size_alloc, World.size_setCell, size_drew, size_drewN]); omega) | (simp; done) | (simp; omega)) hb.size
                  have h16C : y16 < w4.heap.size := Nat.lt_of_lt_of_le (by first | omega | ((try simp only [World.size_alloc, World.size_setCell, size_drew, size_drewN]); omega) | (simp; done) | (simp; omega)) hb.size
                  have h17C : y17 < w4.heap.size := Nat.lt_of_lt_of_le (by first | omega | ((try simp only [World.size_alloc, World.size_setCell, size_drew, size_drewN]); omega) | (simp; done) | (simp; omega)) hb.size
                  have hBc := hBb.trans (Below.mono (Below.trans (by (repeat first | with_reducible exact Below.refl _ _ | with_reducible assumption | (with_reducible refine Below.setCell ?_ ?_ _; rotate_left; exact (by first | omega | (simp; done) | (simp; omega))) | (with_reducible refine Below.alloc ?_ ?_ _; rotate_left; exact (by first | omega | (simp; done) | (simp; omega))) | with_reducible refine Below.drew ?_ | with_reducible refine Below_drewN ?_ _)) (hb.mono (by first | omega | ((try simp only [World.size_alloc, World.size_setCell, size_drew, size_drewN]); omega) | (simp; done) | (simp; omega))) : Below wc.heap.size wc w4) hBb.size)
                  clear p0B p1B p2B p3B p4B p5B q0B q1B q2B q3B q4B q5B x1B x2B kp0B kp1B kpB kbB hb a0 a1 b0 b1 h16 h17 hBb
                  go_wp2_with fail
                  refine (HU2.out _).mono ?_
                  rintro _ w5 ⟨rfl, hb⟩
                  have p0D : w5.cell? ⟨ws.heap.size, 0, none⟩ = some (.int .i64 u1) := by rw [hb.cell (p := ⟨ws.heap.size, 0, none⟩) (by first | omega | ((try simp only [World.size_alloc, World.size_setCell, size_drew, size_drewN]); omega) | (simp; done) | (simp; omega))]; first | assumption | go_simp
                  have p1D : w5.cell? ⟨ws.heap.size, 1, none⟩ = some (.int .i64 u2) := by rw [hb.cell (p := ⟨ws.heap.size, 1, none⟩) (by first | omega | ((try simp only [World.size_alloc, World.size_setCell, size_drew, size_drewN]); omega) | (simp; done) | (simp; omega))]; first | assumption | go_simp
                  have p2D : w5.cell? ⟨ws.heap.size + 1, 0, none⟩ = some (.int .i64 z1) := by rw [hb.cell (p := ⟨ws.heap.size + 1, 0, none⟩) (by first | omega | ((try simp only [World.size_alloc, World.size_setCell, size_drew, size_drewN]); omega) | (simp; done) | (simp; omega))]; first | assumption | go_simp
                  have p3D : w5.cell? ⟨ws.heap.size + 1, 1, none⟩ = some (.int .i64 z2) := by rw [hb.cell (p := ⟨ws.heap.size + 1, 1, none⟩) (by first | omega | ((try simp only [World.size_alloc, World.size_setCell, size_drew, size_drewN]); omega) | (simp; done) | (simp; omega))]; first | assumption | go_simp
                  have p4D : w5.cell? ⟨ws.heap.size + 1 + 1, 0, none⟩ = some (.int .i64 c1) := by rw [hb.cell (p := ⟨ws.heap.size + 1 + 1, 0, none⟩) (by first | omega | ((try simp only [World.size_alloc, World.size_setCell, size_drew, size_drewN]); omega) | (simp; done) | (simp; omega))]; first | assumption | go_simp
                  have p5D : w5.cell? ⟨ws.heap.size + 1 + 1, 1, none⟩ = some (.int .i64 c2) := by rw [hb.cell (p := ⟨ws.heap.size + 1 + 1, 1, none⟩) (by first | omega | ((try simp only [World.size_alloc, World.size_setCell, size_drew, size_drewN]); omega) | (simp; done) | (simp; omega))]; first | assumption | go_simp
                  have q0D : w5.frozen? ⟨ws.heap.size, 0, none⟩ = false := by rw [hb.frozen (p := ⟨ws.heap.size, 0, none⟩) (by first | omega | ((try simp only [World.size_alloc, World.size_setCell, size_drew, size_drewN]); omega) | (simp; done) | (simp; omega))]; first | assumption | go_simp
                  have q1D : w5.frozen? ⟨ws.heap.size, 1, none⟩ = false := by rw [hb.frozen (p := ⟨ws.heap.size, 1, none⟩) (by first | omega | ((try simp only [World.size_alloc, World.size_setCell, size_drew, size_drewN]); omega) | (simp; done) | (simp; omega))]; first | assumption | go_simp
                  have q2D : w5.frozen? ⟨ws.heap.size + 1, 0, none⟩ = false := by rw [hb.frozen (p := ⟨ws.heap.size + 1, 0, none⟩) (by first | omega | ((try simp only [World.size_alloc, World.size_setCell, size_drew, size_drewN]); omega) | (simp; done) | (simp; omega))]; first | assumption | go_simp
                  have q3D : w5.frozen? ⟨ws.heap.size + 1, 1, none⟩ = false := by rw [hb.frozen (p := ⟨ws.heap.size + 1, 1, none⟩) (by first | omega | ((try simp only [World.size_alloc, World.size_setCell, size_drew, size_drewN]); omega) | (simp; done) | (simp; omega))]; first | assumption | go_simp
                  have q4D : w5.frozen? ⟨ws.heap.size + 1 + 1, 0, none⟩ = false := by rw [hb.frozen (p := ⟨ws.heap.size + 1 + 1, 0, none⟩) (by first | omega | ((try simp only [World.size_alloc, World.size_setCell, size_drew, size_drewN]); omega) | (simp; done) | (simp; omega))]; first | assumption | go_simp
                  have q5D : w5.frozen? ⟨ws.heap.size + 1 + 1, 1, none⟩ = false := by rw [hb.frozen (p := ⟨ws.heap.size + 1 + 1, 1, none⟩) (by first | omega | ((try simp only [World.size_alloc, World.size_setCell, size_drew, size_drewN]); omega) | (simp; done) | (simp; omega))]; first | assumption | go_simp
                  have x1D : w5.cell? ⟨b, o + j * 3 + 1, none⟩ = some (.int .i64 lo) := by rw [hb.cell (p := ⟨b, o + j * 3 + 1, none⟩) (by first | omega | ((try simp only [World.size_alloc, World.size_setCell, size_drew, size_drewN]); omega) | (simp; done) | (simp; omega))]; first | assumption | go_simp
                  have x2D : w5.cell? ⟨b, o + j * 3 + 2, none⟩ = some (.int .i64 hi) := by rw [hb.cell (p := ⟨b, o + j * 3 + 2, none⟩) (by first | omega | ((try simp only [World.size_alloc, World.size_setCell, size_drew, size_drewN]); omega) | (simp; done) | (simp; omega))]; first | assumption | go_simp
                  have a0D : w5.cell? ⟨y16, 0, none⟩ = some (.int .i64 X) := by rw [hb.cell (p := ⟨y16, 0, none⟩) (by first | omega | ((try simp only [World.size_alloc, World.size_setCell, size_drew, size_drewN]); omega) | (simp; done) | (simp; omega))]; first | assumption | go_simp
                  have a1D : w5.cell? ⟨y16, 1, none⟩ = some (.int .i64 X) := by rw [hb.cell (p := ⟨y16, 1, none⟩) (by first | omega | ((try simp only [World.size_alloc, World.size_setCell, size_drew, size_drewN]); omega) | (simp; done) | (simp; omega))]; first | assumption | go_simp
                  have b0D : w5.cell? ⟨y17, 0, none⟩ = some (.int .i64 Y) := by rw [hb.cell (p := ⟨y17, 0, none⟩) (by first | omega | ((try simp only [World.size_alloc, World.size_setCell, size_drew, size_drewN]); omega) | (simp; done) | (simp; omega))]; first | assumption | go_simp
                  have b1D : w5.cell? ⟨y17, 1, none⟩ = some (.int .i64 Y) := by rw [hb.cell (p := ⟨y17, 1, none⟩) (by first | omega | ((try simp only [World.size_alloc, World.size_setCell, size_drew, size_drewN]); omega) | (simp; done) | (simp; omega))]; first | assumption | go_simp
                  have kp0D : ws.heap.size < w5.heap.size := Nat.lt_of_lt_of_le (by first | omega | ((try simp only [World.size_alloc, World.size_setCell, size_drew, size_drewN]); omega) | (simp; done) | (simp; omega)) hb.size
                  have kp1D : ws.heap.size + 1 < w5.heap.size := Nat.lt_of_lt_of_le (by first | omega | ((try simp only [World.size_alloc, World.size_setCell, size_drew, size_drewN]); omega) | (simp; done) | (simp; omega)) hb.size
                  have kpD : ws.heap.size + 1 + 1 < w5.heap.size := Nat.lt_of_lt_of_le (by first | omega | ((try simp only [World.size_alloc, World.size_setCell, size_drew, size_drewN]); omega) | (simp; done) | (simp; omega)) hb.size
                  have kbD : b < w5.heap.size := Nat.lt_of_lt_of_le (by first | omega | ((try simp only [World.size_alloc, World.size_setCell, size_drew, size_drewN]); omega) | (simp; done) | (simp; omega)) hb.size
                  have h16D : y16 < w5.heap.size := Nat.lt_of_lt_of_le (by first | omega | ((try simp only [World.size_alloc, World.size_setCell, size_drew, size_drewN]); omega) | (simp; done) | (simp; omega)) hb.size
                  have h17D : y17 < w5.heap.size := Nat.lt_of_lt_of_le (by first | omega | ((try simp only [World.size_alloc, World.size_setCell, size_drew, size_drewN]); omega) | (simp; done) | (simp; omega)) hb.size
                  have hBd : Below w1.heap.size w1 w5 := Below.trans (by (repeat first | with_reducible exact Below.refl _ _ | with_reducible assumption | (with_reducible refine Below.setCell ?_ ?_ _; rotate_left; exact (by first | omega | (simp; done) | (simp; omega))) | (with_reducible refine Below.alloc ?_ ?_ _; rotate_left; exact (by first | omega | (simp; done) | (simp; omega))) | with_reducible refine Below.drew ?_ | with_reducible refine Below_drewN ?_ _)) (hb.mono (by first | omega | ((try simp only [World.size_alloc, World.size_setCell, size_drew, size_drewN]); omega) | (simp; done) | (simp; omega)))
                  clear p0C p1C p2C p3C p4C p5C q0C q1C q2C q3C q4C q5C x1C x2C a0C a1C b0C b1C kp0C kp1C kpC kbC h16C h17C hb hBc
                  go_wp2_with fail
                  go_region_law (first | (go_simp; go_at_call 65; refine (HU3.out _).mono ?_; rintro _ w6 ⟨rfl, hb⟩; have p0E : w6.cell? ⟨ws.heap.size, 0, none⟩ = some (.int .i64 u1) := (by rw [hb.cell (p := ⟨ws.heap.size, 0, none⟩) (by first | omega | ((try simp only [World.size_alloc, World.size_setCell, size_drew, size_drewN]); omega) | (simp; done) | (simp; omega))]; first | assumption | go_simp); have p1E : w6.cell? ⟨ws.heap.size, 1, none⟩ = some (.int .i64 u2) := (by rw [hb.cell (p := ⟨ws.heap.size, 1, none⟩) (by first | omega | ((try simp only [World.size_alloc, World.size_setCell, size_drew, size_drewN]); omega) | (simp; done) | (simp; omega))]; first | assumption | go_simp); have p2E : w6.cell? ⟨ws.heap.size + 1, 0, none⟩ = some (.int .i64 u3) := (by rw [hb.cell (p := ⟨ws.heap.size + 1, 0, none⟩) (by first | omega | ((try simp only [World.size_alloc, World.size_setCell, size_drew, size_drewN]); omega) | (simp; done) | (simp; omega))]; first | assumption | go_simp); have p3E : w6.cell? ⟨ws.heap.size + 1, 1, none⟩ = some (.int .i64 u4) := (by rw [hb.cell (p := ⟨ws.heap.size + 1, 1, none⟩) (by first | omega | ((try simp only [World.size_alloc, World.size_setCell, size_drew, size_drewN]); omega) | (simp; done) | (simp; omega))]; first | assumption | go_simp); have p4E : w6.cell? ⟨ws.heap.size + 1 + 1, 0, none⟩ = some (.int .i64 c1) := (by rw [hb.cell (p := ⟨ws.heap.size + 1 + 1, 0, none⟩) (by first | omega | ((try simp only [World.size_alloc, World.size_setCell, size_drew, size_drewN]); omega) | (simp; done) | (simp; omega))]; first | assumption | go_simp); have p5E : w6.cell? ⟨ws.heap.size + 1 + 1, 1, none⟩ = some (.int .i64 c2) := (by rw [hb.cell (p := ⟨ws.heap.size + 1 + 1, 1, none⟩) (by first | omega | ((try simp only [World.size_alloc, World.size_setCell, size_drew, size_drewN]); omega) | (simp; done) | (simp; omega))]; first | assumption | go_simp); have q0E : w6.frozen? ⟨ws.heap.size, 0, none⟩ = false := (by rw [hb.frozen (p := ⟨ws.heap.size, 0, none⟩) (by first | omega | ((try simp only [World.size_alloc, World.size_setCell, size_drew, size_drewN]); omega) | (simp; done) | (simp; omega))]; first | assumption | go_simp); have q1E : w6.frozen? ⟨ws.heap.size, 1, none⟩ = false := (by rw [hb.frozen (p := ⟨ws.heap.size, 1, none⟩) (by first | omega | ((try simp only [World.size_alloc, World.size_setCell, size_drew, size_drewN]); omega) | (simp; done) | (simp; omega))]; first | assumption | go_simp); have q2E : w6.frozen? ⟨ws.heap.size + 1, 0, none⟩ = false := (by rw [hb.frozen (p := ⟨ws.heap.size + 1, 0, none⟩) (by first | omega | ((try simp only [World.size_alloc, World.size_setCell, size_drew, size_drewN]); omega) | (simp; done) | (simp; omega))]; first | assumption | go_simp); have q3E : w6.frozen? ⟨ws.heap.size + 1, 1, none⟩ = false := (by rw [hb.frozen (p := ⟨ws.heap.size + 1, 1, none⟩) (by first | omega | ((try simp only [World.size_alloc, World.size_setCell, size_drew, size_drewN]); omega) | (simp; done) | (simp; omega))]; first | assumption | go_simp); have q4E : w6.frozen? ⟨ws.heap.size + 1 + 1, 0, none⟩ = false := (by rw [hb.frozen (p := ⟨ws.heap.size + 1 + 1, 0, none⟩) (by first | omega | ((try simp only [World.size_alloc, World.size_setCell, size_drew, size_drewN]); omega) | (simp; done) | (simp; omega))]; first | assumption | go_simp); have q5E : w6.frozen? ⟨ws.heap.size + 1 + 1, 1, none⟩ = false := (by rw [hb.frozen (p := ⟨ws.heap.size + 1 + 1, 1, none⟩) (by first | omega | ((try simp only [World.size_alloc, World.size_setCell, size_drew, size_drewN]); omega) | (simp; done) | (simp; omega))]; first | assumption | go_simp); have kp0E : ws.heap.size < w6.heap.size := Nat.lt_of_lt_of_le (by first | omega | ((try simp only [World.size_alloc, World.size_setCell, size_drew, size_drewN]); omega) | (simp; done) | (simp; omega)) hb.size; have kp1E : ws.heap.size + 1 < w6.heap.size := Nat.lt_of_lt_of_le (by first | omega | ((try simp only [World.size_alloc, World.size_setCell, size_drew, size_drewN]); omega) | (simp; done) | (simp; omega)) hb.size; have kpE : ws.heap.size + 1 + 1 < w6.heap.size := Nat.lt_of_lt_of_le (by first | omega | ((try simp only [World.size_alloc, World.size_setCell, size_drew, size_drewN]); omega) | (simp; done) | (simp; omega)) hb.size; have hBe : Below w1.heap.size w1 w6 := Below.trans (by (repeat first | with_reducible exact Below.refl _ _ | with_reducible assumption | (with_reducible refine Below.setCell ?_ ?_ _; rotate_left; exact (by first | omega | (simp; done) | (simp; omega))) | (with_reducible refine Below.alloc ?_ ?_ _; rotate_left; exact (by first | omega | (simp; done) | (simp; omega))) | with_reducible refine Below.drew ?_ | with_reducible refine Below_drewN ?_ _)) (hb.mono (by first | omega | ((try simp only [World.size_alloc, World.size_setCell, size_drew, size_drewN]); omega) | (simp; done) | (simp; omega))); clear hb))
                  all_goals
                    go_wp2_with fail
                    go_roundw
                    case rel => exact ⟨j + 1, u1, u2, u3, u4, u5, u6, by omega, by go_num, Or.inr HQ.out, Lib.hid (by rw [decide_eq_false (by omega)]; exact HS2.out.symm), by go_simp, by go_simp, by go_simp, by go_simp, by go_simp, by go_simp, by go_simp, by go_simp, by go_simp, by go_simp, by go_simp, by go_simp, (by first | omega | ((try simp only [World.size_alloc, World.size_setCell, size_drew, size_drewN]); omega) | (simp; done) | (simp; omega)), (by first | (((repeat first | with_reducible exact Below.refl _ _ | with_reducible assumption | (with_reducible refine Below.setCell ?_ ?_ _; rotate_left; exact (by first | omega | (simp; done) | (simp; omega))) | (with_reducible refine Below.alloc ?_ ?_ _; rotate_left; exact (by first | omega | (simp; done) | (simp; omega))) | with_reducible refine Below.drew ?_ | with_reducible refine Below_drewN ?_ _)); done) | exact (Reg3.out (‹Reg3 _ _ _ _ _ ∧ _›).1 (by (repeat first | with_reducible exact Below.refl _ _ | with_reducible assumption | (with_reducible refine Below.setCell ?_ ?_ _; rotate_left; exact (by first | omega | (simp; done) | (simp; omega))) | (with_reducible refine Below.alloc ?_ ?_ _; rotate_left; exact (by first | omega | (simp; done) | (simp; omega))) | with_reducible refine Below.drew ?_ | with_reducible refine Below_drewN ?_ _)) (by first | omega | (simp; done) | (simp; omega)) (by first | omega | (simp; done) | (simp; omega)) (by first | omega | (simp; done) | (simp; omega))))⟩
                    case measure => simp [intOf]; omega
          · have HG : G = (⟨r1, r2, z1, z2, c1, c2⟩, 0) := HE3.out _ (by rw [← hG.out, List.drop_eq_nil_of_le (by rw [HI.out.1]; omega)]; rfl)
            subst HG
            clear hG HI HE3 HO HA2 HCELL hok
            have f1 := kz
            have f10 := (FF1.out.below hBx).at 0 (by omega)
            have s10 := (FZ1.out.below hBx).at 0 (.int .i64 0) rfl
            have f11 := (FF1.out.below hBx).at 1 (by omega)
            have s11 := (FZ1.out.below hBx).at 1 (.int .i64 0) rfl
            have f20 := (FF2.out.below hBx).at 0 (by omega)
            have s20 := (FZ2.out.below hBx).at 0 (.int .i64 0) rfl
            have f21 := (FF2.out.below hBx).at 1 (by omega)
            have s21 := (FZ2.out.below hBx).at 1 (.int .i64 0) rfl
            have f30 := (FF3.out.below hBx).at 0 (by omega)
            have s30 := (FZ3.out.below hBx).at 0 (.int .i64 0) rfl
            have f31 := (FF3.out.below hBx).at 1 (by omega)
            have s31 := (FZ3.out.below hBx).at 1 (.int .i64 0) rfl
            have k0 : w.heap.size < wr.heap.size := by omega
            have k1 : w.heap.size + 1 < wr.heap.size := by omega
            have k2 : w.heap.size + 1 + 1 < wr.heap.size := by omega
            have k3 : w.heap.size + 1 + 1 + 1 < wr.heap.size := by omega
            go_wp2_with fail
            have HS : Hid (∀ w' : World, Reg3 (w.heap.size + 1) (w.heap.size + 1 + 1) (w.heap.size + 1 + 1 + 1) (wr) w' → (Reg3 (w.heap.size + 1) (w.heap.size + 1 + 1) (w.heap.size + 1 + 1 + 1) (wr) w' ∧ w'.cell? ⟨ws.heap.size, 0, none⟩ = some (.int .i64 r1) ∧ w'.cell? ⟨ws.heap.size, 1, none⟩ = some (.int .i64 r2) ∧ w'.cell? ⟨ws.heap.size + 1, 0, none⟩ = some (.int .i64 z1) ∧ w'.cell? ⟨ws.heap.size + 1, 1, none⟩ = some (.int .i64 z2) ∧ w'.cell? ⟨ws.heap.size + 1 + 1, 0, none⟩ = some (.int .i64 c1) ∧ w'.cell? ⟨ws.heap.size + 1 + 1, 1, none⟩ = some (.int .i64 c2) ∧ w'.cell? ⟨w.heap.size + 1, 0, none⟩ = some (cur w' ⟨w.heap.size + 1, 0, none⟩) ∧ w'.frozen? ⟨w.heap.size + 1, 0, none⟩ = false ∧ w'.cell? ⟨w.heap.size + 1, 1, none⟩ = some (cur w' ⟨w.heap.size + 1, 1, none⟩) ∧ w'.frozen? ⟨w.heap.size + 1, 1, none⟩ = false ∧ w'.cell? ⟨w.heap.size + 1 + 1, 0, none⟩ = some (cur w' ⟨w.heap.size + 1 + 1, 0, none⟩) ∧ w'.frozen? ⟨w.heap.size + 1 + 1, 0, none⟩ = false ∧ w'.cell? ⟨w.heap.size + 1 + 1, 1, none⟩ = some (cur w' ⟨w.heap.size + 1 + 1, 1, none⟩) ∧ w'.frozen? ⟨w.heap.size + 1 + 1, 1, none⟩ = false ∧ w'.cell? ⟨w.heap.size + 1 + 1 + 1, 0, none⟩ = some (cur w' ⟨w.heap.size + 1 + 1 + 1, 0, none⟩) ∧ w'.frozen? ⟨w.heap.size + 1 + 1 + 1, 0, none⟩ = false ∧ w'.cell? ⟨w.heap.size + 1 + 1 + 1, 1, none⟩ = some (cur w' ⟨w.heap.size + 1 + 1 + 1, 1, none⟩) ∧ w'.frozen? ⟨w.heap.size + 1 + 1 + 1, 1, none⟩ = false)) := (fun w' h => by (have hc := h.cells; have hs := h.some; have hf := h.frozen; refine ⟨h, ?_⟩; (try simp only [World.size_alloc, World.size_setCell, size_drew, size_drewN] at hc hs hf); first | (simp (disch := omega) only [hc, hs, hf, cur_iff]; (try go_simp); done) | (simp (disch := first | omega | (simp; done)) only [hc, hs, hf, cur_iff]; (try go_simp); done) | (simp (maxDischargeDepth := 4) [hc, hs, hf, cur_iff, go_sem]; done) | (go_simp; done) | (simp (maxDischargeDepth := 4) [hc, hs, hf, cur_iff, go_sem]; go_simp))); go_region_held3 (fun w' => Reg3 (w.heap.size + 1) (w.heap.size + 1 + 1) (w.heap.size + 1 + 1 + 1) (wr) w' ∧ w'.cell? ⟨ws.heap.size, 0, none⟩ = some (.int .i64 r1) ∧ w'.cell? ⟨ws.heap.size, 1, none⟩ = some (.int .i64 r2) ∧ w'.cell? ⟨ws.heap.size + 1, 0, none⟩ = some (.int .i64 z1) ∧ w'.cell? ⟨ws.heap.size + 1, 1, none⟩ = some (.int .i64 z2) ∧ w'.cell? ⟨ws.heap.size + 1 + 1, 0, none⟩ = some (.int .i64 c1) ∧ w'.cell? ⟨ws.heap.size + 1 + 1, 1, none⟩ = some (.int .i64 c2) ∧ w'.cell? ⟨w.heap.size + 1, 0, none⟩ = some (cur w' ⟨w.heap.size + 1, 0, none⟩) ∧ w'.frozen? ⟨w.heap.size + 1, 0, none⟩ = false ∧ w'.cell? ⟨w.heap.size + 1, 1, none⟩ = some (cur w' ⟨w.heap.size + 1, 1, none⟩) ∧ w'.frozen? ⟨w.heap.size + 1, 1, none⟩ = false ∧ w'.cell? ⟨w.heap.size + 1 + 1, 0, none⟩ = some (cur w' ⟨w.heap.size + 1 + 1, 0, none⟩) ∧ w'.frozen? ⟨w.heap.size + 1 + 1, 0, none⟩ = false ∧ w'.cell? ⟨w.heap.size + 1 + 1, 1, none⟩ = some (cur w' ⟨w.heap.size + 1 + 1, 1, none⟩) ∧ w'.frozen? ⟨w.heap.size + 1 + 1, 1, none⟩ = false ∧ w'.cell? ⟨w.heap.size + 1 + 1 + 1, 0, none⟩ = some (cur w' ⟨w.heap.size + 1 + 1 + 1, 0, none⟩) ∧ w'.frozen? ⟨w.heap.size + 1 + 1 + 1, 0, none⟩ = false ∧ w'.cell? ⟨w.heap.size + 1 + 1 + 1, 1, none⟩ = some (cur w' ⟨w.heap.size + 1 + 1 + 1, 1, none⟩) ∧ w'.frozen? ⟨w.heap.size + 1 + 1 + 1, 1, none⟩ = false) (exact HS.out _ (by (repeat first | with_reducible exact Reg3.refl _ _ _ _ | with_reducible exact Reg3.drewN2 _ _ _ _ _ _ | with_reducible exact (‹Reg3 _ _ _ _ _ ∧ _›).1 | (with_reducible refine Reg3.setCell ?_ ?_ _; rotate_left; exact (by first | omega | ((try simp only [World.size_alloc, World.size_setCell, size_drew, size_drewN]); omega) | (simp; done) | (simp; omega))) | with_reducible refine Reg3.alloc ?_ _ | with_reducible refine Reg3.drew ?_ | with_reducible refine Reg3.drewN ?_ _ | (with_reducible apply Reg3.call; rotate_left; with_reducible assumption)))) (first | fail)
            all_goals (rename_i hH; clear hH)
            all_goals go_wp2_with fail
            all_goals exact bodyPost_ret (resW Tryd.results36 _ _ _ _ _ (.int .i64 r1) (.int .i64 r2) (.int .i64 z1) (.int .i64 z2) (.int .i64 c1) (.int .i64 c2) (.int .i64 0) rfl rfl rfl rfl (by go_simp) (by go_simp) (by go_simp) (by go_simp) (by go_simp) (by go_simp)) rfl ⟨rfl, (by first | (((repeat first | with_reducible exact Below.refl _ _ | with_reducible assumption | (with_reducible refine Below.setCell ?_ ?_ _; rotate_left; exact (by first | omega | (simp; done) | (simp; omega))) | (with_reducible refine Below.alloc ?_ ?_ _; rotate_left; exact (by first | omega | (simp; done) | (simp; omega))) | with_reducible refine Below.drew ?_ | with_reducible refine Below_drewN ?_ _)); done) | exact (Reg3.out (‹Reg3 _ _ _ _ _ ∧ _›).1 (by (repeat first | with_reducible exact Below.refl _ _ | with_reducible assumption | (with_reducible refine Below.setCell ?_ ?_ _; rotate_left; exact (by first | omega | (simp; done) | (simp; omega))) | (with_reducible refine Below.alloc ?_ ?_ _; rotate_left; exact (by first | omega | (simp; done) | (simp; omega))) | with_reducible refine Below.drew ?_ | with_reducible refine Below_drewN ?_ _)) (by first | omega | (simp; done) | (simp; omega)) (by first | omega | (simp; done) | (simp; omega)) (by first | omega | (simp; done) | (simp; omega))))⟩

end Go.Proofs.YtpnoinkiblnplaaDoor
end
