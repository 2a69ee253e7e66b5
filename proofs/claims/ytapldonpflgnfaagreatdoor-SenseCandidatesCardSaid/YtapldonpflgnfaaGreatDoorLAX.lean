import Derived.Test.YtapldonpflgnfaaGreatDoorLAQ
import Derived.Test.YtapldonpflgnfaaGreatDoorLAS
import Derived.Test.YtapldonpflgnfaaGreatDoorLAU
import Derived.Test.YtapldonpflgnfaaGreatDoorLAV
import Derived.Test.YtapldonpflgnfaaGreatDoorLAW
import Derived.Test.YtapldonpflgnfaaGreatDoorRows
import Derived.KernelRfl
import Derived.Laws.StructEq
namespace Go.Proofs.YtapldonpflgnfaaGreatDoor
set_option linter.unusedVariables false
set_option linter.unusedSimpArgs false
section
open Go.RowKit Go.Shelf
def dot : List Int → List Int → Int
 | x :: xs, y :: ys => x * y + dot xs ys
 | _, _ => 0
theorem dot_flux (p : Int × Int) : ∀ (ws ls : List Int) (S : List Src), ws.length = S.length → ls.length = S.length → (∀ (k : Nat) (a b : Int) (s : Src), ws[k]? = some a → ls[k]? = some b → S[k]? = some s → a * b = infl p.1 p.2 s.1.1 s.1.2 * s.2) → dot ws ls = fluxP p S
 | [], [], [], _, _, _ => rfl
 | a :: ws, b :: ls, s :: S, h1, h2, h => by
  have e := h 0 a b s rfl rfl rfl
  have ih := dot_flux p ws ls S (by simpa using h1) (by simpa using h2) (fun k a b s ha hb hs => h (k + 1) a b s (by simpa using ha) (by simpa using hb) (by simpa using hs))
  simp only [dot, fluxP, e, ih]
 | [], _ :: _, [], _, h2, _ => by simp at h2
 | _ :: _, _, [], h1, _, _ => by simp at h1
 | [], _, _ :: _, h1, _, _ => by simp at h1
 | _ :: _, [], _ :: _, _, h2, _ => by simp at h2
theorem dot_drop {xs ys : List Int} {k : Nat} {a b : Int} (h1 : xs[k]? = some a) (h2 : ys[k]? = some b) : dot (xs.drop k) (ys.drop k) = a * b + dot (xs.drop (k + 1)) (ys.drop (k + 1)) := by
 obtain ⟨k1, e1⟩ := List.getElem?_eq_some_iff.1 h1
 obtain ⟨k2, e2⟩ := List.getElem?_eq_some_iff.1 h2
 rw [List.drop_eq_getElem_cons k1, List.drop_eq_getElem_cons k2, e1, e2]
 rfl
def allL (C : CurD) : List Int := C.coils ++ C.shells ++ C.plasma
theorem dot_src {M : MachD} {C : CurD} (hv : Fit2 M C) (p : Int × Int) : dot (fromL M p) (allL C) = fluxP p (srcM M C) := by
 have c1 := hv.coils.1
 have c2 := hv.shells.1
 have c3 := hv.plasma.1
 have l1 := from_length M p
 have l2 : (srcM M C).length = M.coils.length + (M.shells.length + C.plasma.length) := srcL_length c1 c2
 have l3 : (allL C).length = C.coils.length + C.shells.length + C.plasma.length := by simp [allL, Nat.add_assoc]
 refine dot_flux p _ _ _ (by omega) (by omega) (fun k a b s ha hb hs => ?_)
 have hk : k < (allL C).length := (List.getElem?_eq_some_iff.1 hb).1
 by_cases h1 : k < M.coils.length
 ·obtain ⟨c, hc⟩ : ∃ c, M.coils[k]? = some c := ⟨_, List.getElem?_eq_getElem h1⟩
  obtain ⟨x, hx⟩ : ∃ x, C.coils[k]? = some x := ⟨_, List.getElem?_eq_getElem (by omega)⟩
  rw [from_coil hc] at ha
  have e : (allL C)[k]? = some x := by unfold allL; rw [List.getElem?_append_left (by simp; omega), List.getElem?_append_left (by omega), hx]
  rw [e] at hb
  have e2 : (srcM M C)[k]? = some ((c.r, c.z), c.turns * x) := srcL_coil c1 k c x hc hx
  rw [e2] at hs
  cases ha; cases hb; cases hs
  show c.turns * infl p.1 p.2 c.r c.z * b = infl p.1 p.2 c.r c.z * (c.turns * b)
  rw [Int.mul_comm c.turns, Int.mul_assoc]
 ·by_cases h2 : k < M.coils.length + M.shells.length
  ·obtain ⟨j, rfl⟩ : ∃ j, k = M.coils.length + j := ⟨k - M.coils.length, by omega⟩
   obtain ⟨c, hc⟩ : ∃ c, M.shells[j]? = some c := ⟨_, List.getElem?_eq_getElem (by omega)⟩
   obtain ⟨x, hx⟩ : ∃ x, C.shells[j]? = some x := ⟨_, List.getElem?_eq_getElem (by omega)⟩
   rw [from_shell hc] at ha
   have e : (allL C)[M.coils.length + j]? = some x := by unfold allL; rw [List.getElem?_append_left (by simp; omega), List.getElem?_append_right (by omega), show M.coils.length + j - C.coils.length = j by omega, hx]
   rw [e] at hb
   have e2 : (srcM M C)[M.coils.length + j]? = some ((c.r, c.z), x) := srcL_shell c1 c2 j c x hc hx
   rw [e2] at hs
   cases ha; cases hb; cases hs
   rfl
  ·obtain ⟨j, rfl⟩ : ∃ j, k = M.coils.length + (M.shells.length + j) := ⟨k - M.coils.length - M.shells.length, by omega⟩
   obtain ⟨x, hx⟩ : ∃ x, C.plasma[j]? = some x := ⟨_, List.getElem?_eq_getElem (by omega)⟩
   rw [from_cell (M := M) (p := p) (k := j) (by have := (List.getElem?_eq_some_iff.1 hx).1; omega)] at ha
   have e : (allL C)[M.coils.length + (M.shells.length + j)]? = some x := by unfold allL; rw [List.getElem?_append_right (by simp; omega), show M.coils.length + (M.shells.length + j) - (C.coils ++ C.shells).length = j by simp; omega, hx]
   rw [e] at hb
   have e2 : (srcM M C)[M.coils.length + (M.shells.length + j)]? = some ((cellR M.grid (j : Int), cellZ M.grid (j : Int)), x) := srcL_cell c1 c2 j x hx
   rw [e2] at hs
   cases ha; cases hb; cases hs
   rfl
theorem from_bd {M : MachD} (hs : Sound M) (p : Int × Int) : ∀ x ∈ fromL M p, 0 ≤ x ∧ x ≤ 25000000 := by
 intro x hx
 unfold fromL at hx
 rcases List.mem_append.1 hx with h | h
 ·obtain ⟨c, hc, rfl⟩ := List.mem_map.1 h
  have t := (hs.coils.2 c hc).1
  have b := infl_bd p.1 p.2 c.r c.z
  have h1 := Int.mul_nonneg (a := c.turns) (b := infl p.1 p.2 c.r c.z) (by omega) b.1
  have h2 := Int.mul_le_mul t.2 b.2 b.1 (by omega)
  omega
 ·rcases List.mem_append.1 h with h | h
  ·obtain ⟨c, hc, rfl⟩ := List.mem_map.1 h
   have b := infl_bd p.1 p.2 c.r c.z
   omega
  ·obtain ⟨c, hc, rfl⟩ := List.mem_map.1 h
   have b := infl_bd p.1 p.2 (cellR M.grid (c : Int)) (cellZ M.grid (c : Int))
   omega
theorem all_bd {M : MachD} {C : CurD} (hv : Fit2 M C) : ∀ x ∈ allL C, -1000000 ≤ x ∧ x ≤ 1000000 := by
 intro x hx
 unfold allL at hx
 rcases List.mem_append.1 hx with h | h
 ·rcases List.mem_append.1 h with h | h
  ·exact hv.coils.2 x h
  ·exact hv.shells.2 x h
 ·have := hv.plasma.2 x h
  omega
set_option maxRecDepth 100000 in
set_option maxHeartbeats 8000000 in
theorem rflux_any (R : MachR) (M : MachD) (Qr : CurR) (Cd : CurD) (p0 p1 : Int) (w : World) (hM : IsM w R M) (hC : IsC w Qr Cd) (hv : Fit2 M Cd) :
  Calls Tryz.prog 117 #[.agg (machCells R M), Qr.v, .int .i64 p0, .int .i64 p1] w (Ret (.int .i64 (fluxP (p0, p1) (srcM M Cd))) w) := by
 have hs := sound_of hv.check
 have hfc := cells_fine hs.grid
 have e1 := hM.coils.1
 have e2 := hM.shells.1
 have e3 := hs.coils.1
 have e4 := hs.shells.1
 have c1 := hv.coils.1
 have c2 := hv.shells.1
 have c3 := hv.plasma.1
 have d1 := hC.coils.1
 have d2 := hC.shells.1
 have d3 := hC.plasma.1
 have HL := from_length M (p0, p1)
 have HG : Hid (dot (fromL M (p0, p1)) (allL Cd) = fluxP (p0, p1) (srcM M Cd)) := Lib.hid (dot_src hv _)
 have HB1 := Lib.hid (from_bd hs (p0, p1))
 have HB2 := Lib.hid (all_bd hv)
 obtain ⟨N, hN⟩ : ∃ N, (fromL M (p0, p1)).length = N := ⟨_, rfl⟩
 have hn : Qr.la + Qr.lb + Qr.lc = N := by omega
 have hN1 : 1 ≤ N ∧ N ≤ 100 := by omega
 have HF : Hid (∀ V, Below w.heap.size w V → Calls Tryz.prog 148 #[.agg (machCells R M), .agg #[.int .i64 p0, .int .i64 p1]] V fun e w' => ∃ (A' : Option Addr) (cap : Nat), e = .returned (.slice A' N cap) ∧ NewI V.heap.size w' A' N cap (fromL M (p0, p1)) ∧ Below V.heap.size V w') := Lib.hid (fun V hb => by
  have h := rfrom_any R M p0 p1 V (hM.below hb) hv.check
  rw [hN] at h
  exact h)
 have HA : Hid (∀ V, Below w.heap.size w V → Calls Tryz.prog 149 #[Qr.v] V fun e w' => ∃ (A' : Option Addr) (cap : Nat), e = .returned (.slice A' N cap) ∧ NewI V.heap.size w' A' N cap (allL Cd) ∧ Below V.heap.size V w') := Lib.hid (fun V hb => by
  have h := rall_any Qr.A Qr.B Qr.C Qr.la Qr.ca Qr.lb Qr.cb Qr.lc Qr.cc Cd.coils Cd.shells Cd.plasma V (hC.below hb).coils (hC.below hb).shells (hC.below hb).plasma (by omega) (by omega) (by omega)
  rw [hn] at h
  exact h)
 have hl2 : (allL Cd).length = N := by simp [allL]; omega
 clear hM hC hs hfc e1 e2 e3 e4 c1 c2 c3 d1 d2 d3 HL hn hv
 generalize fromL M (p0, p1) = T at *
 generalize allL Cd = L at *
 generalize fluxP (p0, p1) (srcM M Cd) = G at *
 obtain ⟨A, B, Cl, D, la, ca, lb, cb, lc, cl, ld, cd⟩ := R
 obtain ⟨name, coils, shells, limits, ⟨r, z, nr, nz, step⟩, sensors⟩ := M
 obtain ⟨A1, B1, C1, na, qa, nb, qb, nc, qc⟩ := Qr
 dsimp only [machCells, CurR.v] at *
 show Calls Tryz.prog 117 #[.agg #[.string name, .slice A la ca, .slice B lb cb, .slice Cl lc cl, .int .i64 r, .int .i64 z, .int .i64 nr, .int .i64 nz, .int .i64 step, .slice D ld cd], .agg #[.slice A1 na qa, .slice B1 nb qb, .slice C1 nc qc], .int .i64 p0, .int .i64 p1] w _
 go_enter Tryz.func117, Tryz.ntmps117
 go_upto_region 1 with (fail)
 have m0 : (((w.alloc (.cells #[.string name, .slice A la ca, .slice B lb cb, .slice Cl lc cl, .int .i64 r, .int .i64 z, .int .i64 nr, .int .i64 nz, .int .i64 step, .slice D ld cd] 29)).alloc (.cells #[.slice A1 na qa, .slice B1 nb qb, .slice C1 nc qc] 32))).cell? ⟨w.heap.size, 0, none⟩ = some (.string name) := by go_simp
 have m1 : (((w.alloc (.cells #[.string name, .slice A la ca, .slice B lb cb, .slice Cl lc cl, .int .i64 r, .int .i64 z, .int .i64 nr, .int .i64 nz, .int .i64 step, .slice D ld cd] 29)).alloc (.cells #[.slice A1 na qa, .slice B1 nb qb, .slice C1 nc qc] 32))).cell? ⟨w.heap.size, 1, none⟩ = some (.slice A la ca) := by go_simp
 have m2 : (((w.alloc (.cells #[.string name, .slice A la ca, .slice B lb cb, .slice Cl lc cl, .int .i64 r, .int .i64 z, .int .i64 nr, .int .i64 nz, .int .i64 step, .slice D ld cd] 29)).alloc (.cells #[.slice A1 na qa, .slice B1 nb qb, .slice C1 nc qc] 32))).cell? ⟨w.heap.size, 2, none⟩ = some (.slice B lb cb) := by go_simp
 have m3 : (((w.alloc (.cells #[.string name, .slice A la ca, .slice B lb cb, .slice Cl lc cl, .int .i64 r, .int .i64 z, .int .i64 nr, .int .i64 nz, .int .i64 step, .slice D ld cd] 29)).alloc (.cells #[.slice A1 na qa, .slice B1 nb qb, .slice C1 nc qc] 32))).cell? ⟨w.heap.size, 3, none⟩ = some (.slice Cl lc cl) := by go_simp
 have m4 : (((w.alloc (.cells #[.string name, .slice A la ca, .slice B lb cb, .slice Cl lc cl, .int .i64 r, .int .i64 z, .int .i64 nr, .int .i64 nz, .int .i64 step, .slice D ld cd] 29)).alloc (.cells #[.slice A1 na qa, .slice B1 nb qb, .slice C1 nc qc] 32))).cell? ⟨w.heap.size, 4, none⟩ = some (.int .i64 r) := by go_simp
 have m5 : (((w.alloc (.cells #[.string name, .slice A la ca, .slice B lb cb, .slice Cl lc cl, .int .i64 r, .int .i64 z, .int .i64 nr, .int .i64 nz, .int .i64 step, .slice D ld cd] 29)).alloc (.cells #[.slice A1 na qa, .slice B1 nb qb, .slice C1 nc qc] 32))).cell? ⟨w.heap.size, 5, none⟩ = some (.int .i64 z) := by go_simp
 have m6 : (((w.alloc (.cells #[.string name, .slice A la ca, .slice B lb cb, .slice Cl lc cl, .int .i64 r, .int .i64 z, .int .i64 nr, .int .i64 nz, .int .i64 step, .slice D ld cd] 29)).alloc (.cells #[.slice A1 na qa, .slice B1 nb qb, .slice C1 nc qc] 32))).cell? ⟨w.heap.size, 6, none⟩ = some (.int .i64 nr) := by go_simp
 have m7 : (((w.alloc (.cells #[.string name, .slice A la ca, .slice B lb cb, .slice Cl lc cl, .int .i64 r, .int .i64 z, .int .i64 nr, .int .i64 nz, .int .i64 step, .slice D ld cd] 29)).alloc (.cells #[.slice A1 na qa, .slice B1 nb qb, .slice C1 nc qc] 32))).cell? ⟨w.heap.size, 7, none⟩ = some (.int .i64 nz) := by go_simp
 have m8 : (((w.alloc (.cells #[.string name, .slice A la ca, .slice B lb cb, .slice Cl lc cl, .int .i64 r, .int .i64 z, .int .i64 nr, .int .i64 nz, .int .i64 step, .slice D ld cd] 29)).alloc (.cells #[.slice A1 na qa, .slice B1 nb qb, .slice C1 nc qc] 32))).cell? ⟨w.heap.size, 8, none⟩ = some (.int .i64 step) := by go_simp
 have m9 : (((w.alloc (.cells #[.string name, .slice A la ca, .slice B lb cb, .slice Cl lc cl, .int .i64 r, .int .i64 z, .int .i64 nr, .int .i64 nz, .int .i64 step, .slice D ld cd] 29)).alloc (.cells #[.slice A1 na qa, .slice B1 nb qb, .slice C1 nc qc] 32))).cell? ⟨w.heap.size, 9, none⟩ = some (.slice D ld cd) := by go_simp
 have q0 : (((w.alloc (.cells #[.string name, .slice A la ca, .slice B lb cb, .slice Cl lc cl, .int .i64 r, .int .i64 z, .int .i64 nr, .int .i64 nz, .int .i64 step, .slice D ld cd] 29)).alloc (.cells #[.slice A1 na qa, .slice B1 nb qb, .slice C1 nc qc] 32))).cell? ⟨w.heap.size + 1, 0, none⟩ = some (.slice A1 na qa) := by go_simp
 have q1 : (((w.alloc (.cells #[.string name, .slice A la ca, .slice B lb cb, .slice Cl lc cl, .int .i64 r, .int .i64 z, .int .i64 nr, .int .i64 nz, .int .i64 step, .slice D ld cd] 29)).alloc (.cells #[.slice A1 na qa, .slice B1 nb qb, .slice C1 nc qc] 32))).cell? ⟨w.heap.size + 1, 1, none⟩ = some (.slice B1 nb qb) := by go_simp
 have q2 : (((w.alloc (.cells #[.string name, .slice A la ca, .slice B lb cb, .slice Cl lc cl, .int .i64 r, .int .i64 z, .int .i64 nr, .int .i64 nz, .int .i64 step, .slice D ld cd] 29)).alloc (.cells #[.slice A1 na qa, .slice B1 nb qb, .slice C1 nc qc] 32))).cell? ⟨w.heap.size + 1, 2, none⟩ = some (.slice C1 nc qc) := by go_simp
 have hB0 : Below w.heap.size w (((w.alloc (.cells #[.string name, .slice A la ca, .slice B lb cb, .slice Cl lc cl, .int .i64 r, .int .i64 z, .int .i64 nr, .int .i64 nz, .int .i64 step, .slice D ld cd] 29)).alloc (.cells #[.slice A1 na qa, .slice B1 nb qb, .slice C1 nc qc] 32))) := by (repeat first | with_reducible exact Below.refl _ _ | (with_reducible refine Below.alloc ?_ ?_ _; rotate_left; exact (by first | omega | (simp; done))))
 have hz : w.heap.size + 1 < (((w.alloc (.cells #[.string name, .slice A la ca, .slice B lb cb, .slice Cl lc cl, .int .i64 r, .int .i64 z, .int .i64 nr, .int .i64 nz, .int .i64 step, .slice D ld cd] 29)).alloc (.cells #[.slice A1 na qa, .slice B1 nb qb, .slice C1 nc qc] 32))).heap.size := by simp
 obtain ⟨W0, hW0⟩ : ∃ W, ((w.alloc (.cells #[.string name, .slice A la ca, .slice B lb cb, .slice Cl lc cl, .int .i64 r, .int .i64 z, .int .i64 nr, .int .i64 nz, .int .i64 step, .slice D ld cd] 29)).alloc (.cells #[.slice A1 na qa, .slice B1 nb qb, .slice C1 nc qc] 32)) = W := ⟨_, rfl⟩
 rw [hW0] at m0 m1 m2 m3 m4 m5 m6 m7 m8 m9 q0 q1 q2 hB0 hz ⊢
 clear hW0
 have FM := Lib.hid (BoxL.mk10 (W := W0) (by omega) m0 m1 m2 m3 m4 m5 m6 m7 m8 m9)
 have FC := Lib.hid (BoxL.mk3 (W := W0) hz q0 q1 q2)
 clear m0 m1 m2 m3 m4 m5 m6 m7 m8 m9 q0 q1 q2
 have HS : Hid (∀ w' : World, Below W0.heap.size W0 w' → (Below W0.heap.size W0 w' ∧ w'.cell? ⟨w.heap.size, 0, none⟩ = some (.string name) ∧ w'.cell? ⟨w.heap.size, 1, none⟩ = some (.slice A la ca) ∧ w'.cell? ⟨w.heap.size, 2, none⟩ = some (.slice B lb cb) ∧ w'.cell? ⟨w.heap.size, 3, none⟩ = some (.slice Cl lc cl) ∧ w'.cell? ⟨w.heap.size, 4, none⟩ = some (.int .i64 r) ∧ w'.cell? ⟨w.heap.size, 5, none⟩ = some (.int .i64 z) ∧ w'.cell? ⟨w.heap.size, 6, none⟩ = some (.int .i64 nr) ∧ w'.cell? ⟨w.heap.size, 7, none⟩ = some (.int .i64 nz) ∧ w'.cell? ⟨w.heap.size, 8, none⟩ = some (.int .i64 step) ∧ w'.cell? ⟨w.heap.size, 9, none⟩ = some (.slice D ld cd) ∧ w'.cell? ⟨w.heap.size + 1, 0, none⟩ = some (.slice A1 na qa) ∧ w'.cell? ⟨w.heap.size + 1, 1, none⟩ = some (.slice B1 nb qb) ∧ w'.cell? ⟨w.heap.size + 1, 2, none⟩ = some (.slice C1 nc qc))) := Lib.hid (fun w' h => ⟨h, (FM.out.below h).at 0 (.string name) rfl, (FM.out.below h).at 1 (.slice A la ca) rfl, (FM.out.below h).at 2 (.slice B lb cb) rfl, (FM.out.below h).at 3 (.slice Cl lc cl) rfl, (FM.out.below h).at 4 (.int .i64 r) rfl, (FM.out.below h).at 5 (.int .i64 z) rfl, (FM.out.below h).at 6 (.int .i64 nr) rfl, (FM.out.below h).at 7 (.int .i64 nz) rfl, (FM.out.below h).at 8 (.int .i64 step) rfl, (FM.out.below h).at 9 (.slice D ld cd) rfl, (FC.out.below h).at 0 (.slice A1 na qa) rfl, (FC.out.below h).at 1 (.slice B1 nb qb) rfl, (FC.out.below h).at 2 (.slice C1 nc qc) rfl⟩)
 have HB : Hid (∀ w' : World, Below W0.heap.size W0 w' → Below w.heap.size w w') := Lib.hid (fun w' h => hB0.trans (h.mono (by omega)))
 have m0 := (FM.out.below (Below.refl _ _)).at 0 (.string name) rfl
 have m1 := (FM.out.below (Below.refl _ _)).at 1 (.slice A la ca) rfl
 have m2 := (FM.out.below (Below.refl _ _)).at 2 (.slice B lb cb) rfl
 have m3 := (FM.out.below (Below.refl _ _)).at 3 (.slice Cl lc cl) rfl
 have m4 := (FM.out.below (Below.refl _ _)).at 4 (.int .i64 r) rfl
 have m5 := (FM.out.below (Below.refl _ _)).at 5 (.int .i64 z) rfl
 have m6 := (FM.out.below (Below.refl _ _)).at 6 (.int .i64 nr) rfl
 have m7 := (FM.out.below (Below.refl _ _)).at 7 (.int .i64 nz) rfl
 have m8 := (FM.out.below (Below.refl _ _)).at 8 (.int .i64 step) rfl
 have m9 := (FM.out.below (Below.refl _ _)).at 9 (.slice D ld cd) rfl
 have q0 := (FC.out.below (Below.refl _ _)).at 0 (.slice A1 na qa) rfl
 have q1 := (FC.out.below (Below.refl _ _)).at 1 (.slice B1 nb qb) rfl
 have q2 := (FC.out.below (Below.refl _ _)).at 2 (.slice C1 nc qc) rfl
 go_region_held3 (fun w' => Below W0.heap.size W0 w' ∧ w'.cell? ⟨w.heap.size, 0, none⟩ = some (.string name) ∧ w'.cell? ⟨w.heap.size, 1, none⟩ = some (.slice A la ca) ∧ w'.cell? ⟨w.heap.size, 2, none⟩ = some (.slice B lb cb) ∧ w'.cell? ⟨w.heap.size, 3, none⟩ = some (.slice Cl lc cl) ∧ w'.cell? ⟨w.heap.size, 4, none⟩ = some (.int .i64 r) ∧ w'.cell? ⟨w.heap.size, 5, none⟩ = some (.int .i64 z) ∧ w'.cell? ⟨w.heap.size, 6, none⟩ = some (.int .i64 nr) ∧ w'.cell? ⟨w.heap.size, 7, none⟩ = some (.int .i64 nz) ∧ w'.cell? ⟨w.heap.size, 8, none⟩ = some (.int .i64 step) ∧ w'.cell? ⟨w.heap.size, 9, none⟩ = some (.slice D ld cd) ∧ w'.cell? ⟨w.heap.size + 1, 0, none⟩ = some (.slice A1 na qa) ∧ w'.cell? ⟨w.heap.size + 1, 1, none⟩ = some (.slice B1 nb qb) ∧ w'.cell? ⟨w.heap.size + 1, 2, none⟩ = some (.slice C1 nc qc)) (exact HS.out _ (by (repeat first | with_reducible exact Below.refl _ _ | with_reducible assumption | with_reducible refine Below.drew ?_))) (first | (go_at_call 148; refine (HF.out _ (HB.out _ (by (repeat with_reducible exact (‹Below _ _ _ ∧ _›).1)))).mono ?_; rintro e wA ⟨Aa, cpa, rfl, hNa, hba⟩; have hBf : Below W0.heap.size W0 wA := Below.trans (by (repeat with_reducible exact (‹Below _ _ _ ∧ _›).1)) (hba.mono (by (try simp only [World.size_alloc, size_drew]); omega)); have szf := hBf.size) | (go_at_call 149; refine (HA.out _ (HB.out _ (by (repeat with_reducible assumption)))).mono ?_; rintro e wB ⟨Ab, cpb, rfl, hNb, hbb⟩; have hBg : Below W0.heap.size W0 wB := Below.trans (by (repeat with_reducible assumption)) (hbb.mono (by (try simp only [World.size_alloc, size_drew]); omega)); have szg := hBg.size))
 have hTa := (hNa.below hbb).isT
 have hTb := hNb.isT
 obtain ⟨ba, oa, rfl, hba1, hca⟩ := hTa.2 (by omega)
 obtain ⟨bb, ob, rfl, hbb1, hcb⟩ := hTb.2 (by omega)
 have HCA := Lib.hid hca
 have HCB := Lib.hid hcb
 clear hTa hTb hca hcb hNa hNb
 go_wp2_with fail
 go_loopw [11, 12] (fun n i wr => ∃ (j : Nat) (t : Int), j ≤ N ∧ i = .int .i64 j ∧ n = .int .i64 t ∧ Hid (t + dot (T.drop j) (L.drop j) = G) ∧ -(25000000000000 * (j : Int)) ≤ t ∧ t ≤ 25000000000000 * (j : Int) ∧ Below wB.heap.size wB wr) (fun _ i _ => N - (intOf i).toNat)
 case atStart => exact ⟨0, 0, Nat.zero_le _, rfl, rfl, Lib.hid (by simpa using HG.out), by simp, by simp, Below.refl _ _⟩
 case round =>
  obtain ⟨j, t, hj, rfl, rfl, hd, t0, t1, hBx⟩ := hrel
  by_cases hlt : j < N
  ·obtain ⟨x, hx⟩ : ∃ x, T[j]? = some x := ⟨_, List.getElem?_eq_getElem (by omega)⟩
   obtain ⟨y, hy⟩ : ∃ y, L[j]? = some y := ⟨_, List.getElem?_eq_getElem (by omega)⟩
   have k3 : wB.cell? ⟨ba, oa + j, none⟩ = some (.int .i64 x) := (by have h := HCA.out j x hx 0 _ rfl; simpa using h)
   have k4 : wB.cell? ⟨bb, ob + j, none⟩ = some (.int .i64 y) := (by have h := HCB.out j y hy 0 _ rfl; simpa using h)
   have bx := HB1.out x (List.mem_of_getElem? hx)
   have by1 := HB2.out y (List.mem_of_getElem? hy)
   have mb := mul_bd (a := x) (b := y) (A := 25000000) (B := 1000000) bx.1 bx.2 by1.1 by1.2
   have hd2 : Hid (t + x * y + dot (T.drop (j + 1)) (L.drop (j + 1)) = G) := Lib.hid (by have h := hd.out; rw [dot_drop hx hy] at h; omega)
   clear hx hy hd
   have v0 : IntKind.i64.wrap (x * y) = x * y := IntWalk.i64_in _ (by omega)
   have v1 : IntKind.i64.wrap (t + x * y) = t + x * y := IntWalk.i64_in _ (by omega)
   have HS3 : Hid (∀ w' : World, Below wB.heap.size wB w' → (Below wB.heap.size wB w' ∧ w'.cell? ⟨ba, oa + j, none⟩ = some (.int .i64 x) ∧ w'.cell? ⟨bb, ob + j, none⟩ = some (.int .i64 y))) := Lib.hid (fun w' h => ⟨h, (h.cell (p := ⟨ba, oa + j, none⟩) hba1).trans k3, (h.cell (p := ⟨bb, ob + j, none⟩) hbb1).trans k4⟩)
   go_wp2_with fail
   go_region_held3 (fun w' => Below wB.heap.size wB w' ∧ w'.cell? ⟨ba, oa + j, none⟩ = some (.int .i64 x) ∧ w'.cell? ⟨bb, ob + j, none⟩ = some (.int .i64 y)) (exact HS3.out _ (by (repeat first | with_reducible assumption | with_reducible refine Below.drew ?_))) (fail)
   all_goals go_wp2_with fail
   all_goals go_roundw
   case rel => exact ⟨j + 1, t + x * y, by omega, by go_num, rfl, hd2, by omega, by omega, by (repeat with_reducible exact (‹Below _ _ _ ∧ _›).1)⟩
   case measure => simp [intOf]; omega
  ·have je : j = N := by omega
   have hG : t = G := by
    have h := hd.out
    rw [List.drop_of_length_le (by omega)] at h
    simpa [dot] using h
   subst hG
   go_wp2_with fail
   go_ret
   exact ⟨rfl, HB.out _ (hBg.trans (hBx.mono (by omega)))⟩
end
section
open Go.RowKit Go.Shelf
set_option maxRecDepth 100000 in
set_option maxHeartbeats 8000000 in
theorem rfield_any (R : MachR) (M : MachD) (Qr : CurR) (Cd : CurD) (p0 p1 : Int) (w : World) (hM : IsM w R M) (hC : IsC w Qr Cd) (hv : Fit2 M Cd) (g0 : -1000000 ≤ p0) (g1 : p0 ≤ 1000000) (g2 : -1000000 ≤ p1) (g3 : p1 ≤ 1000000) :
  Calls Tryz.prog 116 #[.agg (machCells R M), Qr.v, .int .i64 p0, .int .i64 p1] w (Ret (.tuple #[.int .i64 (fieldP (p0, p1) (srcM M Cd)).1, .int .i64 (fieldP (p0, p1) (srcM M Cd)).2]) w) := by
 have HF := Lib.hid (fun a b W (hb : Below w.heap.size w W) => rflux_any R M Qr Cd a b W (hM.below hb) (hC.below hb) hv)
 have HBD := Lib.hid (fun p => (small_of hv).bd p)
 unfold fieldP
 dsimp only
 clear hM hC hv
 generalize srcM M Cd = S at *
 obtain ⟨A, B, Cl, D, la, ca, lb, cb, lc, cl, ld, cd⟩ := R
 obtain ⟨name, coils, shells, limits, ⟨r, z, nr, nz, step⟩, sensors⟩ := M
 obtain ⟨A1, B1, C1, na, qa, nb, qb, nc, qc⟩ := Qr
 dsimp only [machCells, CurR.v] at *
 have b1 := HBD.out (p0, p1 - 1)
 have b2 := HBD.out (p0, p1 + 1)
 have b3 := HBD.out (p0 + 1, p1)
 have b4 := HBD.out (p0 - 1, p1)
 obtain ⟨φ, hφ⟩ : ∃ φ : Int → Int → Int, ∀ a b, fluxP (a, b) S = φ a b := ⟨fun a b => fluxP (a, b) S, fun _ _ => rfl⟩
 simp only [hφ] at HF b1 b2 b3 b4 ⊢
 clear HBD hφ
 have v0 : IntKind.i64.wrap (p1 - 1) = p1 - 1 := IntWalk.i64_in _ (by omega)
 have v1 : IntKind.i64.wrap (p1 + 1) = p1 + 1 := IntWalk.i64_in _ (by omega)
 have v2 : IntKind.i64.wrap (p0 + 1) = p0 + 1 := IntWalk.i64_in _ (by omega)
 have v3 : IntKind.i64.wrap (p0 - 1) = p0 - 1 := IntWalk.i64_in _ (by omega)
 have v4 : IntKind.i64.wrap (φ p0 (p1 - 1) - φ p0 (p1 + 1)) = φ p0 (p1 - 1) - φ p0 (p1 + 1) := IntWalk.i64_in _ (by omega)
 have v5 : IntKind.i64.wrap (φ (p0 + 1) p1 - φ (p0 - 1) p1) = φ (p0 + 1) p1 - φ (p0 - 1) p1 := IntWalk.i64_in _ (by omega)
 show Calls Tryz.prog 116 #[.agg #[.string name, .slice A la ca, .slice B lb cb, .slice Cl lc cl, .int .i64 r, .int .i64 z, .int .i64 nr, .int .i64 nz, .int .i64 step, .slice D ld cd], .agg #[.slice A1 na qa, .slice B1 nb qb, .slice C1 nc qc], .int .i64 p0, .int .i64 p1] w _
 go_enter Tryz.func116, Tryz.ntmps116
 go_upto_region 1 with (fail)
 have m0 : (((w.alloc (.cells #[.string name, .slice A la ca, .slice B lb cb, .slice Cl lc cl, .int .i64 r, .int .i64 z, .int .i64 nr, .int .i64 nz, .int .i64 step, .slice D ld cd] 29)).alloc (.cells #[.slice A1 na qa, .slice B1 nb qb, .slice C1 nc qc] 32))).cell? ⟨w.heap.size, 0, none⟩ = some (.string name) := by go_simp
 have m1 : (((w.alloc (.cells #[.string name, .slice A la ca, .slice B lb cb, .slice Cl lc cl, .int .i64 r, .int .i64 z, .int .i64 nr, .int .i64 nz, .int .i64 step, .slice D ld cd] 29)).alloc (.cells #[.slice A1 na qa, .slice B1 nb qb, .slice C1 nc qc] 32))).cell? ⟨w.heap.size, 1, none⟩ = some (.slice A la ca) := by go_simp
 have m2 : (((w.alloc (.cells #[.string name, .slice A la ca, .slice B lb cb, .slice Cl lc cl, .int .i64 r, .int .i64 z, .int .i64 nr, .int .i64 nz, .int .i64 step, .slice D ld cd] 29)).alloc (.cells #[.slice A1 na qa, .slice B1 nb qb, .slice C1 nc qc] 32))).cell? ⟨w.heap.size, 2, none⟩ = some (.slice B lb cb) := by go_simp
 have m3 : (((w.alloc (.cells #[.string name, .slice A la ca, .slice B lb cb, .slice Cl lc cl, .int .i64 r, .int .i64 z, .int .i64 nr, .int .i64 nz, .int .i64 step, .slice D ld cd] 29)).alloc (.cells #[.slice A1 na qa, .slice B1 nb qb, .slice C1 nc qc] 32))).cell? ⟨w.heap.size, 3, none⟩ = some (.slice Cl lc cl) := by go_simp
 have m4 : (((w.alloc (.cells #[.string name, .slice A la ca, .slice B lb cb, .slice Cl lc cl, .int .i64 r, .int .i64 z, .int .i64 nr, .int .i64 nz, .int .i64 step, .slice D ld cd] 29)).alloc (.cells #[.slice A1 na qa, .slice B1 nb qb, .slice C1 nc qc] 32))).cell? ⟨w.heap.size, 4, none⟩ = some (.int .i64 r) := by go_simp
 have m5 : (((w.alloc (.cells #[.string name, .slice A la ca, .slice B lb cb, .slice Cl lc cl, .int .i64 r, .int .i64 z, .int .i64 nr, .int .i64 nz, .int .i64 step, .slice D ld cd] 29)).alloc (.cells #[.slice A1 na qa, .slice B1 nb qb, .slice C1 nc qc] 32))).cell? ⟨w.heap.size, 5, none⟩ = some (.int .i64 z) := by go_simp
 have m6 : (((w.alloc (.cells #[.string name, .slice A la ca, .slice B lb cb, .slice Cl lc cl, .int .i64 r, .int .i64 z, .int .i64 nr, .int .i64 nz, .int .i64 step, .slice D ld cd] 29)).alloc (.cells #[.slice A1 na qa, .slice B1 nb qb, .slice C1 nc qc] 32))).cell? ⟨w.heap.size, 6, none⟩ = some (.int .i64 nr) := by go_simp
 have m7 : (((w.alloc (.cells #[.string name, .slice A la ca, .slice B lb cb, .slice Cl lc cl, .int .i64 r, .int .i64 z, .int .i64 nr, .int .i64 nz, .int .i64 step, .slice D ld cd] 29)).alloc (.cells #[.slice A1 na qa, .slice B1 nb qb, .slice C1 nc qc] 32))).cell? ⟨w.heap.size, 7, none⟩ = some (.int .i64 nz) := by go_simp
 have m8 : (((w.alloc (.cells #[.string name, .slice A la ca, .slice B lb cb, .slice Cl lc cl, .int .i64 r, .int .i64 z, .int .i64 nr, .int .i64 nz, .int .i64 step, .slice D ld cd] 29)).alloc (.cells #[.slice A1 na qa, .slice B1 nb qb, .slice C1 nc qc] 32))).cell? ⟨w.heap.size, 8, none⟩ = some (.int .i64 step) := by go_simp
 have m9 : (((w.alloc (.cells #[.string name, .slice A la ca, .slice B lb cb, .slice Cl lc cl, .int .i64 r, .int .i64 z, .int .i64 nr, .int .i64 nz, .int .i64 step, .slice D ld cd] 29)).alloc (.cells #[.slice A1 na qa, .slice B1 nb qb, .slice C1 nc qc] 32))).cell? ⟨w.heap.size, 9, none⟩ = some (.slice D ld cd) := by go_simp
 have q0 : (((w.alloc (.cells #[.string name, .slice A la ca, .slice B lb cb, .slice Cl lc cl, .int .i64 r, .int .i64 z, .int .i64 nr, .int .i64 nz, .int .i64 step, .slice D ld cd] 29)).alloc (.cells #[.slice A1 na qa, .slice B1 nb qb, .slice C1 nc qc] 32))).cell? ⟨w.heap.size + 1, 0, none⟩ = some (.slice A1 na qa) := by go_simp
 have q1 : (((w.alloc (.cells #[.string name, .slice A la ca, .slice B lb cb, .slice Cl lc cl, .int .i64 r, .int .i64 z, .int .i64 nr, .int .i64 nz, .int .i64 step, .slice D ld cd] 29)).alloc (.cells #[.slice A1 na qa, .slice B1 nb qb, .slice C1 nc qc] 32))).cell? ⟨w.heap.size + 1, 1, none⟩ = some (.slice B1 nb qb) := by go_simp
 have q2 : (((w.alloc (.cells #[.string name, .slice A la ca, .slice B lb cb, .slice Cl lc cl, .int .i64 r, .int .i64 z, .int .i64 nr, .int .i64 nz, .int .i64 step, .slice D ld cd] 29)).alloc (.cells #[.slice A1 na qa, .slice B1 nb qb, .slice C1 nc qc] 32))).cell? ⟨w.heap.size + 1, 2, none⟩ = some (.slice C1 nc qc) := by go_simp
 have hB0 : Below w.heap.size w (((w.alloc (.cells #[.string name, .slice A la ca, .slice B lb cb, .slice Cl lc cl, .int .i64 r, .int .i64 z, .int .i64 nr, .int .i64 nz, .int .i64 step, .slice D ld cd] 29)).alloc (.cells #[.slice A1 na qa, .slice B1 nb qb, .slice C1 nc qc] 32))) := by (repeat first | with_reducible exact Below.refl _ _ | (with_reducible refine Below.alloc ?_ ?_ _; rotate_left; exact (by first | omega | (simp; done))))
 have hz : w.heap.size + 1 < (((w.alloc (.cells #[.string name, .slice A la ca, .slice B lb cb, .slice Cl lc cl, .int .i64 r, .int .i64 z, .int .i64 nr, .int .i64 nz, .int .i64 step, .slice D ld cd] 29)).alloc (.cells #[.slice A1 na qa, .slice B1 nb qb, .slice C1 nc qc] 32))).heap.size := by simp
 obtain ⟨W0, hW0⟩ : ∃ W, ((w.alloc (.cells #[.string name, .slice A la ca, .slice B lb cb, .slice Cl lc cl, .int .i64 r, .int .i64 z, .int .i64 nr, .int .i64 nz, .int .i64 step, .slice D ld cd] 29)).alloc (.cells #[.slice A1 na qa, .slice B1 nb qb, .slice C1 nc qc] 32)) = W := ⟨_, rfl⟩
 rw [hW0] at m0 m1 m2 m3 m4 m5 m6 m7 m8 m9 q0 q1 q2 hB0 hz ⊢
 clear hW0
 have FM := Lib.hid (BoxL.mk10 (W := W0) (by omega) m0 m1 m2 m3 m4 m5 m6 m7 m8 m9)
 have FC := Lib.hid (BoxL.mk3 (W := W0) hz q0 q1 q2)
 clear m0 m1 m2 m3 m4 m5 m6 m7 m8 m9 q0 q1 q2
 have HS : Hid (∀ w' : World, Below W0.heap.size W0 w' → (Below W0.heap.size W0 w' ∧ w'.cell? ⟨w.heap.size, 0, none⟩ = some (.string name) ∧ w'.cell? ⟨w.heap.size, 1, none⟩ = some (.slice A la ca) ∧ w'.cell? ⟨w.heap.size, 2, none⟩ = some (.slice B lb cb) ∧ w'.cell? ⟨w.heap.size, 3, none⟩ = some (.slice Cl lc cl) ∧ w'.cell? ⟨w.heap.size, 4, none⟩ = some (.int .i64 r) ∧ w'.cell? ⟨w.heap.size, 5, none⟩ = some (.int .i64 z) ∧ w'.cell? ⟨w.heap.size, 6, none⟩ = some (.int .i64 nr) ∧ w'.cell? ⟨w.heap.size, 7, none⟩ = some (.int .i64 nz) ∧ w'.cell? ⟨w.heap.size, 8, none⟩ = some (.int .i64 step) ∧ w'.cell? ⟨w.heap.size, 9, none⟩ = some (.slice D ld cd) ∧ w'.cell? ⟨w.heap.size + 1, 0, none⟩ = some (.slice A1 na qa) ∧ w'.cell? ⟨w.heap.size + 1, 1, none⟩ = some (.slice B1 nb qb) ∧ w'.cell? ⟨w.heap.size + 1, 2, none⟩ = some (.slice C1 nc qc))) := Lib.hid (fun w' h => ⟨h, (FM.out.below h).at 0 (.string name) rfl, (FM.out.below h).at 1 (.slice A la ca) rfl, (FM.out.below h).at 2 (.slice B lb cb) rfl, (FM.out.below h).at 3 (.slice Cl lc cl) rfl, (FM.out.below h).at 4 (.int .i64 r) rfl, (FM.out.below h).at 5 (.int .i64 z) rfl, (FM.out.below h).at 6 (.int .i64 nr) rfl, (FM.out.below h).at 7 (.int .i64 nz) rfl, (FM.out.below h).at 8 (.int .i64 step) rfl, (FM.out.below h).at 9 (.slice D ld cd) rfl, (FC.out.below h).at 0 (.slice A1 na qa) rfl, (FC.out.below h).at 1 (.slice B1 nb qb) rfl, (FC.out.below h).at 2 (.slice C1 nc qc) rfl⟩)
 have HB : Hid (∀ w' : World, Below W0.heap.size W0 w' → Below w.heap.size w w') := Lib.hid (fun w' h => hB0.trans (h.mono (by omega)))
 have m0 := (FM.out.below (Below.refl _ _)).at 0 (.string name) rfl
 have m1 := (FM.out.below (Below.refl _ _)).at 1 (.slice A la ca) rfl
 have m2 := (FM.out.below (Below.refl _ _)).at 2 (.slice B lb cb) rfl
 have m3 := (FM.out.below (Below.refl _ _)).at 3 (.slice Cl lc cl) rfl
 have m4 := (FM.out.below (Below.refl _ _)).at 4 (.int .i64 r) rfl
 have m5 := (FM.out.below (Below.refl _ _)).at 5 (.int .i64 z) rfl
 have m6 := (FM.out.below (Below.refl _ _)).at 6 (.int .i64 nr) rfl
 have m7 := (FM.out.below (Below.refl _ _)).at 7 (.int .i64 nz) rfl
 have m8 := (FM.out.below (Below.refl _ _)).at 8 (.int .i64 step) rfl
 have m9 := (FM.out.below (Below.refl _ _)).at 9 (.slice D ld cd) rfl
 have q0 := (FC.out.below (Below.refl _ _)).at 0 (.slice A1 na qa) rfl
 have q1 := (FC.out.below (Below.refl _ _)).at 1 (.slice B1 nb qb) rfl
 have q2 := (FC.out.below (Below.refl _ _)).at 2 (.slice C1 nc qc) rfl
 go_region_held3 (fun w' => Below W0.heap.size W0 w' ∧ w'.cell? ⟨w.heap.size, 0, none⟩ = some (.string name) ∧ w'.cell? ⟨w.heap.size, 1, none⟩ = some (.slice A la ca) ∧ w'.cell? ⟨w.heap.size, 2, none⟩ = some (.slice B lb cb) ∧ w'.cell? ⟨w.heap.size, 3, none⟩ = some (.slice Cl lc cl) ∧ w'.cell? ⟨w.heap.size, 4, none⟩ = some (.int .i64 r) ∧ w'.cell? ⟨w.heap.size, 5, none⟩ = some (.int .i64 z) ∧ w'.cell? ⟨w.heap.size, 6, none⟩ = some (.int .i64 nr) ∧ w'.cell? ⟨w.heap.size, 7, none⟩ = some (.int .i64 nz) ∧ w'.cell? ⟨w.heap.size, 8, none⟩ = some (.int .i64 step) ∧ w'.cell? ⟨w.heap.size, 9, none⟩ = some (.slice D ld cd) ∧ w'.cell? ⟨w.heap.size + 1, 0, none⟩ = some (.slice A1 na qa) ∧ w'.cell? ⟨w.heap.size + 1, 1, none⟩ = some (.slice B1 nb qb) ∧ w'.cell? ⟨w.heap.size + 1, 2, none⟩ = some (.slice C1 nc qc)) (exact HS.out _ (by (repeat first | with_reducible exact Below.refl _ _ | with_reducible assumption | with_reducible refine Below.drew ?_))) ((go_at_call 117; refine (HF.out _ _ _ (HB.out _ (by (repeat first | with_reducible assumption | with_reducible exact (‹Below _ _ _ ∧ _›).1)))).mono ?_; rintro e wf ⟨rfl, hbf⟩; have hBf : Below W0.heap.size W0 wf := Below.trans (by (repeat first | with_reducible assumption | with_reducible exact (‹Below _ _ _ ∧ _›).1)) (hbf.mono (by (try simp only [World.size_alloc, size_drew]); omega)); have szf := hBf.size) )
 all_goals go_wp2_with fail
 all_goals go_ret2
 all_goals exact ⟨rfl, HB.out _ (by (repeat with_reducible assumption))⟩
end
section
open Go.RowKit Go.Shelf
def plasB (n : Int) (l : List Int) : Bool := decide ((l.length : Int) = n) && (allW l 0 1000000 && decide (tot 0 l ≤ 1000000))
theorem allW_drop {l : List Int} {k : Nat} {x : Int} (h : l[k]? = some x) (a b : Int) : allW (l.drop k) a b = (wthn x a b && allW (l.drop (k + 1)) a b) := by
 obtain ⟨hk, rfl⟩ := List.getElem?_eq_some_iff.1 h
 unfold allW
 rw [List.drop_eq_getElem_cons hk]
 rfl
set_option maxRecDepth 100000 in
set_option maxHeartbeats 4000000 in
theorem rplasma_any (name : ByteArray) (A B Cl D : Option Addr) (la ca lb cb lc cl ld cd : Nat) (r z nr nz step : Int) (A1 : Option Addr) (len cap : Nat) (zs : List Int) (w : World) (hI : IsT 1 intCells w A1 len zs) (hl : len ≤ 1000000000000000) (h0 : 1 ≤ nr * nz) (h1 : nr * nz ≤ 64) :
  Calls Tryz.prog 93 #[.agg #[.string name, .slice A la ca, .slice B lb cb, .slice Cl lc cl, .int .i64 r, .int .i64 z, .int .i64 nr, .int .i64 nz, .int .i64 step, .slice D ld cd], .slice A1 len cap] w (Ret (.bool (plasB (nr * nz) zs)) w) := by
 have hlen := hI.1
 have HI := Lib.hid hI
 clear hI
 have u0 : IntKind.i64.wrap (nr * nz) = nr * nz := IntWalk.i64_in _ (by omega)
 have HG : Hid (plasB (nr * nz) zs = (decide ((len : Int) = nr * nz) && (allW (zs.drop 0) 0 1000000 && decide (tot 0 (zs.drop 0) ≤ 1000000)))) := Lib.hid (by unfold plasB; rw [hlen]; rfl)
 generalize plasB (nr * nz) zs = G at *
 by_cases b5 : (len : Int) = nr * nz
 ·have e5 : ((len : Int) == nr * nz) = true := by rw [b5]; simp
  have HG2 : Hid ((allW (zs.drop 0) 0 1000000 && decide (tot 0 (zs.drop 0) ≤ 1000000)) = G) := Lib.hid (by rw [HG.out, decide_eq_true b5, Bool.true_and])
  clear HG
  go_enter Tryz.func93, Tryz.ntmps93
  go_wp2_with fail
  go_loopw [5, 6] (fun s i wr => ∃ (j : Nat) (t : Int), j ≤ len ∧ i = .int .i64 j ∧ s = .int .i64 t ∧ Hid ((allW (zs.drop j) 0 1000000 && decide (tot t (zs.drop j) ≤ 1000000)) = G) ∧ Below w.heap.size w wr) (fun _ i _ => len - (intOf i).toNat)
  case atStart => exact ⟨0, 0, Nat.zero_le _, rfl, rfl, HG2, by (repeat first | with_reducible exact Below.refl _ _ | (with_reducible refine Below.alloc ?_ ?_ _; rotate_left; exact (by omega)))⟩
  case round =>
   obtain ⟨j, t, hj, rfl, rfl, hG, hB⟩ := hrel
   have sz0 := hB.size
   by_cases hlt : j < len
   ·obtain ⟨hzl, hcl⟩ := HI.out.below hB
    obtain ⟨b, o, rfl, hb0, hcl⟩ := hcl (by omega)
    obtain ⟨x, hx⟩ : ∃ x, zs[j]? = some x := ⟨_, List.getElem?_eq_getElem (by omega)⟩
    have x0 : wr.cell? ⟨b, o + j, none⟩ = some (.int .i64 x) := by have h := hcl j x hx 0 _ rfl; simpa using h
    have HS : Hid (((wthn x 0 1000000 && allW (zs.drop (j + 1)) 0 1000000) && decide (tot (wrap64 (t + x)) (zs.drop (j + 1)) ≤ 1000000)) = G) := Lib.hid (by
     have h := hG.out
     rw [tot_drop hx, allW_drop hx] at h
     exact h)
    clear hcl hx hzl hG
    have jc : (0 : Int) ≤ j := by omega
    have jn : ((j : Int)).toNat = j := by omega
    cases hv : wthn x 0 1000000
    ·have HF : Hid (false = G) := Lib.hid (by rw [← HS.out, hv]; rfl)
     clear HS
     go_wp2_with (go_at_call 94; refine (rwithin2_any _ _ _ _).mono ?_; rintro e w2 ⟨rfl, rfl⟩)
     go_ret
     exact ⟨by rw [← HF.out]; first | rfl | (rw [hv]), by (repeat with_reducible assumption)⟩
    ·have HN : Hid ((allW (zs.drop (j + 1)) 0 1000000 && decide (tot (wrap64 (t + x)) (zs.drop (j + 1)) ≤ 1000000)) = G) := Lib.hid (by rw [← HS.out, hv]; rfl)
     clear HS
     go_wp2_with (go_at_call 94; refine (rwithin2_any _ _ _ _).mono ?_; rintro e w2 ⟨rfl, rfl⟩)
     go_roundw
     case rel => exact ⟨j + 1, wrap64 (t + x), by omega, by go_num, rfl, HN, by (repeat with_reducible assumption)⟩
     case measure => simp [intOf]; omega
   ·have je : j = len := by omega
    have hE : Hid (decide (t ≤ 1000000) = G) := Lib.hid (by
     have h := hG.out
     rw [List.drop_of_length_le (by omega)] at h
     exact h)
    clear hG
    go_wp2_with fail
    go_ret
    exact ⟨by rw [← hE.out]; rfl, by (repeat with_reducible assumption)⟩
 ·have e5 : ((len : Int) == nr * nz) = false := by rw [beq_eq_false_iff_ne]; exact b5
  have HF : Hid (false = G) := Lib.hid (by rw [HG.out, decide_eq_false b5]; rfl)
  clear HG
  go_enter Tryz.func93, Tryz.ntmps93
  go_wp2_with fail
  go_ret
  exact ⟨by rw [← HF.out]; rfl, by (repeat first | with_reducible exact Below.refl _ _ | (with_reducible refine Below.alloc ?_ ?_ _; rotate_left; exact (by omega)))⟩
end
section
open Go.RowKit Go.Shelf
set_option maxRecDepth 100000 in
set_option maxHeartbeats 8000000 in
theorem rvalid2_any (R : MachR) (M : MachD) (Qr : CurR) (Cd : CurD) (w : World) (hM : IsM w R M) (hC : IsC w Qr Cd) :
  Calls Tryz.prog 54 #[.agg (machCells R M), Qr.v] w (Ret (.bool (validC M Cd)) w) := by
 have ea := hM.coils.1
 have eb := hM.shells.1
 have n1 := hC.coils.1
 have n2 := hC.shells.1
 have n3 := hC.plasma.1
 have k1 := hC.ka
 have k2 := hC.kb
 have k3 := hC.kc
 have H0 := Lib.hid (fun V (hb : Below w.heap.size w V) => rcheck_any R M V (hM.below hb))
 have HP : Hid (checkC M = 0 → ∀ V, Below w.heap.size w V → Calls Tryz.prog 93 #[.agg (machCells R M), .slice Qr.C Qr.lc Qr.cc] V (Ret (.bool (plasB (M.grid.nr * M.grid.nz) Cd.plasma)) V)) := Lib.hid (fun h V hb => by
  have hf := cells_fine (sound_of h).grid
  exact rplasma_any M.name R.A R.B R.C R.D R.la R.ca R.lb R.cb R.lc R.cc R.ld R.cd M.grid.r M.grid.z M.grid.nr M.grid.nz M.grid.step Qr.C Qr.lc Qr.cc Cd.plasma V (hC.below hb).plasma k3 hf.1 hf.2)
 have I1 := Lib.hid hC.coils
 have I2 := Lib.hid hC.shells
 have HE : Hid (validC M Cd = (decide (checkC M = 0) && (decide (Qr.la = R.la) && (decide (Qr.lb = R.lb) && (plasB (M.grid.nr * M.grid.nz) Cd.plasma && (allW Cd.coils (-1000000) 1000000 && allW Cd.shells (-1000000) 1000000)))))) := Lib.hid (by
  unfold validC plasB
  rw [n1, n2, ea, eb]
  cases decide (checkC M = 0) <;> cases decide (Qr.la = R.la) <;> cases decide (Qr.lb = R.lb) <;> cases allW Cd.coils (-1000000) 1000000 <;> cases allW Cd.shells (-1000000) 1000000 <;> simp)
 clear hM hC
 generalize validC M Cd = G at *
 generalize hE0 : checkC M = E0 at *
 obtain ⟨A, B, Cl, D, la, ca, lb, cb, lc, cl, ld, cd⟩ := R
 obtain ⟨name, coils, shells, limits, ⟨r, z, nr, nz, step⟩, sensors⟩ := M
 obtain ⟨A1, B1, C1, na, qa, nb, qb, nc, qc⟩ := Qr
 obtain ⟨z1, z2, z3⟩ := Cd
 dsimp only [machCells, CurR.v] at *
 generalize plasB (nr * nz) z3 = P at *
 clear ea eb n3 k3 hE0
 show Calls Tryz.prog 54 #[.agg #[.string name, .slice A la ca, .slice B lb cb, .slice Cl lc cl, .int .i64 r, .int .i64 z, .int .i64 nr, .int .i64 nz, .int .i64 step, .slice D ld cd], .agg #[.slice A1 na qa, .slice B1 nb qb, .slice C1 nc qc]] w _
 go_enter Tryz.func54, Tryz.ntmps54
 go_upto_region 1 with (fail)
 have m0 : (((w.alloc (.cells #[.string name, .slice A la ca, .slice B lb cb, .slice Cl lc cl, .int .i64 r, .int .i64 z, .int .i64 nr, .int .i64 nz, .int .i64 step, .slice D ld cd] 29)).alloc (.cells #[.slice A1 na qa, .slice B1 nb qb, .slice C1 nc qc] 32))).cell? ⟨w.heap.size, 0, none⟩ = some (.string name) := by go_simp
 have m1 : (((w.alloc (.cells #[.string name, .slice A la ca, .slice B lb cb, .slice Cl lc cl, .int .i64 r, .int .i64 z, .int .i64 nr, .int .i64 nz, .int .i64 step, .slice D ld cd] 29)).alloc (.cells #[.slice A1 na qa, .slice B1 nb qb, .slice C1 nc qc] 32))).cell? ⟨w.heap.size, 1, none⟩ = some (.slice A la ca) := by go_simp
 have m2 : (((w.alloc (.cells #[.string name, .slice A la ca, .slice B lb cb, .slice Cl lc cl, .int .i64 r, .int .i64 z, .int .i64 nr, .int .i64 nz, .int .i64 step, .slice D ld cd] 29)).alloc (.cells #[.slice A1 na qa, .slice B1 nb qb, .slice C1 nc qc] 32))).cell? ⟨w.heap.size, 2, none⟩ = some (.slice B lb cb) := by go_simp
 have m3 : (((w.alloc (.cells #[.string name, .slice A la ca, .slice B lb cb, .slice Cl lc cl, .int .i64 r, .int .i64 z, .int .i64 nr, .int .i64 nz, .int .i64 step, .slice D ld cd] 29)).alloc (.cells #[.slice A1 na qa, .slice B1 nb qb, .slice C1 nc qc] 32))).cell? ⟨w.heap.size, 3, none⟩ = some (.slice Cl lc cl) := by go_simp
 have m4 : (((w.alloc (.cells #[.string name, .slice A la ca, .slice B lb cb, .slice Cl lc cl, .int .i64 r, .int .i64 z, .int .i64 nr, .int .i64 nz, .int .i64 step, .slice D ld cd] 29)).alloc (.cells #[.slice A1 na qa, .slice B1 nb qb, .slice C1 nc qc] 32))).cell? ⟨w.heap.size, 4, none⟩ = some (.int .i64 r) := by go_simp
 have m5 : (((w.alloc (.cells #[.string name, .slice A la ca, .slice B lb cb, .slice Cl lc cl, .int .i64 r, .int .i64 z, .int .i64 nr, .int .i64 nz, .int .i64 step, .slice D ld cd] 29)).alloc (.cells #[.slice A1 na qa, .slice B1 nb qb, .slice C1 nc qc] 32))).cell? ⟨w.heap.size, 5, none⟩ = some (.int .i64 z) := by go_simp
 have m6 : (((w.alloc (.cells #[.string name, .slice A la ca, .slice B lb cb, .slice Cl lc cl, .int .i64 r, .int .i64 z, .int .i64 nr, .int .i64 nz, .int .i64 step, .slice D ld cd] 29)).alloc (.cells #[.slice A1 na qa, .slice B1 nb qb, .slice C1 nc qc] 32))).cell? ⟨w.heap.size, 6, none⟩ = some (.int .i64 nr) := by go_simp
 have m7 : (((w.alloc (.cells #[.string name, .slice A la ca, .slice B lb cb, .slice Cl lc cl, .int .i64 r, .int .i64 z, .int .i64 nr, .int .i64 nz, .int .i64 step, .slice D ld cd] 29)).alloc (.cells #[.slice A1 na qa, .slice B1 nb qb, .slice C1 nc qc] 32))).cell? ⟨w.heap.size, 7, none⟩ = some (.int .i64 nz) := by go_simp
 have m8 : (((w.alloc (.cells #[.string name, .slice A la ca, .slice B lb cb, .slice Cl lc cl, .int .i64 r, .int .i64 z, .int .i64 nr, .int .i64 nz, .int .i64 step, .slice D ld cd] 29)).alloc (.cells #[.slice A1 na qa, .slice B1 nb qb, .slice C1 nc qc] 32))).cell? ⟨w.heap.size, 8, none⟩ = some (.int .i64 step) := by go_simp
 have m9 : (((w.alloc (.cells #[.string name, .slice A la ca, .slice B lb cb, .slice Cl lc cl, .int .i64 r, .int .i64 z, .int .i64 nr, .int .i64 nz, .int .i64 step, .slice D ld cd] 29)).alloc (.cells #[.slice A1 na qa, .slice B1 nb qb, .slice C1 nc qc] 32))).cell? ⟨w.heap.size, 9, none⟩ = some (.slice D ld cd) := by go_simp
 have q0 : (((w.alloc (.cells #[.string name, .slice A la ca, .slice B lb cb, .slice Cl lc cl, .int .i64 r, .int .i64 z, .int .i64 nr, .int .i64 nz, .int .i64 step, .slice D ld cd] 29)).alloc (.cells #[.slice A1 na qa, .slice B1 nb qb, .slice C1 nc qc] 32))).cell? ⟨w.heap.size + 1, 0, none⟩ = some (.slice A1 na qa) := by go_simp
 have q1 : (((w.alloc (.cells #[.string name, .slice A la ca, .slice B lb cb, .slice Cl lc cl, .int .i64 r, .int .i64 z, .int .i64 nr, .int .i64 nz, .int .i64 step, .slice D ld cd] 29)).alloc (.cells #[.slice A1 na qa, .slice B1 nb qb, .slice C1 nc qc] 32))).cell? ⟨w.heap.size + 1, 1, none⟩ = some (.slice B1 nb qb) := by go_simp
 have q2 : (((w.alloc (.cells #[.string name, .slice A la ca, .slice B lb cb, .slice Cl lc cl, .int .i64 r, .int .i64 z, .int .i64 nr, .int .i64 nz, .int .i64 step, .slice D ld cd] 29)).alloc (.cells #[.slice A1 na qa, .slice B1 nb qb, .slice C1 nc qc] 32))).cell? ⟨w.heap.size + 1, 2, none⟩ = some (.slice C1 nc qc) := by go_simp
 have hB0 : Below w.heap.size w (((w.alloc (.cells #[.string name, .slice A la ca, .slice B lb cb, .slice Cl lc cl, .int .i64 r, .int .i64 z, .int .i64 nr, .int .i64 nz, .int .i64 step, .slice D ld cd] 29)).alloc (.cells #[.slice A1 na qa, .slice B1 nb qb, .slice C1 nc qc] 32))) := by (repeat first | with_reducible exact Below.refl _ _ | (with_reducible refine Below.alloc ?_ ?_ _; rotate_left; exact (by first | omega | (simp; done))))
 have hz : w.heap.size + 1 < (((w.alloc (.cells #[.string name, .slice A la ca, .slice B lb cb, .slice Cl lc cl, .int .i64 r, .int .i64 z, .int .i64 nr, .int .i64 nz, .int .i64 step, .slice D ld cd] 29)).alloc (.cells #[.slice A1 na qa, .slice B1 nb qb, .slice C1 nc qc] 32))).heap.size := by simp
 obtain ⟨W0, hW0⟩ : ∃ W, ((w.alloc (.cells #[.string name, .slice A la ca, .slice B lb cb, .slice Cl lc cl, .int .i64 r, .int .i64 z, .int .i64 nr, .int .i64 nz, .int .i64 step, .slice D ld cd] 29)).alloc (.cells #[.slice A1 na qa, .slice B1 nb qb, .slice C1 nc qc] 32)) = W := ⟨_, rfl⟩
 rw [hW0] at m0 m1 m2 m3 m4 m5 m6 m7 m8 m9 q0 q1 q2 hB0 hz ⊢
 clear hW0
 have FM := Lib.hid (BoxL.mk10 (W := W0) (by omega) m0 m1 m2 m3 m4 m5 m6 m7 m8 m9)
 have FC := Lib.hid (BoxL.mk3 (W := W0) hz q0 q1 q2)
 clear m0 m1 m2 m3 m4 m5 m6 m7 m8 m9 q0 q1 q2
 have HB : Hid (∀ w' : World, Below W0.heap.size W0 w' → Below w.heap.size w w') := Lib.hid (fun w' h => hB0.trans (h.mono (by omega)))
 have m0 := (FM.out.below (Below.refl _ _)).at 0 (.string name) rfl
 have m1 := (FM.out.below (Below.refl _ _)).at 1 (.slice A la ca) rfl
 have m2 := (FM.out.below (Below.refl _ _)).at 2 (.slice B lb cb) rfl
 have m3 := (FM.out.below (Below.refl _ _)).at 3 (.slice Cl lc cl) rfl
 have m4 := (FM.out.below (Below.refl _ _)).at 4 (.int .i64 r) rfl
 have m5 := (FM.out.below (Below.refl _ _)).at 5 (.int .i64 z) rfl
 have m6 := (FM.out.below (Below.refl _ _)).at 6 (.int .i64 nr) rfl
 have m7 := (FM.out.below (Below.refl _ _)).at 7 (.int .i64 nz) rfl
 have m8 := (FM.out.below (Below.refl _ _)).at 8 (.int .i64 step) rfl
 have m9 := (FM.out.below (Below.refl _ _)).at 9 (.slice D ld cd) rfl
 have q0 := (FC.out.below (Below.refl _ _)).at 0 (.slice A1 na qa) rfl
 have q1 := (FC.out.below (Below.refl _ _)).at 1 (.slice B1 nb qb) rfl
 have q2 := (FC.out.below (Below.refl _ _)).at 2 (.slice C1 nc qc) rfl
 go_wp2_with fail
 refine (H0.out _ (HB.out _ (by (repeat with_reducible exact Below.refl _ _)))).mono ?_
 rintro e w1 ⟨rfl, hb⟩
 have hB1 : Below W0.heap.size W0 w1 := Below.trans (by (repeat with_reducible exact Below.refl _ _)) (hb.mono (by (try simp only [World.size_alloc, size_drew]); omega))
 clear hb m0 m1 m2 m3 m4 m5 m6 m7 m8 m9 q0 q1 q2
 have sz1 := hB1.size
 have m0 := (FM.out.below hB1).at 0 (.string name) rfl
 have m1 := (FM.out.below hB1).at 1 (.slice A la ca) rfl
 have m2 := (FM.out.below hB1).at 2 (.slice B lb cb) rfl
 have m3 := (FM.out.below hB1).at 3 (.slice Cl lc cl) rfl
 have m4 := (FM.out.below hB1).at 4 (.int .i64 r) rfl
 have m5 := (FM.out.below hB1).at 5 (.int .i64 z) rfl
 have m6 := (FM.out.below hB1).at 6 (.int .i64 nr) rfl
 have m7 := (FM.out.below hB1).at 7 (.int .i64 nz) rfl
 have m8 := (FM.out.below hB1).at 8 (.int .i64 step) rfl
 have m9 := (FM.out.below hB1).at 9 (.slice D ld cd) rfl
 have q0 := (FC.out.below hB1).at 0 (.slice A1 na qa) rfl
 have q1 := (FC.out.below hB1).at 1 (.slice B1 nb qb) rfl
 have q2 := (FC.out.below hB1).at 2 (.slice C1 nc qc) rfl
 by_cases b0 : E0 = 0
 ·have e0 : (E0 == 0) = true := by rw [b0]; rfl
  by_cases b1 : na = la
  ·have e1 := (int_eq na la).trans (decide_eq_true b1)
   by_cases b2 : nb = lb
   ·have e2 := (int_eq nb lb).trans (decide_eq_true b2)
    have HP2 := Lib.hid (HP.out b0)
    cases P
    ·have HF : Hid (false = G) := Lib.hid (by rw [HE.out]; simp)
     go_wp2_with fail
     refine (HP2.out _ (HB.out _ (by (repeat with_reducible assumption)))).mono ?_
     rintro e w2 ⟨rfl, hb2⟩
     have hB2 : Below W0.heap.size W0 w2 := Below.trans (by (repeat with_reducible assumption)) (hb2.mono (by (try simp only [World.size_alloc, size_drew]); omega))
     go_wp2_with fail
     go_ret
     exact ⟨by rw [← HF.out]; rfl, HB.out _ (by (repeat with_reducible assumption))⟩
    ·have HG : Hid ((allW (z1.drop 0) (-1000000) 1000000 && allW z2 (-1000000) 1000000) = G) := Lib.hid (by rw [HE.out, decide_eq_true b0, decide_eq_true b1, decide_eq_true b2]; simp)
     go_wp2_with fail
     refine (HP2.out _ (HB.out _ (by (repeat with_reducible assumption)))).mono ?_
     rintro e w2 ⟨rfl, hb2⟩
     have hB2 : Below W0.heap.size W0 w2 := Below.trans (by (repeat with_reducible assumption)) (hb2.mono (by (try simp only [World.size_alloc, size_drew]); omega))
     clear hb2 m0 m1 m2 m3 m4 m5 m6 m7 m8 m9 q0 q1 q2
     go_wp2_with fail
     go_loopw [5] (fun i wr => ∃ (j : Nat), j ≤ na ∧ i = .int .i64 j ∧ Hid ((allW (z1.drop j) (-1000000) 1000000 && allW z2 (-1000000) 1000000) = G) ∧ Below W0.heap.size W0 wr) (fun i _ => na - (intOf i).toNat)
     case atStart => exact ⟨0, Nat.zero_le _, rfl, HG, by (repeat with_reducible assumption)⟩
     case round =>
      obtain ⟨j, hj, rfl, hG, hBx⟩ := hrel
      have szx := hBx.size
      have m0 := (FM.out.below hBx).at 0 (.string name) rfl
      have m1 := (FM.out.below hBx).at 1 (.slice A la ca) rfl
      have m2 := (FM.out.below hBx).at 2 (.slice B lb cb) rfl
      have m3 := (FM.out.below hBx).at 3 (.slice Cl lc cl) rfl
      have m4 := (FM.out.below hBx).at 4 (.int .i64 r) rfl
      have m5 := (FM.out.below hBx).at 5 (.int .i64 z) rfl
      have m6 := (FM.out.below hBx).at 6 (.int .i64 nr) rfl
      have m7 := (FM.out.below hBx).at 7 (.int .i64 nz) rfl
      have m8 := (FM.out.below hBx).at 8 (.int .i64 step) rfl
      have m9 := (FM.out.below hBx).at 9 (.slice D ld cd) rfl
      have q0 := (FC.out.below hBx).at 0 (.slice A1 na qa) rfl
      have q1 := (FC.out.below hBx).at 1 (.slice B1 nb qb) rfl
      have q2 := (FC.out.below hBx).at 2 (.slice C1 nc qc) rfl
      by_cases hlt : j < na
      ·obtain ⟨hzl, hcl⟩ := (I1.out.below (HB.out _ hBx))
       obtain ⟨b, o, rfl, hb0, hcl⟩ := hcl (by omega)
       obtain ⟨x, hx⟩ : ∃ x, z1[j]? = some x := ⟨_, List.getElem?_eq_getElem (by omega)⟩
       have x0 : wr.cell? ⟨b, o + j, none⟩ = some (.int .i64 x) := by have h := hcl j x hx 0 _ rfl; simpa using h
       have HS : Hid (((wthn x (-1000000) 1000000 && allW (z1.drop (j + 1)) (-1000000) 1000000) && allW z2 (-1000000) 1000000) = G) := Lib.hid (by
        have h := hG.out
        rw [allW_drop hx] at h
        exact h)
       clear hcl hx hzl hG
       have jc : (0 : Int) ≤ j := by omega
       have jn : ((j : Int)).toNat = j := by omega
       cases hv : wthn x (-1000000) 1000000
       ·have HF : Hid (false = G) := Lib.hid (by rw [← HS.out, hv]; rfl)
        clear HS
        go_wp2_with (go_at_call 94; refine (rwithin2_any _ _ _ _).mono ?_; rintro e w7 ⟨rfl, rfl⟩)
        go_ret
        exact ⟨by rw [← HF.out]; first | rfl | (rw [hv]), HB.out _ (by (repeat with_reducible assumption))⟩
       ·have HN : Hid ((allW (z1.drop (j + 1)) (-1000000) 1000000 && allW z2 (-1000000) 1000000) = G) := Lib.hid (by rw [← HS.out, hv]; rfl)
        clear HS
        go_wp2_with (go_at_call 94; refine (rwithin2_any _ _ _ _).mono ?_; rintro e w7 ⟨rfl, rfl⟩)
        go_roundw
        case rel => exact ⟨j + 1, by omega, by go_num, HN, by (repeat with_reducible assumption)⟩
        case measure => simp [intOf]; omega
      ·have HG2 : Hid (allW (z2.drop 0) (-1000000) 1000000 = G) := Lib.hid (by
        have h := hG.out
        rw [List.drop_of_length_le (by omega)] at h
        exact h)
       clear hG
       have hlt2 : ¬ j < la := by omega
       go_wp2_with fail
       go_loopw [6] (fun i wr => ∃ (j : Nat), j ≤ nb ∧ i = .int .i64 j ∧ Hid (allW (z2.drop j) (-1000000) 1000000 = G) ∧ Below W0.heap.size W0 wr) (fun i _ => nb - (intOf i).toNat)
       case atStart => exact ⟨0, Nat.zero_le _, rfl, HG2, by (repeat with_reducible assumption)⟩
       case round =>
        clear m0 m1 m2 m3 m4 m5 m6 m7 m8 m9 q0 q1 q2
        obtain ⟨j, hj, rfl, hG, hBx⟩ := hrel
        have szx := hBx.size
        have m0 := (FM.out.below hBx).at 0 (.string name) rfl
        have m1 := (FM.out.below hBx).at 1 (.slice A la ca) rfl
        have m2 := (FM.out.below hBx).at 2 (.slice B lb cb) rfl
        have m3 := (FM.out.below hBx).at 3 (.slice Cl lc cl) rfl
        have m4 := (FM.out.below hBx).at 4 (.int .i64 r) rfl
        have m5 := (FM.out.below hBx).at 5 (.int .i64 z) rfl
        have m6 := (FM.out.below hBx).at 6 (.int .i64 nr) rfl
        have m7 := (FM.out.below hBx).at 7 (.int .i64 nz) rfl
        have m8 := (FM.out.below hBx).at 8 (.int .i64 step) rfl
        have m9 := (FM.out.below hBx).at 9 (.slice D ld cd) rfl
        have q0 := (FC.out.below hBx).at 0 (.slice A1 na qa) rfl
        have q1 := (FC.out.below hBx).at 1 (.slice B1 nb qb) rfl
        have q2 := (FC.out.below hBx).at 2 (.slice C1 nc qc) rfl
        by_cases hlt : j < nb
        ·obtain ⟨hzl, hcl⟩ := (I2.out.below (HB.out _ hBx))
         obtain ⟨b, o, rfl, hb0, hcl⟩ := hcl (by omega)
         obtain ⟨x, hx⟩ : ∃ x, z2[j]? = some x := ⟨_, List.getElem?_eq_getElem (by omega)⟩
         have x0 : wr.cell? ⟨b, o + j, none⟩ = some (.int .i64 x) := by have h := hcl j x hx 0 _ rfl; simpa using h
         have HS : Hid ((wthn x (-1000000) 1000000 && allW (z2.drop (j + 1)) (-1000000) 1000000) = G) := Lib.hid (by
          have h := hG.out
          rw [allW_drop hx] at h
          exact h)
         clear hcl hx hzl hG
         have jc : (0 : Int) ≤ j := by omega
         have jn : ((j : Int)).toNat = j := by omega
         cases hv : wthn x (-1000000) 1000000
         ·have HF : Hid (false = G) := Lib.hid (by rw [← HS.out, hv]; rfl)
          clear HS
          go_wp2_with (go_at_call 94; refine (rwithin2_any _ _ _ _).mono ?_; rintro e w7 ⟨rfl, rfl⟩)
          go_ret
          exact ⟨by rw [← HF.out]; first | rfl | (rw [hv]), HB.out _ (by (repeat with_reducible assumption))⟩
         ·have HN : Hid (allW (z2.drop (j + 1)) (-1000000) 1000000 = G) := Lib.hid (by rw [← HS.out, hv]; rfl)
          clear HS
          go_wp2_with (go_at_call 94; refine (rwithin2_any _ _ _ _).mono ?_; rintro e w7 ⟨rfl, rfl⟩)
          go_roundw
          case rel => exact ⟨j + 1, by omega, by go_num, HN, by (repeat with_reducible assumption)⟩
          case measure => simp [intOf]; omega
        ·have HF : Hid (true = G) := Lib.hid (by
          have h := hG.out
          rw [List.drop_of_length_le (by omega)] at h
          exact h)
         clear hG
         go_wp2_with fail
         go_ret
         exact ⟨by rw [← HF.out]; rfl, HB.out _ (by (repeat with_reducible assumption))⟩
   ·have e2 := (int_eq nb lb).trans (decide_eq_false b2)
    have HF : Hid (false = G) := Lib.hid (by rw [HE.out, decide_eq_false b2]; simp)
    go_wp2_with fail
    go_ret
    exact ⟨by rw [← HF.out]; rfl, HB.out _ (by (repeat with_reducible assumption))⟩
  ·have e1 := (int_eq na la).trans (decide_eq_false b1)
   have HF : Hid (false = G) := Lib.hid (by rw [HE.out, decide_eq_false b1]; simp)
   go_wp2_with fail
   go_ret
   exact ⟨by rw [← HF.out]; rfl, HB.out _ (by (repeat with_reducible assumption))⟩
 ·have e0 : (E0 == 0) = false := by rw [beq_eq_false_iff_ne]; exact b0
  have HF : Hid (false = G) := Lib.hid (by rw [HE.out, decide_eq_false b0]; rfl)
  go_wp2_with fail
  go_ret
  exact ⟨by rw [← HF.out]; rfl, HB.out _ (by (repeat with_reducible assumption))⟩
end
section
open Go.RowKit
theorem rcellsN_any (R : MachR) (M : MachD) (w : World) (hM : IsM w R M) : Calls Tryz.prog 34 #[.agg (machCells R M)] w (Ret (.int .i64 (cellsN M)) w) := rcells2_any R M w hM
end
end Go.Proofs.YtapldonpflgnfaaGreatDoor
