import Derived.Test.YtfpjhobhmcfpnaaDoorJAQ
import Derived.Test.YtfpjhobhmcfpnaaDoorJAS
section
/- Package sense: Filament, over this seat's translation (written by mk_fil.py). -/
namespace Go.Proofs.YtfpjhobhmcfpnaaDoor
set_option linter.unusedVariables false
set_option linter.unusedSimpArgs false
open Go.RowKit Go.Shelf

theorem resT {fn : Func} {p u : Tmp} (h : fn.results = #[.cell p 32, .tmp u]) (tmps : Array Value) (W : World) (b : Nat) (x y z e : Value)
    (hp : tmps.getD p undef = .pointer (some ⟨b, 0, none⟩)) (hu : tmps.getD u undef = e) (h0 : (W.cell? ⟨b, 0, none⟩).isSome = true) (h1 : (W.cell? ⟨b, 1, none⟩).isSome = true) (h2 : (W.cell? ⟨b, 2, none⟩).isSome = true) :
    (results fn tmps).run Tryd.prog (((W.setCell ⟨b, 0, none⟩ x).setCell ⟨b, 1, none⟩ y).setCell ⟨b, 2, none⟩ z) = .ok (.tuple #[.agg #[x, y, z], e]) (((W.setCell ⟨b, 0, none⟩ x).setCell ⟨b, 1, none⟩ y).setCell ⟨b, 2, none⟩ z) := by
  have e0 : (((W.setCell ⟨b, 0, none⟩ x).setCell ⟨b, 1, none⟩ y).setCell ⟨b, 2, none⟩ z).cell? ⟨b, 0, none⟩ = some x := by
    rw [World.cell?_setCell_other _ _ _ _ (by simp), World.cell?_setCell_other _ _ _ _ (by simp)]; exact World.cell?_setCell_same' _ _ _ h0
  have e1 : (((W.setCell ⟨b, 0, none⟩ x).setCell ⟨b, 1, none⟩ y).setCell ⟨b, 2, none⟩ z).cell? ⟨b, 1, none⟩ = some y := by
    rw [World.cell?_setCell_other _ _ _ _ (by simp)]; exact World.cell?_setCell_same' _ _ _ (by rw [World.cell?_setCell_other _ _ _ _ (by simp)]; exact h1)
  have e2 : (((W.setCell ⟨b, 0, none⟩ x).setCell ⟨b, 1, none⟩ y).setCell ⟨b, 2, none⟩ z).cell? ⟨b, 2, none⟩ = some z :=
    World.cell?_setCell_same' _ _ _ (by rw [World.cell?_setCell_other _ _ _ _ (by simp), World.cell?_setCell_other _ _ _ _ (by simp)]; exact h2)
  generalize ((W.setCell ⟨b, 0, none⟩ x).setCell ⟨b, 1, none⟩ y).setCell ⟨b, 2, none⟩ z = V at *
  have hp' : tmps[p]?.getD undef = .pointer (some ⟨b, 0, none⟩) := by simpa using hp
  have hu' : tmps[u]?.getD undef = e := by simpa using hu
  simp [results, h, hp', hu', go_sem, e0, e1, e2]

theorem isT_put {b n : Nat} {W : World} (h : ZeroL b n W) (i : Nat) (hi : i < n) (c : Int) : IsT 1 intCells (W.setCell ⟨b, i, none⟩ (.int .i64 c)) (some ⟨b, 0, none⟩) n ((List.replicate n 0).set i c) := by
  refine ⟨by simp, fun _ => ⟨b, 0, rfl, by rw [World.size_setCell]; exact h.lt, fun j x hx k v hv => ?_⟩⟩
  have hk : k = 0 := by
    have := (List.getElem?_eq_some_iff.1 hv).1
    simp [intCells] at this; omega
  subst hk
  have hv' : v = .int .i64 x := by simpa [intCells] using hv.symm
  subst hv'
  have hj : j < n := by
    have := (List.getElem?_eq_some_iff.1 hx).1
    simpa using this
  rw [show (0 + j * 1 + 0 : Nat) = j by omega]
  by_cases e : j = i
  · subst e
    have hxc : x = c := by
      rw [List.getElem?_set] at hx; simpa [hj] using hx.symm
    subst hxc
    exact World.cell?_setCell_same' _ _ _ (by rw [h.cell j hj]; rfl)
  · have hx0 : x = 0 := by
      rw [List.getElem?_set_ne (Ne.symm e), List.getElem?_replicate, if_pos hj] at hx
      exact (Option.some.inj hx).symm
    subst hx0
    rw [World.cell?_setCell_other _ _ _ _ (by intro e2; injection e2 with e3 e4; omega)]
    exact h.cell j hj
theorem isT_set {n : Nat} {W : World} {A : Option Addr} {zs : List Int} (h : IsT 1 intCells W A n zs) {p : Addr} (hp : ∀ a, A = some a → a.block ≠ p.block) (v : Value) : IsT 1 intCells (W.setCell p v) A n zs :=
  ⟨h.1, fun h0 => by
    obtain ⟨b, o, e, h1, h2⟩ := h.2 h0
    refine ⟨b, o, e, by rw [World.size_setCell]; exact h1, fun j x hx i u hu => ?_⟩
    rw [World.cell?_setCell_other _ _ _ _ (fun e2 => hp _ e (by first | exact congrArg Addr.block e2 | exact (congrArg Addr.block e2).symm))]
    exact h2 j x hx i u hu⟩

def inB (C : CurD) (cell cur : Int) : Bool := wthn cell 0 ((C.plasma.length : Int) - 1) && wthn cur 0 1000000
def filaE (M : MachD) (C : CurD) (cell cur : Int) : Int := if validC M C = true then if inB C cell cur = true then 0 else 7 else 1
/-- Currents with the plasma in one cell alone. -/
def filaD (C : CurD) (cell cur : Int) : CurD := ⟨C.coils, C.shells, (List.replicate C.plasma.length 0).set cell.toNat cur⟩
abbrev nilC : Value := .agg #[.slice none 0 0, .slice none 0 0, .slice none 0 0]

theorem seWithin_any (n a b : Int) (w : World) :
    Calls Tryd.prog 31 #[.int .i64 n, .int .i64 a, .int .i64 b] w fun e w' => e = .returned (.bool (wthn n a b)) ∧ w = w' := by
  go_enter Tryd.func31, Tryd.ntmps31
  go_wp2
  all_goals go_ret
  all_goals (simp [wthn]; try omega)

set_option maxRecDepth 100000 in
set_option maxHeartbeats 4000000 in
theorem filament_bad (R : MachR) (M : MachD) (Qr : CurR) (Cd : CurD) (cell cur : Int) (w : World) (hM : IsM w R M) (hC : IsC w Qr Cd) (he : filaE M Cd cell cur ≠ 0) :
    Calls Tryd.prog 12 #[.agg (machCells R M), Qr.v, .int .i64 cell, .int .i64 cur] w (Ret (.tuple #[nilC, .int .i64 (filaE M Cd cell cur)]) w) := by
  have HV0 := Lib.hid (fun W (hb : Below w.heap.size w W) => validCurrents_any R M Qr Cd W (hM.below hb) (hC.below hb))
  have hl := hC.plasma.1
  have hkc := hC.kc
  have HE : Hid (filaE M Cd cell cur = if validC M Cd = true then if inB Cd cell cur = true then 0 else 7 else 1) := Lib.hid rfl
  have HI : Hid (inB Cd cell cur = (wthn cell 0 ((Qr.lc : Int) - 1) && wthn cur 0 1000000)) := Lib.hid (by unfold inB; rw [hl])
  clear hM hC hl
  generalize filaE M Cd cell cur = E at *
  generalize inB Cd cell cur = G at *
  generalize validC M Cd = V at *
  obtain ⟨A, B, Cl, D, la, ca, lb, cb, lc, cl, ld, cd⟩ := R
  obtain ⟨name, coils, shells, limits, ⟨r, z, nr, nz, step⟩, sensors⟩ := M
  obtain ⟨A1, B1, C1, na, qa, nb, qb, nc, qc⟩ := Qr
  dsimp only at HI hkc
  have HV := Lib.hid (show ∀ W, Below w.heap.size w W → Calls Tryd.prog 23 #[.agg #[.string name, .slice A la ca, .slice B lb cb, .slice Cl lc cl, .int .i64 r, .int .i64 z, .int .i64 nr, .int .i64 nz, .int .i64 step, .slice D ld cd], .agg #[.slice A1 na qa, .slice B1 nb qb, .slice C1 nc qc]] W (Ret (.bool V) W) from HV0.out)
  clear HV0
  show Calls Tryd.prog 12 #[.agg #[.string name, .slice A la ca, .slice B lb cb, .slice Cl lc cl, .int .i64 r, .int .i64 z, .int .i64 nr, .int .i64 nz, .int .i64 step, .slice D ld cd], .agg #[.slice A1 na qa, .slice B1 nb qb, .slice C1 nc qc], .int .i64 cell, .int .i64 cur] w _
  cases V
  · have HG : Hid (E = 1) := Lib.hid (by rw [HE.out]; rfl)
    rw [HG.out]
    clear HE HI HG he
    go_enter Tryd.func12, Tryd.ntmps12
    go_wp2_with fail
    refine (HV.out _ (by (with_reducible repeat first | exact Below.refl _ _ | assumption | ((first | refine Below.setCell ?_ ?_ _ | refine Below.alloc ?_ ?_ _); rotate_left; exact (by first | omega | (simp; done) | (simp; omega))) | refine Below.drew ?_ | refine Below_drewN ?_ _))).mono ?_
    rintro e w1 ⟨rfl, hb⟩
    have c0 : w1.cell? ⟨w.heap.size + 1, 0, none⟩ = some (.slice A1 na qa) := by rw [hb.cell (p := ⟨w.heap.size + 1, 0, none⟩) (by first | omega | ((try simp only [World.size_alloc, World.size_setCell, size_drew, size_drewN]); omega) | (simp; done) | (simp; omega))]; go_simp
    have c1 : w1.cell? ⟨w.heap.size + 1, 1, none⟩ = some (.slice B1 nb qb) := by rw [hb.cell (p := ⟨w.heap.size + 1, 1, none⟩) (by first | omega | ((try simp only [World.size_alloc, World.size_setCell, size_drew, size_drewN]); omega) | (simp; done) | (simp; omega))]; go_simp
    have c2 : w1.cell? ⟨w.heap.size + 1, 2, none⟩ = some (.slice C1 nc qc) := by rw [hb.cell (p := ⟨w.heap.size + 1, 2, none⟩) (by first | omega | ((try simp only [World.size_alloc, World.size_setCell, size_drew, size_drewN]); omega) | (simp; done) | (simp; omega))]; go_simp
    have r0 : w1.cell? ⟨w.heap.size + 1 + 1, 0, none⟩ = some (.slice none 0 0) := by rw [hb.cell (p := ⟨w.heap.size + 1 + 1, 0, none⟩) (by first | omega | ((try simp only [World.size_alloc, World.size_setCell, size_drew, size_drewN]); omega) | (simp; done) | (simp; omega))]; go_simp
    have r1 : w1.cell? ⟨w.heap.size + 1 + 1, 1, none⟩ = some (.slice none 0 0) := by rw [hb.cell (p := ⟨w.heap.size + 1 + 1, 1, none⟩) (by first | omega | ((try simp only [World.size_alloc, World.size_setCell, size_drew, size_drewN]); omega) | (simp; done) | (simp; omega))]; go_simp
    have r2 : w1.cell? ⟨w.heap.size + 1 + 1, 2, none⟩ = some (.slice none 0 0) := by rw [hb.cell (p := ⟨w.heap.size + 1 + 1, 2, none⟩) (by first | omega | ((try simp only [World.size_alloc, World.size_setCell, size_drew, size_drewN]); omega) | (simp; done) | (simp; omega))]; go_simp
    have f0 : w1.frozen? ⟨w.heap.size + 1 + 1, 0, none⟩ = false := by rw [hb.frozen (p := ⟨w.heap.size + 1 + 1, 0, none⟩) (by first | omega | ((try simp only [World.size_alloc, World.size_setCell, size_drew, size_drewN]); omega) | (simp; done) | (simp; omega))]; go_simp
    have f1 : w1.frozen? ⟨w.heap.size + 1 + 1, 1, none⟩ = false := by rw [hb.frozen (p := ⟨w.heap.size + 1 + 1, 1, none⟩) (by first | omega | ((try simp only [World.size_alloc, World.size_setCell, size_drew, size_drewN]); omega) | (simp; done) | (simp; omega))]; go_simp
    have f2 : w1.frozen? ⟨w.heap.size + 1 + 1, 2, none⟩ = false := by rw [hb.frozen (p := ⟨w.heap.size + 1 + 1, 2, none⟩) (by first | omega | ((try simp only [World.size_alloc, World.size_setCell, size_drew, size_drewN]); omega) | (simp; done) | (simp; omega))]; go_simp
    have hB : Below w.heap.size w w1 := Below.trans (by (with_reducible repeat first | exact Below.refl _ _ | assumption | ((first | refine Below.setCell ?_ ?_ _ | refine Below.alloc ?_ ?_ _); rotate_left; exact (by first | omega | (simp; done) | (simp; omega))) | refine Below.drew ?_ | refine Below_drewN ?_ _)) (hb.mono (by first | omega | ((try simp only [World.size_alloc, World.size_setCell, size_drew, size_drewN]); omega) | (simp; done) | (simp; omega)))
    have hz2 : w.heap.size + 1 + 1 < w1.heap.size := Nat.lt_of_lt_of_le (by first | omega | ((try simp only [World.size_alloc, World.size_setCell, size_drew, size_drewN]); omega) | (simp; done) | (simp; omega)) hb.size
    have hz1 : w.heap.size + 1 < w1.heap.size := by omega
    clear hb
    go_wp2_with fail
    exact bodyPost_ret (resT Tryd.results12 _ _ _ _ _ _ _ rfl rfl (by (try simp only [isSome_setCell]); first | assumption | go_simp) (by (try simp only [isSome_setCell]); first | assumption | go_simp) (by (try simp only [isSome_setCell]); first | assumption | go_simp)) rfl ⟨rfl, by (with_reducible repeat first | exact Below.refl _ _ | assumption | ((first | refine Below.setCell ?_ ?_ _ | refine Below.alloc ?_ ?_ _); rotate_left; exact (by first | omega | (simp; done) | (simp; omega))) | refine Below.drew ?_ | refine Below_drewN ?_ _)⟩
  cases G
  · have HG : Hid (E = 7) := Lib.hid (by rw [HE.out]; rfl)
    rw [HG.out]
    clear HE HG he
    cases h1 : wthn cell 0 ((nc : Int) - 1)
    · clear HI
      go_enter Tryd.func12, Tryd.ntmps12
      go_wp2_with fail
      refine (HV.out _ (by (with_reducible repeat first | exact Below.refl _ _ | assumption | ((first | refine Below.setCell ?_ ?_ _ | refine Below.alloc ?_ ?_ _); rotate_left; exact (by first | omega | (simp; done) | (simp; omega))) | refine Below.drew ?_ | refine Below_drewN ?_ _))).mono ?_
      rintro e w1 ⟨rfl, hb⟩
      have c0 : w1.cell? ⟨w.heap.size + 1, 0, none⟩ = some (.slice A1 na qa) := by rw [hb.cell (p := ⟨w.heap.size + 1, 0, none⟩) (by first | omega | ((try simp only [World.size_alloc, World.size_setCell, size_drew, size_drewN]); omega) | (simp; done) | (simp; omega))]; go_simp
      have c1 : w1.cell? ⟨w.heap.size + 1, 1, none⟩ = some (.slice B1 nb qb) := by rw [hb.cell (p := ⟨w.heap.size + 1, 1, none⟩) (by first | omega | ((try simp only [World.size_alloc, World.size_setCell, size_drew, size_drewN]); omega) | (simp; done) | (simp; omega))]; go_simp
      have c2 : w1.cell? ⟨w.heap.size + 1, 2, none⟩ = some (.slice C1 nc qc) := by rw [hb.cell (p := ⟨w.heap.size + 1, 2, none⟩) (by first | omega | ((try simp only [World.size_alloc, World.size_setCell, size_drew, size_drewN]); omega) | (simp; done) | (simp; omega))]; go_simp
      have r0 : w1.cell? ⟨w.heap.size + 1 + 1, 0, none⟩ = some (.slice none 0 0) := by rw [hb.cell (p := ⟨w.heap.size + 1 + 1, 0, none⟩) (by first | omega | ((try simp only [World.size_alloc, World.size_setCell, size_drew, size_drewN]); omega) | (simp; done) | (simp; omega))]; go_simp
      have r1 : w1.cell? ⟨w.heap.size + 1 + 1, 1, none⟩ = some (.slice none 0 0) := by rw [hb.cell (p := ⟨w.heap.size + 1 + 1, 1, none⟩) (by first | omega | ((try simp only [World.size_alloc, World.size_setCell, size_drew, size_drewN]); omega) | (simp; done) | (simp; omega))]; go_simp
      have r2 : w1.cell? ⟨w.heap.size + 1 + 1, 2, none⟩ = some (.slice none 0 0) := by rw [hb.cell (p := ⟨w.heap.size + 1 + 1, 2, none⟩) (by first | omega | ((try simp only [World.size_alloc, World.size_setCell, size_drew, size_drewN]); omega) | (simp; done) | (simp; omega))]; go_simp
      have f0 : w1.frozen? ⟨w.heap.size + 1 + 1, 0, none⟩ = false := by rw [hb.frozen (p := ⟨w.heap.size + 1 + 1, 0, none⟩) (by first | omega | ((try simp only [World.size_alloc, World.size_setCell, size_drew, size_drewN]); omega) | (simp; done) | (simp; omega))]; go_simp
      have f1 : w1.frozen? ⟨w.heap.size + 1 + 1, 1, none⟩ = false := by rw [hb.frozen (p := ⟨w.heap.size + 1 + 1, 1, none⟩) (by first | omega | ((try simp only [World.size_alloc, World.size_setCell, size_drew, size_drewN]); omega) | (simp; done) | (simp; omega))]; go_simp
      have f2 : w1.frozen? ⟨w.heap.size + 1 + 1, 2, none⟩ = false := by rw [hb.frozen (p := ⟨w.heap.size + 1 + 1, 2, none⟩) (by first | omega | ((try simp only [World.size_alloc, World.size_setCell, size_drew, size_drewN]); omega) | (simp; done) | (simp; omega))]; go_simp
      have hB : Below w.heap.size w w1 := Below.trans (by (with_reducible repeat first | exact Below.refl _ _ | assumption | ((first | refine Below.setCell ?_ ?_ _ | refine Below.alloc ?_ ?_ _); rotate_left; exact (by first | omega | (simp; done) | (simp; omega))) | refine Below.drew ?_ | refine Below_drewN ?_ _)) (hb.mono (by first | omega | ((try simp only [World.size_alloc, World.size_setCell, size_drew, size_drewN]); omega) | (simp; done) | (simp; omega)))
      have hz2 : w.heap.size + 1 + 1 < w1.heap.size := Nat.lt_of_lt_of_le (by first | omega | ((try simp only [World.size_alloc, World.size_setCell, size_drew, size_drewN]); omega) | (simp; done) | (simp; omega)) hb.size
      have hz1 : w.heap.size + 1 < w1.heap.size := by omega
      clear hb
      go_wp2_with (go_at_call 31; refine (seWithin_any _ _ _ _).mono ?_; rintro e w' ⟨rfl, rfl⟩)
      exact bodyPost_ret (resT Tryd.results12 _ _ _ _ _ _ _ rfl rfl (by (try simp only [isSome_setCell]); first | assumption | go_simp) (by (try simp only [isSome_setCell]); first | assumption | go_simp) (by (try simp only [isSome_setCell]); first | assumption | go_simp)) rfl ⟨rfl, by (with_reducible repeat first | exact Below.refl _ _ | assumption | ((first | refine Below.setCell ?_ ?_ _ | refine Below.alloc ?_ ?_ _); rotate_left; exact (by first | omega | (simp; done) | (simp; omega))) | refine Below.drew ?_ | refine Below_drewN ?_ _)⟩
    · have h2 : wthn cur 0 1000000 = false := by have := HI.out; rw [h1] at this; simpa using this.symm
      clear HI
      go_enter Tryd.func12, Tryd.ntmps12
      go_wp2_with fail
      refine (HV.out _ (by (with_reducible repeat first | exact Below.refl _ _ | assumption | ((first | refine Below.setCell ?_ ?_ _ | refine Below.alloc ?_ ?_ _); rotate_left; exact (by first | omega | (simp; done) | (simp; omega))) | refine Below.drew ?_ | refine Below_drewN ?_ _))).mono ?_
      rintro e w1 ⟨rfl, hb⟩
      have c0 : w1.cell? ⟨w.heap.size + 1, 0, none⟩ = some (.slice A1 na qa) := by rw [hb.cell (p := ⟨w.heap.size + 1, 0, none⟩) (by first | omega | ((try simp only [World.size_alloc, World.size_setCell, size_drew, size_drewN]); omega) | (simp; done) | (simp; omega))]; go_simp
      have c1 : w1.cell? ⟨w.heap.size + 1, 1, none⟩ = some (.slice B1 nb qb) := by rw [hb.cell (p := ⟨w.heap.size + 1, 1, none⟩) (by first | omega | ((try simp only [World.size_alloc, World.size_setCell, size_drew, size_drewN]); omega) | (simp; done) | (simp; omega))]; go_simp
      have c2 : w1.cell? ⟨w.heap.size + 1, 2, none⟩ = some (.slice C1 nc qc) := by rw [hb.cell (p := ⟨w.heap.size + 1, 2, none⟩) (by first | omega | ((try simp only [World.size_alloc, World.size_setCell, size_drew, size_drewN]); omega) | (simp; done) | (simp; omega))]; go_simp
      have r0 : w1.cell? ⟨w.heap.size + 1 + 1, 0, none⟩ = some (.slice none 0 0) := by rw [hb.cell (p := ⟨w.heap.size + 1 + 1, 0, none⟩) (by first | omega | ((try simp only [World.size_alloc, World.size_setCell, size_drew, size_drewN]); omega) | (simp; done) | (simp; omega))]; go_simp
      have r1 : w1.cell? ⟨w.heap.size + 1 + 1, 1, none⟩ = some (.slice none 0 0) := by rw [hb.cell (p := ⟨w.heap.size + 1 + 1, 1, none⟩) (by first | omega | ((try simp only [World.size_alloc, World.size_setCell, size_drew, size_drewN]); omega) | (simp; done) | (simp; omega))]; go_simp
      have r2 : w1.cell? ⟨w.heap.size + 1 + 1, 2, none⟩ = some (.slice none 0 0) := by rw [hb.cell (p := ⟨w.heap.size + 1 + 1, 2, none⟩) (by first | omega | ((try simp only [World.size_alloc, World.size_setCell, size_drew, size_drewN]); omega) | (simp; done) | (simp; omega))]; go_simp
      have f0 : w1.frozen? ⟨w.heap.size + 1 + 1, 0, none⟩ = false := by rw [hb.frozen (p := ⟨w.heap.size + 1 + 1, 0, none⟩) (by first | omega | ((try simp only [World.size_alloc, World.size_setCell, size_drew, size_drewN]); omega) | (simp; done) | (simp; omega))]; go_simp
      have f1 : w1.frozen? ⟨w.heap.size + 1 + 1, 1, none⟩ = false := by rw [hb.frozen (p := ⟨w.heap.size + 1 + 1, 1, none⟩) (by first | omega | ((try simp only [World.size_alloc, World.size_setCell, size_drew, size_drewN]); omega) | (simp; done) | (simp; omega))]; go_simp
      have f2 : w1.frozen? ⟨w.heap.size + 1 + 1, 2, none⟩ = false := by rw [hb.frozen (p := ⟨w.heap.size + 1 + 1, 2, none⟩) (by first | omega | ((try simp only [World.size_alloc, World.size_setCell, size_drew, size_drewN]); omega) | (simp; done) | (simp; omega))]; go_simp
      have hB : Below w.heap.size w w1 := Below.trans (by (with_reducible repeat first | exact Below.refl _ _ | assumption | ((first | refine Below.setCell ?_ ?_ _ | refine Below.alloc ?_ ?_ _); rotate_left; exact (by first | omega | (simp; done) | (simp; omega))) | refine Below.drew ?_ | refine Below_drewN ?_ _)) (hb.mono (by first | omega | ((try simp only [World.size_alloc, World.size_setCell, size_drew, size_drewN]); omega) | (simp; done) | (simp; omega)))
      have hz2 : w.heap.size + 1 + 1 < w1.heap.size := Nat.lt_of_lt_of_le (by first | omega | ((try simp only [World.size_alloc, World.size_setCell, size_drew, size_drewN]); omega) | (simp; done) | (simp; omega)) hb.size
      have hz1 : w.heap.size + 1 < w1.heap.size := by omega
      clear hb
      go_wp2_with (go_at_call 31; refine (seWithin_any _ _ _ _).mono ?_; rintro e w' ⟨rfl, rfl⟩)
      exact bodyPost_ret (resT Tryd.results12 _ _ _ _ _ _ _ rfl rfl (by (try simp only [isSome_setCell]); first | assumption | go_simp) (by (try simp only [isSome_setCell]); first | assumption | go_simp) (by (try simp only [isSome_setCell]); first | assumption | go_simp)) rfl ⟨rfl, by (with_reducible repeat first | exact Below.refl _ _ | assumption | ((first | refine Below.setCell ?_ ?_ _ | refine Below.alloc ?_ ?_ _); rotate_left; exact (by first | omega | (simp; done) | (simp; omega))) | refine Below.drew ?_ | refine Below_drewN ?_ _)⟩
  · exact absurd HE.out he

def FilaAt (na nb nc : Nat) (D : CurD) (w : World) (e : Ending) (w' : World) : Prop :=
  ∃ (A : Option Addr) (ca : Nat) (A2 : Option Addr) (cb pb : Nat), e = .returned (.tuple #[.agg #[.slice A na ca, .slice A2 nb cb, .slice (some ⟨pb, 0, none⟩) nc nc], .int .i64 0]) ∧ IsC w' ⟨A, A2, some ⟨pb, 0, none⟩, na, ca, nb, cb, nc, nc⟩ D ∧ Below w.heap.size w w'

set_option maxRecDepth 100000 in
set_option maxHeartbeats 4000000 in
theorem filament_ok (R : MachR) (M : MachD) (Qr : CurR) (Cd : CurD) (cell cur : Int) (w : World) (hM : IsM w R M) (hC : IsC w Qr Cd) (he : filaE M Cd cell cur = 0) :
    Calls Tryd.prog 12 #[.agg (machCells R M), Qr.v, .int .i64 cell, .int .i64 cur] w (FilaAt Qr.la Qr.lb Qr.lc (filaD Cd cell cur) w) := by
  have hv : validC M Cd = true := by
    unfold filaE at he
    cases hv : validC M Cd
    · rw [hv] at he; simp at he
    · rfl
  have hi : inB Cd cell cur = true := by
    unfold filaE at he
    rw [hv, if_pos rfl] at he
    cases hi : inB Cd cell cur
    · rw [hi] at he; simp at he
    · rfl
  have hf := fit2_iff.1 hv
  have hs := sound_of hf.check
  have hfc := cells_fine hs.grid
  have e1 := hC.coils.1
  have e2 := hC.shells.1
  have e3 := hC.plasma.1
  have e4 := hf.coils.1
  have e5 := hf.shells.1
  have e6 := hf.plasma.1
  have e7 := hs.coils.1
  have e8 := hs.shells.1
  have l1 : Qr.la ≤ 1000 := by omega
  have l2 : Qr.lb ≤ 1000 := by omega
  have l3 : Qr.lc ≤ 1000 := by omega
  unfold inB at hi
  rw [e3, Bool.and_eq_true] at hi
  obtain ⟨h1, h2⟩ := hi
  have hw := wthn_iff.1 h1
  have HV0 := Lib.hid (fun W (hb : Below w.heap.size w W) => (by have := validCurrents_any R M Qr Cd W (hM.below hb) (hC.below hb); rw [hv] at this; exact this : Calls Tryd.prog 23 #[.agg (machCells R M), Qr.v] W (Ret (.bool true) W)))
  have HD0 := Lib.hid (fun W (hb : Below w.heap.size w W) => dark_any Qr.A Qr.B Qr.C Qr.la Qr.ca Qr.lb Qr.cb Qr.lc Qr.cc Cd.coils Cd.shells W (hC.below hb).coils (hC.below hb).shells (by omega) (by omega) (by omega))
  unfold filaD
  rw [e3]
  clear hM hC he hv hf hs hfc e1 e2 e3 e4 e5 e6 e7 e8
  obtain ⟨A, B, Cl, D, la, ca, lb, cb, lc, cl, ld, cd⟩ := R
  obtain ⟨name, coils, shells, limits, ⟨r, z, nr, nz, step⟩, sensors⟩ := M
  obtain ⟨A1, B1, C1, na, qa, nb, qb, nc, qc⟩ := Qr
  obtain ⟨z1, z2, z3⟩ := Cd
  dsimp only at *
  have HV := Lib.hid (show ∀ W, Below w.heap.size w W → Calls Tryd.prog 23 #[.agg #[.string name, .slice A la ca, .slice B lb cb, .slice Cl lc cl, .int .i64 r, .int .i64 z, .int .i64 nr, .int .i64 nz, .int .i64 step, .slice D ld cd], .agg #[.slice A1 na qa, .slice B1 nb qb, .slice C1 nc qc]] W (Ret (.bool true) W) from HV0.out)
  have HD := Lib.hid (show ∀ W, Below w.heap.size w W → Calls Tryd.prog 25 #[.agg #[.slice A1 na qa, .slice B1 nb qb, .slice C1 nc qc]] W (Dark na nb nc z1 z2 W) from HD0.out)
  clear HV0 HD0
  obtain ⟨i, rfl⟩ : ∃ i : Nat, cell = i := ⟨cell.toNat, by omega⟩
  have hin : i < nc := by omega
  rw [Int.toNat_natCast]
  show Calls Tryd.prog 12 #[.agg #[.string name, .slice A la ca, .slice B lb cb, .slice Cl lc cl, .int .i64 r, .int .i64 z, .int .i64 nr, .int .i64 nz, .int .i64 step, .slice D ld cd], .agg #[.slice A1 na qa, .slice B1 nb qb, .slice C1 nc qc], .int .i64 i, .int .i64 cur] w _
  go_enter Tryd.func12, Tryd.ntmps12
  go_wp2_with fail
  refine (HV.out _ (by (with_reducible repeat first | exact Below.refl _ _ | assumption | ((first | refine Below.setCell ?_ ?_ _ | refine Below.alloc ?_ ?_ _); rotate_left; exact (by first | omega | (simp; done) | (simp; omega))) | refine Below.drew ?_ | refine Below_drewN ?_ _))).mono ?_
  rintro e w1 ⟨rfl, hb⟩
  have c0 : w1.cell? ⟨w.heap.size + 1, 0, none⟩ = some (.slice A1 na qa) := by rw [hb.cell (p := ⟨w.heap.size + 1, 0, none⟩) (by first | omega | ((try simp only [World.size_alloc, World.size_setCell, size_drew, size_drewN]); omega) | (simp; done) | (simp; omega))]; go_simp
  have c1 : w1.cell? ⟨w.heap.size + 1, 1, none⟩ = some (.slice B1 nb qb) := by rw [hb.cell (p := ⟨w.heap.size + 1, 1, none⟩) (by first | omega | ((try simp only [World.size_alloc, World.size_setCell, size_drew, size_drewN]); omega) | (simp; done) | (simp; omega))]; go_simp
  have c2 : w1.cell? ⟨w.heap.size + 1, 2, none⟩ = some (.slice C1 nc qc) := by rw [hb.cell (p := ⟨w.heap.size + 1, 2, none⟩) (by first | omega | ((try simp only [World.size_alloc, World.size_setCell, size_drew, size_drewN]); omega) | (simp; done) | (simp; omega))]; go_simp
  have r0 : w1.cell? ⟨w.heap.size + 1 + 1, 0, none⟩ = some (.slice none 0 0) := by rw [hb.cell (p := ⟨w.heap.size + 1 + 1, 0, none⟩) (by first | omega | ((try simp only [World.size_alloc, World.size_setCell, size_drew, size_drewN]); omega) | (simp; done) | (simp; omega))]; go_simp
  have r1 : w1.cell? ⟨w.heap.size + 1 + 1, 1, none⟩ = some (.slice none 0 0) := by rw [hb.cell (p := ⟨w.heap.size + 1 + 1, 1, none⟩) (by first | omega | ((try simp only [World.size_alloc, World.size_setCell, size_drew, size_drewN]); omega) | (simp; done) | (simp; omega))]; go_simp
  have r2 : w1.cell? ⟨w.heap.size + 1 + 1, 2, none⟩ = some (.slice none 0 0) := by rw [hb.cell (p := ⟨w.heap.size + 1 + 1, 2, none⟩) (by first | omega | ((try simp only [World.size_alloc, World.size_setCell, size_drew, size_drewN]); omega) | (simp; done) | (simp; omega))]; go_simp
  have f0 : w1.frozen? ⟨w.heap.size + 1 + 1, 0, none⟩ = false := by rw [hb.frozen (p := ⟨w.heap.size + 1 + 1, 0, none⟩) (by first | omega | ((try simp only [World.size_alloc, World.size_setCell, size_drew, size_drewN]); omega) | (simp; done) | (simp; omega))]; go_simp
  have f1 : w1.frozen? ⟨w.heap.size + 1 + 1, 1, none⟩ = false := by rw [hb.frozen (p := ⟨w.heap.size + 1 + 1, 1, none⟩) (by first | omega | ((try simp only [World.size_alloc, World.size_setCell, size_drew, size_drewN]); omega) | (simp; done) | (simp; omega))]; go_simp
  have f2 : w1.frozen? ⟨w.heap.size + 1 + 1, 2, none⟩ = false := by rw [hb.frozen (p := ⟨w.heap.size + 1 + 1, 2, none⟩) (by first | omega | ((try simp only [World.size_alloc, World.size_setCell, size_drew, size_drewN]); omega) | (simp; done) | (simp; omega))]; go_simp
  have hB : Below w.heap.size w w1 := Below.trans (by (with_reducible repeat first | exact Below.refl _ _ | assumption | ((first | refine Below.setCell ?_ ?_ _ | refine Below.alloc ?_ ?_ _); rotate_left; exact (by first | omega | (simp; done) | (simp; omega))) | refine Below.drew ?_ | refine Below_drewN ?_ _)) (hb.mono (by first | omega | ((try simp only [World.size_alloc, World.size_setCell, size_drew, size_drewN]); omega) | (simp; done) | (simp; omega)))
  have hz2 : w.heap.size + 1 + 1 < w1.heap.size := Nat.lt_of_lt_of_le (by first | omega | ((try simp only [World.size_alloc, World.size_setCell, size_drew, size_drewN]); omega) | (simp; done) | (simp; omega)) hb.size
  have hz1 : w.heap.size + 1 < w1.heap.size := by omega
  clear hb
  go_wp2_with (go_at_call 31; refine (seWithin_any _ _ _ _).mono ?_; rintro e w' ⟨rfl, rfl⟩)
  refine (HD.out _ (by (with_reducible repeat first | exact Below.refl _ _ | assumption | ((first | refine Below.setCell ?_ ?_ _ | refine Below.alloc ?_ ?_ _); rotate_left; exact (by first | omega | (simp; done) | (simp; omega))) | refine Below.drew ?_ | refine Below_drewN ?_ _))).mono ?_
  rintro e w2 ⟨A', ca', A2', cb', pb, rfl, hd, hb⟩
  have r0b : w2.cell? ⟨w.heap.size + 1 + 1, 0, none⟩ = some (.slice none 0 0) := (hb.cell (p := ⟨w.heap.size + 1 + 1, 0, none⟩) hz2).trans r0
  have f0b : w2.frozen? ⟨w.heap.size + 1 + 1, 0, none⟩ = false := (hb.frozen (p := ⟨w.heap.size + 1 + 1, 0, none⟩) hz2).trans f0
  have r1b : w2.cell? ⟨w.heap.size + 1 + 1, 1, none⟩ = some (.slice none 0 0) := (hb.cell (p := ⟨w.heap.size + 1 + 1, 1, none⟩) hz2).trans r1
  have f1b : w2.frozen? ⟨w.heap.size + 1 + 1, 1, none⟩ = false := (hb.frozen (p := ⟨w.heap.size + 1 + 1, 1, none⟩) hz2).trans f1
  have r2b : w2.cell? ⟨w.heap.size + 1 + 1, 2, none⟩ = some (.slice none 0 0) := (hb.cell (p := ⟨w.heap.size + 1 + 1, 2, none⟩) hz2).trans r2
  have f2b : w2.frozen? ⟨w.heap.size + 1 + 1, 2, none⟩ = false := (hb.frozen (p := ⟨w.heap.size + 1 + 1, 2, none⟩) hz2).trans f2
  have hB2 := hB.trans (hb.mono hB.size)
  have hz3 : w.heap.size + 1 + 1 < w2.heap.size := Nat.lt_of_lt_of_le hz2 hb.size
  clear hb c0 c1 c2 r0 r1 r2 f0 f1 f2
  go_upto_region 6 with (fail)
  have t0 : (w2.alloc (.cells #[.slice A' na ca', .slice A2' nb cb', .slice (some ⟨pb, 0, none⟩) nc nc] 32)).cell? ⟨w2.heap.size, 0, none⟩ = some (.slice A' na ca') := by go_simp
  have t1 : (w2.alloc (.cells #[.slice A' na ca', .slice A2' nb cb', .slice (some ⟨pb, 0, none⟩) nc nc] 32)).cell? ⟨w2.heap.size, 1, none⟩ = some (.slice A2' nb cb') := by go_simp
  have t2 : (w2.alloc (.cells #[.slice A' na ca', .slice A2' nb cb', .slice (some ⟨pb, 0, none⟩) nc nc] 32)).cell? ⟨w2.heap.size, 2, none⟩ = some (.slice (some ⟨pb, 0, none⟩) nc nc) := by go_simp
  have hzq : w2.heap.size < (w2.alloc (.cells #[.slice A' na ca', .slice A2' nb cb', .slice (some ⟨pb, 0, none⟩) nc nc] 32)).heap.size := by simp
  obtain ⟨W3, hW3⟩ : ∃ W, w2.alloc (.cells #[.slice A' na ca', .slice A2' nb cb', .slice (some ⟨pb, 0, none⟩) nc nc] 32) = W := ⟨_, rfl⟩
  have hbW : Below w2.heap.size w2 W3 := by rw [← hW3]; (with_reducible repeat first | exact Below.refl _ _ | assumption | ((first | refine Below.setCell ?_ ?_ _ | refine Below.alloc ?_ ?_ _); rotate_left; exact (by first | omega | (simp; done) | (simp; omega))) | refine Below.drew ?_ | refine Below_drewN ?_ _)
  rw [hW3] at t0 t1 t2 hzq ⊢
  clear hW3
  have hdc := hd.coils.below hbW
  have hds := hd.shells.below hbW
  have hzr := hd.zero.below hbW
  have zc := hzr.cell i hin
  have zf := hzr.mark i hin
  have hap := hd.apart
  have hpb := hd.base
  have g2 := hd.lt
  have g3 : ¬ w2.heap.size = pb := by omega
  have r0c : W3.cell? ⟨w.heap.size + 1 + 1, 0, none⟩ = some (.slice none 0 0) := (hbW.cell (p := ⟨w.heap.size + 1 + 1, 0, none⟩) hz3).trans r0b
  have f0c : W3.frozen? ⟨w.heap.size + 1 + 1, 0, none⟩ = false := (hbW.frozen (p := ⟨w.heap.size + 1 + 1, 0, none⟩) hz3).trans f0b
  have r1c : W3.cell? ⟨w.heap.size + 1 + 1, 1, none⟩ = some (.slice none 0 0) := (hbW.cell (p := ⟨w.heap.size + 1 + 1, 1, none⟩) hz3).trans r1b
  have f1c : W3.frozen? ⟨w.heap.size + 1 + 1, 1, none⟩ = false := (hbW.frozen (p := ⟨w.heap.size + 1 + 1, 1, none⟩) hz3).trans f1b
  have r2c : W3.cell? ⟨w.heap.size + 1 + 1, 2, none⟩ = some (.slice none 0 0) := (hbW.cell (p := ⟨w.heap.size + 1 + 1, 2, none⟩) hz3).trans r2b
  have f2c : W3.frozen? ⟨w.heap.size + 1 + 1, 2, none⟩ = false := (hbW.frozen (p := ⟨w.heap.size + 1 + 1, 2, none⟩) hz3).trans f2b
  have hB3 := hB2.trans (hbW.mono hB2.size)
  have hz4 : w.heap.size + 1 + 1 < W3.heap.size := Nat.lt_of_lt_of_le hz3 hbW.size
  have hpl := hzr.lt
  have tq : w2.heap.size < W3.heap.size := hzq
  clear hd hbW r0b r1b r2b f0b f1b f2b
  have Hdc := Lib.hid hdc
  have Hds := Lib.hid hds
  have Hzr := Lib.hid hzr
  have Hap := Lib.hid hap
  clear hdc hds hzr hap
  have g1 : w.heap.size + 1 + 1 < pb := by omega
  go_wp2_with fail
  refine bodyPost_ret (resT Tryd.results12 _ _ _ _ _ _ _ rfl rfl ?_ ?_ ?_) rfl ?_
  · exact (by (try simp only [isSome_setCell]); first | assumption | go_simp)
  · exact (by (try simp only [isSome_setCell]); first | assumption | go_simp)
  · exact (by (try simp only [isSome_setCell]); first | assumption | go_simp)
  refine ⟨_, _, _, _, _, rfl, ?_, by (with_reducible repeat first | exact Below.refl _ _ | assumption | ((first | refine Below.setCell ?_ ?_ _ | refine Below.alloc ?_ ?_ _); rotate_left; exact (by first | omega | (simp; done) | (simp; omega))) | refine Below.drew ?_ | refine Below_drewN ?_ _)⟩
  have hdc := Hdc.out
  have hds := Hds.out
  have hap := Hap.out
  refine ⟨?_, ?_, ?_, hdc.le, hds.le, Nat.le_refl _, ?_, ?_, ?_, by dsimp only; omega, by dsimp only; omega, by dsimp only; omega⟩
  · repeat refine isT_set ?_ (fun a ha => by have h9 := hdc.new a ha; dsimp only; first | exact hap.1 a ha | omega) _
    exact hdc.isT
  · repeat refine isT_set ?_ (fun a ha => by have h9 := hds.new a ha; dsimp only; first | exact hap.2 a ha | omega) _
    exact hds.isT
  · refine isT_set (isT_set (isT_set (isT_put Hzr.out i hin cur) (fun a ha => ?_) _) (fun a ha => ?_) _) (fun a ha => ?_) _
    all_goals (obtain rfl := Option.some.inj ha; dsimp only; omega)
  · have := hdc.cap; unfold maxLen at this; dsimp only; omega
  · have := hds.cap; unfold maxLen at this; dsimp only; omega
  · dsimp only; omega

end Go.Proofs.YtfpjhobhmcfpnaaDoor
end
section
/- Package sense: Background, over this seat's translation (written by mk_bak.py). -/
namespace Go.Proofs.YtfpjhobhmcfpnaaDoor
set_option linter.unusedVariables false
set_option linter.unusedSimpArgs false
open Go.RowKit Go.Shelf

theorem isT_zero {b n : Nat} {W : World} (h : ZeroL b n W) : IsT 1 intCells W (some ⟨b, 0, none⟩) n (List.replicate n 0) := by
  refine ⟨by simp, fun _ => ⟨b, 0, rfl, h.lt, fun j x hx k v hv => ?_⟩⟩
  have hk : k = 0 := by
    have := (List.getElem?_eq_some_iff.1 hv).1
    simp [intCells] at this; omega
  subst hk
  have hv' : v = .int .i64 x := by simpa [intCells] using hv.symm
  subst hv'
  have hj : j < n := by
    have := (List.getElem?_eq_some_iff.1 hx).1
    simpa using this
  have hx0 : x = 0 := by
    rw [List.getElem?_replicate, if_pos hj] at hx
    exact (Option.some.inj hx).symm
  subst hx0
  rw [show (0 + j * 1 + 0 : Nat) = j by omega]
  exact h.cell j hj
theorem dark_isC {B : Nat} {W : World} {A : Option Addr} {na ca : Nat} {z1 : List Int} {A2 : Option Addr} {nb cb : Nat} {z2 : List Int} {pb nc : Nat} (h : DarkAt B W A na ca z1 A2 nb cb z2 pb nc) (l1 : na ≤ 1000) (l2 : nb ≤ 1000) (l3 : nc ≤ 1000) :
    IsC W ⟨A, A2, some ⟨pb, 0, none⟩, na, ca, nb, cb, nc, nc⟩ ⟨z1, z2, List.replicate nc 0⟩ := by
  have c1 := h.coils.cap
  have c2 := h.shells.cap
  unfold maxLen at c1 c2
  exact ⟨h.coils.isT, h.shells.isT, isT_zero h.zero, h.coils.le, h.shells.le, Nat.le_refl _, by dsimp only; omega, by dsimp only; omega, by dsimp only; omega, by dsimp only; omega, by dsimp only; omega, by dsimp only; omega⟩

def darkD (C : CurD) : CurD := ⟨C.coils, C.shells, List.replicate C.plasma.length 0⟩
def backL (M : MachD) (C : CurD) (s : Int) : Int × Int := if validC M C = true then exactL M (darkD C) s else (0, 1)

set_option maxRecDepth 100000 in
set_option maxHeartbeats 8000000 in
theorem background_any (R : MachR) (M : MachD) (Qr : CurR) (Cd : CurD) (s : Int) (w : World) (hM : IsM w R M) (hC : IsC w Qr Cd) (i0 : -9223372036854775808 ≤ s) (i1 : s ≤ 9223372036854775807) :
    Calls Tryd.prog 8 #[.agg (machCells R M), Qr.v, .int .i64 s] w (Ret (.tuple #[.int .i64 (backL M Cd s).1, .int .i64 (backL M Cd s).2]) w) := by
  unfold backL
  cases hv : validC M Cd
  · have HV0 := Lib.hid (fun W (hb : Below w.heap.size w W) => (by have := validCurrents_any R M Qr Cd W (hM.below hb) (hC.below hb); rw [hv] at this; exact this : Calls Tryd.prog 23 #[.agg (machCells R M), Qr.v] W (Ret (.bool false) W)))
    clear hM hC hv
    obtain ⟨A, B, Cl, D, la, ca, lb, cb, lc, cl, ld, cd⟩ := R
    obtain ⟨name, coils, shells, limits, ⟨r, z, nr, nz, step⟩, sensors⟩ := M
    obtain ⟨A1, B1, C1, na, qa, nb, qb, nc, qc⟩ := Qr
    have HV := Lib.hid (show ∀ W, Below w.heap.size w W → Calls Tryd.prog 23 #[.agg #[.string name, .slice A la ca, .slice B lb cb, .slice Cl lc cl, .int .i64 r, .int .i64 z, .int .i64 nr, .int .i64 nz, .int .i64 step, .slice D ld cd], .agg #[.slice A1 na qa, .slice B1 nb qb, .slice C1 nc qc]] W (Ret (.bool false) W) from HV0.out)
    show Calls Tryd.prog 8 #[.agg #[.string name, .slice A la ca, .slice B lb cb, .slice Cl lc cl, .int .i64 r, .int .i64 z, .int .i64 nr, .int .i64 nz, .int .i64 step, .slice D ld cd], .agg #[.slice A1 na qa, .slice B1 nb qb, .slice C1 nc qc], .int .i64 s] w _
    go_enter Tryd.func8, Tryd.ntmps8
    go_wp2_with fail
    refine (HV.out _ (by (with_reducible repeat first | exact Below.refl _ _ | assumption | ((first | refine Below.setCell ?_ ?_ _ | refine Below.alloc ?_ ?_ _); rotate_left; exact (by first | omega | (simp; done) | (simp; omega))) | refine Below.drew ?_ | refine Below_drewN ?_ _))).mono ?_
    rintro e w1 ⟨rfl, hb⟩
    have m0 : w1.cell? ⟨w.heap.size, 0, none⟩ = some (.string name) := by rw [hb.cell (p := ⟨w.heap.size, 0, none⟩) (by first | omega | ((try simp only [World.size_alloc, World.size_setCell, size_drew, size_drewN]); omega) | (simp; done) | (simp; omega))]; go_simp
    have m1 : w1.cell? ⟨w.heap.size, 1, none⟩ = some (.slice A la ca) := by rw [hb.cell (p := ⟨w.heap.size, 1, none⟩) (by first | omega | ((try simp only [World.size_alloc, World.size_setCell, size_drew, size_drewN]); omega) | (simp; done) | (simp; omega))]; go_simp
    have m2 : w1.cell? ⟨w.heap.size, 2, none⟩ = some (.slice B lb cb) := by rw [hb.cell (p := ⟨w.heap.size, 2, none⟩) (by first | omega | ((try simp only [World.size_alloc, World.size_setCell, size_drew, size_drewN]); omega) | (simp; done) | (simp; omega))]; go_simp
    have m3 : w1.cell? ⟨w.heap.size, 3, none⟩ = some (.slice Cl lc cl) := by rw [hb.cell (p := ⟨w.heap.size, 3, none⟩) (by first | omega | ((try simp only [World.size_alloc, World.size_setCell, size_drew, size_drewN]); omega) | (simp; done) | (simp; omega))]; go_simp
    have m4 : w1.cell? ⟨w.heap.size, 4, none⟩ = some (.int .i64 r) := by rw [hb.cell (p := ⟨w.heap.size, 4, none⟩) (by first | omega | ((try simp only [World.size_alloc, World.size_setCell, size_drew, size_drewN]); omega) | (simp; done) | (simp; omega))]; go_simp
    have m5 : w1.cell? ⟨w.heap.size, 5, none⟩ = some (.int .i64 z) := by rw [hb.cell (p := ⟨w.heap.size, 5, none⟩) (by first | omega | ((try simp only [World.size_alloc, World.size_setCell, size_drew, size_drewN]); omega) | (simp; done) | (simp; omega))]; go_simp
    have m6 : w1.cell? ⟨w.heap.size, 6, none⟩ = some (.int .i64 nr) := by rw [hb.cell (p := ⟨w.heap.size, 6, none⟩) (by first | omega | ((try simp only [World.size_alloc, World.size_setCell, size_drew, size_drewN]); omega) | (simp; done) | (simp; omega))]; go_simp
    have m7 : w1.cell? ⟨w.heap.size, 7, none⟩ = some (.int .i64 nz) := by rw [hb.cell (p := ⟨w.heap.size, 7, none⟩) (by first | omega | ((try simp only [World.size_alloc, World.size_setCell, size_drew, size_drewN]); omega) | (simp; done) | (simp; omega))]; go_simp
    have m8 : w1.cell? ⟨w.heap.size, 8, none⟩ = some (.int .i64 step) := by rw [hb.cell (p := ⟨w.heap.size, 8, none⟩) (by first | omega | ((try simp only [World.size_alloc, World.size_setCell, size_drew, size_drewN]); omega) | (simp; done) | (simp; omega))]; go_simp
    have m9 : w1.cell? ⟨w.heap.size, 9, none⟩ = some (.slice D ld cd) := by rw [hb.cell (p := ⟨w.heap.size, 9, none⟩) (by first | omega | ((try simp only [World.size_alloc, World.size_setCell, size_drew, size_drewN]); omega) | (simp; done) | (simp; omega))]; go_simp
    have c0 : w1.cell? ⟨w.heap.size + 1, 0, none⟩ = some (.slice A1 na qa) := by rw [hb.cell (p := ⟨w.heap.size + 1, 0, none⟩) (by first | omega | ((try simp only [World.size_alloc, World.size_setCell, size_drew, size_drewN]); omega) | (simp; done) | (simp; omega))]; go_simp
    have c1 : w1.cell? ⟨w.heap.size + 1, 1, none⟩ = some (.slice B1 nb qb) := by rw [hb.cell (p := ⟨w.heap.size + 1, 1, none⟩) (by first | omega | ((try simp only [World.size_alloc, World.size_setCell, size_drew, size_drewN]); omega) | (simp; done) | (simp; omega))]; go_simp
    have c2 : w1.cell? ⟨w.heap.size + 1, 2, none⟩ = some (.slice C1 nc qc) := by rw [hb.cell (p := ⟨w.heap.size + 1, 2, none⟩) (by first | omega | ((try simp only [World.size_alloc, World.size_setCell, size_drew, size_drewN]); omega) | (simp; done) | (simp; omega))]; go_simp
    have hB : Below w.heap.size w w1 := Below.trans (by (with_reducible repeat first | exact Below.refl _ _ | assumption | ((first | refine Below.setCell ?_ ?_ _ | refine Below.alloc ?_ ?_ _); rotate_left; exact (by first | omega | (simp; done) | (simp; omega))) | refine Below.drew ?_ | refine Below_drewN ?_ _)) (hb.mono (by first | omega | ((try simp only [World.size_alloc, World.size_setCell, size_drew, size_drewN]); omega) | (simp; done) | (simp; omega)))
    have hz1 : w.heap.size + 1 < w1.heap.size := Nat.lt_of_lt_of_le (by first | omega | ((try simp only [World.size_alloc, World.size_setCell, size_drew, size_drewN]); omega) | (simp; done) | (simp; omega)) hb.size
    have hz0 : w.heap.size < w1.heap.size := by omega
    clear hb
    go_wp2_with fail
    go_ret2
    exact ⟨rfl, by (with_reducible repeat first | exact Below.refl _ _ | assumption | ((first | refine Below.setCell ?_ ?_ _ | refine Below.alloc ?_ ?_ _); rotate_left; exact (by first | omega | (simp; done) | (simp; omega))) | refine Below.drew ?_ | refine Below_drewN ?_ _)⟩
  rw [if_pos rfl]
  have hf := fit2_iff.1 hv
  have hs := sound_of hf.check
  have hfc := cells_fine hs.grid
  have e1 := hC.coils.1
  have e2 := hC.shells.1
  have e3 := hC.plasma.1
  have e4 := hf.coils.1
  have e5 := hf.shells.1
  have e6 := hf.plasma.1
  have e7 := hs.coils.1
  have e8 := hs.shells.1
  have l1 : Qr.la ≤ 1000 := by omega
  have l2 : Qr.lb ≤ 1000 := by omega
  have l3 : Qr.lc ≤ 1000 := by omega
  have HV0 := Lib.hid (fun W (hb : Below w.heap.size w W) => (by have := validCurrents_any R M Qr Cd W (hM.below hb) (hC.below hb); rw [hv] at this; exact this : Calls Tryd.prog 23 #[.agg (machCells R M), Qr.v] W (Ret (.bool true) W)))
  have HD0 := Lib.hid (fun W (hb : Below w.heap.size w W) => dark_any Qr.A Qr.B Qr.C Qr.la Qr.ca Qr.lb Qr.cb Qr.lc Qr.cc Cd.coils Cd.shells W (hC.below hb).coils (hC.below hb).shells (by omega) (by omega) (by omega))
  have HX0 := Lib.hid (fun (A' A2' : Option Addr) (ca' cb' pb : Nat) W (hb : Below w.heap.size w W) (hC' : IsC W ⟨A', A2', some ⟨pb, 0, none⟩, Qr.la, ca', Qr.lb, cb', Qr.lc, Qr.lc⟩ ⟨Cd.coils, Cd.shells, List.replicate Qr.lc 0⟩) => exact_any R M ⟨A', A2', some ⟨pb, 0, none⟩, Qr.la, ca', Qr.lb, cb', Qr.lc, Qr.lc⟩ ⟨Cd.coils, Cd.shells, List.replicate Qr.lc 0⟩ s W (hM.below hb) hC' i0 i1)
  unfold darkD
  rw [e3]
  clear hM hC hv hf hs hfc e1 e2 e3 e4 e5 e6 e7 e8
  obtain ⟨z1, z2, z3⟩ := Cd
  dsimp only at *
  generalize exactL M ⟨z1, z2, List.replicate Qr.lc 0⟩ s = G at *
  obtain ⟨G1, G2⟩ := G
  obtain ⟨A, B, Cl, D, la, ca, lb, cb, lc, cl, ld, cd⟩ := R
  obtain ⟨name, coils, shells, limits, ⟨r, z, nr, nz, step⟩, sensors⟩ := M
  obtain ⟨A1, B1, C1, na, qa, nb, qb, nc, qc⟩ := Qr
  dsimp only at *
  have HV := Lib.hid (show ∀ W, Below w.heap.size w W → Calls Tryd.prog 23 #[.agg #[.string name, .slice A la ca, .slice B lb cb, .slice Cl lc cl, .int .i64 r, .int .i64 z, .int .i64 nr, .int .i64 nz, .int .i64 step, .slice D ld cd], .agg #[.slice A1 na qa, .slice B1 nb qb, .slice C1 nc qc]] W (Ret (.bool true) W) from HV0.out)
  have HD := Lib.hid (show ∀ W, Below w.heap.size w W → Calls Tryd.prog 25 #[.agg #[.slice A1 na qa, .slice B1 nb qb, .slice C1 nc qc]] W (Dark na nb nc z1 z2 W) from HD0.out)
  have HX := Lib.hid (show ∀ (A' A2' : Option Addr) (ca' cb' pb : Nat) W, Below w.heap.size w W → IsC W ⟨A', A2', some ⟨pb, 0, none⟩, na, ca', nb, cb', nc, nc⟩ ⟨z1, z2, List.replicate nc 0⟩ → Calls Tryd.prog 24 #[.agg #[.string name, .slice A la ca, .slice B lb cb, .slice Cl lc cl, .int .i64 r, .int .i64 z, .int .i64 nr, .int .i64 nz, .int .i64 step, .slice D ld cd], .agg #[.slice A' na ca', .slice A2' nb cb', .slice (some ⟨pb, 0, none⟩) nc nc], .int .i64 s] W (Ret (.tuple #[.int .i64 G1, .int .i64 G2]) W) from HX0.out)
  clear HV0 HD0 HX0
  show Calls Tryd.prog 8 #[.agg #[.string name, .slice A la ca, .slice B lb cb, .slice Cl lc cl, .int .i64 r, .int .i64 z, .int .i64 nr, .int .i64 nz, .int .i64 step, .slice D ld cd], .agg #[.slice A1 na qa, .slice B1 nb qb, .slice C1 nc qc], .int .i64 s] w _
  go_enter Tryd.func8, Tryd.ntmps8
  go_wp2_with fail
  refine (HV.out _ (by (with_reducible repeat first | exact Below.refl _ _ | assumption | ((first | refine Below.setCell ?_ ?_ _ | refine Below.alloc ?_ ?_ _); rotate_left; exact (by first | omega | (simp; done) | (simp; omega))) | refine Below.drew ?_ | refine Below_drewN ?_ _))).mono ?_
  rintro e w1 ⟨rfl, hb⟩
  have m0 : w1.cell? ⟨w.heap.size, 0, none⟩ = some (.string name) := by rw [hb.cell (p := ⟨w.heap.size, 0, none⟩) (by first | omega | ((try simp only [World.size_alloc, World.size_setCell, size_drew, size_drewN]); omega) | (simp; done) | (simp; omega))]; go_simp
  have m1 : w1.cell? ⟨w.heap.size, 1, none⟩ = some (.slice A la ca) := by rw [hb.cell (p := ⟨w.heap.size, 1, none⟩) (by first | omega | ((try simp only [World.size_alloc, World.size_setCell, size_drew, size_drewN]); omega) | (simp; done) | (simp; omega))]; go_simp
  have m2 : w1.cell? ⟨w.heap.size, 2, none⟩ = some (.slice B lb cb) := by rw [hb.cell (p := ⟨w.heap.size, 2, none⟩) (by first | omega | ((try simp only [World.size_alloc, World.size_setCell, size_drew, size_drewN]); omega) | (simp; done) | (simp; omega))]; go_simp
  have m3 : w1.cell? ⟨w.heap.size, 3, none⟩ = some (.slice Cl lc cl) := by rw [hb.cell (p := ⟨w.heap.size, 3, none⟩) (by first | omega | ((try simp only [World.size_alloc, World.size_setCell, size_drew, size_drewN]); omega) | (simp; done) | (simp; omega))]; go_simp
  have m4 : w1.cell? ⟨w.heap.size, 4, none⟩ = some (.int .i64 r) := by rw [hb.cell (p := ⟨w.heap.size, 4, none⟩) (by first | omega | ((try simp only [World.size_alloc, World.size_setCell, size_drew, size_drewN]); omega) | (simp; done) | (simp; omega))]; go_simp
  have m5 : w1.cell? ⟨w.heap.size, 5, none⟩ = some (.int .i64 z) := by rw [hb.cell (p := ⟨w.heap.size, 5, none⟩) (by first | omega | ((try simp only [World.size_alloc, World.size_setCell, size_drew, size_drewN]); omega) | (simp; done) | (simp; omega))]; go_simp
  have m6 : w1.cell? ⟨w.heap.size, 6, none⟩ = some (.int .i64 nr) := by rw [hb.cell (p := ⟨w.heap.size, 6, none⟩) (by first | omega | ((try simp only [World.size_alloc, World.size_setCell, size_drew, size_drewN]); omega) | (simp; done) | (simp; omega))]; go_simp
  have m7 : w1.cell? ⟨w.heap.size, 7, none⟩ = some (.int .i64 nz) := by rw [hb.cell (p := ⟨w.heap.size, 7, none⟩) (by first | omega | ((try simp only [World.size_alloc, World.size_setCell, size_drew, size_drewN]); omega) | (simp; done) | (simp; omega))]; go_simp
  have m8 : w1.cell? ⟨w.heap.size, 8, none⟩ = some (.int .i64 step) := by rw [hb.cell (p := ⟨w.heap.size, 8, none⟩) (by first | omega | ((try simp only [World.size_alloc, World.size_setCell, size_drew, size_drewN]); omega) | (simp; done) | (simp; omega))]; go_simp
  have m9 : w1.cell? ⟨w.heap.size, 9, none⟩ = some (.slice D ld cd) := by rw [hb.cell (p := ⟨w.heap.size, 9, none⟩) (by first | omega | ((try simp only [World.size_alloc, World.size_setCell, size_drew, size_drewN]); omega) | (simp; done) | (simp; omega))]; go_simp
  have c0 : w1.cell? ⟨w.heap.size + 1, 0, none⟩ = some (.slice A1 na qa) := by rw [hb.cell (p := ⟨w.heap.size + 1, 0, none⟩) (by first | omega | ((try simp only [World.size_alloc, World.size_setCell, size_drew, size_drewN]); omega) | (simp; done) | (simp; omega))]; go_simp
  have c1 : w1.cell? ⟨w.heap.size + 1, 1, none⟩ = some (.slice B1 nb qb) := by rw [hb.cell (p := ⟨w.heap.size + 1, 1, none⟩) (by first | omega | ((try simp only [World.size_alloc, World.size_setCell, size_drew, size_drewN]); omega) | (simp; done) | (simp; omega))]; go_simp
  have c2 : w1.cell? ⟨w.heap.size + 1, 2, none⟩ = some (.slice C1 nc qc) := by rw [hb.cell (p := ⟨w.heap.size + 1, 2, none⟩) (by first | omega | ((try simp only [World.size_alloc, World.size_setCell, size_drew, size_drewN]); omega) | (simp; done) | (simp; omega))]; go_simp
  have hB : Below w.heap.size w w1 := Below.trans (by (with_reducible repeat first | exact Below.refl _ _ | assumption | ((first | refine Below.setCell ?_ ?_ _ | refine Below.alloc ?_ ?_ _); rotate_left; exact (by first | omega | (simp; done) | (simp; omega))) | refine Below.drew ?_ | refine Below_drewN ?_ _)) (hb.mono (by first | omega | ((try simp only [World.size_alloc, World.size_setCell, size_drew, size_drewN]); omega) | (simp; done) | (simp; omega)))
  have hz1 : w.heap.size + 1 < w1.heap.size := Nat.lt_of_lt_of_le (by first | omega | ((try simp only [World.size_alloc, World.size_setCell, size_drew, size_drewN]); omega) | (simp; done) | (simp; omega)) hb.size
  have hz0 : w.heap.size < w1.heap.size := by omega
  clear hb
  go_wp2_with fail
  have HS : Hid (∀ w' : World, Reg (w1.heap.size) (w1) w' → (Reg (w1.heap.size) (w1) w' ∧ w'.cell? ⟨w.heap.size, 0, none⟩ = some (.string name) ∧ w'.cell? ⟨w.heap.size, 1, none⟩ = some (.slice A la ca) ∧ w'.cell? ⟨w.heap.size, 2, none⟩ = some (.slice B lb cb) ∧ w'.cell? ⟨w.heap.size, 3, none⟩ = some (.slice Cl lc cl) ∧ w'.cell? ⟨w.heap.size, 4, none⟩ = some (.int .i64 r) ∧ w'.cell? ⟨w.heap.size, 5, none⟩ = some (.int .i64 z) ∧ w'.cell? ⟨w.heap.size, 6, none⟩ = some (.int .i64 nr) ∧ w'.cell? ⟨w.heap.size, 7, none⟩ = some (.int .i64 nz) ∧ w'.cell? ⟨w.heap.size, 8, none⟩ = some (.int .i64 step) ∧ w'.cell? ⟨w.heap.size, 9, none⟩ = some (.slice D ld cd) ∧ w'.cell? ⟨w.heap.size + 1, 0, none⟩ = some (.slice A1 na qa) ∧ w'.cell? ⟨w.heap.size + 1, 1, none⟩ = some (.slice B1 nb qb) ∧ w'.cell? ⟨w.heap.size + 1, 2, none⟩ = some (.slice C1 nc qc))) := (fun w' h => by (have hc := h.cells; have hs := h.some; have hf := h.frozen; refine ⟨h, ?_⟩; (try simp only [World.size_alloc, World.size_setCell, size_drew, size_drewN] at hc hs hf); first | (simp (disch := omega) only [hc, hs, hf, cur_iff]; (try go_simp); done) | (simp (disch := first | omega | (simp; done)) only [hc, hs, hf, cur_iff]; (try go_simp); done) | (simp (maxDischargeDepth := 4) [hc, hs, hf, cur_iff, go_sem]; done) | (go_simp; done) | (simp (maxDischargeDepth := 4) [hc, hs, hf, cur_iff, go_sem]; go_simp))); go_region_held3 (fun w' => Reg (w1.heap.size) (w1) w' ∧ w'.cell? ⟨w.heap.size, 0, none⟩ = some (.string name) ∧ w'.cell? ⟨w.heap.size, 1, none⟩ = some (.slice A la ca) ∧ w'.cell? ⟨w.heap.size, 2, none⟩ = some (.slice B lb cb) ∧ w'.cell? ⟨w.heap.size, 3, none⟩ = some (.slice Cl lc cl) ∧ w'.cell? ⟨w.heap.size, 4, none⟩ = some (.int .i64 r) ∧ w'.cell? ⟨w.heap.size, 5, none⟩ = some (.int .i64 z) ∧ w'.cell? ⟨w.heap.size, 6, none⟩ = some (.int .i64 nr) ∧ w'.cell? ⟨w.heap.size, 7, none⟩ = some (.int .i64 nz) ∧ w'.cell? ⟨w.heap.size, 8, none⟩ = some (.int .i64 step) ∧ w'.cell? ⟨w.heap.size, 9, none⟩ = some (.slice D ld cd) ∧ w'.cell? ⟨w.heap.size + 1, 0, none⟩ = some (.slice A1 na qa) ∧ w'.cell? ⟨w.heap.size + 1, 1, none⟩ = some (.slice B1 nb qb) ∧ w'.cell? ⟨w.heap.size + 1, 2, none⟩ = some (.slice C1 nc qc)) (exact HS.out _ (by (repeat first | with_reducible exact Reg.refl _ _ | with_reducible exact Reg.drewN2 _ _ _ _ | with_reducible exact (‹Reg _ _ _ ∧ _›).1 | (with_reducible refine Reg.setCell ?_ ?_ _; rotate_left; exact (by first | omega | ((try simp only [World.size_alloc, World.size_setCell, size_drew, size_drewN]); omega) | (simp; done) | (simp; omega))) | with_reducible refine Reg.alloc ?_ _ | with_reducible refine Reg.drew ?_ | with_reducible refine Reg.drewN ?_ _ | (with_reducible apply Reg.call; rotate_left; with_reducible assumption)))) (first | (go_at_call 25; (with_reducible refine (HD.out _ (Reg.out (‹Reg _ _ _ ∧ _›).1 (by (with_reducible repeat first | exact Below.refl _ _ | assumption | ((first | refine Below.setCell ?_ ?_ _ | refine Below.alloc ?_ ?_ _); rotate_left; exact (by first | omega | (simp; done) | (simp; omega))) | refine Below.drew ?_ | refine Below_drewN ?_ _)) (by first | omega | (simp; done) | (simp; omega)))).mono ?_); rintro e w8 ⟨A', ca', A2', cb', pb, rfl, hd0, hb⟩; have hd := dark_isC hd0 l1 l2 l3; clear hd0; (first | (with_reducible have hk := Nat.lt_of_lt_of_le (size_alloc_lt _ _) hb.size) | (with_reducible have hk := Nat.lt_of_lt_of_le (size_alloc_drew_lt _ _) hb.size) | (with_reducible have hk := Nat.lt_of_lt_of_le hk hb.size) | skip); (try simp only [World.size_alloc, World.size_setCell, size_drew, size_drewN] at hk); obtain ⟨hc, hf⟩ := bcell hb; have hs := hb.size; (try simp only [World.size_alloc, World.size_setCell, size_drew, size_drewN] at hs)) | (go_at_call 24; (with_reducible refine (HX.out _ _ _ _ _ _ (Reg.out (‹Reg _ _ _ ∧ _›).1 (by (with_reducible repeat first | exact Below.refl _ _ | assumption | ((first | refine Below.setCell ?_ ?_ _ | refine Below.alloc ?_ ?_ _); rotate_left; exact (by first | omega | (simp; done) | (simp; omega))) | refine Below.drew ?_ | refine Below_drewN ?_ _)) (by first | omega | (simp; done) | (simp; omega))) (by assumption)).mono ?_); rintro e w9 ⟨rfl, hb⟩; (first | (with_reducible have hk := Nat.lt_of_lt_of_le (size_alloc_lt _ _) hb.size) | (with_reducible have hk := Nat.lt_of_lt_of_le (size_alloc_drew_lt _ _) hb.size) | (with_reducible have hk := Nat.lt_of_lt_of_le hk hb.size) | skip); (try simp only [World.size_alloc, World.size_setCell, size_drew, size_drewN] at hk); obtain ⟨hc, hf⟩ := bcell hb; have hs := hb.size; (try simp only [World.size_alloc, World.size_setCell, size_drew, size_drewN] at hs)))
  all_goals go_wp2_with fail
  all_goals go_ret2
  all_goals exact ⟨rfl, (Reg.out (‹Reg _ _ _ ∧ _›).1 (by (with_reducible repeat first | exact Below.refl _ _ | assumption | ((first | refine Below.setCell ?_ ?_ _ | refine Below.alloc ?_ ?_ _); rotate_left; exact (by first | omega | (simp; done) | (simp; omega))) | refine Below.drew ?_ | refine Below_drewN ?_ _)) (by first | omega | (simp; done) | (simp; omega)))⟩

end Go.Proofs.YtfpjhobhmcfpnaaDoor
end
