import Derived.Test.YtfpjhobhmcfpnabDoorJAA
import Derived.Test.YtfpjhobhmcfpnabDoorJAB
import Derived.Test.YtfpjhobhmcfpnabDoorJAO
import Derived.Test.YtfpjhobhmcfpnabDoorJAP
import Derived.Test.YtfpjhobhmcfpnabDoorJAQ
import Derived.Test.YtfpjhobhmcfpnabDoorJAU
import Derived.Test.YtfpjhobhmcfpnabDoorJAW
section
/- Package sense and its specification: ValidFaults and ValidReadings, over this seat's translation. -/
namespace Go.Proofs.YtfpjhobhmcfpnabDoor
set_option linter.unusedVariables false
set_option linter.unusedSimpArgs false
open Go.RowKit Go.Shelf

/-- How far from 0 the N of a kind of faults may be. -/
def mostK (k : Int) : Int := if k = 1 then 1000000000000000 else if k = 2 then 100000 else 0
def readsB (M : MachD) (l : List SpanD) : Bool := decide (checkC M = 0) && (decide (l.length = M.sensors.length) && l.all fun s => vld s.lo s.hi)

/-- The table of fault kinds holds what the program lays into it. -/
structure Kinds (w : World) : Prop where
  most : ∀ k : Nat, k < 4 → ∃ s : ByteArray, w.cell? ⟨0, k * 2, none⟩ = some (.string s) ∧ (1 ≤ k → w.cell? ⟨0, k * 2 + 1, none⟩ = some (.int .i64 (mostK k)))
  size : 0 < w.heap.size
theorem Kinds.below {w w1 : World} (h : Kinds w) (hb : Below w.heap.size w w1) : Kinds w1 :=
  ⟨fun k hk => by
    obtain ⟨s, h1, h2⟩ := h.most k hk
    exact ⟨s, (hb.cell (p := ⟨0, k * 2, none⟩) h.size).trans h1, fun h1 => (hb.cell (p := ⟨0, k * 2 + 1, none⟩) h.size).trans (h2 h1)⟩, Nat.lt_of_lt_of_le h.size hb.size⟩

/-- The machine, as it lies in a box. -/
def BoxM (w : World) (c0 : Nat) (A B C D : Option Addr) (name : ByteArray) (la ca lb cb lc cc ld cd : Nat) (r z nr nz step : Int) : Prop :=
  w.cell? ⟨c0, 0, none⟩ = some (.string name) ∧ w.cell? ⟨c0, 1, none⟩ = some (.slice A la ca) ∧ w.cell? ⟨c0, 2, none⟩ = some (.slice B lb cb) ∧ w.cell? ⟨c0, 3, none⟩ = some (.slice C lc cc) ∧ w.cell? ⟨c0, 4, none⟩ = some (.int .i64 r) ∧ w.cell? ⟨c0, 5, none⟩ = some (.int .i64 z) ∧ w.cell? ⟨c0, 6, none⟩ = some (.int .i64 nr) ∧ w.cell? ⟨c0, 7, none⟩ = some (.int .i64 nz) ∧ w.cell? ⟨c0, 8, none⟩ = some (.int .i64 step) ∧ w.cell? ⟨c0, 9, none⟩ = some (.slice D ld cd)
theorem BoxM.below {w w1 : World} {c0 : Nat} {A B C D : Option Addr} {name : ByteArray} {la ca lb cb lc cc ld cd : Nat} {r z nr nz step : Int} (h : BoxM w c0 A B C D name la ca lb cb lc cc ld cd r z nr nz step) (h0 : c0 < w.heap.size) (hb : Below w.heap.size w w1) : BoxM w1 c0 A B C D name la ca lb cb lc cc ld cd r z nr nz step := by
  obtain ⟨a0, a1, a2, a3, a4, a5, a6, a7, a8, a9⟩ := h
  have g : ∀ (o : Nat) (v : Value), w.cell? ⟨c0, o, none⟩ = some v → w1.cell? ⟨c0, o, none⟩ = some v := fun o v e => (hb.cell (p := ⟨c0, o, none⟩) h0).trans e
  exact ⟨g _ _ a0, g _ _ a1, g _ _ a2, g _ _ a3, g _ _ a4, g _ _ a5, g _ _ a6, g _ _ a7, g _ _ a8, g _ _ a9⟩

end Go.Proofs.YtfpjhobhmcfpnabDoor
end
section
/- Package sense and its specification: ValidReadings, the specification's ValidFaults and ValidReadings, brief, over this seat's translation (written by mk_sy.py). -/
namespace Go.Proofs.YtfpjhobhmcfpnabDoor
set_option linter.unusedVariables false
set_option linter.unusedSimpArgs false
open Go.RowKit Go.Shelf

set_option maxHeartbeats 1000000 in
theorem validReadings1_any (s : SpanD) (w : World) :
    Calls Tryd.prog 44 #[s.v] w (Ret (.bool (!vld s.lo s.hi)) w) := by
  obtain ⟨a, b⟩ := s
  show Calls Tryd.prog 44 #[.agg #[.int .i64 a, .int .i64 b]] w _
  go_enter Tryd.func44, Tryd.ntmps44
  go_wp2_with (go_at_call 15; refine (valid_any _ _ _).mono ?_; rintro e w1 ⟨rfl, hb⟩)
  go_ret
  exact ⟨rfl, Below.trans (by (with_reducible repeat first | exact Below.refl _ _ | assumption | ((first | refine Below.setCell ?_ ?_ _ | refine Below.alloc ?_ ?_ _); rotate_left; exact (by first | omega | (simp; done) | (simp; omega))) | refine Below.drew ?_ | refine Below_drewN ?_ _)) (hb.mono (by first | omega | ((try simp only [World.size_alloc, World.size_setCell, size_drew, size_drewN]); omega) | (simp; done) | (simp; omega)))⟩

set_option maxRecDepth 100000 in
set_option maxHeartbeats 4000000 in
theorem validReadings_any (R : MachR) (M : MachD) (F : Option Addr) (len cap : Nat) (zs : List SpanD) (w : World) (hM : IsM w R M) (hF : IsT 2 SpanD.cells w F len zs) (hl : len ≤ 1000000000000000) :
    Calls Tryd.prog 22 #[.agg (machCells R M), .slice F len cap] w (Ret (.bool (readsB M zs)) w) := by
  have HE : Hid (readsB M zs = (decide (checkC M = 0) && (decide (zs.length = M.sensors.length) && zs.all fun s => vld s.lo s.hi))) := Lib.hid rfl
  have hn := hM.sensors.1
  have hz := hF.1
  have H0 := Lib.hid (fun W (hb : Below w.heap.size w W) => check_any R M W (hM.below hb))
  have HC := Lib.hid (fun W (hb : Below w.heap.size w W) => containsSpan0 44 (fun s => !vld s.lo s.hi) F len cap zs W (hF.below hb) hl (fun args W => enters_of Tryd.func44 (by kernel_rfl) rfl args W)
      (fun x W' _ hB => validReadings1_any x W'))
  rw [hn, hz] at HE
  have HA : Hid ((zs.any fun s => !vld s.lo s.hi) = !zs.all fun s => vld s.lo s.hi) := Lib.hid (by rw [List.not_all_eq_any_not])
  generalize readsB M zs = G at *
  generalize checkC M = c at *
  generalize (zs.any fun s => !vld s.lo s.hi) = ny at *
  generalize (zs.all fun s => vld s.lo s.hi) = al at *
  clear hM hF hn hz
  obtain ⟨A, B, C, D, la, ca, lb, cb, lc, cc, ld, cd⟩ := R
  obtain ⟨name, coils, shells, limits, ⟨r, z, nr, nz, step⟩, sensors⟩ := M
  dsimp only at *
  have H0 := Lib.hid (show ∀ W, Below w.heap.size w W → Calls Tryd.prog 32 #[.agg #[.string name, .slice A la ca, .slice B lb cb, .slice C lc cc, .int .i64 r, .int .i64 z, .int .i64 nr, .int .i64 nz, .int .i64 step, .slice D ld cd]] W (Ret (.int .i64 c) W) from H0.out)
  show Calls Tryd.prog 22 #[.agg #[.string name, .slice A la ca, .slice B lb cb, .slice C lc cc, .int .i64 r, .int .i64 z, .int .i64 nr, .int .i64 nz, .int .i64 step, .slice D ld cd], .slice F len cap] w _
  by_cases hc : c = 0
  · subst hc
    by_cases hq : len = ld
    · have HF : Hid (al = G) := Lib.hid (by rw [HE.out, decide_eq_true hq]; rfl)
      have hny : ny = !al := HA.out
      have hb1 : ((len : Int) == (ld : Int)) = true := by rw [beq_iff_eq, hq]
      subst hny
      clear HE HA hq
      go_enter Tryd.func22, Tryd.ntmps22
      go_wp2_with fail
      refine (H0.out _ (by (with_reducible repeat first | exact Below.refl _ _ | assumption | ((first | refine Below.setCell ?_ ?_ _ | refine Below.alloc ?_ ?_ _); rotate_left; exact (by first | omega | (simp; done) | (simp; omega))) | refine Below.drew ?_ | refine Below_drewN ?_ _))).mono ?_
      rintro e w1 ⟨rfl, hb⟩
      have q9 : w1.cell? ⟨w.heap.size, 9, none⟩ = some (.slice D ld cd) := by rw [hb.cell (p := ⟨w.heap.size, 9, none⟩) (by simp)]; go_simp
      have hs : w.heap.size < w1.heap.size := Nat.lt_of_lt_of_le (by simp) hb.size
      have hB1 : Below w.heap.size w w1 := Below.trans (by (with_reducible repeat first | exact Below.refl _ _ | assumption | ((first | refine Below.setCell ?_ ?_ _ | refine Below.alloc ?_ ?_ _); rotate_left; exact (by first | omega | (simp; done) | (simp; omega))) | refine Below.drew ?_ | refine Below_drewN ?_ _)) (hb.mono (by first | omega | ((try simp only [World.size_alloc, World.size_setCell, size_drew, size_drewN]); omega) | (simp; done) | (simp; omega)))
      clear hb
      go_wp2_with fail
      refine (HC.out _ (by (with_reducible repeat first | exact Below.refl _ _ | assumption | ((first | refine Below.setCell ?_ ?_ _ | refine Below.alloc ?_ ?_ _); rotate_left; exact (by first | omega | (simp; done) | (simp; omega))) | refine Below.drew ?_ | refine Below_drewN ?_ _))).mono ?_
      rintro e w2 ⟨rfl, hb⟩
      have hB2 : Below w.heap.size w w2 := hB1.trans (hb.mono hB1.size)
      clear hb
      go_wp2_with fail
      go_ret
      exact ⟨by rw [← HF.out]; cases al <;> rfl, by (with_reducible repeat first | exact Below.refl _ _ | assumption | ((first | refine Below.setCell ?_ ?_ _ | refine Below.alloc ?_ ?_ _); rotate_left; exact (by first | omega | (simp; done) | (simp; omega))) | refine Below.drew ?_ | refine Below_drewN ?_ _)⟩
    · have HF : Hid (false = G) := Lib.hid (by rw [HE.out, decide_eq_false hq]; rfl)
      have hb1 : ((len : Int) == (ld : Int)) = false := by rw [beq_eq_false_iff_ne]; omega
      clear HE HC HA hq
      go_enter Tryd.func22, Tryd.ntmps22
      go_wp2_with fail
      refine (H0.out _ (by (with_reducible repeat first | exact Below.refl _ _ | assumption | ((first | refine Below.setCell ?_ ?_ _ | refine Below.alloc ?_ ?_ _); rotate_left; exact (by first | omega | (simp; done) | (simp; omega))) | refine Below.drew ?_ | refine Below_drewN ?_ _))).mono ?_
      rintro e w1 ⟨rfl, hb⟩
      have q9 : w1.cell? ⟨w.heap.size, 9, none⟩ = some (.slice D ld cd) := by rw [hb.cell (p := ⟨w.heap.size, 9, none⟩) (by simp)]; go_simp
      have hs : w.heap.size < w1.heap.size := Nat.lt_of_lt_of_le (by simp) hb.size
      have hB1 : Below w.heap.size w w1 := Below.trans (by (with_reducible repeat first | exact Below.refl _ _ | assumption | ((first | refine Below.setCell ?_ ?_ _ | refine Below.alloc ?_ ?_ _); rotate_left; exact (by first | omega | (simp; done) | (simp; omega))) | refine Below.drew ?_ | refine Below_drewN ?_ _)) (hb.mono (by first | omega | ((try simp only [World.size_alloc, World.size_setCell, size_drew, size_drewN]); omega) | (simp; done) | (simp; omega)))
      clear hb
      go_wp2_with fail
      go_ret
      exact ⟨by rw [← HF.out]; rfl, by (with_reducible repeat first | exact Below.refl _ _ | assumption | ((first | refine Below.setCell ?_ ?_ _ | refine Below.alloc ?_ ?_ _); rotate_left; exact (by first | omega | (simp; done) | (simp; omega))) | refine Below.drew ?_ | refine Below_drewN ?_ _)⟩
  · have HF : Hid (false = G) := Lib.hid (by rw [HE.out, decide_eq_false hc]; rfl)
    have hcb : (c == 0) = false := by rw [beq_eq_false_iff_ne]; exact hc
    clear HE HC HA hc
    go_enter Tryd.func22, Tryd.ntmps22
    go_wp2_with fail
    refine (H0.out _ (by (with_reducible repeat first | exact Below.refl _ _ | assumption | ((first | refine Below.setCell ?_ ?_ _ | refine Below.alloc ?_ ?_ _); rotate_left; exact (by first | omega | (simp; done) | (simp; omega))) | refine Below.drew ?_ | refine Below_drewN ?_ _))).mono ?_
    rintro e w1 ⟨rfl, hb⟩
    have hs : w.heap.size < w1.heap.size := Nat.lt_of_lt_of_le (by simp) hb.size
    have hB1 : Below w.heap.size w w1 := Below.trans (by (with_reducible repeat first | exact Below.refl _ _ | assumption | ((first | refine Below.setCell ?_ ?_ _ | refine Below.alloc ?_ ?_ _); rotate_left; exact (by first | omega | (simp; done) | (simp; omega))) | refine Below.drew ?_ | refine Below_drewN ?_ _)) (hb.mono (by first | omega | ((try simp only [World.size_alloc, World.size_setCell, size_drew, size_drewN]); omega) | (simp; done) | (simp; omega)))
    clear hb
    go_wp2_with fail
    go_ret
    exact ⟨by rw [← HF.out]; rfl, by (with_reducible repeat first | exact Below.refl _ _ | assumption | ((first | refine Below.setCell ?_ ?_ _ | refine Below.alloc ?_ ?_ _); rotate_left; exact (by first | omega | (simp; done) | (simp; omega))) | refine Below.drew ?_ | refine Below_drewN ?_ _)⟩

end Go.Proofs.YtfpjhobhmcfpnabDoor
end
section
/- Package sense: explainable, over this seat's translation (written by mk_com.py). -/
namespace Go.Proofs.YtfpjhobhmcfpnabDoor
set_option linter.unusedVariables false
set_option linter.unusedSimpArgs false
open Go.RowKit Go.Shelf

def explB (M : MachD) (C : CurD) (zs : List SpanD) : Bool := validC M C && readsB M zs

set_option maxRecDepth 100000 in
set_option maxHeartbeats 8000000 in
theorem explainable_any (R : MachR) (M : MachD) (Qr : CurR) (Cd : CurD) (F : Option Addr) (nf cf : Nat) (zs : List SpanD) (w : World) (hM : IsM w R M) (hC : IsC w Qr Cd) (hF : IsT 2 SpanD.cells w F nf zs) (hn : nf ≤ 1000000000000000) :
    Calls Tryd.prog 10 #[.agg (machCells R M), Qr.v, .slice F nf cf] w (Ret (.bool (explB M Cd zs)) w) := by
  have HV0 := Lib.hid (fun W (hb : Below w.heap.size w W) => validCurrents_any R M Qr Cd W (hM.below hb) (hC.below hb))
  have HR0 := Lib.hid (fun W (hb : Below w.heap.size w W) => validReadings_any R M F nf cf zs W (hM.below hb) (hF.below hb) hn)
  unfold explB
  clear hM hC hF
  generalize validC M Cd = V at *
  generalize readsB M zs = U at *
  obtain ⟨A, B, Cl, D, la, ca, lb, cb, lc, cl, ld, cd⟩ := R
  obtain ⟨name, coils, shells, limits, ⟨r, z, nr, nz, step⟩, sensors⟩ := M
  obtain ⟨A1, B1, C1, na, qa, nb, qb, nc, qc⟩ := Qr
  dsimp only [CurR.v] at *
  have HV := Lib.hid (show ∀ W, Below w.heap.size w W → Calls Tryd.prog 16 #[.agg #[.string name, .slice A la ca, .slice B lb cb, .slice Cl lc cl, .int .i64 r, .int .i64 z, .int .i64 nr, .int .i64 nz, .int .i64 step, .slice D ld cd], .agg #[.slice A1 na qa, .slice B1 nb qb, .slice C1 nc qc]] W (Ret (.bool V) W) from HV0.out)
  have HR := Lib.hid (show ∀ W, Below w.heap.size w W → Calls Tryd.prog 22 #[.agg #[.string name, .slice A la ca, .slice B lb cb, .slice Cl lc cl, .int .i64 r, .int .i64 z, .int .i64 nr, .int .i64 nz, .int .i64 step, .slice D ld cd], .slice F nf cf] W (Ret (.bool U) W) from HR0.out)
  clear HV0 HR0
  show Calls Tryd.prog 10 #[.agg #[.string name, .slice A la ca, .slice B lb cb, .slice Cl lc cl, .int .i64 r, .int .i64 z, .int .i64 nr, .int .i64 nz, .int .i64 step, .slice D ld cd], .agg #[.slice A1 na qa, .slice B1 nb qb, .slice C1 nc qc], .slice F nf cf] w _
  go_enter Tryd.func10, Tryd.ntmps10
  go_upto_region 1 with (fail)
  have Fm : Hid (RowL (w.heap.size) [.string name, .slice A la ca, .slice B lb cb, .slice Cl lc cl, .int .i64 r, .int .i64 z, .int .i64 nr, .int .i64 nz, .int .i64 step, .slice D ld cd] ((w.alloc (.cells #[.string name, .slice A la ca, .slice B lb cb, .slice Cl lc cl, .int .i64 r, .int .i64 z, .int .i64 nr, .int .i64 nz, .int .i64 step, .slice D ld cd] 29)).alloc (.cells #[.slice A1 na qa, .slice B1 nb qb, .slice C1 nc qc] 32))) := Lib.hid (by have h := RowL.new w #[.string name, .slice A la ca, .slice B lb cb, .slice Cl lc cl, .int .i64 r, .int .i64 z, .int .i64 nr, .int .i64 nz, .int .i64 step, .slice D ld cd] 29; (try simp only [World.size_alloc] at h); exact (h.alloc _))
  have Fc : Hid (RowL (w.heap.size + 1) [.slice A1 na qa, .slice B1 nb qb, .slice C1 nc qc] ((w.alloc (.cells #[.string name, .slice A la ca, .slice B lb cb, .slice Cl lc cl, .int .i64 r, .int .i64 z, .int .i64 nr, .int .i64 nz, .int .i64 step, .slice D ld cd] 29)).alloc (.cells #[.slice A1 na qa, .slice B1 nb qb, .slice C1 nc qc] 32))) := Lib.hid (by have h := RowL.new (w.alloc (.cells #[.string name, .slice A la ca, .slice B lb cb, .slice Cl lc cl, .int .i64 r, .int .i64 z, .int .i64 nr, .int .i64 nz, .int .i64 step, .slice D ld cd] 29)) #[.slice A1 na qa, .slice B1 nb qb, .slice C1 nc qc] 32; (try simp only [World.size_alloc] at h); exact h)
  have hB0 : Below w.heap.size w ((w.alloc (.cells #[.string name, .slice A la ca, .slice B lb cb, .slice Cl lc cl, .int .i64 r, .int .i64 z, .int .i64 nr, .int .i64 nz, .int .i64 step, .slice D ld cd] 29)).alloc (.cells #[.slice A1 na qa, .slice B1 nb qb, .slice C1 nc qc] 32)) := by (with_reducible repeat first | exact Below.refl _ _ | assumption | ((first | refine Below.setCell ?_ ?_ _ | refine Below.alloc ?_ ?_ _); rotate_left; exact (by first | omega | (simp; done) | (simp; omega))) | refine Below.drew ?_ | refine Below_drewN ?_ _)
  have sW0 : w.heap.size + 1 < ((w.alloc (.cells #[.string name, .slice A la ca, .slice B lb cb, .slice Cl lc cl, .int .i64 r, .int .i64 z, .int .i64 nr, .int .i64 nz, .int .i64 step, .slice D ld cd] 29)).alloc (.cells #[.slice A1 na qa, .slice B1 nb qb, .slice C1 nc qc] 32)).heap.size := by simp only [World.size_alloc]; omega
  obtain ⟨W0, hW0⟩ : ∃ W, ((w.alloc (.cells #[.string name, .slice A la ca, .slice B lb cb, .slice Cl lc cl, .int .i64 r, .int .i64 z, .int .i64 nr, .int .i64 nz, .int .i64 step, .slice D ld cd] 29)).alloc (.cells #[.slice A1 na qa, .slice B1 nb qb, .slice C1 nc qc] 32)) = W := ⟨_, rfl⟩
  rw [hW0] at Fm Fc hB0 sW0 ⊢
  clear hW0
  have m0 := Fm.out.cell 0 (.string name) rfl
  have m1 := Fm.out.cell 1 (.slice A la ca) rfl
  have m2 := Fm.out.cell 2 (.slice B lb cb) rfl
  have m3 := Fm.out.cell 3 (.slice Cl lc cl) rfl
  have m4 := Fm.out.cell 4 (.int .i64 r) rfl
  have m5 := Fm.out.cell 5 (.int .i64 z) rfl
  have m6 := Fm.out.cell 6 (.int .i64 nr) rfl
  have m7 := Fm.out.cell 7 (.int .i64 nz) rfl
  have m8 := Fm.out.cell 8 (.int .i64 step) rfl
  have m9 := Fm.out.cell 9 (.slice D ld cd) rfl
  have c0 := Fc.out.cell 0 (.slice A1 na qa) rfl
  have c1 := Fc.out.cell 1 (.slice B1 nb qb) rfl
  have c2 := Fc.out.cell 2 (.slice C1 nc qc) rfl
  cases V
  · go_wp2_with fail
    refine (HV.out _ hB0).mono ?_
    rintro e w1 ⟨rfl, hb⟩
    have hB1 := hB0.trans (hb.mono hB0.size)
    clear hb
    go_wp2_with fail
    go_ret
    exact ⟨rfl, by (with_reducible repeat first | exact Below.refl _ _ | assumption | ((first | refine Below.setCell ?_ ?_ _ | refine Below.alloc ?_ ?_ _); rotate_left; exact (by first | omega | (simp; done) | (simp; omega))) | refine Below.drew ?_ | refine Below_drewN ?_ _)⟩
  · go_wp2_with fail
    refine (HV.out _ hB0).mono ?_
    rintro e w1 ⟨rfl, hb⟩
    clear m0 m1 m2 m3 m4 m5 m6 m7 m8 m9 c0 c1 c2
    have Gm := Lib.hid (Fm.out.below hb)
    clear Fm
    have Fm := Lib.hid Gm.out
    clear Gm
    have Gc := Lib.hid (Fc.out.below hb)
    clear Fc
    have Fc := Lib.hid Gc.out
    clear Gc
    have m0 := Fm.out.cell 0 (.string name) rfl
    have m1 := Fm.out.cell 1 (.slice A la ca) rfl
    have m2 := Fm.out.cell 2 (.slice B lb cb) rfl
    have m3 := Fm.out.cell 3 (.slice Cl lc cl) rfl
    have m4 := Fm.out.cell 4 (.int .i64 r) rfl
    have m5 := Fm.out.cell 5 (.int .i64 z) rfl
    have m6 := Fm.out.cell 6 (.int .i64 nr) rfl
    have m7 := Fm.out.cell 7 (.int .i64 nz) rfl
    have m8 := Fm.out.cell 8 (.int .i64 step) rfl
    have m9 := Fm.out.cell 9 (.slice D ld cd) rfl
    have c0 := Fc.out.cell 0 (.slice A1 na qa) rfl
    have c1 := Fc.out.cell 1 (.slice B1 nb qb) rfl
    have c2 := Fc.out.cell 2 (.slice C1 nc qc) rfl
    have hB1 := hB0.trans (hb.mono hB0.size)
    clear hb
    go_wp2_with fail
    refine (HR.out _ (by (with_reducible repeat first | exact Below.refl _ _ | assumption | ((first | refine Below.setCell ?_ ?_ _ | refine Below.alloc ?_ ?_ _); rotate_left; exact (by first | omega | (simp; done) | (simp; omega))) | refine Below.drew ?_ | refine Below_drewN ?_ _))).mono ?_
    rintro e w2 ⟨rfl, hb⟩
    have hB2 := hB1.trans (hb.mono hB1.size)
    clear hb
    go_wp2_with fail
    go_ret
    exact ⟨rfl, by (with_reducible repeat first | exact Below.refl _ _ | assumption | ((first | refine Below.setCell ?_ ?_ _ | refine Below.alloc ?_ ?_ _); rotate_left; exact (by first | omega | (simp; done) | (simp; omega))) | refine Below.drew ?_ | refine Below_drewN ?_ _)⟩

end Go.Proofs.YtfpjhobhmcfpnabDoor
end
section
/- Package sense: claimsOf, over this seat's translation (written by mk_cof.py). -/
namespace Go.Proofs.YtfpjhobhmcfpnabDoor
set_option linter.unusedVariables false
set_option linter.unusedSimpArgs false
open Go.RowKit Go.Shelf

/-- A list of lists in new memory: block p names the blocks L, of which the k-th holds T k. -/
def CofAt (n ld : Nat) (T : Nat → List Value) (w : World) (e : Ending) (w' : World) : Prop :=
  ∃ (p : Nat) (L : List Nat), e = .returned (.slice (some ⟨p, 0, none⟩) n n) ∧ L.length = n ∧ RowL p (L.map fun b => Value.slice (some ⟨b, 0, none⟩) ld ld) w' ∧ (∀ (k b : Nat), L[k]? = some b → RowL b (T k) w') ∧ Below w.heap.size w w'
theorem infoC : (Tryd.prog.info? 65).map (fun i => (i.zero, i.size, i.bytes)) = some (some (.slice none 0 0), 1, 24) := by kernel_rfl
theorem fill_snoc (X : List Value) (n : Nat) (z v : Value) (h : X.length < n) : (X ++ List.replicate (n - X.length) z).set X.length v = (X ++ [v]) ++ List.replicate (n - (X.length + 1)) z := by
  rw [List.set_append_right _ _ (Nat.le_refl _), Nat.sub_self, show n - X.length = (n - (X.length + 1)) + 1 by omega, List.replicate_succ, List.set_cons_zero, List.append_assoc]; rfl

set_option maxRecDepth 100000 in
set_option maxHeartbeats 8000000 in
theorem claimsOf_any (R : MachR) (M : MachD) (Qr : CurR) (Cd : CurD) (F : Option Addr) (nf cf : Nat) (zs : List SpanD) (w : World) (hM : IsM w R M) (hC : IsC w Qr Cd) (hF : IsT 2 SpanD.cells w F nf zs) (he : explB M Cd zs = true) :
    Calls Tryd.prog 11 #[.agg (machCells R M), Qr.v, .slice F nf cf] w (CofAt Qr.lc R.ld (fun k => (clL M (bgL M Cd) zs (k : Int)).flatMap SpanD.cells) w) := by
  unfold explB at he
  rw [Bool.and_eq_true] at he
  have hv := fit2_iff.1 he.1
  have hr := he.2
  unfold readsB at hr
  rw [Bool.and_eq_true, Bool.and_eq_true, decide_eq_true_iff, decide_eq_true_iff] at hr
  have hf1 := hF.1
  have hl := hM.sensors.1
  have hp := hC.plasma.1
  have hp2 := hv.plasma.1
  have hs := sound_of hv.check
  have hg := cells_fine hs.grid
  have hld : R.ld ≤ 1000 := by have := hs.sensors.1; omega
  have hlc : Qr.lc ≤ 1000 := by omega
  have hnf : nf = R.ld := by omega
  subst hnf
  have HBS0 := Lib.hid (fun W (hb : Below w.heap.size w W) => backgrounds_any R M Qr Cd W (hM.below hb) (hC.below hb) hld)
  have HCI0 := Lib.hid (fun (pb k : Nat) (hk : k < Qr.lc) W (hb : Below w.heap.size w W) (hR : RowL pb ((bgL M Cd).map (Value.int .i64)) W) => claimsIn_any R M (some ⟨pb, 0, none⟩) F R.ld R.ld R.ld cf (bgL M Cd) zs (k : Int) W (hM.below hb) (hR.isI (by unfold bgL; rw [List.length_map, List.length_range, hl])) (hF.below hb) hv.check (wthn_iff.2 (by omega)) rfl rfl
    (fun b hb => by unfold bgL at hb; obtain ⟨k, -, rfl⟩ := List.mem_map.1 hb; exact backL_bd M Cd _) (fun s hs => by have := List.all_eq_true.1 hr.2.2 s hs; exact this))
  clear hM hC hF he hv hr hf1 hl hp hp2 hs hg
  generalize (bgL M Cd).map (Value.int .i64) = TB at *
  obtain ⟨TC, hTC⟩ : ∃ TC : Nat → List Value, ∀ k : Nat, (clL M (bgL M Cd) zs (k : Int)).flatMap SpanD.cells = TC k := ⟨fun k => (clL M (bgL M Cd) zs (k : Int)).flatMap SpanD.cells, fun _ => rfl⟩
  rw [show (fun k : Nat => (clL M (bgL M Cd) zs (k : Int)).flatMap SpanD.cells) = TC from funext hTC]
  have HCI1 := Lib.hid (fun (pb k : Nat) (hk : k < Qr.lc) W (hb : Below w.heap.size w W) (hR : RowL pb TB W) => (by have h := HCI0.out pb k hk W hb hR; rw [hTC] at h; exact h : Calls Tryd.prog 24 #[.agg (machCells R M), .slice (some ⟨pb, 0, none⟩) R.ld R.ld, .slice F R.ld cf, .int .i64 (k : Int)] W (MadeAt R.ld (TC k) W)))
  clear HCI0 hTC
  obtain ⟨A, B, Cl, D, la, ca, lb, cb, lc, cl, ld, cd⟩ := R
  obtain ⟨name, coils, shells, limits, ⟨r, z, nr, nz, step⟩, sensors⟩ := M
  obtain ⟨A1, B1, C1, na, qa, nb, qb, nc, qc⟩ := Qr
  dsimp only [CurR.v] at *
  have HBS := Lib.hid (show ∀ W, Below w.heap.size w W → Calls Tryd.prog 23 #[.agg #[.string name, .slice A la ca, .slice B lb cb, .slice Cl lc cl, .int .i64 r, .int .i64 z, .int .i64 nr, .int .i64 nz, .int .i64 step, .slice D ld cd], .agg #[.slice A1 na qa, .slice B1 nb qb, .slice C1 nc qc]] W (MadeAt ld TB W) from HBS0.out)
  have HCI := Lib.hid (show ∀ (pb k : Nat), k < nc → ∀ W, Below w.heap.size w W → RowL pb TB W → Calls Tryd.prog 24 #[.agg #[.string name, .slice A la ca, .slice B lb cb, .slice Cl lc cl, .int .i64 r, .int .i64 z, .int .i64 nr, .int .i64 nz, .int .i64 step, .slice D ld cd], .slice (some ⟨pb, 0, none⟩) ld ld, .slice F ld cf, .int .i64 (k : Int)] W (MadeAt ld (TC k) W) from HCI1.out)
  clear HBS0 HCI1
  have hmk := run_make_row' (P := Tryd.prog) 63 65 (.slice none 0 0) 24 Tryd.underlying63 infoC rfl .i64 .i64 nc (by omega) (by omega)
  show Calls Tryd.prog 11 #[.agg #[.string name, .slice A la ca, .slice B lb cb, .slice Cl lc cl, .int .i64 r, .int .i64 z, .int .i64 nr, .int .i64 nz, .int .i64 step, .slice D ld cd], .agg #[.slice A1 na qa, .slice B1 nb qb, .slice C1 nc qc], .slice F ld cf] w _
  go_enter Tryd.func11, Tryd.ntmps11
  go_upto_region 1 with (fail)
  have Fm : Hid (RowL (w.heap.size) [.string name, .slice A la ca, .slice B lb cb, .slice Cl lc cl, .int .i64 r, .int .i64 z, .int .i64 nr, .int .i64 nz, .int .i64 step, .slice D ld cd] ((w.alloc (.cells #[.string name, .slice A la ca, .slice B lb cb, .slice Cl lc cl, .int .i64 r, .int .i64 z, .int .i64 nr, .int .i64 nz, .int .i64 step, .slice D ld cd] 29)).alloc (.cells #[.slice A1 na qa, .slice B1 nb qb, .slice C1 nc qc] 32))) := Lib.hid (by have h := RowL.new w #[.string name, .slice A la ca, .slice B lb cb, .slice Cl lc cl, .int .i64 r, .int .i64 z, .int .i64 nr, .int .i64 nz, .int .i64 step, .slice D ld cd] 29; (try simp only [World.size_alloc] at h); exact (h.alloc _))
  have Fc : Hid (RowL (w.heap.size + 1) [.slice A1 na qa, .slice B1 nb qb, .slice C1 nc qc] ((w.alloc (.cells #[.string name, .slice A la ca, .slice B lb cb, .slice Cl lc cl, .int .i64 r, .int .i64 z, .int .i64 nr, .int .i64 nz, .int .i64 step, .slice D ld cd] 29)).alloc (.cells #[.slice A1 na qa, .slice B1 nb qb, .slice C1 nc qc] 32))) := Lib.hid (by have h := RowL.new (w.alloc (.cells #[.string name, .slice A la ca, .slice B lb cb, .slice Cl lc cl, .int .i64 r, .int .i64 z, .int .i64 nr, .int .i64 nz, .int .i64 step, .slice D ld cd] 29)) #[.slice A1 na qa, .slice B1 nb qb, .slice C1 nc qc] 32; (try simp only [World.size_alloc] at h); exact h)
  have hB0 : Below w.heap.size w ((w.alloc (.cells #[.string name, .slice A la ca, .slice B lb cb, .slice Cl lc cl, .int .i64 r, .int .i64 z, .int .i64 nr, .int .i64 nz, .int .i64 step, .slice D ld cd] 29)).alloc (.cells #[.slice A1 na qa, .slice B1 nb qb, .slice C1 nc qc] 32)) := by (with_reducible repeat first | exact Below.refl _ _ | assumption | ((first | refine Below.setCell ?_ ?_ _ | refine Below.alloc ?_ ?_ _); rotate_left; exact (by first | omega | (simp; done) | (simp; omega))) | refine Below.drew ?_ | refine Below_drewN ?_ _)
  have sW0 : w.heap.size + 1 < ((w.alloc (.cells #[.string name, .slice A la ca, .slice B lb cb, .slice Cl lc cl, .int .i64 r, .int .i64 z, .int .i64 nr, .int .i64 nz, .int .i64 step, .slice D ld cd] 29)).alloc (.cells #[.slice A1 na qa, .slice B1 nb qb, .slice C1 nc qc] 32)).heap.size := by simp only [World.size_alloc]; omega
  obtain ⟨W0, hW0⟩ : ∃ W, ((w.alloc (.cells #[.string name, .slice A la ca, .slice B lb cb, .slice Cl lc cl, .int .i64 r, .int .i64 z, .int .i64 nr, .int .i64 nz, .int .i64 step, .slice D ld cd] 29)).alloc (.cells #[.slice A1 na qa, .slice B1 nb qb, .slice C1 nc qc] 32)) = W := ⟨_, rfl⟩
  rw [hW0] at Fm Fc hB0 sW0 ⊢
  clear hW0
  have m0 := Fm.out.cell 0 (.string name) rfl
  have m1 := Fm.out.cell 1 (.slice A la ca) rfl
  have m2 := Fm.out.cell 2 (.slice B lb cb) rfl
  have m3 := Fm.out.cell 3 (.slice Cl lc cl) rfl
  have m4 := Fm.out.cell 4 (.int .i64 r) rfl
  have m5 := Fm.out.cell 5 (.int .i64 z) rfl
  have m6 := Fm.out.cell 6 (.int .i64 nr) rfl
  have m7 := Fm.out.cell 7 (.int .i64 nz) rfl
  have m8 := Fm.out.cell 8 (.int .i64 step) rfl
  have m9 := Fm.out.cell 9 (.slice D ld cd) rfl
  have c0 := Fc.out.cell 0 (.slice A1 na qa) rfl
  have c1 := Fc.out.cell 1 (.slice B1 nb qb) rfl
  have c2 := Fc.out.cell 2 (.slice C1 nc qc) rfl
  go_wp2_with fail
  refine (HBS.out _ hB0).mono ?_
  rintro e w1 ⟨pb, rfl, hpb, hrb, hb⟩
  clear m0 m1 m2 m3 m4 m5 m6 m7 m8 m9 c0 c1 c2
  have Gm := Lib.hid (Fm.out.below hb)
  clear Fm
  have Fm := Lib.hid Gm.out
  clear Gm
  have Gc := Lib.hid (Fc.out.below hb)
  clear Fc
  have Fc := Lib.hid Gc.out
  clear Gc
  have m0 := Fm.out.cell 0 (.string name) rfl
  have m1 := Fm.out.cell 1 (.slice A la ca) rfl
  have m2 := Fm.out.cell 2 (.slice B lb cb) rfl
  have m3 := Fm.out.cell 3 (.slice Cl lc cl) rfl
  have m4 := Fm.out.cell 4 (.int .i64 r) rfl
  have m5 := Fm.out.cell 5 (.int .i64 z) rfl
  have m6 := Fm.out.cell 6 (.int .i64 nr) rfl
  have m7 := Fm.out.cell 7 (.int .i64 nz) rfl
  have m8 := Fm.out.cell 8 (.int .i64 step) rfl
  have m9 := Fm.out.cell 9 (.slice D ld cd) rfl
  have c0 := Fc.out.cell 0 (.slice A1 na qa) rfl
  have c1 := Fc.out.cell 1 (.slice B1 nb qb) rfl
  have c2 := Fc.out.cell 2 (.slice C1 nc qc) rfl
  have hB1 := hB0.trans (hb.mono hB0.size)
  have hz1 : w.heap.size + 1 < w1.heap.size := Nat.lt_of_lt_of_le sW0 hb.size
  have hpl := hrb.lt
  have HRB := Lib.hid hrb
  clear hb hB0 hrb HBS
  go_upto_region 3 with (fail)
  have hR0 : Hid (RowL w1.heap.size (([] : List Nat).map (fun b : Nat => Value.slice (some ⟨b, 0, none⟩) ld ld) ++ List.replicate (nc - 0) (.slice none 0 0)) (w1.alloc (.cells (madeCells #[.slice none 0 0] nc) 65))) := Lib.hid (by
    have h := RowL.new w1 (madeCells #[.slice none 0 0] nc) 65
    rw [toList_madeCells_one] at h
    exact h)
  have hb1 : Below w1.heap.size w1 (w1.alloc (.cells (madeCells #[.slice none 0 0] nc) 65)) := by (with_reducible repeat first | exact Below.refl _ _ | assumption | ((first | refine Below.setCell ?_ ?_ _ | refine Below.alloc ?_ ?_ _); rotate_left; exact (by first | omega | (simp; done) | (simp; omega))) | refine Below.drew ?_ | refine Below_drewN ?_ _)
  obtain ⟨W2, hW2⟩ : ∃ W, w1.alloc (.cells (madeCells #[.slice none 0 0] nc) 65) = W := ⟨_, rfl⟩
  rw [hW2] at hR0 hb1 ⊢
  clear hW2 hmk m0 m1 m2 m3 m4 m5 m6 m7 m8 m9 c0 c1 c2
  go_wp2_with fail
  go_loopw [19] (fun i wr => ∃ (j : Nat) (L : List Nat), j ≤ nc ∧ i = .int .i64 j ∧ Hid (L.length = j ∧ RowL w1.heap.size (L.map (fun b : Nat => Value.slice (some ⟨b, 0, none⟩) ld ld) ++ List.replicate (nc - j) (.slice none 0 0)) wr ∧ ∀ (k b : Nat), L[k]? = some b → RowL b (TC k) wr ∧ b ≠ w1.heap.size) ∧ Below w1.heap.size w1 wr) (fun i _ => nc - (intOf i).toNat)
  case atStart => exact ⟨0, [], Nat.zero_le _, rfl, Lib.hid ⟨rfl, hR0.out, fun k b h => by simp at h⟩, hb1⟩
  case round =>
    obtain ⟨j, L, hj, rfl, hR, hB⟩ := hrel
    have sz := hB.size
    have hBw := hB1.trans (hB.mono hB1.size)
    by_cases hlt : j < nc
    · have hLl := hR.out.1
      have rl : (L.map (fun b : Nat => Value.slice (some ⟨b, 0, none⟩) ld ld)).length = j := by rw [List.length_map]; exact hLl
      have r0 := hR.out.2.1.cell j (.slice none 0 0) (by rw [List.getElem?_append_right (by omega), rl, Nat.sub_self, List.getElem?_replicate, if_pos (by omega)])
      have rf := hR.out.2.1.mark j (by rw [List.length_append, rl, List.length_replicate]; omega)
      have m0 := (Fm.out.below hB).cell 0 (.string name) rfl
      have m1 := (Fm.out.below hB).cell 1 (.slice A la ca) rfl
      have m2 := (Fm.out.below hB).cell 2 (.slice B lb cb) rfl
      have m3 := (Fm.out.below hB).cell 3 (.slice Cl lc cl) rfl
      have m4 := (Fm.out.below hB).cell 4 (.int .i64 r) rfl
      have m5 := (Fm.out.below hB).cell 5 (.int .i64 z) rfl
      have m6 := (Fm.out.below hB).cell 6 (.int .i64 nr) rfl
      have m7 := (Fm.out.below hB).cell 7 (.int .i64 nz) rfl
      have m8 := (Fm.out.below hB).cell 8 (.int .i64 step) rfl
      have m9 := (Fm.out.below hB).cell 9 (.slice D ld cd) rfl
      have HC := Lib.hid (HCI.out pb j hlt wr hBw (HRB.out.below hB))
      have jn : ((j : Int)).toNat = j := by omega
      have j0 : (0 : Int) ≤ j := by omega
      have HLl := Lib.hid hLl
      have Hrl := Lib.hid rl
      clear hR0 hb1 hLl rl
      go_wp2_with fail
      refine HC.out.mono ?_
      rintro e w2 ⟨b, rfl, hbl, hrb, hb⟩
      have hR2 := hR.out.2.1.below hb
      have hpl2 : w1.heap.size < w2.heap.size := hR2.lt
      have hpw := hR.out.2.1.lt
      clear r0 rf
      have r0 := hR2.cell j (.slice none 0 0) (by rw [List.getElem?_append_right (by rw [Hrl.out]; omega), Hrl.out, Nat.sub_self, List.getElem?_replicate, if_pos (by omega)])
      have rf := hR2.mark j (by rw [List.length_append, Hrl.out, List.length_replicate]; omega)
      have hne : b ≠ w1.heap.size := by omega
      have HNX : Hid ((L ++ [b]).length = j + 1 ∧ RowL w1.heap.size ((L ++ [b]).map (fun b : Nat => Value.slice (some ⟨b, 0, none⟩) ld ld) ++ List.replicate (nc - (j + 1)) (.slice none 0 0)) (w2.setCell ⟨w1.heap.size, j, none⟩ (.slice (some ⟨b, 0, none⟩) ld ld)) ∧ ∀ (k c : Nat), (L ++ [b])[k]? = some c → RowL c (TC k) (w2.setCell ⟨w1.heap.size, j, none⟩ (.slice (some ⟨b, 0, none⟩) ld ld)) ∧ c ≠ w1.heap.size) := Lib.hid (by
        refine ⟨by rw [List.length_append, HLl.out]; rfl, ?_, fun k c hk => ?_⟩
        · have h := hR2.put j (.slice (some ⟨b, 0, none⟩) ld ld) (by rw [List.length_append, Hrl.out, List.length_replicate]; omega)
          have h2 := fill_snoc (L.map (fun b : Nat => Value.slice (some ⟨b, 0, none⟩) ld ld)) nc (.slice none 0 0) (.slice (some ⟨b, 0, none⟩) ld ld) (by rw [Hrl.out]; exact hlt)
          rw [Hrl.out] at h2
          rw [h2] at h
          rw [List.map_append]
          exact h
        · by_cases hkj : k < j
          · rw [List.getElem?_append_left (by rw [HLl.out]; exact hkj)] at hk
            obtain ⟨h1, h2⟩ := hR.out.2.2 k c hk
            exact ⟨(h1.below hb).far (by dsimp only; exact h2) _, h2⟩
          · rw [List.getElem?_append_right (by rw [HLl.out]; omega), HLl.out] at hk
            have hk0 : k - j = 0 := by
              have := (List.getElem?_eq_some_iff.1 hk).1
              simp at this; omega
            rw [hk0] at hk
            obtain rfl : b = c := by simpa using hk
            obtain rfl : k = j := by omega
            exact ⟨hrb.far (by dsimp only; exact hne) _, hne⟩)
      have hB2 := hB.trans (hb.mono hB.size)
      have sz2 := hb.size
      clear hR2 hb hrb m0 m1 m2 m3 m4 m5 m6 m7 m8 m9 HC hR
      go_wp2_with fail
      go_roundw
      case rel => exact ⟨j + 1, L ++ [b], by omega, by go_num, HNX, by (with_reducible repeat first | exact Below.refl _ _ | assumption | ((first | refine Below.setCell ?_ ?_ _ | refine Below.alloc ?_ ?_ _); rotate_left; exact (by first | omega | (simp; done) | (simp; omega))) | refine Below.drew ?_ | refine Below_drewN ?_ _)⟩
      case measure => simp [intOf]; omega
    · obtain rfl : j = nc := by omega
      clear hR0 hb1
      go_wp2_with fail
      go_ret
      obtain ⟨h1, h2, h3⟩ := hR.out
      rw [Nat.sub_self, List.replicate_zero, List.append_nil] at h2
      exact ⟨w1.heap.size, L, rfl, h1, h2, fun k b h => (h3 k b h).1, hBw⟩

end Go.Proofs.YtfpjhobhmcfpnabDoor
end
