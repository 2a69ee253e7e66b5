import Derived.Test.YtfpjhobhmcfpnaaDoorJAA
import Derived.Test.YtfpjhobhmcfpnaaDoorJAB
import Derived.Test.YtfpjhobhmcfpnaaDoorJAR
import Derived.Test.YtfpjhobhmcfpnaaDoorJAZ
import Derived.Test.YtfpjhobhmcfpnaaDoorJBB
section
/- Package sense and its specification: ValidFaults and ValidReadings, over this seat's translation. -/
namespace Go.Proofs.YtfpjhobhmcfpnaaDoor
set_option linter.unusedVariables false
set_option linter.unusedSimpArgs false
open Go.RowKit Go.Shelf

/-- How far from 0 the N of a kind of faults may be. -/
def mostK (k : Int) : Int := if k = 1 then 1000000000000000 else if k = 2 then 100000 else 0
def readsB (M : MachD) (l : List SpanD) : Bool := decide (checkC M = 0) && (decide (l.length = M.sensors.length) && l.all fun s => vld s.lo s.hi)

/-- The table of fault kinds holds what the program lays into it. -/
structure Kinds (w : World) : Prop where
  most : ∀ k : Nat, k < 4 → ∃ s : ByteArray, w.cell? ⟨0, k * 2, none⟩ = some (.string s) ∧ (1 ≤ k → w.cell? ⟨0, k * 2 + 1, none⟩ = some (.int .i64 (mostK k)))
  size : 0 < w.heap.size
theorem Kinds.below {w w1 : World} (h : Kinds w) (hb : Below w.heap.size w w1) : Kinds w1 :=
  ⟨fun k hk => by
    obtain ⟨s, h1, h2⟩ := h.most k hk
    exact ⟨s, (hb.cell (p := ⟨0, k * 2, none⟩) h.size).trans h1, fun h1 => (hb.cell (p := ⟨0, k * 2 + 1, none⟩) h.size).trans (h2 h1)⟩, Nat.lt_of_lt_of_le h.size hb.size⟩

/-- The machine, as it lies in a box. -/
def BoxM (w : World) (c0 : Nat) (A B C D : Option Addr) (name : ByteArray) (la ca lb cb lc cc ld cd : Nat) (r z nr nz step : Int) : Prop :=
  w.cell? ⟨c0, 0, none⟩ = some (.string name) ∧ w.cell? ⟨c0, 1, none⟩ = some (.slice A la ca) ∧ w.cell? ⟨c0, 2, none⟩ = some (.slice B lb cb) ∧ w.cell? ⟨c0, 3, none⟩ = some (.slice C lc cc) ∧ w.cell? ⟨c0, 4, none⟩ = some (.int .i64 r) ∧ w.cell? ⟨c0, 5, none⟩ = some (.int .i64 z) ∧ w.cell? ⟨c0, 6, none⟩ = some (.int .i64 nr) ∧ w.cell? ⟨c0, 7, none⟩ = some (.int .i64 nz) ∧ w.cell? ⟨c0, 8, none⟩ = some (.int .i64 step) ∧ w.cell? ⟨c0, 9, none⟩ = some (.slice D ld cd)
theorem BoxM.below {w w1 : World} {c0 : Nat} {A B C D : Option Addr} {name : ByteArray} {la ca lb cb lc cc ld cd : Nat} {r z nr nz step : Int} (h : BoxM w c0 A B C D name la ca lb cb lc cc ld cd r z nr nz step) (h0 : c0 < w.heap.size) (hb : Below w.heap.size w w1) : BoxM w1 c0 A B C D name la ca lb cb lc cc ld cd r z nr nz step := by
  obtain ⟨a0, a1, a2, a3, a4, a5, a6, a7, a8, a9⟩ := h
  have g : ∀ (o : Nat) (v : Value), w.cell? ⟨c0, o, none⟩ = some v → w1.cell? ⟨c0, o, none⟩ = some v := fun o v e => (hb.cell (p := ⟨c0, o, none⟩) h0).trans e
  exact ⟨g _ _ a0, g _ _ a1, g _ _ a2, g _ _ a3, g _ _ a4, g _ _ a5, g _ _ a6, g _ _ a7, g _ _ a8, g _ _ a9⟩

end Go.Proofs.YtfpjhobhmcfpnaaDoor
end
section
/- Package sense and its specification: ValidReadings, the specification's ValidFaults and ValidReadings, brief, over this seat's translation (written by mk_sy.py). -/
namespace Go.Proofs.YtfpjhobhmcfpnaaDoor
set_option linter.unusedVariables false
set_option linter.unusedSimpArgs false
open Go.RowKit Go.Shelf

set_option maxHeartbeats 1000000 in
theorem validReadings1_any (s : SpanD) (w : World) :
    Calls Tryd.prog 118 #[s.v] w (Ret (.bool (!vld s.lo s.hi)) w) := by
  obtain ⟨a, b⟩ := s
  show Calls Tryd.prog 118 #[.agg #[.int .i64 a, .int .i64 b]] w _
  go_enter Tryd.func118, Tryd.ntmps118
  go_wp2_with (go_at_call 51; refine (valid_any _ _ _).mono ?_; rintro e w1 ⟨rfl, hb⟩)
  go_ret
  exact ⟨rfl, Below.trans (by (with_reducible repeat first | exact Below.refl _ _ | assumption | ((first | refine Below.setCell ?_ ?_ _ | refine Below.alloc ?_ ?_ _); rotate_left; exact (by first | omega | (simp; done) | (simp; omega))) | refine Below.drew ?_ | refine Below_drewN ?_ _)) (hb.mono (by first | omega | ((try simp only [World.size_alloc, World.size_setCell, size_drew, size_drewN]); omega) | (simp; done) | (simp; omega)))⟩

set_option maxRecDepth 100000 in
set_option maxHeartbeats 4000000 in
theorem validReadings_any (R : MachR) (M : MachD) (F : Option Addr) (len cap : Nat) (zs : List SpanD) (w : World) (hM : IsM w R M) (hF : IsT 2 SpanD.cells w F len zs) (hl : len ≤ 1000000000000000) :
    Calls Tryd.prog 83 #[.agg (machCells R M), .slice F len cap] w (Ret (.bool (readsB M zs)) w) := by
  have HE : Hid (readsB M zs = (decide (checkC M = 0) && (decide (zs.length = M.sensors.length) && zs.all fun s => vld s.lo s.hi))) := Lib.hid rfl
  have hn := hM.sensors.1
  have hz := hF.1
  have H0 := Lib.hid (fun W (hb : Below w.heap.size w W) => check_any R M W (hM.below hb))
  have HC := Lib.hid (fun W (hb : Below w.heap.size w W) => containsSpan0 118 (fun s => !vld s.lo s.hi) F len cap zs W (hF.below hb) hl (fun args W => enters_of Tryd.func118 (by kernel_rfl) rfl args W)
      (fun x W' _ hB => validReadings1_any x W'))
  rw [hn, hz] at HE
  have HA : Hid ((zs.any fun s => !vld s.lo s.hi) = !zs.all fun s => vld s.lo s.hi) := Lib.hid (by rw [List.not_all_eq_any_not])
  generalize readsB M zs = G at *
  generalize checkC M = c at *
  generalize (zs.any fun s => !vld s.lo s.hi) = ny at *
  generalize (zs.all fun s => vld s.lo s.hi) = al at *
  clear hM hF hn hz
  obtain ⟨A, B, C, D, la, ca, lb, cb, lc, cc, ld, cd⟩ := R
  obtain ⟨name, coils, shells, limits, ⟨r, z, nr, nz, step⟩, sensors⟩ := M
  dsimp only at *
  have H0 := Lib.hid (show ∀ W, Below w.heap.size w W → Calls Tryd.prog 54 #[.agg #[.string name, .slice A la ca, .slice B lb cb, .slice C lc cc, .int .i64 r, .int .i64 z, .int .i64 nr, .int .i64 nz, .int .i64 step, .slice D ld cd]] W (Ret (.int .i64 c) W) from H0.out)
  show Calls Tryd.prog 83 #[.agg #[.string name, .slice A la ca, .slice B lb cb, .slice C lc cc, .int .i64 r, .int .i64 z, .int .i64 nr, .int .i64 nz, .int .i64 step, .slice D ld cd], .slice F len cap] w _
  by_cases hc : c = 0
  · subst hc
    by_cases hq : len = ld
    · have HF : Hid (al = G) := Lib.hid (by rw [HE.out, decide_eq_true hq]; rfl)
      have hny : ny = !al := HA.out
      have hb1 : ((len : Int) == (ld : Int)) = true := by rw [beq_iff_eq, hq]
      subst hny
      clear HE HA hq
      go_enter Tryd.func83, Tryd.ntmps83
      go_wp2_with fail
      refine (H0.out _ (by (with_reducible repeat first | exact Below.refl _ _ | assumption | ((first | refine Below.setCell ?_ ?_ _ | refine Below.alloc ?_ ?_ _); rotate_left; exact (by first | omega | (simp; done) | (simp; omega))) | refine Below.drew ?_ | refine Below_drewN ?_ _))).mono ?_
      rintro e w1 ⟨rfl, hb⟩
      have q9 : w1.cell? ⟨w.heap.size, 9, none⟩ = some (.slice D ld cd) := by rw [hb.cell (p := ⟨w.heap.size, 9, none⟩) (by simp)]; go_simp
      have hs : w.heap.size < w1.heap.size := Nat.lt_of_lt_of_le (by simp) hb.size
      have hB1 : Below w.heap.size w w1 := Below.trans (by (with_reducible repeat first | exact Below.refl _ _ | assumption | ((first | refine Below.setCell ?_ ?_ _ | refine Below.alloc ?_ ?_ _); rotate_left; exact (by first | omega | (simp; done) | (simp; omega))) | refine Below.drew ?_ | refine Below_drewN ?_ _)) (hb.mono (by first | omega | ((try simp only [World.size_alloc, World.size_setCell, size_drew, size_drewN]); omega) | (simp; done) | (simp; omega)))
      clear hb
      go_wp2_with fail
      refine (HC.out _ (by (with_reducible repeat first | exact Below.refl _ _ | assumption | ((first | refine Below.setCell ?_ ?_ _ | refine Below.alloc ?_ ?_ _); rotate_left; exact (by first | omega | (simp; done) | (simp; omega))) | refine Below.drew ?_ | refine Below_drewN ?_ _))).mono ?_
      rintro e w2 ⟨rfl, hb⟩
      have hB2 : Below w.heap.size w w2 := hB1.trans (hb.mono hB1.size)
      clear hb
      go_wp2_with fail
      go_ret
      exact ⟨by rw [← HF.out]; cases al <;> rfl, by (with_reducible repeat first | exact Below.refl _ _ | assumption | ((first | refine Below.setCell ?_ ?_ _ | refine Below.alloc ?_ ?_ _); rotate_left; exact (by first | omega | (simp; done) | (simp; omega))) | refine Below.drew ?_ | refine Below_drewN ?_ _)⟩
    · have HF : Hid (false = G) := Lib.hid (by rw [HE.out, decide_eq_false hq]; rfl)
      have hb1 : ((len : Int) == (ld : Int)) = false := by rw [beq_eq_false_iff_ne]; omega
      clear HE HC HA hq
      go_enter Tryd.func83, Tryd.ntmps83
      go_wp2_with fail
      refine (H0.out _ (by (with_reducible repeat first | exact Below.refl _ _ | assumption | ((first | refine Below.setCell ?_ ?_ _ | refine Below.alloc ?_ ?_ _); rotate_left; exact (by first | omega | (simp; done) | (simp; omega))) | refine Below.drew ?_ | refine Below_drewN ?_ _))).mono ?_
      rintro e w1 ⟨rfl, hb⟩
      have q9 : w1.cell? ⟨w.heap.size, 9, none⟩ = some (.slice D ld cd) := by rw [hb.cell (p := ⟨w.heap.size, 9, none⟩) (by simp)]; go_simp
      have hs : w.heap.size < w1.heap.size := Nat.lt_of_lt_of_le (by simp) hb.size
      have hB1 : Below w.heap.size w w1 := Below.trans (by (with_reducible repeat first | exact Below.refl _ _ | assumption | ((first | refine Below.setCell ?_ ?_ _ | refine Below.alloc ?_ ?_ _); rotate_left; exact (by first | omega | (simp; done) | (simp; omega))) | refine Below.drew ?_ | refine Below_drewN ?_ _)) (hb.mono (by first | omega | ((try simp only [World.size_alloc, World.size_setCell, size_drew, size_drewN]); omega) | (simp; done) | (simp; omega)))
      clear hb
      go_wp2_with fail
      go_ret
      exact ⟨by rw [← HF.out]; rfl, by (with_reducible repeat first | exact Below.refl _ _ | assumption | ((first | refine Below.setCell ?_ ?_ _ | refine Below.alloc ?_ ?_ _); rotate_left; exact (by first | omega | (simp; done) | (simp; omega))) | refine Below.drew ?_ | refine Below_drewN ?_ _)⟩
  · have HF : Hid (false = G) := Lib.hid (by rw [HE.out, decide_eq_false hc]; rfl)
    have hcb : (c == 0) = false := by rw [beq_eq_false_iff_ne]; exact hc
    clear HE HC HA hc
    go_enter Tryd.func83, Tryd.ntmps83
    go_wp2_with fail
    refine (H0.out _ (by (with_reducible repeat first | exact Below.refl _ _ | assumption | ((first | refine Below.setCell ?_ ?_ _ | refine Below.alloc ?_ ?_ _); rotate_left; exact (by first | omega | (simp; done) | (simp; omega))) | refine Below.drew ?_ | refine Below_drewN ?_ _))).mono ?_
    rintro e w1 ⟨rfl, hb⟩
    have hs : w.heap.size < w1.heap.size := Nat.lt_of_lt_of_le (by simp) hb.size
    have hB1 : Below w.heap.size w w1 := Below.trans (by (with_reducible repeat first | exact Below.refl _ _ | assumption | ((first | refine Below.setCell ?_ ?_ _ | refine Below.alloc ?_ ?_ _); rotate_left; exact (by first | omega | (simp; done) | (simp; omega))) | refine Below.drew ?_ | refine Below_drewN ?_ _)) (hb.mono (by first | omega | ((try simp only [World.size_alloc, World.size_setCell, size_drew, size_drewN]); omega) | (simp; done) | (simp; omega)))
    clear hb
    go_wp2_with fail
    go_ret
    exact ⟨by rw [← HF.out]; rfl, by (with_reducible repeat first | exact Below.refl _ _ | assumption | ((first | refine Below.setCell ?_ ?_ _ | refine Below.alloc ?_ ?_ _); rotate_left; exact (by first | omega | (simp; done) | (simp; omega))) | refine Below.drew ?_ | refine Below_drewN ?_ _)⟩

end Go.Proofs.YtfpjhobhmcfpnaaDoor
end
