import Derived.Test.YtapldonpflgnfaaDoorMAI
import Derived.Test.YtapldonpflgnfaaDoorMAN
import Derived.Test.YtapldonpflgnfaaDoorMAS
import Derived.Test.YtapldonpflgnfaaDoorMBA
namespace Go.Proofs.YtapldonpflgnfaaDoor
set_option linter.unusedVariables false
set_option linter.unusedSimpArgs false
section
open Go.RowKit Go.Shelf
def briefB (la lb lc ld p q s n : Nat) : Bool := (decide (la ≤ 40) && (decide (lb ≤ 40) && (decide (lc ≤ 40) && (decide (ld ≤ 60) && (decide (p ≤ 100) && (decide (q ≤ 100) && (decide (s ≤ 200) && decide (n ≤ 100))))))))
set_option maxRecDepth 100000 in
set_option maxHeartbeats 4000000 in
theorem brief_any (name : ByteArray) (A B C D : Option Addr) (la ca lb cb lc cc ld cd : Nat) (r z nr nz step : Int) (P Q S F : Option Addr) (p pc q qc s sc n nc : Nat) (w : World) :
    Calls Tryd.prog 4 #[.agg #[.string name, .slice A la ca, .slice B lb cb, .slice C lc cc, .int .i64 r, .int .i64 z, .int .i64 nr, .int .i64 nz, .int .i64 step, .slice D ld cd], .agg #[.slice P p pc, .slice Q q qc, .slice S s sc], .slice F n nc] w (Ret (.bool (briefB la lb lc ld p q s n)) w) := by
  have HE : Hid (briefB la lb lc ld p q s n = (decide (la ≤ 40) && (decide (lb ≤ 40) && (decide (lc ≤ 40) && (decide (ld ≤ 60) && (decide (p ≤ 100) && (decide (q ≤ 100) && (decide (s ≤ 200) && decide (n ≤ 100))))))))) := Lib.hid rfl
  generalize briefB la lb lc ld p q s n = G at *
  by_cases k0 : la ≤ 40
  rotate_left
  · have HF : Hid (false = G) := Lib.hid (by rw [HE.out, decide_eq_false k0]; simp)
    clear HE
    go_enter Tryd.func4, Tryd.ntmps4
    go_wp2_with fail
    go_ret
    exact ⟨by rw [← HF.out]; rfl, by (repeat first | with_reducible exact Below.refl _ _ | (with_reducible refine Below.alloc ?_ ?_ _; rotate_left; exact (by first | omega | (simp; done))))⟩
  by_cases k1 : lb ≤ 40
  rotate_left
  · have HF : Hid (false = G) := Lib.hid (by rw [HE.out, decide_eq_false k1]; simp)
    clear HE
    go_enter Tryd.func4, Tryd.ntmps4
    go_wp2_with fail
    go_ret
    exact ⟨by rw [← HF.out]; rfl, by (repeat first | with_reducible exact Below.refl _ _ | (with_reducible refine Below.alloc ?_ ?_ _; rotate_left; exact (by first | omega | (simp; done))))⟩
  by_cases k2 : lc ≤ 40
  rotate_left
  · have HF : Hid (false = G) := Lib.hid (by rw [HE.out, decide_eq_false k2]; simp)
    clear HE
    go_enter Tryd.func4, Tryd.ntmps4
    go_wp2_with fail
    go_ret
    exact ⟨by rw [← HF.out]; rfl, by (repeat first | with_reducible exact Below.refl _ _ | (with_reducible refine Below.alloc ?_ ?_ _; rotate_left; exact (by first | omega | (simp; done))))⟩
  by_cases k3 : ld ≤ 60
  rotate_left
  · have HF : Hid (false = G) := Lib.hid (by rw [HE.out, decide_eq_false k3]; simp)
    clear HE
    go_enter Tryd.func4, Tryd.ntmps4
    go_wp2_with fail
    go_ret
    exact ⟨by rw [← HF.out]; rfl, by (repeat first | with_reducible exact Below.refl _ _ | (with_reducible refine Below.alloc ?_ ?_ _; rotate_left; exact (by first | omega | (simp; done))))⟩
  by_cases k4 : p ≤ 100
  rotate_left
  · have HF : Hid (false = G) := Lib.hid (by rw [HE.out, decide_eq_false k4]; simp)
    clear HE
    go_enter Tryd.func4, Tryd.ntmps4
    go_wp2_with fail
    go_ret
    exact ⟨by rw [← HF.out]; rfl, by (repeat first | with_reducible exact Below.refl _ _ | (with_reducible refine Below.alloc ?_ ?_ _; rotate_left; exact (by first | omega | (simp; done))))⟩
  by_cases k5 : q ≤ 100
  rotate_left
  · have HF : Hid (false = G) := Lib.hid (by rw [HE.out, decide_eq_false k5]; simp)
    clear HE
    go_enter Tryd.func4, Tryd.ntmps4
    go_wp2_with fail
    go_ret
    exact ⟨by rw [← HF.out]; rfl, by (repeat first | with_reducible exact Below.refl _ _ | (with_reducible refine Below.alloc ?_ ?_ _; rotate_left; exact (by first | omega | (simp; done))))⟩
  by_cases k6 : s ≤ 200
  rotate_left
  · have HF : Hid (false = G) := Lib.hid (by rw [HE.out, decide_eq_false k6]; simp)
    clear HE
    go_enter Tryd.func4, Tryd.ntmps4
    go_wp2_with fail
    go_ret
    exact ⟨by rw [← HF.out]; rfl, by (repeat first | with_reducible exact Below.refl _ _ | (with_reducible refine Below.alloc ?_ ?_ _; rotate_left; exact (by first | omega | (simp; done))))⟩
  by_cases k7 : n ≤ 100
  rotate_left
  · have HF : Hid (false = G) := Lib.hid (by rw [HE.out, decide_eq_false k7]; simp)
    clear HE
    have dn : decide ((n : Int) ≤ 100) = false := decide_eq_false (by omega)
    go_enter Tryd.func4, Tryd.ntmps4
    go_wp2_with fail
    go_ret
    exact ⟨by rw [← HF.out]; rfl, by (repeat first | with_reducible exact Below.refl _ _ | (with_reducible refine Below.alloc ?_ ?_ _; rotate_left; exact (by first | omega | (simp; done))))⟩
  have HF : Hid (true = G) := Lib.hid (by rw [HE.out, decide_eq_true k0, decide_eq_true k1, decide_eq_true k2, decide_eq_true k3, decide_eq_true k4, decide_eq_true k5, decide_eq_true k6, decide_eq_true k7]; rfl)
  clear HE
  have dn : decide ((n : Int) ≤ 100) = true := decide_eq_true (by omega)
  go_enter Tryd.func4, Tryd.ntmps4
  go_wp2_with fail
  go_ret
  exact ⟨by rw [← HF.out]; rfl, by (repeat first | with_reducible exact Below.refl _ _ | (with_reducible refine Below.alloc ?_ ?_ _; rotate_left; exact (by first | omega | (simp; done))))⟩
theorem brief_bd {la lb lc ld p q s n : Nat} (h : briefB la lb lc ld p q s n = true) : la ≤ 40 ∧ lb ≤ 40 ∧ lc ≤ 40 ∧ ld ≤ 60 ∧ p ≤ 100 ∧ q ≤ 100 ∧ s ≤ 200 ∧ n ≤ 100 := by
  simpa [briefB, Bool.and_eq_true, decide_eq_true_iff] using h
end
section
open Go.RowKit Go.Shelf
end
section
open Go.RowKit Go.Shelf
set_option maxHeartbeats 2000000 in
theorem validFaults_nil (R : MachR) (M : MachD) (w : World) (hM : IsM w R M) (hc : checkC M = 0) :
    Calls Tryd.prog 11 #[.agg (machCells R M), .slice none 0 0] w (Ret (.bool true) w) := by
  have H0 := Lib.hid (fun W (hb : Below w.heap.size w W) => by have := check_any R M W (hM.below hb); rw [hc] at this; exact this)
  have HF := Lib.hid (fun (c0 : Nat) W => containsFault1 30 c0 (fun _ => false) none 0 0 [] W (IsT.nil _ _ _ _) (by omega) (fun args W => enters_of Tryd.func30 (by kernel_rfl) rfl args W) (fun x W' hx => by cases hx))
  clear hM hc
  obtain ⟨A, B, C, D, la, ca, lb, cb, lc, cc, ld, cd⟩ := R
  obtain ⟨name, coils, shells, limits, ⟨r, z, nr, nz, step⟩, sensors⟩ := M
  have H0 := Lib.hid (show ∀ W, Below w.heap.size w W → Calls Tryd.prog 25 #[.agg #[.string name, .slice A la ca, .slice B lb cb, .slice C lc cc, .int .i64 r, .int .i64 z, .int .i64 nr, .int .i64 nz, .int .i64 step, .slice D ld cd]] W (Ret (.int .i64 0) W) from H0.out)
  show Calls Tryd.prog 11 #[.agg #[.string name, .slice A la ca, .slice B lb cb, .slice C lc cc, .int .i64 r, .int .i64 z, .int .i64 nr, .int .i64 nz, .int .i64 step, .slice D ld cd], .slice none 0 0] w _
  go_enter Tryd.func11, Tryd.ntmps11
  go_wp2_with (first | (go_at_call 25; refine (H0.out _ (by (repeat first | with_reducible exact Below.refl _ _ | (with_reducible refine Below.alloc ?_ ?_ _; rotate_left; exact (by omega))))).mono ?_; rintro e w1 ⟨rfl, hb⟩; have hB : Below w.heap.size w w1 := Below.trans (by (repeat first | with_reducible exact Below.refl _ _ | (with_reducible refine Below.alloc ?_ ?_ _; rotate_left; exact (by omega)))) (hb.mono (by (simp; done))); obtain ⟨hc, hf⟩ := bcell hb; have hs := hb.size; clear hb; (try simp only [World.size_alloc, World.size_setCell] at hc hf); (try simp only [World.size_alloc, World.size_setCell] at hs); (try have hs' := Nat.lt_of_succ_le hs); (try have hs0 : w.heap.size < w1.heap.size := by omega); (try have hs1 : w.heap.size + 1 < w1.heap.size := by omega); (try have hs2 : w.heap.size + 1 + 1 < w1.heap.size := by omega); (try have hs3 : w.heap.size + 1 + 1 + 1 < w1.heap.size := by omega)) | (go_at_call 29; refine (HF.out _ _).mono ?_; rintro e w1 ⟨rfl, hb⟩; have hB : Below w.heap.size w w1 := Below.trans (by (repeat with_reducible assumption)) (hb.mono (by omega)); obtain ⟨hc, hf⟩ := bcell hb; have hs := hb.size; clear hb; (try simp only [World.size_alloc, World.size_setCell] at hc hf); (try simp only [World.size_alloc, World.size_setCell] at hs); (try have hs' := Nat.lt_of_succ_le hs); (try have hs0 : w.heap.size < w1.heap.size := by omega); (try have hs1 : w.heap.size + 1 < w1.heap.size := by omega); (try have hs2 : w.heap.size + 1 + 1 < w1.heap.size := by omega); (try have hs3 : w.heap.size + 1 + 1 + 1 < w1.heap.size := by omega)))
  go_ret
  exact ⟨rfl, by (repeat with_reducible assumption)⟩
set_option maxHeartbeats 1000000 in
theorem faulty_nil (v k t : Int) (w : World) :
    Calls Tryd.prog 14 #[.int .i64 v, .slice none 0 0, .int .i64 k, .int .i64 t] w fun e w' => e = .returned (.int .i64 v) ∧ w = w' := by
  go_enter Tryd.func14, Tryd.ntmps14
  go_wp2
  go_loop [0, 13] (fun x i => x = .int .i64 v ∧ i = .int .i64 0) (fun _ _ => 0)
  case atStart => exact ⟨rfl, rfl⟩
  case round =>
    obtain ⟨rfl, rfl⟩ := hrel
    go_wp2
    go_ret
    exact ⟨rfl, rfl⟩
set_option maxHeartbeats 2000000 in
theorem mix_zero (w : World) :
    Calls Tryd.prog 15 #[.int .u32 0, .int .u32 0, .int .u32 0] w fun e w' => e = .returned (.int .u32 0) ∧ w = w' := by
  have i0 : ∀ w, (Instr.index 82 (.agg #[.int .u32 0, .int .u32 0]) (.int .i64 0)).run Tryd.prog w = .ok (.int .u32 0) w := fun _ => by kernel_rfl
  have i1 : ∀ w, (Instr.index 82 (.agg #[.int .u32 0, .int .u32 0]) (.int .i64 1)).run Tryd.prog w = .ok (.int .u32 0) w := fun _ => by kernel_rfl
  have hx : bits BinOp.xor IntKind.u32 0 0 = 0 := by kernel_rfl
  go_enter Tryd.func15, Tryd.ntmps15
  go_wp2
  go_loop [7, 9, 14] (fun h _ i => ∃ k : Nat, k ≤ 2 ∧ i = .int .i64 k ∧ h = .int .u32 0) (fun _ _ i => 2 - (intOf i).toNat)
  case atStart => exact ⟨0, by omega, rfl, rfl⟩
  case round =>
    obtain ⟨k, hk, rfl, rfl⟩ := hrel
    obtain rfl | rfl | rfl : k = 0 ∨ k = 1 ∨ k = 2 := by omega
    · go_wp2
      go_round
      case rel => exact ⟨1, by omega, rfl, rfl⟩
      case measure => simp [intOf]
    · go_wp2
      go_round
      case rel => exact ⟨2, by omega, rfl, rfl⟩
      case measure => simp [intOf]
    · go_wp2
      go_ret
      exact ⟨rfl, rfl⟩
end
section
open Go.RowKit Go.Shelf
def exM : MachD := ⟨⟨#[97]⟩, [], [], [⟨9, 0⟩], ⟨3, 4, 1, 1, 1⟩, [⟨⟨#[115]⟩, 1, 0, 0, 0⟩]⟩
def exC : CurD := ⟨[], [], [2]⟩
theorem exM_ok : checkC exM = 0 := by kernel_rfl
theorem exC_ok : validC exM exC = true := by kernel_rfl
theorem ex_flux : fluxW (0, 0) 0 (cellSrc ⟨3, 4, 1, 1, 1⟩ [2] 1) = 68964 := by kernel_rfl
set_option maxRecDepth 100000 in
set_option maxHeartbeats 8000000 in
theorem read_ex (x y z : Nat) (w : World) (hM : IsM w ⟨none, none, some ⟨x, 0, none⟩, some ⟨y, 0, none⟩, 0, 0, 0, 0, 1, 1, 1, 1⟩ exM) (hC : IsC w ⟨none, none, some ⟨z, 0, none⟩, 0, 0, 0, 0, 1, 1⟩ exC) :
    Calls Tryd.prog 6 #[.agg #[.string ⟨#[97]⟩, .slice none 0 0, .slice none 0 0, .slice (some ⟨x, 0, none⟩) 1 1, .int .i64 3, .int .i64 4, .int .i64 1, .int .i64 1, .int .i64 1, .slice (some ⟨y, 0, none⟩) 1 1], .agg #[.slice none 0 0, .slice none 0 0, .slice (some ⟨z, 0, none⟩) 1 1], .agg #[.int .u32 0, .slice none 0 0, .slice none 0 0], .int .i64 0] w
      fun e w' => ∃ b, e = .returned (.tuple #[.slice (some ⟨b, 0, none⟩) 1 1, .int .i64 0]) ∧ w.heap.size ≤ b ∧ b < w'.heap.size ∧ w'.cell? ⟨b, 0, none⟩ = some (.int .i64 68964) ∧ w'.cell? ⟨b, 1, none⟩ = some (.int .i64 68964) ∧ Below w.heap.size w w' := by
  have HV := Lib.hid (fun W (hb : Below w.heap.size w W) => show Calls Tryd.prog 10 #[.agg #[.string ⟨#[97]⟩, .slice none 0 0, .slice none 0 0, .slice (some ⟨x, 0, none⟩) 1 1, .int .i64 3, .int .i64 4, .int .i64 1, .int .i64 1, .int .i64 1, .slice (some ⟨y, 0, none⟩) 1 1], .agg #[.slice none 0 0, .slice none 0 0, .slice (some ⟨z, 0, none⟩) 1 1]] W (Ret (.bool true) W) from by
    have := validCurrents_any _ _ _ _ W (hM.below hb) (hC.below hb); rw [exC_ok] at this; exact this)
  have HF := Lib.hid (fun W (hb : Below w.heap.size w W) => show Calls Tryd.prog 11 #[.agg #[.string ⟨#[97]⟩, .slice none 0 0, .slice none 0 0, .slice (some ⟨x, 0, none⟩) 1 1, .int .i64 3, .int .i64 4, .int .i64 1, .int .i64 1, .int .i64 1, .slice (some ⟨y, 0, none⟩) 1 1], .slice none 0 0] W (Ret (.bool true) W) from by
    have := validFaults_nil _ _ W (hM.below hb) exM_ok; exact this)
  have HE := Lib.hid (fun W (hb : Below w.heap.size w W) => show Calls Tryd.prog 13 #[.agg #[.string ⟨#[97]⟩, .slice none 0 0, .slice none 0 0, .slice (some ⟨x, 0, none⟩) 1 1, .int .i64 3, .int .i64 4, .int .i64 1, .int .i64 1, .int .i64 1, .slice (some ⟨y, 0, none⟩) 1 1], .agg #[.slice none 0 0, .slice none 0 0, .slice (some ⟨z, 0, none⟩) 1 1], .int .i64 0] W (Ret (.tuple #[.int .i64 68964, .int .i64 0]) W) from by
    have := exact_flux ⟨#[97]⟩ none none (some ⟨x, 0, none⟩) (some ⟨y, 0, none⟩) 0 0 1 1 1 1 ⟨3, 4, 1, 1, 1⟩ [⟨9, 0⟩] [⟨⟨#[115]⟩, 1, 0, 0, 0⟩] none none (some ⟨z, 0, none⟩) 0 0 0 0 1 1 [] [] [2] 0 ⟨⟨#[115]⟩, 1, 0, 0, 0⟩ W (hM.below hb) (hC.below hb) exC_ok rfl rfl
    rw [ex_flux] at this; exact this)
  have HY : Hid (y < w.heap.size ∧ w.cell? ⟨y, 0, none⟩ = some (.string ⟨#[115]⟩) ∧ w.cell? ⟨y, 1, none⟩ = some (.int .i64 1) ∧ w.cell? ⟨y, 2, none⟩ = some (.int .i64 0) ∧ w.cell? ⟨y, 3, none⟩ = some (.int .i64 0) ∧ w.cell? ⟨y, 4, none⟩ = some (.int .i64 0)) := by
    obtain ⟨b, o, hD, hb0, hcl⟩ := hM.sensors.2 (show 0 < 1 by omega)
    dsimp only at hD
    injection hD with hD
    injection hD with h1 h2 _
    subst h1
    subst h2
    have c0 := hcl 0 ⟨⟨#[115]⟩, 1, 0, 0, 0⟩ rfl 0 _ rfl
    have c1 := hcl 0 ⟨⟨#[115]⟩, 1, 0, 0, 0⟩ rfl 1 _ rfl
    have c2 := hcl 0 ⟨⟨#[115]⟩, 1, 0, 0, 0⟩ rfl 2 _ rfl
    have c3 := hcl 0 ⟨⟨#[115]⟩, 1, 0, 0, 0⟩ rfl 3 _ rfl
    have c4 := hcl 0 ⟨⟨#[115]⟩, 1, 0, 0, 0⟩ rfl 4 _ rfl
    exact Lib.hid ⟨hb0, by simpa using c0, by simpa using c1, by simpa using c2, by simpa using c3, by simpa using c4⟩
  clear hM hC
  have wt : wthn 0 0 1000000000 = true := by decide
  have hmk : ∀ w, (Instr.makeSlice 42 (.int .i64 1) (.int .i64 1)).run Tryd.prog w = .ok (.slice (some ⟨w.heap.size, 0, none⟩) 1 1) (w.alloc (.cells #[.int .i64 0, .int .i64 0] 49)) := fun _ => by kernel_rfl
  have hmk : ∀ w, (Instr.makeSlice 42 (.int .i64 1) (.int .i64 1)).run Tryd.prog w = .ok (.slice (some ⟨w.heap.size, 0, none⟩) 1 1) (w.alloc (.cells #[.int .i64 0, .int .i64 0] 49)) := fun _ => by kernel_rfl
  have hmk : ∀ w, (Instr.makeSlice 42 (.int .i64 1) (.int .i64 1)).run Tryd.prog w = .ok (.slice (some ⟨w.heap.size, 0, none⟩) 1 1) (w.alloc (.cells #[.int .i64 0, .int .i64 0] 49)) := fun _ => by kernel_rfl
  have hmk : ∀ w, (Instr.makeSlice 42 (.int .i64 1) (.int .i64 1)).run Tryd.prog w = .ok (.slice (some ⟨w.heap.size, 0, none⟩) 1 1) (w.alloc (.cells #[.int .i64 0, .int .i64 0] 49)) := fun _ => by kernel_rfl
  have hmk : ∀ w, (Instr.makeSlice 42 (.int .i64 1) (.int .i64 1)).run Tryd.prog w = .ok (.slice (some ⟨w.heap.size, 0, none⟩) 1 1) (w.alloc (.cells #[.int .i64 0, .int .i64 0] 49)) := fun _ => by kernel_rfl
  have hmk : ∀ w, (Instr.makeSlice 42 (.int .i64 1) (.int .i64 1)).run Tryd.prog w = .ok (.slice (some ⟨w.heap.size, 0, none⟩) 1 1) (w.alloc (.cells #[.int .i64 0, .int .i64 0] 49)) := fun _ => by kernel_rfl
  have hmk : ∀ w, (Instr.makeSlice 42 (.int .i64 1) (.int .i64 1)).run Tryd.prog w = .ok (.slice (some ⟨w.heap.size, 0, none⟩) 1 1) (w.alloc (.cells #[.int .i64 0, .int .i64 0] 49)) := fun _ => by kernel_rfl
  have hmk : ∀ w, (Instr.makeSlice 42 (.int .i64 1) (.int .i64 1)).run Tryd.prog w = .ok (.slice (some ⟨w.heap.size, 0, none⟩) 1 1) (w.alloc (.cells #[.int .i64 0, .int .i64 0] 49)) := fun _ => by kernel_rfl
  go_enter Tryd.func6, Tryd.ntmps6
  go_wp2_with (first | (go_at_call 10; refine (HV.out _ (by (repeat first | with_reducible exact Below.refl _ _ | (with_reducible refine Below.alloc ?_ ?_ _; rotate_left; exact (by first | omega | (simp; done) | (simp; omega)))))).mono ?_; rintro e w1 ⟨rfl, hb⟩; have hB : Below w.heap.size w w1 := Below.trans (by (repeat first | with_reducible exact Below.refl _ _ | (with_reducible refine Below.alloc ?_ ?_ _; rotate_left; exact (by first | omega | (simp; done) | (simp; omega))))) (hb.mono (by (simp; omega))); obtain ⟨hc, hf⟩ := bcell hb; have hs := hb.size; clear hb; (try simp only [World.size_alloc, World.size_setCell] at hc hf); (try simp only [World.size_alloc, World.size_setCell] at hs); (try have hs' := Nat.lt_of_succ_le hs); (try have hs0 : w.heap.size < w1.heap.size := by omega); (try have hs1 : w.heap.size + 1 < w1.heap.size := by omega); (try have hs2 : w.heap.size + 1 + 1 < w1.heap.size := by omega); (try have hs3 : w.heap.size + 1 + 1 + 1 < w1.heap.size := by omega)) | (go_at_call 11; refine (HF.out _ (by (repeat with_reducible assumption))).mono ?_; rintro e w1 ⟨rfl, hb⟩; have hB : Below w.heap.size w w1 := Below.trans (by (repeat with_reducible assumption)) (hb.mono (by omega)); obtain ⟨hc, hf⟩ := bcell hb; have hs := hb.size; clear hb; (try simp only [World.size_alloc, World.size_setCell] at hc hf); (try simp only [World.size_alloc, World.size_setCell] at hs); (try have hs' := Nat.lt_of_succ_le hs); (try have hs0 : w.heap.size < w1.heap.size := by omega); (try have hs1 : w.heap.size + 1 < w1.heap.size := by omega); (try have hs2 : w.heap.size + 1 + 1 < w1.heap.size := by omega); (try have hs3 : w.heap.size + 1 + 1 + 1 < w1.heap.size := by omega)) | (go_at_call 12; refine (swithin_any _ _ _ _).mono ?_; rintro e w1 ⟨rfl, rfl⟩))
  clear hmk
  obtain ⟨X, hX⟩ : ∃ X, w1.heap.size = X := ⟨_, rfl⟩
  have hX0 : w.heap.size + 1 + 1 < X := by omega
  rw [hX]
  have HX := Lib.hid hX
  clear hX
  go_loopw [11, 12, 13, 14, 36] (fun _ _ _ _ i wr => (i = .int .i64 0 ∧ (wr.cell? ⟨w.heap.size, 0, none⟩ = some (.string ⟨#[97]⟩) ∧ wr.cell? ⟨w.heap.size, 1, none⟩ = some (.slice none 0 0) ∧ wr.cell? ⟨w.heap.size, 2, none⟩ = some (.slice none 0 0) ∧ wr.cell? ⟨w.heap.size, 3, none⟩ = some (.slice (some ⟨x, 0, none⟩) 1 1) ∧ wr.cell? ⟨w.heap.size, 4, none⟩ = some (.int .i64 3) ∧ wr.cell? ⟨w.heap.size, 5, none⟩ = some (.int .i64 4) ∧ wr.cell? ⟨w.heap.size, 6, none⟩ = some (.int .i64 1) ∧ wr.cell? ⟨w.heap.size, 7, none⟩ = some (.int .i64 1) ∧ wr.cell? ⟨w.heap.size, 8, none⟩ = some (.int .i64 1) ∧ wr.cell? ⟨w.heap.size, 9, none⟩ = some (.slice (some ⟨y, 0, none⟩) 1 1) ∧ wr.cell? ⟨w.heap.size + 1, 0, none⟩ = some (.slice none 0 0) ∧ wr.cell? ⟨w.heap.size + 1, 1, none⟩ = some (.slice none 0 0) ∧ wr.cell? ⟨w.heap.size + 1, 2, none⟩ = some (.slice (some ⟨z, 0, none⟩) 1 1) ∧ wr.cell? ⟨w.heap.size + 1 + 1, 0, none⟩ = some (.int .u32 0) ∧ wr.cell? ⟨w.heap.size + 1 + 1, 1, none⟩ = some (.slice none 0 0)) ∧ Below w.heap.size w wr ∧ X < wr.heap.size ∧ ((wr).cell? ⟨X, 0, none⟩ = some (cur (wr) ⟨X, 0, none⟩) ∧ (wr).frozen? ⟨X, 0, none⟩ = false) ∧ ((wr).cell? ⟨X, 1, none⟩ = some (cur (wr) ⟨X, 1, none⟩) ∧ (wr).frozen? ⟨X, 1, none⟩ = false)) ∨ (i = .int .i64 1 ∧ Below w.heap.size w wr ∧ X < wr.heap.size ∧ wr.cell? ⟨X, 0, none⟩ = some (.int .i64 68964) ∧ wr.cell? ⟨X, 1, none⟩ = some (.int .i64 68964))) (fun _ _ _ _ i _ => 1 - (intOf i).toNat)
  case atStart =>
    have hX := HX.out
    subst hX
    exact .inl ⟨rfl, ⟨by go_simp, by go_simp, by go_simp, by go_simp, by go_simp, by go_simp, by go_simp, by go_simp, by go_simp, by go_simp, by go_simp, by go_simp, by go_simp, by go_simp, by go_simp⟩, by (repeat first | with_reducible assumption | (with_reducible refine Below.alloc ?_ ?_ _; rotate_left; exact (by omega))), (by ((try simp only [World.size_alloc, World.size_setCell, size_drew, size_drewN]); omega)), ⟨by simp only [cur_iff]; go_simp, by go_simp⟩, ⟨by simp only [cur_iff]; go_simp, by go_simp⟩⟩
  case round =>
    rcases hrel with ⟨rfl, ⟨m0, m1, m2, m3, m4, m5, m6, m7, m8, m9, c0, c1, c2, s0, s1⟩, hB', hXs, ⟨k0, q0⟩, ⟨k1, q1⟩⟩ | ⟨rfl, hB', hXs, v0, v1⟩
    · obtain ⟨y0, Y0, Y1, Y2, Y3, Y4⟩ := HY.out
      have z0 := (hB'.cell (p := ⟨y, 0, none⟩) y0).trans Y0
      have z1 := (hB'.cell (p := ⟨y, 1, none⟩) y0).trans Y1
      have z2 := (hB'.cell (p := ⟨y, 2, none⟩) y0).trans Y2
      have z3 := (hB'.cell (p := ⟨y, 3, none⟩) y0).trans Y3
      have z4 := (hB'.cell (p := ⟨y, 4, none⟩) y0).trans Y4
      have g0 : w.heap.size < wr.heap.size := by omega
      have g1 : w.heap.size + 1 < wr.heap.size := by omega
      have g2 : w.heap.size + 1 + 1 < wr.heap.size := by omega
      clear Y0 Y1 Y2 Y3 Y4
      go_upto_region 11 with (first | (go_at_call 13; refine (HE.out _ (by (repeat first | with_reducible assumption | (with_reducible refine Below.alloc ?_ ?_ _; rotate_left; exact (by omega))))).mono ?_; rintro e w2 ⟨rfl, hb⟩; have hB2 : Below w.heap.size w w2 := Below.trans (by (repeat first | with_reducible assumption | (with_reducible refine Below.alloc ?_ ?_ _; rotate_left; exact (by omega)))) (hb.mono (by ((try simp only [World.size_alloc, World.size_setCell, size_drew, size_drewN]); omega))); obtain ⟨hc2, hf2⟩ := bcell hb; have hs2 := hb.size; (try simp only [World.size_alloc, World.size_setCell] at hc2 hf2 hs2); have X0 : (w2.cell? ⟨X, 0, none⟩).isSome = true := (by rw [hc2 X 0 (by omega)]; go_simp); have X1 : (w2.cell? ⟨X, 1, none⟩).isSome = true := (by rw [hc2 X 1 (by omega)]; go_simp); have Q0 : w2.frozen? ⟨X, 0, none⟩ = false := (by rw [hf2 X 0 (by omega)]; go_simp); have Q1 : w2.frozen? ⟨X, 1, none⟩ = false := (by rw [hf2 X 1 (by omega)]; go_simp); have S0 : w2.cell? ⟨w.heap.size + 1 + 1, 0, none⟩ = some (.int .u32 0) := (by rw [hc2 _ _ (by omega)]; go_simp); have S1 : w2.cell? ⟨w.heap.size + 1 + 1, 1, none⟩ = some (.slice none 0 0) := (by rw [hc2 _ _ (by omega)]; go_simp); have E4 : w2.cell? ⟨wr.heap.size, 4, none⟩ = some (.int .i64 0) := (by rw [hc2 _ _ (by omega)]; go_simp); clear hc2 hf2 hb) | (go_at_call 14; refine (faulty_nil _ _ _ _).mono ?_; rintro e w3 ⟨rfl, rfl⟩))
      go_cut [13] (fun s13 wx => s13 = .int .i64 68964 ∧ Below w.heap.size w wx ∧ X < wx.heap.size ∧ wx.cell? ⟨X, 0, none⟩ = some (cur wx ⟨X, 0, none⟩) ∧ wx.cell? ⟨X, 1, none⟩ = some (cur wx ⟨X, 1, none⟩) ∧ wx.frozen? ⟨X, 0, none⟩ = false ∧ wx.frozen? ⟨X, 1, none⟩ = false ∧ wx.cell? ⟨wr.heap.size, 4, none⟩ = some (.int .i64 0))
      case first =>
        have r1 : (0 : Int).tmod 1 = 0 := by decide
        have r2 : ((1 : Int) == 0) = false := by decide
        have r3 : ¬(1 : Int) = 0 := by decide
        have r4 : IntKind.i64.wrap 0 = 0 := by decide
        have r5 : IntKind.i64.wrap 1 = 1 := by decide
        have r6 : IntKind.i64.wrap 68964 = 68964 := by decide
        have HS : Hid (∀ w' : World, Reg (w2.heap.size) (w2) w' → (Reg (w2.heap.size) (w2) w' ∧ w'.cell? ⟨w.heap.size + 1 + 1, 0, none⟩ = some (.int .u32 0) ∧ w'.cell? ⟨wr.heap.size, 4, none⟩ = some (.int .i64 0))) := (fun w' h => by (have hc := h.cells; have hs := h.some; have hf := h.frozen; refine ⟨h, ?_⟩; (try simp only [World.size_alloc, World.size_setCell, size_drew, size_drewN] at hc hs hf); first | (simp (disch := omega) only [hc, hs, hf, cur_iff]; (try go_simp); done) | (simp (disch := first | omega | (simp; done)) only [hc, hs, hf, cur_iff]; (try go_simp); done) | (simp (maxDischargeDepth := 4) [hc, hs, hf, cur_iff, go_sem]; done) | (go_simp; done) | (simp (maxDischargeDepth := 4) [hc, hs, hf, cur_iff, go_sem]; go_simp))); go_region_held3 (fun w' => Reg (w2.heap.size) (w2) w' ∧ w'.cell? ⟨w.heap.size + 1 + 1, 0, none⟩ = some (.int .u32 0) ∧ w'.cell? ⟨wr.heap.size, 4, none⟩ = some (.int .i64 0)) (exact HS.out _ (by (repeat first | with_reducible exact Reg.refl _ _ | with_reducible exact (‹Reg _ _ _ ∧ _›).1 | with_reducible refine Reg.drew ?_))) ((go_at_call 15; refine (mix_zero _).mono ?_; rintro e w4 ⟨rfl, rfl⟩))
        all_goals go_wp2_with fail
        all_goals go_meet
        all_goals
          have hH := ‹Reg _ _ _ ∧ _›
          refine ⟨rfl, Reg.out hH.1 hB2 (by omega), Nat.lt_of_lt_of_le (by omega) hH.1.size, (by rw [cur_iff]; exact (hH.1.some _ _ (by omega)).trans X0), (by rw [cur_iff]; exact (hH.1.some _ _ (by omega)).trans X1), (hH.1.frozen _ _ (by omega)).trans Q0, (hH.1.frozen _ _ (by omega)).trans Q1, hH.2.2⟩
      case rest =>
        obtain ⟨rfl, hB3, hX3, x0, x1, f0, f1, e4⟩ := hcut
        go_wp2_with fail
        go_roundw
        case rel => exact .inr ⟨rfl, by (repeat first | with_reducible assumption | (with_reducible refine Below.setCell ?_ ?_ _; rotate_left; exact (by (simp; omega)))), (by ((try simp only [World.size_alloc, World.size_setCell, size_drew, size_drewN]); omega)), by go_simp, by go_simp⟩
        case measure => simp [intOf]
    · go_wp2_with fail
      go_ret2
      exact ⟨X, rfl, by omega, hXs, v0, v1, hB'⟩
end
section
open Go.RowKit
set_option maxHeartbeats 2000000 in
theorem gains_pos (v lo hi : Int) (w : World) (hv : 0 < v) (v2 : v ≤ 1000000000000000) (l1 : -1000000000000000 ≤ lo) (l2 : lo ≤ 1000000000000000) (h1 : -1000000000000000 ≤ hi) (h2 : hi ≤ 1000000000000000) :
    Calls Tryd.prog 23 #[Pr (v, lo, hi)] w (Ret (Sp (flo (lo * 1000) v) (cei (hi * 1000) v)) w) := by
  have e1 : IntKind.i64.wrap (lo * 1000) = lo * 1000 := IntWalk.i64_in _ (by omega)
  have e2 : IntKind.i64.wrap (hi * 1000) = hi * 1000 := IntWalk.i64_in _ (by omega)
  have HD := Lib.hid (fun W => down_any (lo * 1000) v W (by omega) (by omega) (by omega) (by omega) (by omega))
  have HU := Lib.hid (fun W => up_any (hi * 1000) v W (by omega) (by omega) (by omega) (by omega) (by omega))
  go_enter Tryd.func23, Tryd.ntmps23
  go_upto_region 1 with fail
  go_cut [3, 4] (fun s3 s4 wx => s3 = .int .i64 (lo * 1000) ∧ s4 = .int .i64 (hi * 1000) ∧ wx.cell? ⟨w.heap.size, 0, none⟩ = some (.int .i64 v) ∧ w.heap.size + 1 < wx.heap.size ∧ Below w.heap.size w wx ∧ (wx).cell? ⟨w.heap.size + 1, 0, none⟩ = some (cur (wx) ⟨w.heap.size + 1, 0, none⟩) ∧ (wx).frozen? ⟨w.heap.size + 1, 0, none⟩ = false ∧ (wx).cell? ⟨w.heap.size + 1, 1, none⟩ = some (cur (wx) ⟨w.heap.size + 1, 1, none⟩) ∧ (wx).frozen? ⟨w.heap.size + 1, 1, none⟩ = false)
  case first =>
    go_quiet (fail)
    go_wp2_with fail
    go_meet
    exact ⟨rfl, rfl, (by go_simp), (by ((try simp only [World.size_alloc, World.size_setCell, size_drew, size_drewN]); omega)), (by (repeat first | with_reducible exact Below.refl _ _ | (with_reducible refine Below.alloc ?_ ?_ _; rotate_left; exact (by first | omega | (simp; done))) | with_reducible refine Below_drewN ?_ _)), (by simp only [cur_iff]; go_simp), (by go_simp), (by simp only [cur_iff]; go_simp), (by go_simp)⟩
  case rest =>
    obtain ⟨rfl, rfl, c0, hs, hB, k0, q0, k1, q1⟩ := hcut
    clear e1 e2
    generalize lo * 1000 = L at *
    generalize hi * 1000 = U at *
    go_wp2_with fail
    have HS : Hid (∀ w' : World, Reg (w.heap.size + 1) (wc) w' → (Reg (w.heap.size + 1) (wc) w' ∧ w'.cell? ⟨w.heap.size, 0, none⟩ = some (.int .i64 v))) := (fun w' h => by (have hc := h.cells; have hs := h.some; have hf := h.frozen; refine ⟨h, ?_⟩; (try simp only [World.size_alloc, World.size_setCell, size_drew, size_drewN] at hc hs hf); first | (simp (disch := omega) only [hc, hs, hf, cur_iff]; (try go_simp); done) | (simp (disch := first | omega | (simp; done)) only [hc, hs, hf, cur_iff]; (try go_simp); done) | (simp (maxDischargeDepth := 4) [hc, hs, hf, cur_iff, go_sem]; done) | (go_simp; done) | (simp (maxDischargeDepth := 4) [hc, hs, hf, cur_iff, go_sem]; go_simp))); go_region_held3 (fun w' => Reg (w.heap.size + 1) (wc) w' ∧ w'.cell? ⟨w.heap.size, 0, none⟩ = some (.int .i64 v)) (exact HS.out _ (by (repeat first | with_reducible exact Reg.refl _ _ | with_reducible exact (‹Reg _ _ _ ∧ _›).1 | (with_reducible refine Reg.setCell ?_ ?_ _; rotate_left; exact (by (simp; done))) | with_reducible refine Reg.drew ?_))) (first | (go_at_call 46; refine (HD.out _).mono ?_; rintro e w1 ⟨rfl, rfl⟩) | (go_at_call 47; refine (HU.out _).mono ?_; rintro e w1 ⟨rfl, rfl⟩))
    all_goals go_wp2_with fail
    all_goals exact bodyPost_ret (resF Tryd.results23 _ _ _ _ _ rfl (by (try simp only [isSome_setCell]); first | assumption | go_simp) (by (try simp only [isSome_setCell]); first | assumption | go_simp)) rfl ⟨rfl, by (repeat first | with_reducible assumption | (with_reducible refine Below.setCell ?_ ?_ _; rotate_left; exact (by (simp; done))) | with_reducible refine Below.drew ?_)⟩
end
section
open Go.RowKit
set_option maxHeartbeats 2000000 in
theorem gains_neg (v lo hi : Int) (w : World) (hv : v < 0) (v2 : -1000000000000000 ≤ v) (l1 : -1000000000000000 ≤ lo) (l2 : lo ≤ 1000000000000000) (h1 : -1000000000000000 ≤ hi) (h2 : hi ≤ 1000000000000000) :
    Calls Tryd.prog 23 #[Pr (v, lo, hi)] w (Ret (Sp (flo (hi * 1000) v) (cei (lo * 1000) v)) w) := by
  have e1 : IntKind.i64.wrap (lo * 1000) = lo * 1000 := IntWalk.i64_in _ (by omega)
  have e2 : IntKind.i64.wrap (hi * 1000) = hi * 1000 := IntWalk.i64_in _ (by omega)
  have HD := Lib.hid (fun W => down_any (hi * 1000) v W (by omega) (by omega) (by omega) (by omega) (by omega))
  have HU := Lib.hid (fun W => up_any (lo * 1000) v W (by omega) (by omega) (by omega) (by omega) (by omega))
  go_enter Tryd.func23, Tryd.ntmps23
  go_upto_region 1 with fail
  go_cut [3, 4] (fun s3 s4 wx => s3 = .int .i64 (lo * 1000) ∧ s4 = .int .i64 (hi * 1000) ∧ wx.cell? ⟨w.heap.size, 0, none⟩ = some (.int .i64 v) ∧ w.heap.size + 1 < wx.heap.size ∧ Below w.heap.size w wx ∧ (wx).cell? ⟨w.heap.size + 1, 0, none⟩ = some (cur (wx) ⟨w.heap.size + 1, 0, none⟩) ∧ (wx).frozen? ⟨w.heap.size + 1, 0, none⟩ = false ∧ (wx).cell? ⟨w.heap.size + 1, 1, none⟩ = some (cur (wx) ⟨w.heap.size + 1, 1, none⟩) ∧ (wx).frozen? ⟨w.heap.size + 1, 1, none⟩ = false)
  case first =>
    go_quiet (fail)
    go_wp2_with fail
    go_meet
    exact ⟨rfl, rfl, (by go_simp), (by ((try simp only [World.size_alloc, World.size_setCell, size_drew, size_drewN]); omega)), (by (repeat first | with_reducible exact Below.refl _ _ | (with_reducible refine Below.alloc ?_ ?_ _; rotate_left; exact (by first | omega | (simp; done))) | with_reducible refine Below_drewN ?_ _)), (by simp only [cur_iff]; go_simp), (by go_simp), (by simp only [cur_iff]; go_simp), (by go_simp)⟩
  case rest =>
    obtain ⟨rfl, rfl, c0, hs, hB, k0, q0, k1, q1⟩ := hcut
    clear e1 e2
    generalize lo * 1000 = L at *
    generalize hi * 1000 = U at *
    go_wp2_with fail
    have HS : Hid (∀ w' : World, Reg (w.heap.size + 1) (wc) w' → (Reg (w.heap.size + 1) (wc) w' ∧ w'.cell? ⟨w.heap.size, 0, none⟩ = some (.int .i64 v))) := (fun w' h => by (have hc := h.cells; have hs := h.some; have hf := h.frozen; refine ⟨h, ?_⟩; (try simp only [World.size_alloc, World.size_setCell, size_drew, size_drewN] at hc hs hf); first | (simp (disch := omega) only [hc, hs, hf, cur_iff]; (try go_simp); done) | (simp (disch := first | omega | (simp; done)) only [hc, hs, hf, cur_iff]; (try go_simp); done) | (simp (maxDischargeDepth := 4) [hc, hs, hf, cur_iff, go_sem]; done) | (go_simp; done) | (simp (maxDischargeDepth := 4) [hc, hs, hf, cur_iff, go_sem]; go_simp))); go_region_held3 (fun w' => Reg (w.heap.size + 1) (wc) w' ∧ w'.cell? ⟨w.heap.size, 0, none⟩ = some (.int .i64 v)) (exact HS.out _ (by (repeat first | with_reducible exact Reg.refl _ _ | with_reducible exact (‹Reg _ _ _ ∧ _›).1 | (with_reducible refine Reg.setCell ?_ ?_ _; rotate_left; exact (by (simp; done))) | with_reducible refine Reg.drew ?_))) (first | (go_at_call 46; refine (HD.out _).mono ?_; rintro e w1 ⟨rfl, rfl⟩) | (go_at_call 47; refine (HU.out _).mono ?_; rintro e w1 ⟨rfl, rfl⟩))
    all_goals go_wp2_with fail
    all_goals exact bodyPost_ret (resF Tryd.results23 _ _ _ _ _ rfl (by (try simp only [isSome_setCell]); first | assumption | go_simp) (by (try simp only [isSome_setCell]); first | assumption | go_simp)) rfl ⟨rfl, by (repeat first | with_reducible assumption | (with_reducible refine Below.setCell ?_ ?_ _; rotate_left; exact (by (simp; done))) | with_reducible refine Below.drew ?_)⟩
end
section
open Go.RowKit
set_option maxHeartbeats 2000000 in
theorem gains_zero (lo hi a b : Int) (w : World) (hg : (cont lo hi 0 = true ∧ a = -1000000000 ∧ b = 1000000000) ∨ (cont lo hi 0 = false ∧ a = 1 ∧ b = 0)) (l1 : -1000000000000000 ≤ lo) (l2 : lo ≤ 1000000000000000) (h1 : -1000000000000000 ≤ hi) (h2 : hi ≤ 1000000000000000) :
    Calls Tryd.prog 23 #[Pr (0, lo, hi)] w (Ret (Sp a b) w) := by
  have e1 : IntKind.i64.wrap (lo * 1000) = lo * 1000 := IntWalk.i64_in _ (by omega)
  have e2 : IntKind.i64.wrap (hi * 1000) = hi * 1000 := IntWalk.i64_in _ (by omega)
  go_enter Tryd.func23, Tryd.ntmps23
  go_upto_region 1 with fail
  go_cut [] (fun wx => wx.cell? ⟨w.heap.size, 0, none⟩ = some (.int .i64 0) ∧ wx.cell? ⟨w.heap.size, 1, none⟩ = some (.int .i64 lo) ∧ wx.cell? ⟨w.heap.size, 2, none⟩ = some (.int .i64 hi) ∧ w.heap.size + 1 < wx.heap.size ∧ Below w.heap.size w wx ∧ (wx).cell? ⟨w.heap.size + 1, 0, none⟩ = some (cur (wx) ⟨w.heap.size + 1, 0, none⟩) ∧ (wx).frozen? ⟨w.heap.size + 1, 0, none⟩ = false ∧ (wx).cell? ⟨w.heap.size + 1, 1, none⟩ = some (cur (wx) ⟨w.heap.size + 1, 1, none⟩) ∧ (wx).frozen? ⟨w.heap.size + 1, 1, none⟩ = false)
  case first =>
    go_quiet (fail)
    go_wp2_with fail
    go_meet
    exact ⟨(by go_simp), (by go_simp), (by go_simp), (by ((try simp only [World.size_alloc, World.size_setCell, size_drew, size_drewN]); omega)), (by (repeat first | with_reducible exact Below.refl _ _ | (with_reducible refine Below.alloc ?_ ?_ _; rotate_left; exact (by first | omega | (simp; done))) | with_reducible refine Below_drewN ?_ _)), (by simp only [cur_iff]; go_simp), (by go_simp), (by simp only [cur_iff]; go_simp), (by go_simp)⟩
  case rest =>
    obtain ⟨c0, c1, c2, hs, hB, k0, q0, k1, q1⟩ := hcut
    clear e1 e2
    rcases hg with ⟨hc, rfl, rfl⟩ | ⟨hc, rfl, rfl⟩
    · go_wp2_with (first | (go_at_call 48; refine (contains_any _ _ _ _).mono ?_; rintro e w1 ⟨rfl, hb⟩; have hB : Below w.heap.size w w1 := Below.trans (by (repeat with_reducible assumption)) (hb.mono (by omega)); obtain ⟨hc, hf⟩ := bcell hb; have hs := hb.size; clear hb; (try simp only [World.size_alloc, World.size_setCell] at hc hf); (try simp only [World.size_alloc, World.size_setCell] at hs); (try have hs' := Nat.lt_of_succ_le hs); (try have hs0 : w.heap.size < w1.heap.size := by omega); (try have hs1 : w.heap.size + 1 < w1.heap.size := by omega); (try have hs2 : w.heap.size + 1 + 1 < w1.heap.size := by omega); (try have hs3 : w.heap.size + 1 + 1 + 1 < w1.heap.size := by omega); (try have iso : (w1.cell? ⟨w.heap.size, 0, none⟩).isSome = true := by (rw [hc _ _ (by omega)]; (try simp only [isSome_setCell]); first | assumption | go_simp)); (try have iso : (w1.cell? ⟨w.heap.size, 1, none⟩).isSome = true := by (rw [hc _ _ (by omega)]; (try simp only [isSome_setCell]); first | assumption | go_simp)); (try have iso : (w1.cell? ⟨w.heap.size + 1, 0, none⟩).isSome = true := by (rw [hc _ _ (by omega)]; (try simp only [isSome_setCell]); first | assumption | go_simp)); (try have iso : (w1.cell? ⟨w.heap.size + 1, 1, none⟩).isSome = true := by (rw [hc _ _ (by omega)]; (try simp only [isSome_setCell]); first | assumption | go_simp)); (try have iso : (w1.cell? ⟨w.heap.size + 1 + 1, 0, none⟩).isSome = true := by (rw [hc _ _ (by first | omega | (simp; done) | (simp; omega))]; (try simp only [isSome_setCell]); first | assumption | go_simp)); (try have iso : (w1.cell? ⟨w.heap.size + 1 + 1, 1, none⟩).isSome = true := by (rw [hc _ _ (by first | omega | (simp; done) | (simp; omega))]; (try simp only [isSome_setCell]); first | assumption | go_simp))) | (go_at_call 49; refine (everyGain_any _).mono ?_; rintro e w1 ⟨rfl, hb⟩; have hB : Below w.heap.size w w1 := Below.trans (by (repeat with_reducible assumption)) (hb.mono (by omega)); obtain ⟨hc, hf⟩ := bcell hb; have hs := hb.size; clear hb; (try simp only [World.size_alloc, World.size_setCell] at hc hf); (try simp only [World.size_alloc, World.size_setCell] at hs); (try have hs' := Nat.lt_of_succ_le hs); (try have hs0 : w.heap.size < w1.heap.size := by omega); (try have hs1 : w.heap.size + 1 < w1.heap.size := by omega); (try have hs2 : w.heap.size + 1 + 1 < w1.heap.size := by omega); (try have hs3 : w.heap.size + 1 + 1 + 1 < w1.heap.size := by omega); (try have iso : (w1.cell? ⟨w.heap.size, 0, none⟩).isSome = true := by (rw [hc _ _ (by omega)]; (try simp only [isSome_setCell]); first | assumption | go_simp)); (try have iso : (w1.cell? ⟨w.heap.size, 1, none⟩).isSome = true := by (rw [hc _ _ (by omega)]; (try simp only [isSome_setCell]); first | assumption | go_simp)); (try have iso : (w1.cell? ⟨w.heap.size + 1, 0, none⟩).isSome = true := by (rw [hc _ _ (by omega)]; (try simp only [isSome_setCell]); first | assumption | go_simp)); (try have iso : (w1.cell? ⟨w.heap.size + 1, 1, none⟩).isSome = true := by (rw [hc _ _ (by omega)]; (try simp only [isSome_setCell]); first | assumption | go_simp)); (try have iso : (w1.cell? ⟨w.heap.size + 1 + 1, 0, none⟩).isSome = true := by (rw [hc _ _ (by first | omega | (simp; done) | (simp; omega))]; (try simp only [isSome_setCell]); first | assumption | go_simp)); (try have iso : (w1.cell? ⟨w.heap.size + 1 + 1, 1, none⟩).isSome = true := by (rw [hc _ _ (by first | omega | (simp; done) | (simp; omega))]; (try simp only [isSome_setCell]); first | assumption | go_simp))))
      exact bodyPost_ret (resS Tryd.results23 _ _ _ _ _ rfl (by (try simp only [isSome_setCell]); first | assumption | go_simp) (by (try simp only [isSome_setCell]); first | assumption | go_simp)) rfl ⟨rfl, by (repeat first | with_reducible assumption | (with_reducible refine Below.setCell ?_ ?_ _; rotate_left; exact (by (simp; done))))⟩
    · go_wp2_with (go_at_call 48; refine (contains_any _ _ _ _).mono ?_; rintro e w1 ⟨rfl, hb⟩; have hB : Below w.heap.size w w1 := Below.trans (by (repeat with_reducible assumption)) (hb.mono (by omega)); obtain ⟨hc, hf⟩ := bcell hb; have hs := hb.size; clear hb; (try simp only [World.size_alloc, World.size_setCell] at hc hf); (try simp only [World.size_alloc, World.size_setCell] at hs); (try have hs' := Nat.lt_of_succ_le hs); (try have hs0 : w.heap.size < w1.heap.size := by omega); (try have hs1 : w.heap.size + 1 < w1.heap.size := by omega); (try have hs2 : w.heap.size + 1 + 1 < w1.heap.size := by omega); (try have hs3 : w.heap.size + 1 + 1 + 1 < w1.heap.size := by omega); (try have iso : (w1.cell? ⟨w.heap.size, 0, none⟩).isSome = true := by (rw [hc _ _ (by omega)]; (try simp only [isSome_setCell]); first | assumption | go_simp)); (try have iso : (w1.cell? ⟨w.heap.size, 1, none⟩).isSome = true := by (rw [hc _ _ (by omega)]; (try simp only [isSome_setCell]); first | assumption | go_simp)); (try have iso : (w1.cell? ⟨w.heap.size + 1, 0, none⟩).isSome = true := by (rw [hc _ _ (by omega)]; (try simp only [isSome_setCell]); first | assumption | go_simp)); (try have iso : (w1.cell? ⟨w.heap.size + 1, 1, none⟩).isSome = true := by (rw [hc _ _ (by omega)]; (try simp only [isSome_setCell]); first | assumption | go_simp)); (try have iso : (w1.cell? ⟨w.heap.size + 1 + 1, 0, none⟩).isSome = true := by (rw [hc _ _ (by first | omega | (simp; done) | (simp; omega))]; (try simp only [isSome_setCell]); first | assumption | go_simp)); (try have iso : (w1.cell? ⟨w.heap.size + 1 + 1, 1, none⟩).isSome = true := by (rw [hc _ _ (by first | omega | (simp; done) | (simp; omega))]; (try simp only [isSome_setCell]); first | assumption | go_simp)))
      exact bodyPost_ret (resS Tryd.results23 _ _ _ _ _ rfl (by (try simp only [isSome_setCell]); first | assumption | go_simp) (by (try simp only [isSome_setCell]); first | assumption | go_simp)) rfl ⟨rfl, by (repeat first | with_reducible assumption | (with_reducible refine Below.setCell ?_ ?_ _; rotate_left; exact (by (simp; done))))⟩
end
section
open Go.RowKit
theorem gains_any (v lo hi : Int) (w : World) (hk : okP (v, lo, hi) = true) :
    Calls Tryd.prog 23 #[Pr (v, lo, hi)] w (Ret (Sp (gLo (v, lo, hi)) (gHi (v, lo, hi))) w) := by
  obtain ⟨⟨v1, v2⟩, hle, l1, h2⟩ := okP_iff.1 hk
  dsimp only at v1 v2 hle l1 h2
  unfold gLo gHi
  dsimp only
  by_cases p : 0 < v
  · rw [if_pos p, if_pos p]; exact gains_pos v lo hi w p v2 l1 (by omega) (by omega) h2
  · by_cases n : v < 0
    · rw [if_neg p, if_neg p, if_pos n, if_pos n]; exact gains_neg v lo hi w n v1 l1 (by omega) (by omega) h2
    · obtain rfl : v = 0 := by omega
      rw [if_neg p, if_neg p, if_neg n, if_neg n]
      have hvl : vld lo hi = true := vld_iff.2 ⟨hle, l1, h2⟩
      by_cases c : lo ≤ 0 ∧ 0 ≤ hi
      · rw [if_pos c, if_pos c]; exact gains_zero lo hi _ _ w (.inl ⟨by simp [cont, hvl, c], rfl, rfl⟩) l1 (by omega) (by omega) h2
      · rw [if_neg c, if_neg c]; exact gains_zero lo hi _ _ w (.inr ⟨by simp [cont]; omega, rfl, rfl⟩) l1 (by omega) (by omega) h2
end
end Go.Proofs.YtapldonpflgnfaaDoor
