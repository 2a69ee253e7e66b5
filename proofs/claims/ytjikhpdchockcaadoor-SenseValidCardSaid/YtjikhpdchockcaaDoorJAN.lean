import Derived.Test.YtjikhpdchockcaaDoorJAA
import Derived.Test.YtjikhpdchockcaaDoorJAJ
import Derived.Test.YtjikhpdchockcaaDoorJAK
import Derived.Test.YtjikhpdchockcaaDoorJAM
section
/- Package sense and its specification: ValidFaults and ValidReadings, over this seat's translation. -/
namespace Go.Proofs.YtjikhpdchockcaaDoor
set_option linter.unusedVariables false
set_option linter.unusedSimpArgs false
open Go.RowKit Go.Shelf

/-- How far from 0 the N of a kind of faults may be. -/
def mostK (k : Int) : Int := if k = 1 then 1000000000000000 else if k = 2 then 100000 else 0
def faultB (n : Int) (f : FaultD) : Bool := wthn f.kind 1 3 && (wthn f.at_ 0 1000000000 && (wthn f.sensor 0 (n - 1) && wthn f.n (-(mostK f.kind)) (mostK f.kind)))
def faultsB (M : MachD) (l : List FaultD) : Bool := decide (checkC M = 0) && (decide (l.length ≤ 32) && l.all (faultB M.sensors.length))
def readsB (M : MachD) (l : List SpanD) : Bool := decide (checkC M = 0) && (decide (l.length = M.sensors.length) && l.all fun s => vld s.lo s.hi)

/-- The table of fault kinds holds what the program lays into it. -/
structure Kinds (w : World) : Prop where
  most : ∀ k : Nat, k < 4 → ∃ s : ByteArray, w.cell? ⟨0, k * 2, none⟩ = some (.string s) ∧ (1 ≤ k → w.cell? ⟨0, k * 2 + 1, none⟩ = some (.int .i64 (mostK k)))
  size : 0 < w.heap.size
theorem Kinds.below {w w1 : World} (h : Kinds w) (hb : Below w.heap.size w w1) : Kinds w1 :=
  ⟨fun k hk => by
    obtain ⟨s, h1, h2⟩ := h.most k hk
    exact ⟨s, (hb.cell (p := ⟨0, k * 2, none⟩) h.size).trans h1, fun h1 => (hb.cell (p := ⟨0, k * 2 + 1, none⟩) h.size).trans (h2 h1)⟩, Nat.lt_of_lt_of_le h.size hb.size⟩

set_option maxHeartbeats 400000 in
theorem rwithin4b_any (n a b : Int) (w : World) :
    Calls Tryd.prog 75 #[.int .i64 n, .int .i64 a, .int .i64 b] w fun e w' => e = .returned (.bool (wthn n a b)) ∧ w = w' := by
  go_enter Tryd.func75, Tryd.ntmps75
  go_wp2
  all_goals go_ret
  all_goals (simp [wthn]; try omega)

theorem kind_ways (k : Int) : (wthn k 1 3 = false ∧ k ≠ 1 ∧ k ≠ 2 ∧ k ≠ 3) ∨ (wthn k 1 3 = true ∧ k = 1) ∨ (wthn k 1 3 = true ∧ k = 2) ∨ (wthn k 1 3 = true ∧ k = 3) := by
  have e : wthn k 1 3 = true ↔ 1 ≤ k ∧ k ≤ 3 := by simp [wthn]
  by_cases h : 1 ≤ k ∧ k ≤ 3
  · right; have := e.2 h; rcases (show k = 1 ∨ k = 2 ∨ k = 3 by omega) with rfl | rfl | rfl
    · exact Or.inl ⟨this, rfl⟩
    · exact Or.inr (Or.inl ⟨this, rfl⟩)
    · exact Or.inr (Or.inr ⟨this, rfl⟩)
  · left
    refine ⟨?_, by omega, by omega, by omega⟩
    rw [← Bool.not_eq_true]; exact fun h1 => h (e.1 h1)

set_option maxRecDepth 100000 in
set_option maxHeartbeats 8000000 in
theorem rvalidFault_any (n : Int) (f : FaultD) (w : World) (h0 : 0 ≤ n) (h1 : n ≤ 1000000000000000) :
    Calls Tryd.prog 32 #[.int .i64 n, f.v] w (Ret (.bool (faultB n f)) w) := by
  have HE : Hid (faultB n f = (wthn f.kind 1 3 && (wthn f.at_ 0 1000000000 && (wthn f.sensor 0 (n - 1) && wthn f.n (-(mostK f.kind)) (mostK f.kind))))) := Lib.hid rfl
  generalize faultB n f = G at *
  obtain ⟨a, s, k, m⟩ := f
  dsimp only at HE
  show Calls Tryd.prog 32 #[.int .i64 n, .agg #[.int .i64 a, .int .i64 s, .int .i64 k, .int .i64 m]] w _
  cases ha : wthn a 0 1000000000
  · have HF : Hid (false = G) := Lib.hid (by rw [HE.out, ha]; simp)
    clear HE
    go_enter Tryd.func32, Tryd.ntmps32
    go_wp2_with (go_at_call 75; refine (rwithin4b_any _ _ _ _).mono ?_; rintro e w1 ⟨rfl, rfl⟩)
    go_ret
    exact ⟨by rw [← HF.out]; rfl, by (repeat first | with_reducible exact Below.refl _ _ | with_reducible assumption | (with_reducible refine Below.setCell ?_ ?_ _; rotate_left; exact (by first | omega | (simp; done) | (simp; omega))) | (with_reducible refine Below.alloc ?_ ?_ _; rotate_left; exact (by first | omega | (simp; done) | (simp; omega))) | with_reducible refine Below.drew ?_ | with_reducible refine Below_drewN ?_ _)⟩
  cases hs : wthn s 0 (n - 1)
  · have HF : Hid (false = G) := Lib.hid (by rw [HE.out, hs]; simp)
    clear HE
    go_enter Tryd.func32, Tryd.ntmps32
    go_wp2_with (go_at_call 75; refine (rwithin4b_any _ _ _ _).mono ?_; rintro e w1 ⟨rfl, rfl⟩)
    go_ret
    exact ⟨by rw [← HF.out]; rfl, by (repeat first | with_reducible exact Below.refl _ _ | with_reducible assumption | (with_reducible refine Below.setCell ?_ ?_ _; rotate_left; exact (by first | omega | (simp; done) | (simp; omega))) | (with_reducible refine Below.alloc ?_ ?_ _; rotate_left; exact (by first | omega | (simp; done) | (simp; omega))) | with_reducible refine Below.drew ?_ | with_reducible refine Below_drewN ?_ _)⟩
  rw [ha, hs] at HE
  rcases kind_ways k with ⟨hk, k1, k2, k3⟩ | ⟨hk, rfl⟩ | ⟨hk, rfl⟩ | ⟨hk, rfl⟩
  · have HF : Hid (false = G) := Lib.hid (by rw [HE.out, hk]; simp)
    have b1 : (k == 1) = false := by rw [beq_eq_false_iff_ne]; exact k1
    have b2 : (k == 2) = false := by rw [beq_eq_false_iff_ne]; exact k2
    have b3 : (k == 3) = false := by rw [beq_eq_false_iff_ne]; exact k3
    clear HE k1 k2 k3 hk
    go_enter Tryd.func32, Tryd.ntmps32
    go_wp2_with (go_at_call 75; refine (rwithin4b_any _ _ _ _).mono ?_; rintro e w1 ⟨rfl, rfl⟩)
    go_ret
    exact ⟨by rw [← HF.out]; rfl, by (repeat first | with_reducible exact Below.refl _ _ | with_reducible assumption | (with_reducible refine Below.setCell ?_ ?_ _; rotate_left; exact (by first | omega | (simp; done) | (simp; omega))) | (with_reducible refine Below.alloc ?_ ?_ _; rotate_left; exact (by first | omega | (simp; done) | (simp; omega))) | with_reducible refine Below.drew ?_ | with_reducible refine Below_drewN ?_ _)⟩
  · have HF : Hid (wthn m (-1000000000000000) 1000000000000000 = G) := Lib.hid (by rw [HE.out, hk]; rfl)
    clear HE hk
    go_enter Tryd.func32, Tryd.ntmps32
    go_wp2_with (go_at_call 75; refine (rwithin4b_any _ _ _ _).mono ?_; rintro e w1 ⟨rfl, rfl⟩)
    go_ret
    exact ⟨by rw [← HF.out]; rfl, by (repeat first | with_reducible exact Below.refl _ _ | with_reducible assumption | (with_reducible refine Below.setCell ?_ ?_ _; rotate_left; exact (by first | omega | (simp; done) | (simp; omega))) | (with_reducible refine Below.alloc ?_ ?_ _; rotate_left; exact (by first | omega | (simp; done) | (simp; omega))) | with_reducible refine Below.drew ?_ | with_reducible refine Below_drewN ?_ _)⟩
  · have HF : Hid (wthn m (-100000) 100000 = G) := Lib.hid (by rw [HE.out, hk]; rfl)
    clear HE hk
    go_enter Tryd.func32, Tryd.ntmps32
    go_wp2_with (go_at_call 75; refine (rwithin4b_any _ _ _ _).mono ?_; rintro e w1 ⟨rfl, rfl⟩)
    go_ret
    exact ⟨by rw [← HF.out]; rfl, by (repeat first | with_reducible exact Below.refl _ _ | with_reducible assumption | (with_reducible refine Below.setCell ?_ ?_ _; rotate_left; exact (by first | omega | (simp; done) | (simp; omega))) | (with_reducible refine Below.alloc ?_ ?_ _; rotate_left; exact (by first | omega | (simp; done) | (simp; omega))) | with_reducible refine Below.drew ?_ | with_reducible refine Below_drewN ?_ _)⟩
  · have HF : Hid ((m == 0) = G) := Lib.hid (by
      rw [HE.out, hk]
      show (m == 0) = wthn m (-(mostK 3)) (mostK 3)
      rw [show mostK 3 = 0 from rfl, Bool.eq_iff_iff]; simp [wthn]; omega)
    clear HE hk
    go_enter Tryd.func32, Tryd.ntmps32
    go_wp2_with (go_at_call 75; refine (rwithin4b_any _ _ _ _).mono ?_; rintro e w1 ⟨rfl, rfl⟩)
    go_ret
    exact ⟨by rw [← HF.out]; rfl, by (repeat first | with_reducible exact Below.refl _ _ | with_reducible assumption | (with_reducible refine Below.setCell ?_ ?_ _; rotate_left; exact (by first | omega | (simp; done) | (simp; omega))) | (with_reducible refine Below.alloc ?_ ?_ _; rotate_left; exact (by first | omega | (simp; done) | (simp; omega))) | with_reducible refine Below.drew ?_ | with_reducible refine Below_drewN ?_ _)⟩

set_option maxRecDepth 100000 in
set_option maxHeartbeats 8000000 in
theorem validFault_any (A B C D : Option Addr) (name : ByteArray) (la ca lb cb lc cc ld cd : Nat) (r z nr nz step : Int) (f : FaultD) (w : World) (hK : Kinds w) (hld : ld ≤ 1000000000000000) :
    Calls Tryd.prog 30 #[.agg #[.string name, .slice A la ca, .slice B lb cb, .slice C lc cc, .int .i64 r, .int .i64 z, .int .i64 nr, .int .i64 nz, .int .i64 step, .slice D ld cd], f.v] w (Ret (.bool (faultB ld f)) w) := by
  have HE : Hid (faultB ld f = (wthn f.kind 1 3 && (wthn f.at_ 0 1000000000 && (wthn f.sensor 0 (ld - 1) && wthn f.n (-(mostK f.kind)) (mostK f.kind))))) := Lib.hid rfl
  generalize faultB ld f = G at *
  obtain ⟨a, s, k, m⟩ := f
  dsimp only at HE
  show Calls Tryd.prog 30 #[.agg #[.string name, .slice A la ca, .slice B lb cb, .slice C lc cc, .int .i64 r, .int .i64 z, .int .i64 nr, .int .i64 nz, .int .i64 step, .slice D ld cd], .agg #[.int .i64 a, .int .i64 s, .int .i64 k, .int .i64 m]] w _
  have hg := hK.size
  have key : ∀ K : Nat, 1 ≤ K → K < 4 → k = K → Calls Tryd.prog 30 #[.agg #[.string name, .slice A la ca, .slice B lb cb, .slice C lc cc, .int .i64 r, .int .i64 z, .int .i64 nr, .int .i64 nz, .int .i64 step, .slice D ld cd], .agg #[.int .i64 a, .int .i64 s, .int .i64 k, .int .i64 m]] w (Ret (.bool G) w) := by
    intro K hK1 hK4 hkK
    obtain ⟨_, -, hc0⟩ := hK.most K hK4
    have hc := hc0 hK1
    clear hc0
    have hkt : wthn k 1 3 = true := by simp [wthn]; omega
    have km : mostK k = 1000000000000000 ∨ mostK k = 100000 ∨ mostK k = 0 := by unfold mostK; split <;> (try split) <;> simp
    rw [hkt] at HE
    rw [← hkK] at hc
    have hM : 0 ≤ mostK k ∧ mostK k ≤ 1000000000000000 := by rcases km with h | h | h <;> rw [h] <;> omega
    obtain ⟨hM0, hM1⟩ := hM
    generalize mostK k = q at *
    clear km hK
    subst hkK
    have kn : ((K : Int)).toNat = K := by omega
    have k0 : (0 : Int) ≤ K := by omega
    have k4 : (K : Int) < 4 := by omega
    cases ha : wthn a 0 1000000000
    · have HF : Hid (false = G) := Lib.hid (by rw [HE.out, ha]; simp)
      clear HE
      go_enter Tryd.func30, Tryd.ntmps30
      go_wp2_with (go_at_call 38; refine (swithin_any _ _ _ _).mono ?_; rintro e w1 ⟨rfl, rfl⟩)
      go_ret
      exact ⟨by rw [← HF.out]; rfl, by (repeat first | with_reducible exact Below.refl _ _ | with_reducible assumption | (with_reducible refine Below.setCell ?_ ?_ _; rotate_left; exact (by first | omega | (simp; done) | (simp; omega))) | (with_reducible refine Below.alloc ?_ ?_ _; rotate_left; exact (by first | omega | (simp; done) | (simp; omega))) | with_reducible refine Below.drew ?_ | with_reducible refine Below_drewN ?_ _)⟩
    · cases hs : wthn s 0 (ld - 1)
      · have HF : Hid (false = G) := Lib.hid (by rw [HE.out, hs]; simp)
        clear HE
        go_enter Tryd.func30, Tryd.ntmps30
        go_wp2_with (go_at_call 38; refine (swithin_any _ _ _ _).mono ?_; rintro e w1 ⟨rfl, rfl⟩)
        go_ret
        exact ⟨by rw [← HF.out]; rfl, by (repeat first | with_reducible exact Below.refl _ _ | with_reducible assumption | (with_reducible refine Below.setCell ?_ ?_ _; rotate_left; exact (by first | omega | (simp; done) | (simp; omega))) | (with_reducible refine Below.alloc ?_ ?_ _; rotate_left; exact (by first | omega | (simp; done) | (simp; omega))) | with_reducible refine Below.drew ?_ | with_reducible refine Below_drewN ?_ _)⟩
      · have HF : Hid (wthn m (-q) q = G) := Lib.hid (by rw [HE.out, ha, hs]; rfl)
        clear HE
        go_enter Tryd.func30, Tryd.ntmps30
        go_wp2_with (go_at_call 38; refine (swithin_any _ _ _ _).mono ?_; rintro e w1 ⟨rfl, rfl⟩)
        go_ret
        exact ⟨by rw [← HF.out]; rfl, by (repeat first | with_reducible exact Below.refl _ _ | with_reducible assumption | (with_reducible refine Below.setCell ?_ ?_ _; rotate_left; exact (by first | omega | (simp; done) | (simp; omega))) | (with_reducible refine Below.alloc ?_ ?_ _; rotate_left; exact (by first | omega | (simp; done) | (simp; omega))) | with_reducible refine Below.drew ?_ | with_reducible refine Below_drewN ?_ _)⟩
  rcases kind_ways k with ⟨hk, _, _, _⟩ | ⟨hk, rfl⟩ | ⟨hk, rfl⟩ | ⟨hk, rfl⟩
  · have HF : Hid (false = G) := Lib.hid (by rw [HE.out, hk]; simp)
    clear HE key
    go_enter Tryd.func30, Tryd.ntmps30
    go_wp2_with (go_at_call 38; refine (swithin_any _ _ _ _).mono ?_; rintro e w1 ⟨rfl, rfl⟩)
    go_ret
    exact ⟨by rw [← HF.out]; rfl, by (repeat first | with_reducible exact Below.refl _ _ | with_reducible assumption | (with_reducible refine Below.setCell ?_ ?_ _; rotate_left; exact (by first | omega | (simp; done) | (simp; omega))) | (with_reducible refine Below.alloc ?_ ?_ _; rotate_left; exact (by first | omega | (simp; done) | (simp; omega))) | with_reducible refine Below.drew ?_ | with_reducible refine Below_drewN ?_ _)⟩
  · exact key 1 (by omega) (by omega) rfl
  · exact key 2 (by omega) (by omega) rfl
  · exact key 3 (by omega) (by omega) rfl

/-- The machine, as it lies in a box. -/
def BoxM (w : World) (c0 : Nat) (A B C D : Option Addr) (name : ByteArray) (la ca lb cb lc cc ld cd : Nat) (r z nr nz step : Int) : Prop :=
  w.cell? ⟨c0, 0, none⟩ = some (.string name) ∧ w.cell? ⟨c0, 1, none⟩ = some (.slice A la ca) ∧ w.cell? ⟨c0, 2, none⟩ = some (.slice B lb cb) ∧ w.cell? ⟨c0, 3, none⟩ = some (.slice C lc cc) ∧ w.cell? ⟨c0, 4, none⟩ = some (.int .i64 r) ∧ w.cell? ⟨c0, 5, none⟩ = some (.int .i64 z) ∧ w.cell? ⟨c0, 6, none⟩ = some (.int .i64 nr) ∧ w.cell? ⟨c0, 7, none⟩ = some (.int .i64 nz) ∧ w.cell? ⟨c0, 8, none⟩ = some (.int .i64 step) ∧ w.cell? ⟨c0, 9, none⟩ = some (.slice D ld cd)
theorem BoxM.below {w w1 : World} {c0 : Nat} {A B C D : Option Addr} {name : ByteArray} {la ca lb cb lc cc ld cd : Nat} {r z nr nz step : Int} (h : BoxM w c0 A B C D name la ca lb cb lc cc ld cd r z nr nz step) (h0 : c0 < w.heap.size) (hb : Below w.heap.size w w1) : BoxM w1 c0 A B C D name la ca lb cb lc cc ld cd r z nr nz step := by
  obtain ⟨a0, a1, a2, a3, a4, a5, a6, a7, a8, a9⟩ := h
  have g : ∀ (o : Nat) (v : Value), w.cell? ⟨c0, o, none⟩ = some v → w1.cell? ⟨c0, o, none⟩ = some v := fun o v e => (hb.cell (p := ⟨c0, o, none⟩) h0).trans e
  exact ⟨g _ _ a0, g _ _ a1, g _ _ a2, g _ _ a3, g _ _ a4, g _ _ a5, g _ _ a6, g _ _ a7, g _ _ a8, g _ _ a9⟩

set_option maxHeartbeats 2000000 in
theorem validFaults1_any (A B C D : Option Addr) (name : ByteArray) (la ca lb cb lc cc ld cd : Nat) (r z nr nz step : Int) (f : FaultD) (c0 : Nat) (w : World) (hK : Kinds w) (hld : ld ≤ 1000000000000000) (h0 : c0 < w.heap.size) (hM : BoxM w c0 A B C D name la ca lb cb lc cc ld cd r z nr nz step) :
    Calls Tryd.prog 29 #[f.v, .pointer (some ⟨c0, 0, none⟩)] w (Ret (.bool (!faultB ld f)) w) := by
  have HF := Lib.hid (fun W (hb : Below w.heap.size w W) => validFault_any A B C D name la ca lb cb lc cc ld cd r z nr nz step f W (hK.below hb) hld)
  obtain ⟨a0, a1, a2, a3, a4, a5, a6, a7, a8, a9⟩ := hM
  clear hK
  generalize faultB ld f = G at *
  obtain ⟨a, s, k, m⟩ := f
  have HF := Lib.hid (show ∀ W, Below w.heap.size w W → Calls Tryd.prog 30 #[.agg #[.string name, .slice A la ca, .slice B lb cb, .slice C lc cc, .int .i64 r, .int .i64 z, .int .i64 nr, .int .i64 nz, .int .i64 step, .slice D ld cd], .agg #[.int .i64 a, .int .i64 s, .int .i64 k, .int .i64 m]] W (Ret (.bool G) W) from HF.out)
  show Calls Tryd.prog 29 #[.agg #[.int .i64 a, .int .i64 s, .int .i64 k, .int .i64 m], .pointer (some ⟨c0, 0, none⟩)] w _
  go_enter Tryd.func29, Tryd.ntmps29
  go_wp2_with (go_at_call 30; refine (HF.out _ (by (repeat first | with_reducible exact Below.refl _ _ | with_reducible assumption | (with_reducible refine Below.setCell ?_ ?_ _; rotate_left; exact (by first | omega | (simp; done) | (simp; omega))) | (with_reducible refine Below.alloc ?_ ?_ _; rotate_left; exact (by first | omega | (simp; done) | (simp; omega))) | with_reducible refine Below.drew ?_ | with_reducible refine Below_drewN ?_ _))).mono ?_; rintro e w1 ⟨rfl, hb⟩)
  go_ret
  exact ⟨rfl, Below.trans (by (repeat first | with_reducible exact Below.refl _ _ | with_reducible assumption | (with_reducible refine Below.setCell ?_ ?_ _; rotate_left; exact (by first | omega | (simp; done) | (simp; omega))) | (with_reducible refine Below.alloc ?_ ?_ _; rotate_left; exact (by first | omega | (simp; done) | (simp; omega))) | with_reducible refine Below.drew ?_ | with_reducible refine Below_drewN ?_ _)) (hb.mono (by first | omega | ((try simp only [World.size_alloc, World.size_setCell, size_drew, size_drewN]); omega) | (simp; done) | (simp; omega)))⟩

theorem boxM_new (w : World) (A B C D : Option Addr) (name : ByteArray) (la ca lb cb lc cc ld cd : Nat) (r z nr nz step : Int) :
    BoxM (w.alloc (.cells #[.string name, .slice A la ca, .slice B lb cb, .slice C lc cc, .int .i64 r, .int .i64 z, .int .i64 nr, .int .i64 nz, .int .i64 step, .slice D ld cd] 29)) w.heap.size A B C D name la ca lb cb lc cc ld cd r z nr nz step := by
  refine ⟨?_, ?_, ?_, ?_, ?_, ?_, ?_, ?_, ?_, ?_⟩ <;> go_simp

set_option maxRecDepth 100000 in
set_option maxHeartbeats 4000000 in
theorem validFaults_any (R : MachR) (M : MachD) (F : Option Addr) (len cap : Nat) (zs : List FaultD) (w : World) (hM : IsM w R M) (hF : IsT 4 FaultD.cells w F len zs) (hl : len ≤ 1000000000000000) (hK : Kinds w) :
    Calls Tryd.prog 9 #[.agg (machCells R M), .slice F len cap] w (Ret (.bool (faultsB M zs)) w) := by
  have HE : Hid (faultsB M zs = (decide (checkC M = 0) && (decide (zs.length ≤ 32) && zs.all (faultB M.sensors.length)))) := Lib.hid rfl
  have hn := hM.sensors.1
  have hz := hF.1
  have hkd := hM.kd
  have H0 := Lib.hid (fun W (hb : Below w.heap.size w W) => check_any R M W (hM.below hb))
  have HC := Lib.hid (fun W (hb : Below w.heap.size w W) (h0 : w.heap.size < W.heap.size) (hX : BoxM W w.heap.size R.A R.B R.C R.D M.name R.la R.ca R.lb R.cb R.lc R.cc R.ld R.cd M.grid.r M.grid.z M.grid.nr M.grid.nz M.grid.step) =>
    containsFault1 29 w.heap.size (fun x => !faultB R.ld x) F len cap zs W (hF.below hb) hl (fun args W => enters_of Tryd.func29 (by kernel_rfl) rfl args W)
      (fun x W' _ hB => validFaults1_any R.A R.B R.C R.D M.name R.la R.ca R.lb R.cb R.lc R.cc R.ld R.cd M.grid.r M.grid.z M.grid.nr M.grid.nz M.grid.step x w.heap.size W' (hK.below (hb.trans (hB.mono hb.size))) hkd (Nat.lt_of_lt_of_le h0 hB.size) (hX.below h0 hB)))
  rw [hn, hz] at HE
  have HA : Hid ((zs.any fun x => !faultB R.ld x) = !zs.all (faultB R.ld)) := Lib.hid (by rw [List.not_all_eq_any_not])
  generalize faultsB M zs = G at *
  generalize checkC M = c at *
  generalize (zs.any fun x => !faultB R.ld x) = ny at *
  generalize zs.all (faultB (R.ld : Nat)) = al at *
  clear hM hF hK hn hz hkd
  obtain ⟨A, B, C, D, la, ca, lb, cb, lc, cc, ld, cd⟩ := R
  obtain ⟨name, coils, shells, limits, ⟨r, z, nr, nz, step⟩, sensors⟩ := M
  dsimp only at *
  have H0 := Lib.hid (show ∀ W, Below w.heap.size w W → Calls Tryd.prog 27 #[.agg #[.string name, .slice A la ca, .slice B lb cb, .slice C lc cc, .int .i64 r, .int .i64 z, .int .i64 nr, .int .i64 nz, .int .i64 step, .slice D ld cd]] W (Ret (.int .i64 c) W) from H0.out)
  show Calls Tryd.prog 9 #[.agg #[.string name, .slice A la ca, .slice B lb cb, .slice C lc cc, .int .i64 r, .int .i64 z, .int .i64 nr, .int .i64 nz, .int .i64 step, .slice D ld cd], .slice F len cap] w _
  have hX := boxM_new w A B C D name la ca lb cb lc cc ld cd r z nr nz step
  by_cases hc : c = 0
  · subst hc
    by_cases h32 : len ≤ 32
    · have HF : Hid (al = G) := Lib.hid (by rw [HE.out, decide_eq_true h32]; rfl)
      clear HE
      have hny : ny = !al := HA.out
      subst hny
      have HX := Lib.hid hX
      clear hX HA
      go_enter Tryd.func9, Tryd.ntmps9
      go_wp2_with fail
      refine (H0.out _ (by (repeat first | with_reducible exact Below.refl _ _ | with_reducible assumption | (with_reducible refine Below.setCell ?_ ?_ _; rotate_left; exact (by first | omega | (simp; done) | (simp; omega))) | (with_reducible refine Below.alloc ?_ ?_ _; rotate_left; exact (by first | omega | (simp; done) | (simp; omega))) | with_reducible refine Below.drew ?_ | with_reducible refine Below_drewN ?_ _))).mono ?_
      rintro e w1 ⟨rfl, hb⟩
      have hX := Lib.hid (HX.out.below (by simp) hb)
      have hs : w.heap.size < w1.heap.size := Nat.lt_of_lt_of_le (by simp) hb.size
      have hB1 : Below w.heap.size w w1 := Below.trans (by (repeat first | with_reducible exact Below.refl _ _ | with_reducible assumption | (with_reducible refine Below.setCell ?_ ?_ _; rotate_left; exact (by first | omega | (simp; done) | (simp; omega))) | (with_reducible refine Below.alloc ?_ ?_ _; rotate_left; exact (by first | omega | (simp; done) | (simp; omega))) | with_reducible refine Below.drew ?_ | with_reducible refine Below_drewN ?_ _)) (hb.mono (by first | omega | ((try simp only [World.size_alloc, World.size_setCell, size_drew, size_drewN]); omega) | (simp; done) | (simp; omega)))
      clear hb
      go_wp2_with fail
      refine (HC.out _ (by (repeat first | with_reducible exact Below.refl _ _ | with_reducible assumption | (with_reducible refine Below.setCell ?_ ?_ _; rotate_left; exact (by first | omega | (simp; done) | (simp; omega))) | (with_reducible refine Below.alloc ?_ ?_ _; rotate_left; exact (by first | omega | (simp; done) | (simp; omega))) | with_reducible refine Below.drew ?_ | with_reducible refine Below_drewN ?_ _)) hs hX.out).mono ?_
      rintro e w2 ⟨rfl, hb⟩
      have hB2 : Below w.heap.size w w2 := hB1.trans (hb.mono hB1.size)
      clear hb
      go_wp2_with fail
      go_ret
      exact ⟨by rw [← HF.out]; cases al <;> rfl, by (repeat first | with_reducible exact Below.refl _ _ | with_reducible assumption | (with_reducible refine Below.setCell ?_ ?_ _; rotate_left; exact (by first | omega | (simp; done) | (simp; omega))) | (with_reducible refine Below.alloc ?_ ?_ _; rotate_left; exact (by first | omega | (simp; done) | (simp; omega))) | with_reducible refine Below.drew ?_ | with_reducible refine Below_drewN ?_ _)⟩
    · have HF : Hid (false = G) := Lib.hid (by rw [HE.out, decide_eq_false h32]; rfl)
      clear HE HC HA hX
      go_enter Tryd.func9, Tryd.ntmps9
      go_wp2_with fail
      refine (H0.out _ (by (repeat first | with_reducible exact Below.refl _ _ | with_reducible assumption | (with_reducible refine Below.setCell ?_ ?_ _; rotate_left; exact (by first | omega | (simp; done) | (simp; omega))) | (with_reducible refine Below.alloc ?_ ?_ _; rotate_left; exact (by first | omega | (simp; done) | (simp; omega))) | with_reducible refine Below.drew ?_ | with_reducible refine Below_drewN ?_ _))).mono ?_
      rintro e w1 ⟨rfl, hb⟩
      have hB1 : Below w.heap.size w w1 := Below.trans (by (repeat first | with_reducible exact Below.refl _ _ | with_reducible assumption | (with_reducible refine Below.setCell ?_ ?_ _; rotate_left; exact (by first | omega | (simp; done) | (simp; omega))) | (with_reducible refine Below.alloc ?_ ?_ _; rotate_left; exact (by first | omega | (simp; done) | (simp; omega))) | with_reducible refine Below.drew ?_ | with_reducible refine Below_drewN ?_ _)) (hb.mono (by first | omega | ((try simp only [World.size_alloc, World.size_setCell, size_drew, size_drewN]); omega) | (simp; done) | (simp; omega)))
      clear hb
      go_wp2_with fail
      go_ret
      exact ⟨by rw [← HF.out]; rfl, by (repeat first | with_reducible exact Below.refl _ _ | with_reducible assumption | (with_reducible refine Below.setCell ?_ ?_ _; rotate_left; exact (by first | omega | (simp; done) | (simp; omega))) | (with_reducible refine Below.alloc ?_ ?_ _; rotate_left; exact (by first | omega | (simp; done) | (simp; omega))) | with_reducible refine Below.drew ?_ | with_reducible refine Below_drewN ?_ _)⟩
  · have HF : Hid (false = G) := Lib.hid (by rw [HE.out, decide_eq_false hc]; rfl)
    have hcb : (c == 0) = false := by rw [beq_eq_false_iff_ne]; exact hc
    clear HE HC HA hX hc
    go_enter Tryd.func9, Tryd.ntmps9
    go_wp2_with fail
    refine (H0.out _ (by (repeat first | with_reducible exact Below.refl _ _ | with_reducible assumption | (with_reducible refine Below.setCell ?_ ?_ _; rotate_left; exact (by first | omega | (simp; done) | (simp; omega))) | (with_reducible refine Below.alloc ?_ ?_ _; rotate_left; exact (by first | omega | (simp; done) | (simp; omega))) | with_reducible refine Below.drew ?_ | with_reducible refine Below_drewN ?_ _))).mono ?_
    rintro e w1 ⟨rfl, hb⟩
    have hB1 : Below w.heap.size w w1 := Below.trans (by (repeat first | with_reducible exact Below.refl _ _ | with_reducible assumption | (with_reducible refine Below.setCell ?_ ?_ _; rotate_left; exact (by first | omega | (simp; done) | (simp; omega))) | (with_reducible refine Below.alloc ?_ ?_ _; rotate_left; exact (by first | omega | (simp; done) | (simp; omega))) | with_reducible refine Below.drew ?_ | with_reducible refine Below_drewN ?_ _)) (hb.mono (by first | omega | ((try simp only [World.size_alloc, World.size_setCell, size_drew, size_drewN]); omega) | (simp; done) | (simp; omega)))
    clear hb
    go_wp2_with fail
    go_ret
    exact ⟨by rw [← HF.out]; rfl, by (repeat first | with_reducible exact Below.refl _ _ | with_reducible assumption | (with_reducible refine Below.setCell ?_ ?_ _; rotate_left; exact (by first | omega | (simp; done) | (simp; omega))) | (with_reducible refine Below.alloc ?_ ?_ _; rotate_left; exact (by first | omega | (simp; done) | (simp; omega))) | with_reducible refine Below.drew ?_ | with_reducible refine Below_drewN ?_ _)⟩

end Go.Proofs.YtjikhpdchockcaaDoor
end
