import Derived.Test.YtnikdbglpimadaaGreatJAL
section
/- Circuits as plain functions: what a tick makes of a state, over this seat's translation. -/
namespace Go.Proofs.YtnikdbglpimadaaGreat
set_option linter.unusedVariables false
set_option linter.unusedSimpArgs false
open Go.RowKit

structure StD where
  (tick : Int) (C : CurD) (heat : List Int) (trip : List Bool)
structure StR where
  (Q : CurR) (H T : Option Addr) (lh ch lt ct : Nat)
def boolCells (b : Bool) : List Value := [.bool b]
abbrev StR.v (R : StR) (n : Int) : Value := .agg #[.int .i64 n, .slice R.Q.A R.Q.la R.Q.ca, .slice R.Q.B R.Q.lb R.Q.cb, .slice R.Q.C R.Q.lc R.Q.cc, .slice R.H R.lh R.ch, .slice R.T R.lt R.ct]
/-- A value that is the state S. -/
structure IsS (w : World) (R : StR) (S : StD) : Prop where
  cur : IsC w R.Q S.C
  heat : IsT 1 intCells w R.H R.lh S.heat
  trip : IsT 1 boolCells w R.T R.lt S.trip
  lh : R.lh ≤ R.ch
  lt : R.lt ≤ R.ct
  ch : R.ch ≤ 9223372036854775807
  ct : R.ct ≤ 9223372036854775807
  kh : R.lh ≤ 1000000000000000
  kt : R.lt ≤ 9223372036854775807
theorem IsS.below {w w1 : World} {R : StR} {S : StD} (h : IsS w R S) (hb : Below w.heap.size w w1) : IsS w1 R S :=
  ⟨h.cur.below hb, h.heat.below hb, h.trip.below hb, h.lh, h.lt, h.ch, h.ct, h.kh, h.kt⟩

/-! ### Places of lists -/
def iA (l : List Int) (k : Nat) : Int := l.getD k 0
def bA (l : List Bool) (k : Nat) : Bool := l.getD k false
def cA (M : MachD) (k : Nat) : CoilD := M.coils.getD k ⟨⟨#[]⟩, 0, 0, 0, 0, 0, 0, 0⟩
def sA (M : MachD) (k : Nat) : ShellD := M.shells.getD k ⟨0, 0, 0, 0⟩
theorem getD_get {α : Type} {l : List α} {d : α} {k : Nat} (h : k < l.length) : l[k]? = some (l.getD k d) := by
  rw [List.getD_eq_getElem?_getD, List.getElem?_eq_getElem h]; rfl
theorem iA_get {l : List Int} {k : Nat} (h : k < l.length) : l[k]? = some (iA l k) := getD_get h
theorem bA_get {l : List Bool} {k : Nat} (h : k < l.length) : l[k]? = some (bA l k) := getD_get h
theorem cA_get {M : MachD} {k : Nat} (h : k < M.coils.length) : M.coils[k]? = some (cA M k) := getD_get h
theorem cA_mem {M : MachD} {k : Nat} (h : k < M.coils.length) : cA M k ∈ M.coils := List.mem_of_getElem? (cA_get h)
theorem iA_of {l : List Int} {k : Nat} {x : Int} (h : l[k]? = some x) : iA l k = x := by simp [iA, List.getD_eq_getElem?_getD, h]
def lst {α : Type} (n : Nat) (f : Nat → α) : List α := (List.range n).map f
theorem lst_length {α : Type} (n : Nat) (f : Nat → α) : (lst n f).length = n := by simp [lst]
theorem lst_get {α : Type} {n k : Nat} (f : Nat → α) (h : k < n) : (lst n f)[k]? = some (f k) := by simp [lst, h]
theorem lst_snoc {α : Type} (k : Nat) (f : Nat → α) : lst (k + 1) f = lst k f ++ [f k] := by simp [lst, List.range_succ]
theorem lst_ext {α : Type} {n : Nat} {f g : Nat → α} (h : ∀ k, k < n → f k = g k) : lst n f = lst n g := by
  unfold lst
  apply List.map_congr_left
  intro k hk
  exact h k (List.mem_range.1 hk)

/-! ### What is valid -/
def validS (M : MachD) (S : StD) : Bool :=
  validC M S.C && (wthn S.tick 0 1000000000 && ((decide (S.heat.length = M.coils.length) && allW S.heat 0 1000000000000000) && decide (S.trip.length = M.coils.length)))
structure FitS (M : MachD) (S : StD) : Prop where
  cur : Fit2 M S.C
  tick : 0 ≤ S.tick ∧ S.tick ≤ 1000000000
  heat : S.heat.length = M.coils.length ∧ ∀ x ∈ S.heat, 0 ≤ x ∧ x ≤ 1000000000000000
  trip : S.trip.length = M.coils.length
theorem fitS_iff {M : MachD} {S : StD} : validS M S = true ↔ FitS M S := by
  unfold validS
  simp only [Bool.and_eq_true, decide_eq_true_eq, allW_iff, fit2_iff, wthn_iff]
  exact ⟨fun ⟨a, b, c, d⟩ => ⟨a, b, c, d⟩, fun h => ⟨h.cur, h.tick, h.heat, h.trip⟩⟩
def validCh (M : MachD) (l : List Int) (most : Int) : Bool := decide (l.length = M.coils.length) && allW l (-most) most
theorem validCh_iff {M : MachD} {l : List Int} {most : Int} : validCh M l most = true ↔ l.length = M.coils.length ∧ ∀ x ∈ l, -most ≤ x ∧ x ≤ most := by
  unfold validCh; simp only [Bool.and_eq_true, decide_eq_true_eq, allW_iff]
structure Coil2 (c : CoilD) : Prop where
  turns : 1 ≤ c.turns ∧ c.turns ≤ 100
  cur : 1 ≤ c.cur ∧ c.cur ≤ 1000000
  step : 1 ≤ c.step ∧ c.step ≤ 1000000
  heat : 1 ≤ c.heat ∧ c.heat ≤ 1000000000000
  cool : 0 ≤ c.cool ∧ c.cool ≤ 1000000000
theorem coil2_of {c : CoilD} {e : List CoilD} (h : coilC c e = 0) : Coil2 c := by
  unfold coilC at h
  split at h
  · split at h
    · simp at h
    · have h1 := rng_zero h
      simp only [Bool.and_eq_true, wthn_iff] at h1
      exact ⟨h1.2.1, h1.2.2.1, h1.2.2.2.1, h1.2.2.2.2.1, h1.2.2.2.2.2⟩
  · simp at h
theorem coils2 {M : MachD} (h : checkC M = 0) : ∀ x ∈ M.coils, Coil2 x := fun x hx => by
  have h1 := (orL_zero (orL_zero h).2)
  exact ((eachC_all h1.1).2 x hx).elim fun e he => coil2_of he
theorem cA_ok {M : MachD} (h : checkC M = 0) {k : Nat} (hk : k < M.coils.length) : Coil2 (cA M k) := coils2 h _ (cA_mem hk)
/-! ### A tick -/
def cutI (n most : Int) : Int := max (-most) (min n most)
theorem cutI_bd {n most : Int} (h : 0 ≤ most) : -most ≤ cutI n most ∧ cutI n most ≤ most := by unfold cutI; omega
def appI (c : CoilD) (cur ch : Int) (t : Bool) : Int := if t = true then cutI (-cur) c.step else cutI (cutI (cur + cutI ch c.step) c.cur - cur) c.step
def appA (M : MachD) (S : StD) (ch : List Int) (k : Nat) : Int := appI (cA M k) (iA S.C.coils k) (iA ch k) (bA S.trip k)
def appL (M : MachD) (S : StD) (ch : List Int) : List Int := lst M.coils.length (appA M S ch)
def cellN (M : MachD) : Nat := (M.grid.nr * M.grid.nz).toNat
def lkA (M : MachD) (s : ShellD) (j : Nat) : Int := if j < M.coils.length then (cA M j).turns * infl s.r s.z (cA M j).r (cA M j).z else infl s.r s.z (cellR M.grid ((j - M.coils.length : Nat) : Int)) (cellZ M.grid ((j - M.coils.length : Nat) : Int))
def linkL (M : MachD) (s : ShellD) : List Int := lst (M.coils.length + cellN M) (lkA M s)
end Go.Proofs.YtnikdbglpimadaaGreat
end
