import Derived.Test.YtfpjhobhmcfpnaaDoorJAA
import Derived.Test.YtfpjhobhmcfpnaaDoorJAC
import Derived.Test.YtfpjhobhmcfpnaaDoorJAF
import Derived.Test.YtfpjhobhmcfpnaaDoorJBJ
import Derived.ProofKit
import Derived.OpenShut
import Derived.Lib.SmallJoins
import Derived.Deep.Slices
import Derived.Carry
import Derived.Test.YtfpjhobhmcfpnaaDoorRows
import Derived.Test.YtfpjhobhmcfpnaaDoorTie
import Derived.Test.YtfpjhobhmcfpnaaDoorCards
import Derived.LaidMore
import Derived.MakeChecks
import Derived.SevenTiedAt
section
/- The frame of the laws over spans: how an argument that is a span or a Pair is opened and shut, over this seat's translation. -/
namespace Go.Proofs.YtfpjhobhmcfpnaaDoor
set_option linter.unusedVariables false
set_option linter.unusedSimpArgs false
set_option maxRecDepth 100000
open Go.ChangeShapes Go.WideShapes Go.ChangeAt Go.RowKit Go.Joins

theorem own : ownKnob Tryd.prog.godebug = none := by kernel_rfl
theorem cells_int : Tryd.prog.cellsOf 3 = 1 := by kernel_rfl

section
variable {H : Type} {enc : TypeId × Value → H}

end
end Go.Proofs.YtfpjhobhmcfpnaaDoor
end
section
/- The frame of the laws over pairs: how an argument that is a list of items of n cells is opened, over this seat's translation. -/
namespace Go.Proofs.YtfpjhobhmcfpnaaDoor
set_option linter.unusedVariables false
set_option linter.unusedSimpArgs false
set_option maxRecDepth 100000
open Go.ChangeShapes Go.WideShapes Go.ChangeAt Go.RowKit Go.Joins Go.Deep

section
variable {H : Type} {enc : TypeId × Value → H}

/-- A list that reads is a list of items, where each item that reads is one. -/
theorem open_isT {α : Type} {E : α → List Value} {n : Nat} (h0 : ∀ x, (E x).length = n) {t e : TypeId} {W : World} {b0 : Nat} {r : Reach} {v : Value} {d : DataW H} {p : List MemPlace}
    (ht : Tryd.prog.underlying t = some (.slice e)) (hc : Tryd.prog.cellsOf e = n) (hn : 0 < n)
    (dec : ∀ (fuel : Nat) (cs : List Value) (y : DataW H × List MemPlace), DataW.trod enc Tryd.prog W 0 (fun _ => true) true fuel e cs = some y → ∃ x : α, cs = E x)
    (hv : Value.okWide Tryd.prog W r b0 t v) (h : DataW.Trod enc Tryd.prog W 0 (fun _ => true) true t v d p) :
    ∃ (A : Option Addr) (len cap : Nat) (zs : List α), v = .slice A len cap ∧ IsT n E W A len zs ∧ len ≤ maxLen ∧ len ≤ cap ∧ cap ≤ maxLen := by
  obtain ⟨a, len, cap, rfl⟩ := okWide_slice ht hv
  obtain ⟨fuel, hf⟩ := h
  rcases open_slice ht hf with ⟨hcs, hx⟩ | ⟨a', len', cap', m, k, D, Pl, hcs, hb, hl, hm, hmm, hx, hi⟩
  · have hcs : [Value.slice a len cap] = [Value.slice none 0 0] := hcs
    injection hcs with hcs _
    injection hcs with e1 e2 e3
    subst e1 e2 e3
    exact ⟨_, _, _, [], rfl, IsT.nil _ _ _ _, Nat.zero_le _, Nat.zero_le _, Nat.zero_le _⟩
  · have hcs : [Value.slice a len cap] = [Value.slice (some a') len' cap'] := hcs
    injection hcs with hcs _
    injection hcs with e1 e2 e3
    subst e1 e2 e3
    simp only [if_true] at hmm
    subst hmm
    have each : ∀ i, i < len → ∃ x : α, ∀ j, j < n → W.cell? (a'.add (i * n + j)) = (E x)[j]? := fun i hil => by
      obtain ⟨cs', h1, h2⟩ := hi i (by omega)
      obtain ⟨x, rfl⟩ := dec _ _ _ h2
      rw [hc] at h1
      obtain ⟨_, _, hcell⟩ := World.cells?_some h1
      refine ⟨x, fun j hj => ?_⟩
      have := hcell j hj
      rwa [add_add] at this
    by_cases hz : len = 0
    · subst hz
      exact ⟨_, _, _, [], rfl, IsT.nil _ _ _ _, Nat.zero_le _, Nat.zero_le _, hm⟩
    · obtain ⟨x0, _⟩ := each 0 (by omega)
      haveI : Inhabited α := ⟨x0⟩
      obtain ⟨z, hz'⟩ := choose_lt each
      refine ⟨_, _, _, (List.range len).map z, rfl, ⟨by simp, fun _ => ?_⟩, Nat.le_trans hl hm, hl, hm⟩
      have c0 := hz' 0 (by omega) 0 hn
      obtain ⟨v0, hv0⟩ : ∃ v0, (E (z 0))[0]? = some v0 := ⟨_, List.getElem?_eq_getElem (by rw [h0]; exact hn)⟩
      rw [hv0] at c0
      have hlt := World.block_lt_of_cell? W _ c0
      have hsp := World.cell?_spot c0
      obtain ⟨b, off, spot⟩ := a'
      have hspot : spot = none := by simpa [Addr.add] using hsp
      subst hspot
      rw [block_add] at hlt
      refine ⟨b, off, rfl, hlt, fun j x hx i v hv => ?_⟩
      have hj : j < len := by
        have := (List.getElem?_eq_some_iff.1 hx).1
        simpa using this
      have hx' : x = z j := by
        rw [List.getElem?_map, List.getElem?_range hj] at hx
        simpa using hx.symm
      subst hx'
      have hin : i < n := by
        have := (List.getElem?_eq_some_iff.1 hv).1
        rwa [h0] at this
      have := hz' j hj i hin
      rw [add_plain, hv] at this
      rw [← this]
      congr 2
      omega

end
end Go.Proofs.YtfpjhobhmcfpnaaDoor
end
section
/- The frame of the laws over machines: how arguments that are a machine, a list of faults, a list of spans are opened and shut, over this seat's translation (written by mk_opn.py). -/
namespace Go.Proofs.YtfpjhobhmcfpnaaDoor
set_option linter.unusedVariables false
set_option linter.unusedSimpArgs false
set_option maxRecDepth 100000
open Go.ChangeShapes Go.WideShapes Go.ChangeAt Go.RowKit Go.Joins Go.Deep

theorem cells_string : Tryd.prog.cellsOf 9 = 1 := by kernel_rfl

section
variable {H : Type} {enc : TypeId × Value → H}

/-- open_isT, from a reading of cells. -/
theorem open_isTc {α : Type} {E : α → List Value} {n : Nat} (h0 : ∀ x, (E x).length = n) {t e : TypeId} {W : World} {fuel : Nat} {cs : List Value} {y : DataW H × List MemPlace}
    (ht : Tryd.prog.underlying t = some (.slice e)) (hc : Tryd.prog.cellsOf e = n) (hn : 0 < n)
    (dec : ∀ (fuel : Nat) (cs : List Value) (y : DataW H × List MemPlace), DataW.trod enc Tryd.prog W 0 (fun _ => true) true fuel e cs = some y → ∃ x : α, cs = E x)
    (hf : DataW.trod enc Tryd.prog W 0 (fun _ => true) true fuel t cs = some y) :
    ∃ (A : Option Addr) (len cap : Nat) (zs : List α), cs = [.slice A len cap] ∧ IsT n E W A len zs ∧ len ≤ cap ∧ cap ≤ maxLen := by
  rcases open_slice ht hf with ⟨hcs, hx⟩ | ⟨a', len, cap, m, k, D, Pl, hcs, hb, hl, hm, hmm, hx, hi⟩
  · exact ⟨_, _, _, [], hcs, IsT.nil _ _ _ _, Nat.zero_le _, Nat.zero_le _⟩
  · simp only [if_true] at hmm
    subst hmm
    subst hcs
    have each : ∀ i, i < len → ∃ x : α, ∀ j, j < n → W.cell? (a'.add (i * n + j)) = (E x)[j]? := fun i hil => by
      obtain ⟨cs', h1, h2⟩ := hi i (by omega)
      obtain ⟨x, rfl⟩ := dec _ _ _ h2
      rw [hc] at h1
      obtain ⟨_, _, hcell⟩ := World.cells?_some h1
      refine ⟨x, fun j hj => ?_⟩
      have := hcell j hj
      rwa [add_add] at this
    by_cases hz : len = 0
    · subst hz
      exact ⟨_, _, _, [], rfl, IsT.nil _ _ _ _, Nat.zero_le _, hm⟩
    · obtain ⟨x0, _⟩ := each 0 (by omega)
      haveI : Inhabited α := ⟨x0⟩
      obtain ⟨z, hz'⟩ := choose_lt each
      refine ⟨_, _, _, (List.range len).map z, rfl, ⟨by simp, fun _ => ?_⟩, hl, hm⟩
      have c0 := hz' 0 (by omega) 0 hn
      obtain ⟨v0, hv0⟩ : ∃ v0, (E (z 0))[0]? = some v0 := ⟨_, List.getElem?_eq_getElem (by rw [h0]; exact hn)⟩
      rw [hv0] at c0
      have hlt := World.block_lt_of_cell? W _ c0
      have hsp := World.cell?_spot c0
      obtain ⟨b, off, spot⟩ := a'
      have hspot : spot = none := by simpa [Addr.add] using hsp
      subst hspot
      rw [block_add] at hlt
      refine ⟨b, off, rfl, hlt, fun j x hx i v hv => ?_⟩
      have hj : j < len := by
        have := (List.getElem?_eq_some_iff.1 hx).1
        simpa using this
      have hx' : x = z j := by
        rw [List.getElem?_map, List.getElem?_range hj] at hx
        simpa using hx.symm
      subst hx'
      have hin : i < n := by
        have := (List.getElem?_eq_some_iff.1 hv).1
        rwa [h0] at this
      have := hz' j hj i hin
      rw [add_plain, hv] at this
      rw [← this]
      congr 2
      omega

theorem dec_Coil {W : World} {base : Nat} {spare : Nat → Bool} {held : Bool} (fuel : Nat) (cs : List Value) (y : DataW H × List MemPlace)
    (h : DataW.trod enc Tryd.prog W base spare held fuel 151 cs = some y) : ∃ x : CoilD, cs = x.cells := by
  obtain ⟨xs, n, -, -, hl, hlen, hf⟩ := DataW.trod_struct Tryd.underlying151 h
  rw [show Tryd.prog.cellsOf 151 = 8 by kernel_rfl] at hl
  match xs, hlen with
  | [y0, y1, y2, y3, y4, y5, y6, y7], _ =>
    match cs, hl with
    | [c0, c1, c2, c3, c4, c5, c6, c7], _ =>
      obtain ⟨a0, e0, -, -⟩ := DataW.trod_string Tryd.underlying9 ((hf 0 _ rfl).trans (rfl : _ = some y0))
      obtain ⟨a1, e1, -, -⟩ := DataW.trod_int Tryd.underlying3 ((hf 1 _ rfl).trans (rfl : _ = some y1))
      obtain ⟨a2, e2, -, -⟩ := DataW.trod_int Tryd.underlying3 ((hf 2 _ rfl).trans (rfl : _ = some y2))
      obtain ⟨a3, e3, -, -⟩ := DataW.trod_int Tryd.underlying3 ((hf 3 _ rfl).trans (rfl : _ = some y3))
      obtain ⟨a4, e4, -, -⟩ := DataW.trod_int Tryd.underlying3 ((hf 4 _ rfl).trans (rfl : _ = some y4))
      obtain ⟨a5, e5, -, -⟩ := DataW.trod_int Tryd.underlying3 ((hf 5 _ rfl).trans (rfl : _ = some y5))
      obtain ⟨a6, e6, -, -⟩ := DataW.trod_int Tryd.underlying3 ((hf 6 _ rfl).trans (rfl : _ = some y6))
      obtain ⟨a7, e7, -, -⟩ := DataW.trod_int Tryd.underlying3 ((hf 7 _ rfl).trans (rfl : _ = some y7))
      simp [cells_int, cells_string] at e0
      simp [cells_int, cells_string] at e1
      simp [cells_int, cells_string] at e2
      simp [cells_int, cells_string] at e3
      simp [cells_int, cells_string] at e4
      simp [cells_int, cells_string] at e5
      simp [cells_int, cells_string] at e6
      simp [cells_int, cells_string] at e7
      subst e0 e1 e2 e3 e4 e5 e6 e7
      exact ⟨⟨a0, a1, a2, a3, a4, a5, a6, a7⟩, rfl⟩

theorem dec_Shell {W : World} {base : Nat} {spare : Nat → Bool} {held : Bool} (fuel : Nat) (cs : List Value) (y : DataW H × List MemPlace)
    (h : DataW.trod enc Tryd.prog W base spare held fuel 155 cs = some y) : ∃ x : ShellD, cs = x.cells := by
  obtain ⟨xs, n, -, -, hl, hlen, hf⟩ := DataW.trod_struct Tryd.underlying155 h
  rw [show Tryd.prog.cellsOf 155 = 4 by kernel_rfl] at hl
  match xs, hlen with
  | [y0, y1, y2, y3], _ =>
    match cs, hl with
    | [c0, c1, c2, c3], _ =>
      obtain ⟨a0, e0, -, -⟩ := DataW.trod_int Tryd.underlying3 ((hf 0 _ rfl).trans (rfl : _ = some y0))
      obtain ⟨a1, e1, -, -⟩ := DataW.trod_int Tryd.underlying3 ((hf 1 _ rfl).trans (rfl : _ = some y1))
      obtain ⟨a2, e2, -, -⟩ := DataW.trod_int Tryd.underlying3 ((hf 2 _ rfl).trans (rfl : _ = some y2))
      obtain ⟨a3, e3, -, -⟩ := DataW.trod_int Tryd.underlying3 ((hf 3 _ rfl).trans (rfl : _ = some y3))
      simp [cells_int, cells_string] at e0
      simp [cells_int, cells_string] at e1
      simp [cells_int, cells_string] at e2
      simp [cells_int, cells_string] at e3
      subst e0 e1 e2 e3
      exact ⟨⟨a0, a1, a2, a3⟩, rfl⟩

theorem dec_Point {W : World} {base : Nat} {spare : Nat → Bool} {held : Bool} (fuel : Nat) (cs : List Value) (y : DataW H × List MemPlace)
    (h : DataW.trod enc Tryd.prog W base spare held fuel 76 cs = some y) : ∃ x : PointD, cs = x.cells := by
  obtain ⟨xs, n, -, -, hl, hlen, hf⟩ := DataW.trod_struct Tryd.underlying76 h
  rw [show Tryd.prog.cellsOf 76 = 2 by kernel_rfl] at hl
  match xs, hlen with
  | [y0, y1], _ =>
    match cs, hl with
    | [c0, c1], _ =>
      obtain ⟨a0, e0, -, -⟩ := DataW.trod_int Tryd.underlying3 ((hf 0 _ rfl).trans (rfl : _ = some y0))
      obtain ⟨a1, e1, -, -⟩ := DataW.trod_int Tryd.underlying3 ((hf 1 _ rfl).trans (rfl : _ = some y1))
      simp [cells_int, cells_string] at e0
      simp [cells_int, cells_string] at e1
      subst e0 e1
      exact ⟨⟨a0, a1⟩, rfl⟩

theorem dec_Sensor {W : World} {base : Nat} {spare : Nat → Bool} {held : Bool} (fuel : Nat) (cs : List Value) (y : DataW H × List MemPlace)
    (h : DataW.trod enc Tryd.prog W base spare held fuel 78 cs = some y) : ∃ x : SensorD, cs = x.cells := by
  obtain ⟨xs, n, -, -, hl, hlen, hf⟩ := DataW.trod_struct Tryd.underlying78 h
  rw [show Tryd.prog.cellsOf 78 = 5 by kernel_rfl] at hl
  match xs, hlen with
  | [y0, y1, y2, y3, y4], _ =>
    match cs, hl with
    | [c0, c1, c2, c3, c4], _ =>
      obtain ⟨a0, e0, -, -⟩ := DataW.trod_string Tryd.underlying9 ((hf 0 _ rfl).trans (rfl : _ = some y0))
      obtain ⟨a1, e1, -, -⟩ := DataW.trod_int Tryd.underlying3 ((hf 1 _ rfl).trans (rfl : _ = some y1))
      obtain ⟨a2, e2, -, -⟩ := DataW.trod_int Tryd.underlying3 ((hf 2 _ rfl).trans (rfl : _ = some y2))
      obtain ⟨a3, e3, -, -⟩ := DataW.trod_int Tryd.underlying3 ((hf 3 _ rfl).trans (rfl : _ = some y3))
      obtain ⟨a4, e4, -, -⟩ := DataW.trod_int Tryd.underlying3 ((hf 4 _ rfl).trans (rfl : _ = some y4))
      simp [cells_int, cells_string] at e0
      simp [cells_int, cells_string] at e1
      simp [cells_int, cells_string] at e2
      simp [cells_int, cells_string] at e3
      simp [cells_int, cells_string] at e4
      subst e0 e1 e2 e3 e4
      exact ⟨⟨a0, a1, a2, a3, a4⟩, rfl⟩

theorem dec_Span {W : World} {base : Nat} {spare : Nat → Bool} {held : Bool} (fuel : Nat) (cs : List Value) (y : DataW H × List MemPlace)
    (h : DataW.trod enc Tryd.prog W base spare held fuel 66 cs = some y) : ∃ x : SpanD, cs = x.cells := by
  obtain ⟨xs, n, -, -, hl, hlen, hf⟩ := DataW.trod_struct Tryd.underlying66 h
  rw [show Tryd.prog.cellsOf 66 = 2 by kernel_rfl] at hl
  match xs, hlen with
  | [y0, y1], _ =>
    match cs, hl with
    | [c0, c1], _ =>
      obtain ⟨a0, e0, -, -⟩ := DataW.trod_int Tryd.underlying3 ((hf 0 _ rfl).trans (rfl : _ = some y0))
      obtain ⟨a1, e1, -, -⟩ := DataW.trod_int Tryd.underlying3 ((hf 1 _ rfl).trans (rfl : _ = some y1))
      simp [cells_int, cells_string] at e0
      simp [cells_int, cells_string] at e1
      subst e0 e1
      exact ⟨⟨a0, a1⟩, rfl⟩

/-- A machine that reads: its lists, whatever their lengths. -/
structure OpM (w : World) (R : MachR) (M : MachD) : Prop where
  coils : IsT 8 CoilD.cells w R.A R.la M.coils
  shells : IsT 4 ShellD.cells w R.B R.lb M.shells
  limits : IsT 2 PointD.cells w R.C R.lc M.limits
  sensors : IsT 5 SensorD.cells w R.D R.ld M.sensors
  la : R.la ≤ R.ca
  lb : R.lb ≤ R.cb
  lc : R.lc ≤ R.cc
  ld : R.ld ≤ R.cd
  ca : R.ca ≤ 9223372036854775807
  cb : R.cb ≤ 9223372036854775807
  cc : R.cc ≤ 9223372036854775807
  cd : R.cd ≤ 9223372036854775807
theorem OpM.isM {w : World} {R : MachR} {M : MachD} (h : OpM w R M) (ka : R.la ≤ 1000000000000000) (kb : R.lb ≤ 1000000000000000) (kc : R.lc ≤ 1000000000000000) (kd : R.ld ≤ 1000000000000000) : IsM w R M :=
  ⟨h.coils, h.shells, h.limits, h.sensors, h.la, h.lb, h.lc, h.ld, h.ca, h.cb, h.cc, h.cd, ka, kb, kc, kd⟩

end
end Go.Proofs.YtfpjhobhmcfpnaaDoor
end
section
/- The frame of the laws over currents and spots: how such arguments are opened and shut, over this seat's translation. -/
namespace Go.Proofs.YtfpjhobhmcfpnaaDoor
set_option linter.unusedVariables false
set_option linter.unusedSimpArgs false
set_option maxRecDepth 100000
open Go.ChangeShapes Go.WideShapes Go.ChangeAt Go.RowKit Go.Joins Go.Deep

section
variable {H : Type} {enc : TypeId × Value → H}

theorem dec_intI {W : World} {base : Nat} {spare : Nat → Bool} {held : Bool} (fuel : Nat) (cs : List Value) (y : DataW H × List MemPlace)
    (h : DataW.trod enc Tryd.prog W base spare held fuel 3 cs = some y) : ∃ x : Int, cs = intCells x := by
  obtain ⟨a, e, _, _⟩ := DataW.trod_int Tryd.underlying3 h
  exact ⟨a, e⟩

/-- Currents that read: their lists, whatever their lengths. -/
structure OpC (w : World) (Q : CurR) (C : CurD) : Prop where
  coils : IsT 1 intCells w Q.A Q.la C.coils
  shells : IsT 1 intCells w Q.B Q.lb C.shells
  plasma : IsT 1 intCells w Q.C Q.lc C.plasma
  la : Q.la ≤ Q.ca
  lb : Q.lb ≤ Q.cb
  lc : Q.lc ≤ Q.cc
  ca : Q.ca ≤ 9223372036854775807
  cb : Q.cb ≤ 9223372036854775807
  cc : Q.cc ≤ 9223372036854775807
theorem OpC.isC {w : World} {Q : CurR} {C : CurD} (h : OpC w Q C) (ka : Q.la ≤ 1000000000000000) (kb : Q.lb ≤ 1000000000000000) (kc : Q.lc ≤ 1000000000000000) : IsC w Q C :=
  ⟨h.coils, h.shells, h.plasma, h.la, h.lb, h.lc, h.ca, h.cb, h.cc, ka, kb, kc⟩

end
end Go.Proofs.YtfpjhobhmcfpnaaDoor
end
section
/- Arguments that are a Case (a machine, currents and readings together), and lists of whole numbers: opened and shut, over this seat's translation. -/
namespace Go.Proofs.YtfpjhobhmcfpnaaDoor
set_option linter.unusedVariables false
set_option linter.unusedSimpArgs false
set_option maxRecDepth 100000
open Go.ChangeShapes Go.WideShapes Go.ChangeAt Go.RowKit Go.Joins Go.Deep

section
variable {H : Type} {enc : TypeId × Value → H}

theorem open_machineC {W : World} {fuel : Nat} {cs : List Value} {y : DataW H × List MemPlace} (hf0 : DataW.trod enc Tryd.prog W 0 (fun _ => true) true fuel 29 cs = some y) : ∃ (R : MachR) (M : MachD), cs = (machCells R M).toList ∧ OpM W R M := by
  obtain ⟨d, p⟩ := y
  have hf1 := hf0
  obtain ⟨xs, n, -, -, hl, hlen, hf⟩ := DataW.trod_struct Tryd.underlying29 hf1
  rw [show Tryd.prog.cellsOf 29 = 10 by kernel_rfl] at hl
  match xs, hlen with
  | [y0, y1, y2, y3, y4, y5], _ =>
    match cs, hl with
    | [c0, c1, c2, c3, c4, c5, c6, c7, c8, c9], _ =>
      obtain ⟨name, e0, -, -⟩ := DataW.trod_string Tryd.underlying9 ((hf 0 _ rfl).trans (rfl : _ = some y0))
      obtain ⟨A, la, ca, coils, e1, h1, k1, m1⟩ := open_isTc (n := 8) (E := CoilD.cells) (fun _ => rfl) Tryd.underlying22 (by kernel_rfl) (by decide) dec_Coil ((hf 1 _ rfl).trans (rfl : _ = some y1))
      obtain ⟨B, lb, cb, shells, e2, h2, k2, m2⟩ := open_isTc (n := 4) (E := ShellD.cells) (fun _ => rfl) Tryd.underlying23 (by kernel_rfl) (by decide) dec_Shell ((hf 2 _ rfl).trans (rfl : _ = some y2))
      obtain ⟨C, lc, cc, limits, e3, h3, k3, m3⟩ := open_isTc (n := 2) (E := PointD.cells) (fun _ => rfl) Tryd.underlying24 (by kernel_rfl) (by decide) dec_Point ((hf 3 _ rfl).trans (rfl : _ = some y3))
      obtain ⟨D, ld, cd, sensors, e5, h5, k5, m5⟩ := open_isTc (n := 5) (E := SensorD.cells) (fun _ => rfl) Tryd.underlying27 (by kernel_rfl) (by decide) dec_Sensor ((hf 5 _ rfl).trans (rfl : _ = some y5))
      obtain ⟨gs, gn, -, -, gl, glen, gf⟩ := DataW.trod_struct Tryd.underlying26 ((hf 4 _ rfl).trans (rfl : _ = some y4))
      match gs, glen with
      | [z0, z1, z2, z3, z4], _ =>
        obtain ⟨a0, f0, -, -⟩ := DataW.trod_int Tryd.underlying3 ((gf 0 _ rfl).trans (rfl : _ = some z0))
        obtain ⟨a1, f1, -, -⟩ := DataW.trod_int Tryd.underlying3 ((gf 1 _ rfl).trans (rfl : _ = some z1))
        obtain ⟨a2, f2, -, -⟩ := DataW.trod_int Tryd.underlying3 ((gf 2 _ rfl).trans (rfl : _ = some z2))
        obtain ⟨a3, f3, -, -⟩ := DataW.trod_int Tryd.underlying3 ((gf 3 _ rfl).trans (rfl : _ = some z3))
        obtain ⟨a4, f4, -, -⟩ := DataW.trod_int Tryd.underlying3 ((gf 4 _ rfl).trans (rfl : _ = some z4))
        have cg : Tryd.prog.cellsOf 26 = 5 := by kernel_rfl
        have cs1 : Tryd.prog.cellsOf 22 = 1 := by kernel_rfl
        have cs2 : Tryd.prog.cellsOf 23 = 1 := by kernel_rfl
        have cs3 : Tryd.prog.cellsOf 24 = 1 := by kernel_rfl
        have cs5 : Tryd.prog.cellsOf 27 = 1 := by kernel_rfl
        simp [cells_int, cells_string, cg, cs1, cs2, cs3, cs5] at e0 e1 e2 e3 e5 f0 f1 f2 f3 f4
        subst e0 e1 e2 e3 e5 f0 f1 f2 f3 f4
        unfold maxLen at m1 m2 m3 m5
        exact ⟨⟨A, B, C, D, la, ca, lb, cb, lc, cc, ld, cd⟩, ⟨name, coils, shells, limits, ⟨a0, a1, a2, a3, a4⟩, sensors⟩, rfl, h1, h2, h3, h5, k1, k2, k3, k5, m1, m2, m3, m5⟩

theorem open_currentsC {W : World} {fuel : Nat} {cs : List Value} {y : DataW H × List MemPlace} (hf0 : DataW.trod enc Tryd.prog W 0 (fun _ => true) true fuel 32 cs = some y) : ∃ (Q : CurR) (C : CurD), cs = [.slice Q.A Q.la Q.ca, .slice Q.B Q.lb Q.cb, .slice Q.C Q.lc Q.cc] ∧ OpC W Q C := by
  obtain ⟨d, p⟩ := y
  have hf1 := hf0
  obtain ⟨xs, n, -, -, hl, hlen, hf⟩ := DataW.trod_struct Tryd.underlying32 hf1
  rw [show Tryd.prog.cellsOf 32 = 3 by kernel_rfl] at hl
  match xs, hlen with
  | [y0, y1, y2], _ =>
    match cs, hl with
    | [c0, c1, c2], _ =>
      obtain ⟨A, la, ca, z1, e0, h0, k0, m0⟩ := open_isTc (n := 1) (E := intCells) (fun _ => rfl) Tryd.underlying30 (by kernel_rfl) (by decide) dec_intI ((hf 0 _ rfl).trans (rfl : _ = some y0))
      obtain ⟨B, lb, cb, z2, e1, h1, k1, m1⟩ := open_isTc (n := 1) (E := intCells) (fun _ => rfl) Tryd.underlying30 (by kernel_rfl) (by decide) dec_intI ((hf 1 _ rfl).trans (rfl : _ = some y1))
      obtain ⟨C, lc, cc, z3, e2, h2, k2, m2⟩ := open_isTc (n := 1) (E := intCells) (fun _ => rfl) Tryd.underlying30 (by kernel_rfl) (by decide) dec_intI ((hf 2 _ rfl).trans (rfl : _ = some y2))
      have cs1 : Tryd.prog.cellsOf 30 = 1 := by kernel_rfl
      simp [cs1] at e0 e1 e2
      subst e0 e1 e2
      unfold maxLen at m0 m1 m2
      exact ⟨⟨A, B, C, la, ca, lb, cb, lc, cc⟩, ⟨z1, z2, z3⟩, rfl, h0, h1, h2, k0, k1, k2, m0, m1, m2⟩

theorem open_case {W : World} {b0 : Nat} {r : Reach} {v : Value} {d : DataW H} {p : List MemPlace}
    (hv : Value.okWide Tryd.prog W r b0 58 v) (h : DataW.Trod enc Tryd.prog W 0 (fun _ => true) true 58 v d p) :
    ∃ (R : MachR) (M : MachD) (Q : CurR) (C : CurD) (F : Option Addr) (nf cf : Nat) (zs : List SpanD), v = .agg (machCells R M ++ #[.slice Q.A Q.la Q.ca, .slice Q.B Q.lb Q.cb, .slice Q.C Q.lc Q.cc, .slice F nf cf]) ∧ OpM W R M ∧ OpC W Q C ∧ IsT 2 SpanD.cells W F nf zs ∧ nf ≤ cf ∧ cf ≤ maxLen := by
  obtain ⟨⟨cs⟩, rfl, hsz⟩ := okWide_struct Tryd.underlying58 hv
  obtain ⟨fuel, hf0⟩ := h
  have hf1 : DataW.trod enc Tryd.prog W 0 (fun _ => true) true fuel 58 cs = some (d, p) := hf0
  obtain ⟨xs, n, -, -, hl, hlen, hf⟩ := DataW.trod_struct Tryd.underlying58 hf1
  rw [show Tryd.prog.cellsOf 58 = 14 by kernel_rfl] at hl
  match xs, hlen with
  | [y0, y1, y2], _ =>
    match cs, hl with
    | [c0, c1, c2, c3, c4, c5, c6, c7, c8, c9, c10, c11, c12, c13], _ =>
      obtain ⟨R, M, e0, h0⟩ := open_machineC ((hf 0 _ rfl).trans (rfl : _ = some y0))
      obtain ⟨Q, C, e1, h1⟩ := open_currentsC ((hf 1 _ rfl).trans (rfl : _ = some y1))
      obtain ⟨F, nf, cf, zs, e2, h2, k2, m2⟩ := open_isTc (n := 2) (E := SpanD.cells) (fun _ => rfl) Tryd.underlying52 (by kernel_rfl) (by decide) dec_Span ((hf 2 _ rfl).trans (rfl : _ = some y2))
      have cm : Tryd.prog.cellsOf 29 = 10 := by kernel_rfl
      have cc : Tryd.prog.cellsOf 32 = 3 := by kernel_rfl
      have cr : Tryd.prog.cellsOf 52 = 1 := by kernel_rfl
      simp [cm, cc, cr, machCells] at e0 e1 e2
      obtain ⟨rfl, rfl, rfl, rfl, rfl, rfl, rfl, rfl, rfl, rfl⟩ := e0
      obtain ⟨rfl, rfl, rfl⟩ := e1
      subst e2
      exact ⟨R, M, Q, C, F, nf, cf, zs, rfl, h0, h1, h2, k2, m2⟩

theorem shut_case {W W' : World} {v : Value} {d : DataW H} {p : List MemPlace} (h : DataW.Trod enc Tryd.prog W 0 (fun _ => true) true 58 v d p) (hb : Below W.heap.size W W') (hlt : ∀ x ∈ p, x.block < W.heap.size) :
    DataW.Trod enc Tryd.prog W' 0 (fun b => decide (b < W.heap.size)) true 58 v d p :=
  Below.trod (by kernel_rfl) (by kernel_rfl) (of_decide_eq_true (by kernel_rfl)) h hb hlt

end
end Go.Proofs.YtfpjhobhmcfpnaaDoor
end
section
/- The frame of the laws over spots: how such arguments are opened and shut, over this seat's translation. -/
namespace Go.Proofs.YtfpjhobhmcfpnaaDoor
set_option linter.unusedVariables false
set_option linter.unusedSimpArgs false
set_option maxRecDepth 100000
open Go.ChangeShapes Go.WideShapes Go.ChangeAt Go.RowKit Go.Joins Go.Deep

section
variable {H : Type} {enc : TypeId × Value → H}

theorem open_spot {W : World} {b0 : Nat} {r : Reach} {v : Value} {d : DataW H} {p : List MemPlace}
    (hv : Value.okWide Tryd.prog W r b0 34 v) (h : DataW.Trod enc Tryd.prog W 0 (fun _ => true) true 34 v d p) :
    ∃ s c i : Int, v = .agg #[.int .i64 s, .int .i64 c, .int .i64 i] ∧ (-9223372036854775808 ≤ s ∧ s ≤ 9223372036854775807) ∧ (-9223372036854775808 ≤ c ∧ c ≤ 9223372036854775807) ∧ (-9223372036854775808 ≤ i ∧ i ≤ 9223372036854775807) := by
  obtain ⟨⟨cs⟩, rfl, hsz⟩ := okWide_struct Tryd.underlying34 hv
  obtain ⟨fuel, hf0⟩ := h
  have hf1 : DataW.trod enc Tryd.prog W 0 (fun _ => true) true fuel 34 cs = some (d, p) := hf0
  obtain ⟨xs, n, -, -, hl, hlen, hf⟩ := DataW.trod_struct Tryd.underlying34 hf1
  rw [show Tryd.prog.cellsOf 34 = 3 by kernel_rfl] at hl
  match xs, hlen with
  | [y0, y1, y2], _ =>
    match cs, hl with
    | [c0, c1, c2], _ =>
      obtain ⟨a0, e0, -, w0⟩ := DataW.trod_int Tryd.underlying3 ((hf 0 _ rfl).trans (rfl : _ = some y0))
      obtain ⟨a1, e1, -, w1⟩ := DataW.trod_int Tryd.underlying3 ((hf 1 _ rfl).trans (rfl : _ = some y1))
      obtain ⟨a2, e2, -, w2⟩ := DataW.trod_int Tryd.underlying3 ((hf 2 _ rfl).trans (rfl : _ = some y2))
      simp [cells_int] at e0 e1 e2
      subst e0 e1 e2
      have bd : ∀ n : Int, (Lit.int .i64 n).wf = true → -9223372036854775808 ≤ n ∧ n ≤ 9223372036854775807 := fun n hn => by
        have h1 : IntKind.i64.min = -9223372036854775808 := by rfl
        have h2 : IntKind.i64.max = 9223372036854775807 := by rfl
        simp [Lit.wf] at hn
        omega
      exact ⟨a0, a1, a2, rfl, bd _ w0, bd _ w1, bd _ w2⟩

theorem shut_spot {W W' : World} {v : Value} {d : DataW H} {p : List MemPlace} (h : DataW.Trod enc Tryd.prog W 0 (fun _ => true) true 34 v d p) (hb : Below W.heap.size W W') (hlt : ∀ x ∈ p, x.block < W.heap.size) :
    DataW.Trod enc Tryd.prog W' 0 (fun b => decide (b < W.heap.size)) true 34 v d p :=
  Below.trod (by kernel_rfl) (by kernel_rfl) (of_decide_eq_true (by kernel_rfl)) h hb hlt

end
end Go.Proofs.YtfpjhobhmcfpnaaDoor
end
section
/- Proved: for every machine, currents, readings, cell and current the law SenseCommon returns true (a current is a candidate exactly if all sensors agree with it, and it lies in what each one allows), and the arguments read afterwards as before; the table of fault kinds reads as the program lays it (the card ties it). -/
namespace Go.Proofs.YtfpjhobhmcfpnaaDoor.lawSenseCommon
set_option linter.unusedVariables false
set_option linter.unusedSimpArgs false
open Go.ChangeShapes Go.WideShapes Go.ChangeAt Go.RowKit Go.Joins

theorem door_met (os : Os) (args : Array Value) : laidMetH Tryd.prog Rows.senseCommonRow.laid ((World.doorLaid Tryd.prog 400 os).forCall (fun _ _ => 0) ⟨#[], args, []⟩).memory := by
  rw [MakeChecks.laidMetH_plain _ _ _ (by kernel_rfl)]
  exact laidMet_of_run' 8 (by kernel_rfl) (by kernel_rfl)

set_option maxRecDepth 100000 in
theorem lifted (os : Os) (started : os.Started) (H : Type) (enc : TypeId × Value → H) :
    ReturnsInHanded {} Tryd.checked os 5 .any (fun w args => (Rows.senseCommonSpec.pre enc Tryd.prog Tryd.f5 [] false w args ∧ laidMetH Tryd.prog Rows.senseCommonRow.laid w) ∧ sizedMet enc Tryd.prog Tryd.f5 (OpenSpec.ofChange Rows.senseCommonSpec) false w args) (Rows.senseCommonSpec.post enc Tryd.prog Tryd.f5 false true false false) := by
  refine returnsInHanded_of_change_and (C := Tryd.checked) (X := fun w _ => laidMetH Tryd.prog Rows.senseCommonRow.laid w) (fun _ _ _ hh h => h.of_heap hh) own started (by kernel_rfl) Tryd.func5
    (ChangeSpec.witness_shaped (enc := enc) (C := Tryd.checked) (os := os) (X := fun w _ => laidMetH Tryd.prog Rows.senseCommonRow.laid w) false (World.doorLaid Tryd.prog 400 os) #[.agg #[.string ⟨#[]⟩, .slice none 0 0, .slice none 0 0, .slice none 0 0, .int .i64 0, .int .i64 0, .int .i64 0, .int .i64 0, .int .i64 0, .slice none 0 0, .slice none 0 0, .slice none 0 0, .slice none 0 0, .slice none 0 0], .agg #[.int .i64 0, .int .i64 0, .int .i64 0]] 8 rfl (World.shaped_of_RefB (by kernel_rfl) (by kernel_rfl)) (by kernel_rfl) (by kernel_rfl) (by kernel_rfl) (door_met os _)) ?_
  intro W base args ds gs before hval0 hW _ _ hL _
  have hval : ∀ (j : Nat) t v, Tryd.f5.params[j]? = some t → args[j]? = some v → Value.okWide Tryd.prog W .any base t v := hval0
  have hW' := hW
  obtain ⟨p, q, hA0, hV, rfl, _, _⟩ := hW
  have hA : DataW.TrodAll enc Tryd.prog W 0 (fun _ => true) true Tryd.f5.params.toList args.toList ds p := hA0
  rw [Tryd.params5] at hA hval
  obtain ⟨v0, v1, d0, d1, p0, p1, rfl, rfl, rfl, h0, h1⟩ := trodAll_two hA
  obtain ⟨rfl, rfl⟩ := trodVars_none hV
  obtain ⟨R0, M0, Q0, C0, F0, n0, c0, z0, rfl, hM0, hC0, hI0, hy0, hz0⟩ := open_case (hval 0 58 v0 rfl rfl) h0
  obtain ⟨s1, c1, i1, rfl, bs1, bc1, bi1⟩ := open_spot (hval 1 34 v1 rfl rfl) h1
  clear hA0 hval0
  simp only [List.append_nil] at hW'
  refine (common_walk R0 M0 Q0 C0 F0 n0 c0 z0 s1 c1 i1 W (fun a b c d => hM0.isM a b c d) (fun a b c => hC0.isC a b c) hI0).mono fun e W' ⟨he, hb⟩ => ?_
  subst he
  have hlt0 : ∀ x ∈ p0, x.block < W.heap.size := fun x hx => by simpa using hW'.lt x (by simp [hx])
  have hlt1 : ∀ x ∈ p1, x.block < W.heap.size := fun x hx => by simpa using hW'.lt x (by simp [hx])
  have hT := trodAll_mk2 (shut_case h0 hb hlt0) (shut_spot h1 hb hlt1)
  exact ⟨_, rfl, _, _, _, [], p0 ++ p1, [], hW', trodAll_mk1 (shut_bool Tryd.underlying4 true), hT, rfl, hb.frame _, fun h => by cases h⟩

theorem row_holds : Rows.SenseCommonSaid :=
  OpenClaim.holds_of_wide 5 Tryd.f5 rfl rfl rfl rfl rfl rfl rfl ⟨rfl, rfl, rfl, rfl, rfl⟩ rfl rfl rfl rfl rfl (by kernel_rfl) Tryd.func5 (by kernel_rfl)
    (of_decide_eq_true (by kernel_rfl)) (by unfold Func.isWrapper; rw [if_neg (of_decide_eq_false (by kernel_rfl))]; exact ⟨rfl, rfl⟩)
    (fun os started H enc _ => lifted os started H enc)

set_option maxRecDepth 100000 in
theorem holds : Rows.SenseCommonCardSaid :=
  Claim7.holds_tied_plain_at .later [] _ true _ false
    row_holds (fun _ h => by cases h) (by kernel_rfl) (fun _ h => by cases h) senseCommon_row_tie rfl ⟨rfl, rfl⟩ (by kernel_rfl) rfl
    (fun f fn hf hfn => by
      obtain rfl : 5 = f := Option.some.inj ((by kernel_rfl : _ = some 5).symm.trans hf)
      obtain rfl : fn = Tryd.f5 := (Option.some.inj (Tryd.func5.symm.trans hfn)).symm
      exact ⟨by kernel_rfl, fun j t ht => by
        rw [Tryd.params5] at ht
        rcases j with _ | _ | j
        · obtain rfl : 58 = t := by simpa using ht
          exact (show Tryd.prog.wantsStandIn 58 = false by kernel_rfl)
        · obtain rfl : 34 = t := by simpa using ht
          exact (show Tryd.prog.wantsStandIn 34 = false by kernel_rfl)
        · simp at ht⟩)
    (by kernel_rfl)
#print axioms holds

end Go.Proofs.YtfpjhobhmcfpnaaDoor.lawSenseCommon
end
