import Derived.Test.YthggkidiidnaoaaGreatDoorKAI
import Derived.Test.YthggkidiidnaoaaGreatDoorKAJ
import Derived.Test.YthggkidiidnaoaaGreatDoorKAL
import Derived.Test.YthggkidiidnaoaaGreatDoorKAM
import Derived.Test.YthggkidiidnaoaaGreatDoorKAR
import Derived.Test.YthggkidiidnaoaaGreatDoorKBM
import Derived.Deep.Slices
import Derived.Carry
import Derived.Test.YthggkidiidnaoaaGreatDoorRows
import Derived.KernelRfl
import Derived.Laws.StructEq
namespace Go.Proofs.YthggkidiidnaoaaGreatDoor
set_option linter.unusedVariables false
set_option linter.unusedSimpArgs false
section
set_option maxRecDepth 100000
open Go.ChangeShapes Go.WideShapes Go.ChangeAt Go.RowKit Go.Joins Go.Deep
section
variable {H : Type} {enc : TypeId × Value → H}
theorem open_isT {α : Type} {E : α → List Value} {n : Nat} (h0 : ∀ x, (E x).length = n) {t e : TypeId} {W : World} {b0 : Nat} {r : Reach} {v : Value} {d : DataW H} {p : List MemPlace}
  (ht : Tryz.prog.underlying t = some (.slice e)) (hc : Tryz.prog.cellsOf e = n) (hn : 0 < n)
  (dec : ∀ (fuel : Nat) (cs : List Value) (y : DataW H × List MemPlace), DataW.trod enc Tryz.prog W 0 (fun _ => true) true fuel e cs = some y → ∃ x : α, cs = E x)
  (hv : Value.okWide Tryz.prog W r b0 t v) (h : DataW.Trod enc Tryz.prog W 0 (fun _ => true) true t v d p) :
  ∃ (A : Option Addr) (len cap : Nat) (zs : List α), v = .slice A len cap ∧ IsT n E W A len zs ∧ len ≤ maxLen ∧ len ≤ cap ∧ cap ≤ maxLen := by
 obtain ⟨a, len, cap, rfl⟩ := okWide_slice ht hv
 obtain ⟨fuel, hf⟩ := h
 rcases open_slice ht hf with ⟨hcs, hx⟩ | ⟨a', len', cap', m, k, D, Pl, hcs, hb, hl, hm, hmm, hx, hi⟩
 ·have hcs : [Value.slice a len cap] = [Value.slice none 0 0] := hcs
  injection hcs with hcs _
  injection hcs with e1 e2 e3
  subst e1 e2 e3
  exact ⟨_, _, _, [], rfl, IsT.nil _ _ _ _, Nat.zero_le _, Nat.zero_le _, Nat.zero_le _⟩
 ·have hcs : [Value.slice a len cap] = [Value.slice (some a') len' cap'] := hcs
  injection hcs with hcs _
  injection hcs with e1 e2 e3
  subst e1 e2 e3
  simp only [if_true] at hmm
  subst hmm
  have each : ∀ i, i < len → ∃ x : α, ∀ j, j < n → W.cell? (a'.add (i * n + j)) = (E x)[j]? := fun i hil => by
   obtain ⟨cs', h1, h2⟩ := hi i (by omega)
   obtain ⟨x, rfl⟩ := dec _ _ _ h2
   rw [hc] at h1
   obtain ⟨_, _, hcell⟩ := World.cells?_some h1
   refine ⟨x, fun j hj => ?_⟩
   have := hcell j hj
   rwa [add_add] at this
  by_cases hz : len = 0
  ·subst hz
   exact ⟨_, _, _, [], rfl, IsT.nil _ _ _ _, Nat.zero_le _, Nat.zero_le _, hm⟩
  ·obtain ⟨x0, _⟩ := each 0 (by omega)
   haveI : Inhabited α := ⟨x0⟩
   obtain ⟨z, hz'⟩ := choose_lt each
   refine ⟨_, _, _, (List.range len).map z, rfl, ⟨by simp, fun _ => ?_⟩, Nat.le_trans hl hm, hl, hm⟩
   have c0 := hz' 0 (by omega) 0 hn
   obtain ⟨v0, hv0⟩ : ∃ v0, (E (z 0))[0]? = some v0 := ⟨_, List.getElem?_eq_getElem (by rw [h0]; exact hn)⟩
   rw [hv0] at c0
   have hlt := World.block_lt_of_cell? W _ c0
   have hsp := World.cell?_spot c0
   obtain ⟨b, off, spot⟩ := a'
   have hspot : spot = none := by simpa [Addr.add] using hsp
   subst hspot
   rw [block_add] at hlt
   refine ⟨b, off, rfl, hlt, fun j x hx i v hv => ?_⟩
   have hj : j < len := by
    have := (List.getElem?_eq_some_iff.1 hx).1
    simpa using this
   have hx' : x = z j := by
    rw [List.getElem?_map, List.getElem?_range hj] at hx
    simpa using hx.symm
   subst hx'
   have hin : i < n := by
    have := (List.getElem?_eq_some_iff.1 hv).1
    rwa [h0] at this
   have := hz' j hj i hin
   rw [add_plain, hv] at this
   rw [← this]
   congr 2
   omega
end
end
section
set_option maxRecDepth 100000
open Go.ChangeShapes Go.WideShapes Go.ChangeAt Go.RowKit Go.Joins Go.Deep
theorem cells_string : Tryz.prog.cellsOf 9 = 1 := by kernel_rfl
section
variable {H : Type} {enc : TypeId × Value → H}
theorem open_isTc {α : Type} {E : α → List Value} {n : Nat} (h0 : ∀ x, (E x).length = n) {t e : TypeId} {W : World} {fuel : Nat} {cs : List Value} {y : DataW H × List MemPlace}
  (ht : Tryz.prog.underlying t = some (.slice e)) (hc : Tryz.prog.cellsOf e = n) (hn : 0 < n)
  (dec : ∀ (fuel : Nat) (cs : List Value) (y : DataW H × List MemPlace), DataW.trod enc Tryz.prog W 0 (fun _ => true) true fuel e cs = some y → ∃ x : α, cs = E x)
  (hf : DataW.trod enc Tryz.prog W 0 (fun _ => true) true fuel t cs = some y) :
  ∃ (A : Option Addr) (len cap : Nat) (zs : List α), cs = [.slice A len cap] ∧ IsT n E W A len zs ∧ len ≤ cap ∧ cap ≤ maxLen := by
 rcases open_slice ht hf with ⟨hcs, hx⟩ | ⟨a', len, cap, m, k, D, Pl, hcs, hb, hl, hm, hmm, hx, hi⟩
 ·exact ⟨_, _, _, [], hcs, IsT.nil _ _ _ _, Nat.zero_le _, Nat.zero_le _⟩
 ·simp only [if_true] at hmm
  subst hmm
  subst hcs
  have each : ∀ i, i < len → ∃ x : α, ∀ j, j < n → W.cell? (a'.add (i * n + j)) = (E x)[j]? := fun i hil => by
   obtain ⟨cs', h1, h2⟩ := hi i (by omega)
   obtain ⟨x, rfl⟩ := dec _ _ _ h2
   rw [hc] at h1
   obtain ⟨_, _, hcell⟩ := World.cells?_some h1
   refine ⟨x, fun j hj => ?_⟩
   have := hcell j hj
   rwa [add_add] at this
  by_cases hz : len = 0
  ·subst hz
   exact ⟨_, _, _, [], rfl, IsT.nil _ _ _ _, Nat.zero_le _, hm⟩
  ·obtain ⟨x0, _⟩ := each 0 (by omega)
   haveI : Inhabited α := ⟨x0⟩
   obtain ⟨z, hz'⟩ := choose_lt each
   refine ⟨_, _, _, (List.range len).map z, rfl, ⟨by simp, fun _ => ?_⟩, hl, hm⟩
   have c0 := hz' 0 (by omega) 0 hn
   obtain ⟨v0, hv0⟩ : ∃ v0, (E (z 0))[0]? = some v0 := ⟨_, List.getElem?_eq_getElem (by rw [h0]; exact hn)⟩
   rw [hv0] at c0
   have hlt := World.block_lt_of_cell? W _ c0
   have hsp := World.cell?_spot c0
   obtain ⟨b, off, spot⟩ := a'
   have hspot : spot = none := by simpa [Addr.add] using hsp
   subst hspot
   rw [block_add] at hlt
   refine ⟨b, off, rfl, hlt, fun j x hx i v hv => ?_⟩
   have hj : j < len := by
    have := (List.getElem?_eq_some_iff.1 hx).1
    simpa using this
   have hx' : x = z j := by
    rw [List.getElem?_map, List.getElem?_range hj] at hx
    simpa using hx.symm
   subst hx'
   have hin : i < n := by
    have := (List.getElem?_eq_some_iff.1 hv).1
    rwa [h0] at this
   have := hz' j hj i hin
   rw [add_plain, hv] at this
   rw [← this]
   congr 2
   omega
theorem dec_Coil {W : World} {base : Nat} {spare : Nat → Bool} {held : Bool} (fuel : Nat) (cs : List Value) (y : DataW H × List MemPlace)
  (h : DataW.trod enc Tryz.prog W base spare held fuel 167 cs = some y) : ∃ x : CoilD, cs = x.cells := by
 obtain ⟨xs, n, -, -, hl, hlen, hf⟩ := DataW.trod_struct Tryz.underlying167 h
 rw [show Tryz.prog.cellsOf 167 = 8 by kernel_rfl] at hl
 match xs, hlen with
 | [y0, y1, y2, y3, y4, y5, y6, y7], _ =>
  match cs, hl with
  | [c0, c1, c2, c3, c4, c5, c6, c7], _ =>
   obtain ⟨a0, e0, -, -⟩ := DataW.trod_string Tryz.underlying9 ((hf 0 _ rfl).trans (rfl : _ = some y0))
   obtain ⟨a1, e1, -, -⟩ := DataW.trod_int Tryz.underlying3 ((hf 1 _ rfl).trans (rfl : _ = some y1))
   obtain ⟨a2, e2, -, -⟩ := DataW.trod_int Tryz.underlying3 ((hf 2 _ rfl).trans (rfl : _ = some y2))
   obtain ⟨a3, e3, -, -⟩ := DataW.trod_int Tryz.underlying3 ((hf 3 _ rfl).trans (rfl : _ = some y3))
   obtain ⟨a4, e4, -, -⟩ := DataW.trod_int Tryz.underlying3 ((hf 4 _ rfl).trans (rfl : _ = some y4))
   obtain ⟨a5, e5, -, -⟩ := DataW.trod_int Tryz.underlying3 ((hf 5 _ rfl).trans (rfl : _ = some y5))
   obtain ⟨a6, e6, -, -⟩ := DataW.trod_int Tryz.underlying3 ((hf 6 _ rfl).trans (rfl : _ = some y6))
   obtain ⟨a7, e7, -, -⟩ := DataW.trod_int Tryz.underlying3 ((hf 7 _ rfl).trans (rfl : _ = some y7))
   simp [cells_int, cells_string] at e0
   simp [cells_int, cells_string] at e1
   simp [cells_int, cells_string] at e2
   simp [cells_int, cells_string] at e3
   simp [cells_int, cells_string] at e4
   simp [cells_int, cells_string] at e5
   simp [cells_int, cells_string] at e6
   simp [cells_int, cells_string] at e7
   subst e0 e1 e2 e3 e4 e5 e6 e7
   exact ⟨⟨a0, a1, a2, a3, a4, a5, a6, a7⟩, rfl⟩
theorem dec_Shell {W : World} {base : Nat} {spare : Nat → Bool} {held : Bool} (fuel : Nat) (cs : List Value) (y : DataW H × List MemPlace)
  (h : DataW.trod enc Tryz.prog W base spare held fuel 171 cs = some y) : ∃ x : ShellD, cs = x.cells := by
 obtain ⟨xs, n, -, -, hl, hlen, hf⟩ := DataW.trod_struct Tryz.underlying171 h
 rw [show Tryz.prog.cellsOf 171 = 4 by kernel_rfl] at hl
 match xs, hlen with
 | [y0, y1, y2, y3], _ =>
  match cs, hl with
  | [c0, c1, c2, c3], _ =>
   obtain ⟨a0, e0, -, -⟩ := DataW.trod_int Tryz.underlying3 ((hf 0 _ rfl).trans (rfl : _ = some y0))
   obtain ⟨a1, e1, -, -⟩ := DataW.trod_int Tryz.underlying3 ((hf 1 _ rfl).trans (rfl : _ = some y1))
   obtain ⟨a2, e2, -, -⟩ := DataW.trod_int Tryz.underlying3 ((hf 2 _ rfl).trans (rfl : _ = some y2))
   obtain ⟨a3, e3, -, -⟩ := DataW.trod_int Tryz.underlying3 ((hf 3 _ rfl).trans (rfl : _ = some y3))
   simp [cells_int, cells_string] at e0
   simp [cells_int, cells_string] at e1
   simp [cells_int, cells_string] at e2
   simp [cells_int, cells_string] at e3
   subst e0 e1 e2 e3
   exact ⟨⟨a0, a1, a2, a3⟩, rfl⟩
theorem dec_Point {W : World} {base : Nat} {spare : Nat → Bool} {held : Bool} (fuel : Nat) (cs : List Value) (y : DataW H × List MemPlace)
  (h : DataW.trod enc Tryz.prog W base spare held fuel 76 cs = some y) : ∃ x : PointD, cs = x.cells := by
 obtain ⟨xs, n, -, -, hl, hlen, hf⟩ := DataW.trod_struct Tryz.underlying76 h
 rw [show Tryz.prog.cellsOf 76 = 2 by kernel_rfl] at hl
 match xs, hlen with
 | [y0, y1], _ =>
  match cs, hl with
  | [c0, c1], _ =>
   obtain ⟨a0, e0, -, -⟩ := DataW.trod_int Tryz.underlying3 ((hf 0 _ rfl).trans (rfl : _ = some y0))
   obtain ⟨a1, e1, -, -⟩ := DataW.trod_int Tryz.underlying3 ((hf 1 _ rfl).trans (rfl : _ = some y1))
   simp [cells_int, cells_string] at e0
   simp [cells_int, cells_string] at e1
   subst e0 e1
   exact ⟨⟨a0, a1⟩, rfl⟩
theorem dec_Sensor {W : World} {base : Nat} {spare : Nat → Bool} {held : Bool} (fuel : Nat) (cs : List Value) (y : DataW H × List MemPlace)
  (h : DataW.trod enc Tryz.prog W base spare held fuel 78 cs = some y) : ∃ x : SensorD, cs = x.cells := by
 obtain ⟨xs, n, -, -, hl, hlen, hf⟩ := DataW.trod_struct Tryz.underlying78 h
 rw [show Tryz.prog.cellsOf 78 = 5 by kernel_rfl] at hl
 match xs, hlen with
 | [y0, y1, y2, y3, y4], _ =>
  match cs, hl with
  | [c0, c1, c2, c3, c4], _ =>
   obtain ⟨a0, e0, -, -⟩ := DataW.trod_string Tryz.underlying9 ((hf 0 _ rfl).trans (rfl : _ = some y0))
   obtain ⟨a1, e1, -, -⟩ := DataW.trod_int Tryz.underlying3 ((hf 1 _ rfl).trans (rfl : _ = some y1))
   obtain ⟨a2, e2, -, -⟩ := DataW.trod_int Tryz.underlying3 ((hf 2 _ rfl).trans (rfl : _ = some y2))
   obtain ⟨a3, e3, -, -⟩ := DataW.trod_int Tryz.underlying3 ((hf 3 _ rfl).trans (rfl : _ = some y3))
   obtain ⟨a4, e4, -, -⟩ := DataW.trod_int Tryz.underlying3 ((hf 4 _ rfl).trans (rfl : _ = some y4))
   simp [cells_int, cells_string] at e0
   simp [cells_int, cells_string] at e1
   simp [cells_int, cells_string] at e2
   simp [cells_int, cells_string] at e3
   simp [cells_int, cells_string] at e4
   subst e0 e1 e2 e3 e4
   exact ⟨⟨a0, a1, a2, a3, a4⟩, rfl⟩
theorem dec_Span {W : World} {base : Nat} {spare : Nat → Bool} {held : Bool} (fuel : Nat) (cs : List Value) (y : DataW H × List MemPlace)
  (h : DataW.trod enc Tryz.prog W base spare held fuel 67 cs = some y) : ∃ x : SpanD, cs = x.cells := by
 obtain ⟨xs, n, -, -, hl, hlen, hf⟩ := DataW.trod_struct Tryz.underlying67 h
 rw [show Tryz.prog.cellsOf 67 = 2 by kernel_rfl] at hl
 match xs, hlen with
 | [y0, y1], _ =>
  match cs, hl with
  | [c0, c1], _ =>
   obtain ⟨a0, e0, -, -⟩ := DataW.trod_int Tryz.underlying3 ((hf 0 _ rfl).trans (rfl : _ = some y0))
   obtain ⟨a1, e1, -, -⟩ := DataW.trod_int Tryz.underlying3 ((hf 1 _ rfl).trans (rfl : _ = some y1))
   simp [cells_int, cells_string] at e0
   simp [cells_int, cells_string] at e1
   subst e0 e1
   exact ⟨⟨a0, a1⟩, rfl⟩
structure OpM (w : World) (R : MachR) (M : MachD) : Prop where
 coils : IsT 8 CoilD.cells w R.A R.la M.coils
 shells : IsT 4 ShellD.cells w R.B R.lb M.shells
 limits : IsT 2 PointD.cells w R.C R.lc M.limits
 sensors : IsT 5 SensorD.cells w R.D R.ld M.sensors
 la : R.la ≤ R.ca
 lb : R.lb ≤ R.cb
 lc : R.lc ≤ R.cc
 ld : R.ld ≤ R.cd
 ca : R.ca ≤ 9223372036854775807
 cb : R.cb ≤ 9223372036854775807
 cc : R.cc ≤ 9223372036854775807
 cd : R.cd ≤ 9223372036854775807
theorem OpM.isM {w : World} {R : MachR} {M : MachD} (h : OpM w R M) (ka : R.la ≤ 1000000000000000) (kb : R.lb ≤ 1000000000000000) (kc : R.lc ≤ 1000000000000000) (kd : R.ld ≤ 1000000000000000) : IsM w R M :=
 ⟨h.coils, h.shells, h.limits, h.sensors, h.la, h.lb, h.lc, h.ld, h.ca, h.cb, h.cc, h.cd, ka, kb, kc, kd⟩
end
end
section
set_option maxRecDepth 100000
open Go.ChangeShapes Go.WideShapes Go.ChangeAt Go.RowKit Go.Joins Go.Deep
section
variable {H : Type} {enc : TypeId × Value → H}
theorem dec_intI {W : World} {base : Nat} {spare : Nat → Bool} {held : Bool} (fuel : Nat) (cs : List Value) (y : DataW H × List MemPlace)
  (h : DataW.trod enc Tryz.prog W base spare held fuel 3 cs = some y) : ∃ x : Int, cs = intCells x := by
 obtain ⟨a, e, _, _⟩ := DataW.trod_int Tryz.underlying3 h
 exact ⟨a, e⟩
structure OpC (w : World) (Q : CurR) (C : CurD) : Prop where
 coils : IsT 1 intCells w Q.A Q.la C.coils
 shells : IsT 1 intCells w Q.B Q.lb C.shells
 plasma : IsT 1 intCells w Q.C Q.lc C.plasma
 la : Q.la ≤ Q.ca
 lb : Q.lb ≤ Q.cb
 lc : Q.lc ≤ Q.cc
 ca : Q.ca ≤ 9223372036854775807
 cb : Q.cb ≤ 9223372036854775807
 cc : Q.cc ≤ 9223372036854775807
theorem OpC.isC {w : World} {Q : CurR} {C : CurD} (h : OpC w Q C) (ka : Q.la ≤ 1000000000000000) (kb : Q.lb ≤ 1000000000000000) (kc : Q.lc ≤ 1000000000000000) : IsC w Q C :=
 ⟨h.coils, h.shells, h.plasma, h.la, h.lb, h.lc, h.ca, h.cb, h.cc, ka, kb, kc⟩
end
end
section
set_option maxRecDepth 100000
open Go.ChangeShapes Go.WideShapes Go.ChangeAt Go.RowKit Go.Joins Go.Deep
section
variable {H : Type} {enc : TypeId × Value → H}
theorem open_machineC {W : World} {fuel : Nat} {cs : List Value} {y : DataW H × List MemPlace} (hf0 : DataW.trod enc Tryz.prog W 0 (fun _ => true) true fuel 29 cs = some y) : ∃ (R : MachR) (M : MachD), cs = (machCells R M).toList ∧ OpM W R M := by
 obtain ⟨d, p⟩ := y
 have hf1 := hf0
 obtain ⟨xs, n, -, -, hl, hlen, hf⟩ := DataW.trod_struct Tryz.underlying29 hf1
 rw [show Tryz.prog.cellsOf 29 = 10 by kernel_rfl] at hl
 match xs, hlen with
 | [y0, y1, y2, y3, y4, y5], _ =>
  match cs, hl with
  | [c0, c1, c2, c3, c4, c5, c6, c7, c8, c9], _ =>
   obtain ⟨name, e0, -, -⟩ := DataW.trod_string Tryz.underlying9 ((hf 0 _ rfl).trans (rfl : _ = some y0))
   obtain ⟨A, la, ca, coils, e1, h1, k1, m1⟩ := open_isTc (n := 8) (E := CoilD.cells) (fun _ => rfl) Tryz.underlying22 (by kernel_rfl) (by decide) dec_Coil ((hf 1 _ rfl).trans (rfl : _ = some y1))
   obtain ⟨B, lb, cb, shells, e2, h2, k2, m2⟩ := open_isTc (n := 4) (E := ShellD.cells) (fun _ => rfl) Tryz.underlying23 (by kernel_rfl) (by decide) dec_Shell ((hf 2 _ rfl).trans (rfl : _ = some y2))
   obtain ⟨C, lc, cc, limits, e3, h3, k3, m3⟩ := open_isTc (n := 2) (E := PointD.cells) (fun _ => rfl) Tryz.underlying24 (by kernel_rfl) (by decide) dec_Point ((hf 3 _ rfl).trans (rfl : _ = some y3))
   obtain ⟨D, ld, cd, sensors, e5, h5, k5, m5⟩ := open_isTc (n := 5) (E := SensorD.cells) (fun _ => rfl) Tryz.underlying27 (by kernel_rfl) (by decide) dec_Sensor ((hf 5 _ rfl).trans (rfl : _ = some y5))
   obtain ⟨gs, gn, -, -, gl, glen, gf⟩ := DataW.trod_struct Tryz.underlying26 ((hf 4 _ rfl).trans (rfl : _ = some y4))
   match gs, glen with
   | [z0, z1, z2, z3, z4], _ =>
    obtain ⟨a0, f0, -, -⟩ := DataW.trod_int Tryz.underlying3 ((gf 0 _ rfl).trans (rfl : _ = some z0))
    obtain ⟨a1, f1, -, -⟩ := DataW.trod_int Tryz.underlying3 ((gf 1 _ rfl).trans (rfl : _ = some z1))
    obtain ⟨a2, f2, -, -⟩ := DataW.trod_int Tryz.underlying3 ((gf 2 _ rfl).trans (rfl : _ = some z2))
    obtain ⟨a3, f3, -, -⟩ := DataW.trod_int Tryz.underlying3 ((gf 3 _ rfl).trans (rfl : _ = some z3))
    obtain ⟨a4, f4, -, -⟩ := DataW.trod_int Tryz.underlying3 ((gf 4 _ rfl).trans (rfl : _ = some z4))
    have cg : Tryz.prog.cellsOf 26 = 5 := by kernel_rfl
    have cs1 : Tryz.prog.cellsOf 22 = 1 := by kernel_rfl
    have cs2 : Tryz.prog.cellsOf 23 = 1 := by kernel_rfl
    have cs3 : Tryz.prog.cellsOf 24 = 1 := by kernel_rfl
    have cs5 : Tryz.prog.cellsOf 27 = 1 := by kernel_rfl
    simp [cells_int, cells_string, cg, cs1, cs2, cs3, cs5] at e0 e1 e2 e3 e5 f0 f1 f2 f3 f4
    subst e0 e1 e2 e3 e5 f0 f1 f2 f3 f4
    unfold maxLen at m1 m2 m3 m5
    exact ⟨⟨A, B, C, D, la, ca, lb, cb, lc, cc, ld, cd⟩, ⟨name, coils, shells, limits, ⟨a0, a1, a2, a3, a4⟩, sensors⟩, rfl, h1, h2, h3, h5, k1, k2, k3, k5, m1, m2, m3, m5⟩
theorem open_currentsC {W : World} {fuel : Nat} {cs : List Value} {y : DataW H × List MemPlace} (hf0 : DataW.trod enc Tryz.prog W 0 (fun _ => true) true fuel 32 cs = some y) : ∃ (Q : CurR) (C : CurD), cs = [.slice Q.A Q.la Q.ca, .slice Q.B Q.lb Q.cb, .slice Q.C Q.lc Q.cc] ∧ OpC W Q C := by
 obtain ⟨d, p⟩ := y
 have hf1 := hf0
 obtain ⟨xs, n, -, -, hl, hlen, hf⟩ := DataW.trod_struct Tryz.underlying32 hf1
 rw [show Tryz.prog.cellsOf 32 = 3 by kernel_rfl] at hl
 match xs, hlen with
 | [y0, y1, y2], _ =>
  match cs, hl with
  | [c0, c1, c2], _ =>
   obtain ⟨A, la, ca, z1, e0, h0, k0, m0⟩ := open_isTc (n := 1) (E := intCells) (fun _ => rfl) Tryz.underlying30 (by kernel_rfl) (by decide) dec_intI ((hf 0 _ rfl).trans (rfl : _ = some y0))
   obtain ⟨B, lb, cb, z2, e1, h1, k1, m1⟩ := open_isTc (n := 1) (E := intCells) (fun _ => rfl) Tryz.underlying30 (by kernel_rfl) (by decide) dec_intI ((hf 1 _ rfl).trans (rfl : _ = some y1))
   obtain ⟨C, lc, cc, z3, e2, h2, k2, m2⟩ := open_isTc (n := 1) (E := intCells) (fun _ => rfl) Tryz.underlying30 (by kernel_rfl) (by decide) dec_intI ((hf 2 _ rfl).trans (rfl : _ = some y2))
   have cs1 : Tryz.prog.cellsOf 30 = 1 := by kernel_rfl
   simp [cs1] at e0 e1 e2
   subst e0 e1 e2
   unfold maxLen at m0 m1 m2
   exact ⟨⟨A, B, C, la, ca, lb, cb, lc, cc⟩, ⟨z1, z2, z3⟩, rfl, h0, h1, h2, k0, k1, k2, m0, m1, m2⟩
theorem open_case {W : World} {b0 : Nat} {r : Reach} {v : Value} {d : DataW H} {p : List MemPlace}
  (hv : Value.okWide Tryz.prog W r b0 35 v) (h : DataW.Trod enc Tryz.prog W 0 (fun _ => true) true 35 v d p) :
  ∃ (R : MachR) (M : MachD) (Q : CurR) (C : CurD) (F : Option Addr) (nf cf : Nat) (zs : List SpanD), v = .agg (machCells R M ++ #[.slice Q.A Q.la Q.ca, .slice Q.B Q.lb Q.cb, .slice Q.C Q.lc Q.cc, .slice F nf cf]) ∧ OpM W R M ∧ OpC W Q C ∧ IsT 2 SpanD.cells W F nf zs ∧ nf ≤ cf ∧ cf ≤ maxLen := by
 obtain ⟨⟨cs⟩, rfl, hsz⟩ := okWide_struct Tryz.underlying35 hv
 obtain ⟨fuel, hf0⟩ := h
 have hf1 : DataW.trod enc Tryz.prog W 0 (fun _ => true) true fuel 35 cs = some (d, p) := hf0
 obtain ⟨xs, n, -, -, hl, hlen, hf⟩ := DataW.trod_struct Tryz.underlying35 hf1
 rw [show Tryz.prog.cellsOf 35 = 14 by kernel_rfl] at hl
 match xs, hlen with
 | [y0, y1, y2], _ =>
  match cs, hl with
  | [c0, c1, c2, c3, c4, c5, c6, c7, c8, c9, c10, c11, c12, c13], _ =>
   obtain ⟨R, M, e0, h0⟩ := open_machineC ((hf 0 _ rfl).trans (rfl : _ = some y0))
   obtain ⟨Q, C, e1, h1⟩ := open_currentsC ((hf 1 _ rfl).trans (rfl : _ = some y1))
   obtain ⟨F, nf, cf, zs, e2, h2, k2, m2⟩ := open_isTc (n := 2) (E := SpanD.cells) (fun _ => rfl) Tryz.underlying33 (by kernel_rfl) (by decide) dec_Span ((hf 2 _ rfl).trans (rfl : _ = some y2))
   have cm : Tryz.prog.cellsOf 29 = 10 := by kernel_rfl
   have cc : Tryz.prog.cellsOf 32 = 3 := by kernel_rfl
   have cr : Tryz.prog.cellsOf 33 = 1 := by kernel_rfl
   simp [cm, cc, cr, machCells] at e0 e1 e2
   obtain ⟨rfl, rfl, rfl, rfl, rfl, rfl, rfl, rfl, rfl, rfl⟩ := e0
   obtain ⟨rfl, rfl, rfl⟩ := e1
   subst e2
   exact ⟨R, M, Q, C, F, nf, cf, zs, rfl, h0, h1, h2, k2, m2⟩
theorem shut_case {W W' : World} {v : Value} {d : DataW H} {p : List MemPlace} (h : DataW.Trod enc Tryz.prog W 0 (fun _ => true) true 35 v d p) (hb : Below W.heap.size W W') (hlt : ∀ x ∈ p, x.block < W.heap.size) :
  DataW.Trod enc Tryz.prog W' 0 (fun b => decide (b < W.heap.size)) true 35 v d p :=
 Below.trod (by kernel_rfl) (by kernel_rfl) (of_decide_eq_true (by kernel_rfl)) h hb hlt
end
end
section
abbrev Bst := Int × Int × Int
def accC (cnt : Int → Int) (i : Int) (s : Bst) (x : Int) : Bst := if s.1 < cnt x then (cnt x, i, x) else s
def accS (cnt : Int → Int) (i : Int) (s : Bst) (x : Int) : Bst := if s.1 < cnt x ∨ (cnt x = s.1 ∧ s.2.1 = i ∧ x < s.2.2) then (cnt x, i, x) else s
def AccR (cnt : Int → Int) (i : Int) (s0 : Bst) (l : List Int) (s : Bst) : Prop :=
 ((∀ x ∈ l, cnt x ≤ s0.1) ∧ s = s0) ∨ ∃ X ∈ l, s = (cnt X, i, X) ∧ s0.1 < cnt X ∧ ∀ y ∈ l, cnt y < cnt X ∨ (cnt y = cnt X ∧ X ≤ y)
theorem AccR.mem {cnt : Int → Int} {i : Int} {s0 s : Bst} {l l' : List Int} (h : AccR cnt i s0 l s) (hm : ∀ x, x ∈ l ↔ x ∈ l') : AccR cnt i s0 l' s := by
 rcases h with ⟨h1, h2⟩ | ⟨X, hX, h1, h2, h3⟩
 ·exact Or.inl ⟨fun x hx => h1 x ((hm x).2 hx), h2⟩
 ·exact Or.inr ⟨X, (hm X).1 hX, h1, h2, fun y hy => h3 y ((hm y).2 hy)⟩
theorem AccR.uniq {cnt : Int → Int} {i : Int} {s0 s s' : Bst} {l : List Int} (h : AccR cnt i s0 l s) (h' : AccR cnt i s0 l s') : s = s' := by
 rcases h with ⟨h1, h2⟩ | ⟨X, hX, h1, h2, h3⟩
 ·rcases h' with ⟨-, g2⟩ | ⟨Y, hY, g1, g2, g3⟩
  ·rw [h2, g2]
  ·have := h1 Y hY; omega
 ·rcases h' with ⟨g1, -⟩ | ⟨Y, hY, g1, g2, g3⟩
  ·have := g1 X hX; omega
  ·have a := h3 Y hY
   have b := g3 X hX
   obtain rfl : X = Y := by omega
   rw [h1, g1]
theorem accS_all (cnt : Int → Int) (i : Int) (s0 : Bst) (h0 : s0.2.1 = i → s0.1 < 0) (hc : ∀ x, 0 ≤ cnt x) : ∀ (p l : List Int) (s : Bst), AccR cnt i s0 p s → AccR cnt i s0 (p ++ l) (l.foldl (accS cnt i) s)
 | p, [], s, h => by simpa using h
 | p, x :: l, s, h => by
  have step : AccR cnt i s0 (p ++ [x]) (accS cnt i s x) := by
   unfold accS
   rcases h with ⟨h1, h2⟩ | ⟨X, hX, h1, h2, h3⟩
   ·subst h2
    by_cases g : s.1 < cnt x
    ·rw [if_pos (Or.inl g)]
     refine Or.inr ⟨x, by simp, rfl, g, fun y hy => ?_⟩
     rcases List.mem_append.1 hy with e | e
     ·have := h1 y e; exact Or.inl (by omega)
     ·rw [List.mem_singleton.1 e]; exact Or.inr ⟨rfl, Int.le_refl _⟩
    ·rw [if_neg (fun e => by
      rcases e with e | ⟨e1, e2, e3⟩
      ·exact g e
      ·have := h0 e2; have := hc x; omega)]
     refine Or.inl ⟨fun y hy => ?_, rfl⟩
     rcases List.mem_append.1 hy with e | e
     ·exact h1 y e
     ·rw [List.mem_singleton.1 e]; omega
   ·subst h1
    simp only
    by_cases g : cnt X < cnt x ∨ (cnt x = cnt X ∧ x < X)
    ·rw [if_pos (g.elim (fun e => Or.inl e) (fun e => Or.inr ⟨e.1, trivial, e.2⟩))]
     refine Or.inr ⟨x, by simp, rfl, by omega, fun y hy => ?_⟩
     rcases List.mem_append.1 hy with e | e
     ·have := h3 y e; omega
     ·rw [List.mem_singleton.1 e]; exact Or.inr ⟨rfl, Int.le_refl _⟩
    ·rw [if_neg (fun e => by
      rcases e with e | ⟨e1, -, e3⟩
      ·exact g (Or.inl e)
      ·exact g (Or.inr ⟨e1, e3⟩))]
     refine Or.inr ⟨X, by simp [hX], rfl, h2, fun y hy => ?_⟩
     rcases List.mem_append.1 hy with e | e
     ·exact h3 y e
     ·rw [List.mem_singleton.1 e]; omega
  have := accS_all cnt i s0 h0 hc (p ++ [x]) l _ step
  rw [List.append_assoc] at this
  exact this
theorem accC_all (cnt : Int → Int) (i : Int) (s0 : Bst) : ∀ (p l : List Int) (s : Bst), (p ++ l).Pairwise (fun x y => x ≤ y) → AccR cnt i s0 p s → AccR cnt i s0 (p ++ l) (l.foldl (accC cnt i) s)
 | p, [], s, _, h => by simpa using h
 | p, x :: l, s, hp, h => by
  have hpx : ∀ y ∈ p, y ≤ x := fun y hy => (List.pairwise_append.1 hp).2.2 y hy x (by simp)
  have step : AccR cnt i s0 (p ++ [x]) (accC cnt i s x) := by
   unfold accC
   rcases h with ⟨h1, h2⟩ | ⟨X, hX, h1, h2, h3⟩
   ·subst h2
    by_cases g : s.1 < cnt x
    ·rw [if_pos g]
     refine Or.inr ⟨x, by simp, rfl, g, fun y hy => ?_⟩
     rcases List.mem_append.1 hy with e | e
     ·have := h1 y e; exact Or.inl (by omega)
     ·rw [List.mem_singleton.1 e]; exact Or.inr ⟨rfl, Int.le_refl _⟩
    ·rw [if_neg g]
     refine Or.inl ⟨fun y hy => ?_, rfl⟩
     rcases List.mem_append.1 hy with e | e
     ·exact h1 y e
     ·rw [List.mem_singleton.1 e]; omega
   ·subst h1
    simp only
    have hXx := hpx X hX
    by_cases g : cnt X < cnt x
    ·rw [if_pos g]
     refine Or.inr ⟨x, by simp, rfl, by omega, fun y hy => ?_⟩
     rcases List.mem_append.1 hy with e | e
     ·have := h3 y e; omega
     ·rw [List.mem_singleton.1 e]; exact Or.inr ⟨rfl, Int.le_refl _⟩
    ·rw [if_neg g]
     refine Or.inr ⟨X, by simp [hX], rfl, h2, fun y hy => ?_⟩
     rcases List.mem_append.1 hy with e | e
     ·exact h3 y e
     ·rw [List.mem_singleton.1 e]; omega
  have := accC_all cnt i s0 (p ++ [x]) l _ (by rw [List.append_assoc]; exact hp) step
  rw [List.append_assoc] at this
  exact this
theorem acc_cell (cnt : Int → Int) (i : Int) (s0 : Bst) (h0 : s0.2.1 = i → s0.1 < 0) (hc : ∀ x, 0 ≤ cnt x) (l : List Int) : (sortI l).foldl (accC cnt i) s0 = l.foldl (accS cnt i) s0 := by
 have hp : (sortI l).Perm l := List.mergeSort_perm _ _
 have hs : (sortI l).Pairwise (fun x y => x ≤ y) := by
  have := List.pairwise_mergeSort (le := fun (x y : Int) => decide (x ≤ y)) (fun a b c h1 h2 => by simp at *; omega) (fun a b => by simp; omega) l
  exact this.imp fun h => by simpa using h
 have a := accC_all cnt i s0 [] (sortI l) s0 (by simpa using hs) (Or.inl ⟨fun x hx => (by cases hx), rfl⟩)
 have b := accS_all cnt i s0 h0 hc [] l s0 (Or.inl ⟨fun x hx => (by cases hx), rfl⟩)
 rw [List.nil_append] at a b
 exact (a.mem fun x => hp.mem_iff).uniq b
def accU (cnt : Int → Int → Int) (tries : Int → List Int) : Nat → Bst
 | 0 => (-1, 0, 0)
 | k + 1 => (tries (k : Int)).foldl (accS (cnt (k : Int)) (k : Int)) (accU cnt tries k)
theorem accU_lt (cnt : Int → Int → Int) (tries : Int → List Int) (hc : ∀ i x, 0 ≤ cnt i x) : ∀ k : Nat, (accU cnt tries k).1 < 0 ∧ accU cnt tries k = (-1, 0, 0) ∨ (accU cnt tries k).2.1 < (k : Int)
 | 0 => Or.inl ⟨by show (-1 : Int) < 0; omega, rfl⟩
 | k + 1 => by
  have ih := accU_lt cnt tries hc k
  have h0 : (accU cnt tries k).2.1 = (k : Int) → (accU cnt tries k).1 < 0 := fun e => by
   rcases ih with ⟨h, -⟩ | h
   ·exact h
   ·omega
  have b := accS_all (cnt (k : Int)) (k : Int) (accU cnt tries k) h0 (hc _) [] (tries (k : Int)) _ (Or.inl ⟨fun x hx => (by cases hx), rfl⟩)
  rw [List.nil_append] at b
  change AccR _ _ _ _ (accU cnt tries (k + 1)) at b
  rcases b with ⟨-, e⟩ | ⟨X, -, e, -, -⟩
  ·rw [e]
   rcases ih with h | h
   ·exact Or.inl h
   ·exact Or.inr (by omega)
  ·rw [e]; exact Or.inr (by simp only; omega)
theorem accU_code (cnt : Int → Int → Int) (tries : Int → List Int) (hc : ∀ i x, 0 ≤ cnt i x) (k : Nat) : (sortI (tries (k : Int))).foldl (accC (cnt (k : Int)) (k : Int)) (accU cnt tries k) = accU cnt tries (k + 1) :=
 acc_cell _ _ _ (fun e => by
  rcases accU_lt cnt tries hc k with ⟨h, -⟩ | h
  ·exact h
  ·omega) (hc _) _
end
section
set_option autoImplicit false
open Go.RowKit
section
variable {P : Program} {e0 : Cfg} {U : Snaps} {l : Slots} {L : Boxes} {ops : Array Oper} {Q : Exit → Act → World → Prop} {rest : List Oper} {d : Nat} {ty : TypeId} {pos : String} {af : Array Edge} {g : Option (Nat × Bool)}
theorem al_mapUpdate {t kt vt r i k : Nat} {kd : TypeDesc} {es : List MapEntry} {kv vv : Value} {om ok ov : Operand} (hm : E l om = some (.map (some r))) (hk : E l ok = some kv) (hv : E l ov = some vv) (hi : L[i]? = some (r, .map es k))
  (hu : P.underlying t = some (.map kt vt)) (hku : P.underlying kt = some kd) (hp : plainKey kv = true) (hd : plainKind kd = true) (hf : Instr.findNow kd kv es 0 = some none)
  {L' : Boxes} (hL : SetAt i (r, .map (es ++ [⟨kv, vv, k⟩]) (k + 1)) L L') (hw : want ops l g = some true) (kk : AL P ops Q e0 U l L' rest) :
  AL P ops Q e0 U l L (⟨none, .mapUpdate t om ok ov, ty, pos, af, g⟩ :: rest) := by
 intro a w hfr hs
 unfold wpList
 rw [if_pos (want_ok hfr hw)]
 refine Or.inl ?_
 unfold Oper.wp
 have hmap := hs.map hi
 have hlt : r < w.heap.size := (hs.box i r _ hi).2.lt
 have hck := run_checkKey (P := P) (n := 9999) (b := false) hku hp hd w
 have hrun : (execOp a.eval ⟨none, .mapUpdate t om ok ov, ty, pos, af, g⟩).run P w = .ok .skip { w with heap := w.heap.setIfInBounds r (.map (es ++ [({ key := kv, val := vv, born := k } : MapEntry)]).toArray (k + 1)) } := by
  simp [execOp, Instr.mapUpdate, hfr.ev hm, hfr.ev hk, hfr.ev hv, run_underlying hu, getObj, setObj, Sem.run, hmap, hck, Instr.findKey, run_underlying hku, hf]
 rw [hrun]
 show wpList P ops Q rest (a.put none undef) _
 rw [hL.eq] at kk
 refine kk a _ hfr (hs.change hi ⟨rfl, rfl, rfl, by simp, fun m _ hm => ?_⟩ ⟨by simpa using hlt, fun ds hd => (by cases hd), fun fs m hc => ?_⟩)
 ·have : r ≠ m := fun e => hm (by simp [e])
  simp [Array.getElem?_setIfInBounds, this]
 ·cases hc
  simp [Array.getElem?_setIfInBounds, hlt]
theorem al_delete0 {t kt vt r i k j : Nat} {kd : TypeDesc} {es : List MapEntry} {kv v : Value} {om ok : Operand} (hm : E l om = some (.map (some r))) (hk : E l ok = some kv) (hi : L[i]? = some (r, .map es k))
  (hu : P.underlying t = some (.map kt vt)) (hku : P.underlying kt = some kd) (hp : plainKey kv = true) (hd : plainKind kd = true) (hf : Instr.findNow kd kv es 0 = some (some (j, v))) (hj : j < es.length)
  {ts : Array TypeId} (hts : ts[0]? = some t) {L' : Boxes} (hL : SetAt i (r, .map (es.eraseIdx j) k) L L') (hw : want ops l g = some true) (kk : AL P ops Q e0 U l L' rest) :
  AL P ops Q e0 U l L (⟨none, .call { callee := .builtin .delete, args := #[om, ok], argTypes := ts }, ty, pos, af, g⟩ :: rest) := by
 intro a w hfr hs
 unfold wpList
 rw [if_pos (want_ok hfr hw)]
 refine Or.inl ?_
 unfold Oper.wp
 have hmap := hs.map hi
 have hlt : r < w.heap.size := (hs.box i r _ hi).2.lt
 have hck := fun b => run_checkKey (P := P) (n := 9999) (b := b) hku hp hd w
 have hrun : (execOp a.eval ⟨none, .call { callee := .builtin .delete, args := #[om, ok], argTypes := ts }, ty, pos, af, g⟩).run P w = .ok (.value (.tuple #[])) { w with heap := w.heap.setIfInBounds r (.map (es.eraseIdx j).toArray k) } := by
  simp [execOp, resolve, invoke, builtin, Builtin.delete_, hfr.ev hm, hfr.ev hk, hts, run_underlying hu, getObj, setObj, Sem.run, hmap, hck, Instr.findKey, run_underlying hku, hf, Array.eraseIdxIfInBounds, hj]
 rw [hrun]
 show wpList P ops Q rest (a.put none (.tuple #[])) _
 rw [hL.eq] at kk
 refine kk a _ hfr (hs.change hi ⟨rfl, rfl, rfl, by simp, fun m _ hm => ?_⟩ ⟨by simpa using hlt, fun ds hd => (by cases hd), fun fs m hc => ?_⟩)
 ·have : r ≠ m := fun e => hm (by simp [e])
  simp [Array.getElem?_setIfInBounds, this]
 ·cases hc
  simp [Array.getElem?_setIfInBounds, hlt]
end
def entK (ks : List Nat) : List MapEntry := ks.map fun (j : Nat) => ⟨.int .i64 (j : Int), .bool true, j⟩
theorem find_no {x : Nat} : ∀ (ks : List Nat) (i : Nat), x ∉ ks → Instr.findNow (.int .i64) (.int .i64 (x : Int)) (entK ks) i = some none
 | [], i, _ => rfl
 | y :: ks, i, h => by
  have hne : ¬ x = y := fun e => h (by simp [e])
  show (match Instr.sameNow (.int .i64) (.int .i64 (x : Int)) (.int .i64 (y : Int)) with
   | some true => _ | some false => Instr.findNow _ _ (entK ks) (i + 1) | none => none) = _
  have : Instr.sameNow (.int .i64) (.int .i64 (x : Int)) (.int .i64 (y : Int)) = some false := by simp [Instr.sameNow]; omega
  rw [this]
  exact find_no ks (i + 1) fun hm => h (by simp [hm])
theorem find_yes {x : Nat} : ∀ (ks : List Nat) (i : Nat), x ∈ ks → ∃ j, Instr.findNow (.int .i64) (.int .i64 (x : Int)) (entK ks) i = some (some (i + j, .bool true)) ∧ ks[j]? = some x
 | [], i, h => by cases h
 | y :: ks, i, h => by
  by_cases hne : x = y
  ·subst hne
   refine ⟨0, ?_, rfl⟩
   show (match Instr.sameNow (.int .i64) (.int .i64 (x : Int)) (.int .i64 (x : Int)) with
    | some true => _ | some false => _ | none => none) = _
   have : Instr.sameNow (.int .i64) (.int .i64 (x : Int)) (.int .i64 (x : Int)) = some true := by simp [Instr.sameNow]
   rw [this]; rfl
  ·obtain ⟨j, h1, h2⟩ := find_yes ks (i + 1) (by simpa [hne] using h)
   refine ⟨j + 1, ?_, by simpa using h2⟩
   show (match Instr.sameNow (.int .i64) (.int .i64 (x : Int)) (.int .i64 (y : Int)) with
    | some true => _ | some false => Instr.findNow _ _ (entK ks) (i + 1) | none => none) = _
   have : Instr.sameNow (.int .i64) (.int .i64 (x : Int)) (.int .i64 (y : Int)) = some false := by simp [Instr.sameNow]; omega
   rw [this]
   show Instr.findNow _ _ (entK ks) (i + 1) = _
   rw [h1, show i + 1 + j = i + (j + 1) from by omega]
theorem entK_erase : ∀ (ks : List Nat) (j : Nat), (entK ks).eraseIdx j = entK (ks.eraseIdx j)
 | [], j => rfl
 | y :: ks, 0 => rfl
 | y :: ks, j + 1 => by
  have := entK_erase ks j
  unfold entK at this ⊢
  rw [List.map_cons, List.eraseIdx_cons_succ, List.eraseIdx_cons_succ, List.map_cons, this]
theorem erase_filter {x : Nat} : ∀ {ks : List Nat} {j : Nat}, ks.Nodup → ks[j]? = some x → ks.eraseIdx j = ks.filter (fun y => !(y == x))
 | [], j, _, h => by cases h
 | y :: ks, 0, hn, h => by
  obtain rfl : y = x := by simpa using h
  have := (List.nodup_cons.1 hn).1
  rw [List.eraseIdx_cons_zero, List.filter_cons]
  simp only [beq_self_eq_true, Bool.not_true, Bool.false_eq_true, if_false]
  exact (List.filter_eq_self.2 fun z hz => by simp; exact fun e => this (e ▸ hz)).symm
 | y :: ks, j + 1, hn, h => by
  have h' : ks[j]? = some x := by simpa using h
  obtain ⟨h1, h2⟩ := List.nodup_cons.1 hn
  have hne : y ≠ x := fun e => h1 (e ▸ List.mem_of_getElem? h')
  rw [List.eraseIdx_cons_succ, erase_filter h2 h', List.filter_cons]
  simp [hne]
end
section
open Go.RowKit
def lyN (zs : List SpanD) (cur : Int) : List Nat := (List.range zs.length).filter fun k => !(cont (zs.getD k ⟨0, 0⟩).lo (zs.getD k ⟨0, 0⟩).hi cur)
def agN (zs : List SpanD) (cur : Int) : List Nat := (List.range zs.length).filter fun k => cont (zs.getD k ⟨0, 0⟩).lo (zs.getD k ⟨0, 0⟩).hi cur
theorem agL_map (zs : List SpanD) (cur : Int) : agL zs cur = (agN zs cur).map fun (k : Nat) => (k : Int) := by
 unfold agL agN
 induction List.range zs.length with
 | nil => rfl
 | cons k l ih =>
  rw [List.filterMap_cons, List.filter_cons]
  unfold agF at ih ⊢
  by_cases h : cont (zs.getD k ⟨0, 0⟩).lo (zs.getD k ⟨0, 0⟩).hi cur = true
  ·rw [if_pos h, if_pos h, List.map_cons, ih]
  ·rw [if_neg h, if_neg h, ih]
def remK (zs : List SpanD) (cur : Int) (k : Nat) : List Nat := (List.range zs.length).filter fun j => !(((agN zs cur).take k).contains j)
theorem remK_zero (zs : List SpanD) (cur : Int) : remK zs cur 0 = List.range zs.length := by
 unfold remK; simp
theorem agN_nodup (zs : List SpanD) (cur : Int) : (agN zs cur).Nodup := List.nodup_range.filter _
theorem remK_nodup (zs : List SpanD) (cur : Int) (k : Nat) : (remK zs cur k).Nodup := List.nodup_range.filter _
theorem remK_all (zs : List SpanD) (cur : Int) (k : Nat) (hk : (agN zs cur).length ≤ k) : remK zs cur k = lyN zs cur := by
 unfold remK lyN
 rw [List.take_of_length_le hk]
 refine List.filter_congr fun j hj => ?_
 congr 1
 rw [Bool.eq_iff_iff, List.contains_iff_mem]
 unfold agN
 rw [List.mem_filter]
 exact ⟨fun h => h.2, fun h => ⟨hj, h⟩⟩
theorem remK_step {zs : List SpanD} {cur x : Int} {k : Nat} (h : (agL zs cur)[k]? = some x) : ∃ y : Nat, x = (y : Int) ∧ y ∈ remK zs cur k ∧ remK zs cur (k + 1) = (remK zs cur k).filter (fun z => !(z == y)) := by
 rw [agL_map, List.getElem?_map] at h
 cases hy : (agN zs cur)[k]? with
 | none => rw [hy] at h; cases h
 | some y =>
  rw [hy] at h
  have hx : (y : Int) = x := Option.some.inj h
  have hlt := (List.getElem?_eq_some_iff.1 hy).1
  have hyn : y ∉ (agN zs cur).take k := fun hm => by
   obtain ⟨j, hj⟩ := List.getElem?_of_mem hm
   have hjk : j < k := by have := (List.getElem?_eq_some_iff.1 hj).1; rw [List.length_take] at this; omega
   rw [List.getElem?_take_of_lt hjk] at hj
   obtain ⟨a1, h1⟩ := List.getElem?_eq_some_iff.1 hj
   obtain ⟨a2, h2⟩ := List.getElem?_eq_some_iff.1 hy
   exact List.pairwise_iff_getElem.1 (agN_nodup zs cur) j k a1 a2 hjk (h1.trans h2.symm)
  have hyr : y ∈ List.range zs.length := by
   have := List.mem_of_getElem? hy
   unfold agN at this
   exact (List.mem_filter.1 this).1
  refine ⟨y, hx.symm, ?_, ?_⟩
  ·unfold remK
   rw [List.mem_filter]
   exact ⟨hyr, by simpa using hyn⟩
  ·unfold remK
   rw [List.filter_filter]
   refine List.filter_congr fun j hj => ?_
   rw [List.take_add_one, hy]
   by_cases hjy : j = y
   ·subst hjy; simp
   ·have : (j == y) = false := by simpa using hjy
    simp [this, hjy]
theorem remK_del {zs : List SpanD} {cur x : Int} {k : Nat} (h : (agL zs cur)[k]? = some x) : ∃ (y j : Nat), x = (y : Int) ∧ Instr.findNow (.int .i64) (.int .i64 (y : Int)) (entK (remK zs cur k)) 0 = some (some (j, .bool true)) ∧ j < (entK (remK zs cur k)).length ∧ (entK (remK zs cur k)).eraseIdx j = entK (remK zs cur (k + 1)) := by
 obtain ⟨y, h1, h2, h3⟩ := remK_step h
 obtain ⟨j, h4, h5⟩ := find_yes (remK zs cur k) 0 h2
 rw [Nat.zero_add] at h4
 refine ⟨y, j, h1, h4, ?_, by rw [entK_erase, h3, erase_filter (remK_nodup zs cur k) h5]⟩
 unfold entK; rw [List.length_map]; exact (List.getElem?_eq_some_iff.1 h5).1
theorem entR_succ (k : Nat) : entK (List.range (k + 1)) = entK (List.range k) ++ [⟨.int .i64 (k : Int), .bool true, k⟩] := by
 unfold entK; rw [List.range_succ, List.map_append]; rfl
theorem one9 {w : World} {b : Nat} {v : Value} (h : w.cell? ⟨b, 0, none⟩ = some v) : ∀ (j : Nat) (u : Value), [v][j]? = some u → w.cell? ⟨b, 0 + j, none⟩ = some u := fun j u hj => by
 cases j with
 | zero => cases hj; exact h
 | succ j => simp at hj
def SortedOK : Prop := ∀ (bk bm : Nat) (ks : List Nat) (c : Nat) (W : World), W.cell? ⟨bk, 0, none⟩ = some (.map (some bm)) → bk < W.heap.size → W.heap[bm]? = some (.map (entK ks).toArray c) → bm < W.heap.size → ks.Pairwise (fun x y => x < y) → ks.length ≤ 1000 → (∀ k ∈ ks, k < c) → c ≤ 1000 →
 Calls Tryz.prog 52 #[.func (.func 92) #[] #[.pointer (some ⟨bk, 0, none⟩)]] W (fun e w' => ∃ A n c, e = .returned (.slice A n c) ∧ NewT 1 intCells W.heap.size w' A n c (ks.map fun (k : Nat) => (k : Int)) ∧ Below W.heap.size W w')
set_option maxRecDepth 100000 in
theorem keys_own (m : Option Nat) (w : World) : Calls Tryz.prog 53 #[(.map m)] w (fun e w' => ∃ b1, e = .returned (.func (.func 92) #[] #[.pointer (some ⟨b1, 0, none⟩)]) ∧ Own w [(b1, .cells [.map m])] w') := by
 refine calls_ax (vs := [(.map m)]) Tryz.func53 rfl rfl ?_
 refine ac_seq (ac_region ?_)
 refine al_new (fun b => .pointer (some ⟨b, 0, none⟩)) (r_box rfl rfl) rfl rfl rfl ?_
 intro b1
 refine al_p (q_assign rfl) (al_end (aq_then ?_))
 refine ac_seq (ac_region ?_)
 refine al_p (q_makeFunc _ _ .nil (.cons rfl .nil)) (al_p (q_assign rfl) (al_end (aq_then ?_)))
 refine ac_ret (ret1 Tryz.results53 rfl (fun w9 hs => ?_))
 exact ⟨b1, rfl, hs.defer 0⟩
set_option maxRecDepth 100000 in
theorem lying9_of (hSO : SortedOK) (F : Option Addr) (n cf : Nat) (zs : List SpanD) (cur : Int) (w : World) (hF : IsT 2 SpanD.cells w F n zs) (hn : n ≤ 1000) : Calls Tryz.prog 23 #[(.slice F n cf), (.int .i64 cur)] w (fun e w' => ∃ A m c, e = .returned (.slice A m c) ∧ NewT 1 intCells w.heap.size w' A m c ((lyN zs cur).map fun (k : Nat) => (k : Int)) ∧ Below w.heap.size w w') := by
 refine calls_axM (vs := [(.slice F n cf), (.int .i64 cur)]) Tryz.func23 rfl rfl ?_
 refine ac_seq (ac_region ?_)
 refine al_p (q_assign rfl) (al_end (aq_then ?_))
 refine ac_seq (ac_region ?_)
 refine al_makeMap rfl rfl ?_
 intro b1
 refine al_new (fun b => .pointer (some ⟨b, 0, none⟩)) (r_alloc Tryz.zeroValue117 rfl) rfl rfl rfl ?_
 intro b2
 refine al_store1 (i := 0) rfl rfl rfl rfl Tryz.sizeOf117 .k0 .k0 rfl (al_end (aq_then ?_))
 refine ac_seq (ac_seq (ac_region ?_))
 refine al_p (q_move rfl) (al_p (q_lenS rfl Tryz.runUnderlying81) (al_p (q_move rfl) (al_end (aq_then ?_))))
 refine ac_block ?_
 refine ac_loop (β := Nat) (fun x => x ≤ n) (fun x => [(0, (.slice F n cf)), (1, (.int .i64 cur)), (4, (.slice none 0 0)), (5, (.pointer (some ⟨b2, 0, none⟩))), (10, (.int .i64 (n : Int))), (11, (.int .i64 (x : Int)))]) (fun _ => _) (fun x => [(b2, _), (b1, .map (entK (List.range x)) x)]) (fun x => n - x) 0 (by omega) ⟨rfl, rfl, rfl, rfl, rfl, rfl, trivial⟩ (fun w9 hs => hs) (fun x hF1 => ?_)
 refine ac_seq (ac_region ?_)
 refine al_p (q_lss rfl rfl) (al_end (aq_then ?_))
 refine ac_seq ?_
 refine ac_cond rfl (fun h1 => ?_) (fun h1 => ?_)
 ·have hxl : x < n := by have := of_decide_eq_true h1; omega
  refine ac_skip (aq_then (ac_seq (ac_block (ac_seq (ac_region ?_)))))
  refine al_p (q_move rfl) (al_p (q_assign rfl) (al_end (aq_then ?_)))
  refine ac_region (al_p (q_load (i := 0) rfl rfl rfl Tryz.isAgg117) (al_p (q_move rfl) ?_))
  refine al_mapUpdate (i := 1) (es := (entK (List.range x))) (k := x) rfl rfl rfl rfl Tryz.underlying117 Tryz.underlying3 rfl rfl (find_no _ 0 (by simp)) .k1 rfl ?_
  refine al_end (aq_inN (aq_then (ac_region ?_)))
  refine al_p (q_add rfl rfl (by omega)) (al_p (q_move rfl) (al_end (aq_then ?_)))
  skip
  refine aq_round (x + 1) (by omega) (by omega) ⟨rfl, rfl, rfl, rfl, rfl, rfl, trivial⟩ (fun w9 hs => (by rw [entR_succ]; exact hs))
 ·have hxe : x = n := by have := of_decide_eq_false h1; omega
  refine ac_exit (aq_thenE (aq_thenE (aq_hit (aq_then ?_))))
  refine ac_seq (ac_seq (ac_region ?_))
  refine al_p (q_move rfl) (al_p (q_move rfl) (al_callS Tryz.call36 (.cons rfl (.cons rfl .nil)) rfl rfl (fun w1 hs1 => ?_)))
  refine (cagr_own F n cf cur _).mono ?_
  rintro e u1 ⟨ba, bb, rfl, hb_1⟩
  refine ⟨_, _, _, rfl, hs1.gift hb_1, ?_⟩
  refine al_end (aq_then ?_)
  refine ac_block ?_
  refine ac_range1 (b := b1) (N := (agL zs cur).length) (Gd := fun k x => (agL zs cur)[k]? = some x) (enc := (fun x : Int => .int .i64 x)) 3 (fun k => .map (entK (remK zs cur k)) n) (fun k x => [(5, (.pointer (some ⟨b2, 0, none⟩))), (7, (.int .i64 x)), (20, (.int .i64 x))]) (fun k => [(bb, _), (ba, _), (b2, .cells [(.map (some b1))]), (b1, .map (entK (remK zs cur k)) n)]) rfl Tryz.call67 rfl (by rw [remK_zero, hF.1, ← hxe]; rfl) (fun _ => rfl) ?_ ?_ ?_ ?_
  ·intro v hs
   have hbl : w.heap.size ≤ b1 := (hs.box 3 _ _ rfl).1.resolve_right (by simp)
   have na : ba ≠ b1 := fun e => by have := hs.apart 1 3 b1 _ _ (by rw [← e]; rfl) rfl; omega
   have nb : bb ≠ b1 := fun e => by have := hs.apart 0 3 b1 _ _ (by rw [← e]; rfl) rfl; omega
   exact agreeing2_any ba bb n cf F zs cur [b1] v hn (hF.below hs.below) (((hs.at 1 rfl).cell _ rfl 0 _ rfl).1) (((hs.at 0 rfl).cell _ rfl 0 _ rfl).1) (hs.at 1 rfl).lt (hs.at 0 rfl).lt (by simpa using na) (by simpa using nb) (fun b o e h0 => by have := foreign_lt hF e h0; simp; omega)
  ·intro k x lf W Q9 hk9 hg9 hQ9 k9
   have hW9 : Wide (Fence.wide.inRound lf) := Or.inr ⟨lf, rfl⟩
   refine ci_region hW9 hQ9 rfl ?_
   refine al_p (q_assign rfl) (al_end ?_)
   exact aq_sub k9 ⟨rfl, rfl, rfl, trivial⟩ (fun w9 hs => hs)
  ·intro k x lf W Q9 hk9 hg9 hQ9 hS9 k9
   have hW9 : Wide (Fence.wide.inRound lf) := Or.inr ⟨lf, rfl⟩
   have hy9 : W.cell? ⟨b2, 0, none⟩ = some (.map (some b1)) := ((hS9.at 2 rfl).cell _ rfl 0 _ rfl).1
   have lb9 := (hS9.at 2 rfl).lt
   have hne9 : b2 ≠ b1 := fun e => by have := hS9.apart 2 3 b1 _ _ (by rw [← e]; rfl) rfl; omega
   obtain ⟨y9, j9, rfl, hf9, hj9, he9⟩ := remK_del hg9
   refine ci_block ?_
   refine ci_region hW9 hQ9 rfl ?_
   refine al_p (q_loadX rfl Tryz.isAgg117 (fun w9 hs => (hs.cellL lb9 (fun hm => hne9 (List.mem_singleton.1 hm))).trans ((one9 hy9) 0 _ rfl))) (al_p (q_move rfl) (al_delete0 (i := 0) (es := (entK (remK zs cur k))) (k := n) (j := j9) rfl rfl rfl Tryz.underlying117 Tryz.underlying3 rfl rfl hf9 hj9 rfl .k0 rfl ?_))
   refine al_end (aq_inN ?_)
   exact aq_sub k9 trivial (fun w9 hs => by rw [← he9]; exact hs)
  ·intro lo9 D9 u9 a19 a29 a39 a49
   refine aq_inN (aq_then (ac_seq (ac_region ?_)))
   refine al_p (q_load (i := 2) rfl rfl rfl Tryz.isAgg117) (al_callS Tryz.call53 (.cons rfl .nil) rfl rfl (fun w2 hs2 => ?_))
   refine (keys_own _ _).mono ?_
   rintro e u2 ⟨bk, rfl, hb_2⟩
   refine ⟨_, _, _, rfl, hs2.gift hb_2, ?_⟩
   refine al_call Tryz.call52 (.cons rfl .nil) rfl rfl (fun w3 hs3 => ?_)
   have hz9 := hs3.below.size
   refine (hSO bk b1 (remK zs cur (agL zs cur).length) n _ (((hs3.at 0 rfl).cell _ rfl 0 _ rfl).1) (hs3.at 0 rfl).lt ((hs3.at 4 rfl).map _ _ rfl) (hs3.at 4 rfl).lt (List.pairwise_lt_range.filter _) (by have := List.length_filter_le (fun j => !(((agN zs cur).take (agL zs cur).length).contains j)) (List.range zs.length); rw [List.length_range] at this; have := hF.1; unfold remK; omega) (fun k hk => by unfold remK at hk; have := List.mem_range.1 (List.mem_filter.1 hk).1; have := hF.1; omega) hn).mono ?_
   rintro e u3 ⟨A_s, n_s, c_s, rfl, N_s, hb_3⟩
   refine ⟨_, rfl, hb_3, ?_⟩
   clear hs3
   refine al_p (q_assign rfl) (al_end (aq_then ?_))
   refine ac_ret (retMD Tryz.results23 (.tmp rfl .nil) .one (Nat.le_trans a19 a29) (fun w9 hs => ((hs.snap _ _ (.tail _ (.head _))).2.2.2.1 D9 a29 a39).trans a49) (fun w9 w8 hs hm9 hc9 => ?_))
   have hI9 := hs.newT (.head _) N_s
   rw [remK_all zs cur _ (by rw [agL_map, List.length_map]; exact Nat.le_refl _)] at hI9
   exact ⟨A_s, n_s, c_s, rfl, ⟨hI9.mv (fun _ => by simp [intCells]) hm9 (fun b o _ => by simp), fun b o e => Nat.le_trans hz9 (N_s.new _ _ e), N_s.le⟩, below_mark hs.below hc9 (Nat.le_trans a19 a29)⟩
end
end Go.Proofs.YthggkidiidnaoaaGreatDoor
