import Derived.Test.YtogcjgjhmlifgaaGreatNBM
namespace Go.Proofs.YtogcjgjhmlifgaaGreat
set_option linter.unusedVariables false
set_option linter.unusedSimpArgs false
section
set_option maxRecDepth 100000
open Go.ChangeShapes Go.WideShapes Go.ChangeAt Go.RowKit Go.Joins Go.Deep
section
variable {H : Type} {enc : TypeId × Value → H}
theorem open_machineC {W : World} {fuel : Nat} {cs : List Value} {y : DataW H × List MemPlace} (hf0 : DataW.trod enc Tryz.prog W 0 (fun _ => true) true fuel 29 cs = some y) : ∃ (R : MachR) (M : MachD), cs = (machCells R M).toList ∧ OpM W R M := by
  obtain ⟨d, p⟩ := y
  have hf1 := hf0
  obtain ⟨xs, n, -, -, hl, hlen, hf⟩ := DataW.trod_struct Tryz.underlying29 hf1
  rw [show Tryz.prog.cellsOf 29 = 10 by kernel_rfl] at hl
  match xs, hlen with
  | [y0, y1, y2, y3, y4, y5], _ =>
    match cs, hl with
    | [c0, c1, c2, c3, c4, c5, c6, c7, c8, c9], _ =>
      obtain ⟨name, e0, -, -⟩ := DataW.trod_string Tryz.underlying9 ((hf 0 _ rfl).trans (rfl : _ = some y0))
      obtain ⟨A, la, ca, coils, e1, h1, k1, m1⟩ := open_isTc (n := 8) (E := CoilD.cells) (fun _ => rfl) Tryz.underlying22 (by kernel_rfl) (by decide) dec_Coil ((hf 1 _ rfl).trans (rfl : _ = some y1))
      obtain ⟨B, lb, cb, shells, e2, h2, k2, m2⟩ := open_isTc (n := 4) (E := ShellD.cells) (fun _ => rfl) Tryz.underlying23 (by kernel_rfl) (by decide) dec_Shell ((hf 2 _ rfl).trans (rfl : _ = some y2))
      obtain ⟨C, lc, cc, limits, e3, h3, k3, m3⟩ := open_isTc (n := 2) (E := PointD.cells) (fun _ => rfl) Tryz.underlying24 (by kernel_rfl) (by decide) dec_Point ((hf 3 _ rfl).trans (rfl : _ = some y3))
      obtain ⟨D, ld, cd, sensors, e5, h5, k5, m5⟩ := open_isTc (n := 5) (E := SensorD.cells) (fun _ => rfl) Tryz.underlying27 (by kernel_rfl) (by decide) dec_Sensor ((hf 5 _ rfl).trans (rfl : _ = some y5))
      obtain ⟨gs, gn, -, -, gl, glen, gf⟩ := DataW.trod_struct Tryz.underlying26 ((hf 4 _ rfl).trans (rfl : _ = some y4))
      match gs, glen with
      | [z0, z1, z2, z3, z4], _ =>
        obtain ⟨a0, f0, -, -⟩ := DataW.trod_int Tryz.underlying3 ((gf 0 _ rfl).trans (rfl : _ = some z0))
        obtain ⟨a1, f1, -, -⟩ := DataW.trod_int Tryz.underlying3 ((gf 1 _ rfl).trans (rfl : _ = some z1))
        obtain ⟨a2, f2, -, -⟩ := DataW.trod_int Tryz.underlying3 ((gf 2 _ rfl).trans (rfl : _ = some z2))
        obtain ⟨a3, f3, -, -⟩ := DataW.trod_int Tryz.underlying3 ((gf 3 _ rfl).trans (rfl : _ = some z3))
        obtain ⟨a4, f4, -, -⟩ := DataW.trod_int Tryz.underlying3 ((gf 4 _ rfl).trans (rfl : _ = some z4))
        have cg : Tryz.prog.cellsOf 26 = 5 := by kernel_rfl
        have cs1 : Tryz.prog.cellsOf 22 = 1 := by kernel_rfl
        have cs2 : Tryz.prog.cellsOf 23 = 1 := by kernel_rfl
        have cs3 : Tryz.prog.cellsOf 24 = 1 := by kernel_rfl
        have cs5 : Tryz.prog.cellsOf 27 = 1 := by kernel_rfl
        simp [cells_int, cells_string, cg, cs1, cs2, cs3, cs5] at e0 e1 e2 e3 e5 f0 f1 f2 f3 f4
        subst e0 e1 e2 e3 e5 f0 f1 f2 f3 f4
        unfold maxLen at m1 m2 m3 m5
        exact ⟨⟨A, B, C, D, la, ca, lb, cb, lc, cc, ld, cd⟩, ⟨name, coils, shells, limits, ⟨a0, a1, a2, a3, a4⟩, sensors⟩, rfl, h1, h2, h3, h5, k1, k2, k3, k5, m1, m2, m3, m5⟩
theorem open_currentsC {W : World} {fuel : Nat} {cs : List Value} {y : DataW H × List MemPlace} (hf0 : DataW.trod enc Tryz.prog W 0 (fun _ => true) true fuel 32 cs = some y) : ∃ (Q : CurR) (C : CurD), cs = [.slice Q.A Q.la Q.ca, .slice Q.B Q.lb Q.cb, .slice Q.C Q.lc Q.cc] ∧ OpC W Q C := by
  obtain ⟨d, p⟩ := y
  have hf1 := hf0
  obtain ⟨xs, n, -, -, hl, hlen, hf⟩ := DataW.trod_struct Tryz.underlying32 hf1
  rw [show Tryz.prog.cellsOf 32 = 3 by kernel_rfl] at hl
  match xs, hlen with
  | [y0, y1, y2], _ =>
    match cs, hl with
    | [c0, c1, c2], _ =>
      obtain ⟨A, la, ca, z1, e0, h0, k0, m0⟩ := open_isTc (n := 1) (E := intCells) (fun _ => rfl) Tryz.underlying30 (by kernel_rfl) (by decide) dec_intI ((hf 0 _ rfl).trans (rfl : _ = some y0))
      obtain ⟨B, lb, cb, z2, e1, h1, k1, m1⟩ := open_isTc (n := 1) (E := intCells) (fun _ => rfl) Tryz.underlying30 (by kernel_rfl) (by decide) dec_intI ((hf 1 _ rfl).trans (rfl : _ = some y1))
      obtain ⟨C, lc, cc, z3, e2, h2, k2, m2⟩ := open_isTc (n := 1) (E := intCells) (fun _ => rfl) Tryz.underlying30 (by kernel_rfl) (by decide) dec_intI ((hf 2 _ rfl).trans (rfl : _ = some y2))
      have cs1 : Tryz.prog.cellsOf 30 = 1 := by kernel_rfl
      simp [cs1] at e0 e1 e2
      subst e0 e1 e2
      unfold maxLen at m0 m1 m2
      exact ⟨⟨A, B, C, la, ca, lb, cb, lc, cc⟩, ⟨z1, z2, z3⟩, rfl, h0, h1, h2, k0, k1, k2, m0, m1, m2⟩
theorem wf_i64f {a : Int} (hw : (Lit.int .i64 a).wf = true) : -9223372036854775808 ≤ a ∧ a ≤ 9223372036854775807 := by
  have h1 : (decide (IntKind.i64.min ≤ a) && decide (a ≤ IntKind.i64.max)) = true := hw
  rw [Bool.and_eq_true, decide_eq_true_eq, decide_eq_true_eq] at h1
  have e1 : IntKind.i64.min = -9223372036854775808 := by decide
  have e2 : IntKind.i64.max = 9223372036854775807 := by decide
  rw [e1, e2] at h1
  exact h1
theorem open_field {W : World} {b0 : Nat} {r : Reach} {v : Value} {d : DataW H} {p : List MemPlace}
    (hv : Value.okWide Tryz.prog W r b0 34 v) (h : DataW.Trod enc Tryz.prog W 0 (fun _ => true) true 34 v d p) :
    ∃ (R : MachR) (M : MachD) (Q : CurR) (C : CurD) (g : Int), v = .agg #[.string M.name, .slice R.A R.la R.ca, .slice R.B R.lb R.cb, .slice R.C R.lc R.cc, .int .i64 M.grid.r, .int .i64 M.grid.z, .int .i64 M.grid.nr, .int .i64 M.grid.nz, .int .i64 M.grid.step, .slice R.D R.ld R.cd, .slice Q.A Q.la Q.ca, .slice Q.B Q.lb Q.cb, .slice Q.C Q.lc Q.cc, .int .i64 g] ∧ OpM W R M ∧ OpC W Q C ∧ (-9223372036854775808 ≤ g ∧ g ≤ 9223372036854775807) := by
  obtain ⟨⟨cs⟩, rfl, hsz⟩ := okWide_struct Tryz.underlying34 hv
  obtain ⟨fuel, hf0⟩ := h
  have hf1 : DataW.trod enc Tryz.prog W 0 (fun _ => true) true fuel 34 cs = some (d, p) := hf0
  obtain ⟨xs, n, -, -, hl, hlen, hf⟩ := DataW.trod_struct Tryz.underlying34 hf1
  rw [show Tryz.prog.cellsOf 34 = 14 by kernel_rfl] at hl
  match xs, hlen with
  | [y0, y1, y2], _ =>
    match cs, hl with
    | [c0, c1, c2, c3, c4, c5, c6, c7, c8, c9, c10, c11, c12, c13], _ =>
      obtain ⟨R, M, e0, h0⟩ := open_machineC ((hf 0 _ rfl).trans (rfl : _ = some y0))
      obtain ⟨Q, C, e1, h1⟩ := open_currentsC ((hf 1 _ rfl).trans (rfl : _ = some y1))
      obtain ⟨g2, e2, -, w2⟩ := DataW.trod_int Tryz.underlying3 ((hf 2 _ rfl).trans (rfl : _ = some y2))
      have zm : Tryz.prog.cellsOf 29 = 10 := by kernel_rfl
      have zc : Tryz.prog.cellsOf 32 = 3 := by kernel_rfl
      simp [cells_int, zm, zc, machCells] at e0 e1 e2
      obtain ⟨rfl, rfl, rfl, rfl, rfl, rfl, rfl, rfl, rfl, rfl⟩ := e0
      obtain ⟨rfl, rfl, rfl⟩ := e1
      subst e2
      exact ⟨R, M, Q, C, g2, rfl, h0, h1, wf_i64f w2⟩
theorem shut_field {W W' : World} {v : Value} {d : DataW H} {p : List MemPlace} (h : DataW.Trod enc Tryz.prog W 0 (fun _ => true) true 34 v d p) (hb : Below W.heap.size W W') (hlt : ∀ x ∈ p, x.block < W.heap.size) :
    DataW.Trod enc Tryz.prog W' 0 (fun b => decide (b < W.heap.size)) true 34 v d p :=
  Below.trod (by kernel_rfl) (by kernel_rfl) (of_decide_eq_true (by kernel_rfl)) h hb hlt
theorem open_ints {W : World} {b0 : Nat} {r : Reach} {v : Value} {d : DataW H} {p : List MemPlace}
    (hv : Value.okWide Tryz.prog W r b0 30 v) (h : DataW.Trod enc Tryz.prog W 0 (fun _ => true) true 30 v d p) :
    ∃ (A : Option Addr) (len cap : Nat) (zs : List Int), v = .slice A len cap ∧ IsT 1 intCells W A len zs ∧ len ≤ maxLen ∧ len ≤ cap ∧ cap ≤ maxLen :=
  open_isT (n := 1) (E := intCells) (fun _ => rfl) Tryz.underlying30 (by kernel_rfl) (by decide) dec_intI hv h
theorem shut_ints {W W' : World} {v : Value} {d : DataW H} {p : List MemPlace} (h : DataW.Trod enc Tryz.prog W 0 (fun _ => true) true 30 v d p) (hb : Below W.heap.size W W') (hlt : ∀ x ∈ p, x.block < W.heap.size) :
    DataW.Trod enc Tryz.prog W' 0 (fun b => decide (b < W.heap.size)) true 30 v d p :=
  Below.trod (by kernel_rfl) (by kernel_rfl) (of_decide_eq_true (by kernel_rfl)) h hb hlt
end
end
end Go.Proofs.YtogcjgjhmlifgaaGreat
