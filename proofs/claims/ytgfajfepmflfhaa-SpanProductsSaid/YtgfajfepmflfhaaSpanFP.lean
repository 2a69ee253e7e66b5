/- The frame of the laws over a Pair (two spans and two numbers): how such an argument is opened and shut, over this seat's translation. -/
import Derived.Test.YtgfajfepmflfhaaSpanF
namespace Go.Proofs.Ytgfajfepmflfhaa
set_option linter.unusedVariables false
set_option linter.unusedSimpArgs false
open Go.ChangeShapes Go.WideShapes Go.ChangeAt Go.RowKit Go.Joins

theorem cells_pair : Try.prog.cellsOf 25 = 6 := by kernel_rfl

section
variable {H : Type} {enc : TypeId × Value → H}

/-- A Pair as a value, and as data. -/
abbrev Pv (a b c d m n : Int) : Value := .agg #[.int .i64 a, .int .i64 b, .int .i64 c, .int .i64 d, .int .i64 m, .int .i64 n]
def Pd (H : Type) (a b c d m n : Int) : DataW H := .agg [.agg [.lit (.int .i64 a), .lit (.int .i64 b)], .agg [.lit (.int .i64 c), .lit (.int .i64 d)], .lit (.int .i64 m), .lit (.int .i64 n)]

theorem trod_two {W : World} {base fuel : Nat} {spare : Nat → Bool} {held : Bool} {v w : Value} {x : DataW H × List MemPlace} (h : DataW.trod enc Try.prog W base spare held fuel 23 [v, w] = some x) :
    ∃ lo hi : Int, v = .int .i64 lo ∧ w = .int .i64 hi ∧ x = (.agg [.lit (.int .i64 lo), .lit (.int .i64 hi)], []) ∧ (Lit.int .i64 lo).wf = true ∧ (Lit.int .i64 hi).wf = true := by
  obtain ⟨y0, y1, n, rfl, _, h0, h1⟩ := trod_struct2 Try.underlying23 h
  rw [cells_int] at h0 h1
  obtain ⟨a, e0, rfl, wa⟩ := DataW.trod_int Try.underlying3 h0
  obtain ⟨b, e1, rfl, wb⟩ := DataW.trod_int Try.underlying3 h1
  simp at e0 e1
  exact ⟨a, b, e0, e1, rfl, wa, wb⟩

theorem open_pair {r : Reach} {W : World} {base b0 : Nat} {spare : Nat → Bool} {held : Bool} {v : Value} {d : DataW H} {p : List MemPlace}
    (hv : Value.okWide Try.prog W r b0 25 v) (h : DataW.Trod enc Try.prog W base spare held 25 v d p) :
    ∃ a b c e m n : Int, v = Pv a b c e m n ∧ d = Pd H a b c e m n ∧ p = [] ∧ (Lit.int .i64 a).wf = true ∧ (Lit.int .i64 b).wf = true ∧ (Lit.int .i64 c).wf = true ∧ (Lit.int .i64 e).wf = true ∧
      (Lit.int .i64 m).wf = true ∧ (Lit.int .i64 n).wf = true := by
  obtain ⟨cs, rfl, hsz⟩ := okWide_struct Try.underlying25 hv
  rw [cells_pair] at hsz
  obtain ⟨l⟩ := cs
  match l, hsz with
  | [c0, c1, c2, c3, c4, c5], _ =>
    obtain ⟨fuel, hf⟩ := h
    obtain ⟨xs, n, _, hx, _, hlen, hg⟩ := DataW.trod_struct Try.underlying25 hf
    match xs, hlen with
    | [y0, y1, y2, y3], _ =>
      have g0 : DataW.trod enc Try.prog W base spare held n 23 ((([c0, c1, c2, c3, c4, c5] : List Value).drop 0).take (Try.prog.cellsOf 23)) = some y0 := hg 0 _ rfl
      have g1 : DataW.trod enc Try.prog W base spare held n 23 ((([c0, c1, c2, c3, c4, c5] : List Value).drop 2).take (Try.prog.cellsOf 23)) = some y1 := hg 1 _ rfl
      have g2 : DataW.trod enc Try.prog W base spare held n 3 ((([c0, c1, c2, c3, c4, c5] : List Value).drop 4).take (Try.prog.cellsOf 3)) = some y2 := hg 2 _ rfl
      have g3 : DataW.trod enc Try.prog W base spare held n 3 ((([c0, c1, c2, c3, c4, c5] : List Value).drop 5).take (Try.prog.cellsOf 3)) = some y3 := hg 3 _ rfl
      rw [cells_span] at g0 g1
      rw [cells_int] at g2 g3
      obtain ⟨a, b, rfl, rfl, rfl, wa, wb⟩ := trod_two g0
      obtain ⟨c, e, rfl, rfl, rfl, wc, we⟩ := trod_two g1
      obtain ⟨m, e2, rfl, wm⟩ := DataW.trod_int Try.underlying3 g2
      obtain ⟨k, e3, rfl, wk⟩ := DataW.trod_int Try.underlying3 g3
      simp at e2 e3
      subst e2 e3
      simp only [Prod.mk.injEq] at hx
      exact ⟨a, b, c, e, m, k, rfl, by simpa [Pd] using hx.1, by simpa using hx.2, wa, wb, wc, we, wm, wk⟩

theorem shut_pair {W : World} {base : Nat} {spare : Nat → Bool} {held : Bool} {a b c d m n : Int} (wa : (Lit.int .i64 a).wf = true) (wb : (Lit.int .i64 b).wf = true) (wc : (Lit.int .i64 c).wf = true) (wd : (Lit.int .i64 d).wf = true)
    (wm : (Lit.int .i64 m).wf = true) (wn : (Lit.int .i64 n).wf = true) :
    DataW.Trod enc Try.prog W base spare held 25 (Pv a b c d m n) (Pd H a b c d m n) [] := by
  have two : ∀ lo hi : Int, (Lit.int .i64 lo).wf = true → (Lit.int .i64 hi).wf = true → DataW.trod enc Try.prog W base spare held 2 23 [.int .i64 lo, .int .i64 hi] = some (.agg [.lit (.int .i64 lo), .lit (.int .i64 hi)], []) := by
    intro lo hi w1 w2
    have := trod_struct2_mk (enc := enc) (w := W) (base := base) (spare := spare) (held := held) (n := 1) (cs := [.int .i64 lo, .int .i64 hi]) (y0 := (.lit (.int .i64 lo), [])) (y1 := (.lit (.int .i64 hi), [])) Try.underlying23 (by rw [cells_span]; rfl)
      (by rw [cells_int]; exact trod_int_mk 0 Try.underlying3 w1) (by rw [cells_int]; exact trod_int_mk 0 Try.underlying3 w2)
    simpa using this
  have h := trod_struct_mk (enc := enc) (w := W) (base := base) (spare := spare) (held := held) (n := 2) (cs := [.int .i64 a, .int .i64 b, .int .i64 c, .int .i64 d, .int .i64 m, .int .i64 n])
    (xs := [(.agg [.lit (.int .i64 a), .lit (.int .i64 b)], []), (.agg [.lit (.int .i64 c), .lit (.int .i64 d)], []), (.lit (.int .i64 m), []), (.lit (.int .i64 n), [])]) Try.underlying25 (by rw [cells_pair]; rfl)
    (by
      have t1 := trod_int_mk (enc := enc) (w := W) (base := base) (spare := spare) (held := held) 1 Try.underlying3 wm
      have t2 := trod_int_mk (enc := enc) (w := W) (base := base) (spare := spare) (held := held) 1 Try.underlying3 wn
      simp [cells_span, cells_int, two a b wa wb, two c d wc wd, t1, t2])
  exact ⟨3, by simpa [Pd, Value.cells] using h⟩

end
end Go.Proofs.Ytgfajfepmflfhaa
