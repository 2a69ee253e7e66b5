/- The frame of the laws over spans: how an argument that is a span or a Pair is opened and shut, over this seat's translation. -/
import Derived.Test.YtgfajfepmflfhaaDoorSpanA
import Derived.ProofKit
import Derived.OpenShut
import Derived.Lib.SmallJoins
namespace Go.Proofs.YtgfajfepmflfhaaDoor
set_option linter.unusedVariables false
set_option linter.unusedSimpArgs false
set_option maxRecDepth 100000
open Go.ChangeShapes Go.WideShapes Go.ChangeAt Go.RowKit Go.Joins

theorem own : ownKnob Tryd.prog.godebug = none := by kernel_rfl
theorem cells_span : Tryd.prog.cellsOf 23 = 2 := by kernel_rfl
theorem cells_int : Tryd.prog.cellsOf 3 = 1 := by kernel_rfl

section
variable {H : Type} {enc : TypeId × Value → H}

theorem open_span {r : Reach} {W : World} {base b0 : Nat} {spare : Nat → Bool} {held : Bool} {v : Value} {d : DataW H} {p : List MemPlace}
    (hv : Value.okWide Tryd.prog W r b0 23 v) (h : DataW.Trod enc Tryd.prog W base spare held 23 v d p) :
    ∃ lo hi : Int, v = Sp lo hi ∧ d = .agg [.lit (.int .i64 lo), .lit (.int .i64 hi)] ∧ p = [] ∧ (Lit.int .i64 lo).wf = true ∧ (Lit.int .i64 hi).wf = true := by
  obtain ⟨c0, c1, y0, y1, m, rfl, rfl, rfl, hy0, hy1⟩ := open_agg2 Tryd.underlying23 (by kernel_rfl) cells_span hv h
  obtain ⟨a, e0, rfl, wa⟩ := DataW.trod_int Tryd.underlying3 hy0
  obtain ⟨b, e1, rfl, wb⟩ := DataW.trod_int Tryd.underlying3 hy1
  simp at e0 e1
  subst e0 e1
  exact ⟨a, b, rfl, rfl, rfl, wa, wb⟩

theorem shut_span {W : World} {base : Nat} {spare : Nat → Bool} {held : Bool} {lo hi : Int} (wa : (Lit.int .i64 lo).wf = true) (wb : (Lit.int .i64 hi).wf = true) :
    DataW.Trod enc Tryd.prog W base spare held 23 (Sp lo hi) (.agg [.lit (.int .i64 lo), .lit (.int .i64 hi)]) [] :=
  shut_agg2 (y0 := (.lit (.int .i64 lo), [])) (y1 := (.lit (.int .i64 hi), [])) Tryd.underlying23 (by kernel_rfl) cells_span ⟨1, by simp [DataW.trod, Tryd.underlying3, wa]⟩ ⟨1, by simp [DataW.trod, Tryd.underlying3, wb]⟩

end
end Go.Proofs.YtgfajfepmflfhaaDoor
