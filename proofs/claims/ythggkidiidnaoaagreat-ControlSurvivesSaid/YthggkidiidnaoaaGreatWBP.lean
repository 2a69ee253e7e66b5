import Derived.Test.YthggkidiidnaoaaGreatWAA
import Derived.Test.YthggkidiidnaoaaGreatWAF
import Derived.Test.YthggkidiidnaoaaGreatWBO
namespace Go.Proofs.YthggkidiidnaoaaGreat
set_option linter.unusedVariables false
set_option linter.unusedSimpArgs false
section
open Go.RowKit Go.Shelf
structure SelfS (r z : Nat) (p0 q0 p1 q1 : Value) (B : Nat) (W w' : World) : Prop where
 r : RowL r [p0, q0] w'
 z : RowL z [p1, q1] w'
 b : Below B W w'
theorem SelfS.drew {r z : Nat} {p0 q0 p1 q1 : Value} {B : Nat} {W w' : World} (h : SelfS r z p0 q0 p1 q1 B W w') : SelfS r z p0 q0 p1 q1 B W w'.drew := ⟨h.r.drew, h.z.drew, h.b.drew⟩
theorem SelfS.drewN {r z : Nat} {p0 q0 p1 q1 : Value} {B : Nat} {W w' : World} (h : SelfS r z p0 q0 p1 q1 B W w') (n : Nat) : SelfS r z p0 q0 p1 q1 B W (w'.drewN n) :=
 ⟨h.r.below (Below_drewN (Below.refl _ _) n), h.z.below (Below_drewN (Below.refl _ _) n), Below_drewN h.b n⟩
end
end Go.Proofs.YthggkidiidnaoaaGreat
