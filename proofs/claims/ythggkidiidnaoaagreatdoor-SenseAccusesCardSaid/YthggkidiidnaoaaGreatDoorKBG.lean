import Derived.Test.YthggkidiidnaoaaGreatDoorKAP
import Derived.Test.YthggkidiidnaoaaGreatDoorKAU
import Derived.Test.YthggkidiidnaoaaGreatDoorKAZ
import Derived.Test.YthggkidiidnaoaaGreatDoorKBE
import Derived.Test.YthggkidiidnaoaaGreatDoorRows
import Derived.KernelRfl
import Derived.Laws.StructEq
namespace Go.Proofs.YthggkidiidnaoaaGreatDoor
set_option linter.unusedVariables false
set_option linter.unusedSimpArgs false
section
open Go.RowKit
end
section
open Go.RowKit Go.Shelf
structure QuietAt (B : Nat) (w' : World) (pa la pb lb pc nc : Nat) : Prop where
 coils : ZeroL pa la w'
 shells : ZeroL pb lb w'
 cells : ZeroL pc nc w'
 base : B ≤ pa ∧ B ≤ pb ∧ B ≤ pc
 apart : pa ≠ pc ∧ pb ≠ pc ∧ pa ≠ pb
def Quiet (la lb nc : Nat) (w : World) (e : Ending) (w' : World) : Prop :=
 ∃ (pa pb pc : Nat), e = .returned (.agg #[.slice (some ⟨pa, 0, none⟩) la la, .slice (some ⟨pb, 0, none⟩) lb lb, .slice (some ⟨pc, 0, none⟩) nc nc]) ∧ QuietAt w.heap.size w' pa la pb lb pc nc ∧ Below w.heap.size w w'
end
section
open Go.RowKit Go.Shelf
def unitD (la lb nc cell : Nat) : CurD := ⟨List.replicate la 0, List.replicate lb 0, (List.replicate nc 0).set cell 1⟩
end
end Go.Proofs.YthggkidiidnaoaaGreatDoor
