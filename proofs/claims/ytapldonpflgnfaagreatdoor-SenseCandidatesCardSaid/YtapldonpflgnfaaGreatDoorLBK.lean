import Derived.Test.YtapldonpflgnfaaGreatDoorLBA
import Derived.Test.YtapldonpflgnfaaGreatDoorLBJ
namespace Go.Proofs.YtapldonpflgnfaaGreatDoor
set_option linter.unusedVariables false
set_option linter.unusedSimpArgs false
section
open Go.RowKit Go.Shelf
def AgIt (b1 b2 n cf : Nat) (F : Option Addr) (zs : List SpanD) (cur : Int) (w : World) : Prop :=
 IsT 2 SpanD.cells w F n zs ∧ w.cell? ⟨b1, 0, none⟩ = some (.slice F n cf) ∧ w.cell? ⟨b2, 0, none⟩ = some (.int .i64 cur) ∧ b1 < w.heap.size ∧ b2 < w.heap.size
theorem AgIt.below {b1 b2 n cf : Nat} {F : Option Addr} {zs : List SpanD} {cur : Int} {w w' : World} (h : AgIt b1 b2 n cf F zs cur w) (hb : Below w.heap.size w w') : AgIt b1 b2 n cf F zs cur w' :=
 ⟨h.1.below hb, (hb.cell (p := ⟨b1, 0, none⟩) h.2.2.2.1).trans h.2.1, (hb.cell (p := ⟨b2, 0, none⟩) h.2.2.2.2).trans h.2.2.1, Nat.lt_of_lt_of_le h.2.2.2.1 hb.size, Nat.lt_of_lt_of_le h.2.2.2.2 hb.size⟩
end
end Go.Proofs.YtapldonpflgnfaaGreatDoor
