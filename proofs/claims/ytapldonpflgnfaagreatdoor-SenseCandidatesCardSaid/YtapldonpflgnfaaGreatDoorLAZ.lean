import Derived.Test.YtapldonpflgnfaaGreatDoorLAQ
import Derived.Test.YtapldonpflgnfaaGreatDoorLAV
import Derived.Test.YtapldonpflgnfaaGreatDoorLAY
namespace Go.Proofs.YtapldonpflgnfaaGreatDoor
set_option linter.unusedVariables false
set_option linter.unusedSimpArgs false
section
open Go.RowKit Go.Shelf
structure QuietAt (B : Nat) (w' : World) (pa la pb lb pc nc : Nat) : Prop where
 coils : ZeroL pa la w'
 shells : ZeroL pb lb w'
 cells : ZeroL pc nc w'
 base : B ≤ pa ∧ B ≤ pb ∧ B ≤ pc
 apart : pa ≠ pc ∧ pb ≠ pc ∧ pa ≠ pb
def Quiet (la lb nc : Nat) (w : World) (e : Ending) (w' : World) : Prop :=
 ∃ (pa pb pc : Nat), e = .returned (.agg #[.slice (some ⟨pa, 0, none⟩) la la, .slice (some ⟨pb, 0, none⟩) lb lb, .slice (some ⟨pc, 0, none⟩) nc nc]) ∧ QuietAt w.heap.size w' pa la pb lb pc nc ∧ Below w.heap.size w w'
end
section
open Go.RowKit Go.Shelf
def sensP (S : List Src) (x : SensorD) : Int := if x.kind = 1 then fluxP (x.r, x.z) S else if x.kind = 2 then (fieldP (x.r, x.z) S).1 else (fieldP (x.r, x.z) S).2
def exactL (M : MachD) (C : CurD) (i : Int) : Int × Int :=
 if validC M C = true then if wthn i 0 ((M.sensors.length : Int) - 1) = true then match M.sensors[i.toNat]? with
  | some x => (sensP (srcM M C) x, 0)
  | none => (0, 7)
 else (0, 7) else (0, 1)
end
end Go.Proofs.YtapldonpflgnfaaGreatDoor
