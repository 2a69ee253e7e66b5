/-
  DERIVED. GIVEN WITH THE SEED: THE CARDS: each row of YtjjajleiladbhaaGreatDoorRows.lean that lists a variable, with what it lists TIED to the program's text (the seventh form; the later family's looks); each row that meets fmt, with fmt's text TOLD by the authors' own Lean function (tested against real Go, not proved from fmt's source: count such statements apart). THE CARD IS WHAT COUNTS. Prove the row's statement (the work); the ties are given (YtjjajleiladbhaaGreatDoorTie.lean); close each card by the builder's one call (the guide's Derived/Test/ToyasCard.lean, 'card_holds'). Laid BY PROGRAM, IN A SANDBOX (cutbox-door.mjs). By AI agents, Wed Nov 11 2026. No macro, syntax, notation, axiom, sorry.
-/
import Derived.Test.YtjjajleiladbhaaGreatDoorRows
import GoSem.ClaimSeven
namespace Go.Proofs.YtjjajleiladbhaaGreatDoor
namespace Rows

/-- THE TIED CARD OF 'shotdesklaw02.MachineChecks'. -/
def machineChecksCard : Claim7 := { stood := { row := machineChecksRow, standIns := [], harness := (true, "71aa17a889964848eee95140eaa2fdbe019e45babca8ce13b31e466ca80d30ef"), looks := true }, kinds := [], alts := [], laidByText := true, laidKinds := [.data, .data, .data, .data, .sentinel, .sentinel, .data, .pinned], laidTests := true, laidLooks := .later }
def MachineChecksCardSaid : Prop := Claim7.holds Tryz.pinned (.plain (OpenSpec.ofChange machineChecksSpec)) machineChecksCard

/-- THE TIED CARD OF 'shotdesklaw02.MachineFinds'. -/
def machineFindsCard : Claim7 := { stood := { row := machineFindsRow, standIns := [], harness := (true, "71aa17a889964848eee95140eaa2fdbe019e45babca8ce13b31e466ca80d30ef"), looks := true }, kinds := [], alts := [], laidByText := true, laidKinds := [.data, .data, .data, .data, .sentinel, .sentinel, .data, .pinned], laidTests := true, laidLooks := .later }
def MachineFindsCardSaid : Prop := Claim7.holds Tryz.pinned (.plain (OpenSpec.ofChange machineFindsSpec)) machineFindsCard

/-- THE TIED CARD OF 'shotdesklaw02.MachineInfluences'. -/
def machineInfluencesCard : Claim7 := { stood := { row := machineInfluencesRow, standIns := [], harness := (true, "71aa17a889964848eee95140eaa2fdbe019e45babca8ce13b31e466ca80d30ef"), looks := true }, kinds := [], alts := [], laidByText := true, laidKinds := [.data, .data, .data, .data, .sentinel, .sentinel, .data, .pinned], laidTests := true, laidLooks := .later }
def MachineInfluencesCardSaid : Prop := Claim7.holds Tryz.pinned (.plain (OpenSpec.ofChange machineInfluencesSpec)) machineInfluencesCard

/-- THE TIED CARD OF 'shotdesklaw02.MachineCurrents'. -/
def machineCurrentsCard : Claim7 := { stood := { row := machineCurrentsRow, standIns := [], harness := (true, "71aa17a889964848eee95140eaa2fdbe019e45babca8ce13b31e466ca80d30ef"), looks := true }, kinds := [], alts := [], laidByText := true, laidKinds := [.data, .data, .data, .data, .sentinel, .sentinel, .data, .pinned], laidTests := true, laidLooks := .later }
def MachineCurrentsCardSaid : Prop := Claim7.holds Tryz.pinned (.plain (OpenSpec.ofChange machineCurrentsSpec)) machineCurrentsCard

/-- THE TIED CARD OF 'shotdesklaw02.MachineFluxes'. -/
def machineFluxesCard : Claim7 := { stood := { row := machineFluxesRow, standIns := [], harness := (true, "71aa17a889964848eee95140eaa2fdbe019e45babca8ce13b31e466ca80d30ef"), looks := true }, kinds := [], alts := [], laidByText := true, laidKinds := [.data, .data, .data, .data, .sentinel, .sentinel, .data, .pinned], laidTests := true, laidLooks := .later }
def MachineFluxesCardSaid : Prop := Claim7.holds Tryz.pinned (.plain (OpenSpec.ofChange machineFluxesSpec)) machineFluxesCard

/-- THE TIED CARD OF 'shotdesklaw02.MachineForces'. -/
def machineForcesCard : Claim7 := { stood := { row := machineForcesRow, standIns := [], harness := (true, "71aa17a889964848eee95140eaa2fdbe019e45babca8ce13b31e466ca80d30ef"), looks := true }, kinds := [], alts := [], laidByText := true, laidKinds := [.data, .data, .data, .data, .sentinel, .sentinel, .data, .pinned], laidTests := true, laidLooks := .later }
def MachineForcesCardSaid : Prop := Claim7.holds Tryz.pinned (.plain (OpenSpec.ofChange machineForcesSpec)) machineForcesCard

/-- THE TIED CARD OF 'shotdesklaw02.MachineLinear'. -/
def machineLinearCard : Claim7 := { stood := { row := machineLinearRow, standIns := [], harness := (true, "71aa17a889964848eee95140eaa2fdbe019e45babca8ce13b31e466ca80d30ef"), looks := true }, kinds := [], alts := [], laidByText := true, laidKinds := [.data, .data, .data, .data, .sentinel, .sentinel, .data, .pinned], laidTests := true, laidLooks := .later }
def MachineLinearCardSaid : Prop := Claim7.holds Tryz.pinned (.plain (OpenSpec.ofChange machineLinearSpec)) machineLinearCard

/-- THE TIED CARD OF 'shotdesklaw02.MachineMirrors'. -/
def machineMirrorsCard : Claim7 := { stood := { row := machineMirrorsRow, standIns := [], harness := (true, "71aa17a889964848eee95140eaa2fdbe019e45babca8ce13b31e466ca80d30ef"), looks := true }, kinds := [], alts := [], laidByText := true, laidKinds := [.data, .data, .data, .data, .sentinel, .sentinel, .data, .pinned], laidTests := true, laidLooks := .later }
def MachineMirrorsCardSaid : Prop := Claim7.holds Tryz.pinned (.plain (OpenSpec.ofChange machineMirrorsSpec)) machineMirrorsCard

/-- THE TIED CARD OF 'shotdesklaw02.MachineMirrored'. -/
def machineMirroredCard : Claim7 := { stood := { row := machineMirroredRow, standIns := [], harness := (true, "71aa17a889964848eee95140eaa2fdbe019e45babca8ce13b31e466ca80d30ef"), looks := true }, kinds := [], alts := [], laidByText := true, laidKinds := [.data, .data, .data, .data, .sentinel, .sentinel, .data, .pinned], laidTests := true, laidLooks := .later }
def MachineMirroredCardSaid : Prop := Claim7.holds Tryz.pinned (.plain (OpenSpec.ofChange machineMirroredSpec)) machineMirroredCard

/-- THE TIED CARD OF 'shotdesklaw02.MachinePaths'. -/
def machinePathsCard : Claim7 := { stood := { row := machinePathsRow, standIns := [], harness := (true, "71aa17a889964848eee95140eaa2fdbe019e45babca8ce13b31e466ca80d30ef"), looks := true }, kinds := [], alts := [], laidByText := true, laidKinds := [.data, .data, .data, .data, .sentinel, .sentinel, .data, .pinned], laidTests := true, laidLooks := .later }
def MachinePathsCardSaid : Prop := Claim7.holds Tryz.pinned (.plain (OpenSpec.ofChange machinePathsSpec)) machinePathsCard

/-- THE TIED CARD OF 'shotdesklaw02.MachineSelf'. -/
def machineSelfCard : Claim7 := { stood := { row := machineSelfRow, standIns := [], harness := (true, "71aa17a889964848eee95140eaa2fdbe019e45babca8ce13b31e466ca80d30ef"), looks := true }, kinds := [], alts := [], laidByText := true, laidKinds := [.data, .data, .data, .data, .sentinel, .sentinel, .data, .pinned], laidTests := true, laidLooks := .later }
def MachineSelfCardSaid : Prop := Claim7.holds Tryz.pinned (.plain (OpenSpec.ofChange machineSelfSpec)) machineSelfCard

/-- THE SECOND FORM's CARD OF 'shotdesklaw02.MachineChecks'. -/
def machineChecksUptoCard : Claim7 := { stood := { row := machineChecksUptoRow, standIns := [], harness := (true, "71aa17a889964848eee95140eaa2fdbe019e45babca8ce13b31e466ca80d30ef"), looks := true }, kinds := [], alts := [], laidByText := true, laidKinds := [.data, .data, .data, .data, .sentinel, .sentinel, .data, .pinned], laidTests := true, laidLooks := .later }
def MachineChecksUptoCardSaid : Prop := Claim7.holds Tryz.pinned (.plain (OpenSpec.upto machineChecksSpec)) machineChecksUptoCard

/-- THE SECOND FORM's CARD OF 'shotdesklaw02.MachineFinds'. -/
def machineFindsUptoCard : Claim7 := { stood := { row := machineFindsUptoRow, standIns := [], harness := (true, "71aa17a889964848eee95140eaa2fdbe019e45babca8ce13b31e466ca80d30ef"), looks := true }, kinds := [], alts := [], laidByText := true, laidKinds := [.data, .data, .data, .data, .sentinel, .sentinel, .data, .pinned], laidTests := true, laidLooks := .later }
def MachineFindsUptoCardSaid : Prop := Claim7.holds Tryz.pinned (.plain (OpenSpec.upto machineFindsSpec)) machineFindsUptoCard

/-- THE SECOND FORM's CARD OF 'shotdesklaw02.MachineInfluences'. -/
def machineInfluencesUptoCard : Claim7 := { stood := { row := machineInfluencesUptoRow, standIns := [], harness := (true, "71aa17a889964848eee95140eaa2fdbe019e45babca8ce13b31e466ca80d30ef"), looks := true }, kinds := [], alts := [], laidByText := true, laidKinds := [.data, .data, .data, .data, .sentinel, .sentinel, .data, .pinned], laidTests := true, laidLooks := .later }
def MachineInfluencesUptoCardSaid : Prop := Claim7.holds Tryz.pinned (.plain (OpenSpec.upto machineInfluencesSpec)) machineInfluencesUptoCard

/-- THE SECOND FORM's CARD OF 'shotdesklaw02.MachineCurrents'. -/
def machineCurrentsUptoCard : Claim7 := { stood := { row := machineCurrentsUptoRow, standIns := [], harness := (true, "71aa17a889964848eee95140eaa2fdbe019e45babca8ce13b31e466ca80d30ef"), looks := true }, kinds := [], alts := [], laidByText := true, laidKinds := [.data, .data, .data, .data, .sentinel, .sentinel, .data, .pinned], laidTests := true, laidLooks := .later }
def MachineCurrentsUptoCardSaid : Prop := Claim7.holds Tryz.pinned (.plain (OpenSpec.upto machineCurrentsSpec)) machineCurrentsUptoCard

/-- THE SECOND FORM's CARD OF 'shotdesklaw02.MachineFluxes'. -/
def machineFluxesUptoCard : Claim7 := { stood := { row := machineFluxesUptoRow, standIns := [], harness := (true, "71aa17a889964848eee95140eaa2fdbe019e45babca8ce13b31e466ca80d30ef"), looks := true }, kinds := [], alts := [], laidByText := true, laidKinds := [.data, .data, .data, .data, .sentinel, .sentinel, .data, .pinned], laidTests := true, laidLooks := .later }
def MachineFluxesUptoCardSaid : Prop := Claim7.holds Tryz.pinned (.plain (OpenSpec.upto machineFluxesSpec)) machineFluxesUptoCard

/-- THE SECOND FORM's CARD OF 'shotdesklaw02.MachineForces'. -/
def machineForcesUptoCard : Claim7 := { stood := { row := machineForcesUptoRow, standIns := [], harness := (true, "71aa17a889964848eee95140eaa2fdbe019e45babca8ce13b31e466ca80d30ef"), looks := true }, kinds := [], alts := [], laidByText := true, laidKinds := [.data, .data, .data, .data, .sentinel, .sentinel, .data, .pinned], laidTests := true, laidLooks := .later }
def MachineForcesUptoCardSaid : Prop := Claim7.holds Tryz.pinned (.plain (OpenSpec.upto machineForcesSpec)) machineForcesUptoCard

/-- THE SECOND FORM's CARD OF 'shotdesklaw02.MachineLinear'. -/
def machineLinearUptoCard : Claim7 := { stood := { row := machineLinearUptoRow, standIns := [], harness := (true, "71aa17a889964848eee95140eaa2fdbe019e45babca8ce13b31e466ca80d30ef"), looks := true }, kinds := [], alts := [], laidByText := true, laidKinds := [.data, .data, .data, .data, .sentinel, .sentinel, .data, .pinned], laidTests := true, laidLooks := .later }
def MachineLinearUptoCardSaid : Prop := Claim7.holds Tryz.pinned (.plain (OpenSpec.upto machineLinearSpec)) machineLinearUptoCard

/-- THE SECOND FORM's CARD OF 'shotdesklaw02.MachineMirrors'. -/
def machineMirrorsUptoCard : Claim7 := { stood := { row := machineMirrorsUptoRow, standIns := [], harness := (true, "71aa17a889964848eee95140eaa2fdbe019e45babca8ce13b31e466ca80d30ef"), looks := true }, kinds := [], alts := [], laidByText := true, laidKinds := [.data, .data, .data, .data, .sentinel, .sentinel, .data, .pinned], laidTests := true, laidLooks := .later }
def MachineMirrorsUptoCardSaid : Prop := Claim7.holds Tryz.pinned (.plain (OpenSpec.upto machineMirrorsSpec)) machineMirrorsUptoCard

/-- THE SECOND FORM's CARD OF 'shotdesklaw02.MachineMirrored'. -/
def machineMirroredUptoCard : Claim7 := { stood := { row := machineMirroredUptoRow, standIns := [], harness := (true, "71aa17a889964848eee95140eaa2fdbe019e45babca8ce13b31e466ca80d30ef"), looks := true }, kinds := [], alts := [], laidByText := true, laidKinds := [.data, .data, .data, .data, .sentinel, .sentinel, .data, .pinned], laidTests := true, laidLooks := .later }
def MachineMirroredUptoCardSaid : Prop := Claim7.holds Tryz.pinned (.plain (OpenSpec.upto machineMirroredSpec)) machineMirroredUptoCard

/-- THE SECOND FORM's CARD OF 'shotdesklaw02.MachinePaths'. -/
def machinePathsUptoCard : Claim7 := { stood := { row := machinePathsUptoRow, standIns := [], harness := (true, "71aa17a889964848eee95140eaa2fdbe019e45babca8ce13b31e466ca80d30ef"), looks := true }, kinds := [], alts := [], laidByText := true, laidKinds := [.data, .data, .data, .data, .sentinel, .sentinel, .data, .pinned], laidTests := true, laidLooks := .later }
def MachinePathsUptoCardSaid : Prop := Claim7.holds Tryz.pinned (.plain (OpenSpec.upto machinePathsSpec)) machinePathsUptoCard

/-- THE SECOND FORM's CARD OF 'shotdesklaw02.MachineSelf'. -/
def machineSelfUptoCard : Claim7 := { stood := { row := machineSelfUptoRow, standIns := [], harness := (true, "71aa17a889964848eee95140eaa2fdbe019e45babca8ce13b31e466ca80d30ef"), looks := true }, kinds := [], alts := [], laidByText := true, laidKinds := [.data, .data, .data, .data, .sentinel, .sentinel, .data, .pinned], laidTests := true, laidLooks := .later }
def MachineSelfUptoCardSaid : Prop := Claim7.holds Tryz.pinned (.plain (OpenSpec.upto machineSelfSpec)) machineSelfUptoCard
end Rows
end Go.Proofs.YtjjajleiladbhaaGreatDoor
