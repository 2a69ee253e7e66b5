/-
  NARROWER THAN 'FOR EVERY INPUT', by the rows' own cells (each row's printed sentence says how): MachineChecks: laid · MachineFinds: laid · MachineInfluences: laid · MachineCurrents: laid · MachineFluxes: laid · MachineForces: laid · MachineLinear: laid · MachineMirrors: laid · MachineMirrored: laid · MachinePaths: laid · MachineSelf: laid.
  DERIVED. THE GIVEN ROWS OF THIS SEAT. 11 by the template 'for every input the law returns true; each argument reads behind the call as it read before'; 0 by the template 'total and deterministic' (their statements: YtjjajleiladbhaaGreatDoorTotals.lean).
  GIVEN WITH THE SEED: the statements are not yours to turn. If you find one false, say at which input.
  Laid BY PROGRAM, IN A SANDBOX (cutbox-rows.mjs): the forced cells as the released guide's own fill.sh prints them over the translation 5c984554e4e3ba5f… (all of the seat's roots in one cut). By AI agents, Wed Nov 11 2026. No macro, syntax, notation, axiom, sorry.
-/
import Derived.Test.YtjjajleiladbhaaGreatDoorChecked
import GoSem.PinnedTables
import GoSem.Claim
import GoSem.ClaimJoined
import GoSem.ClaimMapViews
import Derived.JoinedTies
import Derived.KernelRfl
namespace Go.Proofs.YtjjajleiladbhaaGreatDoor
/- THE CELL 'sum', in the pinned program and in every row, IS THE sha256 OF THE DUMP (.gsa) THAT YtjjajleiladbhaaGreatDoorProg.lean LOADS. Nothing in Lean hashes anything: it is a label: what it is worth is what the hold of that sum in a sandbox is worth. -/
noncomputable def Tryz.pinned : Pinned := { name := "ytjjajleiladbhaagreatdoor", sum := "5c984554e4e3ba5f77c6c0136fb4529d375d227ba76843be4182e986e1a3a455", checked := Tryz.checked }
namespace Rows
def none {H : Type} : Left H := { results := [], args := [] }

/- WHAT THE LISTED PACKAGE-LEVEL VARIABLES READ AS WHEN THE CALL BEGINS. Each datum BY PROGRAM (the guide's laid-datum.mjs) off the statement by which the dump's own 'gosem.cut.vars' lays the variable. In a bare row this is a premise. The card (YtjjajleiladbhaaGreatDoorCards.lean) ties it to the program's text. -/
def laid_math_bits_deBruijn32tab {H : Type} : DataW H := .agg [.lit (.int .u8 0), .lit (.int .u8 1), .lit (.int .u8 28), .lit (.int .u8 2), .lit (.int .u8 29), .lit (.int .u8 14), .lit (.int .u8 24), .lit (.int .u8 3), .lit (.int .u8 30), .lit (.int .u8 22), .lit (.int .u8 20), .lit (.int .u8 15), .lit (.int .u8 25), .lit (.int .u8 17), .lit (.int .u8 4), .lit (.int .u8 8), .lit (.int .u8 31), .lit (.int .u8 27), .lit (.int .u8 13), .lit (.int .u8 23), .lit (.int .u8 21), .lit (.int .u8 19), .lit (.int .u8 16), .lit (.int .u8 7), .lit (.int .u8 26), .lit (.int .u8 12), .lit (.int .u8 18), .lit (.int .u8 6), .lit (.int .u8 11), .lit (.int .u8 5), .lit (.int .u8 10), .lit (.int .u8 9)]
def laid_math_bits_deBruijn64tab {H : Type} : DataW H := .agg [.lit (.int .u8 0), .lit (.int .u8 1), .lit (.int .u8 56), .lit (.int .u8 2), .lit (.int .u8 57), .lit (.int .u8 49), .lit (.int .u8 28), .lit (.int .u8 3), .lit (.int .u8 61), .lit (.int .u8 58), .lit (.int .u8 42), .lit (.int .u8 50), .lit (.int .u8 38), .lit (.int .u8 29), .lit (.int .u8 17), .lit (.int .u8 4), .lit (.int .u8 62), .lit (.int .u8 47), .lit (.int .u8 59), .lit (.int .u8 36), .lit (.int .u8 45), .lit (.int .u8 43), .lit (.int .u8 51), .lit (.int .u8 22), .lit (.int .u8 53), .lit (.int .u8 39), .lit (.int .u8 33), .lit (.int .u8 30), .lit (.int .u8 24), .lit (.int .u8 18), .lit (.int .u8 12), .lit (.int .u8 5), .lit (.int .u8 63), .lit (.int .u8 55), .lit (.int .u8 48), .lit (.int .u8 27), .lit (.int .u8 60), .lit (.int .u8 41), .lit (.int .u8 37), .lit (.int .u8 16), .lit (.int .u8 46), .lit (.int .u8 35), .lit (.int .u8 44), .lit (.int .u8 21), .lit (.int .u8 52), .lit (.int .u8 32), .lit (.int .u8 23), .lit (.int .u8 11), .lit (.int .u8 54), .lit (.int .u8 26), .lit (.int .u8 40), .lit (.int .u8 15), .lit (.int .u8 34), .lit (.int .u8 20), .lit (.int .u8 31), .lit (.int .u8 10), .lit (.int .u8 25), .lit (.int .u8 14), .lit (.int .u8 19), .lit (.int .u8 9), .lit (.int .u8 13), .lit (.int .u8 8), .lit (.int .u8 7), .lit (.int .u8 6)]
def laid_internal_strconv_uint64pow10 {H : Type} : DataW H := .agg [.lit (.int .u64 1), .lit (.int .u64 10), .lit (.int .u64 100), .lit (.int .u64 1000), .lit (.int .u64 10000), .lit (.int .u64 100000), .lit (.int .u64 1000000), .lit (.int .u64 10000000), .lit (.int .u64 100000000), .lit (.int .u64 1000000000), .lit (.int .u64 10000000000), .lit (.int .u64 100000000000), .lit (.int .u64 1000000000000), .lit (.int .u64 10000000000000), .lit (.int .u64 100000000000000), .lit (.int .u64 1000000000000000), .lit (.int .u64 10000000000000000), .lit (.int .u64 100000000000000000), .lit (.int .u64 1000000000000000000), .lit (.int .u64 10000000000000000000)]
def laid_unicode_utf8_acceptRanges {H : Type} : DataW H := .agg [.agg [.lit (.int .u8 128), .lit (.int .u8 191)], .agg [.lit (.int .u8 160), .lit (.int .u8 191)], .agg [.lit (.int .u8 128), .lit (.int .u8 159)], .agg [.lit (.int .u8 144), .lit (.int .u8 191)], .agg [.lit (.int .u8 128), .lit (.int .u8 143)], .agg [.lit (.int .u8 0), .lit (.int .u8 0)], .agg [.lit (.int .u8 0), .lit (.int .u8 0)], .agg [.lit (.int .u8 0), .lit (.int .u8 0)], .agg [.lit (.int .u8 0), .lit (.int .u8 0)], .agg [.lit (.int .u8 0), .lit (.int .u8 0)], .agg [.lit (.int .u8 0), .lit (.int .u8 0)], .agg [.lit (.int .u8 0), .lit (.int .u8 0)], .agg [.lit (.int .u8 0), .lit (.int .u8 0)], .agg [.lit (.int .u8 0), .lit (.int .u8 0)], .agg [.lit (.int .u8 0), .lit (.int .u8 0)], .agg [.lit (.int .u8 0), .lit (.int .u8 0)]]
def laid_strconv_ErrRange {H : Type} : DataW H := .iface "*errors.errorString" (.ptr (.agg [.lit (.string [118, 97, 108, 117, 101, 32, 111, 117, 116, 32, 111, 102, 32, 114, 97, 110, 103, 101])]))
def laid_strconv_ErrSyntax {H : Type} : DataW H := .iface "*errors.errorString" (.ptr (.agg [.lit (.string [105, 110, 118, 97, 108, 105, 100, 32, 115, 121, 110, 116, 97, 120])]))
def laid_shotdesk_machine_kindWords {H : Type} : DataW H := .agg [.lit (.string [102, 108, 117, 120]), .lit (.string [114, 97, 100, 105, 97, 108]), .lit (.string [118, 101, 114, 116, 105, 99, 97, 108])]
/-- One of Go's own tables, pinned by name: the form's constant. -/
def laid_unicode_utf8_first : DataW Unit := Go.Pinned.utf8First

/-- 'shotdesklaw02.MachineChecks': WHATEVER THE INPUT: true; the input reads as it did. -/
def machineChecksSpec : ChangeSpec := { name := "machineChecks", fn := fun _ => fun
  | [d1, d2] => { results := [.lit (.bool true)], args := [d1, d2] }
  | _ => none }
def machineChecksRow : OpenClaim := { program := "ytjjajleiladbhaagreatdoor", sum := "5c984554e4e3ba5f77c6c0136fb4529d375d227ba76843be4182e986e1a3a455", func := "shotdesk/shotdesklaw02.MachineChecks", spec := "machineChecks", inPlace := ["internal/bytealg.IndexByteString", "internal/bytealg.IndexString", "internal/bytealg.CountString"], unfollowed := true, recurses := true, named := ["strconv.ErrSyntax", "strconv.ErrRange", "internal/strconv.uint64pow10", "math/bits.deBruijn32tab", "math/bits.deBruijn64tab", "shotdesk/machine.kindWords", "internal/bytealg.MaxLen", "unicode/utf8.first", "unicode/utf8.acceptRanges"], apart := false, laid := [("math/bits.deBruijn32tab", laid_math_bits_deBruijn32tab), ("math/bits.deBruijn64tab", laid_math_bits_deBruijn64tab), ("internal/strconv.uint64pow10", laid_internal_strconv_uint64pow10), ("unicode/utf8.acceptRanges", laid_unicode_utf8_acceptRanges), ("strconv.ErrRange", laid_strconv_ErrRange), ("strconv.ErrSyntax", laid_strconv_ErrSyntax), ("shotdesk/machine.kindWords", laid_shotdesk_machine_kindWords), ("unicode/utf8.first", laid_unicode_utf8_first)] }
def MachineChecksSaid : Prop := machineChecksRow.holds Tryz.pinned (OpenSpec.ofChange machineChecksSpec)

/-- ITS FALSE NEIGHBOUR: 'it returns false'. Refute it at one input. -/
def machineChecksWrong : ChangeSpec := { name := "machineChecks", fn := fun _ => fun
  | [d1, d2] => { results := [.lit (.bool false)], args := [d1, d2] }
  | _ => none }
def MachineChecksWrongFalsely : Prop := machineChecksRow.holds Tryz.pinned (OpenSpec.ofChange machineChecksWrong)

/-- 'shotdesklaw02.MachineFinds': WHATEVER THE INPUT: true; the input reads as it did. -/
def machineFindsSpec : ChangeSpec := { name := "machineFinds", fn := fun _ => fun
  | [d1, d2, d3] => { results := [.lit (.bool true)], args := [d1, d2, d3] }
  | _ => none }
def machineFindsRow : OpenClaim := { program := "ytjjajleiladbhaagreatdoor", sum := "5c984554e4e3ba5f77c6c0136fb4529d375d227ba76843be4182e986e1a3a455", func := "shotdesk/shotdesklaw02.MachineFinds", spec := "machineFinds", inPlace := ["internal/bytealg.IndexByteString", "internal/bytealg.IndexString", "internal/bytealg.CountString"], unfollowed := true, recurses := true, named := ["strconv.ErrSyntax", "strconv.ErrRange", "internal/strconv.uint64pow10", "math/bits.deBruijn32tab", "math/bits.deBruijn64tab", "shotdesk/machine.kindWords", "internal/bytealg.MaxLen", "unicode/utf8.first", "unicode/utf8.acceptRanges"], apart := false, laid := [("math/bits.deBruijn32tab", laid_math_bits_deBruijn32tab), ("math/bits.deBruijn64tab", laid_math_bits_deBruijn64tab), ("internal/strconv.uint64pow10", laid_internal_strconv_uint64pow10), ("unicode/utf8.acceptRanges", laid_unicode_utf8_acceptRanges), ("strconv.ErrRange", laid_strconv_ErrRange), ("strconv.ErrSyntax", laid_strconv_ErrSyntax), ("shotdesk/machine.kindWords", laid_shotdesk_machine_kindWords), ("unicode/utf8.first", laid_unicode_utf8_first)] }
def MachineFindsSaid : Prop := machineFindsRow.holds Tryz.pinned (OpenSpec.ofChange machineFindsSpec)

/-- ITS FALSE NEIGHBOUR: 'it returns false'. Refute it at one input. -/
def machineFindsWrong : ChangeSpec := { name := "machineFinds", fn := fun _ => fun
  | [d1, d2, d3] => { results := [.lit (.bool false)], args := [d1, d2, d3] }
  | _ => none }
def MachineFindsWrongFalsely : Prop := machineFindsRow.holds Tryz.pinned (OpenSpec.ofChange machineFindsWrong)

/-- 'shotdesklaw02.MachineInfluences': WHATEVER THE INPUT: true; the input reads as it did. -/
def machineInfluencesSpec : ChangeSpec := { name := "machineInfluences", fn := fun _ => fun
  | [d1, d2, d3] => { results := [.lit (.bool true)], args := [d1, d2, d3] }
  | _ => none }
def machineInfluencesRow : OpenClaim := { program := "ytjjajleiladbhaagreatdoor", sum := "5c984554e4e3ba5f77c6c0136fb4529d375d227ba76843be4182e986e1a3a455", func := "shotdesk/shotdesklaw02.MachineInfluences", spec := "machineInfluences", inPlace := ["internal/bytealg.IndexByteString", "internal/bytealg.IndexString", "internal/bytealg.CountString"], unfollowed := true, recurses := true, named := ["strconv.ErrSyntax", "strconv.ErrRange", "internal/strconv.uint64pow10", "math/bits.deBruijn32tab", "math/bits.deBruijn64tab", "shotdesk/machine.kindWords", "internal/bytealg.MaxLen", "unicode/utf8.first", "unicode/utf8.acceptRanges"], apart := false, laid := [("math/bits.deBruijn32tab", laid_math_bits_deBruijn32tab), ("math/bits.deBruijn64tab", laid_math_bits_deBruijn64tab), ("internal/strconv.uint64pow10", laid_internal_strconv_uint64pow10), ("unicode/utf8.acceptRanges", laid_unicode_utf8_acceptRanges), ("strconv.ErrRange", laid_strconv_ErrRange), ("strconv.ErrSyntax", laid_strconv_ErrSyntax), ("shotdesk/machine.kindWords", laid_shotdesk_machine_kindWords), ("unicode/utf8.first", laid_unicode_utf8_first)] }
def MachineInfluencesSaid : Prop := machineInfluencesRow.holds Tryz.pinned (OpenSpec.ofChange machineInfluencesSpec)

/-- ITS FALSE NEIGHBOUR: 'it returns false'. Refute it at one input. -/
def machineInfluencesWrong : ChangeSpec := { name := "machineInfluences", fn := fun _ => fun
  | [d1, d2, d3] => { results := [.lit (.bool false)], args := [d1, d2, d3] }
  | _ => none }
def MachineInfluencesWrongFalsely : Prop := machineInfluencesRow.holds Tryz.pinned (OpenSpec.ofChange machineInfluencesWrong)

/-- 'shotdesklaw02.MachineCurrents': WHATEVER THE INPUT: true; the input reads as it did. -/
def machineCurrentsSpec : ChangeSpec := { name := "machineCurrents", fn := fun _ => fun
  | [d1, d2] => { results := [.lit (.bool true)], args := [d1, d2] }
  | _ => none }
def machineCurrentsRow : OpenClaim := { program := "ytjjajleiladbhaagreatdoor", sum := "5c984554e4e3ba5f77c6c0136fb4529d375d227ba76843be4182e986e1a3a455", func := "shotdesk/shotdesklaw02.MachineCurrents", spec := "machineCurrents", inPlace := ["internal/bytealg.IndexByteString", "internal/bytealg.IndexString", "internal/bytealg.CountString"], unfollowed := true, recurses := true, named := ["strconv.ErrSyntax", "strconv.ErrRange", "internal/strconv.uint64pow10", "math/bits.deBruijn32tab", "math/bits.deBruijn64tab", "shotdesk/machine.kindWords", "internal/bytealg.MaxLen", "unicode/utf8.first", "unicode/utf8.acceptRanges"], apart := false, laid := [("math/bits.deBruijn32tab", laid_math_bits_deBruijn32tab), ("math/bits.deBruijn64tab", laid_math_bits_deBruijn64tab), ("internal/strconv.uint64pow10", laid_internal_strconv_uint64pow10), ("unicode/utf8.acceptRanges", laid_unicode_utf8_acceptRanges), ("strconv.ErrRange", laid_strconv_ErrRange), ("strconv.ErrSyntax", laid_strconv_ErrSyntax), ("shotdesk/machine.kindWords", laid_shotdesk_machine_kindWords), ("unicode/utf8.first", laid_unicode_utf8_first)] }
def MachineCurrentsSaid : Prop := machineCurrentsRow.holds Tryz.pinned (OpenSpec.ofChange machineCurrentsSpec)

/-- ITS FALSE NEIGHBOUR: 'it returns false'. Refute it at one input. -/
def machineCurrentsWrong : ChangeSpec := { name := "machineCurrents", fn := fun _ => fun
  | [d1, d2] => { results := [.lit (.bool false)], args := [d1, d2] }
  | _ => none }
def MachineCurrentsWrongFalsely : Prop := machineCurrentsRow.holds Tryz.pinned (OpenSpec.ofChange machineCurrentsWrong)

/-- 'shotdesklaw02.MachineFluxes': WHATEVER THE INPUT: true; the input reads as it did. -/
def machineFluxesSpec : ChangeSpec := { name := "machineFluxes", fn := fun _ => fun
  | [d1, d2, d3] => { results := [.lit (.bool true)], args := [d1, d2, d3] }
  | _ => none }
def machineFluxesRow : OpenClaim := { program := "ytjjajleiladbhaagreatdoor", sum := "5c984554e4e3ba5f77c6c0136fb4529d375d227ba76843be4182e986e1a3a455", func := "shotdesk/shotdesklaw02.MachineFluxes", spec := "machineFluxes", inPlace := ["internal/bytealg.IndexByteString", "internal/bytealg.IndexString", "internal/bytealg.CountString"], unfollowed := true, recurses := true, named := ["strconv.ErrSyntax", "strconv.ErrRange", "internal/strconv.uint64pow10", "math/bits.deBruijn32tab", "math/bits.deBruijn64tab", "shotdesk/machine.kindWords", "internal/bytealg.MaxLen", "unicode/utf8.first", "unicode/utf8.acceptRanges"], apart := false, laid := [("math/bits.deBruijn32tab", laid_math_bits_deBruijn32tab), ("math/bits.deBruijn64tab", laid_math_bits_deBruijn64tab), ("internal/strconv.uint64pow10", laid_internal_strconv_uint64pow10), ("unicode/utf8.acceptRanges", laid_unicode_utf8_acceptRanges), ("strconv.ErrRange", laid_strconv_ErrRange), ("strconv.ErrSyntax", laid_strconv_ErrSyntax), ("shotdesk/machine.kindWords", laid_shotdesk_machine_kindWords), ("unicode/utf8.first", laid_unicode_utf8_first)] }
def MachineFluxesSaid : Prop := machineFluxesRow.holds Tryz.pinned (OpenSpec.ofChange machineFluxesSpec)

/-- ITS FALSE NEIGHBOUR: 'it returns false'. Refute it at one input. -/
def machineFluxesWrong : ChangeSpec := { name := "machineFluxes", fn := fun _ => fun
  | [d1, d2, d3] => { results := [.lit (.bool false)], args := [d1, d2, d3] }
  | _ => none }
def MachineFluxesWrongFalsely : Prop := machineFluxesRow.holds Tryz.pinned (OpenSpec.ofChange machineFluxesWrong)

/-- 'shotdesklaw02.MachineForces': WHATEVER THE INPUT: true; the input reads as it did. -/
def machineForcesSpec : ChangeSpec := { name := "machineForces", fn := fun _ => fun
  | [d1, d2, d3] => { results := [.lit (.bool true)], args := [d1, d2, d3] }
  | _ => none }
def machineForcesRow : OpenClaim := { program := "ytjjajleiladbhaagreatdoor", sum := "5c984554e4e3ba5f77c6c0136fb4529d375d227ba76843be4182e986e1a3a455", func := "shotdesk/shotdesklaw02.MachineForces", spec := "machineForces", inPlace := ["internal/bytealg.IndexByteString", "internal/bytealg.IndexString", "internal/bytealg.CountString"], unfollowed := true, recurses := true, named := ["strconv.ErrSyntax", "strconv.ErrRange", "internal/strconv.uint64pow10", "math/bits.deBruijn32tab", "math/bits.deBruijn64tab", "shotdesk/machine.kindWords", "internal/bytealg.MaxLen", "unicode/utf8.first", "unicode/utf8.acceptRanges"], apart := false, laid := [("math/bits.deBruijn32tab", laid_math_bits_deBruijn32tab), ("math/bits.deBruijn64tab", laid_math_bits_deBruijn64tab), ("internal/strconv.uint64pow10", laid_internal_strconv_uint64pow10), ("unicode/utf8.acceptRanges", laid_unicode_utf8_acceptRanges), ("strconv.ErrRange", laid_strconv_ErrRange), ("strconv.ErrSyntax", laid_strconv_ErrSyntax), ("shotdesk/machine.kindWords", laid_shotdesk_machine_kindWords), ("unicode/utf8.first", laid_unicode_utf8_first)] }
def MachineForcesSaid : Prop := machineForcesRow.holds Tryz.pinned (OpenSpec.ofChange machineForcesSpec)

/-- ITS FALSE NEIGHBOUR: 'it returns false'. Refute it at one input. -/
def machineForcesWrong : ChangeSpec := { name := "machineForces", fn := fun _ => fun
  | [d1, d2, d3] => { results := [.lit (.bool false)], args := [d1, d2, d3] }
  | _ => none }
def MachineForcesWrongFalsely : Prop := machineForcesRow.holds Tryz.pinned (OpenSpec.ofChange machineForcesWrong)

/-- 'shotdesklaw02.MachineLinear': WHATEVER THE INPUT: true; the input reads as it did. -/
def machineLinearSpec : ChangeSpec := { name := "machineLinear", fn := fun _ => fun
  | [d1, d2, d3] => { results := [.lit (.bool true)], args := [d1, d2, d3] }
  | _ => none }
def machineLinearRow : OpenClaim := { program := "ytjjajleiladbhaagreatdoor", sum := "5c984554e4e3ba5f77c6c0136fb4529d375d227ba76843be4182e986e1a3a455", func := "shotdesk/shotdesklaw02.MachineLinear", spec := "machineLinear", inPlace := ["internal/bytealg.IndexByteString", "internal/bytealg.IndexString", "internal/bytealg.CountString"], unfollowed := true, recurses := true, named := ["strconv.ErrSyntax", "strconv.ErrRange", "internal/strconv.uint64pow10", "math/bits.deBruijn32tab", "math/bits.deBruijn64tab", "shotdesk/machine.kindWords", "internal/bytealg.MaxLen", "unicode/utf8.first", "unicode/utf8.acceptRanges"], apart := false, laid := [("math/bits.deBruijn32tab", laid_math_bits_deBruijn32tab), ("math/bits.deBruijn64tab", laid_math_bits_deBruijn64tab), ("internal/strconv.uint64pow10", laid_internal_strconv_uint64pow10), ("unicode/utf8.acceptRanges", laid_unicode_utf8_acceptRanges), ("strconv.ErrRange", laid_strconv_ErrRange), ("strconv.ErrSyntax", laid_strconv_ErrSyntax), ("shotdesk/machine.kindWords", laid_shotdesk_machine_kindWords), ("unicode/utf8.first", laid_unicode_utf8_first)] }
def MachineLinearSaid : Prop := machineLinearRow.holds Tryz.pinned (OpenSpec.ofChange machineLinearSpec)

/-- ITS FALSE NEIGHBOUR: 'it returns false'. Refute it at one input. -/
def machineLinearWrong : ChangeSpec := { name := "machineLinear", fn := fun _ => fun
  | [d1, d2, d3] => { results := [.lit (.bool false)], args := [d1, d2, d3] }
  | _ => none }
def MachineLinearWrongFalsely : Prop := machineLinearRow.holds Tryz.pinned (OpenSpec.ofChange machineLinearWrong)

/-- 'shotdesklaw02.MachineMirrors': WHATEVER THE INPUT: true; the input reads as it did. -/
def machineMirrorsSpec : ChangeSpec := { name := "machineMirrors", fn := fun _ => fun
  | [d1, d2] => { results := [.lit (.bool true)], args := [d1, d2] }
  | _ => none }
def machineMirrorsRow : OpenClaim := { program := "ytjjajleiladbhaagreatdoor", sum := "5c984554e4e3ba5f77c6c0136fb4529d375d227ba76843be4182e986e1a3a455", func := "shotdesk/shotdesklaw02.MachineMirrors", spec := "machineMirrors", inPlace := ["internal/bytealg.IndexByteString", "internal/bytealg.IndexString", "internal/bytealg.CountString"], unfollowed := true, recurses := true, named := ["strconv.ErrSyntax", "strconv.ErrRange", "internal/strconv.uint64pow10", "math/bits.deBruijn32tab", "math/bits.deBruijn64tab", "shotdesk/machine.kindWords", "internal/bytealg.MaxLen", "unicode/utf8.first", "unicode/utf8.acceptRanges"], apart := false, laid := [("math/bits.deBruijn32tab", laid_math_bits_deBruijn32tab), ("math/bits.deBruijn64tab", laid_math_bits_deBruijn64tab), ("internal/strconv.uint64pow10", laid_internal_strconv_uint64pow10), ("unicode/utf8.acceptRanges", laid_unicode_utf8_acceptRanges), ("strconv.ErrRange", laid_strconv_ErrRange), ("strconv.ErrSyntax", laid_strconv_ErrSyntax), ("shotdesk/machine.kindWords", laid_shotdesk_machine_kindWords), ("unicode/utf8.first", laid_unicode_utf8_first)] }
def MachineMirrorsSaid : Prop := machineMirrorsRow.holds Tryz.pinned (OpenSpec.ofChange machineMirrorsSpec)

/-- ITS FALSE NEIGHBOUR: 'it returns false'. Refute it at one input. -/
def machineMirrorsWrong : ChangeSpec := { name := "machineMirrors", fn := fun _ => fun
  | [d1, d2] => { results := [.lit (.bool false)], args := [d1, d2] }
  | _ => none }
def MachineMirrorsWrongFalsely : Prop := machineMirrorsRow.holds Tryz.pinned (OpenSpec.ofChange machineMirrorsWrong)

/-- 'shotdesklaw02.MachineMirrored': WHATEVER THE INPUT: true; the input reads as it did. -/
def machineMirroredSpec : ChangeSpec := { name := "machineMirrored", fn := fun _ => fun
  | [d1, d2, d3] => { results := [.lit (.bool true)], args := [d1, d2, d3] }
  | _ => none }
def machineMirroredRow : OpenClaim := { program := "ytjjajleiladbhaagreatdoor", sum := "5c984554e4e3ba5f77c6c0136fb4529d375d227ba76843be4182e986e1a3a455", func := "shotdesk/shotdesklaw02.MachineMirrored", spec := "machineMirrored", inPlace := ["internal/bytealg.IndexByteString", "internal/bytealg.IndexString", "internal/bytealg.CountString"], unfollowed := true, recurses := true, named := ["strconv.ErrSyntax", "strconv.ErrRange", "internal/strconv.uint64pow10", "math/bits.deBruijn32tab", "math/bits.deBruijn64tab", "shotdesk/machine.kindWords", "internal/bytealg.MaxLen", "unicode/utf8.first", "unicode/utf8.acceptRanges"], apart := false, laid := [("math/bits.deBruijn32tab", laid_math_bits_deBruijn32tab), ("math/bits.deBruijn64tab", laid_math_bits_deBruijn64tab), ("internal/strconv.uint64pow10", laid_internal_strconv_uint64pow10), ("unicode/utf8.acceptRanges", laid_unicode_utf8_acceptRanges), ("strconv.ErrRange", laid_strconv_ErrRange), ("strconv.ErrSyntax", laid_strconv_ErrSyntax), ("shotdesk/machine.kindWords", laid_shotdesk_machine_kindWords), ("unicode/utf8.first", laid_unicode_utf8_first)] }
def MachineMirroredSaid : Prop := machineMirroredRow.holds Tryz.pinned (OpenSpec.ofChange machineMirroredSpec)

/-- ITS FALSE NEIGHBOUR: 'it returns false'. Refute it at one input. -/
def machineMirroredWrong : ChangeSpec := { name := "machineMirrored", fn := fun _ => fun
  | [d1, d2, d3] => { results := [.lit (.bool false)], args := [d1, d2, d3] }
  | _ => none }
def MachineMirroredWrongFalsely : Prop := machineMirroredRow.holds Tryz.pinned (OpenSpec.ofChange machineMirroredWrong)

/-- 'shotdesklaw02.MachinePaths': WHATEVER THE INPUT: true; the input reads as it did. -/
def machinePathsSpec : ChangeSpec := { name := "machinePaths", fn := fun _ => fun
  | [d1, d2, d3] => { results := [.lit (.bool true)], args := [d1, d2, d3] }
  | _ => none }
def machinePathsRow : OpenClaim := { program := "ytjjajleiladbhaagreatdoor", sum := "5c984554e4e3ba5f77c6c0136fb4529d375d227ba76843be4182e986e1a3a455", func := "shotdesk/shotdesklaw02.MachinePaths", spec := "machinePaths", inPlace := ["internal/bytealg.IndexByteString", "internal/bytealg.IndexString", "internal/bytealg.CountString"], unfollowed := true, recurses := true, named := ["strconv.ErrSyntax", "strconv.ErrRange", "internal/strconv.uint64pow10", "math/bits.deBruijn32tab", "math/bits.deBruijn64tab", "shotdesk/machine.kindWords", "internal/bytealg.MaxLen", "unicode/utf8.first", "unicode/utf8.acceptRanges"], apart := false, laid := [("math/bits.deBruijn32tab", laid_math_bits_deBruijn32tab), ("math/bits.deBruijn64tab", laid_math_bits_deBruijn64tab), ("internal/strconv.uint64pow10", laid_internal_strconv_uint64pow10), ("unicode/utf8.acceptRanges", laid_unicode_utf8_acceptRanges), ("strconv.ErrRange", laid_strconv_ErrRange), ("strconv.ErrSyntax", laid_strconv_ErrSyntax), ("shotdesk/machine.kindWords", laid_shotdesk_machine_kindWords), ("unicode/utf8.first", laid_unicode_utf8_first)] }
def MachinePathsSaid : Prop := machinePathsRow.holds Tryz.pinned (OpenSpec.ofChange machinePathsSpec)

/-- ITS FALSE NEIGHBOUR: 'it returns false'. Refute it at one input. -/
def machinePathsWrong : ChangeSpec := { name := "machinePaths", fn := fun _ => fun
  | [d1, d2, d3] => { results := [.lit (.bool false)], args := [d1, d2, d3] }
  | _ => none }
def MachinePathsWrongFalsely : Prop := machinePathsRow.holds Tryz.pinned (OpenSpec.ofChange machinePathsWrong)

/-- 'shotdesklaw02.MachineSelf': WHATEVER THE INPUT: true; the input reads as it did. -/
def machineSelfSpec : ChangeSpec := { name := "machineSelf", fn := fun _ => fun
  | [d1, d2, d3] => { results := [.lit (.bool true)], args := [d1, d2, d3] }
  | _ => none }
def machineSelfRow : OpenClaim := { program := "ytjjajleiladbhaagreatdoor", sum := "5c984554e4e3ba5f77c6c0136fb4529d375d227ba76843be4182e986e1a3a455", func := "shotdesk/shotdesklaw02.MachineSelf", spec := "machineSelf", inPlace := ["internal/bytealg.IndexByteString", "internal/bytealg.IndexString", "internal/bytealg.CountString"], unfollowed := true, recurses := true, named := ["strconv.ErrSyntax", "strconv.ErrRange", "internal/strconv.uint64pow10", "math/bits.deBruijn32tab", "math/bits.deBruijn64tab", "shotdesk/machine.kindWords", "internal/bytealg.MaxLen", "unicode/utf8.first", "unicode/utf8.acceptRanges"], apart := false, laid := [("math/bits.deBruijn32tab", laid_math_bits_deBruijn32tab), ("math/bits.deBruijn64tab", laid_math_bits_deBruijn64tab), ("internal/strconv.uint64pow10", laid_internal_strconv_uint64pow10), ("unicode/utf8.acceptRanges", laid_unicode_utf8_acceptRanges), ("strconv.ErrRange", laid_strconv_ErrRange), ("strconv.ErrSyntax", laid_strconv_ErrSyntax), ("shotdesk/machine.kindWords", laid_shotdesk_machine_kindWords), ("unicode/utf8.first", laid_unicode_utf8_first)] }
def MachineSelfSaid : Prop := machineSelfRow.holds Tryz.pinned (OpenSpec.ofChange machineSelfSpec)

/-- ITS FALSE NEIGHBOUR: 'it returns false'. Refute it at one input. -/
def machineSelfWrong : ChangeSpec := { name := "machineSelf", fn := fun _ => fun
  | [d1, d2, d3] => { results := [.lit (.bool false)], args := [d1, d2, d3] }
  | _ => none }
def MachineSelfWrongFalsely : Prop := machineSelfRow.holds Tryz.pinned (OpenSpec.ofChange machineSelfWrong)

/- THE SECOND FORM. 'bulk': how many values and letters a reading holds, each counted each time it is reached (what is shared counts as often as it is met; a slice's spare places count too). A statement '..UptoSaid' is the law's where the arguments, and the package variables that the reading takes, are together of bulk at most 1048576: NARROWER than '..Said'. Prove '..Said' where nothing that the law and all that it calls make is longer than what came in: it says more and counts as full. Else prove '..UptoSaid'. A law counts once. -/
mutual
def uptoBulk {H : Type} : DataW H → Nat
  | .lit (.string bytes) => bytes.length + 1
  | .lit _ => 1
  | .nil => 1
  | .ptr d => uptoBulk d + 1
  | .slice elems spare => uptoBulkAll elems + uptoBulkAll spare + 1
  | .agg parts => uptoBulkAll parts + 1
  | .iface _ d => uptoBulk d + 1
  | .map entries => uptoBulkEntries entries + 1
  | .held _ => 1
def uptoBulkAll {H : Type} : List (DataW H) → Nat
  | [] => 0
  | d :: r => uptoBulk d + uptoBulkAll r
def uptoBulkEntries {H : Type} : List (Lit × DataW H) → Nat
  | [] => 0
  | x :: r => uptoBulkEntry x + uptoBulkEntries r
def uptoBulkEntry {H : Type} : Lit × DataW H → Nat
  | (.string bytes, d) => bytes.length + uptoBulk d + 1
  | (_, d) => uptoBulk d + 1
 end
def uptoSmall : (H : Type) → List (DataW H) → Bool := fun _ ds => decide (uptoBulkAll ds ≤ 1048576)
def OpenSpec.upto (s : _root_.Go.ChangeSpec) : _root_.Go.OpenSpec := { _root_.Go.OpenSpec.ofChange s with cond := some uptoSmall }

/-- 'shotdesklaw02.MachineChecks', WHERE WHAT IT READS IS OF BULK AT MOST 1048576: true; the input reads as it did. -/
def machineChecksUptoRow : OpenClaim := { program := "ytjjajleiladbhaagreatdoor", sum := "5c984554e4e3ba5f77c6c0136fb4529d375d227ba76843be4182e986e1a3a455", func := "shotdesk/shotdesklaw02.MachineChecks", spec := "machineChecks", inPlace := ["internal/bytealg.IndexByteString", "internal/bytealg.IndexString", "internal/bytealg.CountString"], unfollowed := true, recurses := true, named := ["strconv.ErrSyntax", "strconv.ErrRange", "internal/strconv.uint64pow10", "math/bits.deBruijn32tab", "math/bits.deBruijn64tab", "shotdesk/machine.kindWords", "internal/bytealg.MaxLen", "unicode/utf8.first", "unicode/utf8.acceptRanges"], apart := false, laid := [("math/bits.deBruijn32tab", laid_math_bits_deBruijn32tab), ("math/bits.deBruijn64tab", laid_math_bits_deBruijn64tab), ("internal/strconv.uint64pow10", laid_internal_strconv_uint64pow10), ("unicode/utf8.acceptRanges", laid_unicode_utf8_acceptRanges), ("strconv.ErrRange", laid_strconv_ErrRange), ("strconv.ErrSyntax", laid_strconv_ErrSyntax), ("shotdesk/machine.kindWords", laid_shotdesk_machine_kindWords), ("unicode/utf8.first", laid_unicode_utf8_first)], narrowed := true }
def MachineChecksUptoSaid : Prop := machineChecksUptoRow.holds Tryz.pinned (OpenSpec.upto machineChecksSpec)

/-- 'shotdesklaw02.MachineFinds', WHERE WHAT IT READS IS OF BULK AT MOST 1048576: true; the input reads as it did. -/
def machineFindsUptoRow : OpenClaim := { program := "ytjjajleiladbhaagreatdoor", sum := "5c984554e4e3ba5f77c6c0136fb4529d375d227ba76843be4182e986e1a3a455", func := "shotdesk/shotdesklaw02.MachineFinds", spec := "machineFinds", inPlace := ["internal/bytealg.IndexByteString", "internal/bytealg.IndexString", "internal/bytealg.CountString"], unfollowed := true, recurses := true, named := ["strconv.ErrSyntax", "strconv.ErrRange", "internal/strconv.uint64pow10", "math/bits.deBruijn32tab", "math/bits.deBruijn64tab", "shotdesk/machine.kindWords", "internal/bytealg.MaxLen", "unicode/utf8.first", "unicode/utf8.acceptRanges"], apart := false, laid := [("math/bits.deBruijn32tab", laid_math_bits_deBruijn32tab), ("math/bits.deBruijn64tab", laid_math_bits_deBruijn64tab), ("internal/strconv.uint64pow10", laid_internal_strconv_uint64pow10), ("unicode/utf8.acceptRanges", laid_unicode_utf8_acceptRanges), ("strconv.ErrRange", laid_strconv_ErrRange), ("strconv.ErrSyntax", laid_strconv_ErrSyntax), ("shotdesk/machine.kindWords", laid_shotdesk_machine_kindWords), ("unicode/utf8.first", laid_unicode_utf8_first)], narrowed := true }
def MachineFindsUptoSaid : Prop := machineFindsUptoRow.holds Tryz.pinned (OpenSpec.upto machineFindsSpec)

/-- 'shotdesklaw02.MachineInfluences', WHERE WHAT IT READS IS OF BULK AT MOST 1048576: true; the input reads as it did. -/
def machineInfluencesUptoRow : OpenClaim := { program := "ytjjajleiladbhaagreatdoor", sum := "5c984554e4e3ba5f77c6c0136fb4529d375d227ba76843be4182e986e1a3a455", func := "shotdesk/shotdesklaw02.MachineInfluences", spec := "machineInfluences", inPlace := ["internal/bytealg.IndexByteString", "internal/bytealg.IndexString", "internal/bytealg.CountString"], unfollowed := true, recurses := true, named := ["strconv.ErrSyntax", "strconv.ErrRange", "internal/strconv.uint64pow10", "math/bits.deBruijn32tab", "math/bits.deBruijn64tab", "shotdesk/machine.kindWords", "internal/bytealg.MaxLen", "unicode/utf8.first", "unicode/utf8.acceptRanges"], apart := false, laid := [("math/bits.deBruijn32tab", laid_math_bits_deBruijn32tab), ("math/bits.deBruijn64tab", laid_math_bits_deBruijn64tab), ("internal/strconv.uint64pow10", laid_internal_strconv_uint64pow10), ("unicode/utf8.acceptRanges", laid_unicode_utf8_acceptRanges), ("strconv.ErrRange", laid_strconv_ErrRange), ("strconv.ErrSyntax", laid_strconv_ErrSyntax), ("shotdesk/machine.kindWords", laid_shotdesk_machine_kindWords), ("unicode/utf8.first", laid_unicode_utf8_first)], narrowed := true }
def MachineInfluencesUptoSaid : Prop := machineInfluencesUptoRow.holds Tryz.pinned (OpenSpec.upto machineInfluencesSpec)

/-- 'shotdesklaw02.MachineCurrents', WHERE WHAT IT READS IS OF BULK AT MOST 1048576: true; the input reads as it did. -/
def machineCurrentsUptoRow : OpenClaim := { program := "ytjjajleiladbhaagreatdoor", sum := "5c984554e4e3ba5f77c6c0136fb4529d375d227ba76843be4182e986e1a3a455", func := "shotdesk/shotdesklaw02.MachineCurrents", spec := "machineCurrents", inPlace := ["internal/bytealg.IndexByteString", "internal/bytealg.IndexString", "internal/bytealg.CountString"], unfollowed := true, recurses := true, named := ["strconv.ErrSyntax", "strconv.ErrRange", "internal/strconv.uint64pow10", "math/bits.deBruijn32tab", "math/bits.deBruijn64tab", "shotdesk/machine.kindWords", "internal/bytealg.MaxLen", "unicode/utf8.first", "unicode/utf8.acceptRanges"], apart := false, laid := [("math/bits.deBruijn32tab", laid_math_bits_deBruijn32tab), ("math/bits.deBruijn64tab", laid_math_bits_deBruijn64tab), ("internal/strconv.uint64pow10", laid_internal_strconv_uint64pow10), ("unicode/utf8.acceptRanges", laid_unicode_utf8_acceptRanges), ("strconv.ErrRange", laid_strconv_ErrRange), ("strconv.ErrSyntax", laid_strconv_ErrSyntax), ("shotdesk/machine.kindWords", laid_shotdesk_machine_kindWords), ("unicode/utf8.first", laid_unicode_utf8_first)], narrowed := true }
def MachineCurrentsUptoSaid : Prop := machineCurrentsUptoRow.holds Tryz.pinned (OpenSpec.upto machineCurrentsSpec)

/-- 'shotdesklaw02.MachineFluxes', WHERE WHAT IT READS IS OF BULK AT MOST 1048576: true; the input reads as it did. -/
def machineFluxesUptoRow : OpenClaim := { program := "ytjjajleiladbhaagreatdoor", sum := "5c984554e4e3ba5f77c6c0136fb4529d375d227ba76843be4182e986e1a3a455", func := "shotdesk/shotdesklaw02.MachineFluxes", spec := "machineFluxes", inPlace := ["internal/bytealg.IndexByteString", "internal/bytealg.IndexString", "internal/bytealg.CountString"], unfollowed := true, recurses := true, named := ["strconv.ErrSyntax", "strconv.ErrRange", "internal/strconv.uint64pow10", "math/bits.deBruijn32tab", "math/bits.deBruijn64tab", "shotdesk/machine.kindWords", "internal/bytealg.MaxLen", "unicode/utf8.first", "unicode/utf8.acceptRanges"], apart := false, laid := [("math/bits.deBruijn32tab", laid_math_bits_deBruijn32tab), ("math/bits.deBruijn64tab", laid_math_bits_deBruijn64tab), ("internal/strconv.uint64pow10", laid_internal_strconv_uint64pow10), ("unicode/utf8.acceptRanges", laid_unicode_utf8_acceptRanges), ("strconv.ErrRange", laid_strconv_ErrRange), ("strconv.ErrSyntax", laid_strconv_ErrSyntax), ("shotdesk/machine.kindWords", laid_shotdesk_machine_kindWords), ("unicode/utf8.first", laid_unicode_utf8_first)], narrowed := true }
def MachineFluxesUptoSaid : Prop := machineFluxesUptoRow.holds Tryz.pinned (OpenSpec.upto machineFluxesSpec)

/-- 'shotdesklaw02.MachineForces', WHERE WHAT IT READS IS OF BULK AT MOST 1048576: true; the input reads as it did. -/
def machineForcesUptoRow : OpenClaim := { program := "ytjjajleiladbhaagreatdoor", sum := "5c984554e4e3ba5f77c6c0136fb4529d375d227ba76843be4182e986e1a3a455", func := "shotdesk/shotdesklaw02.MachineForces", spec := "machineForces", inPlace := ["internal/bytealg.IndexByteString", "internal/bytealg.IndexString", "internal/bytealg.CountString"], unfollowed := true, recurses := true, named := ["strconv.ErrSyntax", "strconv.ErrRange", "internal/strconv.uint64pow10", "math/bits.deBruijn32tab", "math/bits.deBruijn64tab", "shotdesk/machine.kindWords", "internal/bytealg.MaxLen", "unicode/utf8.first", "unicode/utf8.acceptRanges"], apart := false, laid := [("math/bits.deBruijn32tab", laid_math_bits_deBruijn32tab), ("math/bits.deBruijn64tab", laid_math_bits_deBruijn64tab), ("internal/strconv.uint64pow10", laid_internal_strconv_uint64pow10), ("unicode/utf8.acceptRanges", laid_unicode_utf8_acceptRanges), ("strconv.ErrRange", laid_strconv_ErrRange), ("strconv.ErrSyntax", laid_strconv_ErrSyntax), ("shotdesk/machine.kindWords", laid_shotdesk_machine_kindWords), ("unicode/utf8.first", laid_unicode_utf8_first)], narrowed := true }
def MachineForcesUptoSaid : Prop := machineForcesUptoRow.holds Tryz.pinned (OpenSpec.upto machineForcesSpec)

/-- 'shotdesklaw02.MachineLinear', WHERE WHAT IT READS IS OF BULK AT MOST 1048576: true; the input reads as it did. -/
def machineLinearUptoRow : OpenClaim := { program := "ytjjajleiladbhaagreatdoor", sum := "5c984554e4e3ba5f77c6c0136fb4529d375d227ba76843be4182e986e1a3a455", func := "shotdesk/shotdesklaw02.MachineLinear", spec := "machineLinear", inPlace := ["internal/bytealg.IndexByteString", "internal/bytealg.IndexString", "internal/bytealg.CountString"], unfollowed := true, recurses := true, named := ["strconv.ErrSyntax", "strconv.ErrRange", "internal/strconv.uint64pow10", "math/bits.deBruijn32tab", "math/bits.deBruijn64tab", "shotdesk/machine.kindWords", "internal/bytealg.MaxLen", "unicode/utf8.first", "unicode/utf8.acceptRanges"], apart := false, laid := [("math/bits.deBruijn32tab", laid_math_bits_deBruijn32tab), ("math/bits.deBruijn64tab", laid_math_bits_deBruijn64tab), ("internal/strconv.uint64pow10", laid_internal_strconv_uint64pow10), ("unicode/utf8.acceptRanges", laid_unicode_utf8_acceptRanges), ("strconv.ErrRange", laid_strconv_ErrRange), ("strconv.ErrSyntax", laid_strconv_ErrSyntax), ("shotdesk/machine.kindWords", laid_shotdesk_machine_kindWords), ("unicode/utf8.first", laid_unicode_utf8_first)], narrowed := true }
def MachineLinearUptoSaid : Prop := machineLinearUptoRow.holds Tryz.pinned (OpenSpec.upto machineLinearSpec)

/-- 'shotdesklaw02.MachineMirrors', WHERE WHAT IT READS IS OF BULK AT MOST 1048576: true; the input reads as it did. -/
def machineMirrorsUptoRow : OpenClaim := { program := "ytjjajleiladbhaagreatdoor", sum := "5c984554e4e3ba5f77c6c0136fb4529d375d227ba76843be4182e986e1a3a455", func := "shotdesk/shotdesklaw02.MachineMirrors", spec := "machineMirrors", inPlace := ["internal/bytealg.IndexByteString", "internal/bytealg.IndexString", "internal/bytealg.CountString"], unfollowed := true, recurses := true, named := ["strconv.ErrSyntax", "strconv.ErrRange", "internal/strconv.uint64pow10", "math/bits.deBruijn32tab", "math/bits.deBruijn64tab", "shotdesk/machine.kindWords", "internal/bytealg.MaxLen", "unicode/utf8.first", "unicode/utf8.acceptRanges"], apart := false, laid := [("math/bits.deBruijn32tab", laid_math_bits_deBruijn32tab), ("math/bits.deBruijn64tab", laid_math_bits_deBruijn64tab), ("internal/strconv.uint64pow10", laid_internal_strconv_uint64pow10), ("unicode/utf8.acceptRanges", laid_unicode_utf8_acceptRanges), ("strconv.ErrRange", laid_strconv_ErrRange), ("strconv.ErrSyntax", laid_strconv_ErrSyntax), ("shotdesk/machine.kindWords", laid_shotdesk_machine_kindWords), ("unicode/utf8.first", laid_unicode_utf8_first)], narrowed := true }
def MachineMirrorsUptoSaid : Prop := machineMirrorsUptoRow.holds Tryz.pinned (OpenSpec.upto machineMirrorsSpec)

/-- 'shotdesklaw02.MachineMirrored', WHERE WHAT IT READS IS OF BULK AT MOST 1048576: true; the input reads as it did. -/
def machineMirroredUptoRow : OpenClaim := { program := "ytjjajleiladbhaagreatdoor", sum := "5c984554e4e3ba5f77c6c0136fb4529d375d227ba76843be4182e986e1a3a455", func := "shotdesk/shotdesklaw02.MachineMirrored", spec := "machineMirrored", inPlace := ["internal/bytealg.IndexByteString", "internal/bytealg.IndexString", "internal/bytealg.CountString"], unfollowed := true, recurses := true, named := ["strconv.ErrSyntax", "strconv.ErrRange", "internal/strconv.uint64pow10", "math/bits.deBruijn32tab", "math/bits.deBruijn64tab", "shotdesk/machine.kindWords", "internal/bytealg.MaxLen", "unicode/utf8.first", "unicode/utf8.acceptRanges"], apart := false, laid := [("math/bits.deBruijn32tab", laid_math_bits_deBruijn32tab), ("math/bits.deBruijn64tab", laid_math_bits_deBruijn64tab), ("internal/strconv.uint64pow10", laid_internal_strconv_uint64pow10), ("unicode/utf8.acceptRanges", laid_unicode_utf8_acceptRanges), ("strconv.ErrRange", laid_strconv_ErrRange), ("strconv.ErrSyntax", laid_strconv_ErrSyntax), ("shotdesk/machine.kindWords", laid_shotdesk_machine_kindWords), ("unicode/utf8.first", laid_unicode_utf8_first)], narrowed := true }
def MachineMirroredUptoSaid : Prop := machineMirroredUptoRow.holds Tryz.pinned (OpenSpec.upto machineMirroredSpec)

/-- 'shotdesklaw02.MachinePaths', WHERE WHAT IT READS IS OF BULK AT MOST 1048576: true; the input reads as it did. -/
def machinePathsUptoRow : OpenClaim := { program := "ytjjajleiladbhaagreatdoor", sum := "5c984554e4e3ba5f77c6c0136fb4529d375d227ba76843be4182e986e1a3a455", func := "shotdesk/shotdesklaw02.MachinePaths", spec := "machinePaths", inPlace := ["internal/bytealg.IndexByteString", "internal/bytealg.IndexString", "internal/bytealg.CountString"], unfollowed := true, recurses := true, named := ["strconv.ErrSyntax", "strconv.ErrRange", "internal/strconv.uint64pow10", "math/bits.deBruijn32tab", "math/bits.deBruijn64tab", "shotdesk/machine.kindWords", "internal/bytealg.MaxLen", "unicode/utf8.first", "unicode/utf8.acceptRanges"], apart := false, laid := [("math/bits.deBruijn32tab", laid_math_bits_deBruijn32tab), ("math/bits.deBruijn64tab", laid_math_bits_deBruijn64tab), ("internal/strconv.uint64pow10", laid_internal_strconv_uint64pow10), ("unicode/utf8.acceptRanges", laid_unicode_utf8_acceptRanges), ("strconv.ErrRange", laid_strconv_ErrRange), ("strconv.ErrSyntax", laid_strconv_ErrSyntax), ("shotdesk/machine.kindWords", laid_shotdesk_machine_kindWords), ("unicode/utf8.first", laid_unicode_utf8_first)], narrowed := true }
def MachinePathsUptoSaid : Prop := machinePathsUptoRow.holds Tryz.pinned (OpenSpec.upto machinePathsSpec)

/-- 'shotdesklaw02.MachineSelf', WHERE WHAT IT READS IS OF BULK AT MOST 1048576: true; the input reads as it did. -/
def machineSelfUptoRow : OpenClaim := { program := "ytjjajleiladbhaagreatdoor", sum := "5c984554e4e3ba5f77c6c0136fb4529d375d227ba76843be4182e986e1a3a455", func := "shotdesk/shotdesklaw02.MachineSelf", spec := "machineSelf", inPlace := ["internal/bytealg.IndexByteString", "internal/bytealg.IndexString", "internal/bytealg.CountString"], unfollowed := true, recurses := true, named := ["strconv.ErrSyntax", "strconv.ErrRange", "internal/strconv.uint64pow10", "math/bits.deBruijn32tab", "math/bits.deBruijn64tab", "shotdesk/machine.kindWords", "internal/bytealg.MaxLen", "unicode/utf8.first", "unicode/utf8.acceptRanges"], apart := false, laid := [("math/bits.deBruijn32tab", laid_math_bits_deBruijn32tab), ("math/bits.deBruijn64tab", laid_math_bits_deBruijn64tab), ("internal/strconv.uint64pow10", laid_internal_strconv_uint64pow10), ("unicode/utf8.acceptRanges", laid_unicode_utf8_acceptRanges), ("strconv.ErrRange", laid_strconv_ErrRange), ("strconv.ErrSyntax", laid_strconv_ErrSyntax), ("shotdesk/machine.kindWords", laid_shotdesk_machine_kindWords), ("unicode/utf8.first", laid_unicode_utf8_first)], narrowed := true }
def MachineSelfUptoSaid : Prop := machineSelfUptoRow.holds Tryz.pinned (OpenSpec.upto machineSelfSpec)

end Rows
end Go.Proofs.YtjjajleiladbhaaGreatDoor
