import Derived.Test.YtjjajleiladbhaaGreatDoorLBE
import Derived.Test.YtjjajleiladbhaaGreatDoorRows
import Derived.Test.YtjjajleiladbhaaGreatDoorTie
import Derived.Test.YtjjajleiladbhaaGreatDoorCards
import Derived.ProofKit
import Derived.LaidMore
import Derived.MakeChecks
import Derived.OpenShut
import Derived.SevenTiedAt
import Derived.Stop.LaidErr
import Derived.ChangeMaps5
import Derived.Lay
section
/- Proved: for every machine and two places the law MachineInfluences returns true (Influence and Kernel are those of 2.2 and symmetric, P2.2), and the arguments read afterwards as before; the library's table and errors read as the program lays them (the card ties them). -/
namespace Go.Proofs.YtjjajleiladbhaaGreatDoor.lawMachineInfluences
set_option linter.unusedVariables false
set_option linter.unusedSimpArgs false
open Go.ChangeShapes Go.WideShapes Go.ChangeAt Go.RowKit Go.Joins Go.Shelf Go.ChangeMaps

set_option maxRecDepth 100000 in
theorem env_of_laid {W : World} (h : laidMetH Tryz.prog Rows.machineInfluencesRow.laid W) (hm : W.ShapedOpen Tryz.prog) : Env W := by
  rw [MakeChecks.laidMetH_plain _ _ _ (by kernel_rfl)] at h
  have h3 := laidMet.tail (laidMet.tail (h))
  have h4 := laidMet.tail (laidMet.tail (h3))
  have h5 := laidMet.tail (h4)
  have tab : Lib.TabIs Tryz.prog W "internal/strconv.uint64pow10" .u64 Lib.pow10Tab :=
    Lib.tabIs_of_head (g := 6) (t := 227) (e := 209) (n := 20) (by kernel_rfl) (by kernel_rfl) Tryz.underlying227 Tryz.underlying209 (by kernel_rfl) (by kernel_rfl) h3
  obtain ⟨a1, s1, hv1, -, -, -⟩ := laid_sentinel h4 gER (by kernel_rfl : (Tryz.prog.globals[5]?).map (·.type) = some 182) Tryz.underlying182 rowE Tryz.underlying223 Tryz.underlying225 rfl rfl Tryz.underlying9 cellsE cellsS
  obtain ⟨a0, s0, hv0, -, -, -⟩ := laid_sentinel h5 gES (by kernel_rfl : (Tryz.prog.globals[4]?).map (·.type) = some 182) Tryz.underlying182 rowE Tryz.underlying223 Tryz.underlying225 rfl rfl Tryz.underlying9 cellsE cellsS
  exact ⟨tab, Tryz.laysM145.s1_3 W hm, ⟨_, _, by have h0 := World.var?_cell gES hv0 0; simpa using h0⟩, ⟨_, _, by have h0 := World.var?_cell gER hv1 0; simpa using h0⟩⟩

set_option maxRecDepth 100000 in
theorem lifted (os : Os) (started : os.Started) (H : Type) (enc : TypeId × Value → H) :
    ReturnsInHanded {} Tryz.checked os 5 .any (fun w args => (Rows.machineInfluencesSpec.pre enc Tryz.prog Tryz.f5 [] false w args ∧ laidMetH Tryz.prog Rows.machineInfluencesRow.laid w) ∧ sizedMet enc Tryz.prog Tryz.f5 (OpenSpec.ofChange Rows.machineInfluencesSpec) false w args) (Rows.machineInfluencesSpec.post enc Tryz.prog Tryz.f5 false true false false) := by
  refine returns2 (C := Tryz.checked) (X := fun w _ => laidMetH Tryz.prog Rows.machineInfluencesRow.laid w) (fun _ _ _ hh h => h.of_heap hh) own started (by kernel_rfl) Tryz.func5
    (ChangeSpec.witness_shaped (enc := enc) (C := Tryz.checked) (os := os) (X := fun w _ => laidMetH Tryz.prog Rows.machineInfluencesRow.laid w) false (World.laidAll Tryz.prog os Rows.machineInfluencesRow.laid) #[.agg #[.string ⟨#[]⟩, .slice none 0 0, .slice none 0 0, .slice none 0 0, .int .i64 0, .int .i64 0, .int .i64 0, .int .i64 0, .int .i64 0, .slice none 0 0], .agg #[.int .i64 0, .int .i64 0], .agg #[.int .i64 0, .int .i64 0]] 8 (World.laidAll_os _ _ _) (World.shaped_of_ZipB (by kernel_rfl) (by kernel_rfl)) (by kernel_rfl) (by kernel_rfl) (by kernel_rfl)
      (by rw [MakeChecks.laidMetH_plain _ _ _ (by kernel_rfl)]; exact laidMet_laidAll _ (by kernel_rfl) (by kernel_rfl))) ?_
  intro W base args ds gs before hval0 hW hL hSh
  have hval : ∀ (j : Nat) t v, Tryz.f5.params[j]? = some t → args[j]? = some v → Value.okWide Tryz.prog W .any base t v := hval0
  have hW' := hW
  obtain ⟨p, q, hA0, hV, rfl, _, _⟩ := hW
  have hA : DataW.TrodAll enc Tryz.prog W 0 (fun _ => true) true Tryz.f5.params.toList args.toList ds p := hA0
  rw [Tryz.params5] at hA hval
  obtain ⟨v0, v1, v2, d0, d1, d2, p0, p1, p2, rfl, rfl, rfl, h0, h1, h2⟩ := trodAll_three hA
  obtain ⟨rfl, rfl⟩ := trodVars_none hV
  obtain ⟨R, M, rfl, hM⟩ := open_machine (hval 0 29 v0 rfl rfl) h0
  obtain ⟨x1, y1, rfl, rfl, rfl, wx1, wy1⟩ := open_point (hval 1 40 v1 rfl rfl) h1
  have hx1 := wf_bd wx1
  have hy1 := wf_bd wy1
  obtain ⟨x2, y2, rfl, rfl, rfl, wx2, wy2⟩ := open_point (hval 2 40 v2 rfl rfl) h2
  have hx2 := wf_bd wx2
  have hy2 := wf_bd wy2
  clear hA0 hval0
  simp only [List.append_nil] at hW'
  refine (influences_walk R M x1 y1 x2 y2 W (env_of_laid hL hSh) (fun a b c d => hM.isM a b c d)).mono fun e W' ⟨he, hb⟩ => ?_
  subst he
  have hlt0 : ∀ x ∈ p0, x.block < W.heap.size := fun x hx => by simpa using hW'.lt x (by simp [hx])
  have hT := trodAll_mk3 (shut_machine h0 hb hlt0) (shut_point (enc := enc) (W := W') (base := 0) (spare := fun b => decide (b < W.heap.size)) (held := true) wx1 wy1) (shut_point (enc := enc) (W := W') (base := 0) (spare := fun b => decide (b < W.heap.size)) (held := true) wx2 wy2)
  try rw [← List.append_assoc] at hT
  exact ⟨_, rfl, _, _, _, [], p0 ++ [] ++ [], [], hW', trodAll_mk1 (shut_bool Tryz.underlying4 true), hT, rfl, hb.frame _, fun h => by cases h⟩

theorem row_holds : Rows.MachineInfluencesSaid :=
  OpenClaim.holds_of_wide 5 Tryz.f5 rfl rfl rfl rfl rfl rfl rfl ⟨rfl, rfl, rfl, rfl, rfl⟩ rfl rfl rfl rfl rfl (by kernel_rfl) Tryz.func5 (by kernel_rfl)
    (of_decide_eq_true (by kernel_rfl)) (by unfold Func.isWrapper; rw [if_neg (of_decide_eq_false (by kernel_rfl))]; exact ⟨rfl, rfl⟩)
    (fun os started H enc _ => lifted os started H enc)

set_option maxRecDepth 100000 in
theorem holds : Rows.MachineInfluencesCardSaid :=
  Claim7.holds_tied_plain_at .later [] _ true _ true
    row_holds (fun _ h => by cases h) (by kernel_rfl) (fun _ h => by cases h) machineInfluences_row_tie rfl ⟨rfl, rfl⟩ (by kernel_rfl) rfl
    (fun f fn hf hfn => by
      obtain rfl : 5 = f := Option.some.inj ((by kernel_rfl : _ = some 5).symm.trans hf)
      obtain rfl : fn = Tryz.f5 := (Option.some.inj (Tryz.func5.symm.trans hfn)).symm
      exact ⟨by kernel_rfl, fun j t ht => by
        rw [Tryz.params5] at ht
        rcases j with _ | _ | _ | j
        · obtain rfl : 29 = t := by simpa using ht
          exact (show Tryz.prog.wantsStandIn 29 = false by kernel_rfl)
        · obtain rfl : 40 = t := by simpa using ht
          exact (show Tryz.prog.wantsStandIn 40 = false by kernel_rfl)
        · obtain rfl : 40 = t := by simpa using ht
          exact (show Tryz.prog.wantsStandIn 40 = false by kernel_rfl)
        · simp at ht⟩)
    (by kernel_rfl)
#print axioms holds

end Go.Proofs.YtjjajleiladbhaaGreatDoor.lawMachineInfluences
end
