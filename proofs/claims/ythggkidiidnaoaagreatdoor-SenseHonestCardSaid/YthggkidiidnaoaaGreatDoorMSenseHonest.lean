import Derived.Test.YthggkidiidnaoaaGreatDoorMBK
import Derived.Test.YthggkidiidnaoaaGreatDoorMBL
import Derived.Test.YthggkidiidnaoaaGreatDoorMBR
import Derived.Test.YthggkidiidnaoaaGreatDoorRows
import Derived.Test.YthggkidiidnaoaaGreatDoorTie
import Derived.Test.YthggkidiidnaoaaGreatDoorCards
import Derived.ProofKit
import Derived.LaidMore
import Derived.MakeChecks
import Derived.OpenShut
import Derived.SevenTiedAt
section
/- Proved: for every machine, currents, sensor, cell and current the law SenseHonest returns true (a filament that is read without faults is a candidate with its current, nobody is accused, and no sensors exclude each other), and the arguments read afterwards as before; the table of fault kinds reads as the program lays it (the card ties it). -/
namespace Go.Proofs.YthggkidiidnaoaaGreatDoor.lawSenseHonest
set_option linter.unusedVariables false
set_option linter.unusedSimpArgs false
open Go.ChangeShapes Go.WideShapes Go.ChangeAt Go.RowKit Go.Joins

set_option maxRecDepth 100000 in
/-- What the card's condition on the table gives. -/
theorem kinds_of_laid {W : World} (h : laidMetH Tryz.prog Rows.senseHonestRow.laid W) : Kinds W := by
  rw [MakeChecks.laidMetH_plain _ _ _ (by kernel_rfl)] at h
  obtain ⟨ps, ⟨g0, t0, cs0, f0, p0, q0, hg0, ht0, hv0, hd0, _, _⟩, _, _⟩ := h
  obtain rfl : g0 = 0 := Option.some.inj (hg0.symm.trans (by kernel_rfl : _ = some 0))
  obtain rfl : t0 = 181 := Option.some.inj (ht0.symm.trans (by kernel_rfl : _ = some 181))
  have ce : Tryz.prog.cellsOf 180 = 2 := by kernel_rfl
  obtain ⟨xs, f, rfl, hx, hcs, hxl, hel⟩ := DataW.trod_array Tryz.underlying181 hd0
  have hz := (congrArg Prod.fst hx).symm
  injection hz with hz
  have each : ∀ (k : Nat), k < 4 → ∃ (s : ByteArray) (n : Int), cs0.toList[k * 2]? = some (.string s) ∧ cs0.toList[k * 2 + 1]? = some (.int .i64 n) ∧ (xs.map (·.1))[k]? = some (.agg [.lit (.string s.data.toList), .lit (.int .i64 n)]) := by
    intro k hk
    have h1 := hel k hk
    have hkx : k < xs.length := by omega
    rw [List.getElem?_eq_getElem hkx, ce] at h1
    obtain ⟨y0, y1, n, hx1, hl, k0, k1⟩ := trod_struct2 Tryz.underlying180 h1
    obtain ⟨s, e0, rfl, -⟩ := DataW.trod_string Tryz.underlying9 k0
    obtain ⟨m, e1, rfl, -⟩ := DataW.trod_int Tryz.underlying3 k1
    refine ⟨s, m, ?_, ?_, ?_⟩
    · have := congrArg (fun l : List Value => l[0]?) e0
      simp [cells_string, List.getElem?_take, List.getElem?_drop] at this
      simpa using this
    · have := congrArg (fun l : List Value => l[0]?) e1
      simp [cells_int, List.getElem?_take, List.getElem?_drop] at this
      simpa using this
    · rw [List.getElem?_map, List.getElem?_eq_getElem hkx, hx1]; rfl
  have hs : 0 < W.heap.size := by
    obtain ⟨s, n, e0, -, -⟩ := each 0 (by omega)
    have h0 := World.var?_cell hg0 hv0 0
    rw [← Array.getElem?_toList] at h0
    exact World.block_lt_of_cell? W ⟨0, 0, none⟩ (h0.trans e0)
  refine ⟨fun k hk => ?_, hs⟩
  obtain ⟨s, n, e0, e1, e2⟩ := each k hk
  refine ⟨s, ?_, fun h1 => ?_⟩
  · rw [World.var?_cell hg0 hv0 (k * 2), ← Array.getElem?_toList]; exact e0
  · rw [World.var?_cell hg0 hv0 (k * 2 + 1), ← Array.getElem?_toList, e1]
    rw [hz] at e2
    have hn : n = mostK k := by
      rcases k with _ | _ | _ | _ | k
      · omega
      · simp at e2; rw [← e2.2]; rfl
      · simp at e2; rw [← e2.2]; rfl
      · simp at e2; rw [← e2.2]; rfl
      · omega
    rw [hn]

theorem door_met (os : Os) (args : Array Value) : laidMetH Tryz.prog Rows.senseHonestRow.laid ((World.doorLaid Tryz.prog 400 os).forCall (fun _ _ => 0) ⟨#[], args, []⟩).memory := by
  rw [MakeChecks.laidMetH_plain _ _ _ (by kernel_rfl)]
  exact laidMet_of_run' 8 (by kernel_rfl) (by kernel_rfl)

set_option maxRecDepth 100000 in
theorem lifted (os : Os) (started : os.Started) (H : Type) (enc : TypeId × Value → H) :
    ReturnsInHanded {} Tryz.checked os 5 .any (fun w args => (Rows.senseHonestSpec.pre enc Tryz.prog Tryz.f5 [] false w args ∧ laidMetH Tryz.prog Rows.senseHonestRow.laid w) ∧ sizedMet enc Tryz.prog Tryz.f5 (OpenSpec.ofChange Rows.senseHonestSpec) false w args) (Rows.senseHonestSpec.post enc Tryz.prog Tryz.f5 false true false false) := by
  refine returnsInHanded_of_change_and (C := Tryz.checked) (X := fun w _ => laidMetH Tryz.prog Rows.senseHonestRow.laid w) (fun _ _ _ hh h => h.of_heap hh) own started (by kernel_rfl) Tryz.func5
    (ChangeSpec.witness_shaped (enc := enc) (C := Tryz.checked) (os := os) (X := fun w _ => laidMetH Tryz.prog Rows.senseHonestRow.laid w) false (World.doorLaid Tryz.prog 400 os) #[.agg #[.string ⟨#[]⟩, .slice none 0 0, .slice none 0 0, .slice none 0 0, .int .i64 0, .int .i64 0, .int .i64 0, .int .i64 0, .int .i64 0, .slice none 0 0], .agg #[.slice none 0 0, .slice none 0 0, .slice none 0 0], .agg #[.int .i64 0, .int .i64 0, .int .i64 0]] 8 rfl (World.shaped_of_RefB (by kernel_rfl) (by kernel_rfl)) (by kernel_rfl) (by kernel_rfl) (by kernel_rfl) (door_met os _)) ?_
  intro W base args ds gs before hval0 hW _ _ hL _
  have hval : ∀ (j : Nat) t v, Tryz.f5.params[j]? = some t → args[j]? = some v → Value.okWide Tryz.prog W .any base t v := hval0
  have hW' := hW
  obtain ⟨p, q, hA0, hV, rfl, _, _⟩ := hW
  have hA : DataW.TrodAll enc Tryz.prog W 0 (fun _ => true) true Tryz.f5.params.toList args.toList ds p := hA0
  rw [Tryz.params5] at hA hval
  obtain ⟨v0, v1, v2, d0, d1, d2, p0, p1, p2, rfl, rfl, rfl, h0, h1, h2⟩ := trodAll_three hA
  obtain ⟨rfl, rfl⟩ := trodVars_none hV
  obtain ⟨R, M, rfl, hM⟩ := open_machine (hval 0 29 v0 rfl rfl) h0
  obtain ⟨Q1, C1, rfl, hC1⟩ := open_currents (hval 1 32 v1 rfl rfl) h1
  obtain ⟨s2, c2, i2, rfl, bs2, bc2, bi2⟩ := open_spot (hval 2 49 v2 rfl rfl) h2
  clear hA0 hval0
  simp only [List.append_nil] at hW'
  refine (honest_walk R M Q1 C1 s2 c2 i2 W (fun a b c d => hM.isM a b c d) (fun a b c => hC1.isC a b c) (kinds_of_laid hL)).mono fun e W' ⟨he, hb⟩ => ?_
  subst he
  have hlt0 : ∀ x ∈ p0, x.block < W.heap.size := fun x hx => by simpa using hW'.lt x (by simp [hx])
  have hlt1 : ∀ x ∈ p1, x.block < W.heap.size := fun x hx => by simpa using hW'.lt x (by simp [hx])
  have hlt2 : ∀ x ∈ p2, x.block < W.heap.size := fun x hx => by simpa using hW'.lt x (by simp [hx])
  have hT := trodAll_mk3 (shut_machine h0 hb hlt0) (shut_currents h1 hb hlt1) (shut_spot h2 hb hlt2)
  rw [← List.append_assoc] at hT
  exact ⟨_, rfl, _, _, _, [], p0 ++ p1 ++ p2, [], hW', trodAll_mk1 (shut_bool Tryz.underlying4 true), hT, rfl, hb.frame _, fun h => by cases h⟩

theorem row_holds : Rows.SenseHonestSaid :=
  OpenClaim.holds_of_wide 5 Tryz.f5 rfl rfl rfl rfl rfl rfl rfl ⟨rfl, rfl, rfl, rfl, rfl⟩ rfl rfl rfl rfl rfl (by kernel_rfl) Tryz.func5 (by kernel_rfl)
    (of_decide_eq_true (by kernel_rfl)) (by unfold Func.isWrapper; rw [if_neg (of_decide_eq_false (by kernel_rfl))]; exact ⟨rfl, rfl⟩)
    (fun os started H enc _ => lifted os started H enc)

set_option maxRecDepth 100000 in
theorem holds : Rows.SenseHonestCardSaid :=
  Claim7.holds_tied_plain_at .later [] _ true _ false
    row_holds (fun _ h => by cases h) (by kernel_rfl) (fun _ h => by cases h) senseHonest_row_tie rfl ⟨rfl, rfl⟩ (by kernel_rfl) rfl
    (fun f fn hf hfn => by
      obtain rfl : 5 = f := Option.some.inj ((by kernel_rfl : _ = some 5).symm.trans hf)
      obtain rfl : fn = Tryz.f5 := (Option.some.inj (Tryz.func5.symm.trans hfn)).symm
      exact ⟨by kernel_rfl, fun j t ht => by
        rw [Tryz.params5] at ht
        rcases j with _ | _ | _ | j
        · obtain rfl : 29 = t := by simpa using ht
          exact (show Tryz.prog.wantsStandIn 29 = false by kernel_rfl)
        · obtain rfl : 32 = t := by simpa using ht
          exact (show Tryz.prog.wantsStandIn 32 = false by kernel_rfl)
        · obtain rfl : 49 = t := by simpa using ht
          exact (show Tryz.prog.wantsStandIn 49 = false by kernel_rfl)
        · simp at ht⟩)
    (by kernel_rfl)
#print axioms holds

end Go.Proofs.YthggkidiidnaoaaGreatDoor.lawSenseHonest
end
