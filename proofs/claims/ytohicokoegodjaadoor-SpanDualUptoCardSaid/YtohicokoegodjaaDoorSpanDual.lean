/- Proved: for every two lists of truths whose reading is of bulk at most 1048576 the law SpanDual returns true (And and Or are each other's mirror by Not, and lists may be cut in two), and the arguments read afterwards as before; the three tables of truths read as the program lays them (the card ties them). The bound on the bulk is the given second form's. -/
import Derived.Test.YtohicokoegodjaaDoorSpanDW
import Derived.Test.YtohicokoegodjaaDoorSpanFD
import Derived.Test.YtohicokoegodjaaDoorCards
import Derived.Deep.DeepHandedRow
namespace Go.Proofs.YtohicokoegodjaaDoor.lawSpanDual
set_option linter.unusedVariables false
set_option linter.unusedSimpArgs false
open Go.ChangeShapes Go.WideShapes Go.ChangeAt Go.RowKit Go.Joins

theorem walk (vl vk : Value) (zl zk : List Int) (w : World) (hIl : IsTr w vl zl) (hSl : Src w vl zl) (hIk : IsTr w vk zk) (hSk : Src w vk zk) (hT : Tabs w) (hlen : zl.length + zk.length ≤ 1048576) :
    Calls Tryd.prog 4 #[vl, vk] w (Ret (.bool true) w) := by
  have hI := hIl
  rcases hI with ⟨x, cap, hv, hz⟩ | ⟨ab, ao, len, cap, hv, h2, h3, h4, h5⟩
  · subst hv
    exact walk_nil x cap _ vk zl zk w rfl hz hIl hSl hIk hSk hT hlen
  · subst hv
    exact walk_some ab ao len cap _ vk zl zk w rfl h2 h3 (Lib.hid h5) hIl hSl hIk hSk hT hlen

theorem bulk_lits {H : Type} (k : IntKind) (l : List Int) : Rows.uptoBulkAll (lits k l : List (DataW H)) = l.length := by
  induction l with
  | nil => rfl
  | cons x l ih =>
    show Rows.uptoBulk (.lit (.int k x)) + Rows.uptoBulkAll (lits k l) = _
    rw [ih]
    simp [Rows.uptoBulk]
    omega

section
variable {H : Type} {enc : TypeId × Value → H}

set_option maxRecDepth 100000 in
/-- A list of truths that comes in: how it reads, how append reads it, its length against its bulk, and that it reads so afterwards. -/
theorem open_truths2 {r : Reach} {W : World} {b0 : Nat} {v : Value} {d : DataW H} {p : List MemPlace}
    (hv : Value.okWide Tryd.prog W r b0 24 v) (h : DataW.Trod enc Tryd.prog W 0 (fun _ => true) true 24 v d p) :
    ∃ zs : List Int, IsTr W v zs ∧ Src W v zs ∧ zs.length ≤ Rows.uptoBulk d ∧ ∀ W' : World, Below W.heap.size W W' → DataW.Trod enc Tryd.prog W' 0 (fun b => decide (b < W.heap.size)) true 24 v d p := by
  have ca : Tryd.prog.cellsOf 25 = 1 := by kernel_rfl
  obtain ⟨a, len, cap, rfl⟩ := okWide_slice Tryd.underlying24 hv
  obtain ⟨fuel, hf⟩ := h
  rcases open_ints Tryd.underlying24 Tryd.underlying25 ca hf with ⟨hcs, hx⟩ | ⟨a', len', cap', zs, hcs, hb, hl, hm, hz, hx, hcell, hwf⟩
  · simp at hcs hx
    obtain ⟨rfl, rfl, rfl⟩ := hcs
    obtain ⟨rfl, rfl⟩ := hx
    exact ⟨[], .inl ⟨_, _, rfl, rfl⟩, .inl ⟨rfl, rfl⟩, Nat.zero_le _, fun W' _ => ⟨1, by simp [DataW.trod, Tryd.underlying24, Value.cells]⟩⟩
  · simp at hcs hx
    obtain ⟨rfl, rfl, rfl⟩ := hcs
    obtain ⟨rfl, rfl⟩ := hx
    simp only [if_true] at hz
    have hlt : ∀ i, i < zs.length → a'.block < W.heap.size := fun i hi => by
      have := World.block_lt_of_cell? W _ (hcell i hi)
      rwa [block_add] at this
    have hlen : (zs.take len).length = len := by simp; omega
    refine ⟨zs.take len, ?_, .inr ⟨a', len, cap, rfl, hlen, fun h0 => hlt 0 (by omega), fun j hj => ?_⟩, ?_, fun W' hB => ?_⟩
    · by_cases h0 : len = 0
      · subst h0
        exact .inl ⟨_, _, rfl, by simp⟩
      · obtain ⟨b, off, spot⟩ := a'
        have hspot : spot = none := by simpa [Addr.add] using World.cell?_spot (hcell 0 (by omega))
        subst hspot
        refine .inr ⟨b, off, len, cap, rfl, hlt 0 (by omega), hlen, Nat.le_trans hl hm, fun j hj => ?_⟩
        have := hcell j (by omega)
        rw [add_plain] at this
        rw [this, List.getD_eq_getElem?_getD, List.getD_eq_getElem?_getD, List.getElem?_take_of_lt hj]
    · rw [hcell j (by omega), List.getD_eq_getElem?_getD, List.getD_eq_getElem?_getD, List.getElem?_take_of_lt hj]
    · show _ ≤ Rows.uptoBulkAll (lits .i64 (zs.take len)) + Rows.uptoBulkAll (lits .i64 (zs.drop len)) + 1
      rw [bulk_lits]
      omega
    · by_cases h0 : cap = 0
      · exact ⟨2, shut_ints (H := H) (enc := enc) (w := W') (base := 0) (spare := fun b => decide (b < W.heap.size)) (held := true) 0 Tryd.underlying24 Tryd.underlying25 ca hb hl hm (by split <;> omega) (fun i hi => absurd hi (by omega)) hwf⟩
      · have hb' : a'.block < W.heap.size := hlt 0 (by omega)
        exact ⟨2, by
          have := shut_ints (H := H) (enc := enc) (w := W') (base := 0) (spare := fun b => decide (b < W.heap.size)) (held := true) 0 Tryd.underlying24 Tryd.underlying25 ca hb hl hm (by simp [hb', hz]) (fun i hi => by
            rw [hB.cell (by rw [block_add]; exact hb')]
            exact hcell i hi) hwf
          exact this⟩

end

theorem door_met (os : Os) : laidMet Tryd.prog Rows.spanDualUptoRow.laid ((World.doorLaid Tryd.prog 400 os).forCall (fun _ _ => 0) ⟨#[], #[.slice none 0 0, .slice none 0 0], []⟩).memory :=
  laidMet_of_run' 8 (by kernel_rfl) (by kernel_rfl)
theorem reads (os : Os) {H : Type} (enc : TypeId × Value → H) : ∃ places, DataW.whole enc Tryd.prog ((World.doorLaid Tryd.prog 400 os).forCall (fun _ _ => 0) ⟨#[], #[.slice none 0 0, .slice none 0 0], []⟩).memory Tryd.f4.params.toList Rows.spanDualSpec.vars false #[Value.slice none 0 0, Value.slice none 0 0].toList 8 = some ([.nil, .nil], [], places) :=
  ⟨[], by kernel_rfl⟩

set_option maxRecDepth 100000 in
theorem lifted (os : Os) (started : os.Started) (H : Type) (enc : TypeId × Value → H) (F : Stop.Interp) :
    ReturnsInHanded {} Tryd.checked os 4 .any ((Rows.OpenSpec.upto Rows.spanDualSpec).preRow enc Tryd.prog Tryd.f4 Rows.spanDualUptoRow.domain false Rows.spanDualUptoRow.laid) (((Rows.OpenSpec.upto Rows.spanDualSpec).at F).post enc Tryd.prog Tryd.f4 false true false false) := by
  obtain ⟨places, hx⟩ := reads os enc
  refine returnsInHanded_of_row (C := Tryd.checked) (s := Rows.OpenSpec.upto Rows.spanDualSpec) own started (by kernel_rfl) Tryd.func4
    (witness_row_at (enc := enc) (C := Tryd.checked) false (World.doorLaid Tryd.prog 400 os) #[.slice none 0 0, .slice none 0 0] rfl (by kernel_rfl) (by kernel_rfl) (by kernel_rfl)
      (OpenSpec.preRow_of_cond 8 hx (by kernel_rfl) (fun k hk => by cases hk; kernel_rfl) (by kernel_rfl) (door_met os))) ?_
  intro W base args ds gs before hval0 hW _ hcond0 _ hL _ _
  have hcond : Rows.uptoSmall H (ds ++ gs) = true := hcond0 _ rfl
  have hk := of_decide_eq_true hcond
  have hval : ∀ (j : Nat) t v, Tryd.f4.params[j]? = some t → args[j]? = some v → Value.okWide Tryd.prog W .any base t v := hval0
  have hW' := hW
  obtain ⟨p, q, hA0, hV, rfl, _, _⟩ := hW
  have hA : DataW.TrodAll enc Tryd.prog W 0 (fun _ => true) true Tryd.f4.params.toList args.toList ds p := hA0
  rw [Tryd.params4] at hA hval
  obtain ⟨v0, v1, d0, d1, p0, p1, rfl, rfl, rfl, h0, h1⟩ := trodAll_two hA
  obtain ⟨rfl, rfl⟩ := trodVars_none hV
  obtain ⟨z0, i0, s0, b0, t0⟩ := open_truths2 (hval 0 24 v0 rfl rfl) h0
  obtain ⟨z1, i1, s1, b1, t1⟩ := open_truths2 (hval 1 24 v1 rfl rfl) h1
  clear hA0 hval0 hcond0
  simp only [List.append_nil] at hW' hk
  simp only [Rows.uptoBulkAll] at hk
  refine (walk v0 v1 z0 z1 W i0 s0 i1 s1 (tabs_of_laid hL) (by omega)).mono fun e W' ⟨he, hb⟩ => ?_
  subst he
  exact ⟨_, rfl, _, _, _, [], p0 ++ p1, [], hW', trodAll_mk1 (shut_bool Tryd.underlying4 true), trodAll_mk2 (t0 _ hb) (t1 _ hb), rfl, hb.frame _, fun h => by cases h⟩

theorem row_holds : Rows.SpanDualUptoSaid :=
  OpenClaim.holds_of_cond 4 Tryd.f4 rfl rfl rfl rfl rfl rfl rfl ⟨rfl, rfl, rfl, rfl, rfl⟩ rfl rfl rfl rfl rfl (by kernel_rfl) Tryd.func4 (by kernel_rfl)
    (of_decide_eq_true (by kernel_rfl)) (by unfold Func.isWrapper; rw [if_neg (of_decide_eq_false (by kernel_rfl))]; exact ⟨rfl, rfl⟩)
    (fun os started H enc _ F => by rw [OpenClaim.pre_eq_preRow]; exact lifted os started H enc F)

set_option maxRecDepth 100000 in
theorem holds : Rows.SpanDualUptoCardSaid :=
  Claim7.holds_tied_plain_at .later [] _ true _ true
    row_holds (fun _ h => by cases h) (by kernel_rfl) (fun _ h => by cases h) spanDualUpto_row_tie rfl ⟨rfl, rfl⟩ (by kernel_rfl) rfl
    (fun f fn hf hfn => by
      obtain rfl : 4 = f := Option.some.inj ((by kernel_rfl : _ = some 4).symm.trans hf)
      obtain rfl : fn = Tryd.f4 := (Option.some.inj (Tryd.func4.symm.trans hfn)).symm
      exact ⟨by kernel_rfl, fun j t ht => by
        rw [Tryd.params4] at ht
        rcases j with _ | _ | j
        · obtain rfl : 24 = t := by simpa using ht
          exact (show Tryd.prog.wantsStandIn 24 = false by kernel_rfl)
        · obtain rfl : 24 = t := by simpa using ht
          exact (show Tryd.prog.wantsStandIn 24 = false by kernel_rfl)
        · simp at ht⟩)
    (by kernel_rfl)
#print axioms holds

end Go.Proofs.YtohicokoegodjaaDoor.lawSpanDual
