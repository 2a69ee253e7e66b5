import Derived.Test.YtogcjgjhmlifgaaGreatOBA
import Derived.Test.YtogcjgjhmlifgaaGreatOBB
import Derived.Test.YtogcjgjhmlifgaaGreatRows
import Derived.KernelRfl
import Derived.Laws.StructEq
namespace Go.Proofs.YtogcjgjhmlifgaaGreat
set_option linter.unusedVariables false
set_option linter.unusedSimpArgs false
section
open Go.RowKit
theorem rwth_yes (n a b : Int) (w : World) (h1 : a ≤ n) (h2 : n ≤ b) : Calls Tryz.prog 48 #[.int .i64 n, .int .i64 a, .int .i64 b] w (Ret (.bool true) w) := by
  have h := rw5_any n a b w
  rwa [wthn_iff.2 ⟨h1, h2⟩] at h
theorem rtot_yes (n : Int) (w : World) (h1 : 1 ≤ n) (h2 : n ≤ 1000000) : Calls Tryz.prog 49 #[.int .i64 n] w (Ret (.bool true) w) := by
  have h := rtot_any n w
  rwa [wthn_iff.2 ⟨h1, h2⟩] at h
def BriefB5 (R : MachR) (Q : CurR) : Prop := R.la ≤ 40 ∧ R.lb ≤ 40 ∧ R.lc ≤ 40 ∧ R.ld ≤ 60 ∧ Q.la ≤ 100 ∧ Q.lb ≤ 100 ∧ Q.lc ≤ 200
set_option maxRecDepth 100000 in
theorem brief5_any (R : MachR) (M : MachD) (Q : CurR) (g : Int) (w : World) : Calls Tryz.prog 9 #[(.agg #[.string M.name, .slice R.A R.la R.ca, .slice R.B R.lb R.cb, .slice R.C R.lc R.cc, .int .i64 M.grid.r, .int .i64 M.grid.z, .int .i64 M.grid.nr, .int .i64 M.grid.nz, .int .i64 M.grid.step, .slice R.D R.ld R.cd, .slice Q.A Q.la Q.ca, .slice Q.B Q.lb Q.cb, .slice Q.C Q.lc Q.cc, .int .i64 g])] w (fun e w' => ∃ b : Bool, e = .returned (.bool b) ∧ (b = true → BriefB5 R Q) ∧ Below w.heap.size w w') := by
  refine calls_ax (vs := [(.agg #[.string M.name, .slice R.A R.la R.ca, .slice R.B R.lb R.cb, .slice R.C R.lc R.cc, .int .i64 M.grid.r, .int .i64 M.grid.z, .int .i64 M.grid.nr, .int .i64 M.grid.nz, .int .i64 M.grid.step, .slice R.D R.ld R.cd, .slice Q.A Q.la Q.ca, .slice Q.B Q.lb Q.cb, .slice Q.C Q.lc Q.cc, .int .i64 g])]) Tryz.func9 rfl rfl ?_
  refine ac_seq (ac_region ?_)
  refine al_new (fun b => .pointer (some ⟨b, 0, none⟩)) (r_box rfl rfl) rfl rfl rfl ?_
  intro b1
  refine al_p (q_assign rfl) (al_end (aq_then ?_))
  refine ac_seq (ac_draw 7 (by kernel_rfl) (by kernel_rfl) ?_)
  refine ah_share (fuel' := 2) (listed' := #[true, true, true, true, true, true, false, false]) (fun K => ∀ (b1001 : Nat), ∀ (b3001 : Nat), K [(2, (.bool false)), (3, (.pointer (some ⟨b1001, 0, none⟩))), (4, (.pointer (some ⟨b3001, 0, none⟩))), (6, (.agg #[(.string M.name), (.slice R.A R.la R.ca), (.slice R.B R.lb R.cb), (.slice R.C R.lc R.cc), (.int .i64 M.grid.r), (.int .i64 M.grid.z), (.int .i64 M.grid.nr), (.int .i64 M.grid.nz), (.int .i64 M.grid.step), (.slice R.D R.ld R.cd)])), (8, (.agg #[(.slice Q.A Q.la Q.ca), (.slice Q.B Q.lb Q.cb), (.slice Q.C Q.lc Q.cc)]))] [(b3001, .cells [(.slice none 0 0), (.slice none 0 0), (.slice none 0 0)]), (b1001, .cells [(.string { data := #[] }), (.slice none 0 0), (.slice none 0 0), (.slice none 0 0), (.int .i64 0), (.int .i64 0), (.int .i64 0), (.int .i64 0), (.int .i64 0), (.slice none 0 0)]), (b1, .cells [(.string M.name), (.slice R.A R.la R.ca), (.slice R.B R.lb R.cb), (.slice R.C R.lc R.cc), (.int .i64 M.grid.r), (.int .i64 M.grid.z), (.int .i64 M.grid.nr), (.int .i64 M.grid.nz), (.int .i64 M.grid.step), (.slice R.D R.ld R.cd), (.slice Q.A Q.la Q.ca), (.slice Q.B Q.lb Q.cb), (.slice Q.C Q.lc Q.cc), (.int .i64 g)])]) ?_ (fun hS1_0 => ?_)
  · intro b1001 b3001
    refine ah_one 6 rfl (by kernel_rfl) (fun hok1 hcl1 => ?_)
    refine al_storeAll (i := 1) rfl rfl rfl rfl Tryz.sizeOf29 rfl rfl .k1 rfl (al_end (ah_back hok1 hcl1 (fun w9 hs => (hs.tail 2 rfl)) ?_))
    refine ah_one 7 rfl (by kernel_rfl) (fun hok2 hcl2 => ?_)
    refine al_storeAll (i := 0) rfl rfl rfl rfl Tryz.sizeOf32 rfl rfl .k0 rfl (al_end (ah_last (by kernel_rfl) ?_))
    refine aq_then (ac_seq (ac_region ?_))
    refine al_p (q_fieldAddr 1 rfl Tryz.runUnderlying29 rfl Tryz.sizeOf22 (by decide) rfl) (al_p (q_load (i := 1) rfl rfl rfl Tryz.isAgg22) (al_p (q_lenS rfl Tryz.runUnderlying22) (al_p (q_leq rfl rfl) (al_p (q_move rfl) ?_))))
    refine aq_split 13 rfl (fun hb1 => ?_) (fun hb1 => ?_)
    · have g13 := of_decide_eq_true hb1
      refine al_p (q_fieldAddr 2 rfl Tryz.runUnderlying29 rfl Tryz.sizeOf23 (by decide) rfl) (al_p (q_load (i := 1) rfl rfl rfl Tryz.isAgg23) (al_p (q_lenS rfl Tryz.runUnderlying23) (al_p (q_leq rfl rfl) (al_p (q_pickT rfl rfl) ?_))))
      refine al_p (q_move rfl) ?_
      refine aq_split 19 rfl (fun hb2 => ?_) (fun hb2 => ?_)
      · have g19 := of_decide_eq_true hb2
        refine al_p (q_fieldAddr 3 rfl Tryz.runUnderlying29 rfl Tryz.sizeOf24 (by decide) rfl) (al_p (q_load (i := 1) rfl rfl rfl Tryz.isAgg24) (al_p (q_lenS rfl Tryz.runUnderlying24) (al_p (q_leq rfl rfl) (al_p (q_pickT rfl rfl) ?_))))
        refine al_p (q_move rfl) ?_
        refine aq_split 25 rfl (fun hb3 => ?_) (fun hb3 => ?_)
        · have g25 := of_decide_eq_true hb3
          refine al_p (q_fieldAddr 9 rfl Tryz.runUnderlying29 rfl Tryz.sizeOf27 (by decide) rfl) (al_p (q_load (i := 1) rfl rfl rfl Tryz.isAgg27) (al_p (q_lenS rfl Tryz.runUnderlying27) (al_p (q_leq rfl rfl) (al_p (q_pickT rfl rfl) ?_))))
          refine al_p (q_move rfl) ?_
          refine aq_split 31 rfl (fun hb4 => ?_) (fun hb4 => ?_)
          · have g31 := of_decide_eq_true hb4
            refine al_p (q_fieldAddr 0 rfl Tryz.runUnderlying32 rfl Tryz.sizeOf30 (by decide) rfl) (al_p (q_load (i := 0) rfl rfl rfl Tryz.isAgg30) (al_p (q_lenS rfl Tryz.runUnderlying30) (al_p (q_leq rfl rfl) (al_p (q_pickT rfl rfl) ?_))))
            refine al_p (q_move rfl) ?_
            refine aq_split 37 rfl (fun hb5 => ?_) (fun hb5 => ?_)
            · have g37 := of_decide_eq_true hb5
              refine al_p (q_fieldAddr 1 rfl Tryz.runUnderlying32 rfl Tryz.sizeOf30 (by decide) rfl) (al_p (q_load (i := 0) rfl rfl rfl Tryz.isAgg30) (al_p (q_lenS rfl Tryz.runUnderlying30) (al_p (q_leq rfl rfl) (al_p (q_pickT rfl rfl) ?_))))
              refine al_p (q_move rfl) ?_
              refine aq_split 43 rfl (fun hb6 => ?_) (fun hb6 => ?_)
              · have g43 := of_decide_eq_true hb6
                refine al_p (q_fieldAddr 2 rfl Tryz.runUnderlying32 rfl Tryz.sizeOf30 (by decide) rfl) (al_p (q_load (i := 0) rfl rfl rfl Tryz.isAgg30) (al_p (q_lenS rfl Tryz.runUnderlying30) (al_p (q_leq rfl rfl) (al_p (q_pickT rfl rfl) ?_))))
                refine al_p (q_assign rfl) (al_end (aq_then ?_))
                refine ac_ret (ret1 Tryz.results9 rfl (fun w9 hs => ?_))
                first | exact ⟨false, rfl, (fun h => by cases h), hs.below⟩ | exact ⟨_, rfl, (fun h => by have := of_decide_eq_true h; unfold BriefB5; omega), hs.below⟩
              · skip
                refine al_skip rfl rfl rfl (al_skip rfl rfl rfl (al_skip rfl rfl rfl (al_skip rfl rfl rfl (al_p (q_pickF rfl rfl) ?_))))
                refine al_p (q_assign rfl) (al_end (aq_then ?_))
                refine ac_ret (ret1 Tryz.results9 rfl (fun w9 hs => ?_))
                first | exact ⟨false, rfl, (fun h => by cases h), hs.below⟩ | exact ⟨_, rfl, (fun h => by have := of_decide_eq_true h; unfold BriefB5; omega), hs.below⟩
            · skip
              refine al_skip rfl rfl rfl (al_skip rfl rfl rfl (al_skip rfl rfl rfl (al_skip rfl rfl rfl (al_p (q_pickF rfl rfl) ?_))))
              refine al_p (q_move rfl) (al_skip rfl rfl rfl (al_skip rfl rfl rfl (al_skip rfl rfl rfl (al_skip rfl rfl rfl ?_))))
              refine al_p (q_pickF rfl rfl) (al_p (q_assign rfl) (al_end (aq_then ?_)))
              refine ac_ret (ret1 Tryz.results9 rfl (fun w9 hs => ?_))
              first | exact ⟨false, rfl, (fun h => by cases h), hs.below⟩ | exact ⟨_, rfl, (fun h => by have := of_decide_eq_true h; unfold BriefB5; omega), hs.below⟩
          · skip
            refine al_skip rfl rfl rfl (al_skip rfl rfl rfl (al_skip rfl rfl rfl (al_skip rfl rfl rfl (al_p (q_pickF rfl rfl) ?_))))
            refine al_p (q_move rfl) (al_skip rfl rfl rfl (al_skip rfl rfl rfl (al_skip rfl rfl rfl (al_skip rfl rfl rfl ?_))))
            refine al_p (q_pickF rfl rfl) (al_p (q_move rfl) (al_skip rfl rfl rfl (al_skip rfl rfl rfl (al_skip rfl rfl rfl ?_))))
            refine al_skip rfl rfl rfl (al_p (q_pickF rfl rfl) (al_p (q_assign rfl) (al_end (aq_then ?_))))
            refine ac_ret (ret1 Tryz.results9 rfl (fun w9 hs => ?_))
            first | exact ⟨false, rfl, (fun h => by cases h), hs.below⟩ | exact ⟨_, rfl, (fun h => by have := of_decide_eq_true h; unfold BriefB5; omega), hs.below⟩
        · skip
          refine al_skip rfl rfl rfl (al_skip rfl rfl rfl (al_skip rfl rfl rfl (al_skip rfl rfl rfl (al_p (q_pickF rfl rfl) ?_))))
          refine al_p (q_move rfl) (al_skip rfl rfl rfl (al_skip rfl rfl rfl (al_skip rfl rfl rfl (al_skip rfl rfl rfl ?_))))
          refine al_p (q_pickF rfl rfl) (al_p (q_move rfl) (al_skip rfl rfl rfl (al_skip rfl rfl rfl (al_skip rfl rfl rfl ?_))))
          refine al_skip rfl rfl rfl (al_p (q_pickF rfl rfl) (al_p (q_move rfl) (al_skip rfl rfl rfl (al_skip rfl rfl rfl ?_))))
          refine al_skip rfl rfl rfl (al_skip rfl rfl rfl (al_p (q_pickF rfl rfl) (al_p (q_assign rfl) (al_end (aq_then ?_)))))
          refine aq_keepL [2] (.cons rfl .nil) ?_
          refine ac_ret (ret1 Tryz.results9 rfl (fun w9 hs => ?_))
          first | exact ⟨false, rfl, (fun h => by cases h), hs.below⟩ | exact ⟨_, rfl, (fun h => by have := of_decide_eq_true h; unfold BriefB5; omega), hs.below⟩
      · skip
        refine al_skip rfl rfl rfl (al_skip rfl rfl rfl (al_skip rfl rfl rfl (al_skip rfl rfl rfl (al_p (q_pickF rfl rfl) ?_))))
        refine al_p (q_move rfl) (al_skip rfl rfl rfl (al_skip rfl rfl rfl (al_skip rfl rfl rfl (al_skip rfl rfl rfl ?_))))
        refine al_p (q_pickF rfl rfl) (al_p (q_move rfl) (al_skip rfl rfl rfl (al_skip rfl rfl rfl (al_skip rfl rfl rfl ?_))))
        refine al_skip rfl rfl rfl (al_p (q_pickF rfl rfl) (al_p (q_move rfl) (al_skip rfl rfl rfl (al_skip rfl rfl rfl ?_))))
        refine al_skip rfl rfl rfl (al_skip rfl rfl rfl (al_p (q_pickF rfl rfl) (al_p (q_move rfl) (al_skip rfl rfl rfl ?_))))
        refine al_skip rfl rfl rfl (al_skip rfl rfl rfl (al_skip rfl rfl rfl (al_p (q_pickF rfl rfl) (al_p (q_assign rfl) ?_))))
        refine al_end (aq_then ?_)
        refine ac_ret (ret1 Tryz.results9 rfl (fun w9 hs => ?_))
        first | exact ⟨false, rfl, (fun h => by cases h), hs.below⟩ | exact ⟨_, rfl, (fun h => by have := of_decide_eq_true h; unfold BriefB5; omega), hs.below⟩
    · skip
      refine al_skip rfl rfl rfl (al_skip rfl rfl rfl (al_skip rfl rfl rfl (al_skip rfl rfl rfl (al_p (q_pickF rfl rfl) ?_))))
      refine al_p (q_move rfl) (al_skip rfl rfl rfl (al_skip rfl rfl rfl (al_skip rfl rfl rfl (al_skip rfl rfl rfl ?_))))
      refine al_p (q_pickF rfl rfl) (al_p (q_move rfl) (al_skip rfl rfl rfl (al_skip rfl rfl rfl (al_skip rfl rfl rfl ?_))))
      refine al_skip rfl rfl rfl (al_p (q_pickF rfl rfl) (al_p (q_move rfl) (al_skip rfl rfl rfl (al_skip rfl rfl rfl ?_))))
      refine al_skip rfl rfl rfl (al_skip rfl rfl rfl (al_p (q_pickF rfl rfl) (al_p (q_move rfl) (al_skip rfl rfl rfl ?_))))
      refine al_skip rfl rfl rfl (al_skip rfl rfl rfl (al_skip rfl rfl rfl (al_p (q_pickF rfl rfl) (al_p (q_move rfl) ?_))))
      refine al_skip rfl rfl rfl (al_skip rfl rfl rfl (al_skip rfl rfl rfl (al_skip rfl rfl rfl (al_p (q_pickF rfl rfl) ?_))))
      refine al_p (q_assign rfl) (al_end (aq_then ?_))
      refine ac_ret (ret1 Tryz.results9 rfl (fun w9 hs => ?_))
      first | exact ⟨false, rfl, (fun h => by cases h), hs.below⟩ | exact ⟨_, rfl, (fun h => by have := of_decide_eq_true h; unfold BriefB5; omega), hs.below⟩
  · refine ah_t 0 (fun w9 hs => hs) rfl rfl (by kernel_rfl) (q_fieldAddr 0 rfl Tryz.runUnderlying34 rfl Tryz.sizeOf29 (by decide) rfl) (ah_t 1 (fun w9 hs => hs) rfl rfl (by kernel_rfl) (q_loadSub (i := 0) rfl rfl Tryz.isAgg29 Tryz.sizeOf29 .k0 .k10) ?_)
    refine ah_t 2 (fun w9 hs => hs) rfl rfl (by kernel_rfl) (q_fieldAddr 10 rfl Tryz.runUnderlying34 rfl Tryz.sizeOf32 (by decide) rfl) (ah_t 3 (fun w9 hs => hs) rfl rfl (by kernel_rfl) (q_loadSub (i := 0) rfl rfl Tryz.isAgg32 Tryz.sizeOf32 .k10 .k3) ?_)
    refine ah_two 4 5 rfl rfl  (by kernel_rfl) (fun hok3 hcl3 => ?_) (fun hok3 hcl3 => ?_)
    · refine al_new (fun b => .pointer (some ⟨b, 0, none⟩)) (r_alloc Tryz.zeroValue29 rfl) rfl rfl rfl ?_
      intro b2
      refine al_end (ah_back hok3 hcl3 (fun w9 hs => (hs.tail 1 rfl)) ?_)
      refine ah_one 5 rfl (by kernel_rfl) (fun hok4 hcl4 => ?_)
      refine al_new (fun b => .pointer (some ⟨b, 0, none⟩)) (r_alloc Tryz.zeroValue32 rfl) rfl rfl rfl ?_
      intro b3
      refine al_end (ah_back hok4 hcl4 (fun w9 hs => (hs.tail 2 rfl)) ?_)
      exact ah_to (hS1_0 b2 b3) rfl (by kernel_rfl) ⟨rfl, rfl, rfl, rfl, rfl, trivial⟩ (fun w9 hs => hs)
    · refine al_new (fun b => .pointer (some ⟨b, 0, none⟩)) (r_alloc Tryz.zeroValue32 rfl) rfl rfl rfl ?_
      intro b4
      refine al_end (ah_back hok3 hcl3 (fun w9 hs => (hs.tail 1 rfl)) ?_)
      refine ah_one 4 rfl (by kernel_rfl) (fun hok5 hcl5 => ?_)
      refine al_new (fun b => .pointer (some ⟨b, 0, none⟩)) (r_alloc Tryz.zeroValue29 rfl) rfl rfl rfl ?_
      intro b5
      refine al_end (ah_back hok5 hcl5 (fun w9 hs => (hs.tail 2 rfl)) ?_)
      exact ah_to (hS1_0 b5 b4) rfl (by kernel_rfl) ⟨rfl, rfl, rfl, rfl, rfl, trivial⟩ (fun w9 hs => hs.pm (.cons (.there (.here)) (.refl)))
end
end Go.Proofs.YtogcjgjhmlifgaaGreat
