import Derived.Test.YtnikdbglpimadaaGreatJAS
import Derived.Test.YtnikdbglpimadaaGreatJAU
import Derived.Test.YtnikdbglpimadaaGreatJBF
import Derived.Test.YtnikdbglpimadaaGreatRows
import Derived.KernelRfl
import Derived.Laws.StructEq
section
/- Package circuit: Applied, Induced, Quench, over this seat's translation (written by ax_ci20.py). -/
namespace Go.Proofs.YtnikdbglpimadaaGreat
set_option linter.unusedVariables false
set_option linter.unusedSimpArgs false
open Go.RowKit

def OutL (w : World) (k : Int) (zs : List Int) (e : Ending) (w' : World) : Prop :=
  ∃ (A : Option Addr) (n c : Nat), e = .returned (.tuple #[.slice A n c, .int .i64 k]) ∧ IsT 1 intCells w' A n (if k = 0 then zs else []) ∧ (∀ b o, A = some ⟨b, o, none⟩ → w.heap.size ≤ b) ∧ n ≤ 1000000 ∧ Below w.heap.size w w'
theorem OutL.bad {w w' : World} {k : Int} {zs : List Int} (hk : k ≠ 0) (hb : Below w.heap.size w w') : OutL w k zs (.returned (.tuple #[.slice none 0 0, .int .i64 k])) w' :=
  ⟨none, 0, 0, rfl, by rw [if_neg hk]; exact ⟨rfl, fun h => absurd h (by omega)⟩, (fun b o e => by cases e), by omega, hb⟩
theorem OutL.ok {w w' : World} {A : Option Addr} {n c : Nat} {zs : List Int} (hN : NewT 1 intCells w.heap.size w' A n c zs) (hn : n ≤ 1000000) (hb : Below w.heap.size w w') : OutL w 0 zs (.returned (.tuple #[.slice A n c, .int .i64 0])) w' :=
  ⟨A, n, c, rfl, by rw [if_pos rfl]; exact hN.isT, hN.new, hn, hb⟩
def applE (M : MachD) (S : StD) (ch : List Int) : Int := if validS M S = true ∧ validCh M ch 1000000000000000 = true then 0 else 1
set_option maxRecDepth 100000 in
theorem capplied_any (R : MachR) (M : MachD) (RS : StR) (S : StD) (A1 : Option Addr) (l1 c1 : Nat) (ch : List Int) (w : World) (hM : IsM w R M) (hS : IsS w RS S) (i1 : IsT 1 intCells w A1 l1 ch) : Calls Tryz.prog 14 #[(.agg (machCells R M)), (RS.v S.tick), (.slice A1 l1 c1)] w (OutL w (applE M S ch) (appL M S ch)) := by
  refine calls_ax (vs := [(.agg (machCells R M)), (RS.v S.tick), (.slice A1 l1 c1)]) Tryz.func14 rfl rfl ?_
  refine ac_seq ?_
  refine ac_region ?_
  refine al_new (fun b => .pointer (some ⟨b, 0, none⟩)) (r_box rfl rfl) rfl rfl rfl ?_
  intro b1
  refine al_new (fun b => .pointer (some ⟨b, 0, none⟩)) (r_box rfl rfl) rfl rfl rfl ?_
  intro b2
  refine al_q (q_assign rfl) rfl rfl rfl ?_
  refine al_q (q_assign rfl) rfl rfl rfl ?_
  refine al_end ?_
  refine aq_then ?_
  refine ac_seq ?_
  refine ac_seq ?_
  refine ac_region ?_
  refine al_q (q_loadAll (i := 1) rfl rfl Tryz.isAgg29 Tryz.sizeOf29 rfl) rfl rfl rfl ?_
  refine al_q (q_loadAll (i := 0) rfl rfl Tryz.isAgg35 Tryz.sizeOf35 rfl) rfl rfl rfl ?_
  refine al_call Tryz.call31 (.cons rfl (.cons rfl .nil)) rfl rfl (fun w1 hs1 => ?_)
  refine (validState_any R M RS S _ (hM.below hs1.below) (hS.below hs1.below)).mono ?_
  rintro e u1 ⟨rfl, hb_1⟩
  refine ⟨_, rfl, hb_1, ?_⟩
  clear hs1
  refine al_q (q_not rfl) rfl rfl rfl ?_
  refine al_q (q_move rfl) rfl rfl rfl ?_
  refine aq_split 12 rfl (fun hb1 => ?_) (fun hb1 => ?_)
  · have hE : applE M S ch = 1 := if_neg (fun h => by rw [h.1] at hb1; cases hb1)
    refine al_skip rfl rfl rfl ?_
    refine al_skip rfl rfl rfl ?_
    refine al_skip rfl rfl rfl ?_
    refine al_skip rfl rfl rfl ?_
    refine al_q (q_pickT rfl rfl) rfl rfl rfl ?_
    refine al_end ?_
    refine aq_then ?_
    refine ac_condT rfl ?_
    refine ac_seq ?_
    refine ac_region ?_
    refine al_q (q_assign rfl) rfl rfl rfl ?_
    refine al_q (q_assign rfl) rfl rfl rfl ?_
    refine al_end ?_
    refine aq_then ?_
    refine ac_ret ?_
    refine aq_thenR ?_
    refine ret2 Tryz.results14 rfl rfl (fun w9 hs => ?_)
    rw [hE]; exact OutL.bad (by decide) hs.below
  · have hv : validS M S = true := by simpa using hb1
    have hf := fitS_iff.1 hv
    obtain ⟨s1, s2⟩ := smallC hM hf.cur.check
    refine al_q (q_loadAll (i := 1) rfl rfl Tryz.isAgg29 Tryz.sizeOf29 rfl) rfl rfl rfl ?_
    refine al_q (q_move rfl) rfl rfl rfl ?_
    refine al_call Tryz.call38 (.cons rfl (.cons rfl .nil)) rfl rfl (fun w2 hs2 => ?_)
    refine (validChange_any R M A1 l1 c1 ch _ (hM.below hs2.below) (i1.below hs2.below)).mono ?_
    rintro e u2 ⟨rfl, hb_2⟩
    refine ⟨_, rfl, hb_2, ?_⟩
    clear hs2
    refine al_q (q_not rfl) rfl rfl rfl ?_
    refine al_q (q_pickF rfl rfl) rfl rfl rfl ?_
    refine al_end ?_
    refine aq_then ?_
    refine ac_cond rfl (fun h1 => ?_) (fun h1 => ?_)
    · have hE : applE M S ch = 1 := if_neg (fun h => by rw [h.2] at h1; cases h1)
      refine ac_seq ?_
      refine ac_region ?_
      refine al_q (q_assign rfl) rfl rfl rfl ?_
      refine al_q (q_assign rfl) rfl rfl rfl ?_
      refine al_end ?_
      refine aq_then ?_
      refine ac_ret ?_
      refine aq_thenR ?_
      refine ret2 Tryz.results14 rfl rfl (fun w9 hs => ?_)
      rw [hE]; exact OutL.bad (by decide) hs.below
    · have hd : validCh M ch 1000000000000000 = true := by simpa using h1
      have hE : applE M S ch = 0 := if_pos ⟨hv, hd⟩
      refine ac_skip ?_
      refine aq_then ?_
      refine ac_seq ?_
      refine ac_region ?_
      refine al_q (q_loadAll (i := 1) rfl rfl Tryz.isAgg29 Tryz.sizeOf29 rfl) rfl rfl rfl ?_
      refine al_q (q_loadAll (i := 0) rfl rfl Tryz.isAgg35 Tryz.sizeOf35 rfl) rfl rfl rfl ?_
      refine al_q (q_move rfl) rfl rfl rfl ?_
      refine al_call Tryz.call39 (.cons rfl (.cons rfl (.cons rfl .nil))) rfl rfl (fun w3 hs3 => ?_)
      refine (applied_any R M RS S A1 l1 c1 ch _ (hM.below hs3.below) (hS.below hs3.below) hf (i1.below hs3.below) hd).mono ?_
      rintro e u3 ⟨A9, c9, rfl, N9, hb_3⟩
      refine ⟨_, rfl, hb_3, ?_⟩
      clear hs3
      refine al_q (q_assign rfl) rfl rfl rfl ?_
      refine al_q (q_assign rfl) rfl rfl rfl ?_
      refine al_end ?_
      refine aq_then ?_
      refine ac_ret ?_
      refine ret2 Tryz.results14 rfl rfl (fun w9 hs => ?_)
      rw [hE]; exact OutL.ok (hs.newT2 (.head _) N9) (by omega) hs.below

end Go.Proofs.YtnikdbglpimadaaGreat
end
section
/- Package control: heavy, over this seat's translation (written by ax_cs1.py). -/
namespace Go.Proofs.YtnikdbglpimadaaGreat
set_option linter.unusedVariables false
set_option linter.unusedSimpArgs false
open Go.RowKit

def HeavyB (RS : StR) (l1 l2 : Nat) : Prop := (RS.Q.la ≤ 20 ∧ RS.Q.lb ≤ 20 ∧ RS.Q.lc ≤ 70 ∧ RS.lh ≤ 20 ∧ RS.lt ≤ 20) ∧ l1 ≤ 20 ∧ l2 ≤ 70

set_option maxRecDepth 100000 in
theorem heavy_any (RS : StR) (S : StD) (A1 A2 : Option Addr) (l1 c1 l2 c2 : Nat) (w : World) : Calls Tryz.prog 8 #[(RS.v S.tick), (.slice A1 l1 c1), (.slice A2 l2 c2)] w (fun e w' => ∃ b : Bool, e = .returned (.bool b) ∧ (b = false → HeavyB RS l1 l2) ∧ Below w.heap.size w w') := by
  refine calls_ax (vs := [(RS.v S.tick), (.slice A1 l1 c1), (.slice A2 l2 c2)]) Tryz.func8 rfl rfl ?_
  refine ac_seq ?_
  refine ac_region ?_
  refine al_new (fun b => .pointer (some ⟨b, 0, none⟩)) (r_box rfl rfl) rfl rfl rfl ?_
  intro b1
  refine al_q (q_assign rfl) rfl rfl rfl ?_
  refine al_end ?_
  refine aq_then ?_
  refine ac_seq ?_
  refine ac_region ?_
  refine al_q (q_fieldAddr 1 rfl Tryz.runUnderlying35 rfl Tryz.sizeOf32 (by decide) rfl) rfl rfl rfl ?_
  refine al_q (q_fieldAddr 1 rfl Tryz.runUnderlying32 rfl Tryz.sizeOf30 (by decide) rfl) rfl rfl rfl ?_
  refine al_q (q_load (i := 0) rfl rfl rfl Tryz.isAgg30) rfl rfl rfl ?_
  refine al_q (q_lenS rfl Tryz.runUnderlying30) rfl rfl rfl ?_
  refine al_q (q_gtr rfl rfl) rfl rfl rfl ?_
  refine al_q (q_move rfl) rfl rfl rfl ?_
  refine aq_split 12 rfl (fun hb1 => ?_) (fun hb1 => ?_)
  · skip
    refine al_skip rfl rfl rfl ?_
    refine al_skip rfl rfl rfl ?_
    refine al_skip rfl rfl rfl ?_
    refine al_skip rfl rfl rfl ?_
    refine al_skip rfl rfl rfl ?_
    refine al_q (q_pickT rfl rfl) rfl rfl rfl ?_
    refine al_q (q_move rfl) rfl rfl rfl ?_
    refine al_skip rfl rfl rfl ?_
    refine al_skip rfl rfl rfl ?_
    refine al_skip rfl rfl rfl ?_
    refine al_skip rfl rfl rfl ?_
    refine al_skip rfl rfl rfl ?_
    refine al_q (q_pickT rfl rfl) rfl rfl rfl ?_
    refine al_q (q_move rfl) rfl rfl rfl ?_
    refine al_skip rfl rfl rfl ?_
    refine al_skip rfl rfl rfl ?_
    refine al_skip rfl rfl rfl ?_
    refine al_skip rfl rfl rfl ?_
    refine al_q (q_pickT rfl rfl) rfl rfl rfl ?_
    refine al_q (q_move rfl) rfl rfl rfl ?_
    refine al_skip rfl rfl rfl ?_
    refine al_skip rfl rfl rfl ?_
    refine al_skip rfl rfl rfl ?_
    refine al_skip rfl rfl rfl ?_
    refine al_q (q_pickT rfl rfl) rfl rfl rfl ?_
    refine al_q (q_move rfl) rfl rfl rfl ?_
    refine al_skip rfl rfl rfl ?_
    refine al_skip rfl rfl rfl ?_
    refine al_skip rfl rfl rfl ?_
    refine al_q (q_pickT rfl rfl) rfl rfl rfl ?_
    refine al_q (q_move rfl) rfl rfl rfl ?_
    refine al_skip rfl rfl rfl ?_
    refine al_skip rfl rfl rfl ?_
    refine al_skip rfl rfl rfl ?_
    refine al_q (q_pickT rfl rfl) rfl rfl rfl ?_
    refine al_q (q_assign rfl) rfl rfl rfl ?_
    refine al_end ?_
    refine aq_then ?_
    refine ac_ret ?_
    refine ret1 Tryz.results8 rfl (fun w9 hs => ?_)
    first | exact ⟨true, rfl, (fun h => by cases h), hs.below⟩ | exact ⟨_, rfl, (fun h => by have := of_decide_eq_false h; unfold HeavyB; omega), hs.below⟩
  · have g12 := of_decide_eq_false hb1
    refine al_q (q_fieldAddr 1 rfl Tryz.runUnderlying35 rfl Tryz.sizeOf32 (by decide) rfl) rfl rfl rfl ?_
    refine al_q (q_fieldAddr 2 rfl Tryz.runUnderlying32 rfl Tryz.sizeOf30 (by decide) rfl) rfl rfl rfl ?_
    refine al_q (q_load (i := 0) rfl rfl rfl Tryz.isAgg30) rfl rfl rfl ?_
    refine al_q (q_lenS rfl Tryz.runUnderlying30) rfl rfl rfl ?_
    refine al_q (q_gtr rfl rfl) rfl rfl rfl ?_
    refine al_q (q_pickF rfl rfl) rfl rfl rfl ?_
    refine al_q (q_move rfl) rfl rfl rfl ?_
    refine aq_split 19 rfl (fun hb2 => ?_) (fun hb2 => ?_)
    · skip
      refine al_skip rfl rfl rfl ?_
      refine al_skip rfl rfl rfl ?_
      refine al_skip rfl rfl rfl ?_
      refine al_skip rfl rfl rfl ?_
      refine al_skip rfl rfl rfl ?_
      refine al_q (q_pickT rfl rfl) rfl rfl rfl ?_
      refine al_q (q_move rfl) rfl rfl rfl ?_
      refine al_skip rfl rfl rfl ?_
      refine al_skip rfl rfl rfl ?_
      refine al_skip rfl rfl rfl ?_
      refine al_skip rfl rfl rfl ?_
      refine al_q (q_pickT rfl rfl) rfl rfl rfl ?_
      refine al_q (q_move rfl) rfl rfl rfl ?_
      refine al_skip rfl rfl rfl ?_
      refine al_skip rfl rfl rfl ?_
      refine al_skip rfl rfl rfl ?_
      refine al_skip rfl rfl rfl ?_
      refine al_q (q_pickT rfl rfl) rfl rfl rfl ?_
      refine al_q (q_move rfl) rfl rfl rfl ?_
      refine al_skip rfl rfl rfl ?_
      refine al_skip rfl rfl rfl ?_
      refine al_skip rfl rfl rfl ?_
      refine al_q (q_pickT rfl rfl) rfl rfl rfl ?_
      refine al_q (q_move rfl) rfl rfl rfl ?_
      refine al_skip rfl rfl rfl ?_
      refine al_skip rfl rfl rfl ?_
      refine al_skip rfl rfl rfl ?_
      refine al_q (q_pickT rfl rfl) rfl rfl rfl ?_
      refine al_q (q_assign rfl) rfl rfl rfl ?_
      refine al_end ?_
      refine aq_then ?_
      refine ac_ret ?_
      refine ret1 Tryz.results8 rfl (fun w9 hs => ?_)
      first | exact ⟨true, rfl, (fun h => by cases h), hs.below⟩ | exact ⟨_, rfl, (fun h => by have := of_decide_eq_false h; unfold HeavyB; omega), hs.below⟩
    · have g19 := of_decide_eq_false hb2
      refine al_q (q_fieldAddr 1 rfl Tryz.runUnderlying35 rfl Tryz.sizeOf32 (by decide) rfl) rfl rfl rfl ?_
      refine al_q (q_fieldAddr 3 rfl Tryz.runUnderlying32 rfl Tryz.sizeOf30 (by decide) rfl) rfl rfl rfl ?_
      refine al_q (q_load (i := 0) rfl rfl rfl Tryz.isAgg30) rfl rfl rfl ?_
      refine al_q (q_lenS rfl Tryz.runUnderlying30) rfl rfl rfl ?_
      refine al_q (q_gtr rfl rfl) rfl rfl rfl ?_
      refine al_q (q_pickF rfl rfl) rfl rfl rfl ?_
      refine al_q (q_move rfl) rfl rfl rfl ?_
      refine aq_split 26 rfl (fun hb3 => ?_) (fun hb3 => ?_)
      · skip
        refine al_skip rfl rfl rfl ?_
        refine al_skip rfl rfl rfl ?_
        refine al_skip rfl rfl rfl ?_
        refine al_skip rfl rfl rfl ?_
        refine al_q (q_pickT rfl rfl) rfl rfl rfl ?_
        refine al_q (q_move rfl) rfl rfl rfl ?_
        refine al_skip rfl rfl rfl ?_
        refine al_skip rfl rfl rfl ?_
        refine al_skip rfl rfl rfl ?_
        refine al_skip rfl rfl rfl ?_
        refine al_q (q_pickT rfl rfl) rfl rfl rfl ?_
        refine al_q (q_move rfl) rfl rfl rfl ?_
        refine al_skip rfl rfl rfl ?_
        refine al_skip rfl rfl rfl ?_
        refine al_skip rfl rfl rfl ?_
        refine al_q (q_pickT rfl rfl) rfl rfl rfl ?_
        refine al_q (q_move rfl) rfl rfl rfl ?_
        refine al_skip rfl rfl rfl ?_
        refine al_skip rfl rfl rfl ?_
        refine al_skip rfl rfl rfl ?_
        refine al_q (q_pickT rfl rfl) rfl rfl rfl ?_
        refine al_q (q_assign rfl) rfl rfl rfl ?_
        refine al_end ?_
        refine aq_then ?_
        refine ac_ret ?_
        refine ret1 Tryz.results8 rfl (fun w9 hs => ?_)
        first | exact ⟨true, rfl, (fun h => by cases h), hs.below⟩ | exact ⟨_, rfl, (fun h => by have := of_decide_eq_false h; unfold HeavyB; omega), hs.below⟩
      · have g26 := of_decide_eq_false hb3
        refine al_q (q_fieldAddr 4 rfl Tryz.runUnderlying35 rfl Tryz.sizeOf30 (by decide) rfl) rfl rfl rfl ?_
        refine al_q (q_load (i := 0) rfl rfl rfl Tryz.isAgg30) rfl rfl rfl ?_
        refine al_q (q_lenS rfl Tryz.runUnderlying30) rfl rfl rfl ?_
        refine al_q (q_gtr rfl rfl) rfl rfl rfl ?_
        refine al_q (q_pickF rfl rfl) rfl rfl rfl ?_
        refine al_q (q_move rfl) rfl rfl rfl ?_
        refine aq_split 32 rfl (fun hb4 => ?_) (fun hb4 => ?_)
        · skip
          refine al_skip rfl rfl rfl ?_
          refine al_skip rfl rfl rfl ?_
          refine al_skip rfl rfl rfl ?_
          refine al_skip rfl rfl rfl ?_
          refine al_q (q_pickT rfl rfl) rfl rfl rfl ?_
          refine al_q (q_move rfl) rfl rfl rfl ?_
          refine al_skip rfl rfl rfl ?_
          refine al_skip rfl rfl rfl ?_
          refine al_skip rfl rfl rfl ?_
          refine al_q (q_pickT rfl rfl) rfl rfl rfl ?_
          refine al_q (q_move rfl) rfl rfl rfl ?_
          refine al_skip rfl rfl rfl ?_
          refine al_skip rfl rfl rfl ?_
          refine al_skip rfl rfl rfl ?_
          refine al_q (q_pickT rfl rfl) rfl rfl rfl ?_
          refine al_q (q_assign rfl) rfl rfl rfl ?_
          refine al_end ?_
          refine aq_then ?_
          refine aq_keepL [6] (.cons rfl .nil) ?_
          refine ac_ret ?_
          refine ret1 Tryz.results8 rfl (fun w9 hs => ?_)
          first | exact ⟨true, rfl, (fun h => by cases h), hs.below⟩ | exact ⟨_, rfl, (fun h => by have := of_decide_eq_false h; unfold HeavyB; omega), hs.below⟩
        · have g32 := of_decide_eq_false hb4
          refine al_q (q_fieldAddr 5 rfl Tryz.runUnderlying35 rfl Tryz.sizeOf33 (by decide) rfl) rfl rfl rfl ?_
          refine al_q (q_load (i := 0) rfl rfl rfl Tryz.isAgg33) rfl rfl rfl ?_
          refine al_q (q_lenS rfl Tryz.runUnderlying33) rfl rfl rfl ?_
          refine al_q (q_gtr rfl rfl) rfl rfl rfl ?_
          refine al_q (q_pickF rfl rfl) rfl rfl rfl ?_
          refine al_q (q_move rfl) rfl rfl rfl ?_
          refine aq_split 38 rfl (fun hb5 => ?_) (fun hb5 => ?_)
          · skip
            refine al_skip rfl rfl rfl ?_
            refine al_skip rfl rfl rfl ?_
            refine al_skip rfl rfl rfl ?_
            refine al_q (q_pickT rfl rfl) rfl rfl rfl ?_
            refine al_q (q_move rfl) rfl rfl rfl ?_
            refine al_skip rfl rfl rfl ?_
            refine al_skip rfl rfl rfl ?_
            refine al_skip rfl rfl rfl ?_
            refine al_q (q_pickT rfl rfl) rfl rfl rfl ?_
            refine al_q (q_assign rfl) rfl rfl rfl ?_
            refine al_end ?_
            refine aq_then ?_
            refine ac_ret ?_
            refine ret1 Tryz.results8 rfl (fun w9 hs => ?_)
            first | exact ⟨true, rfl, (fun h => by cases h), hs.below⟩ | exact ⟨_, rfl, (fun h => by have := of_decide_eq_false h; unfold HeavyB; omega), hs.below⟩
          · have g38 := of_decide_eq_false hb5
            refine al_q (q_move rfl) rfl rfl rfl ?_
            refine al_q (q_lenS rfl Tryz.runUnderlying30) rfl rfl rfl ?_
            refine al_q (q_gtr rfl rfl) rfl rfl rfl ?_
            refine al_q (q_pickF rfl rfl) rfl rfl rfl ?_
            refine al_q (q_move rfl) rfl rfl rfl ?_
            refine aq_split 43 rfl (fun hb6 => ?_) (fun hb6 => ?_)
            · skip
              refine al_skip rfl rfl rfl ?_
              refine al_skip rfl rfl rfl ?_
              refine al_skip rfl rfl rfl ?_
              refine al_q (q_pickT rfl rfl) rfl rfl rfl ?_
              refine al_q (q_assign rfl) rfl rfl rfl ?_
              refine al_end ?_
              refine aq_then ?_
              refine ac_ret ?_
              refine ret1 Tryz.results8 rfl (fun w9 hs => ?_)
              first | exact ⟨true, rfl, (fun h => by cases h), hs.below⟩ | exact ⟨_, rfl, (fun h => by have := of_decide_eq_false h; unfold HeavyB; omega), hs.below⟩
            · have g43 := of_decide_eq_false hb6
              refine al_q (q_move rfl) rfl rfl rfl ?_
              refine al_q (q_lenS rfl Tryz.runUnderlying39) rfl rfl rfl ?_
              refine al_q (q_gtr rfl rfl) rfl rfl rfl ?_
              refine al_q (q_pickF rfl rfl) rfl rfl rfl ?_
              refine al_q (q_assign rfl) rfl rfl rfl ?_
              refine al_end ?_
              refine aq_then ?_
              refine ac_ret ?_
              refine ret1 Tryz.results8 rfl (fun w9 hs => ?_)
              first | exact ⟨true, rfl, (fun h => by cases h), hs.below⟩ | exact ⟨_, rfl, (fun h => by have := of_decide_eq_false h; unfold HeavyB; omega), hs.below⟩

end Go.Proofs.YtnikdbglpimadaaGreat
end
section
/- Package control: Room on both sides, over this seat's translation (written by ax_cs2.py). -/
namespace Go.Proofs.YtnikdbglpimadaaGreat
set_option linter.unusedVariables false
set_option linter.unusedSimpArgs false
open Go.RowKit

def OutSp (w : World) (k : Int) (zs : List SpanD) (e : Ending) (w' : World) : Prop :=
  ∃ (A : Option Addr) (n c : Nat), e = .returned (.tuple #[.slice A n c, .int .i64 k]) ∧ IsT 2 SpanD.cells w' A n (if k = 0 then zs else []) ∧ (∀ b o, A = some ⟨b, o, none⟩ → w.heap.size ≤ b) ∧ n ≤ 1000000 ∧ Below w.heap.size w w'
theorem OutSp.bad {w w' : World} {k : Int} {zs : List SpanD} (hk : k ≠ 0) (hb : Below w.heap.size w w') : OutSp w k zs (.returned (.tuple #[.slice none 0 0, .int .i64 k])) w' :=
  ⟨none, 0, 0, rfl, by rw [if_neg hk]; exact ⟨rfl, fun h => absurd h (by omega)⟩, (fun b o e => by cases e), by omega, hb⟩
theorem OutSp.ok {w w' : World} {A : Option Addr} {n c : Nat} {zs : List SpanD} (hN : NewT 2 SpanD.cells w.heap.size w' A n c zs) (hn : n ≤ 1000000) (hb : Below w.heap.size w w') : OutSp w 0 zs (.returned (.tuple #[.slice A n c, .int .i64 0])) w' :=
  ⟨A, n, c, rfl, by rw [if_pos rfl]; exact hN.isT, hN.new, hn, hb⟩
def roomN (M : MachD) (S : StD) (k : Nat) : SpanD := if bA S.trip k = false ∧ wthn (iA S.C.coils k) (-(cA M k).cur) (cA M k).cur = true then ⟨max (-(cA M k).step) (-(cA M k).cur - iA S.C.coils k), min (cA M k).step ((cA M k).cur - iA S.C.coils k)⟩ else ⟨0, 0⟩
def roomL (M : MachD) (S : StD) : List SpanD := lst M.coils.length (roomN M S)
def roomE (M : MachD) (S : StD) : Int := if validS M S = true then 0 else 1
def zS2 : List Value := [.int .i64 0, .int .i64 0]
abbrev rmix (n k : Nat) (M : MachD) (S : StD) : List Value := mixF n k (fun j => (roomN M S j).cells) (fun _ => zS2)
theorem mixF_skip {n k : Nat} {F G : Nat → List Value} (h : F k = G k) : mixF n (k + 1) F G = mixF n k F G := by
  unfold mixF
  refine flatMap_ext fun j hj => ?_
  by_cases g : j < k
  · rw [if_pos g, if_pos (by omega)]
  · rw [if_neg g]
    by_cases g2 : j = k
    · subst g2; rw [if_pos (by omega), h]
    · rw [if_neg (by omega)]
theorem flat_span (n : Nat) (f : Nat → SpanD) : (lst n f).flatMap SpanD.cells = (List.range n).flatMap fun j => (f j).cells := by
  unfold lst; rw [List.flatMap_map]

theorem csc_bl_apiSpan_0_1 (a0 a1 : Value) (ha0 : a0.oneCell' = true) (ha1 : a1.oneCell' = true) : ∀ w, (Instr.build 44 #[(0, a0), (1, a1)]).run Tryz.prog w = .ok (.agg #[a0, a1]) w := by
  have ea0 : a0.cells = #[a0] := cells_one ha0
  have ea1 : a1.cells = #[a1] := cells_one ha1
  intro w; simp [Instr.build, Instr.fill, cells_agg, Tryz.runUnderlying44, Tryz.zeroValue44, Tryz.sizeOf3, ea0, ea1]

set_option maxRecDepth 100000 in
theorem croom_any (R : MachR) (M : MachD) (RS : StR) (S : StD) (w : World) (hM : IsM w R M) (hS : IsS w RS S) : Calls Tryz.prog 9 #[(.agg (machCells R M)), (RS.v S.tick)] w (OutSp w (roomE M S) (roomL M S)) := by
  refine calls_ax (vs := [(.agg (machCells R M)), (RS.v S.tick)]) Tryz.func9 rfl rfl ?_
  refine ac_seq ?_
  refine ac_region ?_
  refine al_new (fun b => .pointer (some ⟨b, 0, none⟩)) (r_box rfl rfl) rfl rfl rfl ?_
  intro b1
  refine al_new (fun b => .pointer (some ⟨b, 0, none⟩)) (r_box rfl rfl) rfl rfl rfl ?_
  intro b2
  refine al_q (q_assign rfl) rfl rfl rfl ?_
  refine al_q (q_assign rfl) rfl rfl rfl ?_
  refine al_end ?_
  refine aq_then ?_
  refine ac_seq ?_
  refine ac_seq ?_
  refine ac_region ?_
  refine al_q (q_loadAll (i := 1) rfl rfl Tryz.isAgg29 Tryz.sizeOf29 rfl) rfl rfl rfl ?_
  refine al_q (q_loadAll (i := 0) rfl rfl Tryz.isAgg35 Tryz.sizeOf35 rfl) rfl rfl rfl ?_
  refine al_call Tryz.call31 (.cons rfl (.cons rfl .nil)) rfl rfl (fun w1 hs1 => ?_)
  refine (validState_any R M RS S _ (hM.below hs1.below) (hS.below hs1.below)).mono ?_
  rintro e u1 ⟨rfl, hb_1⟩
  refine ⟨_, rfl, hb_1, ?_⟩
  clear hs1
  refine al_q (q_not rfl) rfl rfl rfl ?_
  refine al_end ?_
  refine aq_then ?_
  refine ac_cond rfl (fun h1 => ?_) (fun h1 => ?_)
  · have hE : roomE M S = 1 := if_neg (fun h => by rw [h] at h1; cases h1)
    refine ac_seq ?_
    refine ac_region ?_
    refine al_q (q_assign rfl) rfl rfl rfl ?_
    refine al_q (q_assign rfl) rfl rfl rfl ?_
    refine al_end ?_
    refine aq_then ?_
    refine ac_ret ?_
    refine aq_thenR ?_
    refine ret2 Tryz.results9 rfl rfl (fun w9 hs => ?_)
    rw [hE]; exact OutSp.bad (by decide) hs.below
  · have hv : validS M S = true := by simpa using h1
    have hf := fitS_iff.1 hv
    obtain ⟨s1, s2⟩ := smallC hM hf.cur.check
    have n1 := hM.coils.1
    have n2 := hS.cur.coils.1
    have n3 := hf.cur.coils.1
    have n4 := hS.trip.1
    have n5 := hf.trip
    have hE : roomE M S = 0 := if_pos hv
    refine ac_skip ?_
    refine aq_then ?_
    refine ac_seq ?_
    refine ac_region ?_
    refine al_q (q_fieldAddr 1 rfl Tryz.runUnderlying29 rfl Tryz.sizeOf22 (by decide) rfl) rfl rfl rfl ?_
    refine al_q (q_load (i := 1) rfl rfl rfl Tryz.isAgg22) rfl rfl rfl ?_
    refine al_q (q_lenS rfl Tryz.runUnderlying22) rfl rfl rfl ?_
    refine al_makeAgg (n := R.la) (bytes := 16) (zv := (.agg #[.int .i64 0, .int .i64 0])) [(.int .i64 0), (.int .i64 0)] rfl rfl rfl Tryz.underlying39 (by kernel_rfl) rfl rfl rfl (by omega) (by decide) rfl rfl ?_
    intro b3
    refine al_q (q_assign rfl) rfl rfl rfl ?_
    refine al_end ?_
    refine aq_then ?_
    refine ac_seq ?_
    refine ac_seq ?_
    refine ac_region ?_
    refine al_q (q_fieldAddr 1 rfl Tryz.runUnderlying29 rfl Tryz.sizeOf22 (by decide) rfl) rfl rfl rfl ?_
    refine al_q (q_load (i := 2) rfl rfl rfl Tryz.isAgg22) rfl rfl rfl ?_
    refine al_q (q_lenS rfl Tryz.runUnderlying22) rfl rfl rfl ?_
    refine al_q (q_move rfl) rfl rfl rfl ?_
    refine al_end ?_
    refine aq_then ?_
    refine ac_block ?_
    refine ac_loop (β := Nat) (fun k => k ≤ R.la) (fun k => [(3, (.pointer (some ⟨b2, 0, none⟩))), (4, (.slice none 0 0)), (5, (.int .i64 0)), (6, (.slice (some ⟨b3, 0, none⟩) (R.la) (R.la))), (19, (.slice (R.A) R.la R.ca)), (20, (.int .i64 (R.la : Int))), (21, (.int .i64 (k : Int)))]) (fun _ => _) (fun k => [(b3, .cells (rmix R.la k M S)), (b2, _), (b1, _)]) (fun k => R.la - k) 0 (by omega) ⟨rfl, rfl, rfl, rfl, rfl, rfl, rfl, trivial⟩ (fun w9 hs => (by rw [show rmix R.la 0 M S = (List.range R.la).flatMap (fun _ => zS2) from mixF_zero _ _ _]; exact hs)) (fun k hF1 => ?_)
    refine ac_seq ?_
    refine ac_region ?_
    refine al_q (q_lss rfl rfl) rfl rfl rfl ?_
    refine al_end ?_
    refine aq_then ?_
    refine ac_seq ?_
    refine ac_cond rfl (fun h2 => ?_) (fun h2 => ?_)
    · have hkl : k < R.la := by have := of_decide_eq_true h2; omega
      obtain ⟨b11, o11, hA1, hlt1, hget1⟩ := hM.coils.2 (by omega)
      have hx1 := cA_get (M := M) (k := k) (by omega)
      obtain ⟨b21, o21, hA2, hlt2, hget2⟩ := hS.cur.coils.2 (by omega)
      have hx2 := iA_get (l := S.C.coils) (k := k) (by omega)
      obtain ⟨b31, o31, hA3, hlt3, hget3⟩ := hS.trip.2 (by omega)
      have hx3 := bA_get (l := S.trip) (k := k) (by omega)
      have hco := cA_ok hf.cur.check (k := k) (by omega)
      have q1 := hco.cur
      have q2 := hco.step
      have q3 := hf.cur.coils.2 _ (List.mem_of_getElem? hx2)
      refine ac_skip ?_
      refine aq_then ?_
      refine ac_seq ?_
      refine ac_block ?_
      refine ac_seq ?_
      refine ac_region ?_
      refine al_q (q_move rfl) rfl rfl rfl ?_
      refine al_q (q_indexAddrA (i := k) (o11 + k * 8 + 0) hA1 rfl rfl rfl (by omega) Tryz.runUnderlying22 Tryz.sizeOf49 rfl) rfl rfl rfl ?_
      refine al_q (q_loadXs (CoilD.cells (cA M k)) rfl Tryz.isAgg49 Tryz.sizeOf49 (fun w9 hs j9 v9 h9 => by rw [addr_add]; exact (hs.below.cell (p := ⟨_, _, none⟩) hlt1).trans ((hget1 k _ hx1) j9 v9 h9)) rfl) rfl rfl rfl ?_
      refine al_new (fun b => .pointer (some ⟨b, 0, none⟩)) (r_alloc Tryz.zeroValue49 rfl) rfl rfl rfl ?_
      intro b4
      refine al_q (q_assign rfl) rfl rfl rfl ?_
      refine al_storeAll (i := 0) rfl rfl rfl rfl Tryz.sizeOf49 rfl rfl .k0 rfl ?_
      refine al_end ?_
      refine aq_then ?_
      refine ac_seq ?_
      refine ac_region ?_
      refine al_q (q_fieldAddr 1 rfl Tryz.runUnderlying35 rfl Tryz.sizeOf32 (by decide) rfl) rfl rfl rfl ?_
      refine al_q (q_fieldAddr 1 rfl Tryz.runUnderlying32 rfl Tryz.sizeOf30 (by decide) rfl) rfl rfl rfl ?_
      refine al_q (q_load (i := 2) rfl rfl rfl Tryz.isAgg30) rfl rfl rfl ?_
      refine al_q (q_move rfl) rfl rfl rfl ?_
      refine al_q (q_indexAddrA (i := k) (o21 + k * 1 + 0) hA2 rfl rfl rfl (by omega) Tryz.runUnderlying30 Tryz.sizeOf3 rfl) rfl rfl rfl ?_
      refine al_q (q_loadX rfl Tryz.isAgg3 (fun w9 hs => (hs.below.cell (p := ⟨_, _, none⟩) hlt2).trans ((hget2 k _ hx2) 0 _ rfl))) rfl rfl rfl ?_
      refine al_q (q_assign rfl) rfl rfl rfl ?_
      refine al_end ?_
      refine aq_then ?_
      refine ac_seq ?_
      refine ac_region ?_
      refine al_q (q_fieldAddr 5 rfl Tryz.runUnderlying35 rfl Tryz.sizeOf33 (by decide) rfl) rfl rfl rfl ?_
      refine al_q (q_load (i := 2) rfl rfl rfl Tryz.isAgg33) rfl rfl rfl ?_
      refine al_q (q_move rfl) rfl rfl rfl ?_
      refine al_q (q_indexAddrA (i := k) (o31 + k * 1 + 0) hA3 rfl rfl rfl (by omega) Tryz.runUnderlying33 Tryz.sizeOf4 rfl) rfl rfl rfl ?_
      refine al_q (q_loadX rfl Tryz.isAgg4 (fun w9 hs => (hs.below.cell (p := ⟨_, _, none⟩) hlt3).trans ((hget3 k _ hx3) 0 _ rfl))) rfl rfl rfl ?_
      refine al_q (q_not rfl) rfl rfl rfl ?_
      refine al_q (q_move rfl) rfl rfl rfl ?_
      refine aq_split 38 rfl (fun hb1 => ?_) (fun hb1 => ?_)
      · have g38 : bA S.trip k = false := by simpa using hb1
        refine al_q (q_move rfl) rfl rfl rfl ?_
        refine al_q (q_fieldAddr 4 rfl Tryz.runUnderlying49 rfl Tryz.sizeOf3 (by decide) rfl) rfl rfl rfl ?_
        refine al_q (q_load (i := 0) rfl rfl rfl Tryz.isAgg3) rfl rfl rfl ?_
        refine al_q (q_neg rfl (by omega)) rfl rfl rfl ?_
        refine al_q (q_fieldAddr 4 rfl Tryz.runUnderlying49 rfl Tryz.sizeOf3 (by decide) rfl) rfl rfl rfl ?_
        refine al_q (q_load (i := 0) rfl rfl rfl Tryz.isAgg3) rfl rfl rfl ?_
        refine al_call Tryz.call32 (.cons rfl (.cons rfl (.cons rfl .nil))) rfl rfl (fun w2 hs2 => ?_)
        refine (kwithin_any (iA S.C.coils k) (-(cA M k).cur) (cA M k).cur _).mono ?_
        rintro e u2 ⟨rfl, rfl⟩
        refine ⟨_, rfl, (Below.refl _ _), ?_⟩
        clear hs2
        refine al_q (q_pickT rfl rfl) rfl rfl rfl ?_
        refine al_end ?_
        refine aq_then ?_
        refine ac_cond rfl (fun h3 => ?_) (fun h3 => ?_)
        · have g46 : wthn (iA S.C.coils k) (-(cA M k).cur) (cA M k).cur = true := h3
          have hr : roomN M S k = ⟨max (-(cA M k).step) (-(cA M k).cur - (iA S.C.coils k)), min (cA M k).step ((cA M k).cur - (iA S.C.coils k))⟩ := if_pos ⟨g38, g46⟩
          have hw := wthn_iff.1 g46
          refine ac_region ?_
          refine al_q (q_move rfl) rfl rfl rfl ?_
          refine al_q (q_move rfl) rfl rfl rfl ?_
          refine al_q (q_fieldAddr 5 rfl Tryz.runUnderlying49 rfl Tryz.sizeOf3 (by decide) rfl) rfl rfl rfl ?_
          refine al_q (q_load (i := 0) rfl rfl rfl Tryz.isAgg3) rfl rfl rfl ?_
          refine al_q (q_neg rfl (by omega)) rfl rfl rfl ?_
          refine al_q (q_fieldAddr 4 rfl Tryz.runUnderlying49 rfl Tryz.sizeOf3 (by decide) rfl) rfl rfl rfl ?_
          refine al_q (q_load (i := 0) rfl rfl rfl Tryz.isAgg3) rfl rfl rfl ?_
          refine al_q (q_neg rfl (by omega)) rfl rfl rfl ?_
          refine al_q (q_move rfl) rfl rfl rfl ?_
          refine al_q (q_sub rfl rfl (by omega)) rfl rfl rfl ?_
          refine al_q (q_max rfl rfl) rfl rfl rfl ?_
          refine al_q (q_fieldAddr 5 rfl Tryz.runUnderlying49 rfl Tryz.sizeOf3 (by decide) rfl) rfl rfl rfl ?_
          refine al_q (q_load (i := 0) rfl rfl rfl Tryz.isAgg3) rfl rfl rfl ?_
          refine al_q (q_fieldAddr 4 rfl Tryz.runUnderlying49 rfl Tryz.sizeOf3 (by decide) rfl) rfl rfl rfl ?_
          refine al_q (q_load (i := 0) rfl rfl rfl Tryz.isAgg3) rfl rfl rfl ?_
          refine al_q (q_move rfl) rfl rfl rfl ?_
          refine al_q (q_sub rfl rfl (by omega)) rfl rfl rfl ?_
          refine al_q (q_min rfl rfl) rfl rfl rfl ?_
          refine al_q (q_build (.cons rfl (.cons rfl .nil)) (csc_bl_apiSpan_0_1 _ _ rfl rfl)) rfl rfl rfl ?_
          refine al_q (q_indexAddr (i := k) (0 + k * 2) rfl rfl rfl (by omega) Tryz.runUnderlying39 Tryz.sizeOf44 rfl) rfl rfl rfl ?_
          refine al_storeV (i := 1) (cs' := (rmix R.la (k + 1) M S)) (vs := [.int .i64 (max (-(cA M k).step) (-(cA M k).cur - (iA S.C.coils k))), .int .i64 (min (cA M k).step ((cA M k).cur - (iA S.C.coils k)))]) rfl rfl rfl Tryz.sizeOf44 rfl (by rw [mixF_len (z := 2) (fun _ => rfl) (fun _ => rfl)]; omega) rfl (by have h := mixF_store (n := R.la) (k := k) (z := 2) (F := fun j => (roomN M S j).cells) (G := fun _ => zS2) (fun _ => rfl) (fun _ => rfl) hkl; simp only [hr, SpanD.cells] at h; rw [Nat.zero_add]; exact h) .k1 rfl ?_
          refine al_end ?_
          refine aq_inN ?_
          refine aq_then ?_
          refine aq_keepL [3, 4, 5, 6, 7, 8, 9, 19, 20, 21, 22, 23, 24, 25, 26, 27, 28, 29, 30, 31, 32, 33, 34, 35, 36, 37, 38, 39, 40, 41, 42, 43, 44, 45, 46, 47, 48, 49, 50, 51, 52, 53, 54, 55, 56, 57, 58, 59, 60, 61, 62, 63, 64, 65, 66] (.cons rfl (.cons rfl (.cons rfl (.cons rfl (.cons rfl (.cons rfl (.cons rfl (.cons rfl (.cons rfl (.cons rfl (.cons rfl (.cons rfl (.cons rfl (.cons rfl (.cons rfl (.cons rfl (.cons rfl (.cons rfl (.cons rfl (.cons rfl (.cons rfl (.cons rfl (.cons rfl (.cons rfl (.cons rfl (.cons rfl (.cons rfl (.cons rfl (.cons rfl (.cons rfl (.cons rfl (.cons rfl (.cons rfl (.cons rfl (.cons rfl (.cons rfl (.cons rfl (.cons rfl (.cons rfl (.cons rfl (.cons rfl (.cons rfl (.cons rfl (.cons rfl (.cons rfl (.cons rfl (.cons rfl (.cons rfl (.cons rfl (.cons rfl (.cons rfl (.cons rfl (.cons rfl (.cons rfl (.cons rfl .nil))))))))))))))))))))))))))))))))))))))))))))))))))))))) ?_
          refine ac_region ?_
          refine al_q (q_add rfl rfl (by omega)) rfl rfl rfl ?_
          refine al_q (q_move rfl) rfl rfl rfl ?_
          refine al_end ?_
          refine aq_then ?_
          skip
          refine aq_round (k + 1) (by omega) (by omega) ⟨rfl, rfl, rfl, rfl, rfl, rfl, rfl, trivial⟩ (fun w9 hs => ((hs.fewer 1 rfl).tail 1 rfl))
        · have g46 : wthn (iA S.C.coils k) (-(cA M k).cur) (cA M k).cur = false := h3
          have hr0 : roomN M S k = ⟨0, 0⟩ := if_neg (fun h => by rw [g46] at h; cases h.2)
          refine ac_skip ?_
          refine aq_inN ?_
          refine aq_then ?_
          refine ac_region ?_
          refine al_q (q_add rfl rfl (by omega)) rfl rfl rfl ?_
          refine al_q (q_move rfl) rfl rfl rfl ?_
          refine al_end ?_
          refine aq_then ?_
          skip
          refine aq_round (k + 1) (by omega) (by omega) ⟨rfl, rfl, rfl, rfl, rfl, rfl, rfl, trivial⟩ (fun w9 hs => (by rw [show rmix R.la (k + 1) M S = rmix R.la k M S from mixF_skip (by simp only [hr0]; rfl)]; exact ((hs.fewer 1 rfl).tail 1 rfl)))
      · have g38 : bA S.trip k = true := by simpa using hb1
        have hr0 : roomN M S k = ⟨0, 0⟩ := if_neg (fun h => by rw [g38] at h; cases h.1)
        refine al_skip rfl rfl rfl ?_
        refine al_skip rfl rfl rfl ?_
        refine al_skip rfl rfl rfl ?_
        refine al_skip rfl rfl rfl ?_
        refine al_skip rfl rfl rfl ?_
        refine al_skip rfl rfl rfl ?_
        refine al_skip rfl rfl rfl ?_
        refine al_q (q_pickF rfl rfl) rfl rfl rfl ?_
        refine al_end ?_
        refine aq_then ?_
        refine ac_condF rfl ?_
        refine ac_skip ?_
        refine aq_inN ?_
        refine aq_then ?_
        refine ac_region ?_
        refine al_q (q_add rfl rfl (by omega)) rfl rfl rfl ?_
        refine al_q (q_move rfl) rfl rfl rfl ?_
        refine al_end ?_
        refine aq_then ?_
        skip
        refine aq_round (k + 1) (by omega) (by omega) ⟨rfl, rfl, rfl, rfl, rfl, rfl, rfl, trivial⟩ (fun w9 hs => (by rw [show rmix R.la (k + 1) M S = rmix R.la k M S from mixF_skip (by simp only [hr0]; rfl)]; exact (hs.tail 1 rfl)))
    · have hke : k = R.la := by have := of_decide_eq_false h2; omega
      refine ac_exit ?_
      refine aq_thenE ?_
      refine aq_thenE ?_
      refine aq_hit ?_
      refine aq_then ?_
      refine ac_seq ?_
      refine ac_region ?_
      refine al_q (q_move rfl) rfl rfl rfl ?_
      refine al_q (q_assign rfl) rfl rfl rfl ?_
      refine al_q (q_assign rfl) rfl rfl rfl ?_
      refine al_end ?_
      refine aq_then ?_
      refine ac_ret ?_
      refine ret2 Tryz.results9 rfl rfl (fun w9 hs => ?_)
      rw [hE]; exact OutSp.ok (A := some ⟨b3, 0, none⟩) (n := R.la) (c := R.la) ⟨isT_box0 (n := 2) (enc := SpanD.cells) (fun _ => rfl) (hs.at 0 rfl) (by rw [hke, rmix, mixF_all, roomL, flat_span, n1]) (by rw [roomL, lst_length, n1]), hs.new 0 rfl, by omega, by omega⟩ (by omega) hs.below

theorem csc_bl_apiSpan_ : ∀ w, (Instr.build 44 #[]).run Tryz.prog w = .ok (.agg #[(.int .i64 0), (.int .i64 0)]) w := by
  intro w; simp [Instr.build, Instr.fill, cells_agg, Tryz.runUnderlying44, Tryz.zeroValue44, Tryz.sizeOf3]

theorem csc_bs_apiSpan_1_0_ (c0_0 c0_1 : Value) : ∀ w, (Instr.buildSlice 39 1 #[(0, .agg #[c0_0, c0_1])]).run Tryz.prog w = .ok (.slice (some ⟨w.heap.size, 0, none⟩) 1 1) (w.alloc (.cells [c0_0, c0_1].toArray 44)) := by
  intro w; (simp [Instr.buildSlice, Instr.fill, cells_agg, newRow, Tryz.runUnderlying39, Tryz.zeroValue44, Tryz.sizeOf44] <;> (rw [(by kernel_rfl : Array.range 2 = #[0, 1])]; simp [Value.cells]))

set_option maxRecDepth 100000 in
theorem rroom_any (R : MachR) (M : MachD) (RS : StR) (S : StD) (w : World) (hM : IsM w R M) (hS : IsS w RS S) : Calls Tryz.prog 10 #[(.agg (machCells R M)), (RS.v S.tick)] w (OutSp w (roomE M S) (roomL M S)) := by
  refine calls_ax (vs := [(.agg (machCells R M)), (RS.v S.tick)]) Tryz.func10 rfl rfl ?_
  refine ac_seq ?_
  refine ac_region ?_
  refine al_new (fun b => .pointer (some ⟨b, 0, none⟩)) (r_box rfl rfl) rfl rfl rfl ?_
  intro b1
  refine al_new (fun b => .pointer (some ⟨b, 0, none⟩)) (r_box rfl rfl) rfl rfl rfl ?_
  intro b2
  refine al_q (q_assign rfl) rfl rfl rfl ?_
  refine al_q (q_assign rfl) rfl rfl rfl ?_
  refine al_end ?_
  refine aq_then ?_
  refine ac_seq ?_
  refine ac_seq ?_
  refine ac_region ?_
  refine al_q (q_loadAll (i := 1) rfl rfl Tryz.isAgg29 Tryz.sizeOf29 rfl) rfl rfl rfl ?_
  refine al_q (q_loadAll (i := 0) rfl rfl Tryz.isAgg35 Tryz.sizeOf35 rfl) rfl rfl rfl ?_
  refine al_call Tryz.call33 (.cons rfl (.cons rfl .nil)) rfl rfl (fun w1 hs1 => ?_)
  refine (rvalidState_any R M RS S _ (hM.below hs1.below) (hS.below hs1.below)).mono ?_
  rintro e u1 ⟨rfl, hb_1⟩
  refine ⟨_, rfl, hb_1, ?_⟩
  clear hs1
  refine al_q (q_not rfl) rfl rfl rfl ?_
  refine al_end ?_
  refine aq_then ?_
  refine ac_cond rfl (fun h1 => ?_) (fun h1 => ?_)
  · have hE : roomE M S = 1 := if_neg (fun h => by rw [h] at h1; cases h1)
    refine ac_seq ?_
    refine ac_region ?_
    refine al_q (q_assign rfl) rfl rfl rfl ?_
    refine al_q (q_assign rfl) rfl rfl rfl ?_
    refine al_end ?_
    refine aq_then ?_
    refine ac_ret ?_
    refine aq_thenR ?_
    refine ret2 Tryz.results10 rfl rfl (fun w9 hs => ?_)
    rw [hE]; exact OutSp.bad (by decide) hs.below
  · have hv : validS M S = true := by simpa using h1
    have hf := fitS_iff.1 hv
    obtain ⟨s1, s2⟩ := smallC hM hf.cur.check
    have n1 := hM.coils.1
    have n2 := hS.cur.coils.1
    have n3 := hf.cur.coils.1
    have n4 := hS.trip.1
    have n5 := hf.trip
    have hE : roomE M S = 0 := if_pos hv
    refine ac_skip ?_
    refine aq_then ?_
    refine ac_seq ?_
    refine ac_region ?_
    refine al_q (q_assign rfl) rfl rfl rfl ?_
    refine al_end ?_
    refine aq_then ?_
    refine ac_seq ?_
    refine ac_seq ?_
    refine ac_region ?_
    refine al_q (q_assign rfl) rfl rfl rfl ?_
    refine al_end ?_
    refine aq_then ?_
    refine ac_block ?_
    refine ac_loop (β := Nat × Gr × List Value) (fun k => k.1 ≤ R.la ∧ gok k.2.1 k.1 2 k.2.2 ∧ k.2.2 = (lst k.1 (roomN M S)).flatMap SpanD.cells) (fun k => [(2, (.pointer (some ⟨b1, 0, none⟩))), (3, (.pointer (some ⟨b2, 0, none⟩))), (4, (.slice none 0 0)), (5, (.int .i64 0)), (6, (.slice (gA k.2.1) k.1 (gC k.2.1))), (7, (.int .i64 (k.1 : Int)))]) (fun _ => _) (fun k => (b2, _) :: (b1, _) :: (gt k.2.1 k.2.2 ++ ([]))) (fun k => R.la - k.1) (0, none, []) ⟨by simp, gok.none 2, rfl⟩ ⟨rfl, rfl, rfl, rfl, rfl, rfl, trivial⟩ (fun w9 hs => (by rw [show gt none [] = [] from rfl, List.nil_append]; exact hs)) (fun k hF1 => ?_)
    obtain ⟨hla, hgk, hcs⟩ := hF1
    refine ac_seq ?_
    refine ac_seq ?_
    refine ac_region ?_
    refine al_q (q_move rfl) rfl rfl rfl ?_
    refine al_q (q_fieldAddr 1 rfl Tryz.runUnderlying29 rfl Tryz.sizeOf22 (by decide) rfl) rfl rfl rfl ?_
    refine al_q (q_load (i := 1) rfl rfl rfl Tryz.isAgg22) rfl rfl rfl ?_
    refine al_q (q_lenS rfl Tryz.runUnderlying22) rfl rfl rfl ?_
    refine al_q (q_lss rfl rfl) rfl rfl rfl ?_
    refine al_end ?_
    refine aq_then ?_
    refine ac_cond rfl (fun h2 => ?_) (fun h2 => ?_)
    · have hkl : k.1 < R.la := by have := of_decide_eq_true h2; omega
      obtain ⟨b11, o11, hA1, hlt1, hget1⟩ := hM.coils.2 (by omega)
      have hx1 := cA_get (M := M) (k := k.1) (by omega)
      obtain ⟨b21, o21, hA2, hlt2, hget2⟩ := hS.cur.coils.2 (by omega)
      have hx2 := iA_get (l := S.C.coils) (k := k.1) (by omega)
      obtain ⟨b31, o31, hA3, hlt3, hget3⟩ := hS.trip.2 (by omega)
      have hx3 := bA_get (l := S.trip) (k := k.1) (by omega)
      have hco := cA_ok hf.cur.check (k := k.1) (by omega)
      have q1 := hco.cur
      have q2 := hco.step
      have q3 := hf.cur.coils.2 _ (List.mem_of_getElem? hx2)
      refine ac_skip ?_
      refine aq_then ?_
      refine ac_seq ?_
      refine ac_block ?_
      refine ac_seq ?_
      refine ac_drawF 13 (.s (.s .z)) (by kernel_rfl) (by kernel_rfl) ?_
      refine ah_take 0 (fun w9 hs => (hs.front (.s (.s (.z))))) rfl rfl rfl (by kernel_rfl) (by kernel_rfl) (by kernel_rfl) (fun _ _ _ h => h) rfl (q_fieldAddr 1 rfl Tryz.runUnderlying29 rfl Tryz.sizeOf22 (by decide) rfl) ?_
      refine ah_take 1 (fun w9 hs => (hs.front (.s (.s (.z))))) rfl rfl rfl (by kernel_rfl) (by kernel_rfl) (by kernel_rfl) (fun _ _ _ h => h) rfl (q_load (i := 1) rfl rfl rfl Tryz.isAgg22) ?_
      refine ah_take 2 (fun w9 hs => (hs.front (.s (.s (.z))))) rfl rfl rfl (by kernel_rfl) (by kernel_rfl) (by kernel_rfl) (fun _ _ _ h => h) rfl (q_move rfl) ?_
      refine ah_take 3 (fun w9 hs => (hs.front (.s (.s (.z))))) rfl rfl rfl (by kernel_rfl) (by kernel_rfl) (by kernel_rfl) (fun _ _ _ h => h) rfl (q_indexAddrA (i := k.1) (o11 + k.1 * 8 + 0) hA1 rfl rfl rfl (by omega) Tryz.runUnderlying22 Tryz.sizeOf49 rfl) ?_
      refine ah_take 4 (fun w9 hs => (hs.front (.s (.s (.z))))) rfl rfl rfl (by kernel_rfl) (by kernel_rfl) (by kernel_rfl) (fun _ _ _ h => h) rfl (q_loadXs (CoilD.cells (cA M k.1)) rfl Tryz.isAgg49 Tryz.sizeOf49 (fun w9 hs j9 v9 h9 => by rw [addr_add]; exact (hs.below.cell (p := ⟨_, _, none⟩) hlt1).trans ((hget1 k.1 _ hx1) j9 v9 h9)) rfl) ?_
      refine ah_take 5 (fun w9 hs => (hs.front (.s (.s (.z))))) rfl rfl rfl (by kernel_rfl) (by kernel_rfl) (by kernel_rfl) (fun _ _ _ h => h) rfl (q_fieldAddr 1 rfl Tryz.runUnderlying35 rfl Tryz.sizeOf32 (by decide) rfl) ?_
      refine ah_take 6 (fun w9 hs => (hs.front (.s (.s (.z))))) rfl rfl rfl (by kernel_rfl) (by kernel_rfl) (by kernel_rfl) (fun _ _ _ h => h) rfl (q_fieldAddr 1 rfl Tryz.runUnderlying32 rfl Tryz.sizeOf30 (by decide) rfl) ?_
      refine ah_take 7 (fun w9 hs => (hs.front (.s (.s (.z))))) rfl rfl rfl (by kernel_rfl) (by kernel_rfl) (by kernel_rfl) (fun _ _ _ h => h) rfl (q_load (i := 0) rfl rfl rfl Tryz.isAgg30) ?_
      refine ah_take 8 (fun w9 hs => (hs.front (.s (.s (.z))))) rfl rfl rfl (by kernel_rfl) (by kernel_rfl) (by kernel_rfl) (fun _ _ _ h => h) rfl (q_move rfl) ?_
      refine ah_take 9 (fun w9 hs => (hs.front (.s (.s (.z))))) rfl rfl rfl (by kernel_rfl) (by kernel_rfl) (by kernel_rfl) (fun _ _ _ h => h) rfl (q_indexAddrA (i := k.1) (o21 + k.1 * 1 + 0) hA2 rfl rfl rfl (by omega) Tryz.runUnderlying30 Tryz.sizeOf3 rfl) ?_
      refine ah_take 10 (fun w9 hs => (hs.front (.s (.s (.z))))) rfl rfl rfl (by kernel_rfl) (by kernel_rfl) (by kernel_rfl) (fun _ _ _ h => h) rfl (q_loadX rfl Tryz.isAgg3 (fun w9 hs => (hs.below.cell (p := ⟨_, _, none⟩) hlt2).trans ((hget2 k.1 _ hx2) 0 _ rfl))) ?_
      refine ah_one 11 rfl (by kernel_rfl) (fun hok1 hcl1 => ?_)
      refine al_new (fun b => .pointer (some ⟨b, 0, none⟩)) (r_alloc Tryz.zeroValue49 rfl) rfl rfl rfl ?_
      intro b3
      refine al_end (ah_back hok1 hcl1 (fun w9 hs => ((hs.tail 1 rfl).front (.s (.s (.z))))) ?_)
      refine ah_one 12 rfl (by kernel_rfl) (fun hok2 hcl2 => ?_)
      refine al_storeAll (i := 0) rfl rfl rfl rfl Tryz.sizeOf49 rfl rfl .k0 rfl ?_
      refine al_end (ah_back hok2 hcl2 (fun w9 hs => ((hs.tail 1 rfl).front (.s (.s (.z))))) ?_)
      refine ah_take 13 (fun w9 hs => ((hs.tail 1 rfl).front (.s (.s (.z))))) rfl rfl rfl (by kernel_rfl) (by kernel_rfl) (by kernel_rfl) (fun _ _ _ h => h) rfl (q_assign rfl) ?_
      refine ah_done (by kernel_rfl) ?_
      refine aq_then ?_
      refine ac_seq ?_
      refine ac_region ?_
      refine al_q (q_build .nil (csc_bl_apiSpan_)) rfl rfl rfl ?_
      refine al_new (fun b => .pointer (some ⟨b, 0, none⟩)) (r_alloc Tryz.zeroValue44 rfl) rfl rfl rfl ?_
      intro b4
      refine al_storeAll (i := 0) rfl rfl rfl rfl Tryz.sizeOf44 rfl rfl .k0 rfl ?_
      refine al_end ?_
      refine aq_then ?_
      refine ac_seq ?_
      refine ac_seq ?_
      refine ac_region ?_
      refine al_q (q_fieldAddr 5 rfl Tryz.runUnderlying35 rfl Tryz.sizeOf33 (by decide) rfl) rfl rfl rfl ?_
      refine al_q (q_load (i := 2) rfl rfl rfl Tryz.isAgg33) rfl rfl rfl ?_
      refine al_q (q_move rfl) rfl rfl rfl ?_
      refine al_q (q_indexAddrA (i := k.1) (o31 + k.1 * 1 + 0) hA3 rfl rfl rfl (by omega) Tryz.runUnderlying33 Tryz.sizeOf4 rfl) rfl rfl rfl ?_
      refine al_q (q_loadX rfl Tryz.isAgg4 (fun w9 hs => (hs.below.cell (p := ⟨_, _, none⟩) hlt3).trans ((hget3 k.1 _ hx3) 0 _ rfl))) rfl rfl rfl ?_
      refine al_q (q_not rfl) rfl rfl rfl ?_
      refine al_q (q_move rfl) rfl rfl rfl ?_
      refine aq_split 40 rfl (fun hb1 => ?_) (fun hb1 => ?_)
      · have g38 : bA S.trip k.1 = false := by simpa using hb1
        refine al_q (q_move rfl) rfl rfl rfl ?_
        refine al_q (q_fieldAddr 4 rfl Tryz.runUnderlying49 rfl Tryz.sizeOf3 (by decide) rfl) rfl rfl rfl ?_
        refine al_q (q_load (i := 1) rfl rfl rfl Tryz.isAgg3) rfl rfl rfl ?_
        refine al_q (q_neg rfl (by omega)) rfl rfl rfl ?_
        refine al_q (q_fieldAddr 4 rfl Tryz.runUnderlying49 rfl Tryz.sizeOf3 (by decide) rfl) rfl rfl rfl ?_
        refine al_q (q_load (i := 1) rfl rfl rfl Tryz.isAgg3) rfl rfl rfl ?_
        refine al_call Tryz.call34 (.cons rfl (.cons rfl (.cons rfl .nil))) rfl rfl (fun w2 hs2 => ?_)
        refine (rwithin7_any (iA S.C.coils k.1) (-(cA M k.1).cur) (cA M k.1).cur _).mono ?_
        rintro e u2 ⟨rfl, rfl⟩
        refine ⟨_, rfl, (Below.refl _ _), ?_⟩
        clear hs2
        refine al_q (q_pickT rfl rfl) rfl rfl rfl ?_
        refine al_end ?_
        refine aq_then ?_
        refine ac_cond rfl (fun h3 => ?_) (fun h3 => ?_)
        · have g46 : wthn (iA S.C.coils k.1) (-(cA M k.1).cur) (cA M k.1).cur = true := h3
          have hr : roomN M S k.1 = ⟨max (-(cA M k.1).step) (-(cA M k.1).cur - (iA S.C.coils k.1)), min (cA M k.1).step ((cA M k.1).cur - (iA S.C.coils k.1))⟩ := if_pos ⟨g38, g46⟩
          have hw := wthn_iff.1 g46
          refine ac_seq ?_
          refine ac_region ?_
          refine al_q (q_fieldAddr 4 rfl Tryz.runUnderlying49 rfl Tryz.sizeOf3 (by decide) rfl) rfl rfl rfl ?_
          refine al_q (q_load (i := 1) rfl rfl rfl Tryz.isAgg3) rfl rfl rfl ?_
          refine al_q (q_neg rfl (by omega)) rfl rfl rfl ?_
          refine al_q (q_move rfl) rfl rfl rfl ?_
          refine al_q (q_sub rfl rfl (by omega)) rfl rfl rfl ?_
          refine al_q (q_fieldAddr 4 rfl Tryz.runUnderlying49 rfl Tryz.sizeOf3 (by decide) rfl) rfl rfl rfl ?_
          refine al_q (q_load (i := 1) rfl rfl rfl Tryz.isAgg3) rfl rfl rfl ?_
          refine al_q (q_move rfl) rfl rfl rfl ?_
          refine al_q (q_sub rfl rfl (by omega)) rfl rfl rfl ?_
          refine al_q (q_build (.cons rfl (.cons rfl .nil)) (csc_bl_apiSpan_0_1 _ _ rfl rfl)) rfl rfl rfl ?_
          refine al_storeAll (i := 0) rfl rfl rfl rfl Tryz.sizeOf44 rfl rfl .k0 rfl ?_
          refine al_end ?_
          refine aq_then ?_
          refine ac_seq ?_
          refine ac_seq ?_
          refine ac_region ?_
          refine al_q (q_fieldAddr 0 rfl Tryz.runUnderlying44 rfl Tryz.sizeOf3 (by decide) rfl) rfl rfl rfl ?_
          refine al_q (q_load (i := 0) rfl rfl rfl Tryz.isAgg3) rfl rfl rfl ?_
          refine al_q (q_fieldAddr 5 rfl Tryz.runUnderlying49 rfl Tryz.sizeOf3 (by decide) rfl) rfl rfl rfl ?_
          refine al_q (q_load (i := 1) rfl rfl rfl Tryz.isAgg3) rfl rfl rfl ?_
          refine al_q (q_neg rfl (by omega)) rfl rfl rfl ?_
          refine al_q (q_lss rfl rfl) rfl rfl rfl ?_
          refine al_end ?_
          refine aq_then ?_
          refine ac_cond rfl (fun h4 => ?_) (fun h4 => ?_)
          · have g64 := of_decide_eq_true h4
            refine ac_region ?_
            refine al_q (q_fieldAddr 5 rfl Tryz.runUnderlying49 rfl Tryz.sizeOf3 (by decide) rfl) rfl rfl rfl ?_
            refine al_q (q_load (i := 1) rfl rfl rfl Tryz.isAgg3) rfl rfl rfl ?_
            refine al_q (q_neg rfl (by omega)) rfl rfl rfl ?_
            refine al_q (q_fieldAddr 0 rfl Tryz.runUnderlying44 rfl Tryz.sizeOf3 (by decide) rfl) rfl rfl rfl ?_
            refine al_store1 (i := 0) rfl rfl rfl rfl Tryz.sizeOf3 .k0 .k0 rfl ?_
            refine al_end ?_
            refine aq_then ?_
            refine aq_keepL [2, 3, 4, 5, 6, 7, 8, 9, 10, 15, 16, 17, 18, 19, 22, 23, 24, 25, 26, 27, 28, 29, 30, 31, 32, 33, 34, 35, 36, 37, 38, 39, 40, 41, 42, 43, 44, 45, 46, 47, 48, 49, 50, 51, 52, 53, 54, 55, 56, 57, 58, 59, 60, 61, 62, 63, 64, 65, 66, 67, 68] (.cons rfl (.cons rfl (.cons rfl (.cons rfl (.cons rfl (.cons rfl (.cons rfl (.cons rfl (.cons rfl (.cons rfl (.cons rfl (.cons rfl (.cons rfl (.cons rfl (.cons rfl (.cons rfl (.cons rfl (.cons rfl (.cons rfl (.cons rfl (.cons rfl (.cons rfl (.cons rfl (.cons rfl (.cons rfl (.cons rfl (.cons rfl (.cons rfl (.cons rfl (.cons rfl (.cons rfl (.cons rfl (.cons rfl (.cons rfl (.cons rfl (.cons rfl (.cons rfl (.cons rfl (.cons rfl (.cons rfl (.cons rfl (.cons rfl (.cons rfl (.cons rfl (.cons rfl (.cons rfl (.cons rfl (.cons rfl (.cons rfl (.cons rfl (.cons rfl (.cons rfl (.cons rfl (.cons rfl (.cons rfl (.cons rfl (.cons rfl (.cons rfl (.cons rfl (.cons rfl (.cons rfl .nil))))))))))))))))))))))))))))))))))))))))))))))))))))))))))))) ?_
            refine ac_seq ?_
            refine ac_region ?_
            refine al_q (q_fieldAddr 1 rfl Tryz.runUnderlying44 rfl Tryz.sizeOf3 (by decide) rfl) rfl rfl rfl ?_
            refine al_q (q_load (i := 0) rfl rfl rfl Tryz.isAgg3) rfl rfl rfl ?_
            refine al_q (q_fieldAddr 5 rfl Tryz.runUnderlying49 rfl Tryz.sizeOf3 (by decide) rfl) rfl rfl rfl ?_
            refine al_q (q_load (i := 1) rfl rfl rfl Tryz.isAgg3) rfl rfl rfl ?_
            refine al_q (q_gtr rfl rfl) rfl rfl rfl ?_
            refine al_end ?_
            refine aq_then ?_
            refine ac_cond rfl (fun h5 => ?_) (fun h5 => ?_)
            · have g73 := of_decide_eq_true h5
              refine ac_region ?_
              refine al_q (q_fieldAddr 5 rfl Tryz.runUnderlying49 rfl Tryz.sizeOf3 (by decide) rfl) rfl rfl rfl ?_
              refine al_q (q_load (i := 1) rfl rfl rfl Tryz.isAgg3) rfl rfl rfl ?_
              refine al_q (q_fieldAddr 1 rfl Tryz.runUnderlying44 rfl Tryz.sizeOf3 (by decide) rfl) rfl rfl rfl ?_
              refine al_store1 (i := 0) rfl rfl rfl rfl Tryz.sizeOf3 .k1 .k0 rfl ?_
              refine al_end ?_
              refine aq_then ?_
              refine ac_region ?_
              refine al_q (q_move rfl) rfl rfl rfl ?_
              refine al_q (q_loadAll (i := 0) rfl rfl Tryz.isAgg44 Tryz.sizeOf44 rfl) rfl rfl rfl ?_
              refine al_new (fun b => .slice (some ⟨b, 0, none⟩) 1 1) (r_buildSlice (.cons rfl .nil) (csc_bs_apiSpan_1_0_ _ _)) rfl rfl rfl ?_
              intro b5
              refine al_grow (z := 2) (bytes := 16) (zv := (.agg #[.int .i64 0, .int .i64 0])) (o := k.2.1) (cs := k.2.2) (vs := [.int .i64 (-(cA M k.1).step), .int .i64 (cA M k.1).step]) rfl rfl (.s (.s (.s (.s (.s (.z)))))) hgk (Sor.box (j := 0) rfl rfl rfl) Tryz.underlying39 (by kernel_rfl) rfl (by omega) (by decide) rfl rfl (fun o_1 g_1 => ?_)
              refine ⟨_, (.s (.s (.s (.s (.s (.z)))))), ?_⟩
              refine al_q (q_assign rfl) rfl rfl rfl ?_
              refine al_end ?_
              refine aq_inN ?_
              refine aq_then ?_
              refine ac_region ?_
              refine al_q (q_move rfl) rfl rfl rfl ?_
              refine al_q (q_add rfl rfl (by omega)) rfl rfl rfl ?_
              refine al_q (q_assign rfl) rfl rfl rfl ?_
              refine al_end ?_
              refine aq_then ?_
              skip
              refine aq_round ((k.1 + 1, o_1, (k.2.2 ++ [.int .i64 (-(cA M k.1).step), .int .i64 (cA M k.1).step]))) (by simp only; omega) ⟨by simp only; omega, g_1, by simp only; rw [hcs, lst_snoc, List.flatMap_append, show roomN M S k.1 = ⟨(-(cA M k.1).step), (cA M k.1).step⟩ from (by rw [hr]; exact (SpanD.mk.injEq _ _ _ _).mpr ⟨by omega, by omega⟩)]; rfl⟩ ⟨rfl, rfl, rfl, rfl, rfl, rfl, trivial⟩ (fun w9 hs => ((hs.fewer 1 rfl).tail 3 rfl))
            · have g73 := of_decide_eq_false h5
              refine ac_skip ?_
              refine aq_then ?_
              refine ac_region ?_
              refine al_q (q_move rfl) rfl rfl rfl ?_
              refine al_q (q_loadAll (i := 0) rfl rfl Tryz.isAgg44 Tryz.sizeOf44 rfl) rfl rfl rfl ?_
              refine al_new (fun b => .slice (some ⟨b, 0, none⟩) 1 1) (r_buildSlice (.cons rfl .nil) (csc_bs_apiSpan_1_0_ _ _)) rfl rfl rfl ?_
              intro b6
              refine al_grow (z := 2) (bytes := 16) (zv := (.agg #[.int .i64 0, .int .i64 0])) (o := k.2.1) (cs := k.2.2) (vs := [.int .i64 (-(cA M k.1).step), .int .i64 ((cA M k.1).cur - (iA S.C.coils k.1))]) rfl rfl (.s (.s (.s (.s (.s (.z)))))) hgk (Sor.box (j := 0) rfl rfl rfl) Tryz.underlying39 (by kernel_rfl) rfl (by omega) (by decide) rfl rfl (fun o_2 g_2 => ?_)
              refine ⟨_, (.s (.s (.s (.s (.s (.z)))))), ?_⟩
              refine al_q (q_assign rfl) rfl rfl rfl ?_
              refine al_end ?_
              refine aq_inN ?_
              refine aq_then ?_
              refine ac_region ?_
              refine al_q (q_move rfl) rfl rfl rfl ?_
              refine al_q (q_add rfl rfl (by omega)) rfl rfl rfl ?_
              refine al_q (q_assign rfl) rfl rfl rfl ?_
              refine al_end ?_
              refine aq_then ?_
              skip
              refine aq_round ((k.1 + 1, o_2, (k.2.2 ++ [.int .i64 (-(cA M k.1).step), .int .i64 ((cA M k.1).cur - (iA S.C.coils k.1))]))) (by simp only; omega) ⟨by simp only; omega, g_2, by simp only; rw [hcs, lst_snoc, List.flatMap_append, show roomN M S k.1 = ⟨(-(cA M k.1).step), ((cA M k.1).cur - (iA S.C.coils k.1))⟩ from (by rw [hr]; exact (SpanD.mk.injEq _ _ _ _).mpr ⟨by omega, by omega⟩)]; rfl⟩ ⟨rfl, rfl, rfl, rfl, rfl, rfl, trivial⟩ (fun w9 hs => ((hs.fewer 1 rfl).tail 3 rfl))
          · have g64 := of_decide_eq_false h4
            refine ac_skip ?_
            refine aq_then ?_
            refine ac_seq ?_
            refine ac_region ?_
            refine al_q (q_fieldAddr 1 rfl Tryz.runUnderlying44 rfl Tryz.sizeOf3 (by decide) rfl) rfl rfl rfl ?_
            refine al_q (q_load (i := 0) rfl rfl rfl Tryz.isAgg3) rfl rfl rfl ?_
            refine al_q (q_fieldAddr 5 rfl Tryz.runUnderlying49 rfl Tryz.sizeOf3 (by decide) rfl) rfl rfl rfl ?_
            refine al_q (q_load (i := 1) rfl rfl rfl Tryz.isAgg3) rfl rfl rfl ?_
            refine al_q (q_gtr rfl rfl) rfl rfl rfl ?_
            refine al_end ?_
            refine aq_then ?_
            refine ac_cond rfl (fun h6 => ?_) (fun h6 => ?_)
            · have g73 := of_decide_eq_true h6
              refine ac_region ?_
              refine al_q (q_fieldAddr 5 rfl Tryz.runUnderlying49 rfl Tryz.sizeOf3 (by decide) rfl) rfl rfl rfl ?_
              refine al_q (q_load (i := 1) rfl rfl rfl Tryz.isAgg3) rfl rfl rfl ?_
              refine al_q (q_fieldAddr 1 rfl Tryz.runUnderlying44 rfl Tryz.sizeOf3 (by decide) rfl) rfl rfl rfl ?_
              refine al_store1 (i := 0) rfl rfl rfl rfl Tryz.sizeOf3 .k1 .k0 rfl ?_
              refine al_end ?_
              refine aq_then ?_
              refine ac_region ?_
              refine al_q (q_move rfl) rfl rfl rfl ?_
              refine al_q (q_loadAll (i := 0) rfl rfl Tryz.isAgg44 Tryz.sizeOf44 rfl) rfl rfl rfl ?_
              refine al_new (fun b => .slice (some ⟨b, 0, none⟩) 1 1) (r_buildSlice (.cons rfl .nil) (csc_bs_apiSpan_1_0_ _ _)) rfl rfl rfl ?_
              intro b7
              refine al_grow (z := 2) (bytes := 16) (zv := (.agg #[.int .i64 0, .int .i64 0])) (o := k.2.1) (cs := k.2.2) (vs := [.int .i64 (-(cA M k.1).cur - (iA S.C.coils k.1)), .int .i64 (cA M k.1).step]) rfl rfl (.s (.s (.s (.s (.s (.z)))))) hgk (Sor.box (j := 0) rfl rfl rfl) Tryz.underlying39 (by kernel_rfl) rfl (by omega) (by decide) rfl rfl (fun o_3 g_3 => ?_)
              refine ⟨_, (.s (.s (.s (.s (.s (.z)))))), ?_⟩
              refine al_q (q_assign rfl) rfl rfl rfl ?_
              refine al_end ?_
              refine aq_inN ?_
              refine aq_then ?_
              refine ac_region ?_
              refine al_q (q_move rfl) rfl rfl rfl ?_
              refine al_q (q_add rfl rfl (by omega)) rfl rfl rfl ?_
              refine al_q (q_assign rfl) rfl rfl rfl ?_
              refine al_end ?_
              refine aq_then ?_
              skip
              refine aq_round ((k.1 + 1, o_3, (k.2.2 ++ [.int .i64 (-(cA M k.1).cur - (iA S.C.coils k.1)), .int .i64 (cA M k.1).step]))) (by simp only; omega) ⟨by simp only; omega, g_3, by simp only; rw [hcs, lst_snoc, List.flatMap_append, show roomN M S k.1 = ⟨(-(cA M k.1).cur - (iA S.C.coils k.1)), (cA M k.1).step⟩ from (by rw [hr]; exact (SpanD.mk.injEq _ _ _ _).mpr ⟨by omega, by omega⟩)]; rfl⟩ ⟨rfl, rfl, rfl, rfl, rfl, rfl, trivial⟩ (fun w9 hs => ((hs.fewer 1 rfl).tail 3 rfl))
            · have g73 := of_decide_eq_false h6
              refine ac_skip ?_
              refine aq_then ?_
              refine ac_region ?_
              refine al_q (q_move rfl) rfl rfl rfl ?_
              refine al_q (q_loadAll (i := 0) rfl rfl Tryz.isAgg44 Tryz.sizeOf44 rfl) rfl rfl rfl ?_
              refine al_new (fun b => .slice (some ⟨b, 0, none⟩) 1 1) (r_buildSlice (.cons rfl .nil) (csc_bs_apiSpan_1_0_ _ _)) rfl rfl rfl ?_
              intro b8
              refine al_grow (z := 2) (bytes := 16) (zv := (.agg #[.int .i64 0, .int .i64 0])) (o := k.2.1) (cs := k.2.2) (vs := [.int .i64 (-(cA M k.1).cur - (iA S.C.coils k.1)), .int .i64 ((cA M k.1).cur - (iA S.C.coils k.1))]) rfl rfl (.s (.s (.s (.s (.s (.z)))))) hgk (Sor.box (j := 0) rfl rfl rfl) Tryz.underlying39 (by kernel_rfl) rfl (by omega) (by decide) rfl rfl (fun o_4 g_4 => ?_)
              refine ⟨_, (.s (.s (.s (.s (.s (.z)))))), ?_⟩
              refine al_q (q_assign rfl) rfl rfl rfl ?_
              refine al_end ?_
              refine aq_inN ?_
              refine aq_then ?_
              refine ac_region ?_
              refine al_q (q_move rfl) rfl rfl rfl ?_
              refine al_q (q_add rfl rfl (by omega)) rfl rfl rfl ?_
              refine al_q (q_assign rfl) rfl rfl rfl ?_
              refine al_end ?_
              refine aq_then ?_
              skip
              refine aq_round ((k.1 + 1, o_4, (k.2.2 ++ [.int .i64 (-(cA M k.1).cur - (iA S.C.coils k.1)), .int .i64 ((cA M k.1).cur - (iA S.C.coils k.1))]))) (by simp only; omega) ⟨by simp only; omega, g_4, by simp only; rw [hcs, lst_snoc, List.flatMap_append, show roomN M S k.1 = ⟨(-(cA M k.1).cur - (iA S.C.coils k.1)), ((cA M k.1).cur - (iA S.C.coils k.1))⟩ from (by rw [hr]; exact (SpanD.mk.injEq _ _ _ _).mpr ⟨by omega, by omega⟩)]; rfl⟩ ⟨rfl, rfl, rfl, rfl, rfl, rfl, trivial⟩ (fun w9 hs => ((hs.fewer 1 rfl).tail 3 rfl))
        · have g46 : wthn (iA S.C.coils k.1) (-(cA M k.1).cur) (cA M k.1).cur = false := h3
          have hr0 : roomN M S k.1 = ⟨0, 0⟩ := if_neg (fun h => by rw [g46] at h; cases h.2)
          refine ac_skip ?_
          refine aq_then ?_
          refine ac_region ?_
          refine al_q (q_move rfl) rfl rfl rfl ?_
          refine al_q (q_loadAll (i := 0) rfl rfl Tryz.isAgg44 Tryz.sizeOf44 rfl) rfl rfl rfl ?_
          refine al_new (fun b => .slice (some ⟨b, 0, none⟩) 1 1) (r_buildSlice (.cons rfl .nil) (csc_bs_apiSpan_1_0_ _ _)) rfl rfl rfl ?_
          intro b9
          refine al_grow (z := 2) (bytes := 16) (zv := (.agg #[.int .i64 0, .int .i64 0])) (o := k.2.1) (cs := k.2.2) (vs := [.int .i64 0, .int .i64 0]) rfl rfl (.s (.s (.s (.s (.s (.z)))))) hgk (Sor.box (j := 0) rfl rfl rfl) Tryz.underlying39 (by kernel_rfl) rfl (by omega) (by decide) rfl rfl (fun o_5 g_5 => ?_)
          refine ⟨_, (.s (.s (.s (.s (.s (.z)))))), ?_⟩
          refine al_q (q_assign rfl) rfl rfl rfl ?_
          refine al_end ?_
          refine aq_inN ?_
          refine aq_then ?_
          refine ac_region ?_
          refine al_q (q_move rfl) rfl rfl rfl ?_
          refine al_q (q_add rfl rfl (by omega)) rfl rfl rfl ?_
          refine al_q (q_assign rfl) rfl rfl rfl ?_
          refine al_end ?_
          refine aq_then ?_
          skip
          refine aq_round ((k.1 + 1, o_5, (k.2.2 ++ [.int .i64 0, .int .i64 0]))) (by simp only; omega) ⟨by simp only; omega, g_5, by simp only; rw [hcs, lst_snoc, List.flatMap_append, show roomN M S k.1 = ⟨0, 0⟩ from (by rw [hr0])]; rfl⟩ ⟨rfl, rfl, rfl, rfl, rfl, rfl, trivial⟩ (fun w9 hs => ((hs.fewer 1 rfl).tail 3 rfl))
      · have g38 : bA S.trip k.1 = true := by simpa using hb1
        have hr0 : roomN M S k.1 = ⟨0, 0⟩ := if_neg (fun h => by rw [g38] at h; cases h.1)
        refine al_skip rfl rfl rfl ?_
        refine al_skip rfl rfl rfl ?_
        refine al_skip rfl rfl rfl ?_
        refine al_skip rfl rfl rfl ?_
        refine al_skip rfl rfl rfl ?_
        refine al_skip rfl rfl rfl ?_
        refine al_skip rfl rfl rfl ?_
        refine al_q (q_pickF rfl rfl) rfl rfl rfl ?_
        refine al_end ?_
        refine aq_then ?_
        refine ac_condF rfl ?_
        refine ac_skip ?_
        refine aq_then ?_
        refine ac_region ?_
        refine al_q (q_move rfl) rfl rfl rfl ?_
        refine al_q (q_loadAll (i := 0) rfl rfl Tryz.isAgg44 Tryz.sizeOf44 rfl) rfl rfl rfl ?_
        refine al_new (fun b => .slice (some ⟨b, 0, none⟩) 1 1) (r_buildSlice (.cons rfl .nil) (csc_bs_apiSpan_1_0_ _ _)) rfl rfl rfl ?_
        intro b10
        refine al_grow (z := 2) (bytes := 16) (zv := (.agg #[.int .i64 0, .int .i64 0])) (o := k.2.1) (cs := k.2.2) (vs := [.int .i64 0, .int .i64 0]) rfl rfl (.s (.s (.s (.s (.s (.z)))))) hgk (Sor.box (j := 0) rfl rfl rfl) Tryz.underlying39 (by kernel_rfl) rfl (by omega) (by decide) rfl rfl (fun o_6 g_6 => ?_)
        refine ⟨_, (.s (.s (.s (.s (.s (.z)))))), ?_⟩
        refine al_q (q_assign rfl) rfl rfl rfl ?_
        refine al_end ?_
        refine aq_inN ?_
        refine aq_then ?_
        refine ac_region ?_
        refine al_q (q_move rfl) rfl rfl rfl ?_
        refine al_q (q_add rfl rfl (by omega)) rfl rfl rfl ?_
        refine al_q (q_assign rfl) rfl rfl rfl ?_
        refine al_end ?_
        refine aq_then ?_
        skip
        refine aq_round ((k.1 + 1, o_6, (k.2.2 ++ [.int .i64 0, .int .i64 0]))) (by simp only; omega) ⟨by simp only; omega, g_6, by simp only; rw [hcs, lst_snoc, List.flatMap_append, show roomN M S k.1 = ⟨0, 0⟩ from (by rw [hr0])]; rfl⟩ ⟨rfl, rfl, rfl, rfl, rfl, rfl, trivial⟩ (fun w9 hs => (hs.tail 3 rfl))
    · have hke : k.1 = R.la := by have := of_decide_eq_false h2; omega
      refine ac_exit ?_
      refine aq_thenE ?_
      refine aq_thenE ?_
      refine aq_hit ?_
      refine aq_then ?_
      refine ac_seq ?_
      refine ac_region ?_
      refine al_q (q_move rfl) rfl rfl rfl ?_
      refine al_q (q_assign rfl) rfl rfl rfl ?_
      refine al_q (q_assign rfl) rfl rfl rfl ?_
      refine al_end ?_
      refine aq_then ?_
      refine ac_ret ?_
      refine ret2 Tryz.results10 rfl rfl (fun w9 hs => ?_)
      rw [hE]; exact OutSp.ok (hs.grown (enc := SpanD.cells) (o := k.2.1) (cs := k.2.2) (zs := roomL M S) (fun _ => rfl) (fun y hy => by simp [hy]) hgk (by rw [hcs, hke, roomL, n1]) (by rw [roomL, lst_length, n1, hke])) (by omega) hs.below

end Go.Proofs.YtnikdbglpimadaaGreat
end
