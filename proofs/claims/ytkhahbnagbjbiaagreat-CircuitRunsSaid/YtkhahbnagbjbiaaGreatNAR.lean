import Derived.Test.YtkhahbnagbjbiaaGreatNAE
import Derived.Test.YtkhahbnagbjbiaaGreatNAN
import Derived.Test.YtkhahbnagbjbiaaGreatNAP
import Derived.Test.YtkhahbnagbjbiaaGreatNAQ
import Derived.Test.YtkhahbnagbjbiaaGreatRows
import Derived.KernelRfl
import Derived.Laws.StructEq
import Derived.Handy
section
/- Package circuit: what is valid, over this seat's translation (written by ax_ci1.py). -/
namespace Go.Proofs.YtkhahbnagbjbiaaGreat
set_option linter.unusedVariables false
set_option linter.unusedSimpArgs false
open Go.RowKit

set_option maxRecDepth 100000 in
theorem cwithin_any (n a b : Int) (w : World) : Calls Tryz.prog 49 #[(.int .i64 n), (.int .i64 a), (.int .i64 b)] w (Ret (.bool (wthn n a b)) w) := by
  refine calls_ax (vs := [(.int .i64 n), (.int .i64 a), (.int .i64 b)]) Tryz.func49 rfl rfl ?_
  refine ac_seq (ac_region ?_)
  refine al_p (q_assign rfl) ?_
  refine al_end (aq_then ?_)
  refine ac_seq (ac_region ?_)
  refine al_p (q_move rfl) ?_
  refine al_p (q_move rfl) ?_
  refine al_p (q_leq rfl rfl) ?_
  refine al_p (q_move rfl) ?_
  refine aq_split 10 rfl (fun hb1 => ?_) (fun hb1 => ?_)
  · refine al_p (q_move rfl) ?_
    refine al_p (q_move rfl) ?_
    refine al_p (q_leq rfl rfl) ?_
    refine al_p (q_pickT rfl rfl) ?_
    refine al_p (q_assign rfl) ?_
    refine al_end (aq_then ?_)
    refine ac_ret ?_
    refine ret1 Tryz.results49 rfl (fun w9 hs => ?_)
    exact ⟨by first | (simp_all [wthn]; done) | (simp_all [wthn]; omega), hs.below⟩
  · refine al_skip rfl rfl rfl ?_
    refine al_skip rfl rfl rfl ?_
    refine al_skip rfl rfl rfl ?_
    refine al_p (q_pickF rfl rfl) ?_
    refine al_p (q_assign rfl) ?_
    refine al_end (aq_then ?_)
    refine ac_ret ?_
    refine ret1 Tryz.results49 rfl (fun w9 hs => ?_)
    exact ⟨by first | (simp_all [wthn]; done) | (simp_all [wthn]; omega), hs.below⟩

set_option maxRecDepth 100000 in
theorem validList1_any (x a b : Int) (b6 b7 : Nat) (w : World) (h6 : w.cell? ⟨b6, 0, none⟩ = some (.int .i64 a)) (h7 : w.cell? ⟨b7, 0, none⟩ = some (.int .i64 b)) (k6 : b6 < w.heap.size) (k7 : b7 < w.heap.size) : Calls Tryz.prog 98 #[(.int .i64 x), (.pointer (some ⟨b6, 0 + 0, none⟩)), (.pointer (some ⟨b7, 0 + 0, none⟩))] w (Ret (.bool (!wthn x a b)) w) := by
  refine calls_ax (vs := [(.int .i64 x), (.pointer (some ⟨b6, 0 + 0, none⟩)), (.pointer (some ⟨b7, 0 + 0, none⟩))]) Tryz.func98 rfl rfl ?_
  refine ac_seq (ac_region ?_)
  refine al_p (q_assign rfl) ?_
  refine al_end (aq_then ?_)
  refine ac_seq (ac_region ?_)
  refine al_p (q_move rfl) ?_
  refine al_p (q_loadX rfl Tryz.isAgg3 (fun w9 hs => (hs.below.cell (p := ⟨_, _, none⟩) k6).trans ((one_fact h6) 0 _ rfl))) ?_
  refine al_p (q_loadX rfl Tryz.isAgg3 (fun w9 hs => (hs.below.cell (p := ⟨_, _, none⟩) k7).trans ((one_fact h7) 0 _ rfl))) ?_
  refine al_call Tryz.call49 (.cons rfl (.cons rfl (.cons rfl .nil))) rfl rfl (fun w1 hs1 => ?_)
  refine (cwithin_any x a b _).mono ?_
  rintro e u1 ⟨rfl, hb_1⟩
  refine ⟨_, rfl, hb_1, ?_⟩
  clear hs1
  refine al_p (q_not rfl) ?_
  refine al_p (q_assign rfl) ?_
  refine al_end (aq_then ?_)
  refine ac_ret ?_
  refine ret1 Tryz.results98 rfl (fun w9 hs => ?_)
  exact ⟨rfl, hs.below⟩

set_option maxRecDepth 100000 in
theorem validList_any (A : Option Addr) (len cap : Nat) (zs : List Int) (n : Nat) (a b : Int) (w : World) (hI : IsT 1 intCells w A len zs) (hl : n ≤ 1000000000000000) : Calls Tryz.prog 50 #[(.slice A len cap), (.int .i64 (n : Int)), (.int .i64 a), (.int .i64 b)] w (Ret (.bool (decide (zs.length = n) && allW zs a b)) w) := by
  refine calls_ax (vs := [(.slice A len cap), (.int .i64 (n : Int)), (.int .i64 a), (.int .i64 b)]) Tryz.func50 rfl rfl ?_
  refine ac_seq (ac_region ?_)
  refine al_new (fun b => .pointer (some ⟨b, 0, none⟩)) (r_box rfl rfl) rfl rfl rfl ?_
  intro b1
  refine al_new (fun b => .pointer (some ⟨b, 0, none⟩)) (r_box rfl rfl) rfl rfl rfl ?_
  intro b2
  refine al_p (q_assign rfl) ?_
  refine al_end (aq_then ?_)
  refine ac_seq (ac_region ?_)
  refine al_p (q_move rfl) ?_
  refine al_p (q_lenS rfl Tryz.runUnderlying30) ?_
  refine al_p (q_move rfl) ?_
  refine al_p (q_eql rfl rfl) ?_
  refine al_p (q_move rfl) ?_
  refine aq_split 13 rfl (fun hb1 => ?_) (fun hb1 => ?_)
  · have hn : len = n := by have := of_decide_eq_true hb1; omega
    refine al_p (q_move rfl) ?_
    refine al_p (q_makeFunc _ _ .nil (.cons rfl (.cons rfl .nil))) ?_
    refine al_call Tryz.call97 (.cons rfl (.cons rfl .nil)) rfl rfl (fun w1 hs1 => ?_)
    refine (containsint2 98 b1 b2 (fun x => !wthn x a b) A len cap zs _ (hI.below hs1.below) (by omega) Tryz.call98 (fun x W9 _ hB => validList1_any x a b b1 b2 W9 ((hB.cell (p := ⟨b1, 0, none⟩) (hs1.at 1 rfl).lt).trans (hs1.cell (i := 1) rfl (k := 0) rfl)) ((hB.cell (p := ⟨b2, 0, none⟩) (hs1.at 0 rfl).lt).trans (hs1.cell (i := 0) rfl (k := 0) rfl)) (Nat.lt_of_lt_of_le (hs1.at 1 rfl).lt hB.size) (Nat.lt_of_lt_of_le (hs1.at 0 rfl).lt hB.size))).mono ?_
    rintro e u1 ⟨rfl, hb_1⟩
    refine ⟨_, rfl, hb_1, ?_⟩
    clear hs1
    refine al_p (q_not rfl) ?_
    refine al_p (q_pickT rfl rfl) ?_
    refine al_p (q_assign rfl) ?_
    refine al_end (aq_then ?_)
    refine ac_ret ?_
    refine ret1 Tryz.results50 rfl (fun w9 hs => ?_)
    exact ⟨by rw [← not_any_allW, hI.1, decide_eq_true hn]; rfl, hs.below⟩
  · have hn : len ≠ n := by have := of_decide_eq_false hb1; omega
    refine al_skip rfl rfl rfl ?_
    refine al_skip rfl rfl rfl ?_
    refine al_skip rfl rfl rfl ?_
    refine al_skip rfl rfl rfl ?_
    refine al_p (q_pickF rfl rfl) ?_
    refine al_p (q_assign rfl) ?_
    refine al_end (aq_then ?_)
    refine ac_ret ?_
    refine ret1 Tryz.results50 rfl (fun w9 hs => ?_)
    exact ⟨by rw [hI.1, decide_eq_false hn]; rfl, hs.below⟩

set_option maxRecDepth 100000 in
theorem validChange_any (R : MachR) (M : MachD) (A : Option Addr) (len cap : Nat) (zs : List Int) (w : World) (hM : IsM w R M) (hI : IsT 1 intCells w A len zs) : Calls Tryz.prog 51 #[(.agg (machCells R M)), (.slice A len cap)] w (Ret (.bool (validCh M zs 1000000000000000)) w) := by
  refine calls_ax (vs := [(.agg (machCells R M)), (.slice A len cap)]) Tryz.func51 rfl rfl ?_
  refine ac_seq (ac_region ?_)
  refine al_new (fun b => .pointer (some ⟨b, 0, none⟩)) (r_box rfl rfl) rfl rfl rfl ?_
  intro b1
  refine al_p (q_assign rfl) ?_
  refine al_end (aq_then ?_)
  refine ac_seq (ac_region ?_)
  refine al_p (q_move rfl) ?_
  refine al_p (q_fieldAddr 1 rfl Tryz.runUnderlying29 rfl Tryz.sizeOf22 (by decide) rfl) ?_
  refine al_p (q_load (i := 0) rfl rfl rfl Tryz.isAgg22) ?_
  refine al_p (q_lenS rfl Tryz.runUnderlying22) ?_
  refine al_call Tryz.call50 (.cons rfl (.cons rfl (.cons rfl (.cons rfl .nil)))) rfl rfl (fun w1 hs1 => ?_)
  refine (validList_any A len cap zs R.la (-1000000000000000) 1000000000000000 _ (hI.below hs1.below) hM.ka).mono ?_
  rintro e u1 ⟨rfl, hb_1⟩
  refine ⟨_, rfl, hb_1, ?_⟩
  clear hs1
  refine al_p (q_assign rfl) ?_
  refine al_end (aq_then ?_)
  refine ac_ret ?_
  refine ret1 Tryz.results51 rfl (fun w9 hs => ?_)
  exact ⟨by rw [validCh, hM.coils.1], hs.below⟩

set_option maxRecDepth 100000 in
theorem validState_any (R : MachR) (M : MachD) (RS : StR) (S : StD) (w : World) (hM : IsM w R M) (hS : IsS w RS S) : Calls Tryz.prog 23 #[(.agg (machCells R M)), (RS.v S.tick)] w (Ret (.bool (validS M S)) w) := by
  refine calls_ax (vs := [(.agg (machCells R M)), (RS.v S.tick)]) Tryz.func23 rfl rfl ?_
  refine ac_seq (ac_region ?_)
  refine al_new (fun b => .pointer (some ⟨b, 0, none⟩)) (r_box rfl rfl) rfl rfl rfl ?_
  intro b1
  refine al_new (fun b => .pointer (some ⟨b, 0, none⟩)) (r_box rfl rfl) rfl rfl rfl ?_
  intro b2
  refine al_p (q_assign rfl) ?_
  refine al_end (aq_then ?_)
  refine ac_seq (ac_region ?_)
  refine al_p (q_loadAll (i := 1) rfl rfl Tryz.isAgg29 Tryz.sizeOf29 rfl) ?_
  refine al_p (q_fieldAddr 1 rfl Tryz.runUnderlying35 rfl Tryz.sizeOf32 (by decide) rfl) ?_
  refine al_p (q_loadSub (i := 0) rfl rfl Tryz.isAgg32 Tryz.sizeOf32 .k1 .k3) ?_
  refine al_call Tryz.call48 (.cons rfl (.cons rfl .nil)) rfl rfl (fun w1 hs1 => ?_)
  refine (validCurrents_any R M RS.Q S.C _ (hM.below hs1.below) (hS.cur.below hs1.below)).mono ?_
  rintro e u1 ⟨rfl, hb_1⟩
  refine ⟨_, rfl, hb_1, ?_⟩
  clear hs1
  refine al_p (q_move rfl) ?_
  refine aq_split 9 rfl (fun hb1 => ?_) (fun hb1 => ?_)
  · refine al_p (q_fieldAddr 0 rfl Tryz.runUnderlying35 rfl Tryz.sizeOf3 (by decide) rfl) ?_
    refine al_p (q_load (i := 0) rfl rfl rfl Tryz.isAgg3) ?_
    refine al_call Tryz.call49 (.cons rfl (.cons rfl (.cons rfl .nil))) rfl rfl (fun w2 hs2 => ?_)
    refine (cwithin_any S.tick 0 1000000000 _).mono ?_
    rintro e u2 ⟨rfl, hb_2⟩
    refine ⟨_, rfl, hb_2, ?_⟩
    clear hs2
    refine al_p (q_pickT rfl rfl) ?_
    refine al_p (q_move rfl) ?_
    refine aq_split 14 rfl (fun hb2 => ?_) (fun hb2 => ?_)
    · refine al_p (q_fieldAddr 4 rfl Tryz.runUnderlying35 rfl Tryz.sizeOf30 (by decide) rfl) ?_
      refine al_p (q_load (i := 0) rfl rfl rfl Tryz.isAgg30) ?_
      refine al_p (q_fieldAddr 1 rfl Tryz.runUnderlying29 rfl Tryz.sizeOf22 (by decide) rfl) ?_
      refine al_p (q_load (i := 1) rfl rfl rfl Tryz.isAgg22) ?_
      refine al_p (q_lenS rfl Tryz.runUnderlying22) ?_
      refine al_call Tryz.call50 (.cons rfl (.cons rfl (.cons rfl (.cons rfl .nil)))) rfl rfl (fun w3 hs3 => ?_)
      refine (validList_any RS.H RS.lh RS.ch S.heat R.la 0 1000000000000000 _ (hS.heat.below hs3.below) hM.ka).mono ?_
      rintro e u3 ⟨rfl, hb_3⟩
      refine ⟨_, rfl, hb_3, ?_⟩
      clear hs3
      refine al_p (q_pickT rfl rfl) ?_
      refine al_p (q_move rfl) ?_
      refine aq_split 22 rfl (fun hb3 => ?_) (fun hb3 => ?_)
      · refine al_p (q_fieldAddr 5 rfl Tryz.runUnderlying35 rfl Tryz.sizeOf33 (by decide) rfl) ?_
        refine al_p (q_load (i := 0) rfl rfl rfl Tryz.isAgg33) ?_
        refine al_p (q_lenS rfl Tryz.runUnderlying33) ?_
        refine al_p (q_fieldAddr 1 rfl Tryz.runUnderlying29 rfl Tryz.sizeOf22 (by decide) rfl) ?_
        refine al_p (q_load (i := 1) rfl rfl rfl Tryz.isAgg22) ?_
        refine al_p (q_lenS rfl Tryz.runUnderlying22) ?_
        refine al_p (q_eql rfl rfl) ?_
        refine al_p (q_pickT rfl rfl) ?_
        refine al_p (q_assign rfl) ?_
        refine al_end (aq_then ?_)
        refine ac_ret ?_
        refine ret1 Tryz.results23 rfl (fun w9 hs => ?_)
        refine ⟨?_, hs.below⟩
        unfold validS
        rw [← hM.coils.1] at *
        first | (simp_all [hS.trip.1]; done) | (simp_all [hS.trip.1]; rw [Bool.eq_iff_iff]; simp only [beq_iff_eq, decide_eq_true_eq]; omega)
      · refine al_skip rfl rfl rfl ?_
        refine al_skip rfl rfl rfl ?_
        refine al_skip rfl rfl rfl ?_
        refine al_skip rfl rfl rfl ?_
        refine al_skip rfl rfl rfl ?_
        refine al_skip rfl rfl rfl ?_
        refine al_skip rfl rfl rfl ?_
        refine al_p (q_pickF rfl rfl) ?_
        refine al_p (q_assign rfl) ?_
        refine al_end (aq_then ?_)
        refine ac_ret ?_
        refine ret1 Tryz.results23 rfl (fun w9 hs => ?_)
        refine ⟨?_, hs.below⟩
        unfold validS
        rw [← hM.coils.1] at *
        first | (simp_all [hS.trip.1]; done) | (simp_all [hS.trip.1]; rw [Bool.eq_iff_iff]; simp only [beq_iff_eq, decide_eq_true_eq]; omega)
    · refine al_skip rfl rfl rfl ?_
      refine al_skip rfl rfl rfl ?_
      refine al_skip rfl rfl rfl ?_
      refine al_skip rfl rfl rfl ?_
      refine al_skip rfl rfl rfl ?_
      refine al_skip rfl rfl rfl ?_
      refine al_p (q_pickF rfl rfl) ?_
      refine al_p (q_move rfl) ?_
      refine al_skip rfl rfl rfl ?_
      refine al_skip rfl rfl rfl ?_
      refine al_skip rfl rfl rfl ?_
      refine al_skip rfl rfl rfl ?_
      refine al_skip rfl rfl rfl ?_
      refine al_skip rfl rfl rfl ?_
      refine al_skip rfl rfl rfl ?_
      refine al_p (q_pickF rfl rfl) ?_
      refine al_p (q_assign rfl) ?_
      refine al_end (aq_then ?_)
      refine ac_ret ?_
      refine ret1 Tryz.results23 rfl (fun w9 hs => ?_)
      refine ⟨?_, hs.below⟩
      unfold validS
      rw [← hM.coils.1] at *
      first | (simp_all [hS.trip.1]; done) | (simp_all [hS.trip.1]; rw [Bool.eq_iff_iff]; simp only [beq_iff_eq, decide_eq_true_eq]; omega)
  · refine al_skip rfl rfl rfl ?_
    refine al_skip rfl rfl rfl ?_
    refine al_skip rfl rfl rfl ?_
    refine al_p (q_pickF rfl rfl) ?_
    refine al_p (q_move rfl) ?_
    refine al_skip rfl rfl rfl ?_
    refine al_skip rfl rfl rfl ?_
    refine al_skip rfl rfl rfl ?_
    refine al_skip rfl rfl rfl ?_
    refine al_skip rfl rfl rfl ?_
    refine al_skip rfl rfl rfl ?_
    refine al_p (q_pickF rfl rfl) ?_
    refine al_p (q_move rfl) ?_
    refine al_skip rfl rfl rfl ?_
    refine al_skip rfl rfl rfl ?_
    refine al_skip rfl rfl rfl ?_
    refine al_skip rfl rfl rfl ?_
    refine al_skip rfl rfl rfl ?_
    refine al_skip rfl rfl rfl ?_
    refine al_skip rfl rfl rfl ?_
    refine al_p (q_pickF rfl rfl) ?_
    refine al_p (q_assign rfl) ?_
    refine al_end (aq_then ?_)
    refine ac_ret ?_
    refine ret1 Tryz.results23 rfl (fun w9 hs => ?_)
    refine ⟨?_, hs.below⟩
    unfold validS
    rw [← hM.coils.1] at *
    first | (simp_all [hS.trip.1]; done) | (simp_all [hS.trip.1]; rw [Bool.eq_iff_iff]; simp only [beq_iff_eq, decide_eq_true_eq]; omega)

end Go.Proofs.YtkhahbnagbjbiaaGreat
end
section
/- Package machine: Linked, CellAt, over this seat's translation (written by ax_mh.py). -/
namespace Go.Proofs.YtkhahbnagbjbiaaGreat
set_option linter.unusedVariables false
set_option linter.unusedSimpArgs false
open Go.RowKit

theorem flat_ints : ∀ n : Nat, (List.replicate n (0 : Int)).flatMap intCells = List.replicate n (.int .i64 0)
  | 0 => rfl
  | n + 1 => by rw [List.replicate_succ, List.replicate_succ, List.flatMap_cons, flat_ints n]; rfl

end Go.Proofs.YtkhahbnagbjbiaaGreat
end
section
/- Package circuit: what is valid (sources, drives), cut, lost, differences, applied, over this seat's translation (written by ax_ci1.py). -/
namespace Go.Proofs.YtkhahbnagbjbiaaGreat
set_option linter.unusedVariables false
set_option linter.unusedSimpArgs false
open Go.RowKit

theorem flatZ (n : Nat) : (zerosI n).flatMap intCells = List.replicate n (.int .i64 0) := flat_ints n
theorem srcC {w : World} {A1 A2 A3 : Option Addr} {l1 c1 l2 c2 l3 c3 : Nat} {x y z : List Int} (h1 : IsT 1 intCells w A1 l1 x) (h2 : IsT 1 intCells w A2 l2 y) (h3 : IsT 1 intCells w A3 l3 z) (k1 : l1 ≤ c1 ∧ c1 ≤ 9223372036854775807) (k2 : l2 ≤ c2 ∧ c2 ≤ 9223372036854775807) (k3 : l3 ≤ c3 ∧ c3 ≤ 9223372036854775807) : IsCw w ⟨A1, A2, A3, l1, c1, l2, c2, l3, c3⟩ ⟨x, y, z⟩ :=
  ⟨h1, h2, h3, k1.1, k2.1, k3.1, k1.2, k2.2, k3.2⟩

theorem kib_bl_apiCurrents_0_1_2 (a0 a1 a2 : Value) (ha0 : a0.oneCell' = true) (ha1 : a1.oneCell' = true) (ha2 : a2.oneCell' = true) : ∀ w, (Instr.build 32 #[(0, a0), (1, a1), (2, a2)]).run Tryz.prog w = .ok (.agg #[a0, a1, a2]) w := by
  have ea0 : a0.cells = #[a0] := cells_one ha0
  have ea1 : a1.cells = #[a1] := cells_one ha1
  have ea2 : a2.cells = #[a2] := cells_one ha2
  intro w; simp [Instr.build, Instr.fill, cells_agg, Tryz.runUnderlying32, Tryz.zeroValue32, Tryz.sizeOf30, ea0, ea1, ea2]

set_option maxRecDepth 100000 in
theorem validSources_any (R : MachR) (M : MachD) (A1 A2 : Option Addr) (l1 c1 l2 c2 : Nat) (co pl : List Int) (w : World) (hM : IsM w R M) (h1 : IsT 1 intCells w A1 l1 co) (h2 : IsT 1 intCells w A2 l2 pl) (k1 : l1 ≤ c1 ∧ c1 ≤ 9223372036854775807) (k2 : l2 ≤ c2 ∧ c2 ≤ 9223372036854775807) (hb : R.lb ≤ 1000000) : Calls Tryz.prog 52 #[(.agg (machCells R M)), (.slice A1 l1 c1), (.slice A2 l2 c2)] w (Ret (.bool (validC M ⟨co, zerosI M.shells.length, pl⟩)) w) := by
  refine calls_ax (vs := [(.agg (machCells R M)), (.slice A1 l1 c1), (.slice A2 l2 c2)]) Tryz.func52 rfl rfl ?_
  refine ac_seq (ac_region ?_)
  refine al_new (fun b => .pointer (some ⟨b, 0, none⟩)) (r_box rfl rfl) rfl rfl rfl ?_
  intro b1
  refine al_p (q_assign rfl) ?_
  refine al_end (aq_then ?_)
  refine ac_seq (ac_region ?_)
  refine al_p (q_fieldAddr 2 rfl Tryz.runUnderlying29 rfl Tryz.sizeOf23 (by decide) rfl) ?_
  refine al_p (q_load (i := 0) rfl rfl rfl Tryz.isAgg23) ?_
  refine al_p (q_lenS rfl Tryz.runUnderlying23) ?_
  refine al_makeInts (n := R.lb) (z := (.int .i64 0)) (bytes := 8) rfl rfl rfl Tryz.underlying30 (by kernel_rfl) rfl (by omega) (by decide) rfl rfl ?_
  intro b2
  refine al_p (q_assign rfl) ?_
  refine al_end (aq_then ?_)
  refine ac_seq (ac_region ?_)
  refine al_p (q_loadAll (i := 1) rfl rfl Tryz.isAgg29 Tryz.sizeOf29 rfl) ?_
  refine al_p (q_move rfl) ?_
  refine al_p (q_move rfl) ?_
  refine al_p (q_move rfl) ?_
  refine al_p (q_build (.cons rfl (.cons rfl (.cons rfl .nil))) (kib_bl_apiCurrents_0_1_2 _ _ _ rfl rfl rfl)) ?_
  refine al_call Tryz.call48 (.cons rfl (.cons rfl .nil)) rfl rfl (fun w1 hs1 => ?_)
  refine (validCurrents_w R M ⟨A1, some ⟨b2, 0, none⟩, A2, l1, c1, R.lb, R.lb, l2, c2⟩ ⟨co, zerosI M.shells.length, pl⟩ _ (hM.below hs1.below) (srcC (h1.below hs1.below) (isT_box0 (n := 1) (enc := intCells) (fun _ => rfl) (hs1.at 0 rfl) (by rw [hM.shells.1]; exact flatZ R.lb) (by simp [zerosI, hM.shells.1])) (h2.below hs1.below) k1 ⟨Nat.le_refl _, by omega⟩ k2)).mono ?_
  rintro e u1 ⟨rfl, hb_1⟩
  refine ⟨_, rfl, hb_1, ?_⟩
  clear hs1
  refine al_p (q_assign rfl) ?_
  refine al_end (aq_then ?_)
  refine ac_ret ?_
  refine ret1 Tryz.results52 rfl (fun w9 hs => ?_)
  exact ⟨rfl, hs.below⟩

set_option maxRecDepth 100000 in
theorem validDrive_any (R : MachR) (M : MachD) (A1 A2 : Option Addr) (l1 c1 l2 c2 : Nat) (ch pl : List Int) (w : World) (hM : IsM w R M) (h1 : IsT 1 intCells w A1 l1 ch) (h2 : IsT 1 intCells w A2 l2 pl) (k2 : l2 ≤ c2 ∧ c2 ≤ 9223372036854775807) (ha : R.la ≤ 1000000) (hb : R.lb ≤ 1000000) : Calls Tryz.prog 24 #[(.agg (machCells R M)), (.agg #[.slice A1 l1 c1, .slice A2 l2 c2])] w (Ret (.bool (validCh M ch 1000000000000000 && validPl M pl)) w) := by
  refine calls_ax (vs := [(.agg (machCells R M)), (.agg #[.slice A1 l1 c1, .slice A2 l2 c2])]) Tryz.func24 rfl rfl ?_
  refine ac_seq (ac_region ?_)
  refine al_new (fun b => .pointer (some ⟨b, 0, none⟩)) (r_box rfl rfl) rfl rfl rfl ?_
  intro b1
  refine al_new (fun b => .pointer (some ⟨b, 0, none⟩)) (r_box rfl rfl) rfl rfl rfl ?_
  intro b2
  refine al_p (q_assign rfl) ?_
  refine al_end (aq_then ?_)
  refine ac_seq ?_
  refine ac_draw 14 (by kernel_rfl) (by kernel_rfl) ?_
  refine ah_t 0 (fun w9 hs => hs) rfl rfl (by kernel_rfl) (q_loadAll (i := 1) rfl rfl Tryz.isAgg29 Tryz.sizeOf29 rfl) ?_
  refine ah_t 1 (fun w9 hs => hs) rfl rfl (by kernel_rfl) (q_fieldAddr 0 rfl Tryz.runUnderlying37 rfl Tryz.sizeOf30 (by decide) rfl) ?_
  refine ah_t 2 (fun w9 hs => hs) rfl rfl (by kernel_rfl) (q_load (i := 0) rfl rfl rfl Tryz.isAgg30) ?_
  refine ah_one 3 rfl (by kernel_rfl) (fun hok1 hcl1 => ?_)
  refine al_call Tryz.call51 (.cons rfl (.cons rfl .nil)) rfl rfl (fun w1 hs1 => ?_)
  refine (validChange_any R M A1 l1 c1 ch _ (hM.below hs1.below) (h1.below hs1.below)).mono ?_
  rintro e u1 ⟨rfl, hb_1⟩
  refine ⟨_, rfl, hb_1, ?_⟩
  clear hs1
  refine al_end (ah_back hok1 hcl1 (fun w9 hs => (hs.fewer 1 rfl)) ?_)
  refine ah_t 4 (fun w9 hs => (hs.fewer 1 rfl)) rfl rfl (by kernel_rfl) (q_move rfl) ?_
  refine ah_split 9 rfl (fun hb1 => ?_) (fun hb1 => ?_)
  · refine ah_t 5 (fun w9 hs => (hs.fewer 1 rfl)) rfl rfl (by kernel_rfl) (q_loadAll (i := 1) rfl rfl Tryz.isAgg29 Tryz.sizeOf29 rfl) ?_
    refine ah_t 6 (fun w9 hs => (hs.fewer 1 rfl)) rfl rfl (by kernel_rfl) (q_fieldAddr 1 rfl Tryz.runUnderlying29 rfl Tryz.sizeOf22 (by decide) rfl) ?_
    refine ah_t 7 (fun w9 hs => (hs.fewer 1 rfl)) rfl rfl (by kernel_rfl) (q_load (i := 1) rfl rfl rfl Tryz.isAgg22) ?_
    refine ah_t 8 (fun w9 hs => (hs.fewer 1 rfl)) rfl rfl (by kernel_rfl) (q_lenS rfl Tryz.runUnderlying22) ?_
    refine ah_t 10 (fun w9 hs => (hs.fewer 1 rfl)) rfl rfl (by kernel_rfl) (q_fieldAddr 1 rfl Tryz.runUnderlying37 rfl Tryz.sizeOf30 (by decide) rfl) ?_
    refine ah_t 11 (fun w9 hs => (hs.fewer 1 rfl)) rfl rfl (by kernel_rfl) (q_load (i := 0) rfl rfl rfl Tryz.isAgg30) ?_
    refine ah_one 9 rfl (by kernel_rfl) (fun hok2 hcl2 => ?_)
    refine al_makeInts (n := R.la) (z := (.int .i64 0)) (bytes := 8) rfl rfl rfl Tryz.underlying30 (by kernel_rfl) rfl (by omega) (by decide) rfl rfl ?_
    intro b3
    refine al_end (ah_back hok2 hcl2 (fun w9 hs => ((hs.fewer 1 rfl).tail 1 rfl)) ?_)
    refine ah_one 12 rfl (by kernel_rfl) (fun hok3 hcl3 => ?_)
    refine al_call Tryz.call52 (.cons rfl (.cons rfl (.cons rfl .nil))) rfl rfl (fun w2 hs2 => ?_)
    refine (validSources_any R M (some ⟨b3, 0, none⟩) A2 R.la R.la l2 c2 (zerosI M.coils.length) pl _ (hM.below hs2.below) (isT_box0 (n := 1) (enc := intCells) (fun _ => rfl) (hs2.at 0 rfl) (by rw [hM.coils.1]; exact flatZ R.la) (by simp [zerosI, hM.coils.1])) (h2.below hs2.below) ⟨Nat.le_refl _, by omega⟩ k2 hb).mono ?_
    rintro e u2 ⟨rfl, hb_2⟩
    refine ⟨_, rfl, hb_2, ?_⟩
    clear hs2
    refine al_end (ah_back hok3 hcl3 (fun w9 hs => ((hs.fewer 2 rfl).tail 1 rfl)) ?_)
    refine ah_t 13 (fun w9 hs => ((hs.fewer 2 rfl).tail 1 rfl)) rfl rfl (by kernel_rfl) (q_pickT rfl rfl) ?_
    refine ah_one 14 rfl (by kernel_rfl) (fun hok4 hcl4 => ?_)
    refine al_p (q_assign rfl) ?_
    refine al_end (ah_last (by kernel_rfl) ?_)
    refine aq_then ?_
    refine ac_ret ?_
    refine ret1 Tryz.results24 rfl (fun w9 hs => ?_)
    exact ⟨by rw [hb1]; rfl, hs.below⟩
  · refine ah_s 5 (fun w9 hs => (hs.fewer 1 rfl)) rfl rfl (by kernel_rfl) ?_
    refine ah_s 6 (fun w9 hs => (hs.fewer 1 rfl)) rfl rfl (by kernel_rfl) ?_
    refine ah_s 7 (fun w9 hs => (hs.fewer 1 rfl)) rfl rfl (by kernel_rfl) ?_
    refine ah_s 8 (fun w9 hs => (hs.fewer 1 rfl)) rfl rfl (by kernel_rfl) ?_
    refine ah_s 9 (fun w9 hs => (hs.fewer 1 rfl)) rfl rfl (by kernel_rfl) ?_
    refine ah_s 10 (fun w9 hs => (hs.fewer 1 rfl)) rfl rfl (by kernel_rfl) ?_
    refine ah_s 11 (fun w9 hs => (hs.fewer 1 rfl)) rfl rfl (by kernel_rfl) ?_
    refine ah_s 12 (fun w9 hs => (hs.fewer 1 rfl)) rfl rfl (by kernel_rfl) ?_
    refine ah_t 13 (fun w9 hs => (hs.fewer 1 rfl)) rfl rfl (by kernel_rfl) (q_pickF rfl rfl) ?_
    refine ah_one 14 rfl (by kernel_rfl) (fun hok5 hcl5 => ?_)
    refine al_p (q_assign rfl) ?_
    refine al_end (ah_last (by kernel_rfl) ?_)
    refine aq_then ?_
    refine ac_ret ?_
    refine ret1 Tryz.results24 rfl (fun w9 hs => ?_)
    exact ⟨by rw [hb1]; rfl, hs.below⟩

set_option maxRecDepth 100000 in
theorem ccut_any (n m : Int) (w : World) (hn : -9223372036854775807 ≤ m ∧ m ≤ 9223372036854775807) : Calls Tryz.prog 129 #[(.int .i64 n), (.int .i64 m)] w (Ret (.int .i64 (cutI n m)) w) := by
  refine calls_ax (vs := [(.int .i64 n), (.int .i64 m)]) Tryz.func129 rfl rfl ?_
  refine ac_seq (ac_region ?_)
  refine al_p (q_assign rfl) ?_
  refine al_end (aq_then ?_)
  refine ac_seq (ac_region ?_)
  refine al_p (q_move rfl) ?_
  refine al_p (q_neg rfl (by omega)) ?_
  refine al_p (q_move rfl) ?_
  refine al_p (q_move rfl) ?_
  refine al_p (q_min rfl rfl) ?_
  refine al_p (q_max rfl rfl) ?_
  refine al_p (q_assign rfl) ?_
  refine al_end (aq_then ?_)
  refine ac_ret ?_
  refine ret1 Tryz.results129 rfl (fun w9 hs => ?_)
  exact ⟨rfl, hs.below⟩

set_option maxRecDepth 100000 in
theorem clost_any (n m : Int) (w : World) (hn : -1000000000 ≤ n ∧ n ≤ 1000000000) (hp : 0 ≤ max n (-n) * m ∧ max n (-n) * m ≤ 1000000000000) : Calls Tryz.prog 130 #[(.int .i64 n), (.int .i64 m)] w (Ret (.int .i64 (lostI n m)) w) := by
  have hq : 0 ≤ (max n (-n) * m + 1000 - 1).tdiv 1000 ∧ (max n (-n) * m + 1000 - 1).tdiv 1000 ≤ 1000000000000 := by rw [Int.tdiv_eq_ediv_of_nonneg (by omega)]; omega
  refine calls_ax (vs := [(.int .i64 n), (.int .i64 m)]) Tryz.func130 rfl rfl ?_
  refine ac_seq (ac_region ?_)
  refine al_p (q_assign rfl) ?_
  refine al_end (aq_then ?_)
  refine ac_seq (ac_region ?_)
  refine al_p (q_move rfl) ?_
  refine al_p (q_move rfl) ?_
  refine al_p (q_neg rfl (by omega)) ?_
  refine al_p (q_max rfl rfl) ?_
  refine al_p (q_move rfl) ?_
  refine al_p (q_mul rfl rfl (by omega)) ?_
  refine al_p (q_add rfl rfl (by omega)) ?_
  refine al_p (q_sub rfl rfl (by omega)) ?_
  refine al_p (q_quo rfl rfl (by omega)) ?_
  refine al_p (q_assign rfl) ?_
  refine al_end (aq_then ?_)
  refine ac_seq ?_
  refine ac_seq (ac_region ?_)
  refine al_p (q_move rfl) ?_
  refine al_p (q_lss rfl rfl) ?_
  refine al_end (aq_then ?_)
  refine ac_cond rfl (fun h1 => ?_) (fun h1 => ?_)
  · refine ac_seq (ac_region ?_)
    refine al_p (q_move rfl) ?_
    refine al_p (q_neg rfl (by omega)) ?_
    refine al_p (q_assign rfl) ?_
    refine al_end (aq_then ?_)
    refine ac_ret ?_
    refine aq_thenR ?_
    refine ret1 Tryz.results130 rfl (fun w9 hs => ?_)
    exact ⟨by rw [lostI, if_pos (by have := of_decide_eq_true h1; omega)], hs.below⟩
  · refine ac_skip ?_
    refine aq_then ?_
    refine ac_seq (ac_region ?_)
    refine al_p (q_move rfl) ?_
    refine al_p (q_assign rfl) ?_
    refine al_end (aq_then ?_)
    refine ac_ret ?_
    refine ret1 Tryz.results130 rfl (fun w9 hs => ?_)
    exact ⟨by rw [lostI, if_neg (by have := of_decide_eq_false h1; omega)], hs.below⟩

def mixC (n k : Nat) (f g : Nat → Value) : List Value := (List.range n).map fun j => if j < k then f j else g j
theorem mixC_zero (n : Nat) (f g : Nat → Value) : mixC n 0 f g = lst n g := by simp [mixC, lst]
theorem mixC_all (n : Nat) (f g : Nat → Value) : mixC n n f g = lst n f := lst_ext (fun k hk => by simp [hk])
theorem mixC_len (n k : Nat) (f g : Nat → Value) : (mixC n k f g).length = n := by simp [mixC]
theorem mixC_set (n k : Nat) (f g : Nat → Value) (hk : k < n) : (mixC n k f g).set k (f k) = mixC n (k + 1) f g := by
  apply List.ext_getElem?
  intro i
  unfold mixC
  rw [List.getElem?_set]
  rcases Nat.lt_or_ge i n with hi | hi
  · by_cases h : k = i
    · subst h; simp [hk]
    · simp only [List.getElem?_map, List.getElem?_range hi, Option.map_some, if_neg h, List.length_map, List.length_range]
      have : (i < k) ↔ (i < k + 1) := by omega
      simp only [this]
  · rw [List.getElem?_eq_none (by simp; omega)]
    rw [if_neg (by omega), List.getElem?_eq_none (by simp; omega)]
theorem mixC_old (n k : Nat) (f g : Nat → Value) (i : Nat) (hi : i < n) (hk : k ≤ i) : (mixC n k f g)[i]? = some (g i) := by
  simp only [mixC, List.getElem?_map, List.getElem?_range hi, Option.map_some]
  rw [if_neg (by omega)]
theorem mixC_new (n k : Nat) (f g : Nat → Value) (i : Nat) (hi : i < n) (hk : i < k) : (mixC n k f g)[i]? = some (f i) := by
  simp only [mixC, List.getElem?_map, List.getElem?_range hi, Option.map_some]
  rw [if_pos hk]
theorem rep_lst (n : Nat) (v : Value) : List.replicate n v = lst n (fun _ => v) := by
  apply List.ext_getElem?
  intro i
  rcases Nat.lt_or_ge i n with hi | hi
  · rw [lst_get _ hi]; simp [hi]
  · rw [List.getElem?_eq_none (by simpa using hi), List.getElem?_eq_none (by rw [lst_length]; exact hi)]
theorem lst_ints (n : Nat) (f : Nat → Int) : (lst n f).flatMap intCells = lst n (fun j => Value.int .i64 (f j)) := by rw [flat_int]; simp [lst]
theorem lst_bools (n : Nat) (f : Nat → Bool) : (lst n f).flatMap boolCells = lst n (fun j => Value.bool (f j)) := by
  unfold lst
  induction n with
  | zero => rfl
  | succ n ih => rw [List.range_succ, List.map_append, List.flatMap_append, ih, List.map_append]; rfl
abbrev intsF (l : List Int) (j : Nat) : Value := .int .i64 (iA l j)
/-- a list of whole numbers laid in an own box -/
theorem new_lst {N : Nat} {D : List Deferred} {U : Snaps} {L : Boxes} {w0 w : World} {i b n : Nat} {f : Nat → Int} (h : Sta ⟨N, D, w0, []⟩ U L w) (hi : L[i]? = some (b, .cells (lst n fun j => .int .i64 (f j)))) (hn : n ≤ 1000000) : NewT 1 intCells w0.heap.size w (some ⟨b, 0, none⟩) n n (lst n f) :=
  ⟨isT_box0 (n := 1) (enc := intCells) (fun _ => rfl) (h.at i hi) (lst_ints n f) (lst_length n f), h.new i hi, Nat.le_refl _, by omega⟩

set_option maxRecDepth 100000 in
theorem differences_any (A B : Option Addr) (la ca lb cb : Nat) (za zb : List Int) (w : World) (i1 : IsT 1 intCells w A la za) (i2 : IsT 1 intCells w B lb zb) (hl : la = lb) (hm : la ≤ 1000000) (d1 : ∀ y ∈ za, -1000000000 ≤ y ∧ y ≤ 1000000000) (d2 : ∀ y ∈ zb, -1000000000 ≤ y ∧ y ≤ 1000000000) : Calls Tryz.prog 106 #[(.slice A la ca), (.slice B lb cb)] w (fun e w' => ∃ A' c, e = .returned (.slice A' la c) ∧ NewT 1 intCells w.heap.size w' A' la c (subL za zb) ∧ Below w.heap.size w w') := by
  refine calls_ax (vs := [(.slice A la ca), (.slice B lb cb)]) Tryz.func106 rfl rfl ?_
  refine ac_seq (ac_region ?_)
  refine al_p (q_assign rfl) ?_
  refine al_end (aq_then ?_)
  refine ac_seq (ac_region ?_)
  refine al_p (q_move rfl) ?_
  refine al_p (q_lenS rfl Tryz.runUnderlying30) ?_
  refine al_makeInts (n := la) (z := (.int .i64 0)) (bytes := 8) rfl rfl rfl Tryz.underlying30 (by kernel_rfl) rfl (by omega) (by decide) rfl rfl ?_
  intro b1
  refine al_p (q_assign rfl) ?_
  refine al_end (aq_then ?_)
  refine ac_seq ?_
  refine ac_seq (ac_region ?_)
  refine al_p (q_move rfl) ?_
  refine al_p (q_lenS rfl Tryz.runUnderlying30) ?_
  refine al_p (q_move rfl) ?_
  refine al_end (aq_then ?_)
  refine ac_block ?_
  refine ac_loop (β := Nat) (fun x => x ≤ la) (fun x => [(0, (.slice A la ca)), (1, (.slice B lb cb)), (4, (.slice none 0 0)), (5, (.slice (some ⟨b1, 0, none⟩) (la) (la))), (11, (.int .i64 (la : Int))), (12, (.int .i64 (x : Int)))]) (fun _ => _) (fun x => [(b1, .cells (mixC la x (fun j => .int .i64 (iA za j - iA zb j)) (fun _ => .int .i64 0)))]) (fun x => la - x) 0 (by omega) ⟨rfl, rfl, rfl, rfl, rfl, rfl, trivial⟩ (fun w9 hs => (by rw [mixC_zero, ← rep_lst]; exact hs)) (fun x hF1 => ?_)
  refine ac_seq (ac_region ?_)
  refine al_p (q_lss rfl rfl) ?_
  refine al_end (aq_then ?_)
  refine ac_seq ?_
  refine ac_cond rfl (fun h1 => ?_) (fun h1 => ?_)
  · have hxl : x < la := by have := of_decide_eq_true h1; omega
    obtain ⟨b11, o11, hA1, hlt1, hget1⟩ := i1.2 (by omega)
    obtain ⟨b21, o21, hA2, hlt2, hget2⟩ := i2.2 (by omega)
    have hx1 := iA_get (l := za) (k := x) (by rw [i1.1]; exact hxl)
    have hx2 := iA_get (l := zb) (k := x) (by rw [i2.1]; omega)
    have q1 := d1 _ (List.mem_of_getElem? hx1)
    have q2 := d2 _ (List.mem_of_getElem? hx2)
    refine ac_skip ?_
    refine aq_then ?_
    refine ac_seq ?_
    refine ac_block ?_
    refine ac_seq (ac_region ?_)
    refine al_p (q_move rfl) ?_
    refine al_p (q_assign rfl) ?_
    refine al_end (aq_then ?_)
    refine ac_draw 12 (by kernel_rfl) (by kernel_rfl) ?_
    refine ah_t 0 (fun w9 hs => hs) rfl rfl (by kernel_rfl) (q_move rfl) ?_
    refine ah_t 1 (fun w9 hs => hs) rfl rfl (by kernel_rfl) (q_move rfl) ?_
    refine ah_t 2 (fun w9 hs => hs) rfl rfl (by kernel_rfl) (q_move rfl) ?_
    refine ah_t 3 (fun w9 hs => hs) rfl rfl (by kernel_rfl) (q_move rfl) ?_
    refine ah_t 4 (fun w9 hs => hs) rfl rfl (by kernel_rfl) (q_indexAddrA (i := x) (o11 + x * 1 + 0) hA1 rfl rfl rfl (by omega) Tryz.runUnderlying30 Tryz.sizeOf3 rfl) ?_
    refine ah_t 5 (fun w9 hs => hs) rfl rfl (by kernel_rfl) (q_loadX rfl Tryz.isAgg3 (fun w9 hs => (hs.below.cell (p := ⟨_, _, none⟩) hlt1).trans ((hget1 x _ hx1) 0 _ rfl))) ?_
    refine ah_t 6 (fun w9 hs => hs) rfl rfl (by kernel_rfl) (q_move rfl) ?_
    refine ah_t 7 (fun w9 hs => hs) rfl rfl (by kernel_rfl) (q_move rfl) ?_
    refine ah_t 8 (fun w9 hs => hs) rfl rfl (by kernel_rfl) (q_indexAddrA (i := x) (o21 + x * 1 + 0) hA2 rfl rfl rfl (by omega) Tryz.runUnderlying30 Tryz.sizeOf3 rfl) ?_
    refine ah_t 9 (fun w9 hs => hs) rfl rfl (by kernel_rfl) (q_loadX rfl Tryz.isAgg3 (fun w9 hs => (hs.below.cell (p := ⟨_, _, none⟩) hlt2).trans ((hget2 x _ hx2) 0 _ rfl))) ?_
    refine ah_t 10 (fun w9 hs => hs) rfl rfl (by kernel_rfl) (q_sub rfl rfl (by omega)) ?_
    refine ah_t 11 (fun w9 hs => hs) rfl rfl (by kernel_rfl) (q_indexAddr (i := x) (x) rfl rfl rfl hxl Tryz.runUnderlying30 Tryz.sizeOf3 (by omega)) ?_
    refine ah_one 12 rfl (by kernel_rfl) (fun hok1 hcl1 => ?_)
    refine al_store1 (i := 0) rfl rfl rfl rfl Tryz.sizeOf3 (SetAt.ofSet (by rw [mixC_len]; exact hxl)) .k0 rfl ?_
    refine al_end (ah_last (by kernel_rfl) ?_)
    refine aq_inN ?_
    refine aq_then ?_
    refine ac_region ?_
    refine al_p (q_add rfl rfl (by omega)) ?_
    refine al_p (q_move rfl) ?_
    refine al_end (aq_then ?_)
    skip
    refine aq_round (x + 1) (by omega) (by omega) ⟨rfl, rfl, rfl, rfl, rfl, rfl, trivial⟩ (fun w9 hs => (by have h9 := hs; rw [mixC_set la x _ _ hxl] at h9; exact h9))
  · have hxe : x = la := by have := of_decide_eq_false h1; omega
    refine ac_exit ?_
    refine aq_thenE ?_
    refine aq_thenE ?_
    refine aq_hit ?_
    refine aq_then ?_
    refine ac_seq (ac_region ?_)
    refine al_p (q_move rfl) ?_
    refine al_p (q_assign rfl) ?_
    refine al_end (aq_then ?_)
    refine ac_ret ?_
    refine ret1 Tryz.results106 rfl (fun w9 hs => ?_)
    rw [hxe, mixC_all] at hs
    exact ⟨some ⟨b1, 0, none⟩, la, rfl, by rw [subL, i1.1]; exact new_lst hs (i := 0) rfl hm, hs.below⟩

end Go.Proofs.YtkhahbnagbjbiaaGreat
end
