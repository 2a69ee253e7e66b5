import Derived.Test.YtkhahbnagbjbiaaKAE
import Derived.Test.YtkhahbnagbjbiaaKAL
import Derived.Test.YtkhahbnagbjbiaaKAN
import Derived.Test.YtkhahbnagbjbiaaKAO
import Derived.Test.YtkhahbnagbjbiaaRows
import Derived.KernelRfl
import Derived.Laws.StructEq
import Derived.Handy
section
/- Package circuit: what is valid, over this seat's translation (written by ax_ci1.py). -/
namespace Go.Proofs.Ytkhahbnagbjbiaa
set_option linter.unusedVariables false
set_option linter.unusedSimpArgs false
open Go.RowKit

set_option maxRecDepth 100000 in
theorem cwithin_any (n a b : Int) (w : World) : Calls Try.prog 30 #[(.int .i64 n), (.int .i64 a), (.int .i64 b)] w (Ret (.bool (wthn n a b)) w) := by
  refine calls_ax (vs := [(.int .i64 n), (.int .i64 a), (.int .i64 b)]) Try.func30 rfl rfl ?_
  refine ac_seq ?_
  refine ac_region ?_
  refine al_q (q_assign rfl) rfl rfl rfl ?_
  refine al_end ?_
  refine aq_then ?_
  refine ac_seq ?_
  refine ac_region ?_
  refine al_q (q_move rfl) rfl rfl rfl ?_
  refine al_q (q_move rfl) rfl rfl rfl ?_
  refine al_q (q_leq rfl rfl) rfl rfl rfl ?_
  refine al_q (q_move rfl) rfl rfl rfl ?_
  refine aq_split 10 rfl (fun hb1 => ?_) (fun hb1 => ?_)
  · refine al_q (q_move rfl) rfl rfl rfl ?_
    refine al_q (q_move rfl) rfl rfl rfl ?_
    refine al_q (q_leq rfl rfl) rfl rfl rfl ?_
    refine al_q (q_pickT rfl rfl) rfl rfl rfl ?_
    refine al_q (q_assign rfl) rfl rfl rfl ?_
    refine al_end ?_
    refine aq_then ?_
    refine ac_ret ?_
    refine ret1 Try.results30 rfl (fun w9 hs => ?_)
    exact ⟨by first | (simp_all [wthn]; done) | (simp_all [wthn]; omega), hs.below⟩
  · refine al_skip rfl rfl rfl ?_
    refine al_skip rfl rfl rfl ?_
    refine al_skip rfl rfl rfl ?_
    refine al_q (q_pickF rfl rfl) rfl rfl rfl ?_
    refine al_q (q_assign rfl) rfl rfl rfl ?_
    refine al_end ?_
    refine aq_then ?_
    refine ac_ret ?_
    refine ret1 Try.results30 rfl (fun w9 hs => ?_)
    exact ⟨by first | (simp_all [wthn]; done) | (simp_all [wthn]; omega), hs.below⟩

set_option maxRecDepth 100000 in
theorem validList1_any (x a b : Int) (b6 b7 : Nat) (w : World) (h6 : w.cell? ⟨b6, 0, none⟩ = some (.int .i64 a)) (h7 : w.cell? ⟨b7, 0, none⟩ = some (.int .i64 b)) (k6 : b6 < w.heap.size) (k7 : b7 < w.heap.size) : Calls Try.prog 57 #[(.int .i64 x), (.pointer (some ⟨b6, 0 + 0, none⟩)), (.pointer (some ⟨b7, 0 + 0, none⟩))] w (Ret (.bool (!wthn x a b)) w) := by
  refine calls_ax (vs := [(.int .i64 x), (.pointer (some ⟨b6, 0 + 0, none⟩)), (.pointer (some ⟨b7, 0 + 0, none⟩))]) Try.func57 rfl rfl ?_
  refine ac_seq ?_
  refine ac_region ?_
  refine al_q (q_assign rfl) rfl rfl rfl ?_
  refine al_end ?_
  refine aq_then ?_
  refine ac_seq ?_
  refine ac_region ?_
  refine al_q (q_move rfl) rfl rfl rfl ?_
  refine al_q (q_loadX rfl Try.isAgg3 (fun w9 hs => (hs.below.cell (p := ⟨_, _, none⟩) k6).trans ((one_fact h6) 0 _ rfl))) rfl rfl rfl ?_
  refine al_q (q_loadX rfl Try.isAgg3 (fun w9 hs => (hs.below.cell (p := ⟨_, _, none⟩) k7).trans ((one_fact h7) 0 _ rfl))) rfl rfl rfl ?_
  refine al_call Try.call30 (.cons rfl (.cons rfl (.cons rfl .nil))) rfl rfl (fun w1 hs1 => ?_)
  refine (cwithin_any x a b _).mono ?_
  rintro e u1 ⟨rfl, hb_1⟩
  refine ⟨_, rfl, hb_1, ?_⟩
  clear hs1
  refine al_q (q_not rfl) rfl rfl rfl ?_
  refine al_q (q_assign rfl) rfl rfl rfl ?_
  refine al_end ?_
  refine aq_then ?_
  refine ac_ret ?_
  refine ret1 Try.results57 rfl (fun w9 hs => ?_)
  exact ⟨rfl, hs.below⟩

set_option maxRecDepth 100000 in
theorem validList_any (A : Option Addr) (len cap : Nat) (zs : List Int) (n : Nat) (a b : Int) (w : World) (hI : IsT 1 intCells w A len zs) (hl : n ≤ 1000000000000000) : Calls Try.prog 31 #[(.slice A len cap), (.int .i64 (n : Int)), (.int .i64 a), (.int .i64 b)] w (Ret (.bool (decide (zs.length = n) && allW zs a b)) w) := by
  refine calls_ax (vs := [(.slice A len cap), (.int .i64 (n : Int)), (.int .i64 a), (.int .i64 b)]) Try.func31 rfl rfl ?_
  refine ac_seq ?_
  refine ac_region ?_
  refine al_new (fun b => .pointer (some ⟨b, 0, none⟩)) (r_box rfl rfl) rfl rfl rfl ?_
  intro b1
  refine al_new (fun b => .pointer (some ⟨b, 0, none⟩)) (r_box rfl rfl) rfl rfl rfl ?_
  intro b2
  refine al_q (q_assign rfl) rfl rfl rfl ?_
  refine al_end ?_
  refine aq_then ?_
  refine ac_seq ?_
  refine ac_region ?_
  refine al_q (q_move rfl) rfl rfl rfl ?_
  refine al_q (q_lenS rfl Try.runUnderlying30) rfl rfl rfl ?_
  refine al_q (q_move rfl) rfl rfl rfl ?_
  refine al_q (q_eql rfl rfl) rfl rfl rfl ?_
  refine al_q (q_move rfl) rfl rfl rfl ?_
  refine aq_split 13 rfl (fun hb1 => ?_) (fun hb1 => ?_)
  · have hn : len = n := by have := of_decide_eq_true hb1; omega
    refine al_q (q_move rfl) rfl rfl rfl ?_
    refine al_q (q_makeFunc _ _ .nil (.cons rfl (.cons rfl .nil))) rfl rfl rfl ?_
    refine al_call Try.call56 (.cons rfl (.cons rfl .nil)) rfl rfl (fun w1 hs1 => ?_)
    refine (containsint2 57 b1 b2 (fun x => !wthn x a b) A len cap zs _ (hI.below hs1.below) (by omega) Try.call57 (fun x W9 _ hB => validList1_any x a b b1 b2 W9 ((hB.cell (p := ⟨b1, 0, none⟩) (hs1.at 1 rfl).lt).trans (hs1.cell (i := 1) rfl (k := 0) rfl)) ((hB.cell (p := ⟨b2, 0, none⟩) (hs1.at 0 rfl).lt).trans (hs1.cell (i := 0) rfl (k := 0) rfl)) (Nat.lt_of_lt_of_le (hs1.at 1 rfl).lt hB.size) (Nat.lt_of_lt_of_le (hs1.at 0 rfl).lt hB.size))).mono ?_
    rintro e u1 ⟨rfl, hb_1⟩
    refine ⟨_, rfl, hb_1, ?_⟩
    clear hs1
    refine al_q (q_not rfl) rfl rfl rfl ?_
    refine al_q (q_pickT rfl rfl) rfl rfl rfl ?_
    refine al_q (q_assign rfl) rfl rfl rfl ?_
    refine al_end ?_
    refine aq_then ?_
    refine ac_ret ?_
    refine ret1 Try.results31 rfl (fun w9 hs => ?_)
    exact ⟨by rw [← not_any_allW, hI.1, decide_eq_true hn]; rfl, hs.below⟩
  · have hn : len ≠ n := by have := of_decide_eq_false hb1; omega
    refine al_skip rfl rfl rfl ?_
    refine al_skip rfl rfl rfl ?_
    refine al_skip rfl rfl rfl ?_
    refine al_skip rfl rfl rfl ?_
    refine al_q (q_pickF rfl rfl) rfl rfl rfl ?_
    refine al_q (q_assign rfl) rfl rfl rfl ?_
    refine al_end ?_
    refine aq_then ?_
    refine ac_ret ?_
    refine ret1 Try.results31 rfl (fun w9 hs => ?_)
    exact ⟨by rw [hI.1, decide_eq_false hn]; rfl, hs.below⟩

set_option maxRecDepth 100000 in
theorem validChange_any (R : MachR) (M : MachD) (A : Option Addr) (len cap : Nat) (zs : List Int) (w : World) (hM : IsM w R M) (hI : IsT 1 intCells w A len zs) : Calls Try.prog 39 #[(.agg (machCells R M)), (.slice A len cap)] w (Ret (.bool (validCh M zs 1000000000000000)) w) := by
  refine calls_ax (vs := [(.agg (machCells R M)), (.slice A len cap)]) Try.func39 rfl rfl ?_
  refine ac_seq ?_
  refine ac_region ?_
  refine al_new (fun b => .pointer (some ⟨b, 0, none⟩)) (r_box rfl rfl) rfl rfl rfl ?_
  intro b1
  refine al_q (q_assign rfl) rfl rfl rfl ?_
  refine al_end ?_
  refine aq_then ?_
  refine ac_seq ?_
  refine ac_region ?_
  refine al_q (q_move rfl) rfl rfl rfl ?_
  refine al_q (q_fieldAddr 1 rfl Try.runUnderlying29 rfl Try.sizeOf22 (by decide) rfl) rfl rfl rfl ?_
  refine al_q (q_load (i := 0) rfl rfl rfl Try.isAgg22) rfl rfl rfl ?_
  refine al_q (q_lenS rfl Try.runUnderlying22) rfl rfl rfl ?_
  refine al_call Try.call31 (.cons rfl (.cons rfl (.cons rfl (.cons rfl .nil)))) rfl rfl (fun w1 hs1 => ?_)
  refine (validList_any A len cap zs R.la (-1000000000000000) 1000000000000000 _ (hI.below hs1.below) hM.ka).mono ?_
  rintro e u1 ⟨rfl, hb_1⟩
  refine ⟨_, rfl, hb_1, ?_⟩
  clear hs1
  refine al_q (q_assign rfl) rfl rfl rfl ?_
  refine al_end ?_
  refine aq_then ?_
  refine ac_ret ?_
  refine ret1 Try.results39 rfl (fun w9 hs => ?_)
  exact ⟨by rw [validCh, hM.coils.1], hs.below⟩

set_option maxRecDepth 100000 in
theorem validState_any (R : MachR) (M : MachD) (RS : StR) (S : StD) (w : World) (hM : IsM w R M) (hS : IsS w RS S) : Calls Try.prog 17 #[(.agg (machCells R M)), (RS.v S.tick)] w (Ret (.bool (validS M S)) w) := by
  refine calls_ax (vs := [(.agg (machCells R M)), (RS.v S.tick)]) Try.func17 rfl rfl ?_
  refine ac_seq ?_
  refine ac_region ?_
  refine al_new (fun b => .pointer (some ⟨b, 0, none⟩)) (r_box rfl rfl) rfl rfl rfl ?_
  intro b1
  refine al_new (fun b => .pointer (some ⟨b, 0, none⟩)) (r_box rfl rfl) rfl rfl rfl ?_
  intro b2
  refine al_q (q_assign rfl) rfl rfl rfl ?_
  refine al_end ?_
  refine aq_then ?_
  refine ac_seq ?_
  refine ac_region ?_
  refine al_q (q_loadAll (i := 1) rfl rfl Try.isAgg29 Try.sizeOf29 rfl) rfl rfl rfl ?_
  refine al_q (q_fieldAddr 1 rfl Try.runUnderlying35 rfl Try.sizeOf32 (by decide) rfl) rfl rfl rfl ?_
  refine al_q (q_loadSub (i := 0) rfl rfl Try.isAgg32 Try.sizeOf32 .k1 .k3) rfl rfl rfl ?_
  refine al_call Try.call29 (.cons rfl (.cons rfl .nil)) rfl rfl (fun w1 hs1 => ?_)
  refine (validCurrents_any R M RS.Q S.C _ (hM.below hs1.below) (hS.cur.below hs1.below)).mono ?_
  rintro e u1 ⟨rfl, hb_1⟩
  refine ⟨_, rfl, hb_1, ?_⟩
  clear hs1
  refine al_q (q_move rfl) rfl rfl rfl ?_
  refine aq_split 9 rfl (fun hb1 => ?_) (fun hb1 => ?_)
  · refine al_q (q_fieldAddr 0 rfl Try.runUnderlying35 rfl Try.sizeOf3 (by decide) rfl) rfl rfl rfl ?_
    refine al_q (q_load (i := 0) rfl rfl rfl Try.isAgg3) rfl rfl rfl ?_
    refine al_call Try.call30 (.cons rfl (.cons rfl (.cons rfl .nil))) rfl rfl (fun w2 hs2 => ?_)
    refine (cwithin_any S.tick 0 1000000000 _).mono ?_
    rintro e u2 ⟨rfl, hb_2⟩
    refine ⟨_, rfl, hb_2, ?_⟩
    clear hs2
    refine al_q (q_pickT rfl rfl) rfl rfl rfl ?_
    refine al_q (q_move rfl) rfl rfl rfl ?_
    refine aq_split 14 rfl (fun hb2 => ?_) (fun hb2 => ?_)
    · refine al_q (q_fieldAddr 4 rfl Try.runUnderlying35 rfl Try.sizeOf30 (by decide) rfl) rfl rfl rfl ?_
      refine al_q (q_load (i := 0) rfl rfl rfl Try.isAgg30) rfl rfl rfl ?_
      refine al_q (q_fieldAddr 1 rfl Try.runUnderlying29 rfl Try.sizeOf22 (by decide) rfl) rfl rfl rfl ?_
      refine al_q (q_load (i := 1) rfl rfl rfl Try.isAgg22) rfl rfl rfl ?_
      refine al_q (q_lenS rfl Try.runUnderlying22) rfl rfl rfl ?_
      refine al_call Try.call31 (.cons rfl (.cons rfl (.cons rfl (.cons rfl .nil)))) rfl rfl (fun w3 hs3 => ?_)
      refine (validList_any RS.H RS.lh RS.ch S.heat R.la 0 1000000000000000 _ (hS.heat.below hs3.below) hM.ka).mono ?_
      rintro e u3 ⟨rfl, hb_3⟩
      refine ⟨_, rfl, hb_3, ?_⟩
      clear hs3
      refine al_q (q_pickT rfl rfl) rfl rfl rfl ?_
      refine al_q (q_move rfl) rfl rfl rfl ?_
      refine aq_split 22 rfl (fun hb3 => ?_) (fun hb3 => ?_)
      · refine al_q (q_fieldAddr 5 rfl Try.runUnderlying35 rfl Try.sizeOf33 (by decide) rfl) rfl rfl rfl ?_
        refine al_q (q_load (i := 0) rfl rfl rfl Try.isAgg33) rfl rfl rfl ?_
        refine al_q (q_lenS rfl Try.runUnderlying33) rfl rfl rfl ?_
        refine al_q (q_fieldAddr 1 rfl Try.runUnderlying29 rfl Try.sizeOf22 (by decide) rfl) rfl rfl rfl ?_
        refine al_q (q_load (i := 1) rfl rfl rfl Try.isAgg22) rfl rfl rfl ?_
        refine al_q (q_lenS rfl Try.runUnderlying22) rfl rfl rfl ?_
        refine al_q (q_eql rfl rfl) rfl rfl rfl ?_
        refine al_q (q_pickT rfl rfl) rfl rfl rfl ?_
        refine al_q (q_assign rfl) rfl rfl rfl ?_
        refine al_end ?_
        refine aq_then ?_
        refine ac_ret ?_
        refine ret1 Try.results17 rfl (fun w9 hs => ?_)
        refine ⟨?_, hs.below⟩
        unfold validS
        rw [← hM.coils.1] at *
        first | (simp_all [hS.trip.1]; done) | (simp_all [hS.trip.1]; rw [Bool.eq_iff_iff]; simp only [beq_iff_eq, decide_eq_true_eq]; omega)
      · refine al_skip rfl rfl rfl ?_
        refine al_skip rfl rfl rfl ?_
        refine al_skip rfl rfl rfl ?_
        refine al_skip rfl rfl rfl ?_
        refine al_skip rfl rfl rfl ?_
        refine al_skip rfl rfl rfl ?_
        refine al_skip rfl rfl rfl ?_
        refine al_q (q_pickF rfl rfl) rfl rfl rfl ?_
        refine al_q (q_assign rfl) rfl rfl rfl ?_
        refine al_end ?_
        refine aq_then ?_
        refine ac_ret ?_
        refine ret1 Try.results17 rfl (fun w9 hs => ?_)
        refine ⟨?_, hs.below⟩
        unfold validS
        rw [← hM.coils.1] at *
        first | (simp_all [hS.trip.1]; done) | (simp_all [hS.trip.1]; rw [Bool.eq_iff_iff]; simp only [beq_iff_eq, decide_eq_true_eq]; omega)
    · refine al_skip rfl rfl rfl ?_
      refine al_skip rfl rfl rfl ?_
      refine al_skip rfl rfl rfl ?_
      refine al_skip rfl rfl rfl ?_
      refine al_skip rfl rfl rfl ?_
      refine al_skip rfl rfl rfl ?_
      refine al_q (q_pickF rfl rfl) rfl rfl rfl ?_
      refine al_q (q_move rfl) rfl rfl rfl ?_
      refine al_skip rfl rfl rfl ?_
      refine al_skip rfl rfl rfl ?_
      refine al_skip rfl rfl rfl ?_
      refine al_skip rfl rfl rfl ?_
      refine al_skip rfl rfl rfl ?_
      refine al_skip rfl rfl rfl ?_
      refine al_skip rfl rfl rfl ?_
      refine al_q (q_pickF rfl rfl) rfl rfl rfl ?_
      refine al_q (q_assign rfl) rfl rfl rfl ?_
      refine al_end ?_
      refine aq_then ?_
      refine ac_ret ?_
      refine ret1 Try.results17 rfl (fun w9 hs => ?_)
      refine ⟨?_, hs.below⟩
      unfold validS
      rw [← hM.coils.1] at *
      first | (simp_all [hS.trip.1]; done) | (simp_all [hS.trip.1]; rw [Bool.eq_iff_iff]; simp only [beq_iff_eq, decide_eq_true_eq]; omega)
  · refine al_skip rfl rfl rfl ?_
    refine al_skip rfl rfl rfl ?_
    refine al_skip rfl rfl rfl ?_
    refine al_q (q_pickF rfl rfl) rfl rfl rfl ?_
    refine al_q (q_move rfl) rfl rfl rfl ?_
    refine al_skip rfl rfl rfl ?_
    refine al_skip rfl rfl rfl ?_
    refine al_skip rfl rfl rfl ?_
    refine al_skip rfl rfl rfl ?_
    refine al_skip rfl rfl rfl ?_
    refine al_skip rfl rfl rfl ?_
    refine al_q (q_pickF rfl rfl) rfl rfl rfl ?_
    refine al_q (q_move rfl) rfl rfl rfl ?_
    refine al_skip rfl rfl rfl ?_
    refine al_skip rfl rfl rfl ?_
    refine al_skip rfl rfl rfl ?_
    refine al_skip rfl rfl rfl ?_
    refine al_skip rfl rfl rfl ?_
    refine al_skip rfl rfl rfl ?_
    refine al_skip rfl rfl rfl ?_
    refine al_q (q_pickF rfl rfl) rfl rfl rfl ?_
    refine al_q (q_assign rfl) rfl rfl rfl ?_
    refine al_end ?_
    refine aq_then ?_
    refine ac_ret ?_
    refine ret1 Try.results17 rfl (fun w9 hs => ?_)
    refine ⟨?_, hs.below⟩
    unfold validS
    rw [← hM.coils.1] at *
    first | (simp_all [hS.trip.1]; done) | (simp_all [hS.trip.1]; rw [Bool.eq_iff_iff]; simp only [beq_iff_eq, decide_eq_true_eq]; omega)

end Go.Proofs.Ytkhahbnagbjbiaa
end
section
/- Package machine: Linked, CellAt, over this seat's translation (written by ax_mh.py). -/
namespace Go.Proofs.Ytkhahbnagbjbiaa
set_option linter.unusedVariables false
set_option linter.unusedSimpArgs false
open Go.RowKit

theorem flat_ints : ∀ n : Nat, (List.replicate n (0 : Int)).flatMap intCells = List.replicate n (.int .i64 0)
  | 0 => rfl
  | n + 1 => by rw [List.replicate_succ, List.replicate_succ, List.flatMap_cons, flat_ints n]; rfl

end Go.Proofs.Ytkhahbnagbjbiaa
end
section
/- Package circuit: what is valid (sources, drives), cut, lost, differences, applied, over this seat's translation (written by ax_ci1.py). -/
namespace Go.Proofs.Ytkhahbnagbjbiaa
set_option linter.unusedVariables false
set_option linter.unusedSimpArgs false
open Go.RowKit

theorem flatZ (n : Nat) : (zerosI n).flatMap intCells = List.replicate n (.int .i64 0) := flat_ints n
theorem srcC {w : World} {A1 A2 A3 : Option Addr} {l1 c1 l2 c2 l3 c3 : Nat} {x y z : List Int} (h1 : IsT 1 intCells w A1 l1 x) (h2 : IsT 1 intCells w A2 l2 y) (h3 : IsT 1 intCells w A3 l3 z) (k1 : l1 ≤ c1 ∧ c1 ≤ 9223372036854775807) (k2 : l2 ≤ c2 ∧ c2 ≤ 9223372036854775807) (k3 : l3 ≤ c3 ∧ c3 ≤ 9223372036854775807) : IsCw w ⟨A1, A2, A3, l1, c1, l2, c2, l3, c3⟩ ⟨x, y, z⟩ :=
  ⟨h1, h2, h3, k1.1, k2.1, k3.1, k1.2, k2.2, k3.2⟩

theorem kib_bl_apiCurrents_0_1_2 (a0 a1 a2 : Value) (ha0 : a0.oneCell' = true) (ha1 : a1.oneCell' = true) (ha2 : a2.oneCell' = true) : ∀ w, (Instr.build 32 #[(0, a0), (1, a1), (2, a2)]).run Try.prog w = .ok (.agg #[a0, a1, a2]) w := by
  have ea0 : a0.cells = #[a0] := cells_one ha0
  have ea1 : a1.cells = #[a1] := cells_one ha1
  have ea2 : a2.cells = #[a2] := cells_one ha2
  intro w; simp [Instr.build, Instr.fill, cells_agg, Try.runUnderlying32, Try.zeroValue32, Try.sizeOf30, ea0, ea1, ea2]

set_option maxRecDepth 100000 in
theorem validSources_any (R : MachR) (M : MachD) (A1 A2 : Option Addr) (l1 c1 l2 c2 : Nat) (co pl : List Int) (w : World) (hM : IsM w R M) (h1 : IsT 1 intCells w A1 l1 co) (h2 : IsT 1 intCells w A2 l2 pl) (k1 : l1 ≤ c1 ∧ c1 ≤ 9223372036854775807) (k2 : l2 ≤ c2 ∧ c2 ≤ 9223372036854775807) (hb : R.lb ≤ 1000000) : Calls Try.prog 18 #[(.agg (machCells R M)), (.slice A1 l1 c1), (.slice A2 l2 c2)] w (Ret (.bool (validC M ⟨co, zerosI M.shells.length, pl⟩)) w) := by
  refine calls_ax (vs := [(.agg (machCells R M)), (.slice A1 l1 c1), (.slice A2 l2 c2)]) Try.func18 rfl rfl ?_
  refine ac_seq ?_
  refine ac_region ?_
  refine al_new (fun b => .pointer (some ⟨b, 0, none⟩)) (r_box rfl rfl) rfl rfl rfl ?_
  intro b1
  refine al_q (q_assign rfl) rfl rfl rfl ?_
  refine al_end ?_
  refine aq_then ?_
  refine ac_seq ?_
  refine ac_region ?_
  refine al_q (q_fieldAddr 2 rfl Try.runUnderlying29 rfl Try.sizeOf23 (by decide) rfl) rfl rfl rfl ?_
  refine al_q (q_load (i := 0) rfl rfl rfl Try.isAgg23) rfl rfl rfl ?_
  refine al_q (q_lenS rfl Try.runUnderlying23) rfl rfl rfl ?_
  refine al_makeInts (n := R.lb) (z := (.int .i64 0)) (bytes := 8) rfl rfl rfl Try.underlying30 (by kernel_rfl) rfl (by omega) (by decide) rfl rfl ?_
  intro b2
  refine al_q (q_assign rfl) rfl rfl rfl ?_
  refine al_end ?_
  refine aq_then ?_
  refine ac_seq ?_
  refine ac_region ?_
  refine al_q (q_loadAll (i := 1) rfl rfl Try.isAgg29 Try.sizeOf29 rfl) rfl rfl rfl ?_
  refine al_q (q_move rfl) rfl rfl rfl ?_
  refine al_q (q_move rfl) rfl rfl rfl ?_
  refine al_q (q_move rfl) rfl rfl rfl ?_
  refine al_q (q_build (.cons rfl (.cons rfl (.cons rfl .nil))) (kib_bl_apiCurrents_0_1_2 _ _ _ rfl rfl rfl)) rfl rfl rfl ?_
  refine al_call Try.call29 (.cons rfl (.cons rfl .nil)) rfl rfl (fun w1 hs1 => ?_)
  refine (validCurrents_w R M ⟨A1, some ⟨b2, 0, none⟩, A2, l1, c1, R.lb, R.lb, l2, c2⟩ ⟨co, zerosI M.shells.length, pl⟩ _ (hM.below hs1.below) (srcC (h1.below hs1.below) (isT_box0 (n := 1) (enc := intCells) (fun _ => rfl) (hs1.at 0 rfl) (by rw [hM.shells.1]; exact flatZ R.lb) (by simp [zerosI, hM.shells.1])) (h2.below hs1.below) k1 ⟨Nat.le_refl _, by omega⟩ k2)).mono ?_
  rintro e u1 ⟨rfl, hb_1⟩
  refine ⟨_, rfl, hb_1, ?_⟩
  clear hs1
  refine al_q (q_assign rfl) rfl rfl rfl ?_
  refine al_end ?_
  refine aq_then ?_
  refine ac_ret ?_
  refine ret1 Try.results18 rfl (fun w9 hs => ?_)
  exact ⟨rfl, hs.below⟩

set_option maxRecDepth 100000 in
theorem validDrive_any (R : MachR) (M : MachD) (A1 A2 : Option Addr) (l1 c1 l2 c2 : Nat) (ch pl : List Int) (w : World) (hM : IsM w R M) (h1 : IsT 1 intCells w A1 l1 ch) (h2 : IsT 1 intCells w A2 l2 pl) (k2 : l2 ≤ c2 ∧ c2 ≤ 9223372036854775807) (ha : R.la ≤ 1000000) (hb : R.lb ≤ 1000000) : Calls Try.prog 23 #[(.agg (machCells R M)), (.agg #[.slice A1 l1 c1, .slice A2 l2 c2])] w (Ret (.bool (validCh M ch 1000000000000000 && validPl M pl)) w) := by
  refine calls_ax (vs := [(.agg (machCells R M)), (.agg #[.slice A1 l1 c1, .slice A2 l2 c2])]) Try.func23 rfl rfl ?_
  refine ac_seq ?_
  refine ac_region ?_
  refine al_new (fun b => .pointer (some ⟨b, 0, none⟩)) (r_box rfl rfl) rfl rfl rfl ?_
  intro b1
  refine al_new (fun b => .pointer (some ⟨b, 0, none⟩)) (r_box rfl rfl) rfl rfl rfl ?_
  intro b2
  refine al_q (q_assign rfl) rfl rfl rfl ?_
  refine al_end ?_
  refine aq_then ?_
  refine ac_seq ?_
  refine ac_draw 14 (by kernel_rfl) (by kernel_rfl) ?_
  refine ah_take 0 (fun w9 hs => hs) rfl rfl rfl (by kernel_rfl) (by kernel_rfl) (by kernel_rfl) (fun _ _ _ h => h) rfl (q_loadAll (i := 1) rfl rfl Try.isAgg29 Try.sizeOf29 rfl) ?_
  refine ah_take 1 (fun w9 hs => hs) rfl rfl rfl (by kernel_rfl) (by kernel_rfl) (by kernel_rfl) (fun _ _ _ h => h) rfl (q_fieldAddr 0 rfl Try.runUnderlying37 rfl Try.sizeOf30 (by decide) rfl) ?_
  refine ah_take 2 (fun w9 hs => hs) rfl rfl rfl (by kernel_rfl) (by kernel_rfl) (by kernel_rfl) (fun _ _ _ h => h) rfl (q_load (i := 0) rfl rfl rfl Try.isAgg30) ?_
  refine ah_one 3 rfl (by kernel_rfl) (fun hok1 hcl1 => ?_)
  refine al_call Try.call39 (.cons rfl (.cons rfl .nil)) rfl rfl (fun w1 hs1 => ?_)
  refine (validChange_any R M A1 l1 c1 ch _ (hM.below hs1.below) (h1.below hs1.below)).mono ?_
  rintro e u1 ⟨rfl, hb_1⟩
  refine ⟨_, rfl, hb_1, ?_⟩
  clear hs1
  refine al_end (ah_back hok1 hcl1 (fun w9 hs => (hs.fewer 1 rfl)) ?_)
  refine ah_take 4 (fun w9 hs => (hs.fewer 1 rfl)) rfl rfl rfl (by kernel_rfl) (by kernel_rfl) (by kernel_rfl) (fun _ _ _ h => h) rfl (q_move rfl) ?_
  refine ah_split 9 rfl (fun hb1 => ?_) (fun hb1 => ?_)
  · refine ah_take 5 (fun w9 hs => (hs.fewer 1 rfl)) rfl rfl rfl (by kernel_rfl) (by kernel_rfl) (by kernel_rfl) (fun _ _ _ h => h) rfl (q_loadAll (i := 1) rfl rfl Try.isAgg29 Try.sizeOf29 rfl) ?_
    refine ah_take 6 (fun w9 hs => (hs.fewer 1 rfl)) rfl rfl rfl (by kernel_rfl) (by kernel_rfl) (by kernel_rfl) (fun _ _ _ h => h) rfl (q_fieldAddr 1 rfl Try.runUnderlying29 rfl Try.sizeOf22 (by decide) rfl) ?_
    refine ah_take 7 (fun w9 hs => (hs.fewer 1 rfl)) rfl rfl rfl (by kernel_rfl) (by kernel_rfl) (by kernel_rfl) (fun _ _ _ h => h) rfl (q_load (i := 1) rfl rfl rfl Try.isAgg22) ?_
    refine ah_take 8 (fun w9 hs => (hs.fewer 1 rfl)) rfl rfl rfl (by kernel_rfl) (by kernel_rfl) (by kernel_rfl) (fun _ _ _ h => h) rfl (q_lenS rfl Try.runUnderlying22) ?_
    refine ah_take 10 (fun w9 hs => (hs.fewer 1 rfl)) rfl rfl rfl (by kernel_rfl) (by kernel_rfl) (by kernel_rfl) (fun _ _ _ h => h) rfl (q_fieldAddr 1 rfl Try.runUnderlying37 rfl Try.sizeOf30 (by decide) rfl) ?_
    refine ah_take 11 (fun w9 hs => (hs.fewer 1 rfl)) rfl rfl rfl (by kernel_rfl) (by kernel_rfl) (by kernel_rfl) (fun _ _ _ h => h) rfl (q_load (i := 0) rfl rfl rfl Try.isAgg30) ?_
    refine ah_one 9 rfl (by kernel_rfl) (fun hok2 hcl2 => ?_)
    refine al_makeInts (n := R.la) (z := (.int .i64 0)) (bytes := 8) rfl rfl rfl Try.underlying30 (by kernel_rfl) rfl (by omega) (by decide) rfl rfl ?_
    intro b3
    refine al_end (ah_back hok2 hcl2 (fun w9 hs => ((hs.fewer 1 rfl).tail 1 rfl)) ?_)
    refine ah_one 12 rfl (by kernel_rfl) (fun hok3 hcl3 => ?_)
    refine al_call Try.call18 (.cons rfl (.cons rfl (.cons rfl .nil))) rfl rfl (fun w2 hs2 => ?_)
    refine (validSources_any R M (some ⟨b3, 0, none⟩) A2 R.la R.la l2 c2 (zerosI M.coils.length) pl _ (hM.below hs2.below) (isT_box0 (n := 1) (enc := intCells) (fun _ => rfl) (hs2.at 0 rfl) (by rw [hM.coils.1]; exact flatZ R.la) (by simp [zerosI, hM.coils.1])) (h2.below hs2.below) ⟨Nat.le_refl _, by omega⟩ k2 hb).mono ?_
    rintro e u2 ⟨rfl, hb_2⟩
    refine ⟨_, rfl, hb_2, ?_⟩
    clear hs2
    refine al_end (ah_back hok3 hcl3 (fun w9 hs => ((hs.fewer 2 rfl).tail 1 rfl)) ?_)
    refine ah_take 13 (fun w9 hs => ((hs.fewer 2 rfl).tail 1 rfl)) rfl rfl rfl (by kernel_rfl) (by kernel_rfl) (by kernel_rfl) (fun _ _ _ h => h) rfl (q_pickT rfl rfl) ?_
    refine ah_one 14 rfl (by kernel_rfl) (fun hok4 hcl4 => ?_)
    refine al_q (q_assign rfl) rfl rfl rfl ?_
    refine al_end (ah_last (by kernel_rfl) ?_)
    refine aq_then ?_
    refine ac_ret ?_
    refine ret1 Try.results23 rfl (fun w9 hs => ?_)
    exact ⟨by rw [hb1]; rfl, hs.below⟩
  · refine ah_skip 5 (fun w9 hs => (hs.fewer 1 rfl)) rfl rfl rfl (by kernel_rfl) (by kernel_rfl) (by kernel_rfl) (fun _ _ _ h => h) rfl ?_
    refine ah_skip 6 (fun w9 hs => (hs.fewer 1 rfl)) rfl rfl rfl (by kernel_rfl) (by kernel_rfl) (by kernel_rfl) (fun _ _ _ h => h) rfl ?_
    refine ah_skip 7 (fun w9 hs => (hs.fewer 1 rfl)) rfl rfl rfl (by kernel_rfl) (by kernel_rfl) (by kernel_rfl) (fun _ _ _ h => h) rfl ?_
    refine ah_skip 8 (fun w9 hs => (hs.fewer 1 rfl)) rfl rfl rfl (by kernel_rfl) (by kernel_rfl) (by kernel_rfl) (fun _ _ _ h => h) rfl ?_
    refine ah_skip 9 (fun w9 hs => (hs.fewer 1 rfl)) rfl rfl rfl (by kernel_rfl) (by kernel_rfl) (by kernel_rfl) (fun _ _ _ h => h) rfl ?_
    refine ah_skip 10 (fun w9 hs => (hs.fewer 1 rfl)) rfl rfl rfl (by kernel_rfl) (by kernel_rfl) (by kernel_rfl) (fun _ _ _ h => h) rfl ?_
    refine ah_skip 11 (fun w9 hs => (hs.fewer 1 rfl)) rfl rfl rfl (by kernel_rfl) (by kernel_rfl) (by kernel_rfl) (fun _ _ _ h => h) rfl ?_
    refine ah_skip 12 (fun w9 hs => (hs.fewer 1 rfl)) rfl rfl rfl (by kernel_rfl) (by kernel_rfl) (by kernel_rfl) (fun _ _ _ h => h) rfl ?_
    refine ah_take 13 (fun w9 hs => (hs.fewer 1 rfl)) rfl rfl rfl (by kernel_rfl) (by kernel_rfl) (by kernel_rfl) (fun _ _ _ h => h) rfl (q_pickF rfl rfl) ?_
    refine ah_one 14 rfl (by kernel_rfl) (fun hok5 hcl5 => ?_)
    refine al_q (q_assign rfl) rfl rfl rfl ?_
    refine al_end (ah_last (by kernel_rfl) ?_)
    refine aq_then ?_
    refine ac_ret ?_
    refine ret1 Try.results23 rfl (fun w9 hs => ?_)
    exact ⟨by rw [hb1]; rfl, hs.below⟩

set_option maxRecDepth 100000 in
theorem ccut_any (n m : Int) (w : World) (hn : -9223372036854775807 ≤ m ∧ m ≤ 9223372036854775807) : Calls Try.prog 100 #[(.int .i64 n), (.int .i64 m)] w (Ret (.int .i64 (cutI n m)) w) := by
  refine calls_ax (vs := [(.int .i64 n), (.int .i64 m)]) Try.func100 rfl rfl ?_
  refine ac_seq ?_
  refine ac_region ?_
  refine al_q (q_assign rfl) rfl rfl rfl ?_
  refine al_end ?_
  refine aq_then ?_
  refine ac_seq ?_
  refine ac_region ?_
  refine al_q (q_move rfl) rfl rfl rfl ?_
  refine al_q (q_neg rfl (by omega)) rfl rfl rfl ?_
  refine al_q (q_move rfl) rfl rfl rfl ?_
  refine al_q (q_move rfl) rfl rfl rfl ?_
  refine al_q (q_min rfl rfl) rfl rfl rfl ?_
  refine al_q (q_max rfl rfl) rfl rfl rfl ?_
  refine al_q (q_assign rfl) rfl rfl rfl ?_
  refine al_end ?_
  refine aq_then ?_
  refine ac_ret ?_
  refine ret1 Try.results100 rfl (fun w9 hs => ?_)
  exact ⟨rfl, hs.below⟩

set_option maxRecDepth 100000 in
theorem clost_any (n m : Int) (w : World) (hn : -1000000000 ≤ n ∧ n ≤ 1000000000) (hp : 0 ≤ max n (-n) * m ∧ max n (-n) * m ≤ 1000000000000) : Calls Try.prog 101 #[(.int .i64 n), (.int .i64 m)] w (Ret (.int .i64 (lostI n m)) w) := by
  have hq : 0 ≤ (max n (-n) * m + 1000 - 1).tdiv 1000 ∧ (max n (-n) * m + 1000 - 1).tdiv 1000 ≤ 1000000000000 := by rw [Int.tdiv_eq_ediv_of_nonneg (by omega)]; omega
  refine calls_ax (vs := [(.int .i64 n), (.int .i64 m)]) Try.func101 rfl rfl ?_
  refine ac_seq ?_
  refine ac_region ?_
  refine al_q (q_assign rfl) rfl rfl rfl ?_
  refine al_end ?_
  refine aq_then ?_
  refine ac_seq ?_
  refine ac_region ?_
  refine al_q (q_move rfl) rfl rfl rfl ?_
  refine al_q (q_move rfl) rfl rfl rfl ?_
  refine al_q (q_neg rfl (by omega)) rfl rfl rfl ?_
  refine al_q (q_max rfl rfl) rfl rfl rfl ?_
  refine al_q (q_move rfl) rfl rfl rfl ?_
  refine al_q (q_mul rfl rfl (by omega)) rfl rfl rfl ?_
  refine al_q (q_add rfl rfl (by omega)) rfl rfl rfl ?_
  refine al_q (q_sub rfl rfl (by omega)) rfl rfl rfl ?_
  refine al_q (q_quo rfl rfl (by omega)) rfl rfl rfl ?_
  refine al_q (q_assign rfl) rfl rfl rfl ?_
  refine al_end ?_
  refine aq_then ?_
  refine ac_seq ?_
  refine ac_seq ?_
  refine ac_region ?_
  refine al_q (q_move rfl) rfl rfl rfl ?_
  refine al_q (q_lss rfl rfl) rfl rfl rfl ?_
  refine al_end ?_
  refine aq_then ?_
  refine ac_cond rfl (fun h1 => ?_) (fun h1 => ?_)
  · refine ac_seq ?_
    refine ac_region ?_
    refine al_q (q_move rfl) rfl rfl rfl ?_
    refine al_q (q_neg rfl (by omega)) rfl rfl rfl ?_
    refine al_q (q_assign rfl) rfl rfl rfl ?_
    refine al_end ?_
    refine aq_then ?_
    refine ac_ret ?_
    refine aq_thenR ?_
    refine ret1 Try.results101 rfl (fun w9 hs => ?_)
    exact ⟨by rw [lostI, if_pos (by have := of_decide_eq_true h1; omega)], hs.below⟩
  · refine ac_skip ?_
    refine aq_then ?_
    refine ac_seq ?_
    refine ac_region ?_
    refine al_q (q_move rfl) rfl rfl rfl ?_
    refine al_q (q_assign rfl) rfl rfl rfl ?_
    refine al_end ?_
    refine aq_then ?_
    refine ac_ret ?_
    refine ret1 Try.results101 rfl (fun w9 hs => ?_)
    exact ⟨by rw [lostI, if_neg (by have := of_decide_eq_false h1; omega)], hs.below⟩

def mixC (n k : Nat) (f g : Nat → Value) : List Value := (List.range n).map fun j => if j < k then f j else g j
theorem mixC_zero (n : Nat) (f g : Nat → Value) : mixC n 0 f g = lst n g := by simp [mixC, lst]
theorem mixC_all (n : Nat) (f g : Nat → Value) : mixC n n f g = lst n f := lst_ext (fun k hk => by simp [hk])
theorem mixC_len (n k : Nat) (f g : Nat → Value) : (mixC n k f g).length = n := by simp [mixC]
theorem mixC_set (n k : Nat) (f g : Nat → Value) (hk : k < n) : (mixC n k f g).set k (f k) = mixC n (k + 1) f g := by
  apply List.ext_getElem?
  intro i
  unfold mixC
  rw [List.getElem?_set]
  rcases Nat.lt_or_ge i n with hi | hi
  · by_cases h : k = i
    · subst h; simp [hk]
    · simp only [List.getElem?_map, List.getElem?_range hi, Option.map_some, if_neg h, List.length_map, List.length_range]
      have : (i < k) ↔ (i < k + 1) := by omega
      simp only [this]
  · rw [List.getElem?_eq_none (by simp; omega)]
    rw [if_neg (by omega), List.getElem?_eq_none (by simp; omega)]
theorem mixC_old (n k : Nat) (f g : Nat → Value) (i : Nat) (hi : i < n) (hk : k ≤ i) : (mixC n k f g)[i]? = some (g i) := by
  simp only [mixC, List.getElem?_map, List.getElem?_range hi, Option.map_some]
  rw [if_neg (by omega)]
theorem mixC_new (n k : Nat) (f g : Nat → Value) (i : Nat) (hi : i < n) (hk : i < k) : (mixC n k f g)[i]? = some (f i) := by
  simp only [mixC, List.getElem?_map, List.getElem?_range hi, Option.map_some]
  rw [if_pos hk]
theorem rep_lst (n : Nat) (v : Value) : List.replicate n v = lst n (fun _ => v) := by
  apply List.ext_getElem?
  intro i
  rcases Nat.lt_or_ge i n with hi | hi
  · rw [lst_get _ hi]; simp [hi]
  · rw [List.getElem?_eq_none (by simpa using hi), List.getElem?_eq_none (by rw [lst_length]; exact hi)]
theorem lst_ints (n : Nat) (f : Nat → Int) : (lst n f).flatMap intCells = lst n (fun j => Value.int .i64 (f j)) := by rw [flat_int]; simp [lst]
theorem lst_bools (n : Nat) (f : Nat → Bool) : (lst n f).flatMap boolCells = lst n (fun j => Value.bool (f j)) := by
  unfold lst
  induction n with
  | zero => rfl
  | succ n ih => rw [List.range_succ, List.map_append, List.flatMap_append, ih, List.map_append]; rfl
abbrev intsF (l : List Int) (j : Nat) : Value := .int .i64 (iA l j)
/-- a list of whole numbers laid in an own box -/
theorem new_lst {N : Nat} {D : List Deferred} {U : Snaps} {L : Boxes} {w0 w : World} {i b n : Nat} {f : Nat → Int} (h : Sta ⟨N, D, w0, []⟩ U L w) (hi : L[i]? = some (b, .cells (lst n fun j => .int .i64 (f j)))) (hn : n ≤ 1000000) : NewT 1 intCells w0.heap.size w (some ⟨b, 0, none⟩) n n (lst n f) :=
  ⟨isT_box0 (n := 1) (enc := intCells) (fun _ => rfl) (h.at i hi) (lst_ints n f) (lst_length n f), h.new i hi, Nat.le_refl _, by omega⟩

set_option maxRecDepth 100000 in
theorem differences_any (A B : Option Addr) (la ca lb cb : Nat) (za zb : List Int) (w : World) (i1 : IsT 1 intCells w A la za) (i2 : IsT 1 intCells w B lb zb) (hl : la = lb) (hm : la ≤ 1000000) (d1 : ∀ y ∈ za, -1000000000 ≤ y ∧ y ≤ 1000000000) (d2 : ∀ y ∈ zb, -1000000000 ≤ y ∧ y ≤ 1000000000) : Calls Try.prog 21 #[(.slice A la ca), (.slice B lb cb)] w (fun e w' => ∃ A' c, e = .returned (.slice A' la c) ∧ NewT 1 intCells w.heap.size w' A' la c (subL za zb) ∧ Below w.heap.size w w') := by
  refine calls_ax (vs := [(.slice A la ca), (.slice B lb cb)]) Try.func21 rfl rfl ?_
  refine ac_seq ?_
  refine ac_region ?_
  refine al_q (q_assign rfl) rfl rfl rfl ?_
  refine al_end ?_
  refine aq_then ?_
  refine ac_seq ?_
  refine ac_region ?_
  refine al_q (q_move rfl) rfl rfl rfl ?_
  refine al_q (q_lenS rfl Try.runUnderlying30) rfl rfl rfl ?_
  refine al_makeInts (n := la) (z := (.int .i64 0)) (bytes := 8) rfl rfl rfl Try.underlying30 (by kernel_rfl) rfl (by omega) (by decide) rfl rfl ?_
  intro b1
  refine al_q (q_assign rfl) rfl rfl rfl ?_
  refine al_end ?_
  refine aq_then ?_
  refine ac_seq ?_
  refine ac_seq ?_
  refine ac_region ?_
  refine al_q (q_move rfl) rfl rfl rfl ?_
  refine al_q (q_lenS rfl Try.runUnderlying30) rfl rfl rfl ?_
  refine al_q (q_move rfl) rfl rfl rfl ?_
  refine al_end ?_
  refine aq_then ?_
  refine ac_block ?_
  refine ac_loop (β := Nat) (fun x => x ≤ la) (fun x => [(0, (.slice A la ca)), (1, (.slice B lb cb)), (4, (.slice none 0 0)), (5, (.slice (some ⟨b1, 0, none⟩) (la) (la))), (11, (.int .i64 (la : Int))), (12, (.int .i64 (x : Int)))]) (fun _ => _) (fun x => [(b1, .cells (mixC la x (fun j => .int .i64 (iA za j - iA zb j)) (fun _ => .int .i64 0)))]) (fun x => la - x) 0 (by omega) ⟨rfl, rfl, rfl, rfl, rfl, rfl, trivial⟩ (fun w9 hs => (by rw [mixC_zero, ← rep_lst]; exact hs)) (fun x hF1 => ?_)
  refine ac_seq ?_
  refine ac_region ?_
  refine al_q (q_lss rfl rfl) rfl rfl rfl ?_
  refine al_end ?_
  refine aq_then ?_
  refine ac_seq ?_
  refine ac_cond rfl (fun h1 => ?_) (fun h1 => ?_)
  · have hxl : x < la := by have := of_decide_eq_true h1; omega
    obtain ⟨b11, o11, hA1, hlt1, hget1⟩ := i1.2 (by omega)
    obtain ⟨b21, o21, hA2, hlt2, hget2⟩ := i2.2 (by omega)
    have hx1 := iA_get (l := za) (k := x) (by rw [i1.1]; exact hxl)
    have hx2 := iA_get (l := zb) (k := x) (by rw [i2.1]; omega)
    have q1 := d1 _ (List.mem_of_getElem? hx1)
    have q2 := d2 _ (List.mem_of_getElem? hx2)
    refine ac_skip ?_
    refine aq_then ?_
    refine ac_seq ?_
    refine ac_block ?_
    refine ac_seq ?_
    refine ac_region ?_
    refine al_q (q_move rfl) rfl rfl rfl ?_
    refine al_q (q_assign rfl) rfl rfl rfl ?_
    refine al_end ?_
    refine aq_then ?_
    refine ac_draw 12 (by kernel_rfl) (by kernel_rfl) ?_
    refine ah_take 0 (fun w9 hs => hs) rfl rfl rfl (by kernel_rfl) (by kernel_rfl) (by kernel_rfl) (fun _ _ _ h => h) rfl (q_move rfl) ?_
    refine ah_take 1 (fun w9 hs => hs) rfl rfl rfl (by kernel_rfl) (by kernel_rfl) (by kernel_rfl) (fun _ _ _ h => h) rfl (q_move rfl) ?_
    refine ah_take 2 (fun w9 hs => hs) rfl rfl rfl (by kernel_rfl) (by kernel_rfl) (by kernel_rfl) (fun _ _ _ h => h) rfl (q_move rfl) ?_
    refine ah_take 3 (fun w9 hs => hs) rfl rfl rfl (by kernel_rfl) (by kernel_rfl) (by kernel_rfl) (fun _ _ _ h => h) rfl (q_move rfl) ?_
    refine ah_take 4 (fun w9 hs => hs) rfl rfl rfl (by kernel_rfl) (by kernel_rfl) (by kernel_rfl) (fun _ _ _ h => h) rfl (q_indexAddrA (i := x) (o11 + x * 1 + 0) hA1 rfl rfl rfl (by omega) Try.runUnderlying30 Try.sizeOf3 rfl) ?_
    refine ah_take 5 (fun w9 hs => hs) rfl rfl rfl (by kernel_rfl) (by kernel_rfl) (by kernel_rfl) (fun _ _ _ h => h) rfl (q_loadX rfl Try.isAgg3 (fun w9 hs => (hs.below.cell (p := ⟨_, _, none⟩) hlt1).trans ((hget1 x _ hx1) 0 _ rfl))) ?_
    refine ah_take 6 (fun w9 hs => hs) rfl rfl rfl (by kernel_rfl) (by kernel_rfl) (by kernel_rfl) (fun _ _ _ h => h) rfl (q_move rfl) ?_
    refine ah_take 7 (fun w9 hs => hs) rfl rfl rfl (by kernel_rfl) (by kernel_rfl) (by kernel_rfl) (fun _ _ _ h => h) rfl (q_move rfl) ?_
    refine ah_take 8 (fun w9 hs => hs) rfl rfl rfl (by kernel_rfl) (by kernel_rfl) (by kernel_rfl) (fun _ _ _ h => h) rfl (q_indexAddrA (i := x) (o21 + x * 1 + 0) hA2 rfl rfl rfl (by omega) Try.runUnderlying30 Try.sizeOf3 rfl) ?_
    refine ah_take 9 (fun w9 hs => hs) rfl rfl rfl (by kernel_rfl) (by kernel_rfl) (by kernel_rfl) (fun _ _ _ h => h) rfl (q_loadX rfl Try.isAgg3 (fun w9 hs => (hs.below.cell (p := ⟨_, _, none⟩) hlt2).trans ((hget2 x _ hx2) 0 _ rfl))) ?_
    refine ah_take 10 (fun w9 hs => hs) rfl rfl rfl (by kernel_rfl) (by kernel_rfl) (by kernel_rfl) (fun _ _ _ h => h) rfl (q_sub rfl rfl (by omega)) ?_
    refine ah_take 11 (fun w9 hs => hs) rfl rfl rfl (by kernel_rfl) (by kernel_rfl) (by kernel_rfl) (fun _ _ _ h => h) rfl (q_indexAddr (i := x) (x) rfl rfl rfl hxl Try.runUnderlying30 Try.sizeOf3 (by omega)) ?_
    refine ah_one 12 rfl (by kernel_rfl) (fun hok1 hcl1 => ?_)
    refine al_store1 (i := 0) rfl rfl rfl rfl Try.sizeOf3 (SetAt.ofSet (by rw [mixC_len]; exact hxl)) .k0 rfl ?_
    refine al_end (ah_last (by kernel_rfl) ?_)
    refine aq_inN ?_
    refine aq_then ?_
    refine ac_region ?_
    refine al_q (q_add rfl rfl (by omega)) rfl rfl rfl ?_
    refine al_q (q_move rfl) rfl rfl rfl ?_
    refine al_end ?_
    refine aq_then ?_
    skip
    refine aq_round (x + 1) (by omega) (by omega) ⟨rfl, rfl, rfl, rfl, rfl, rfl, trivial⟩ (fun w9 hs => (by have h9 := hs; rw [mixC_set la x _ _ hxl] at h9; exact h9))
  · have hxe : x = la := by have := of_decide_eq_false h1; omega
    refine ac_exit ?_
    refine aq_thenE ?_
    refine aq_thenE ?_
    refine aq_hit ?_
    refine aq_then ?_
    refine ac_seq ?_
    refine ac_region ?_
    refine al_q (q_move rfl) rfl rfl rfl ?_
    refine al_q (q_assign rfl) rfl rfl rfl ?_
    refine al_end ?_
    refine aq_then ?_
    refine ac_ret ?_
    refine ret1 Try.results21 rfl (fun w9 hs => ?_)
    rw [hxe, mixC_all] at hs
    exact ⟨some ⟨b1, 0, none⟩, la, rfl, by rw [subL, i1.1]; exact new_lst hs (i := 0) rfl hm, hs.below⟩

end Go.Proofs.Ytkhahbnagbjbiaa
end
section
/- Package circuit: applied, over this seat's translation (written by ax_ci2.py). -/
namespace Go.Proofs.Ytkhahbnagbjbiaa
set_option linter.unusedVariables false
set_option linter.unusedSimpArgs false
open Go.RowKit

set_option maxRecDepth 100000 in
theorem applied_any (R : MachR) (M : MachD) (RS : StR) (S : StD) (A : Option Addr) (len cap : Nat) (ch : List Int) (w : World) (hM : IsM w R M) (hS : IsS w RS S) (hF : FitS M S) (hI : IsT 1 intCells w A len ch) (hc : validCh M ch 1000000000000000 = true) : Calls Try.prog 99 #[(.agg (machCells R M)), (RS.v S.tick), (.slice A len cap)] w (fun e w' => ∃ A' c, e = .returned (.slice A' R.la c) ∧ NewT 1 intCells w.heap.size w' A' R.la c (appL M S ch) ∧ Below w.heap.size w w') := by
  have n1 := hM.coils.1
  have n2 := hS.cur.coils.1
  have n3 := hS.trip.1
  have n4 := hI.1
  have hv := validCh_iff.1 hc
  have n5 := (sound_of hF.cur.check).coils.1
  have n6 := hF.cur.coils.1
  have n7 := hF.trip
  refine calls_ax (vs := [(.agg (machCells R M)), (RS.v S.tick), (.slice A len cap)]) Try.func99 rfl rfl ?_
  refine ac_seq ?_
  refine ac_region ?_
  refine al_new (fun b => .pointer (some ⟨b, 0, none⟩)) (r_box rfl rfl) rfl rfl rfl ?_
  intro b1
  refine al_new (fun b => .pointer (some ⟨b, 0, none⟩)) (r_box rfl rfl) rfl rfl rfl ?_
  intro b2
  refine al_q (q_assign rfl) rfl rfl rfl ?_
  refine al_end ?_
  refine aq_then ?_
  refine ac_seq ?_
  refine ac_region ?_
  refine al_q (q_fieldAddr 1 rfl Try.runUnderlying29 rfl Try.sizeOf22 (by decide) rfl) rfl rfl rfl ?_
  refine al_q (q_load (i := 1) rfl rfl rfl Try.isAgg22) rfl rfl rfl ?_
  refine al_q (q_lenS rfl Try.runUnderlying22) rfl rfl rfl ?_
  refine al_makeInts (n := R.la) (z := (.int .i64 0)) (bytes := 8) rfl rfl rfl Try.underlying30 (by kernel_rfl) rfl (by omega) (by decide) rfl rfl ?_
  intro b3
  refine al_q (q_assign rfl) rfl rfl rfl ?_
  refine al_end ?_
  refine aq_then ?_
  refine ac_seq ?_
  refine ac_seq ?_
  refine ac_region ?_
  refine al_q (q_fieldAddr 1 rfl Try.runUnderlying29 rfl Try.sizeOf22 (by decide) rfl) rfl rfl rfl ?_
  refine al_q (q_load (i := 2) rfl rfl rfl Try.isAgg22) rfl rfl rfl ?_
  refine al_q (q_lenS rfl Try.runUnderlying22) rfl rfl rfl ?_
  refine al_q (q_move rfl) rfl rfl rfl ?_
  refine al_end ?_
  refine aq_then ?_
  refine ac_block ?_
  refine ac_loop (β := Nat) (fun x => x ≤ R.la) (fun x => [(2, (.slice A len cap)), (4, (.pointer (some ⟨b2, 0, none⟩))), (6, (.slice none 0 0)), (7, (.slice (some ⟨b3, 0, none⟩) (R.la) (R.la))), (17, (.slice (R.A) R.la R.ca)), (18, (.int .i64 (R.la : Int))), (19, (.int .i64 (x : Int)))]) (fun _ => _) (fun x => [(b3, .cells (mixC R.la x (fun j => .int .i64 (appA M S ch j)) (fun _ => .int .i64 0))), (b2, _), (b1, _)]) (fun x => R.la - x) 0 (by omega) ⟨rfl, rfl, rfl, rfl, rfl, rfl, rfl, trivial⟩ (fun w9 hs => (by rw [mixC_zero, ← rep_lst]; exact hs)) (fun x hF1 => ?_)
  refine ac_seq ?_
  refine ac_region ?_
  refine al_q (q_lss rfl rfl) rfl rfl rfl ?_
  refine al_end ?_
  refine aq_then ?_
  refine ac_seq ?_
  refine ac_cond rfl (fun h1 => ?_) (fun h1 => ?_)
  · have hxl : x < R.la := by have := of_decide_eq_true h1; omega
    obtain ⟨b11, o11, hA1, hlt1, hget1⟩ := hM.coils.2 (by omega)
    have hx1 := cA_get (M := M) (k := x) (by omega)
    obtain ⟨b21, o21, hA2, hlt2, hget2⟩ := hS.cur.coils.2 (by omega)
    have hx2 := iA_get (l := S.C.coils) (k := x) (by omega)
    obtain ⟨b31, o31, hA3, hlt3, hget3⟩ := hS.trip.2 (by omega)
    have hx3 := bA_get (l := S.trip) (k := x) (by omega)
    obtain ⟨b41, o41, hA4, hlt4, hget4⟩ := hI.2 (by omega)
    have hx4 := iA_get (l := ch) (k := x) (by omega)
    have hco := cA_ok hF.cur.check (k := x) (by omega)
    have q1 := hco.step
    have q2 := hco.cur
    have q3 := hF.cur.coils.2 _ (List.mem_of_getElem? hx2)
    have q4 := hv.2 _ (List.mem_of_getElem? hx4)
    have q5 := cutI_bd (n := (iA ch x)) (most := (cA M x).step) (by omega)
    have q6 := cutI_bd (n := ((iA S.C.coils x) + cutI (iA ch x) (cA M x).step)) (most := (cA M x).cur) (by omega)
    refine ac_skip ?_
    refine aq_then ?_
    refine ac_seq ?_
    refine ac_block ?_
    refine ac_seq ?_
    refine ac_region ?_
    refine al_q (q_move rfl) rfl rfl rfl ?_
    refine al_q (q_indexAddrA (i := x) (o11 + x * 8 + 0) hA1 rfl rfl rfl (by omega) Try.runUnderlying22 Try.sizeOf47 rfl) rfl rfl rfl ?_
    refine al_q (q_loadXs (CoilD.cells (cA M x)) rfl Try.isAgg47 Try.sizeOf47 (fun w9 hs j9 v9 h9 => by rw [addr_add]; exact (hs.below.cell (p := ⟨_, _, none⟩) hlt1).trans ((hget1 x _ hx1) j9 v9 h9)) rfl) rfl rfl rfl ?_
    refine al_new (fun b => .pointer (some ⟨b, 0, none⟩)) (r_alloc Try.zeroValue47 rfl) rfl rfl rfl ?_
    intro b4
    refine al_q (q_assign rfl) rfl rfl rfl ?_
    refine al_storeAll (i := 0) rfl rfl rfl rfl Try.sizeOf47 rfl rfl .k0 rfl ?_
    refine al_end ?_
    refine aq_then ?_
    refine ac_seq ?_
    refine ac_region ?_
    refine al_q (q_fieldAddr 1 rfl Try.runUnderlying35 rfl Try.sizeOf32 (by decide) rfl) rfl rfl rfl ?_
    refine al_q (q_fieldAddr 1 rfl Try.runUnderlying32 rfl Try.sizeOf30 (by decide) rfl) rfl rfl rfl ?_
    refine al_q (q_load (i := 2) rfl rfl rfl Try.isAgg30) rfl rfl rfl ?_
    refine al_q (q_move rfl) rfl rfl rfl ?_
    refine al_q (q_indexAddrA (i := x) (o21 + x * 1 + 0) hA2 rfl rfl rfl (by omega) Try.runUnderlying30 Try.sizeOf3 rfl) rfl rfl rfl ?_
    refine al_q (q_loadX rfl Try.isAgg3 (fun w9 hs => (hs.below.cell (p := ⟨_, _, none⟩) hlt2).trans ((hget2 x _ hx2) 0 _ rfl))) rfl rfl rfl ?_
    refine al_q (q_assign rfl) rfl rfl rfl ?_
    refine al_end ?_
    refine aq_then ?_
    refine ac_seq ?_
    refine ac_seq ?_
    refine ac_region ?_
    refine al_q (q_fieldAddr 5 rfl Try.runUnderlying35 rfl Try.sizeOf33 (by decide) rfl) rfl rfl rfl ?_
    refine al_q (q_load (i := 2) rfl rfl rfl Try.isAgg33) rfl rfl rfl ?_
    refine al_q (q_move rfl) rfl rfl rfl ?_
    refine al_q (q_indexAddrA (i := x) (o31 + x * 1 + 0) hA3 rfl rfl rfl (by omega) Try.runUnderlying33 Try.sizeOf4 rfl) rfl rfl rfl ?_
    refine al_q (q_loadX rfl Try.isAgg4 (fun w9 hs => (hs.below.cell (p := ⟨_, _, none⟩) hlt3).trans ((hget3 x _ hx3) 0 _ rfl))) rfl rfl rfl ?_
    refine al_end ?_
    refine aq_then ?_
    refine ac_cond rfl (fun h2 => ?_) (fun h2 => ?_)
    · have hval : cutI (-(iA S.C.coils x)) (cA M x).step = appA M S ch x := by simp [appA, appI, show bA S.trip x = true from h2]
      refine ac_seq ?_
      refine ac_region ?_
      refine al_q (q_move rfl) rfl rfl rfl ?_
      refine al_q (q_move rfl) rfl rfl rfl ?_
      refine al_q (q_move rfl) rfl rfl rfl ?_
      refine al_q (q_neg rfl (by omega)) rfl rfl rfl ?_
      refine al_q (q_fieldAddr 5 rfl Try.runUnderlying47 rfl Try.sizeOf3 (by decide) rfl) rfl rfl rfl ?_
      refine al_q (q_load (i := 0) rfl rfl rfl Try.isAgg3) rfl rfl rfl ?_
      refine al_call Try.call100 (.cons rfl (.cons rfl .nil)) rfl rfl (fun w1 hs1 => ?_)
      refine (ccut_any (-(iA S.C.coils x)) (cA M x).step _ (by omega)).mono ?_
      rintro e u1 ⟨rfl, hb_1⟩
      refine ⟨_, rfl, hb_1, ?_⟩
      clear hs1
      refine al_q (q_indexAddr (i := x) (x) rfl rfl rfl hxl Try.runUnderlying30 Try.sizeOf3 (by omega)) rfl rfl rfl ?_
      refine al_store1 (i := 1) rfl rfl rfl rfl Try.sizeOf3 (SetAt.ofSet (by rw [mixC_len]; exact hxl)) .k1 rfl ?_
      refine al_end ?_
      refine aq_then ?_
      refine ac_exit ?_
      refine aq_thenE ?_
      refine aq_hit ?_
      refine aq_then ?_
      refine ac_region ?_
      refine al_q (q_add rfl rfl (by omega)) rfl rfl rfl ?_
      refine al_q (q_move rfl) rfl rfl rfl ?_
      refine al_end ?_
      refine aq_then ?_
      skip
      refine aq_round (x + 1) (by omega) (by omega) ⟨rfl, rfl, rfl, rfl, rfl, rfl, rfl, trivial⟩ (fun w9 hs => (by have h9 := ((hs.fewer 1 rfl).tail 1 rfl); rw [hval, mixC_set R.la x _ _ hxl] at h9; exact h9))
    · have hval : cutI (cutI ((iA S.C.coils x) + cutI (iA ch x) (cA M x).step) (cA M x).cur - (iA S.C.coils x)) (cA M x).step = appA M S ch x := by simp [appA, appI, show bA S.trip x = false from h2]
      refine ac_skip ?_
      refine aq_then ?_
      refine ac_seq ?_
      refine ac_draw 12 (by kernel_rfl) (by kernel_rfl) ?_
      refine ah_take 0 (fun w9 hs => hs) rfl rfl rfl (by kernel_rfl) (by kernel_rfl) (by kernel_rfl) (fun _ _ _ h => h) rfl (q_move rfl) ?_
      refine ah_take 1 (fun w9 hs => hs) rfl rfl rfl (by kernel_rfl) (by kernel_rfl) (by kernel_rfl) (fun _ _ _ h => h) rfl (q_move rfl) ?_
      refine ah_take 2 (fun w9 hs => hs) rfl rfl rfl (by kernel_rfl) (by kernel_rfl) (by kernel_rfl) (fun _ _ _ h => h) rfl (q_move rfl) ?_
      refine ah_take 3 (fun w9 hs => hs) rfl rfl rfl (by kernel_rfl) (by kernel_rfl) (by kernel_rfl) (fun _ _ _ h => h) rfl (q_indexAddrA (i := x) (o41 + x * 1 + 0) hA4 rfl rfl rfl (by omega) Try.runUnderlying30 Try.sizeOf3 rfl) ?_
      refine ah_take 4 (fun w9 hs => hs) rfl rfl rfl (by kernel_rfl) (by kernel_rfl) (by kernel_rfl) (fun _ _ _ h => h) rfl (q_loadX rfl Try.isAgg3 (fun w9 hs => (hs.below.cell (p := ⟨_, _, none⟩) hlt4).trans ((hget4 x _ hx4) 0 _ rfl))) ?_
      refine ah_take 5 (fun w9 hs => hs) rfl rfl rfl (by kernel_rfl) (by kernel_rfl) (by kernel_rfl) (fun _ _ _ h => h) rfl (q_fieldAddr 5 rfl Try.runUnderlying47 rfl Try.sizeOf3 (by decide) rfl) ?_
      refine ah_take 6 (fun w9 hs => hs) rfl rfl rfl (by kernel_rfl) (by kernel_rfl) (by kernel_rfl) (fun _ _ _ h => h) rfl (q_load (i := 0) rfl rfl rfl Try.isAgg3) ?_
      refine ah_take 9 (fun w9 hs => hs) rfl rfl rfl (by kernel_rfl) (by kernel_rfl) (by kernel_rfl) (fun _ _ _ h => h) rfl (q_fieldAddr 4 rfl Try.runUnderlying47 rfl Try.sizeOf3 (by decide) rfl) ?_
      refine ah_take 10 (fun w9 hs => hs) rfl rfl rfl (by kernel_rfl) (by kernel_rfl) (by kernel_rfl) (fun _ _ _ h => h) rfl (q_load (i := 0) rfl rfl rfl Try.isAgg3) ?_
      refine ah_one 7 rfl (by kernel_rfl) (fun hok1 hcl1 => ?_)
      refine al_call Try.call100 (.cons rfl (.cons rfl .nil)) rfl rfl (fun w2 hs2 => ?_)
      refine (ccut_any (iA ch x) (cA M x).step _ (by omega)).mono ?_
      rintro e u2 ⟨rfl, hb_2⟩
      refine ⟨_, rfl, hb_2, ?_⟩
      clear hs2
      refine al_end (ah_back hok1 hcl1 (fun w9 hs => (hs.fewer 1 rfl)) ?_)
      refine ah_take 8 (fun w9 hs => (hs.fewer 1 rfl)) rfl rfl rfl (by kernel_rfl) (by kernel_rfl) (by kernel_rfl) (fun _ _ _ h => h) rfl (q_add rfl rfl (by omega)) ?_
      refine ah_one 11 rfl (by kernel_rfl) (fun hok2 hcl2 => ?_)
      refine al_call Try.call100 (.cons rfl (.cons rfl .nil)) rfl rfl (fun w3 hs3 => ?_)
      refine (ccut_any ((iA S.C.coils x) + cutI (iA ch x) (cA M x).step) (cA M x).cur _ (by omega)).mono ?_
      rintro e u3 ⟨rfl, hb_3⟩
      refine ⟨_, rfl, hb_3, ?_⟩
      clear hs3
      refine al_end (ah_back hok2 hcl2 (fun w9 hs => (hs.fewer 2 rfl)) ?_)
      refine ah_one 12 rfl (by kernel_rfl) (fun hok3 hcl3 => ?_)
      refine al_q (q_assign rfl) rfl rfl rfl ?_
      refine al_end (ah_last (by kernel_rfl) ?_)
      refine aq_then ?_
      refine ac_region ?_
      refine al_q (q_move rfl) rfl rfl rfl ?_
      refine al_q (q_move rfl) rfl rfl rfl ?_
      refine al_q (q_move rfl) rfl rfl rfl ?_
      refine al_q (q_move rfl) rfl rfl rfl ?_
      refine al_q (q_sub rfl rfl (by omega)) rfl rfl rfl ?_
      refine al_q (q_fieldAddr 5 rfl Try.runUnderlying47 rfl Try.sizeOf3 (by decide) rfl) rfl rfl rfl ?_
      refine al_q (q_load (i := 0) rfl rfl rfl Try.isAgg3) rfl rfl rfl ?_
      refine al_call Try.call100 (.cons rfl (.cons rfl .nil)) rfl rfl (fun w4 hs4 => ?_)
      refine (ccut_any (cutI ((iA S.C.coils x) + cutI (iA ch x) (cA M x).step) (cA M x).cur - (iA S.C.coils x)) (cA M x).step _ (by omega)).mono ?_
      rintro e u4 ⟨rfl, hb_4⟩
      refine ⟨_, rfl, hb_4, ?_⟩
      clear hs4
      refine al_q (q_indexAddr (i := x) (x) rfl rfl rfl hxl Try.runUnderlying30 Try.sizeOf3 (by omega)) rfl rfl rfl ?_
      refine al_store1 (i := 1) rfl rfl rfl rfl Try.sizeOf3 (SetAt.ofSet (by rw [mixC_len]; exact hxl)) .k1 rfl ?_
      refine al_end ?_
      refine aq_inN ?_
      refine aq_then ?_
      refine ac_region ?_
      refine al_q (q_add rfl rfl (by omega)) rfl rfl rfl ?_
      refine al_q (q_move rfl) rfl rfl rfl ?_
      refine al_end ?_
      refine aq_then ?_
      skip
      refine aq_round (x + 1) (by omega) (by omega) ⟨rfl, rfl, rfl, rfl, rfl, rfl, rfl, trivial⟩ (fun w9 hs => (by have h9 := ((hs.fewer 3 rfl).tail 1 rfl); rw [hval, mixC_set R.la x _ _ hxl] at h9; exact h9))
  · have hxe : x = R.la := by have := of_decide_eq_false h1; omega
    refine ac_exit ?_
    refine aq_thenE ?_
    refine aq_thenE ?_
    refine aq_hit ?_
    refine aq_then ?_
    refine ac_seq ?_
    refine ac_region ?_
    refine al_q (q_move rfl) rfl rfl rfl ?_
    refine al_q (q_assign rfl) rfl rfl rfl ?_
    refine al_end ?_
    refine aq_then ?_
    refine ac_ret ?_
    refine ret1 Try.results99 rfl (fun w9 hs => ?_)
    rw [hxe, mixC_all] at hs
    exact ⟨some ⟨b3, 0, none⟩, R.la, rfl, by rw [appL, n1]; exact new_lst hs (i := 0) rfl (by omega), hs.below⟩

end Go.Proofs.Ytkhahbnagbjbiaa
end
