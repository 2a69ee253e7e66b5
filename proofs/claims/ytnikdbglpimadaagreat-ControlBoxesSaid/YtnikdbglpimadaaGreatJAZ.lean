import Derived.Test.YtnikdbglpimadaaGreatJAG
import Derived.Test.YtnikdbglpimadaaGreatJAV
import Derived.Test.YtnikdbglpimadaaGreatJAW
import Derived.Test.YtnikdbglpimadaaGreatJAY
import Derived.Test.YtnikdbglpimadaaGreatRows
import Derived.KernelRfl
import Derived.Laws.StructEq
import Derived.Handy
section
/- Package circuit: what is valid, over this seat's translation (written by ax_ci1.py). -/
namespace Go.Proofs.YtnikdbglpimadaaGreat
set_option linter.unusedVariables false
set_option linter.unusedSimpArgs false
open Go.RowKit

set_option maxRecDepth 100000 in
theorem cwithin_any (n a b : Int) (w : World) : Calls Tryz.prog 63 #[(.int .i64 n), (.int .i64 a), (.int .i64 b)] w (Ret (.bool (wthn n a b)) w) := by
  refine calls_ax (vs := [(.int .i64 n), (.int .i64 a), (.int .i64 b)]) Tryz.func63 rfl rfl ?_
  refine ac_seq ?_
  refine ac_region ?_
  refine al_q (q_assign rfl) rfl rfl rfl ?_
  refine al_end ?_
  refine aq_then ?_
  refine ac_seq ?_
  refine ac_region ?_
  refine al_q (q_move rfl) rfl rfl rfl ?_
  refine al_q (q_move rfl) rfl rfl rfl ?_
  refine al_q (q_leq rfl rfl) rfl rfl rfl ?_
  refine al_q (q_move rfl) rfl rfl rfl ?_
  refine aq_split 10 rfl (fun hb1 => ?_) (fun hb1 => ?_)
  · refine al_q (q_move rfl) rfl rfl rfl ?_
    refine al_q (q_move rfl) rfl rfl rfl ?_
    refine al_q (q_leq rfl rfl) rfl rfl rfl ?_
    refine al_q (q_pickT rfl rfl) rfl rfl rfl ?_
    refine al_q (q_assign rfl) rfl rfl rfl ?_
    refine al_end ?_
    refine aq_then ?_
    refine ac_ret ?_
    refine ret1 Tryz.results63 rfl (fun w9 hs => ?_)
    exact ⟨by first | (simp_all [wthn]; done) | (simp_all [wthn]; omega), hs.below⟩
  · refine al_skip rfl rfl rfl ?_
    refine al_skip rfl rfl rfl ?_
    refine al_skip rfl rfl rfl ?_
    refine al_q (q_pickF rfl rfl) rfl rfl rfl ?_
    refine al_q (q_assign rfl) rfl rfl rfl ?_
    refine al_end ?_
    refine aq_then ?_
    refine ac_ret ?_
    refine ret1 Tryz.results63 rfl (fun w9 hs => ?_)
    exact ⟨by first | (simp_all [wthn]; done) | (simp_all [wthn]; omega), hs.below⟩

set_option maxRecDepth 100000 in
theorem validList1_any (x a b : Int) (b6 b7 : Nat) (w : World) (h6 : w.cell? ⟨b6, 0, none⟩ = some (.int .i64 a)) (h7 : w.cell? ⟨b7, 0, none⟩ = some (.int .i64 b)) (k6 : b6 < w.heap.size) (k7 : b7 < w.heap.size) : Calls Tryz.prog 110 #[(.int .i64 x), (.pointer (some ⟨b6, 0 + 0, none⟩)), (.pointer (some ⟨b7, 0 + 0, none⟩))] w (Ret (.bool (!wthn x a b)) w) := by
  refine calls_ax (vs := [(.int .i64 x), (.pointer (some ⟨b6, 0 + 0, none⟩)), (.pointer (some ⟨b7, 0 + 0, none⟩))]) Tryz.func110 rfl rfl ?_
  refine ac_seq ?_
  refine ac_region ?_
  refine al_q (q_assign rfl) rfl rfl rfl ?_
  refine al_end ?_
  refine aq_then ?_
  refine ac_seq ?_
  refine ac_region ?_
  refine al_q (q_move rfl) rfl rfl rfl ?_
  refine al_q (q_loadX rfl Tryz.isAgg3 (fun w9 hs => (hs.below.cell (p := ⟨_, _, none⟩) k6).trans ((one_fact h6) 0 _ rfl))) rfl rfl rfl ?_
  refine al_q (q_loadX rfl Tryz.isAgg3 (fun w9 hs => (hs.below.cell (p := ⟨_, _, none⟩) k7).trans ((one_fact h7) 0 _ rfl))) rfl rfl rfl ?_
  refine al_call Tryz.call63 (.cons rfl (.cons rfl (.cons rfl .nil))) rfl rfl (fun w1 hs1 => ?_)
  refine (cwithin_any x a b _).mono ?_
  rintro e u1 ⟨rfl, hb_1⟩
  refine ⟨_, rfl, hb_1, ?_⟩
  clear hs1
  refine al_q (q_not rfl) rfl rfl rfl ?_
  refine al_q (q_assign rfl) rfl rfl rfl ?_
  refine al_end ?_
  refine aq_then ?_
  refine ac_ret ?_
  refine ret1 Tryz.results110 rfl (fun w9 hs => ?_)
  exact ⟨rfl, hs.below⟩

set_option maxRecDepth 100000 in
theorem validList_any (A : Option Addr) (len cap : Nat) (zs : List Int) (n : Nat) (a b : Int) (w : World) (hI : IsT 1 intCells w A len zs) (hl : n ≤ 1000000000000000) : Calls Tryz.prog 64 #[(.slice A len cap), (.int .i64 (n : Int)), (.int .i64 a), (.int .i64 b)] w (Ret (.bool (decide (zs.length = n) && allW zs a b)) w) := by
  refine calls_ax (vs := [(.slice A len cap), (.int .i64 (n : Int)), (.int .i64 a), (.int .i64 b)]) Tryz.func64 rfl rfl ?_
  refine ac_seq ?_
  refine ac_region ?_
  refine al_new (fun b => .pointer (some ⟨b, 0, none⟩)) (r_box rfl rfl) rfl rfl rfl ?_
  intro b1
  refine al_new (fun b => .pointer (some ⟨b, 0, none⟩)) (r_box rfl rfl) rfl rfl rfl ?_
  intro b2
  refine al_q (q_assign rfl) rfl rfl rfl ?_
  refine al_end ?_
  refine aq_then ?_
  refine ac_seq ?_
  refine ac_region ?_
  refine al_q (q_move rfl) rfl rfl rfl ?_
  refine al_q (q_lenS rfl Tryz.runUnderlying30) rfl rfl rfl ?_
  refine al_q (q_move rfl) rfl rfl rfl ?_
  refine al_q (q_eql rfl rfl) rfl rfl rfl ?_
  refine al_q (q_move rfl) rfl rfl rfl ?_
  refine aq_split 13 rfl (fun hb1 => ?_) (fun hb1 => ?_)
  · have hn : len = n := by have := of_decide_eq_true hb1; omega
    refine al_q (q_move rfl) rfl rfl rfl ?_
    refine al_q (q_makeFunc _ _ .nil (.cons rfl (.cons rfl .nil))) rfl rfl rfl ?_
    refine al_call Tryz.call66 (.cons rfl (.cons rfl .nil)) rfl rfl (fun w1 hs1 => ?_)
    refine (containsint2 110 b1 b2 (fun x => !wthn x a b) A len cap zs _ (hI.below hs1.below) (by omega) Tryz.call110 (fun x W9 _ hB => validList1_any x a b b1 b2 W9 ((hB.cell (p := ⟨b1, 0, none⟩) (hs1.at 1 rfl).lt).trans (hs1.cell (i := 1) rfl (k := 0) rfl)) ((hB.cell (p := ⟨b2, 0, none⟩) (hs1.at 0 rfl).lt).trans (hs1.cell (i := 0) rfl (k := 0) rfl)) (Nat.lt_of_lt_of_le (hs1.at 1 rfl).lt hB.size) (Nat.lt_of_lt_of_le (hs1.at 0 rfl).lt hB.size))).mono ?_
    rintro e u1 ⟨rfl, hb_1⟩
    refine ⟨_, rfl, hb_1, ?_⟩
    clear hs1
    refine al_q (q_not rfl) rfl rfl rfl ?_
    refine al_q (q_pickT rfl rfl) rfl rfl rfl ?_
    refine al_q (q_assign rfl) rfl rfl rfl ?_
    refine al_end ?_
    refine aq_then ?_
    refine ac_ret ?_
    refine ret1 Tryz.results64 rfl (fun w9 hs => ?_)
    exact ⟨by rw [← not_any_allW, hI.1, decide_eq_true hn]; rfl, hs.below⟩
  · have hn : len ≠ n := by have := of_decide_eq_false hb1; omega
    refine al_skip rfl rfl rfl ?_
    refine al_skip rfl rfl rfl ?_
    refine al_skip rfl rfl rfl ?_
    refine al_skip rfl rfl rfl ?_
    refine al_q (q_pickF rfl rfl) rfl rfl rfl ?_
    refine al_q (q_assign rfl) rfl rfl rfl ?_
    refine al_end ?_
    refine aq_then ?_
    refine ac_ret ?_
    refine ret1 Tryz.results64 rfl (fun w9 hs => ?_)
    exact ⟨by rw [hI.1, decide_eq_false hn]; rfl, hs.below⟩

set_option maxRecDepth 100000 in
theorem validChange_any (R : MachR) (M : MachD) (A : Option Addr) (len cap : Nat) (zs : List Int) (w : World) (hM : IsM w R M) (hI : IsT 1 intCells w A len zs) : Calls Tryz.prog 38 #[(.agg (machCells R M)), (.slice A len cap)] w (Ret (.bool (validCh M zs 1000000000000000)) w) := by
  refine calls_ax (vs := [(.agg (machCells R M)), (.slice A len cap)]) Tryz.func38 rfl rfl ?_
  refine ac_seq ?_
  refine ac_region ?_
  refine al_new (fun b => .pointer (some ⟨b, 0, none⟩)) (r_box rfl rfl) rfl rfl rfl ?_
  intro b1
  refine al_q (q_assign rfl) rfl rfl rfl ?_
  refine al_end ?_
  refine aq_then ?_
  refine ac_seq ?_
  refine ac_region ?_
  refine al_q (q_move rfl) rfl rfl rfl ?_
  refine al_q (q_fieldAddr 1 rfl Tryz.runUnderlying29 rfl Tryz.sizeOf22 (by decide) rfl) rfl rfl rfl ?_
  refine al_q (q_load (i := 0) rfl rfl rfl Tryz.isAgg22) rfl rfl rfl ?_
  refine al_q (q_lenS rfl Tryz.runUnderlying22) rfl rfl rfl ?_
  refine al_call Tryz.call64 (.cons rfl (.cons rfl (.cons rfl (.cons rfl .nil)))) rfl rfl (fun w1 hs1 => ?_)
  refine (validList_any A len cap zs R.la (-1000000000000000) 1000000000000000 _ (hI.below hs1.below) hM.ka).mono ?_
  rintro e u1 ⟨rfl, hb_1⟩
  refine ⟨_, rfl, hb_1, ?_⟩
  clear hs1
  refine al_q (q_assign rfl) rfl rfl rfl ?_
  refine al_end ?_
  refine aq_then ?_
  refine ac_ret ?_
  refine ret1 Tryz.results38 rfl (fun w9 hs => ?_)
  exact ⟨by rw [validCh, hM.coils.1], hs.below⟩

set_option maxRecDepth 100000 in
theorem validState_any (R : MachR) (M : MachD) (RS : StR) (S : StD) (w : World) (hM : IsM w R M) (hS : IsS w RS S) : Calls Tryz.prog 31 #[(.agg (machCells R M)), (RS.v S.tick)] w (Ret (.bool (validS M S)) w) := by
  refine calls_ax (vs := [(.agg (machCells R M)), (RS.v S.tick)]) Tryz.func31 rfl rfl ?_
  refine ac_seq ?_
  refine ac_region ?_
  refine al_new (fun b => .pointer (some ⟨b, 0, none⟩)) (r_box rfl rfl) rfl rfl rfl ?_
  intro b1
  refine al_new (fun b => .pointer (some ⟨b, 0, none⟩)) (r_box rfl rfl) rfl rfl rfl ?_
  intro b2
  refine al_q (q_assign rfl) rfl rfl rfl ?_
  refine al_end ?_
  refine aq_then ?_
  refine ac_seq ?_
  refine ac_region ?_
  refine al_q (q_loadAll (i := 1) rfl rfl Tryz.isAgg29 Tryz.sizeOf29 rfl) rfl rfl rfl ?_
  refine al_q (q_fieldAddr 1 rfl Tryz.runUnderlying35 rfl Tryz.sizeOf32 (by decide) rfl) rfl rfl rfl ?_
  refine al_q (q_loadSub (i := 0) rfl rfl Tryz.isAgg32 Tryz.sizeOf32 .k1 .k3) rfl rfl rfl ?_
  refine al_call Tryz.call46 (.cons rfl (.cons rfl .nil)) rfl rfl (fun w1 hs1 => ?_)
  refine (validCurrents_any R M RS.Q S.C _ (hM.below hs1.below) (hS.cur.below hs1.below)).mono ?_
  rintro e u1 ⟨rfl, hb_1⟩
  refine ⟨_, rfl, hb_1, ?_⟩
  clear hs1
  refine al_q (q_move rfl) rfl rfl rfl ?_
  refine aq_split 9 rfl (fun hb1 => ?_) (fun hb1 => ?_)
  · refine al_q (q_fieldAddr 0 rfl Tryz.runUnderlying35 rfl Tryz.sizeOf3 (by decide) rfl) rfl rfl rfl ?_
    refine al_q (q_load (i := 0) rfl rfl rfl Tryz.isAgg3) rfl rfl rfl ?_
    refine al_call Tryz.call63 (.cons rfl (.cons rfl (.cons rfl .nil))) rfl rfl (fun w2 hs2 => ?_)
    refine (cwithin_any S.tick 0 1000000000 _).mono ?_
    rintro e u2 ⟨rfl, hb_2⟩
    refine ⟨_, rfl, hb_2, ?_⟩
    clear hs2
    refine al_q (q_pickT rfl rfl) rfl rfl rfl ?_
    refine al_q (q_move rfl) rfl rfl rfl ?_
    refine aq_split 14 rfl (fun hb2 => ?_) (fun hb2 => ?_)
    · refine al_q (q_fieldAddr 4 rfl Tryz.runUnderlying35 rfl Tryz.sizeOf30 (by decide) rfl) rfl rfl rfl ?_
      refine al_q (q_load (i := 0) rfl rfl rfl Tryz.isAgg30) rfl rfl rfl ?_
      refine al_q (q_fieldAddr 1 rfl Tryz.runUnderlying29 rfl Tryz.sizeOf22 (by decide) rfl) rfl rfl rfl ?_
      refine al_q (q_load (i := 1) rfl rfl rfl Tryz.isAgg22) rfl rfl rfl ?_
      refine al_q (q_lenS rfl Tryz.runUnderlying22) rfl rfl rfl ?_
      refine al_call Tryz.call64 (.cons rfl (.cons rfl (.cons rfl (.cons rfl .nil)))) rfl rfl (fun w3 hs3 => ?_)
      refine (validList_any RS.H RS.lh RS.ch S.heat R.la 0 1000000000000000 _ (hS.heat.below hs3.below) hM.ka).mono ?_
      rintro e u3 ⟨rfl, hb_3⟩
      refine ⟨_, rfl, hb_3, ?_⟩
      clear hs3
      refine al_q (q_pickT rfl rfl) rfl rfl rfl ?_
      refine al_q (q_move rfl) rfl rfl rfl ?_
      refine aq_split 22 rfl (fun hb3 => ?_) (fun hb3 => ?_)
      · refine al_q (q_fieldAddr 5 rfl Tryz.runUnderlying35 rfl Tryz.sizeOf33 (by decide) rfl) rfl rfl rfl ?_
        refine al_q (q_load (i := 0) rfl rfl rfl Tryz.isAgg33) rfl rfl rfl ?_
        refine al_q (q_lenS rfl Tryz.runUnderlying33) rfl rfl rfl ?_
        refine al_q (q_fieldAddr 1 rfl Tryz.runUnderlying29 rfl Tryz.sizeOf22 (by decide) rfl) rfl rfl rfl ?_
        refine al_q (q_load (i := 1) rfl rfl rfl Tryz.isAgg22) rfl rfl rfl ?_
        refine al_q (q_lenS rfl Tryz.runUnderlying22) rfl rfl rfl ?_
        refine al_q (q_eql rfl rfl) rfl rfl rfl ?_
        refine al_q (q_pickT rfl rfl) rfl rfl rfl ?_
        refine al_q (q_assign rfl) rfl rfl rfl ?_
        refine al_end ?_
        refine aq_then ?_
        refine ac_ret ?_
        refine ret1 Tryz.results31 rfl (fun w9 hs => ?_)
        refine ⟨?_, hs.below⟩
        unfold validS
        rw [← hM.coils.1] at *
        first | (simp_all [hS.trip.1]; done) | (simp_all [hS.trip.1]; rw [Bool.eq_iff_iff]; simp only [beq_iff_eq, decide_eq_true_eq]; omega)
      · refine al_skip rfl rfl rfl ?_
        refine al_skip rfl rfl rfl ?_
        refine al_skip rfl rfl rfl ?_
        refine al_skip rfl rfl rfl ?_
        refine al_skip rfl rfl rfl ?_
        refine al_skip rfl rfl rfl ?_
        refine al_skip rfl rfl rfl ?_
        refine al_q (q_pickF rfl rfl) rfl rfl rfl ?_
        refine al_q (q_assign rfl) rfl rfl rfl ?_
        refine al_end ?_
        refine aq_then ?_
        refine ac_ret ?_
        refine ret1 Tryz.results31 rfl (fun w9 hs => ?_)
        refine ⟨?_, hs.below⟩
        unfold validS
        rw [← hM.coils.1] at *
        first | (simp_all [hS.trip.1]; done) | (simp_all [hS.trip.1]; rw [Bool.eq_iff_iff]; simp only [beq_iff_eq, decide_eq_true_eq]; omega)
    · refine al_skip rfl rfl rfl ?_
      refine al_skip rfl rfl rfl ?_
      refine al_skip rfl rfl rfl ?_
      refine al_skip rfl rfl rfl ?_
      refine al_skip rfl rfl rfl ?_
      refine al_skip rfl rfl rfl ?_
      refine al_q (q_pickF rfl rfl) rfl rfl rfl ?_
      refine al_q (q_move rfl) rfl rfl rfl ?_
      refine al_skip rfl rfl rfl ?_
      refine al_skip rfl rfl rfl ?_
      refine al_skip rfl rfl rfl ?_
      refine al_skip rfl rfl rfl ?_
      refine al_skip rfl rfl rfl ?_
      refine al_skip rfl rfl rfl ?_
      refine al_skip rfl rfl rfl ?_
      refine al_q (q_pickF rfl rfl) rfl rfl rfl ?_
      refine al_q (q_assign rfl) rfl rfl rfl ?_
      refine al_end ?_
      refine aq_then ?_
      refine ac_ret ?_
      refine ret1 Tryz.results31 rfl (fun w9 hs => ?_)
      refine ⟨?_, hs.below⟩
      unfold validS
      rw [← hM.coils.1] at *
      first | (simp_all [hS.trip.1]; done) | (simp_all [hS.trip.1]; rw [Bool.eq_iff_iff]; simp only [beq_iff_eq, decide_eq_true_eq]; omega)
  · refine al_skip rfl rfl rfl ?_
    refine al_skip rfl rfl rfl ?_
    refine al_skip rfl rfl rfl ?_
    refine al_q (q_pickF rfl rfl) rfl rfl rfl ?_
    refine al_q (q_move rfl) rfl rfl rfl ?_
    refine al_skip rfl rfl rfl ?_
    refine al_skip rfl rfl rfl ?_
    refine al_skip rfl rfl rfl ?_
    refine al_skip rfl rfl rfl ?_
    refine al_skip rfl rfl rfl ?_
    refine al_skip rfl rfl rfl ?_
    refine al_q (q_pickF rfl rfl) rfl rfl rfl ?_
    refine al_q (q_move rfl) rfl rfl rfl ?_
    refine al_skip rfl rfl rfl ?_
    refine al_skip rfl rfl rfl ?_
    refine al_skip rfl rfl rfl ?_
    refine al_skip rfl rfl rfl ?_
    refine al_skip rfl rfl rfl ?_
    refine al_skip rfl rfl rfl ?_
    refine al_skip rfl rfl rfl ?_
    refine al_q (q_pickF rfl rfl) rfl rfl rfl ?_
    refine al_q (q_assign rfl) rfl rfl rfl ?_
    refine al_end ?_
    refine aq_then ?_
    refine ac_ret ?_
    refine ret1 Tryz.results31 rfl (fun w9 hs => ?_)
    refine ⟨?_, hs.below⟩
    unfold validS
    rw [← hM.coils.1] at *
    first | (simp_all [hS.trip.1]; done) | (simp_all [hS.trip.1]; rw [Bool.eq_iff_iff]; simp only [beq_iff_eq, decide_eq_true_eq]; omega)

end Go.Proofs.YtnikdbglpimadaaGreat
end
section
/- Package machine: Linked, CellAt, over this seat's translation (written by ax_mh.py). -/
namespace Go.Proofs.YtnikdbglpimadaaGreat
set_option linter.unusedVariables false
set_option linter.unusedSimpArgs false
open Go.RowKit

end Go.Proofs.YtnikdbglpimadaaGreat
end
section
/- Package circuit: what is valid (sources, drives), cut, lost, differences, applied, over this seat's translation (written by ax_ci1.py). -/
namespace Go.Proofs.YtnikdbglpimadaaGreat
set_option linter.unusedVariables false
set_option linter.unusedSimpArgs false
open Go.RowKit

set_option maxRecDepth 100000 in
theorem ccut_any (n m : Int) (w : World) (hn : -9223372036854775807 ≤ m ∧ m ≤ 9223372036854775807) : Calls Tryz.prog 69 #[(.int .i64 n), (.int .i64 m)] w (Ret (.int .i64 (cutI n m)) w) := by
  refine calls_ax (vs := [(.int .i64 n), (.int .i64 m)]) Tryz.func69 rfl rfl ?_
  refine ac_seq ?_
  refine ac_region ?_
  refine al_q (q_assign rfl) rfl rfl rfl ?_
  refine al_end ?_
  refine aq_then ?_
  refine ac_seq ?_
  refine ac_region ?_
  refine al_q (q_move rfl) rfl rfl rfl ?_
  refine al_q (q_neg rfl (by omega)) rfl rfl rfl ?_
  refine al_q (q_move rfl) rfl rfl rfl ?_
  refine al_q (q_move rfl) rfl rfl rfl ?_
  refine al_q (q_min rfl rfl) rfl rfl rfl ?_
  refine al_q (q_max rfl rfl) rfl rfl rfl ?_
  refine al_q (q_assign rfl) rfl rfl rfl ?_
  refine al_end ?_
  refine aq_then ?_
  refine ac_ret ?_
  refine ret1 Tryz.results69 rfl (fun w9 hs => ?_)
  exact ⟨rfl, hs.below⟩

def mixC (n k : Nat) (f g : Nat → Value) : List Value := (List.range n).map fun j => if j < k then f j else g j
theorem mixC_zero (n : Nat) (f g : Nat → Value) : mixC n 0 f g = lst n g := by simp [mixC, lst]
theorem mixC_all (n : Nat) (f g : Nat → Value) : mixC n n f g = lst n f := lst_ext (fun k hk => by simp [hk])
theorem mixC_len (n k : Nat) (f g : Nat → Value) : (mixC n k f g).length = n := by simp [mixC]
theorem mixC_set (n k : Nat) (f g : Nat → Value) (hk : k < n) : (mixC n k f g).set k (f k) = mixC n (k + 1) f g := by
  apply List.ext_getElem?
  intro i
  unfold mixC
  rw [List.getElem?_set]
  rcases Nat.lt_or_ge i n with hi | hi
  · by_cases h : k = i
    · subst h; simp [hk]
    · simp only [List.getElem?_map, List.getElem?_range hi, Option.map_some, if_neg h, List.length_map, List.length_range]
      have : (i < k) ↔ (i < k + 1) := by omega
      simp only [this]
  · rw [List.getElem?_eq_none (by simp; omega)]
    rw [if_neg (by omega), List.getElem?_eq_none (by simp; omega)]
theorem rep_lst (n : Nat) (v : Value) : List.replicate n v = lst n (fun _ => v) := by
  apply List.ext_getElem?
  intro i
  rcases Nat.lt_or_ge i n with hi | hi
  · rw [lst_get _ hi]; simp [hi]
  · rw [List.getElem?_eq_none (by simpa using hi), List.getElem?_eq_none (by rw [lst_length]; exact hi)]
theorem lst_ints (n : Nat) (f : Nat → Int) : (lst n f).flatMap intCells = lst n (fun j => Value.int .i64 (f j)) := by rw [flat_int]; simp [lst]
/-- a list of whole numbers laid in an own box -/
theorem new_lst {N : Nat} {D : List Deferred} {U : Snaps} {L : Boxes} {w0 w : World} {i b n : Nat} {f : Nat → Int} (h : Sta ⟨N, D, w0, []⟩ U L w) (hi : L[i]? = some (b, .cells (lst n fun j => .int .i64 (f j)))) (hn : n ≤ 1000000) : NewT 1 intCells w0.heap.size w (some ⟨b, 0, none⟩) n n (lst n f) :=
  ⟨isT_box0 (n := 1) (enc := intCells) (fun _ => rfl) (h.at i hi) (lst_ints n f) (lst_length n f), h.new i hi, Nat.le_refl _, by omega⟩

end Go.Proofs.YtnikdbglpimadaaGreat
end
section
/- Package circuit: applied, over this seat's translation (written by ax_ci2.py). -/
namespace Go.Proofs.YtnikdbglpimadaaGreat
set_option linter.unusedVariables false
set_option linter.unusedSimpArgs false
open Go.RowKit

set_option maxRecDepth 100000 in
theorem applied_any (R : MachR) (M : MachD) (RS : StR) (S : StD) (A : Option Addr) (len cap : Nat) (ch : List Int) (w : World) (hM : IsM w R M) (hS : IsS w RS S) (hF : FitS M S) (hI : IsT 1 intCells w A len ch) (hc : validCh M ch 1000000000000000 = true) : Calls Tryz.prog 39 #[(.agg (machCells R M)), (RS.v S.tick), (.slice A len cap)] w (fun e w' => ∃ A' c, e = .returned (.slice A' R.la c) ∧ NewT 1 intCells w.heap.size w' A' R.la c (appL M S ch) ∧ Below w.heap.size w w') := by
  have n1 := hM.coils.1
  have n2 := hS.cur.coils.1
  have n3 := hS.trip.1
  have n4 := hI.1
  have hv := validCh_iff.1 hc
  have n5 := (sound_of hF.cur.check).coils.1
  have n6 := hF.cur.coils.1
  have n7 := hF.trip
  refine calls_ax (vs := [(.agg (machCells R M)), (RS.v S.tick), (.slice A len cap)]) Tryz.func39 rfl rfl ?_
  refine ac_seq ?_
  refine ac_region ?_
  refine al_new (fun b => .pointer (some ⟨b, 0, none⟩)) (r_box rfl rfl) rfl rfl rfl ?_
  intro b1
  refine al_new (fun b => .pointer (some ⟨b, 0, none⟩)) (r_box rfl rfl) rfl rfl rfl ?_
  intro b2
  refine al_q (q_assign rfl) rfl rfl rfl ?_
  refine al_end ?_
  refine aq_then ?_
  refine ac_seq ?_
  refine ac_region ?_
  refine al_q (q_fieldAddr 1 rfl Tryz.runUnderlying29 rfl Tryz.sizeOf22 (by decide) rfl) rfl rfl rfl ?_
  refine al_q (q_load (i := 1) rfl rfl rfl Tryz.isAgg22) rfl rfl rfl ?_
  refine al_q (q_lenS rfl Tryz.runUnderlying22) rfl rfl rfl ?_
  refine al_makeInts (n := R.la) (z := (.int .i64 0)) (bytes := 8) rfl rfl rfl Tryz.underlying30 (by kernel_rfl) rfl (by omega) (by decide) rfl rfl ?_
  intro b3
  refine al_q (q_assign rfl) rfl rfl rfl ?_
  refine al_end ?_
  refine aq_then ?_
  refine ac_seq ?_
  refine ac_seq ?_
  refine ac_region ?_
  refine al_q (q_fieldAddr 1 rfl Tryz.runUnderlying29 rfl Tryz.sizeOf22 (by decide) rfl) rfl rfl rfl ?_
  refine al_q (q_load (i := 2) rfl rfl rfl Tryz.isAgg22) rfl rfl rfl ?_
  refine al_q (q_lenS rfl Tryz.runUnderlying22) rfl rfl rfl ?_
  refine al_q (q_move rfl) rfl rfl rfl ?_
  refine al_end ?_
  refine aq_then ?_
  refine ac_block ?_
  refine ac_loop (β := Nat) (fun x => x ≤ R.la) (fun x => [(2, (.slice A len cap)), (4, (.pointer (some ⟨b2, 0, none⟩))), (6, (.slice none 0 0)), (7, (.slice (some ⟨b3, 0, none⟩) (R.la) (R.la))), (17, (.slice (R.A) R.la R.ca)), (18, (.int .i64 (R.la : Int))), (19, (.int .i64 (x : Int)))]) (fun _ => _) (fun x => [(b3, .cells (mixC R.la x (fun j => .int .i64 (appA M S ch j)) (fun _ => .int .i64 0))), (b2, _), (b1, _)]) (fun x => R.la - x) 0 (by omega) ⟨rfl, rfl, rfl, rfl, rfl, rfl, rfl, trivial⟩ (fun w9 hs => (by rw [mixC_zero, ← rep_lst]; exact hs)) (fun x hF1 => ?_)
  refine ac_seq ?_
  refine ac_region ?_
  refine al_q (q_lss rfl rfl) rfl rfl rfl ?_
  refine al_end ?_
  refine aq_then ?_
  refine ac_seq ?_
  refine ac_cond rfl (fun h1 => ?_) (fun h1 => ?_)
  · have hxl : x < R.la := by have := of_decide_eq_true h1; omega
    obtain ⟨b11, o11, hA1, hlt1, hget1⟩ := hM.coils.2 (by omega)
    have hx1 := cA_get (M := M) (k := x) (by omega)
    obtain ⟨b21, o21, hA2, hlt2, hget2⟩ := hS.cur.coils.2 (by omega)
    have hx2 := iA_get (l := S.C.coils) (k := x) (by omega)
    obtain ⟨b31, o31, hA3, hlt3, hget3⟩ := hS.trip.2 (by omega)
    have hx3 := bA_get (l := S.trip) (k := x) (by omega)
    obtain ⟨b41, o41, hA4, hlt4, hget4⟩ := hI.2 (by omega)
    have hx4 := iA_get (l := ch) (k := x) (by omega)
    have hco := cA_ok hF.cur.check (k := x) (by omega)
    have q1 := hco.step
    have q2 := hco.cur
    have q3 := hF.cur.coils.2 _ (List.mem_of_getElem? hx2)
    have q4 := hv.2 _ (List.mem_of_getElem? hx4)
    have q5 := cutI_bd (n := (iA ch x)) (most := (cA M x).step) (by omega)
    have q6 := cutI_bd (n := ((iA S.C.coils x) + cutI (iA ch x) (cA M x).step)) (most := (cA M x).cur) (by omega)
    refine ac_skip ?_
    refine aq_then ?_
    refine ac_seq ?_
    refine ac_block ?_
    refine ac_seq ?_
    refine ac_region ?_
    refine al_q (q_move rfl) rfl rfl rfl ?_
    refine al_q (q_indexAddrA (i := x) (o11 + x * 8 + 0) hA1 rfl rfl rfl (by omega) Tryz.runUnderlying22 Tryz.sizeOf49 rfl) rfl rfl rfl ?_
    refine al_q (q_loadXs (CoilD.cells (cA M x)) rfl Tryz.isAgg49 Tryz.sizeOf49 (fun w9 hs j9 v9 h9 => by rw [addr_add]; exact (hs.below.cell (p := ⟨_, _, none⟩) hlt1).trans ((hget1 x _ hx1) j9 v9 h9)) rfl) rfl rfl rfl ?_
    refine al_new (fun b => .pointer (some ⟨b, 0, none⟩)) (r_alloc Tryz.zeroValue49 rfl) rfl rfl rfl ?_
    intro b4
    refine al_q (q_assign rfl) rfl rfl rfl ?_
    refine al_storeAll (i := 0) rfl rfl rfl rfl Tryz.sizeOf49 rfl rfl .k0 rfl ?_
    refine al_end ?_
    refine aq_then ?_
    refine ac_seq ?_
    refine ac_region ?_
    refine al_q (q_fieldAddr 1 rfl Tryz.runUnderlying35 rfl Tryz.sizeOf32 (by decide) rfl) rfl rfl rfl ?_
    refine al_q (q_fieldAddr 1 rfl Tryz.runUnderlying32 rfl Tryz.sizeOf30 (by decide) rfl) rfl rfl rfl ?_
    refine al_q (q_load (i := 2) rfl rfl rfl Tryz.isAgg30) rfl rfl rfl ?_
    refine al_q (q_move rfl) rfl rfl rfl ?_
    refine al_q (q_indexAddrA (i := x) (o21 + x * 1 + 0) hA2 rfl rfl rfl (by omega) Tryz.runUnderlying30 Tryz.sizeOf3 rfl) rfl rfl rfl ?_
    refine al_q (q_loadX rfl Tryz.isAgg3 (fun w9 hs => (hs.below.cell (p := ⟨_, _, none⟩) hlt2).trans ((hget2 x _ hx2) 0 _ rfl))) rfl rfl rfl ?_
    refine al_q (q_assign rfl) rfl rfl rfl ?_
    refine al_end ?_
    refine aq_then ?_
    refine ac_seq ?_
    refine ac_seq ?_
    refine ac_region ?_
    refine al_q (q_fieldAddr 5 rfl Tryz.runUnderlying35 rfl Tryz.sizeOf33 (by decide) rfl) rfl rfl rfl ?_
    refine al_q (q_load (i := 2) rfl rfl rfl Tryz.isAgg33) rfl rfl rfl ?_
    refine al_q (q_move rfl) rfl rfl rfl ?_
    refine al_q (q_indexAddrA (i := x) (o31 + x * 1 + 0) hA3 rfl rfl rfl (by omega) Tryz.runUnderlying33 Tryz.sizeOf4 rfl) rfl rfl rfl ?_
    refine al_q (q_loadX rfl Tryz.isAgg4 (fun w9 hs => (hs.below.cell (p := ⟨_, _, none⟩) hlt3).trans ((hget3 x _ hx3) 0 _ rfl))) rfl rfl rfl ?_
    refine al_end ?_
    refine aq_then ?_
    refine ac_cond rfl (fun h2 => ?_) (fun h2 => ?_)
    · have hval : cutI (-(iA S.C.coils x)) (cA M x).step = appA M S ch x := by simp [appA, appI, show bA S.trip x = true from h2]
      refine ac_seq ?_
      refine ac_region ?_
      refine al_q (q_move rfl) rfl rfl rfl ?_
      refine al_q (q_move rfl) rfl rfl rfl ?_
      refine al_q (q_move rfl) rfl rfl rfl ?_
      refine al_q (q_neg rfl (by omega)) rfl rfl rfl ?_
      refine al_q (q_fieldAddr 5 rfl Tryz.runUnderlying49 rfl Tryz.sizeOf3 (by decide) rfl) rfl rfl rfl ?_
      refine al_q (q_load (i := 0) rfl rfl rfl Tryz.isAgg3) rfl rfl rfl ?_
      refine al_call Tryz.call69 (.cons rfl (.cons rfl .nil)) rfl rfl (fun w1 hs1 => ?_)
      refine (ccut_any (-(iA S.C.coils x)) (cA M x).step _ (by omega)).mono ?_
      rintro e u1 ⟨rfl, hb_1⟩
      refine ⟨_, rfl, hb_1, ?_⟩
      clear hs1
      refine al_q (q_indexAddr (i := x) (x) rfl rfl rfl hxl Tryz.runUnderlying30 Tryz.sizeOf3 (by omega)) rfl rfl rfl ?_
      refine al_store1 (i := 1) rfl rfl rfl rfl Tryz.sizeOf3 (SetAt.ofSet (by rw [mixC_len]; exact hxl)) .k1 rfl ?_
      refine al_end ?_
      refine aq_then ?_
      refine ac_exit ?_
      refine aq_thenE ?_
      refine aq_hit ?_
      refine aq_then ?_
      refine ac_region ?_
      refine al_q (q_add rfl rfl (by omega)) rfl rfl rfl ?_
      refine al_q (q_move rfl) rfl rfl rfl ?_
      refine al_end ?_
      refine aq_then ?_
      skip
      refine aq_round (x + 1) (by omega) (by omega) ⟨rfl, rfl, rfl, rfl, rfl, rfl, rfl, trivial⟩ (fun w9 hs => (by have h9 := ((hs.fewer 1 rfl).tail 1 rfl); rw [hval, mixC_set R.la x _ _ hxl] at h9; exact h9))
    · have hval : cutI (cutI ((iA S.C.coils x) + cutI (iA ch x) (cA M x).step) (cA M x).cur - (iA S.C.coils x)) (cA M x).step = appA M S ch x := by simp [appA, appI, show bA S.trip x = false from h2]
      refine ac_skip ?_
      refine aq_then ?_
      refine ac_seq ?_
      refine ac_draw 12 (by kernel_rfl) (by kernel_rfl) ?_
      refine ah_take 0 (fun w9 hs => hs) rfl rfl rfl (by kernel_rfl) (by kernel_rfl) (by kernel_rfl) (fun _ _ _ h => h) rfl (q_move rfl) ?_
      refine ah_take 1 (fun w9 hs => hs) rfl rfl rfl (by kernel_rfl) (by kernel_rfl) (by kernel_rfl) (fun _ _ _ h => h) rfl (q_move rfl) ?_
      refine ah_take 2 (fun w9 hs => hs) rfl rfl rfl (by kernel_rfl) (by kernel_rfl) (by kernel_rfl) (fun _ _ _ h => h) rfl (q_move rfl) ?_
      refine ah_take 3 (fun w9 hs => hs) rfl rfl rfl (by kernel_rfl) (by kernel_rfl) (by kernel_rfl) (fun _ _ _ h => h) rfl (q_indexAddrA (i := x) (o41 + x * 1 + 0) hA4 rfl rfl rfl (by omega) Tryz.runUnderlying30 Tryz.sizeOf3 rfl) ?_
      refine ah_take 4 (fun w9 hs => hs) rfl rfl rfl (by kernel_rfl) (by kernel_rfl) (by kernel_rfl) (fun _ _ _ h => h) rfl (q_loadX rfl Tryz.isAgg3 (fun w9 hs => (hs.below.cell (p := ⟨_, _, none⟩) hlt4).trans ((hget4 x _ hx4) 0 _ rfl))) ?_
      refine ah_take 5 (fun w9 hs => hs) rfl rfl rfl (by kernel_rfl) (by kernel_rfl) (by kernel_rfl) (fun _ _ _ h => h) rfl (q_fieldAddr 5 rfl Tryz.runUnderlying49 rfl Tryz.sizeOf3 (by decide) rfl) ?_
      refine ah_take 6 (fun w9 hs => hs) rfl rfl rfl (by kernel_rfl) (by kernel_rfl) (by kernel_rfl) (fun _ _ _ h => h) rfl (q_load (i := 0) rfl rfl rfl Tryz.isAgg3) ?_
      refine ah_take 9 (fun w9 hs => hs) rfl rfl rfl (by kernel_rfl) (by kernel_rfl) (by kernel_rfl) (fun _ _ _ h => h) rfl (q_fieldAddr 4 rfl Tryz.runUnderlying49 rfl Tryz.sizeOf3 (by decide) rfl) ?_
      refine ah_take 10 (fun w9 hs => hs) rfl rfl rfl (by kernel_rfl) (by kernel_rfl) (by kernel_rfl) (fun _ _ _ h => h) rfl (q_load (i := 0) rfl rfl rfl Tryz.isAgg3) ?_
      refine ah_one 7 rfl (by kernel_rfl) (fun hok1 hcl1 => ?_)
      refine al_call Tryz.call69 (.cons rfl (.cons rfl .nil)) rfl rfl (fun w2 hs2 => ?_)
      refine (ccut_any (iA ch x) (cA M x).step _ (by omega)).mono ?_
      rintro e u2 ⟨rfl, hb_2⟩
      refine ⟨_, rfl, hb_2, ?_⟩
      clear hs2
      refine al_end (ah_back hok1 hcl1 (fun w9 hs => (hs.fewer 1 rfl)) ?_)
      refine ah_take 8 (fun w9 hs => (hs.fewer 1 rfl)) rfl rfl rfl (by kernel_rfl) (by kernel_rfl) (by kernel_rfl) (fun _ _ _ h => h) rfl (q_add rfl rfl (by omega)) ?_
      refine ah_one 11 rfl (by kernel_rfl) (fun hok2 hcl2 => ?_)
      refine al_call Tryz.call69 (.cons rfl (.cons rfl .nil)) rfl rfl (fun w3 hs3 => ?_)
      refine (ccut_any ((iA S.C.coils x) + cutI (iA ch x) (cA M x).step) (cA M x).cur _ (by omega)).mono ?_
      rintro e u3 ⟨rfl, hb_3⟩
      refine ⟨_, rfl, hb_3, ?_⟩
      clear hs3
      refine al_end (ah_back hok2 hcl2 (fun w9 hs => (hs.fewer 2 rfl)) ?_)
      refine ah_one 12 rfl (by kernel_rfl) (fun hok3 hcl3 => ?_)
      refine al_q (q_assign rfl) rfl rfl rfl ?_
      refine al_end (ah_last (by kernel_rfl) ?_)
      refine aq_then ?_
      refine ac_region ?_
      refine al_q (q_move rfl) rfl rfl rfl ?_
      refine al_q (q_move rfl) rfl rfl rfl ?_
      refine al_q (q_move rfl) rfl rfl rfl ?_
      refine al_q (q_move rfl) rfl rfl rfl ?_
      refine al_q (q_sub rfl rfl (by omega)) rfl rfl rfl ?_
      refine al_q (q_fieldAddr 5 rfl Tryz.runUnderlying49 rfl Tryz.sizeOf3 (by decide) rfl) rfl rfl rfl ?_
      refine al_q (q_load (i := 0) rfl rfl rfl Tryz.isAgg3) rfl rfl rfl ?_
      refine al_call Tryz.call69 (.cons rfl (.cons rfl .nil)) rfl rfl (fun w4 hs4 => ?_)
      refine (ccut_any (cutI ((iA S.C.coils x) + cutI (iA ch x) (cA M x).step) (cA M x).cur - (iA S.C.coils x)) (cA M x).step _ (by omega)).mono ?_
      rintro e u4 ⟨rfl, hb_4⟩
      refine ⟨_, rfl, hb_4, ?_⟩
      clear hs4
      refine al_q (q_indexAddr (i := x) (x) rfl rfl rfl hxl Tryz.runUnderlying30 Tryz.sizeOf3 (by omega)) rfl rfl rfl ?_
      refine al_store1 (i := 1) rfl rfl rfl rfl Tryz.sizeOf3 (SetAt.ofSet (by rw [mixC_len]; exact hxl)) .k1 rfl ?_
      refine al_end ?_
      refine aq_inN ?_
      refine aq_then ?_
      refine ac_region ?_
      refine al_q (q_add rfl rfl (by omega)) rfl rfl rfl ?_
      refine al_q (q_move rfl) rfl rfl rfl ?_
      refine al_end ?_
      refine aq_then ?_
      skip
      refine aq_round (x + 1) (by omega) (by omega) ⟨rfl, rfl, rfl, rfl, rfl, rfl, rfl, trivial⟩ (fun w9 hs => (by have h9 := ((hs.fewer 3 rfl).tail 1 rfl); rw [hval, mixC_set R.la x _ _ hxl] at h9; exact h9))
  · have hxe : x = R.la := by have := of_decide_eq_false h1; omega
    refine ac_exit ?_
    refine aq_thenE ?_
    refine aq_thenE ?_
    refine aq_hit ?_
    refine aq_then ?_
    refine ac_seq ?_
    refine ac_region ?_
    refine al_q (q_move rfl) rfl rfl rfl ?_
    refine al_q (q_assign rfl) rfl rfl rfl ?_
    refine al_end ?_
    refine aq_then ?_
    refine ac_ret ?_
    refine ret1 Tryz.results39 rfl (fun w9 hs => ?_)
    rw [hxe, mixC_all] at hs
    exact ⟨some ⟨b3, 0, none⟩, R.la, rfl, by rw [appL, n1]; exact new_lst hs (i := 0) rfl (by omega), hs.below⟩

end Go.Proofs.YtnikdbglpimadaaGreat
end
section
/- Abstract walking: lists of structs that are made and filled; rows of rows in grown lists. -/
namespace Go.Proofs.YtnikdbglpimadaaGreat
set_option linter.unusedVariables false
set_option linter.unusedSimpArgs false
set_option autoImplicit false
open Go.RowKit

def mixF (n k : Nat) (F G : Nat → List Value) : List Value := (List.range n).flatMap fun j => if j < k then F j else G j
theorem flatMap_len {α : Type} {z : Nat} (l : List α) {F : α → List Value} (hF : ∀ j, (F j).length = z) : (l.flatMap F).length = l.length * z := by
  induction l with
  | nil => simp
  | cons x r ih => rw [List.flatMap_cons, List.length_append, hF, ih, List.length_cons, Nat.add_mul]; omega
theorem flatMap_ext {α : Type} {l : List α} {F G : α → List Value} (h : ∀ x ∈ l, F x = G x) : l.flatMap F = l.flatMap G := by
  induction l with
  | nil => rfl
  | cons x r ih => rw [List.flatMap_cons, List.flatMap_cons, h x (by simp), ih (fun y hy => h y (by simp [hy]))]
theorem mixF_len {n k z : Nat} {F G : Nat → List Value} (hF : ∀ j, (F j).length = z) (hG : ∀ j, (G j).length = z) : (mixF n k F G).length = n * z := by
  have := flatMap_len (z := z) (List.range n) (F := fun j => if j < k then F j else G j) (fun j => by split <;> simp [hF, hG])
  rw [List.length_range] at this; exact this
theorem mixF_zero (n : Nat) (F G : Nat → List Value) : mixF n 0 F G = (List.range n).flatMap G := by simp [mixF]
theorem mixF_all (n : Nat) (F G : Nat → List Value) : mixF n n F G = (List.range n).flatMap F := flatMap_ext fun j hj => by rw [if_pos (List.mem_range.1 hj)]
theorem range_at {n k : Nat} (hk : k < n) : List.range n = List.range k ++ k :: List.range' (k + 1) (n - (k + 1)) := by
  have h : n = k + ((n - (k + 1)) + 1) := by omega
  conv => lhs; rw [h, List.range_add, List.range_succ_eq_map]
  rw [List.map_cons, List.map_map, Nat.add_zero, List.range'_eq_map_range]
  congr 2
  apply List.map_congr_left
  intro a _
  simp only [Function.comp_def]
  omega
theorem mixF_store {n k z : Nat} {F G : Nat → List Value} (hF : ∀ j, (F j).length = z) (hG : ∀ j, (G j).length = z) (hk : k < n) : mixF n (k + 1) F G = (mixF n k F G).take (k * z) ++ F k ++ (mixF n k F G).drop (k * z + (F k).length) := by
  have e1 : mixF n k F G = (List.range k).flatMap F ++ (G k ++ (List.range' (k + 1) (n - (k + 1))).flatMap G) := by
    unfold mixF
    rw [range_at hk, List.flatMap_append, List.flatMap_cons, if_neg (by omega)]
    congr 1
    · exact flatMap_ext fun j hj => by rw [if_pos (List.mem_range.1 hj)]
    · congr 1
      exact flatMap_ext fun j hj => by rw [List.mem_range'_1] at hj; rw [if_neg (by omega)]
  have e2 : mixF n (k + 1) F G = (List.range k).flatMap F ++ (F k ++ (List.range' (k + 1) (n - (k + 1))).flatMap G) := by
    unfold mixF
    rw [range_at hk, List.flatMap_append, List.flatMap_cons, if_pos (by omega)]
    congr 1
    · exact flatMap_ext fun j hj => by rw [if_pos (by have := List.mem_range.1 hj; omega)]
    · congr 1
      exact flatMap_ext fun j hj => by rw [List.mem_range'_1] at hj; rw [if_neg (by omega)]
  have hA : ((List.range k).flatMap F).length = k * z := by rw [flatMap_len _ hF, List.length_range]
  rw [e1, e2, List.take_left' hA, ← List.append_assoc ((List.range k).flatMap F) (G k), List.drop_left' (by rw [List.length_append, hA, hG, hF]), List.append_assoc]
theorem made_flat (zs : List Value) (n : Nat) (hz : 0 < zs.length) : (madeCells zs.toArray (n * zs.length)).toList = (List.range n).flatMap (fun _ => zs) := by
  apply List.ext_getElem?
  intro i
  rcases Nat.lt_or_ge i (n * zs.length) with h | h
  · have hm : i % zs.length < zs.length := Nat.mod_lt _ hz
    have hd : i / zs.length < n := Nat.div_lt_of_lt_mul (by rw [Nat.mul_comm]; exact h)
    have e := flat_get (n := zs.length) (enc := fun _ : Nat => zs) (fun _ => rfl) (List.range n) (i / zs.length) (i / zs.length) (by simp [hd]) (i % zs.length) _ (List.getElem?_eq_getElem hm)
    rw [Nat.div_add_mod'] at e
    rw [e]
    simp [madeCells, h, hm]
  · rw [List.getElem?_eq_none (by rw [Array.length_toList, size_madeCells]; exact h), List.getElem?_eq_none (by rw [flatMap_len (z := zs.length) _ (fun _ => rfl), List.length_range]; exact h)]
section
variable {P : Program} {e0 : Cfg} {U : Snaps} {l : Slots} {L : Boxes} {ops : Array Oper} {Q : Exit → Act → World → Prop} {rest : List Oper} {d : Nat} {v : Value}
variable {ty : TypeId} {pos : String} {af : Array Edge} {g : Option (Nat × Bool)} {dd : Option Nat}
/-- make of n structs -/
theorem al_makeAgg {t e bytes n z : Nat} (zs : List Value) {zv : Value} {x : Int} {ol oc : Operand} (hl : E l ol = some (.int .i64 x)) (hc : E l oc = some (.int .i64 x)) (hx : x = (n : Int)) (hu : P.underlying t = some (.slice e)) (hinfo : (P.info? e).map (fun i => (i.zero, i.size, i.bytes)) = some (some zv, z, bytes)) (hz1 : zv.cells = zs.toArray) (hz : zs.length = z) (h0 : Nat.blt 0 z = true) (hm : n ≤ 1000000) (hb : bytes ≤ 10000)
    (hn : Nat.blt d e0.n = true) (hw : want ops l g = some true)
    (k : ∀ b, AL P ops Q e0 U ((d, .slice (some ⟨b, 0, none⟩) n n) :: l) ((b, .cells ((List.range n).flatMap fun _ => zs)) :: L) rest) :
    AL P ops Q e0 U l L (⟨some d, .makeSlice t ol oc, ty, pos, af, g⟩ :: rest) :=
  al_run2 (K := True) hw rfl hn (fun a w hf hs => by
    subst hx
    obtain ⟨i, hi, hzz, h1, rfl⟩ := info_split hinfo
    have hnb : i.bytes * n ≤ 10000 * 1000000 := Nat.mul_le_mul hb hm
    have hb' : (i.bytes : Int) * (n : Int) ≤ 281474976710656 := by
      have h : ((i.bytes * n : Nat) : Int) ≤ 281474976710656 := by omega
      rwa [Int.natCast_mul] at h
    have hr := run_make (P := P) w t e i zv hu hi hzz .i64 .i64 (n : Int) (n : Int) (by omega) (Int.le_refl _) hb' (by omega)
    simp only [Int.toNat_natCast, h1, hz1] at hr
    have hq := made_flat zs n (by rw [hz]; simpa [Nat.blt_eq] using h0)
    rw [hz] at hq
    have hA : madeCells zs.toArray (n * z) = ((List.range n).flatMap fun _ => zs).toArray := Array.ext' (by simpa using hq)
    rw [hA] at hr
    exact ⟨_, _, U, _, by simp [execOp, hf.ev hl, hf.ev hc, hr], hs.alloc _ e, k _⟩)
/-- a struct stored in a list in an own box -/
theorem al_storeV {t b off i z : Nat} {cs cs' vs : List Value} {L' : Boxes} {ox oy : Operand} (hx : E l ox = some (.pointer (some ⟨b, off, none⟩))) (hy : E l oy = some (.agg vs.toArray)) (hi : L[i]? = some (b, .cells cs))
    (hz : ∀ w, (sizeOf t).run P w = .ok z w) (hz' : vs.length = z) (hl : off + z ≤ cs.length) (hone : vs.all (fun v => v.oneCell') = true) (hc : cs' = cs.take off ++ vs ++ cs.drop (off + vs.length)) (hL : SetAt i (b, .cells cs') L L') (hw : want ops l g = some true)
    (k : AL P ops Q e0 U l L' rest) : AL P ops Q e0 U l L (⟨none, .store t ox oy, ty, pos, af, g⟩ :: rest) :=
  al_store (cs' := cs') hx hy rfl hi hz hz' (by simpa using hl) hone hc _ hL.eq hw k
end

/-! ### rows of rows -/
def RowsF (F : Nat → List Int) (m : Nat) (G : Boxes) (rows : List (Option Addr × Nat)) : Prop := ∀ (i : Nat) r, rows[i]? = some r → ∃ b sp, r.1 = some ⟨b, 0, none⟩ ∧ (b, Cont.cells ((F i).map (Value.int .i64) ++ sp)) ∈ G ∧ (F i).length = m ∧ m ≤ r.2 ∧ r.2 ≤ 9223372036854775807
theorem RowsF.nil (F : Nat → List Int) (m : Nat) (G : Boxes) : RowsF F m G [] := fun i r h => by simp at h
end Go.Proofs.YtnikdbglpimadaaGreat
end
