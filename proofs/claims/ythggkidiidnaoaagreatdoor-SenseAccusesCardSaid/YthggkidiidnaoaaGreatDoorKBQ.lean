import Derived.Test.YthggkidiidnaoaaGreatDoorKBM
import Derived.Test.YthggkidiidnaoaaGreatDoorKBO
import Derived.Test.YthggkidiidnaoaaGreatDoorKBP
import Derived.Test.YthggkidiidnaoaaGreatDoorRows
import Derived.KernelRfl
import Derived.Laws.StructEq
import Derived.ChangeKeysEq
namespace Go.Proofs.YthggkidiidnaoaaGreatDoor
set_option linter.unusedVariables false
set_option linter.unusedSimpArgs false
section
open Go.RowKit
theorem rsame_true (A B : Option Addr) (la ca lb cb : Nat) (xs : List Int) (w : World) (h1 : IsT 1 intCells w A la xs) (h2 : IsT 1 intCells w B lb xs) (l1 : la ≤ 1000000000000000) (l2 : lb ≤ 1000000000000000) : Calls Tryz.prog 10 #[.slice A la ca, .slice B lb cb] w (Ret (.bool true) w) := by
 have h := rsame_any A B la ca lb cb xs xs w h1 h2 l1 l2
 rw [decide_eq_true rfl] at h
 exact h
set_option maxRecDepth 100000 in
theorem neq_pair (a b : Int) : ∀ w, (binOp .neq 47 (.agg #[.int .i64 a, .int .i64 b]) (.agg #[.int .i64 a, .int .i64 b])).run Tryz.prog w = .ok (.bool false) w := by
 intro w
 have e : binOp .neq 47 (.agg #[.int .i64 a, .int .i64 b]) (.agg #[.int .i64 a, .int .i64 b]) = (do pure (.bool (!(← Op.equal 47 (.agg #[.int .i64 a, .int .i64 b]) (.agg #[.int .i64 a, .int .i64 b])))) : Sem Value) := rfl
 obtain ⟨i, hi⟩ : ∃ i, Tryz.prog.info? 3 = some i := Option.isSome_iff_exists.1 (by kernel_rfl)
 have h : ∀ w, (Op.equal 47 (.agg #[.int .i64 a, .int .i64 b]) (.agg #[.int .i64 a, .int .i64 b])).run Tryz.prog w = .ok true w := by
  intro w
  show (Op.equalIn 10000 47 _ _).run _ w = _
  rw [run_equalIn_array (e := 3) (n := 2) w 9999 _ _ (by kernel_rfl) hi, (by kernel_rfl : Tryz.prog.cellsOf 3 = 1), (by rfl : List.range 2 = [0, 1])]
  simp [Op.eqItems, part, go_sem, Tryz.underlying3, Tryz.isAgg3, Tryz.sizeOf3]
 rw [e]; simp [h]
set_option maxRecDepth 100000 in
theorem light9_any (R : MachR) (M : MachD) (Q : CurR) (F : Option Addr) (nf cf : Nat) (w : World) : Calls Tryz.prog 6 #[(.agg #[.string M.name, .slice R.A R.la R.ca, .slice R.B R.lb R.cb, .slice R.C R.lc R.cc, .int .i64 M.grid.r, .int .i64 M.grid.z, .int .i64 M.grid.nr, .int .i64 M.grid.nz, .int .i64 M.grid.step, .slice R.D R.ld R.cd, .slice Q.A Q.la Q.ca, .slice Q.B Q.lb Q.cb, .slice Q.C Q.lc Q.cc, .slice F nf cf])] w (Ret (.bool (briefB R.la R.lb R.lc R.ld Q.la Q.lb Q.lc nf)) w) := by
 refine calls_ax (vs := [(.agg #[.string M.name, .slice R.A R.la R.ca, .slice R.B R.lb R.cb, .slice R.C R.lc R.cc, .int .i64 M.grid.r, .int .i64 M.grid.z, .int .i64 M.grid.nr, .int .i64 M.grid.nz, .int .i64 M.grid.step, .slice R.D R.ld R.cd, .slice Q.A Q.la Q.ca, .slice Q.B Q.lb Q.cb, .slice Q.C Q.lc Q.cc, .slice F nf cf])]) Tryz.func6 rfl rfl ?_
 refine ac_seq (ac_region ?_)
 refine al_new (fun b => .pointer (some ⟨b, 0, none⟩)) (r_box rfl rfl) rfl rfl rfl ?_
 intro b1
 refine al_p (q_assign rfl) (al_end (aq_then ?_))
 refine ac_seq (ac_region ?_)
 refine al_p (q_fieldAddr 0 rfl Tryz.runUnderlying35 rfl Tryz.sizeOf29 (by decide) rfl) (al_p (q_loadSub (i := 0) rfl rfl Tryz.isAgg29 Tryz.sizeOf29 .k0 .k10) ?_)
 refine al_p (q_fieldAddr 10 rfl Tryz.runUnderlying35 rfl Tryz.sizeOf32 (by decide) rfl) (al_p (q_loadSub (i := 0) rfl rfl Tryz.isAgg32 Tryz.sizeOf32 .k10 .k3) ?_)
 refine al_p (q_fieldAddr 13 rfl Tryz.runUnderlying35 rfl Tryz.sizeOf33 (by decide) rfl) (al_p (q_load (i := 0) rfl rfl rfl Tryz.isAgg33) (al_call Tryz.call14 (.cons rfl (.cons rfl (.cons rfl .nil))) rfl rfl (fun w1 hs1 => ?_)))
 refine (brief_any M.name R.A R.B R.C R.D R.la R.ca R.lb R.cb R.lc R.cc R.ld R.cd M.grid.r M.grid.z M.grid.nr M.grid.nz M.grid.step Q.A Q.B Q.C F Q.la Q.ca Q.lb Q.cb Q.lc Q.cc nf cf _).mono ?_
 rintro e u1 ⟨rfl, hb_1⟩
 refine ⟨_, rfl, hb_1, ?_⟩
 clear hs1
 refine al_p (q_assign rfl) (al_end (aq_then ?_))
 refine ac_ret (ret1 Tryz.results6 rfl (fun w9 hs => ?_))
 exact ⟨rfl, hs.below⟩
end
end Go.Proofs.YthggkidiidnaoaaGreatDoor
