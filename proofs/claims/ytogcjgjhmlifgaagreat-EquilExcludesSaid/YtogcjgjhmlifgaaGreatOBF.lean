import Derived.Test.YtogcjgjhmlifgaaGreatOBD
import Derived.Test.YtogcjgjhmlifgaaGreatOBE
import Derived.Test.YtogcjgjhmlifgaaGreatRows
import Derived.KernelRfl
import Derived.Laws.StructEq
namespace Go.Proofs.YtogcjgjhmlifgaaGreat
set_option linter.unusedVariables false
set_option linter.unusedSimpArgs false
section
open Go.RowKit
set_option maxRecDepth 100000 in
theorem rmost_any (a b : Int) (w : World) : Calls Tryz.prog 81 #[(.int .i64 a), (.int .i64 b)] w (Ret (.int .i64 (max a b)) w) := by
  refine calls_ax (vs := [(.int .i64 a), (.int .i64 b)]) Tryz.func81 rfl rfl ?_
  refine ac_seq (ac_region ?_)
  refine al_p (q_assign rfl) (al_end (aq_then ?_))
  refine ac_seq (ac_seq (ac_region ?_))
  refine al_p (q_move rfl) (al_p (q_move rfl) (al_p (q_gtr rfl rfl) (al_end (aq_then ?_))))
  refine ac_cond rfl (fun h1 => ?_) (fun h1 => ?_)
  · have g := of_decide_eq_true h1
    refine ac_seq (ac_region ?_)
    refine al_p (q_move rfl) (al_p (q_assign rfl) (al_end (aq_then ?_)))
    refine ac_ret (aq_thenR (ret1 Tryz.results81 rfl (fun w9 hs => ?_)))
    refine ⟨?_, hs.below⟩; congr 2; omega
  · have g := of_decide_eq_false h1
    refine ac_skip (aq_then (ac_seq (ac_region ?_)))
    refine al_p (q_move rfl) (al_p (q_assign rfl) (al_end (aq_then ?_)))
    refine ac_ret (ret1 Tryz.results81 rfl (fun w9 hs => ?_))
    refine ⟨?_, hs.below⟩; congr 2; omega
end
end Go.Proofs.YtogcjgjhmlifgaaGreat
