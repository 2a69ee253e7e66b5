import Derived.Test.YtogcjgjhmlifgaaGreatKAL
import Derived.Test.YtogcjgjhmlifgaaGreatKAM
import Derived.Test.YtogcjgjhmlifgaaGreatKAR
import Derived.Test.YtogcjgjhmlifgaaGreatKAS
import Derived.Test.YtogcjgjhmlifgaaGreatKAU
import Derived.Test.YtogcjgjhmlifgaaGreatKAV
import Derived.Test.YtogcjgjhmlifgaaGreatKAW
import Derived.Test.YtogcjgjhmlifgaaGreatKAZ
import Derived.Test.YtogcjgjhmlifgaaGreatRows
import Derived.KernelRfl
import Derived.Laws.StructEq
namespace Go.Proofs.YtogcjgjhmlifgaaGreat
set_option linter.unusedVariables false
set_option linter.unusedSimpArgs false
section
open Go.RowKit
end
section
open Go.RowKit Go.Shelf
end
section
open Go.RowKit Go.Shelf
end
section
open Go.RowKit Go.Shelf
end
section
open Go.RowKit
set_option maxRecDepth 100000 in
theorem rw5_any (n a b : Int) (w : World) : Calls Tryz.prog 48 #[(.int .i64 n), (.int .i64 a), (.int .i64 b)] w (Ret (.bool (wthn n a b)) w) := by
  refine calls_ax (vs := [(.int .i64 n), (.int .i64 a), (.int .i64 b)]) Tryz.func48 rfl rfl ?_
  refine ac_seq (ac_region ?_)
  refine al_p (q_assign rfl) (al_end (aq_then ?_))
  refine ac_seq (ac_region ?_)
  refine al_p (q_move rfl) (al_p (q_move rfl) (al_p (q_geq rfl rfl) (al_p (q_move rfl) ?_)))
  refine aq_split 10 rfl (fun hb1 => ?_) (fun hb1 => ?_)
  · refine al_p (q_move rfl) (al_p (q_move rfl) (al_p (q_leq rfl rfl) (al_p (q_pickT rfl rfl) (al_p (q_assign rfl) ?_))))
    refine al_end (aq_then ?_)
    refine ac_ret (ret1 Tryz.results48 rfl (fun w9 hs => ?_))
    refine ⟨?_, hs.below⟩; first | (simp_all [wthn]; done) | (simp_all [wthn]; omega)
  · refine al_skip rfl rfl rfl (al_skip rfl rfl rfl (al_skip rfl rfl rfl (al_p (q_pickF rfl rfl) (al_p (q_assign rfl) ?_))))
    refine al_end (aq_then ?_)
    refine ac_ret (ret1 Tryz.results48 rfl (fun w9 hs => ?_))
    refine ⟨?_, hs.below⟩; first | (simp_all [wthn]; done) | (simp_all [wthn]; omega)
set_option maxRecDepth 100000 in
theorem rtot_any (n : Int) (w : World) : Calls Tryz.prog 49 #[(.int .i64 n)] w (Ret (.bool (wthn n 1 1000000)) w) := by
  refine calls_ax (vs := [(.int .i64 n)]) Tryz.func49 rfl rfl ?_
  refine ac_seq (ac_region ?_)
  refine al_p (q_assign rfl) (al_end (aq_then ?_))
  refine ac_seq (ac_region ?_)
  refine al_p (q_move rfl) (al_call Tryz.call48 (.cons rfl (.cons rfl (.cons rfl .nil))) rfl rfl (fun w1 hs1 => ?_))
  refine (rw5_any n 1 1000000 _).mono ?_
  rintro e u1 ⟨rfl, hb_1⟩
  refine ⟨_, rfl, hb_1, ?_⟩
  clear hs1
  refine al_p (q_assign rfl) (al_end (aq_then ?_))
  refine ac_ret (ret1 Tryz.results49 rfl (fun w9 hs => ?_))
  exact ⟨rfl, hs.below⟩
end
end Go.Proofs.YtogcjgjhmlifgaaGreat
