import Derived.Test.YthggkidiidnaoaaGreatWAA
import Derived.Test.YthggkidiidnaoaaGreatWAU
import Derived.Test.YthggkidiidnaoaaGreatWAW
import Derived.Test.YthggkidiidnaoaaGreatWBQ
import Derived.Test.YthggkidiidnaoaaGreatWBR
namespace Go.Proofs.YthggkidiidnaoaaGreat
set_option linter.unusedVariables false
set_option linter.unusedSimpArgs false
section
open Go.RowKit Go.Shelf
theorem answer4 (b1 b2 : Nat) (g0 g1 g2 g3 n0 n1 n2 n3 : Int) (w : World) (h1 : IsT 1 intCells w (some ⟨b1, 0, none⟩) 4 [g0, g1, g2, g3]) (h2 : IsT 1 intCells w (some ⟨b2, 0, none⟩) 4 [n0, n1, n2, n3])
  (hg : ((-1000000 ≤ g0 ∧ g0 ≤ 1000000) ∧ (-1000000 ≤ g1 ∧ g1 ≤ 1000000)) ∧ (-1000000 ≤ g2 ∧ g2 ≤ 1000000) ∧ (-1000000 ≤ g3 ∧ g3 ≤ 1000000))
  (hn : ((-1000000000000000 ≤ n0 ∧ n0 ≤ 1000000000000000) ∧ (-1000000000000000 ≤ n1 ∧ n1 ≤ 1000000000000000)) ∧ (-1000000000000000 ≤ n2 ∧ n2 ≤ 1000000000000000) ∧ (-1000000000000000 ≤ n3 ∧ n3 ≤ 1000000000000000)) :
  Calls Tryz.prog 36 #[.slice (some ⟨b1, 0, none⟩) 4 4, .slice (some ⟨b2, 0, none⟩) 4 4] w (Ret (.int .i64 ((g0 * n0 + g1 * n1 + g2 * n2 + g3 * n3).tdiv 1000)) w) := by
 have h := answer_any _ _ 4 4 _ _ w h1 h2 (fun k => by
  rcases k with _ | _ | _ | _ | k
  ·exact hg.1.1
  ·exact hg.1.2
  ·exact hg.2.1
  ·exact hg.2.2
  ·simp) (fun k => by
  rcases k with _ | _ | _ | _ | k
  ·exact hn.1.1
  ·exact hn.1.2
  ·exact hn.2.1
  ·exact hn.2.2
  ·simp)
 have e : dotj (fun k => [g0, g1, g2, g3].getD k 0) (fun k => [n0, n1, n2, n3].getD k 0) 4 = g0 * n0 + g1 * n1 + g2 * n2 + g3 * n3 := by
  show 0 + g0 * n0 + g1 * n1 + g2 * n2 + g3 * n3 = _
  rw [Int.zero_add]
 rwa [e] at h
end
end Go.Proofs.YthggkidiidnaoaaGreat
