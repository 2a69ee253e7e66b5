import Derived.Test.YtogcjgjhmlifgaaGreatMAL
import Derived.Test.YtogcjgjhmlifgaaGreatMAM
import Derived.Test.YtogcjgjhmlifgaaGreatMAR
import Derived.Test.YtogcjgjhmlifgaaGreatMAS
import Derived.Test.YtogcjgjhmlifgaaGreatMAU
import Derived.Test.YtogcjgjhmlifgaaGreatMAV
import Derived.Test.YtogcjgjhmlifgaaGreatMAW
import Derived.Test.YtogcjgjhmlifgaaGreatMAZ
import Derived.Test.YtogcjgjhmlifgaaGreatRows
import Derived.KernelRfl
import Derived.Laws.StructEq
namespace Go.Proofs.YtogcjgjhmlifgaaGreat
set_option linter.unusedVariables false
set_option linter.unusedSimpArgs false
section
open Go.RowKit
end
section
open Go.RowKit Go.Shelf
end
section
open Go.RowKit Go.Shelf
end
section
open Go.RowKit Go.Shelf
end
section
open Go.RowKit
theorem dotTo_shift (f : Nat → Int) : ∀ n : Nat, dotTo f (n + 1) = f 0 + dotTo (fun i => f (i + 1)) n
  | 0 => by simp [dotTo]
  | n + 1 => by rw [dotTo, dotTo_shift f n, dotTo]; omega
theorem dot_dotTo : ∀ xs ys : List Int, xs.length = ys.length → dot xs ys = dotTo (fun i => iA xs i * iA ys i) xs.length
  | [], [], _ => rfl
  | [], _ :: _, h => by simp at h
  | _ :: _, [], h => by simp at h
  | x :: xs, y :: ys, h => by
    rw [List.length_cons, dotTo_shift]
    simp only [dot]
    rw [dot_dotTo xs ys (by simpa using h)]
    rfl
theorem fl_zero (p : Int × Int) (g : GridD) : fluxP p (cellSrc g [0] 1) = 0 := by
  have h := flux_bdB p (B := 0) (by omega) (cellSrc g [0] 1) (fun s hs' => by
    unfold cellSrc at hs'
    obtain ⟨k, hk, e⟩ := List.mem_map.1 hs'
    rw [List.mem_range] at hk
    have hk0 : k = 0 := by omega
    subst hk0
    rw [← e]; simp)
  omega
theorem rvalid5_any (R : MachR) (M : MachD) (Q : CurR) (C : CurD) (w : World) (hM : IsM w R M) (hC : IsC w Q C) : Calls Tryz.prog 30 #[.agg (mCs R M).toArray, .agg (cCs Q).toArray] w (Ret (.bool (validC M C)) w) := rvalid2_any R M Q C w hM hC
end
end Go.Proofs.YtogcjgjhmlifgaaGreat
