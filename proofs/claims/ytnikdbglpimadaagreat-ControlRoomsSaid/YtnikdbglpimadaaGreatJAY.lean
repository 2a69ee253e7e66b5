import Derived.Test.YtnikdbglpimadaaGreatJAX
import Derived.Test.YtnikdbglpimadaaGreatRows
import Derived.KernelRfl
import Derived.Laws.StructEq
import Derived.Laws.Small
section
/- Package machine: divide, force, Force, Linked, over this seat's translation (written by ax_mg.py). -/
namespace Go.Proofs.YtnikdbglpimadaaGreat
set_option linter.unusedVariables false
set_option linter.unusedSimpArgs false
open Go.RowKit

end Go.Proofs.YtnikdbglpimadaaGreat
end
section
/- Plain facts about flux: it is linear in the currents (P2.2); a coil alone has no force on itself (P2.5). -/
namespace Go.Proofs.YtnikdbglpimadaaGreat
set_option linter.unusedVariables false
set_option linter.unusedSimpArgs false
open Go.RowKit Go.Shelf

end Go.Proofs.YtnikdbglpimadaaGreat
end
section
/- Plain facts about mirrored machines (2.4, P2.3): a mirrored machine is valid, mirroring twice changes nothing, the flux at the mirrored place is the same. -/
namespace Go.Proofs.YtnikdbglpimadaaGreat
set_option linter.unusedVariables false
set_option linter.unusedSimpArgs false
open Go.RowKit Go.Shelf

end Go.Proofs.YtnikdbglpimadaaGreat
end
section
/- Abstract walking: cells of what a callee has made; tails that change places; rows of rows (Kernel). -/
namespace Go.Proofs.YtnikdbglpimadaaGreat
set_option linter.unusedVariables false
set_option linter.unusedSimpArgs false
set_option autoImplicit false
open Go.RowKit

/-- the influences of a cell on all cells -/
def rowK (g : GridD) (n i : Nat) : List Int := (List.range n).map fun (j : Nat) => infl (cellR g i) (cellZ g i) (cellR g j) (cellZ g j)
theorem rowK_length (g : GridD) (n i : Nat) : (rowK g n i).length = n := by simp [rowK]
/-- a list of slices of n items each -/
def slcs (n : Nat) (r : Option Addr × Nat) : List Value := [.slice r.1 n r.2]
/-- rows that lie among these boxes -/
def RowsIn (g : GridD) (n : Nat) (G : Boxes) (rows : List (Option Addr × Nat)) : Prop := ∀ (i : Nat) r, rows[i]? = some r → ∃ b sp, r.1 = some ⟨b, 0, none⟩ ∧ (b, Cont.cells ((rowK g n i).map (Value.int .i64) ++ sp)) ∈ G ∧ n ≤ r.2 ∧ r.2 ≤ 9223372036854775807
theorem Sta.rowK {N : Nat} {D : List Deferred} {w0 w : World} {U : Snaps} {L G : Boxes} {g : GridD} {n : Nat} {rows : List (Option Addr × Nat)} (h : Sta ⟨N, D, w0, []⟩ U L w) (hG : ∀ x ∈ G, x ∈ L) (hr : RowsIn g n G rows) : ∀ (i : Nat) r, rows[i]? = some r → NewT 1 intCells w0.heap.size w r.1 n r.2 (rowK g n i) := by
  intro i r hi
  obtain ⟨b, sp, e, hm, h1, h2⟩ := hr i r hi
  obtain ⟨j, hj⟩ := List.getElem?_of_mem (hG _ hm)
  refine ⟨?_, fun b' off e' => ?_, h1, h2⟩
  · rw [e]; exact isT_box (n := 1) (enc := intCells) (fun _ => rfl) (h.at j hj) (flat_int _) (rowK_length _ _ _)
  · rw [e] at e'; cases e'
    rcases (h.box j _ _ hj).1 with g1 | g1
    · exact g1
    · cases g1

end Go.Proofs.YtnikdbglpimadaaGreat
end
section
/- Abstract walking: min and max, lists among the tails that are written to, gifts behind the boxes. -/
namespace Go.Proofs.YtnikdbglpimadaaGreat
set_option linter.unusedVariables false
set_option linter.unusedSimpArgs false
set_option autoImplicit false
open Go.RowKit

section
variable {P : Program} {e0 : Cfg} {U : Snaps} {l : Slots} {L : Boxes} {ops : Array Oper} {Q : Exit → Act → World → Prop} {rest : List Oper} {d : Nat} {v : Value}
variable {ty : TypeId} {pos : String} {af : Array Edge} {g : Option (Nat × Bool)} {dd : Option Nat}

theorem q_max {ox oy : Operand} {x y : Int} {ts : Array TypeId} (hx : E l ox = some (.int .i64 x)) (hy : E l oy = some (.int .i64 y)) : Q1 P e0 U l L ⟨dd, .call ⟨.builtin .max, #[ox, oy], ts⟩, ty, pos, af, g⟩ (.int .i64 (max x y)) := by
  intro a w hf hs
  have e : (if y > x then y else x) = max x y := by omega
  simp [execOp, resolve, invoke, hf.ev hx, hf.ev hy, builtin, run_max_int2, run_min_int2, Result.andThen, e]
theorem q_min {ox oy : Operand} {x y : Int} {ts : Array TypeId} (hx : E l ox = some (.int .i64 x)) (hy : E l oy = some (.int .i64 y)) : Q1 P e0 U l L ⟨dd, .call ⟨.builtin .min, #[ox, oy], ts⟩, ty, pos, af, g⟩ (.int .i64 (min x y)) := by
  intro a w hf hs
  have e : (if y < x then y else x) = min x y := by omega
  simp [execOp, resolve, invoke, hf.ev hx, hf.ev hy, builtin, run_max_int2, run_min_int2, Result.andThen, e]
end
/-- one cell as a list's -/
theorem one_fact {w : World} {b : Nat} {u : Value} (h : w.cell? ⟨b, 0, none⟩ = some u) : ∀ (j : Nat) (v : Value), ([u] : List Value)[j]? = some v → w.cell? ⟨b, 0 + j, none⟩ = some v := fun j v hv => by
  rcases j with _ | j
  · rw [← Option.some.inj hv]; exact h
  · simp at hv
theorem Tl.of {L1 G L : Boxes} (h : L = L1 ++ G) : Tl L1 G L := by
  subst h
  induction L1 with
  | nil => exact .z
  | cons x r ih => exact .s ih
section
variable {P : Program} {e0 : Cfg} {U : Snaps} {l : Slots} {L : Boxes} {ops : Array Oper} {Q : Exit → Act → World → Prop} {rest : List Oper} {d : Nat} {v : Value}
variable {ty : TypeId} {pos : String} {af : Array Edge} {g : Option (Nat × Bool)} {dd : Option Nat}
end
end Go.Proofs.YtnikdbglpimadaaGreat
end
