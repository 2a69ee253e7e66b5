import Derived.Test.YthggkidiidnaoaaGreatDoorLAH
import Derived.Test.YthggkidiidnaoaaGreatDoorLAK
import Derived.Laws.Small
import Derived.Lib.AppendZeros
import Derived.Laws.IdiomCopy
namespace Go.Proofs.YthggkidiidnaoaaGreatDoor
set_option linter.unusedVariables false
set_option linter.unusedSimpArgs false
section
open Go.RowKit Go.Shelf
end
section
set_option autoImplicit false
open Go.RowKit
def rowK (g : GridD) (n i : Nat) : List Int := (List.range n).map fun (j : Nat) => infl (cellR g i) (cellZ g i) (cellR g j) (cellZ g j)
theorem rowK_length (g : GridD) (n i : Nat) : (rowK g n i).length = n := by simp [rowK]
theorem set_fill {α : Type} (xs : List α) (k n : Nat) (z v : α) (hx : xs.length = k) (hk : k < n) : (xs ++ List.replicate (n - k) z).set k v = (xs ++ [v]) ++ List.replicate (n - (k + 1)) z := by
  rw [List.set_append_right _ _ (by omega), hx, Nat.sub_self]
  obtain ⟨m, hm⟩ : ∃ m, n - k = m + 1 := ⟨n - k - 1, by omega⟩
  rw [hm, List.replicate_succ, List.set_cons_zero, show n - (k + 1) = m by omega, List.append_assoc]; rfl
def RowsIn (g : GridD) (n : Nat) (G : Boxes) (rows : List (Option Addr × Nat)) : Prop := ∀ (i : Nat) r, rows[i]? = some r → ∃ b sp, r.1 = some ⟨b, 0, none⟩ ∧ (b, Cont.cells ((rowK g n i).map (Value.int .i64) ++ sp)) ∈ G ∧ n ≤ r.2 ∧ r.2 ≤ 9223372036854775807
theorem Sta.rowK {N : Nat} {D : List Deferred} {w0 w : World} {U : Snaps} {L G : Boxes} {g : GridD} {n : Nat} {rows : List (Option Addr × Nat)} (h : Sta ⟨N, D, w0, []⟩ U L w) (hG : ∀ x ∈ G, x ∈ L) (hr : RowsIn g n G rows) : ∀ (i : Nat) r, rows[i]? = some r → NewT 1 intCells w0.heap.size w r.1 n r.2 (rowK g n i) := by
  intro i r hi
  obtain ⟨b, sp, e, hm, h1, h2⟩ := hr i r hi
  obtain ⟨j, hj⟩ := List.getElem?_of_mem (hG _ hm)
  refine ⟨?_, fun b' off e' => ?_, h1, h2⟩
  · rw [e]; exact isT_box (n := 1) (enc := intCells) (fun _ => rfl) (h.at j hj) (flat_int _) (rowK_length _ _ _)
  · rw [e] at e'; cases e'
    rcases (h.box j _ _ hj).1 with g1 | g1
    · exact g1
    · cases g1
end
section
set_option autoImplicit false
open Go.RowKit
section
variable {P : Program} {e0 : Cfg} {U : Snaps} {l : Slots} {L : Boxes} {ops : Array Oper} {Q : Exit → Act → World → Prop} {rest : List Oper} {d : Nat} {v : Value}
variable {ty : TypeId} {pos : String} {af : Array Edge} {g : Option (Nat × Bool)} {dd : Option Nat}
theorem q_max {ox oy : Operand} {x y : Int} {ts : Array TypeId} (hx : E l ox = some (.int .i64 x)) (hy : E l oy = some (.int .i64 y)) : Q1 P e0 U l L ⟨dd, .call ⟨.builtin .max, #[ox, oy], ts⟩, ty, pos, af, g⟩ (.int .i64 (max x y)) := by
  intro a w hf hs
  have e : (if y > x then y else x) = max x y := by omega
  simp [execOp, resolve, invoke, hf.ev hx, hf.ev hy, builtin, run_max_int2, run_min_int2, Result.andThen, e]
theorem q_min {ox oy : Operand} {x y : Int} {ts : Array TypeId} (hx : E l ox = some (.int .i64 x)) (hy : E l oy = some (.int .i64 y)) : Q1 P e0 U l L ⟨dd, .call ⟨.builtin .min, #[ox, oy], ts⟩, ty, pos, af, g⟩ (.int .i64 (min x y)) := by
  intro a w hf hs
  have e : (if y < x then y else x) = min x y := by omega
  simp [execOp, resolve, invoke, hf.ev hx, hf.ev hy, builtin, run_max_int2, run_min_int2, Result.andThen, e]
end
theorem Tl.of {L1 G L : Boxes} (h : L = L1 ++ G) : Tl L1 G L := by
  subst h
  induction L1 with
  | nil => exact .z
  | cons x r ih => exact .s ih
section
variable {P : Program} {e0 : Cfg} {U : Snaps} {l : Slots} {L : Boxes} {ops : Array Oper} {Q : Exit → Act → World → Prop} {rest : List Oper} {d : Nat} {v : Value}
variable {ty : TypeId} {pos : String} {af : Array Edge} {g : Option (Nat × Bool)} {dd : Option Nat}
end
end
section
open Go.RowKit
structure StD where
  (tick : Int) (C : CurD) (heat : List Int) (trip : List Bool)
structure StR where
  (Q : CurR) (H T : Option Addr) (lh ch lt ct : Nat)
def boolCells (b : Bool) : List Value := [.bool b]
abbrev StR.v (R : StR) (n : Int) : Value := .agg #[.int .i64 n, .slice R.Q.A R.Q.la R.Q.ca, .slice R.Q.B R.Q.lb R.Q.cb, .slice R.Q.C R.Q.lc R.Q.cc, .slice R.H R.lh R.ch, .slice R.T R.lt R.ct]
structure IsS (w : World) (R : StR) (S : StD) : Prop where
  cur : IsC w R.Q S.C
  heat : IsT 1 intCells w R.H R.lh S.heat
  trip : IsT 1 boolCells w R.T R.lt S.trip
  lh : R.lh ≤ R.ch
  lt : R.lt ≤ R.ct
  ch : R.ch ≤ 9223372036854775807
  ct : R.ct ≤ 9223372036854775807
  kh : R.lh ≤ 1000000000000000
  kt : R.lt ≤ 9223372036854775807
theorem IsS.below {w w1 : World} {R : StR} {S : StD} (h : IsS w R S) (hb : Below w.heap.size w w1) : IsS w1 R S :=
  ⟨h.cur.below hb, h.heat.below hb, h.trip.below hb, h.lh, h.lt, h.ch, h.ct, h.kh, h.kt⟩
theorem getD_get {α : Type} {l : List α} {d : α} {k : Nat} (h : k < l.length) : l[k]? = some (l.getD k d) := by
  rw [List.getD_eq_getElem?_getD, List.getElem?_eq_getElem h]; rfl
end
section
set_option autoImplicit false
open Go.RowKit
theorem range_at {n k : Nat} (hk : k < n) : List.range n = List.range k ++ k :: List.range' (k + 1) (n - (k + 1)) := by
  have h : n = k + ((n - (k + 1)) + 1) := by omega
  conv => lhs; rw [h, List.range_add, List.range_succ_eq_map]
  rw [List.map_cons, List.map_map, Nat.add_zero, List.range'_eq_map_range]
  congr 2
  apply List.map_congr_left
  intro a _
  simp only [Function.comp_def]
  omega
section
variable {P : Program} {e0 : Cfg} {U : Snaps} {l : Slots} {L : Boxes} {ops : Array Oper} {Q : Exit → Act → World → Prop} {rest : List Oper} {d : Nat} {v : Value}
variable {ty : TypeId} {pos : String} {af : Array Edge} {g : Option (Nat × Bool)} {dd : Option Nat}
end
def RowsF (F : Nat → List Int) (m : Nat) (G : Boxes) (rows : List (Option Addr × Nat)) : Prop := ∀ (i : Nat) r, rows[i]? = some r → ∃ b sp, r.1 = some ⟨b, 0, none⟩ ∧ (b, Cont.cells ((F i).map (Value.int .i64) ++ sp)) ∈ G ∧ (F i).length = m ∧ m ≤ r.2 ∧ r.2 ≤ 9223372036854775807
theorem RowsF.nil (F : Nat → List Int) (m : Nat) (G : Boxes) : RowsF F m G [] := fun i r h => by simp at h
end
section
set_option autoImplicit false
open Go.RowKit
section
variable {P : Program} {e0 : Cfg} {U : Snaps} {l : Slots} {L : Boxes} {ops : Array Oper} {Q : Exit → Act → World → Prop} {rest : List Oper} {d : Nat} {v : Value}
variable {ty : TypeId} {pos : String} {af : Array Edge} {g : Option (Nat × Bool)} {dd : Option Nat}
end
end
section
set_option autoImplicit false
open Go.RowKit
section
variable {P : Program} {e0 : Cfg} {U : Snaps} {l : Slots} {L : Boxes} {ops : Array Oper} {Q : Exit → Act → World → Prop} {rest : List Oper} {d : Nat} {v : Value}
variable {ty : TypeId} {pos : String} {af : Array Edge} {g : Option (Nat × Bool)} {dd : Option Nat}
end
end
end Go.Proofs.YthggkidiidnaoaaGreatDoor
