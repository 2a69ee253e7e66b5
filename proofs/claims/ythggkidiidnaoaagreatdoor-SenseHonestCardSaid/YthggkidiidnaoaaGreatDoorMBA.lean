import Derived.Test.YthggkidiidnaoaaGreatDoorMAQ
import Derived.Test.YthggkidiidnaoaaGreatDoorMAR
import Derived.Test.YthggkidiidnaoaaGreatDoorMAS
import Derived.Test.YthggkidiidnaoaaGreatDoorMAY
import Derived.Test.YthggkidiidnaoaaGreatDoorMAZ
import Derived.LoopIn
namespace Go.Proofs.YthggkidiidnaoaaGreatDoor
set_option linter.unusedVariables false
set_option linter.unusedSimpArgs false
section
open Go.RowKit Go.Shelf
def candF (M : MachD) (C : CurD) (zs : List SpanD) (k : Nat) : Option (Int × Int × Int) :=
  if (commL (clL M (bgL M C) zs (k : Int))).2.2 = true then some ((k : Int), (commL (clL M (bgL M C) zs (k : Int))).1, (commL (clL M (bgL M C) zs (k : Int))).2.1) else none
def candL (M : MachD) (C : CurD) (zs : List SpanD) : List (Int × Int × Int) := (List.range C.plasma.length).filterMap (candF M C zs)
def candZ (M : MachD) (C : CurD) (zs : List SpanD) : List (Int × Int × Int) := if explB M C zs = true then candL M C zs else []
def candE (M : MachD) (C : CurD) (zs : List SpanD) : Int := if explB M C zs = true then 0 else 1
theorem filter_snoc {β : Type} (f : Nat → Option β) (j : Nat) : (List.range (j + 1)).filterMap f = (List.range j).filterMap f ++ (match f j with | some x => [x] | none => []) := by
  rw [List.range_succ, List.filterMap_append]
  cases h : f j <;> simp [h]
end
section
open Go.RowKit Go.Shelf
attribute [local go_sem] Oper.semAt_some
def agF (zs : List SpanD) (cur : Int) (k : Nat) : Option Int := if cont (zs.getD k ⟨0, 0⟩).lo (zs.getD k ⟨0, 0⟩).hi cur = true then some (k : Int) else none
def agL (zs : List SpanD) (cur : Int) : List Int := (List.range zs.length).filterMap (agF zs cur)
theorem agUp_len (f : Nat → Option Int) : ∀ k, ((List.range k).filterMap f).length ≤ k
  | 0 => by simp
  | k + 1 => by
    rw [filter_snoc, List.length_append]
    have := agUp_len f k
    cases f k <;> simp <;> omega
end
section
open Go.RowKit Go.Shelf
def AgIt (b1 b2 n cf : Nat) (F : Option Addr) (zs : List SpanD) (cur : Int) (w : World) : Prop :=
  IsT 2 SpanD.cells w F n zs ∧ w.cell? ⟨b1, 0, none⟩ = some (.slice F n cf) ∧ w.cell? ⟨b2, 0, none⟩ = some (.int .i64 cur) ∧ b1 < w.heap.size ∧ b2 < w.heap.size
theorem AgIt.below {b1 b2 n cf : Nat} {F : Option Addr} {zs : List SpanD} {cur : Int} {w w' : World} (h : AgIt b1 b2 n cf F zs cur w) (hb : Below w.heap.size w w') : AgIt b1 b2 n cf F zs cur w' :=
  ⟨h.1.below hb, (hb.cell (p := ⟨b1, 0, none⟩) h.2.2.2.1).trans h.2.1, (hb.cell (p := ⟨b2, 0, none⟩) h.2.2.2.2).trans h.2.2.1, Nat.lt_of_lt_of_le h.2.2.2.1 hb.size, Nat.lt_of_lt_of_le h.2.2.2.2 hb.size⟩
end
end Go.Proofs.YthggkidiidnaoaaGreatDoor
