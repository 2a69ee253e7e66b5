import Derived.Test.YthggkidiidnaoaaGreatDoorMAQ
import Derived.WalkSpells
import Derived.WalkLawsBesides
import Derived.RegionTactic
import Derived.StillTailTactics
import Derived.Deep.DeepCutAuto
import Derived.Deep.RegionLaw
import Derived.Deep.QuietTactic
import Derived.BigQuiet
namespace Go.Proofs.YthggkidiidnaoaaGreatDoor
set_option linter.unusedVariables false
set_option linter.unusedSimpArgs false
section
open Go.RowKit
end
section
open Go.RowKit
end
section
def Conv (P Q O : List Int) (i k : Nat) : Prop :=
  O.length = P.length + Q.length + 1 ∧ val O = val (P.take i) * val Q + P.getD i 0 * (pw i * val (Q.take k)) ∧ ∀ p, 0 ≤ O.getD p 0 ∧ O.getD p 0 ≤ ((i * 16 + k : Nat) : Int) * 100000000
end
section
open Go.RowKit
def RowI (w : World) (y : Nat) (O : List Int) : Prop := w.heap[y]? = some (.cells (O.map (Value.int .i64)).toArray 3 (0, 0))
theorem RowI.cell {w : World} {y : Nat} {O : List Int} (h : RowI w y O) {p : Nat} (hp : p < O.length) : w.cell? ⟨y, p, none⟩ = some (.int .i64 (O.getD p 0)) := by
  rw [cell_of_row w y p _ _ _ h]
  simp [hp, List.getD]
theorem RowI.frozen {w : World} {y : Nat} {O : List Int} (h : RowI w y O) (p : Nat) : w.frozen? ⟨y, p, none⟩ = false := by
  unfold RowI at h
  simp [World.frozen?, h]
theorem RowI.store {w : World} {y : Nat} {O : List Int} (h : RowI w y O) (p : Nat) (v : Int) : RowI (w.setCell ⟨y, p, none⟩ (.int .i64 v)) y (O.set p v) := by
  unfold RowI at h ⊢
  simp [World.setCell, Array.getElem?_modify, h, List.map_set]
theorem RowI.lt {w : World} {y : Nat} {O : List Int} (h : RowI w y O) : y < w.heap.size := by
  unfold RowI at h
  rcases Nat.lt_or_ge y w.heap.size with h1 | h1
  · exact h1
  · rw [Array.getElem?_eq_none h1] at h
    cases h
structure TW (w wr : World) (x y : Nat) (s0 s1 sx : Value) (bx : Bool) : Prop where
  c0 : wr.cell? ⟨w.heap.size, 1, none⟩ = some s0
  c1 : wr.cell? ⟨w.heap.size + 1, 1, none⟩ = some s1
  cx : wr.cell? ⟨x, 0, none⟩ = some (.bool bx)
  cx1 : wr.cell? ⟨x, 1, none⟩ = some sx
  hx : w.heap.size + 2 < x
  hy : w.heap.size + 2 < y
  hxy : x ≠ y
  lx : x < wr.heap.size
  ly : y < wr.heap.size
  r0 : (wr.cell? ⟨w.heap.size + 1 + 1, 0, none⟩).isSome = true
  f0 : wr.frozen? ⟨w.heap.size + 1 + 1, 0, none⟩ = false
  r1 : (wr.cell? ⟨w.heap.size + 1 + 1, 1, none⟩).isSome = true
  f1 : wr.frozen? ⟨w.heap.size + 1 + 1, 1, none⟩ = false
  hB : Below w.heap.size w wr
theorem TW.drew {w wr : World} {x y : Nat} {s0 s1 sx : Value} {bx : Bool} (h : TW w wr x y s0 s1 sx bx) : TW w wr.drew x y s0 s1 sx bx :=
  ⟨h.c0, h.c1, h.cx, h.cx1, h.hx, h.hy, h.hxy, h.lx, h.ly, h.r0, h.f0, h.r1, h.f1, h.hB.drew⟩
theorem TW.store {w wr : World} {x y : Nat} {s0 s1 sx : Value} {bx : Bool} (h : TW w wr x y s0 s1 sx bx) (p : Nat) (v : Value) : TW w (wr.setCell ⟨y, p, none⟩ v) x y s0 s1 sx bx := by
  have hy := h.hy
  have ne : ∀ b o : Nat, b ≠ y → (⟨y, p, none⟩ : Addr) ≠ ⟨b, o, none⟩ := fun b o hb e => hb (by injection e with e; exact e.symm)
  refine ⟨?_, ?_, ?_, ?_, h.hx, hy, h.hxy, by rw [World.size_setCell]; exact h.lx, by rw [World.size_setCell]; exact h.ly, by rw [isSome_setCell]; exact h.r0, by rw [World.frozen?_setCell]; exact h.f0, by rw [isSome_setCell]; exact h.r1, by rw [World.frozen?_setCell]; exact h.f1, h.hB.setCell (by simp; omega) _⟩
  · rw [World.cell?_setCell_other _ _ _ _ (ne _ _ (by omega))]; exact h.c0
  · rw [World.cell?_setCell_other _ _ _ _ (ne _ _ (by omega))]; exact h.c1
  · rw [World.cell?_setCell_other _ _ _ _ (ne _ _ h.hxy)]; exact h.cx
  · rw [World.cell?_setCell_other _ _ _ _ (ne _ _ h.hxy)]; exact h.cx1
end
section
open Go.RowKit
end
end Go.Proofs.YthggkidiidnaoaaGreatDoor
