import Derived.Test.YtapldonpflgnfaaGreatDoorKAP
import Derived.Test.YtapldonpflgnfaaGreatDoorKAY
import Derived.Test.YtapldonpflgnfaaGreatDoorKBE
import Derived.Test.YtapldonpflgnfaaGreatDoorKBF
import Derived.Test.YtapldonpflgnfaaGreatDoorKBH
namespace Go.Proofs.YtapldonpflgnfaaGreatDoor
set_option linter.unusedVariables false
set_option linter.unusedSimpArgs false
section
open Go.RowKit Go.Shelf
def aldL (M : MachD) (C : CurD) (zs : List SpanD) (s cell : Int) : Int × Int × Int :=
  if explB M C zs = true then if (respL M s cell).2 = 0 then
    if vld (allowL (zs.getD s.toNat ⟨0, 0⟩).lo (zs.getD s.toNat ⟨0, 0⟩).hi (backL M C s).1 (respL M s cell).1).1 (allowL (zs.getD s.toNat ⟨0, 0⟩).lo (zs.getD s.toNat ⟨0, 0⟩).hi (backL M C s).1 (respL M s cell).1).2 = true
    then ((allowL (zs.getD s.toNat ⟨0, 0⟩).lo (zs.getD s.toNat ⟨0, 0⟩).hi (backL M C s).1 (respL M s cell).1).1, (allowL (zs.getD s.toNat ⟨0, 0⟩).lo (zs.getD s.toNat ⟨0, 0⟩).hi (backL M C s).1 (respL M s cell).1).2, 0) else (0, 0, 8)
  else (0, 0, (respL M s cell).2) else (0, 0, 1)
theorem respL_in {M : MachD} {s cell : Int} (h : (respL M s cell).2 = 0) : checkC M = 0 ∧ wthn s 0 ((M.sensors.length : Int) - 1) = true ∧ (cellL M cell).2.2 = 0 := by
  unfold respL at h
  by_cases hc : (cellL M cell).2.2 = 0
  · rw [if_pos hc] at h
    refine ⟨cellL_check hc, ?_, hc⟩
    cases hs : wthn s 0 ((M.sensors.length : Int) - 1)
    · rw [hs] at h; simp at h
    · rfl
  · rw [if_neg hc] at h
    exact absurd h hc
end
section
open Go.RowKit
structure StD where
  (tick : Int) (C : CurD) (heat : List Int) (trip : List Bool)
structure StR where
  (Q : CurR) (H T : Option Addr) (lh ch lt ct : Nat)
def boolCells (b : Bool) : List Value := [.bool b]
abbrev StR.v (R : StR) (n : Int) : Value := .agg #[.int .i64 n, .slice R.Q.A R.Q.la R.Q.ca, .slice R.Q.B R.Q.lb R.Q.cb, .slice R.Q.C R.Q.lc R.Q.cc, .slice R.H R.lh R.ch, .slice R.T R.lt R.ct]
structure IsS (w : World) (R : StR) (S : StD) : Prop where
  cur : IsC w R.Q S.C
  heat : IsT 1 intCells w R.H R.lh S.heat
  trip : IsT 1 boolCells w R.T R.lt S.trip
  lh : R.lh ≤ R.ch
  lt : R.lt ≤ R.ct
  ch : R.ch ≤ 9223372036854775807
  ct : R.ct ≤ 9223372036854775807
  kh : R.lh ≤ 1000000000000000
  kt : R.lt ≤ 9223372036854775807
theorem IsS.below {w w1 : World} {R : StR} {S : StD} (h : IsS w R S) (hb : Below w.heap.size w w1) : IsS w1 R S :=
  ⟨h.cur.below hb, h.heat.below hb, h.trip.below hb, h.lh, h.lt, h.ch, h.ct, h.kh, h.kt⟩
theorem getD_get {α : Type} {l : List α} {d : α} {k : Nat} (h : k < l.length) : l[k]? = some (l.getD k d) := by
  rw [List.getD_eq_getElem?_getD, List.getElem?_eq_getElem h]; rfl
end
end Go.Proofs.YtapldonpflgnfaaGreatDoor
