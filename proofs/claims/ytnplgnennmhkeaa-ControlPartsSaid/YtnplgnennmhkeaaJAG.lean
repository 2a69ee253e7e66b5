import Derived.Test.YtnplgnennmhkeaaJAA
import Derived.Test.YtnplgnennmhkeaaJAD
import Derived.Test.YtnplgnennmhkeaaJAF
import Derived.Handy
import Derived.Deep.RegionHeld3
import Derived.Deep.DeepCutAuto
import Derived.Deep.QuietTactic
import Derived.BigQuiet
import Derived.IntWalk
import Derived.RangeFuncNested
import Derived.RangeFuncBound
import Derived.RangeFuncCalls
import Derived.RangeFuncLeaves
import Derived.Shelf.Abstract
import Derived.Shelf.RegionOpen
import Derived.WalkKit
import Derived.OwnWalkIn
import Derived.TacticsInMore
import Derived.LoopNIn
import Derived.LoopIn
import Derived.OrdersIn
import Derived.Laws.World
import Derived.Sort.CutIn
section
/- Package machine: the contract of Influence, over this seat's translation. -/
namespace Go.Proofs.Ytnplgnennmhkeaa
set_option linter.unusedVariables false
set_option linter.unusedSimpArgs false
open Go.RowKit

end Go.Proofs.Ytnplgnennmhkeaa
end
section
/- The specification of layer 2: Influence, over this seat's translation. -/
namespace Go.Proofs.Ytnplgnennmhkeaa
set_option linter.unusedVariables false
set_option linter.unusedSimpArgs false
open Go.RowKit

end Go.Proofs.Ytnplgnennmhkeaa
end
section
/- slices.IndexFunc and ContainsFunc over []int, over this seat's translation (written by mk_mac.py). -/
namespace Go.Proofs.Ytnplgnennmhkeaa
set_option linter.unusedVariables false
set_option linter.unusedSimpArgs false
open Go.RowKit

end Go.Proofs.Ytnplgnennmhkeaa
end
section
/- Package machine: contracts of allWithin and Total, over this seat's translation; what valid currents are. -/
namespace Go.Proofs.Ytnplgnennmhkeaa
set_option linter.unusedVariables false
set_option linter.unusedSimpArgs false
open Go.RowKit Go.Shelf

/-- Where the lists of currents lie. -/
structure CurR where
  (A B C : Option Addr) (la ca lb cb lc cc : Nat)
structure CurD where
  (coils shells plasma : List Int)
abbrev CurR.v (R : CurR) : Value := .agg #[.slice R.A R.la R.ca, .slice R.B R.lb R.cb, .slice R.C R.lc R.cc]
structure IsC (w : World) (R : CurR) (C : CurD) : Prop where
  coils : IsT 1 intCells w R.A R.la C.coils
  shells : IsT 1 intCells w R.B R.lb C.shells
  plasma : IsT 1 intCells w R.C R.lc C.plasma
  la : R.la ≤ R.ca
  lb : R.lb ≤ R.cb
  lc : R.lc ≤ R.cc
  ca : R.ca ≤ 9223372036854775807
  cb : R.cb ≤ 9223372036854775807
  cc : R.cc ≤ 9223372036854775807
  ka : R.la ≤ 1000000000000000
  kb : R.lb ≤ 1000000000000000
  kc : R.lc ≤ 1000000000000000
theorem IsC.below {w w1 : World} {R : CurR} {C : CurD} (h : IsC w R C) (hb : Below w.heap.size w w1) : IsC w1 R C :=
  ⟨h.coils.below hb, h.shells.below hb, h.plasma.below hb, h.la, h.lb, h.lc, h.ca, h.cb, h.cc, h.ka, h.kb, h.kc⟩

end Go.Proofs.Ytnplgnennmhkeaa
end
section
/- Package machine: the iterator sources of a machine that has neither coils nor shells, and fluxAt over it, over this seat's translation. -/
namespace Go.Proofs.Ytnplgnennmhkeaa
set_option linter.unusedVariables false
set_option linter.unusedSimpArgs false
open Go.RowKit Go.Shelf
attribute [local go_sem] Oper.semAt_some

/-- What a round keeps: what lay below n₀, and the two boxes of the iterator. -/
def KpF (n₀ tm tc : Nat) (W W' : World) : Prop := Below n₀ W W' ∧ ∀ b o, b = tm ∨ b = tc → W'.cell? ⟨b, o, none⟩ = W.cell? ⟨b, o, none⟩
theorem KpF.t {n₀ tm tc : Nat} {A B C : World} (h : KpF n₀ tm tc A B) (k : KpF n₀ tm tc B C) : KpF n₀ tm tc A C := ⟨h.1.trans k.1, fun b o hb => (k.2 b o hb).trans (h.2 b o hb)⟩
theorem KpF.refl (n₀ tm tc : Nat) (A : World) : KpF n₀ tm tc A A := ⟨Below.refl _ _, fun _ _ _ => rfl⟩
theorem KpF.b {n₀ tm tc : Nat} {w : World} (hn : n₀ ≤ w.heap.size) (h1 : tm < w.heap.size) (h2 : tc < w.heap.size) (W : World) (l : Nat) (o o' : Obj) (hl : w.heap.size ≤ l) (h : W.heap[l]? = some o) (a : o.isCells = false) (b : o.isWalk = false) : KpF n₀ tm tc W (W.putObj l o') :=
  ⟨belowK_b hn W l o o' hl h a b, fun k i hk => World.cell?_of_block (w := W) (a := ⟨k, i, none⟩) (World.putObj_heap_other (by intro e; dsimp only at e; omega))⟩
theorem KpF.cell {n₀ tm tc : Nat} {W W' : World} (h : KpF n₀ tm tc W W') {b o : Nat} {v : Value} (hb : b = tm ∨ b = tc) (hv : W.cell? ⟨b, o, none⟩ = some v) : W'.cell? ⟨b, o, none⟩ = some v := (h.2 b o hb).trans hv

end Go.Proofs.Ytnplgnennmhkeaa
end
section
/- Regions that draw their order, inside a fence, where the loads yield the same in every world of a class: my own laws beside the library's for activations outside of a fence. -/
namespace Go.Proofs.Ytnplgnennmhkeaa
set_option linter.unusedVariables false

section
variable {F : Fence} {n : Nat} {P : Program} {ops : Array Oper} {Q : Exit → Act → World → Prop} {md : Region.Mode} {S : World → Prop}

/-- In every world of the class, the operation gives v and leaves the world; it calls nothing. -/
structure Gives (P : Program) (ops : Array Oper) (S : World → Prop) (o : Oper) (v : Value) (a : Act) : Prop where
  gives : (Region.wanted o (yielded ops a.tmps) = true ∧ ∀ w, S w → (execOp a.eval o).run P w = .ok (.value v) w) ∨ (Region.wanted o (yielded ops a.tmps) = false ∧ v = undef)
  calm : ∀ w, o.about P w a.eval = none

theorem Gives.same {o : Oper} {v : Value} {a b : Act} (h : Gives P ops S o v a) (he : execOp b.eval o = execOp a.eval o) (hw : Region.wanted o (yielded ops b.tmps) = Region.wanted o (yielded ops a.tmps)) (hc : ∀ w, o.about P w b.eval = o.about P w a.eval) : Gives P ops S o v b :=
  ⟨by rw [he, hw]; exact h.gives, fun w => by rw [hc]; exact h.calm w⟩

theorem Gives.step {i : Nat} {o : Oper} {v : Value} {a : Act} (hro : F.round = none) (hi : ops[i]? = some o) (h : Gives P ops S o v a) {K : Act → World → Prop} {w : World} (hS : S w) (hK : K (a.put o.dst v) w) : wpOpIn F n P ops Q i K a w := by
  unfold wpOpIn
  simp only [hi]
  have hab : ∀ f, o.about P w a.eval = some f → F.fn f := fun f hf => by rw [h.calm w] at hf; cases hf
  rcases h.gives with ⟨hw, hv⟩ | ⟨hw, rfl⟩
  · simp only [hw, if_true, Oper.wpIn, hro, Oper.semAt_none, hv w hS, Oper.uponIn]; exact ⟨hab, hK⟩
  · simp only [hw, Bool.false_eq_true, if_false]; exact ⟨hab, hK⟩

/-- What has come up has all behind it that it waits for. -/
def Closed (md : Region.Mode) (ops : Array Oper) (listed : Array Bool) : Prop :=
  ∀ (k : Nat) (o : Oper), ops[k]? = some o → listed.getD k false = true → ∀ e ∈ o.after, Region.binds md e = true → listed.getD e.on false = true
theorem getD_keep {listed : Array Bool} {i k : Nat} (h : listed.getD k false = true) : (listed.setIfInBounds i true).getD k false = true := by
  by_cases e : i = k
  · subst e
    rcases Nat.lt_or_ge i listed.size with h' | h'
    · simp [h']
    · simp [Array.getElem?_eq_none h'] at h
  · rw [getD_set_ne false e]; exact h
theorem Closed.step {listed : Array Bool} {j : Nat} (h : Closed md ops listed) (hj : j ∈ Region.ready md ops listed) : Closed md ops (listed.setIfInBounds j true) := by
  intro k o ho hk e he hb
  by_cases hjk : j = k
  · subst hjk
    obtain ⟨-, o', ho', hall⟩ := mem_ready.1 hj
    obtain rfl : o' = o := Option.some.inj (ho'.symm.trans ho)
    exact getD_keep (hall e he hb)
  · rw [getD_set_ne false hjk] at hk
    exact getD_keep (h k o ho hk e he hb)
end
end Go.Proofs.Ytnplgnennmhkeaa
end
section
/- Package machine: the iterator sources of any machine, over this seat's translation (written by mk_src.py). -/
namespace Go.Proofs.Ytnplgnennmhkeaa
set_option linter.unusedVariables false
set_option linter.unusedSimpArgs false
open Go.RowKit Go.Shelf
attribute [local go_sem] Oper.semAt_some

end Go.Proofs.Ytnplgnennmhkeaa
end
section
/- Package machine: fluxAt over any machine, over this seat's translation (written by mk_flux2.py). -/
namespace Go.Proofs.Ytnplgnennmhkeaa
set_option linter.unusedVariables false
set_option linter.unusedSimpArgs false
open Go.RowKit Go.Shelf
attribute [local go_sem] Oper.semAt_some

end Go.Proofs.Ytnplgnennmhkeaa
end
section
/- Package machine: fluxAt over a machine that has neither coils nor shells, over this seat's translation (written by mk_flux.py). -/
namespace Go.Proofs.Ytnplgnennmhkeaa
set_option linter.unusedVariables false
set_option linter.unusedSimpArgs false
open Go.RowKit Go.Shelf
attribute [local go_sem] Oper.semAt_some

end Go.Proofs.Ytnplgnennmhkeaa
end
section
/- Package machine: ValidCurrents, where the machine is not valid, over this seat's translation (written by mk_vc.py). -/
namespace Go.Proofs.Ytnplgnennmhkeaa
set_option linter.unusedVariables false
set_option linter.unusedSimpArgs false
open Go.RowKit Go.Shelf

end Go.Proofs.Ytnplgnennmhkeaa
end
section
/- Package machine: ValidCurrents, where the coils are not as many, over this seat's translation (written by mk_vc.py). -/
namespace Go.Proofs.Ytnplgnennmhkeaa
set_option linter.unusedVariables false
set_option linter.unusedSimpArgs false
open Go.RowKit Go.Shelf

end Go.Proofs.Ytnplgnennmhkeaa
end
section
/- Package machine: ValidCurrents, where a coil's current is out of its range, over this seat's translation (written by mk_vc.py). -/
namespace Go.Proofs.Ytnplgnennmhkeaa
set_option linter.unusedVariables false
set_option linter.unusedSimpArgs false
open Go.RowKit Go.Shelf

end Go.Proofs.Ytnplgnennmhkeaa
end
section
/- Package machine: ValidCurrents, where the shells are not as many, over this seat's translation (written by mk_vc.py). -/
namespace Go.Proofs.Ytnplgnennmhkeaa
set_option linter.unusedVariables false
set_option linter.unusedSimpArgs false
open Go.RowKit Go.Shelf

end Go.Proofs.Ytnplgnennmhkeaa
end
section
/- Package machine: ValidCurrents, where a shell's current is out of its range, over this seat's translation (written by mk_vc.py). -/
namespace Go.Proofs.Ytnplgnennmhkeaa
set_option linter.unusedVariables false
set_option linter.unusedSimpArgs false
open Go.RowKit Go.Shelf

end Go.Proofs.Ytnplgnennmhkeaa
end
section
/- Package machine: ValidCurrents, where the cells are not as many, over this seat's translation (written by mk_vc.py). -/
namespace Go.Proofs.Ytnplgnennmhkeaa
set_option linter.unusedVariables false
set_option linter.unusedSimpArgs false
open Go.RowKit Go.Shelf

end Go.Proofs.Ytnplgnennmhkeaa
end
section
/- Package machine: ValidCurrents, where a cell's current is out of its range, over this seat's translation (written by mk_vc.py). -/
namespace Go.Proofs.Ytnplgnennmhkeaa
set_option linter.unusedVariables false
set_option linter.unusedSimpArgs false
open Go.RowKit Go.Shelf

end Go.Proofs.Ytnplgnennmhkeaa
end
section
/- Package machine: ValidCurrents, where the sum is too large, over this seat's translation (written by mk_vc.py). -/
namespace Go.Proofs.Ytnplgnennmhkeaa
set_option linter.unusedVariables false
set_option linter.unusedSimpArgs false
open Go.RowKit Go.Shelf

end Go.Proofs.Ytnplgnennmhkeaa
end
section
/- Package machine: ValidCurrents, where all holds, over this seat's translation (written by mk_vc.py). -/
namespace Go.Proofs.Ytnplgnennmhkeaa
set_option linter.unusedVariables false
set_option linter.unusedSimpArgs false
open Go.RowKit Go.Shelf

end Go.Proofs.Ytnplgnennmhkeaa
end
section
/- Package machine: the contract of ValidCurrents, over this seat's translation. -/
namespace Go.Proofs.Ytnplgnennmhkeaa
set_option linter.unusedVariables false
set_option linter.unusedSimpArgs false
open Go.RowKit Go.Shelf

theorem rng_zero {b : Bool} (h : rng b = 0) : b = true := by unfold rng at h; split at h <;> simp_all
theorem orL_zero {x : Int} {r : List Int} (h : orL (x :: r) = 0) : x = 0 ∧ orL r = 0 := by
  have : (if x = 0 then orL r else x) = 0 := h
  split at this
  · exact ⟨‹_›, this⟩
  · exact absurd this ‹_›
/-- The grid of a valid machine. -/
theorem grid_of {M : MachD} (h : checkC M = 0) : gridC M.grid = 0 := (orL_zero (orL_zero (orL_zero (orL_zero (orL_zero h).2).2).2).2).1
theorem fine_grid {g : GridD} (h : gridC g = 0) : g.Fine := by
  unfold gridC at h
  split at h
  · split at h
    · exact fine_of ‹_› ‹_›
    · cases h
  · cases h
theorem int_eq (a b : Nat) : (((a : Int) == b) = decide (a = b)) := by
  by_cases h : a = b
  · subst h; simp
  · rw [decide_eq_false h, beq_eq_false_iff_ne]; omega

end Go.Proofs.Ytnplgnennmhkeaa
end
section
/- Package machine: Exact of a flux sensor over a machine that has neither coils nor shells, over this seat's translation. -/
namespace Go.Proofs.Ytnplgnennmhkeaa
set_option linter.unusedVariables false
set_option linter.unusedSimpArgs false
open Go.RowKit Go.Shelf

end Go.Proofs.Ytnplgnennmhkeaa
end
section
/- Package machine: the flux of valid currents as a plain sum; fluxAt over them, over this seat's translation (written by mk_fld.py). -/
namespace Go.Proofs.Ytnplgnennmhkeaa
set_option linter.unusedVariables false
set_option linter.unusedSimpArgs false
open Go.RowKit Go.Shelf

theorem eachGo_all {α : Type} {chk : α → List α → Int} : ∀ (l pre : List α), eachGo chk pre l = 0 → ∀ x ∈ l, ∃ e, chk x e = 0
  | [], _, _, x, hx => by cases hx
  | y :: r, pre, h, x, hx => by
    unfold eachGo at h
    by_cases hc : chk y pre = 0
    · rw [if_pos hc] at h
      rcases List.mem_cons.1 hx with rfl | hx
      · exact ⟨pre, hc⟩
      · exact eachGo_all r _ h x hx
    · rw [if_neg hc] at h; exact absurd h hc
theorem eachC_all {α : Type} {chk : α → List α → Int} {most : Int} {l : List α} (h : eachC chk most l = 0) : (l.length : Int) ≤ most ∧ ∀ x ∈ l, ∃ e, chk x e = 0 := by
  unfold eachC at h
  by_cases hm : most < l.length
  · rw [if_pos hm] at h; simp at h
  · rw [if_neg hm] at h; exact ⟨by omega, eachGo_all _ _ h⟩
theorem near_iff {r z f : Int} : nearB r z f = true ↔ (-f ≤ r ∧ r ≤ f) ∧ -f ≤ z ∧ z ≤ f := by simp [nearB, wthn]
theorem coil_ok {c : CoilD} {e : List CoilD} (h : coilC c e = 0) : (1 ≤ c.turns ∧ c.turns ≤ 100) ∧ (-60 ≤ c.r ∧ c.r ≤ 60) ∧ -60 ≤ c.z ∧ c.z ≤ 60 := by
  unfold coilC at h
  split at h
  · split at h
    · simp at h
    · have h1 := rng_zero h
      simp only [Bool.and_eq_true] at h1
      exact ⟨wthn_iff.1 h1.2.1, near_iff.1 h1.1⟩
  · simp at h
theorem shell_ok {c : ShellD} {e : List ShellD} (h : shellC c e = 0) : (-60 ≤ c.r ∧ c.r ≤ 60) ∧ -60 ≤ c.z ∧ c.z ≤ 60 := by
  unfold shellC at h
  have h1 := rng_zero h
  simp only [Bool.and_eq_true] at h1
  exact near_iff.1 h1.1
theorem sensor_ok {c : SensorD} {e : List SensorD} (h : sensorC c e = 0) : (1 ≤ c.kind ∧ c.kind ≤ 3) ∧ ((-60 ≤ c.r ∧ c.r ≤ 60) ∧ -60 ≤ c.z ∧ c.z ≤ 60) ∧ 0 ≤ c.error ∧ c.error ≤ 1000000000 := by
  unfold sensorC at h
  split at h
  · split at h
    · simp at h
    · have h1 := rng_zero h
      simp only [Bool.and_eq_true] at h1
      exact ⟨wthn_iff.1 h1.1, near_iff.1 h1.2.1, wthn_iff.1 h1.2.2⟩
  · simp at h
/-- What a machine without an error is. -/
structure Sound (M : MachD) : Prop where
  coils : (M.coils.length : Int) ≤ 12 ∧ ∀ x ∈ M.coils, (1 ≤ x.turns ∧ x.turns ≤ 100) ∧ (-60 ≤ x.r ∧ x.r ≤ 60) ∧ -60 ≤ x.z ∧ x.z ≤ 60
  shells : (M.shells.length : Int) ≤ 16 ∧ ∀ x ∈ M.shells, (-60 ≤ x.r ∧ x.r ≤ 60) ∧ -60 ≤ x.z ∧ x.z ≤ 60
  sensors : (M.sensors.length : Int) ≤ 24 ∧ ∀ x ∈ M.sensors, (1 ≤ x.kind ∧ x.kind ≤ 3) ∧ ((-60 ≤ x.r ∧ x.r ≤ 60) ∧ -60 ≤ x.z ∧ x.z ≤ 60) ∧ 0 ≤ x.error ∧ x.error ≤ 1000000000
  grid : M.grid.Fine
theorem sound_of {M : MachD} (h : checkC M = 0) : Sound M := by
  have h1 := (orL_zero (orL_zero h).2)
  have h2 := orL_zero h1.2
  have h6 := (orL_zero (orL_zero (orL_zero h2.2).2).2).1
  have c := eachC_all h1.1
  have s := eachC_all h2.1
  have q := eachC_all h6
  exact ⟨⟨c.1, fun x hx => (c.2 x hx).elim fun e he => coil_ok he⟩, ⟨s.1, fun x hx => (s.2 x hx).elim fun e he => shell_ok he⟩, ⟨q.1, fun x hx => (q.2 x hx).elim fun e he => sensor_ok he⟩, fine_grid (grid_of h)⟩
end Go.Proofs.Ytnplgnennmhkeaa
end
section
/- The cells of a machine: Cells, at, Cell of the specification, and Cell of package machine, over this seat's translation (written by mk_refd.py). -/
namespace Go.Proofs.Ytnplgnennmhkeaa
set_option linter.unusedVariables false
set_option linter.unusedSimpArgs false
open Go.RowKit Go.Shelf

end Go.Proofs.Ytnplgnennmhkeaa
end
