import Derived.Test.YtkhahbnagbjbiaaGreatNAA
import Derived.Test.YtkhahbnagbjbiaaGreatNAB
import Derived.Test.YtkhahbnagbjbiaaGreatNAO
import Derived.Test.YtkhahbnagbjbiaaGreatNBK
import Derived.Test.YtkhahbnagbjbiaaGreatNBM
import Derived.Test.YtkhahbnagbjbiaaGreatRows
import Derived.KernelRfl
import Derived.Laws.StructEq
import Derived.ProofKit
import Derived.OpenShut
import Derived.Lib.SmallJoins
import Derived.Deep.Slices
import Derived.Carry
section
/- Abstract walking: drawn regions in which several operations make memory: what is done, in whatever order, is walked once. -/
namespace Go.Proofs.YtkhahbnagbjbiaaGreat
set_option linter.unusedVariables false
set_option linter.unusedSimpArgs false
set_option autoImplicit false
open Go.RowKit

inductive Ins (x : Nat × Cont) : Boxes → Boxes → Prop
  | here {L : Boxes} : Ins x L (x :: L)
  | there {y : Nat × Cont} {L L' : Boxes} (h : Ins x L L') : Ins x (y :: L) (y :: L')
theorem Ins.perm {x : Nat × Cont} {L L' : Boxes} (h : Ins x L L') : L'.Perm (x :: L) := by
  induction h with
  | here => exact List.Perm.refl _
  | there h ih => exact (List.Perm.cons _ ih).trans (List.Perm.swap _ _ _)
/-- the second list holds the first one's boxes in another order -/
inductive Pm : Boxes → Boxes → Prop
  | refl {L : Boxes} : Pm L L
  | cons {x : Nat × Cont} {M L L' : Boxes} (h : Ins x L L') (t : Pm M L) : Pm (x :: M) L'
theorem Pm.perm {M L : Boxes} (h : Pm M L) : L.Perm M := by
  induction h with
  | refl => exact List.Perm.refl _
  | cons h t ih => exact h.perm.trans (List.Perm.cons _ ih)
theorem Sta.pm {E : Cfg} {U : Snaps} {L M : Boxes} {w : World} (h : Sta E U L w) (hp : Pm M L) : Sta E U M w := h.perm hp.perm

section
variable {P : Program} {e0 : Cfg} {U : Snaps} {l : Slots} {L : Boxes} {ops : Array Oper} {Q : Exit → Act → World → Prop} {U0 : Snaps} {L0 : Boxes} {last fuel : Nat} {listed : Array Bool}
/-- a place in the region that is reached in several orders is walked once -/
theorem ah_share {fuel' : Nat} {listed' : Array Bool} (K : (Slots → Boxes → Prop) → Prop) (h1 : K (fun l' L' => AH P ops Q U0 L0 last fuel' listed' e0 U l' L'))
    (h2 : K (fun l' L' => AH P ops Q U0 L0 last fuel' listed' e0 U l' L') → AH P ops Q U0 L0 last fuel listed e0 U l L) : AH P ops Q U0 L0 last fuel listed e0 U l L := h2 h1
theorem ah_to {fuel' : Nat} {listed' : Array Bool} {l' : Slots} {L' : Boxes} (h : AH P ops Q U0 L0 last fuel' listed' e0 U l' L') (hf : fuel' = fuel) (he : listed' = listed) (hl : AllLook l l') (hL : ∀ w, Sta e0 U L w → Sta e0 U L' w) : AH P ops Q U0 L0 last fuel listed e0 U l L := by
  subst hf; subst he
  exact fun hok hc => aq_sub (h hok hc) hl hL
end

end Go.Proofs.YtkhahbnagbjbiaaGreat
end
section
/- The specification of layer 3: Step, Quench, over this seat's translation (written by ax_ci24.py). -/
namespace Go.Proofs.YtkhahbnagbjbiaaGreat
set_option linter.unusedVariables false
set_option linter.unusedSimpArgs false
open Go.RowKit

set_option maxRecDepth 100000 in
theorem rvalidDrive_any (R : MachR) (M : MachD) (A1 A2 : Option Addr) (l1 c1 l2 c2 : Nat) (ch pl : List Int) (w : World) (hM : IsM w R M) (hc : checkC M = 0) (i1 : IsT 1 intCells w A1 l1 ch) (i2 : IsT 1 intCells w A2 l2 pl) : Calls Tryz.prog 27 #[(.agg (machCells R M)), (.agg #[.slice A1 l1 c1, .slice A2 l2 c2])] w (Ret (.bool (validCh M ch 1000000000000000 && validPl M pl)) w) := by
  refine calls_ax (vs := [(.agg (machCells R M)), (.agg #[.slice A1 l1 c1, .slice A2 l2 c2])]) Tryz.func27 rfl rfl ?_
  refine ac_seq (ac_region ?_)
  refine al_new (fun b => .pointer (some ⟨b, 0, none⟩)) (r_box rfl rfl) rfl rfl rfl ?_
  intro b1
  refine al_new (fun b => .pointer (some ⟨b, 0, none⟩)) (r_box rfl rfl) rfl rfl rfl ?_
  intro b2
  refine al_p (q_assign rfl) ?_
  refine al_end (aq_then ?_)
  refine ac_seq (ac_region ?_)
  refine al_p (q_loadAll (i := 1) rfl rfl Tryz.isAgg29 Tryz.sizeOf29 rfl) ?_
  refine al_p (q_fieldAddr 0 rfl Tryz.runUnderlying37 rfl Tryz.sizeOf30 (by decide) rfl) ?_
  refine al_p (q_load (i := 0) rfl rfl rfl Tryz.isAgg30) ?_
  refine al_call Tryz.call55 (.cons rfl (.cons rfl (.cons rfl .nil))) rfl rfl (fun w1 hs1 => ?_)
  refine (rvalidChange_any R M A1 l1 c1 ch 1000000000000000 _ (hM.below hs1.below) (i1.below hs1.below) (by omega)).mono ?_
  rintro e u1 ⟨rfl, hb_1⟩
  refine ⟨_, rfl, hb_1, ?_⟩
  clear hs1
  refine al_p (q_move rfl) ?_
  refine aq_split 9 rfl (fun hb1 => ?_) (fun hb1 => ?_)
  · have g9 : validCh M ch 1000000000000000 = true := hb1
    refine al_p (q_loadAll (i := 1) rfl rfl Tryz.isAgg29 Tryz.sizeOf29 rfl) ?_
    refine al_p (q_fieldAddr 1 rfl Tryz.runUnderlying37 rfl Tryz.sizeOf30 (by decide) rfl) ?_
    refine al_p (q_load (i := 0) rfl rfl rfl Tryz.isAgg30) ?_
    refine al_call Tryz.call56 (.cons rfl (.cons rfl .nil)) rfl rfl (fun w2 hs2 => ?_)
    refine (rvalidPl_any R M A2 l2 c2 pl _ (hM.below hs2.below) hc (i2.below hs2.below)).mono ?_
    rintro e u2 ⟨rfl, hb_2⟩
    refine ⟨_, rfl, hb_2, ?_⟩
    clear hs2
    refine al_p (q_pickT rfl rfl) ?_
    refine al_p (q_assign rfl) ?_
    refine al_end (aq_then ?_)
    refine ac_ret ?_
    refine ret1 Tryz.results27 rfl (fun w9 hs => ?_)
    rw [g9, Bool.true_and]; exact ⟨rfl, hs.below⟩
  · have g9 : validCh M ch 1000000000000000 = false := hb1
    refine al_skip rfl rfl rfl ?_
    refine al_skip rfl rfl rfl ?_
    refine al_skip rfl rfl rfl ?_
    refine al_skip rfl rfl rfl ?_
    refine al_p (q_pickF rfl rfl) ?_
    refine al_p (q_assign rfl) ?_
    refine al_end (aq_then ?_)
    refine ac_ret ?_
    refine ret1 Tryz.results27 rfl (fun w9 hs => ?_)
    rw [g9, Bool.false_and]; exact ⟨rfl, hs.below⟩

theorem rsameS_refl (P Q : StR) (S : StD) (w : World) (a1 : IsS w P S) (a2 : IsS w Q S) : Calls Tryz.prog 11 #[P.v S.tick, Q.v S.tick] w (Ret (.bool true) w) := by
  have := rsameS_any P Q S S w a1 a2
  rwa [same_refl] at this

end Go.Proofs.YtkhahbnagbjbiaaGreat
end
section
/- The frame of the laws over spans: how an argument that is a span or a Pair is opened and shut, over this seat's translation. -/
namespace Go.Proofs.YtkhahbnagbjbiaaGreat
set_option linter.unusedVariables false
set_option linter.unusedSimpArgs false
set_option maxRecDepth 100000
open Go.ChangeShapes Go.WideShapes Go.ChangeAt Go.RowKit Go.Joins

theorem own : ownKnob Tryz.prog.godebug = none := by kernel_rfl

theorem cells_int : Tryz.prog.cellsOf 3 = 1 := by kernel_rfl

section
variable {H : Type} {enc : TypeId × Value → H}

end

end Go.Proofs.YtkhahbnagbjbiaaGreat
end
section
/- The frame of the laws over pairs: how an argument that is a list of items of n cells is opened, over this seat's translation. -/
namespace Go.Proofs.YtkhahbnagbjbiaaGreat
set_option linter.unusedVariables false
set_option linter.unusedSimpArgs false
set_option maxRecDepth 100000
open Go.ChangeShapes Go.WideShapes Go.ChangeAt Go.RowKit Go.Joins Go.Deep

section
variable {H : Type} {enc : TypeId × Value → H}

/-- A list that reads is a list of items, where each item that reads is one. -/
theorem open_isT {α : Type} {E : α → List Value} {n : Nat} (h0 : ∀ x, (E x).length = n) {t e : TypeId} {W : World} {b0 : Nat} {r : Reach} {v : Value} {d : DataW H} {p : List MemPlace}
    (ht : Tryz.prog.underlying t = some (.slice e)) (hc : Tryz.prog.cellsOf e = n) (hn : 0 < n)
    (dec : ∀ (fuel : Nat) (cs : List Value) (y : DataW H × List MemPlace), DataW.trod enc Tryz.prog W 0 (fun _ => true) true fuel e cs = some y → ∃ x : α, cs = E x)
    (hv : Value.okWide Tryz.prog W r b0 t v) (h : DataW.Trod enc Tryz.prog W 0 (fun _ => true) true t v d p) :
    ∃ (A : Option Addr) (len cap : Nat) (zs : List α), v = .slice A len cap ∧ IsT n E W A len zs ∧ len ≤ maxLen ∧ len ≤ cap ∧ cap ≤ maxLen := by
  obtain ⟨a, len, cap, rfl⟩ := okWide_slice ht hv
  obtain ⟨fuel, hf⟩ := h
  rcases open_slice ht hf with ⟨hcs, hx⟩ | ⟨a', len', cap', m, k, D, Pl, hcs, hb, hl, hm, hmm, hx, hi⟩
  · have hcs : [Value.slice a len cap] = [Value.slice none 0 0] := hcs
    injection hcs with hcs _
    injection hcs with e1 e2 e3
    subst e1 e2 e3
    exact ⟨_, _, _, [], rfl, IsT.nil _ _ _ _, Nat.zero_le _, Nat.zero_le _, Nat.zero_le _⟩
  · have hcs : [Value.slice a len cap] = [Value.slice (some a') len' cap'] := hcs
    injection hcs with hcs _
    injection hcs with e1 e2 e3
    subst e1 e2 e3
    simp only [if_true] at hmm
    subst hmm
    have each : ∀ i, i < len → ∃ x : α, ∀ j, j < n → W.cell? (a'.add (i * n + j)) = (E x)[j]? := fun i hil => by
      obtain ⟨cs', h1, h2⟩ := hi i (by omega)
      obtain ⟨x, rfl⟩ := dec _ _ _ h2
      rw [hc] at h1
      obtain ⟨_, _, hcell⟩ := World.cells?_some h1
      refine ⟨x, fun j hj => ?_⟩
      have := hcell j hj
      rwa [add_add] at this
    by_cases hz : len = 0
    · subst hz
      exact ⟨_, _, _, [], rfl, IsT.nil _ _ _ _, Nat.zero_le _, Nat.zero_le _, hm⟩
    · obtain ⟨x0, _⟩ := each 0 (by omega)
      haveI : Inhabited α := ⟨x0⟩
      obtain ⟨z, hz'⟩ := choose_lt each
      refine ⟨_, _, _, (List.range len).map z, rfl, ⟨by simp, fun _ => ?_⟩, Nat.le_trans hl hm, hl, hm⟩
      have c0 := hz' 0 (by omega) 0 hn
      obtain ⟨v0, hv0⟩ : ∃ v0, (E (z 0))[0]? = some v0 := ⟨_, List.getElem?_eq_getElem (by rw [h0]; exact hn)⟩
      rw [hv0] at c0
      have hlt := World.block_lt_of_cell? W _ c0
      have hsp := World.cell?_spot c0
      obtain ⟨b, off, spot⟩ := a'
      have hspot : spot = none := by simpa [Addr.add] using hsp
      subst hspot
      rw [block_add] at hlt
      refine ⟨b, off, rfl, hlt, fun j x hx i v hv => ?_⟩
      have hj : j < len := by
        have := (List.getElem?_eq_some_iff.1 hx).1
        simpa using this
      have hx' : x = z j := by
        rw [List.getElem?_map, List.getElem?_range hj] at hx
        simpa using hx.symm
      subst hx'
      have hin : i < n := by
        have := (List.getElem?_eq_some_iff.1 hv).1
        rwa [h0] at this
      have := hz' j hj i hin
      rw [add_plain, hv] at this
      rw [← this]
      congr 2
      omega

end

end Go.Proofs.YtkhahbnagbjbiaaGreat
end
