import Derived.Test.YthggkidiidnaoaaGreatDoorMAH
import Derived.Test.YthggkidiidnaoaaGreatDoorMAK
import Derived.Test.YthggkidiidnaoaaGreatDoorMAR
namespace Go.Proofs.YthggkidiidnaoaaGreatDoor
set_option linter.unusedVariables false
set_option linter.unusedSimpArgs false
section
open Go.RowKit Go.Shelf
def sensP (S : List Src) (x : SensorD) : Int := if x.kind = 1 then fluxP (x.r, x.z) S else if x.kind = 2 then (fieldP (x.r, x.z) S).1 else (fieldP (x.r, x.z) S).2
def exactL (M : MachD) (C : CurD) (i : Int) : Int × Int :=
  if validC M C = true then if wthn i 0 ((M.sensors.length : Int) - 1) = true then match M.sensors[i.toNat]? with
    | some x => (sensP (srcM M C) x, 0)
    | none => (0, 7)
  else (0, 7) else (0, 1)
end
section
open Go.RowKit Go.Shelf
theorem resT {fn : Func} {p u : Tmp} (h : fn.results = #[.cell p 32, .tmp u]) (tmps : Array Value) (W : World) (b : Nat) (x y z e : Value)
    (hp : tmps.getD p undef = .pointer (some ⟨b, 0, none⟩)) (hu : tmps.getD u undef = e) (h0 : (W.cell? ⟨b, 0, none⟩).isSome = true) (h1 : (W.cell? ⟨b, 1, none⟩).isSome = true) (h2 : (W.cell? ⟨b, 2, none⟩).isSome = true) :
    (results fn tmps).run Tryz.prog (((W.setCell ⟨b, 0, none⟩ x).setCell ⟨b, 1, none⟩ y).setCell ⟨b, 2, none⟩ z) = .ok (.tuple #[.agg #[x, y, z], e]) (((W.setCell ⟨b, 0, none⟩ x).setCell ⟨b, 1, none⟩ y).setCell ⟨b, 2, none⟩ z) := by
  have e0 : (((W.setCell ⟨b, 0, none⟩ x).setCell ⟨b, 1, none⟩ y).setCell ⟨b, 2, none⟩ z).cell? ⟨b, 0, none⟩ = some x := by
    rw [World.cell?_setCell_other _ _ _ _ (by simp), World.cell?_setCell_other _ _ _ _ (by simp)]; exact World.cell?_setCell_same' _ _ _ h0
  have e1 : (((W.setCell ⟨b, 0, none⟩ x).setCell ⟨b, 1, none⟩ y).setCell ⟨b, 2, none⟩ z).cell? ⟨b, 1, none⟩ = some y := by
    rw [World.cell?_setCell_other _ _ _ _ (by simp)]; exact World.cell?_setCell_same' _ _ _ (by rw [World.cell?_setCell_other _ _ _ _ (by simp)]; exact h1)
  have e2 : (((W.setCell ⟨b, 0, none⟩ x).setCell ⟨b, 1, none⟩ y).setCell ⟨b, 2, none⟩ z).cell? ⟨b, 2, none⟩ = some z :=
    World.cell?_setCell_same' _ _ _ (by rw [World.cell?_setCell_other _ _ _ _ (by simp), World.cell?_setCell_other _ _ _ _ (by simp)]; exact h2)
  generalize ((W.setCell ⟨b, 0, none⟩ x).setCell ⟨b, 1, none⟩ y).setCell ⟨b, 2, none⟩ z = V at *
  have hp' : tmps[p]?.getD undef = .pointer (some ⟨b, 0, none⟩) := by simpa using hp
  have hu' : tmps[u]?.getD undef = e := by simpa using hu
  simp [results, h, hp', hu', go_sem, e0, e1, e2]
theorem isT_put {b n : Nat} {W : World} (h : ZeroL b n W) (i : Nat) (hi : i < n) (c : Int) : IsT 1 intCells (W.setCell ⟨b, i, none⟩ (.int .i64 c)) (some ⟨b, 0, none⟩) n ((List.replicate n 0).set i c) := by
  refine ⟨by simp, fun _ => ⟨b, 0, rfl, by rw [World.size_setCell]; exact h.lt, fun j x hx k v hv => ?_⟩⟩
  have hk : k = 0 := by
    have := (List.getElem?_eq_some_iff.1 hv).1
    simp [intCells] at this; omega
  subst hk
  have hv' : v = .int .i64 x := by simpa [intCells] using hv.symm
  subst hv'
  have hj : j < n := by
    have := (List.getElem?_eq_some_iff.1 hx).1
    simpa using this
  rw [show (0 + j * 1 + 0 : Nat) = j by omega]
  by_cases e : j = i
  · subst e
    have hxc : x = c := by
      rw [List.getElem?_set] at hx; simpa [hj] using hx.symm
    subst hxc
    exact World.cell?_setCell_same' _ _ _ (by rw [h.cell j hj]; rfl)
  · have hx0 : x = 0 := by
      rw [List.getElem?_set_ne (Ne.symm e), List.getElem?_replicate, if_pos hj] at hx
      exact (Option.some.inj hx).symm
    subst hx0
    rw [World.cell?_setCell_other _ _ _ _ (by intro e2; injection e2 with e3 e4; omega)]
    exact h.cell j hj
theorem isT_set {n : Nat} {W : World} {A : Option Addr} {zs : List Int} (h : IsT 1 intCells W A n zs) {p : Addr} (hp : ∀ a, A = some a → a.block ≠ p.block) (v : Value) : IsT 1 intCells (W.setCell p v) A n zs :=
  ⟨h.1, fun h0 => by
    obtain ⟨b, o, e, h1, h2⟩ := h.2 h0
    refine ⟨b, o, e, by rw [World.size_setCell]; exact h1, fun j x hx i u hu => ?_⟩
    rw [World.cell?_setCell_other _ _ _ _ (fun e2 => hp _ e (by exact (congrArg Addr.block e2).symm))]
    exact h2 j x hx i u hu⟩
def inB (C : CurD) (cell cur : Int) : Bool := wthn cell 0 ((C.plasma.length : Int) - 1) && wthn cur 0 1000000
def filaE (M : MachD) (C : CurD) (cell cur : Int) : Int := if validC M C = true then if inB C cell cur = true then 0 else 7 else 1
def filaD (C : CurD) (cell cur : Int) : CurD := ⟨C.coils, C.shells, (List.replicate C.plasma.length 0).set cell.toNat cur⟩
abbrev nilC : Value := .agg #[.slice none 0 0, .slice none 0 0, .slice none 0 0]
theorem seWithin_any (n a b : Int) (w : World) :
    Calls Tryz.prog 32 #[.int .i64 n, .int .i64 a, .int .i64 b] w fun e w' => e = .returned (.bool (wthn n a b)) ∧ w = w' := by
  go_enter Tryz.func32, Tryz.ntmps32
  go_wp2
  all_goals go_ret
  all_goals (simp [wthn]; try omega)
end
section
set_option autoImplicit false
open Go.RowKit
inductive Ins (x : Nat × Cont) : Boxes → Boxes → Prop
  | here {L : Boxes} : Ins x L (x :: L)
  | there {y : Nat × Cont} {L L' : Boxes} (h : Ins x L L') : Ins x (y :: L) (y :: L')
theorem Ins.perm {x : Nat × Cont} {L L' : Boxes} (h : Ins x L L') : L'.Perm (x :: L) := by
  induction h with
  | here => exact List.Perm.refl _
  | there h ih => exact (List.Perm.cons _ ih).trans (List.Perm.swap _ _ _)
inductive Pm : Boxes → Boxes → Prop
  | refl {L : Boxes} : Pm L L
  | cons {x : Nat × Cont} {M L L' : Boxes} (h : Ins x L L') (t : Pm M L) : Pm (x :: M) L'
theorem Pm.perm {M L : Boxes} (h : Pm M L) : L.Perm M := by
  induction h with
  | refl => exact List.Perm.refl _
  | cons h t ih => exact h.perm.trans (List.Perm.cons _ ih)
theorem Sta.pm {E : Cfg} {U : Snaps} {L M : Boxes} {w : World} (h : Sta E U L w) (hp : Pm M L) : Sta E U M w := h.perm hp.perm
section
variable {P : Program} {e0 : Cfg} {U : Snaps} {l : Slots} {L : Boxes} {ops : Array Oper} {Q : Exit → Act → World → Prop} {U0 : Snaps} {L0 : Boxes} {last fuel : Nat} {listed : Array Bool}
end
end
end Go.Proofs.YthggkidiidnaoaaGreatDoor
