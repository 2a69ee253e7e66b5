import Derived.Test.YtnikdbglpimadaaGreatJAQ
import Derived.Test.YtnikdbglpimadaaGreatJBB
import Derived.Test.YtnikdbglpimadaaGreatJBC
import Derived.RangeFuncNested
import Derived.RangeFuncLeaves
import Derived.RangeFuncBound
import Derived.OwnWalkIn
import Derived.TacticsInMore
import Derived.LoopIn
import Derived.Test.YtnikdbglpimadaaGreatRows
import Derived.KernelRfl
import Derived.Laws.StructEq
section
/- Ranges over functions whose rounds always go on: what an iterator and a round leave alone; the law of the statement; walks inside a round. -/
namespace Go.Proofs.YtnikdbglpimadaaGreat
set_option linter.unusedVariables false
set_option linter.unusedSimpArgs false
set_option autoImplicit false
open Go.RowKit

theorem Chg.trans {X : List Nat} {A B C : World} (h : Chg X A B) (k : Chg X B C) : Chg X A C :=
  ⟨k.os.trans h.os, k.tape.trans h.tape, k.output.trans h.output, Nat.le_trans h.size k.size, fun b hb hx => (k.block b (Nat.lt_of_lt_of_le hb h.size) hx).trans (h.block b hb hx)⟩
theorem Chg.mono {X Y : List Nat} {A B : World} (h : Chg X A B) (hX : ∀ x ∈ X, x ∈ Y) : Chg Y A B :=
  ⟨h.os, h.tape, h.output, h.size, fun b hb hy => h.block b hb (fun hx => hy (hX b hx))⟩
theorem Chg.putObj {W : World} {l : Nat} {o o' : Obj} (h : W.heap[l]? = some o) : Chg [l] W (W.putObj l o') :=
  ⟨rfl, rfl, rfl, by simp [World.putObj], fun b _ hb => World.putObj_heap_other (by simpa using hb)⟩
/-- what an iterator may do between two rounds: of the blocks below n0, nothing; of the blocks with cells, none but those of Z -/
structure Mv (n0 : Nat) (Z : List Nat) (W W' : World) : Prop where
  os : W'.os = W.os
  tape : W'.tape = W.tape
  output : W'.output = W.output
  size : W.heap.size ≤ W'.heap.size
  block : ∀ b, b < W.heap.size → b ∉ Z → (b < n0 ∨ ∃ o : Obj, W.heap[b]? = some o ∧ o.isCells = true) → W'.heap[b]? = W.heap[b]?
theorem Mv.of_chg {n0 : Nat} {Z : List Nat} {W W' : World} (h : Chg Z W W') : Mv n0 Z W W' := ⟨h.os, h.tape, h.output, h.size, fun b hb hz _ => h.block b hb hz⟩
theorem Mv.low {n0 m0 : Nat} {Z : List Nat} {W W' : World} (h : Mv n0 Z W W') (hm : m0 ≤ n0) : Mv m0 Z W W' :=
  ⟨h.os, h.tape, h.output, h.size, fun b hb hz hc => h.block b hb hz (hc.imp (fun h => by omega) id)⟩
theorem Mv.trans {n0 : Nat} {Z : List Nat} {A B C : World} (h : Mv n0 Z A B) (k : Mv n0 Z B C) : Mv n0 Z A C :=
  ⟨k.os.trans h.os, k.tape.trans h.tape, k.output.trans h.output, Nat.le_trans h.size k.size, fun b hb hz hc => by
    have e := h.block b hb hz hc
    exact (k.block b (Nat.lt_of_lt_of_le hb h.size) hz (hc.imp id (fun ⟨o, ho, hk⟩ => ⟨o, e.trans ho, hk⟩))).trans e⟩
theorem Mv.putObj {n0 l : Nat} {Z : List Nat} {W : World} {o o' : Obj} (hl : n0 ≤ l) (h : W.heap[l]? = some o) (hc : o.isCells = false) : Mv n0 Z W (W.putObj l o') :=
  ⟨rfl, rfl, rfl, by simp [World.putObj], fun b hb _ hk => World.putObj_heap_other (fun e => by
    subst e
    rcases hk with g | ⟨o2, h2, g⟩
    · omega
    · rw [h] at h2; cases h2; rw [hc] at g; cases g)⟩
theorem IsT.keep {α : Type} {z n : Nat} {enc : α → List Value} {w w' : World} {A : Option Addr} {zs : List α} (h : IsT z enc w A n zs) (hs : w.heap.size ≤ w'.heap.size) (hk : ∀ b o, A = some ⟨b, o, none⟩ → 0 < n → w'.heap[b]? = w.heap[b]?) : IsT z enc w' A n zs :=
  ⟨h.1, fun h0 => by
    obtain ⟨b, o, e, h1, h2⟩ := h.2 h0
    exact ⟨b, o, e, Nat.lt_of_lt_of_le h1 hs, fun j x hx i v hv => (World.cell?_of_block (w := w) (w' := w') (a := ⟨b, _, none⟩) (hk b o e h0)).trans (h2 j x hx i v hv)⟩⟩
theorem IsT.mv {α : Type} {z n n0 : Nat} {Z : List Nat} {enc : α → List Value} {w w' : World} {A : Option Addr} {zs : List α} (hc : ∀ x, 0 < (enc x).length) (h : IsT z enc w A n zs) (hm : Mv n0 Z w w') (hz : ∀ b o, A = some ⟨b, o, none⟩ → b ∉ Z) : IsT z enc w' A n zs :=
  h.keep hm.size fun b o e h0 => by
    obtain ⟨b', o', e', h1, h2⟩ := h.2 h0
    rw [e] at e'; cases e'
    have hl : 0 < zs.length := by rw [h.1]; exact h0
    have hx := List.getElem?_eq_getElem hl
    have hv := List.getElem?_eq_getElem (hc zs[0])
    exact hm.block b h1 (hz b o e) (Or.inr (cells_of_cell (h2 0 _ hx 0 _ hv)))
theorem IsT.chg {α : Type} {z n : Nat} {X : List Nat} {enc : α → List Value} {w w' : World} {A : Option Addr} {zs : List α} (h : IsT z enc w A n zs) (hm : Chg X w w') (hz : ∀ b o, A = some ⟨b, o, none⟩ → b ∉ X) : IsT z enc w' A n zs :=
  h.keep hm.size fun b o e h0 => by
    obtain ⟨b', o', e', h1, h2⟩ := h.2 h0
    rw [e] at e'; cases e'
    exact hm.block b h1 (hz b o e)

theorem roundIn_n {n m : Nat} {P : Program} {l : Nat} {f : FuncId} {tmps : Array Value} {assign body : Code} {w : World} {R : Ending → World → Prop} (h : RoundIn Fence.wide n P l f tmps assign body w R) : RoundIn Fence.wide m P l f tmps assign body w R :=
  ⟨h.1, fun c cs _ => h.2 c cs (room_wide _)⟩
end Go.Proofs.YtnikdbglpimadaaGreat
end
section
/- Abstract walking inside a fence: regions of a round's body, calls of yield, functions that hold a range over a function. -/
namespace Go.Proofs.YtnikdbglpimadaaGreat
set_option linter.unusedVariables false
set_option linter.unusedSimpArgs false
set_option autoImplicit false
open Go.RowKit

/-- the fences of these walks: wide, in a round or not -/
def Wide (F : Fence) : Prop := F = Fence.wide ∨ ∃ l, F = Fence.wide.inRound l
theorem Wide.fn {F : Fence} (h : Wide F) (f : FuncId) : F.fn f := by rcases h with rfl | ⟨l, rfl⟩ <;> trivial
theorem Wide.depth {F : Fence} (h : Wide F) : F.depth = none := by rcases h with rfl | ⟨l, rfl⟩ <;> rfl
theorem Wide.calls {F : Fence} (h : Wide F) {n : Nat} {P : Program} {f : FuncId} {args : Array Value} {w : World} {R : Ending → World → Prop} (k : Calls P f args w R) : CallsIn F n P f args w R := by
  rcases h with rfl | ⟨l, rfl⟩
  · exact callsIn_wide.2 k
  · exact CallsIn.inRound l (callsIn_wide.2 k)
theorem Wide.rows {F : Fence} (h : Wide F) {n : Nat} {P : Program} {row : String} {args : Array Value} {w : World} {R : Value → World → Prop} (k : Rows P row args w R) : _root_.Go.RowsIn F n P row args w R := by
  have key : _root_.Go.RowsIn Fence.wide n P row args w R := fun c cs _ => by
    obtain ⟨v, w', r, s⟩ := k c cs
    exact ⟨v, w', r, stepsIn_wide.2 s⟩
  rcases h with rfl | ⟨l, rfl⟩
  · exact key
  · exact key
theorem Wide.round {F : Fence} (h : Wide F) {n m : Nat} {P : Program} {l : Nat} {f : FuncId} {tmps : Array Value} {assign body : Code} {w : World} {R : Ending → World → Prop} (k : RoundIn Fence.wide n P l f tmps assign body w R) : RoundIn F m P l f tmps assign body w R := by
  have key : RoundIn Fence.wide m P l f tmps assign body w R := roundIn_n k
  rcases h with rfl | ⟨l, rfl⟩
  · exact key
  · exact key
section
variable {F : Fence} {P : Program} {e0 : Cfg} {U : Snaps} {l : Slots} {L : Boxes} {ops : Array Oper} {Q : Exit → Act → World → Prop} {rest : List Oper} {d : Nat} {v : Value}
variable {ty : TypeId} {pos : String} {af : Array Edge} {g : Option (Nat × Bool)} {dd : Option Nat} {o : Oper}
end
theorem Fr.marked {n : Nat} {w0 : World} {bs : List Nat} {l : Slots} {a : Act} (h : Fr ⟨n, [], w0, bs⟩ l a) (x : Deferred) : Fr ⟨n, [x], w0, bs⟩ l { a with defers := x :: a.defers } := ⟨h.size, by rw [h.defers], h.slot⟩
/-- what the body of a function that ranges over a function must achieve; it never panics -/
def postM (P : Program) (fn : Func) (R : Ending → World → Prop) : Exit → Act → World → Prop
  | .normal, a, w | .ret, a, w => LeavesInM Fence.wide 0 P fn a.tmps R a.defers .returning w
  | _, _, _ => False
theorem postM.up {P : Program} {fn : Func} {R : Ending → World → Prop} : ∀ e a w, postM P fn R e a w → bodyPostM Fence.wide 0 P fn R e a w
  | .normal, _, _, h => h
  | .ret, _, _, h => h
  | .exit _, _, _, h => h.elim
  | .goto _, _, _, h => h.elim
  | .panic _, _, _, h => h.elim
  | .outgrown, _, _, h => h.elim
end Go.Proofs.YtnikdbglpimadaaGreat
end
section
/- slices.Values over a list of drives: its rounds always go on, over this seat's translation. -/
namespace Go.Proofs.YtnikdbglpimadaaGreat
set_option linter.unusedVariables false
set_option linter.unusedSimpArgs false
open Go.RowKit Go.Shelf
attribute [local go_sem] Oper.semAt_some

structure DrvR where
  (A1 A2 : Option Addr) (l1 c1 l2 c2 : Nat)
abbrev DrvR.v (r : DrvR) : Value := .agg #[.slice r.A1 r.l1 r.c1, .slice r.A2 r.l2 r.c2]
def DrvR.cells (r : DrvR) : List Value := [.slice r.A1 r.l1 r.c1, .slice r.A2 r.l2 r.c2]

end Go.Proofs.YtnikdbglpimadaaGreat
end
section
/- Package circuit: the iterator of states, over this seat's translation (written by ax_ci6.py). -/
namespace Go.Proofs.YtnikdbglpimadaaGreat
set_option linter.unusedVariables false
set_option linter.unusedSimpArgs false
open Go.RowKit

/-- of all blocks in which a state's lists lie -/
structure StR.All (x : StR) (p : Nat → Prop) : Prop where
  a : ∀ b o, x.Q.A = some ⟨b, o, none⟩ → p b
  b : ∀ b o, x.Q.B = some ⟨b, o, none⟩ → p b
  c : ∀ b o, x.Q.C = some ⟨b, o, none⟩ → p b
  h : ∀ b o, x.H = some ⟨b, o, none⟩ → p b
  t : ∀ b o, x.T = some ⟨b, o, none⟩ → p b
theorem StR.All.mono {x : StR} {p q : Nat → Prop} (h : x.All p) (hp : ∀ b, p b → q b) : x.All q :=
  ⟨fun b o e => hp b (h.a b o e), fun b o e => hp b (h.b b o e), fun b o e => hp b (h.c b o e), fun b o e => hp b (h.h b o e), fun b o e => hp b (h.t b o e)⟩
theorem IsS.mv {n0 : Nat} {Z : List Nat} {W W' : World} {x : StR} {D : StD} (h : IsS W x D) (hm : Mv n0 Z W W') (hz : x.All (fun b => b ∉ Z)) : IsS W' x D :=
  ⟨⟨h.cur.coils.mv (fun _ => Nat.one_pos) hm hz.a, h.cur.shells.mv (fun _ => Nat.one_pos) hm hz.b, h.cur.plasma.mv (fun _ => Nat.one_pos) hm hz.c, h.cur.la, h.cur.lb, h.cur.lc, h.cur.ca, h.cur.cb, h.cur.cc, h.cur.ka, h.cur.kb, h.cur.kc⟩, h.heat.mv (fun _ => Nat.one_pos) hm hz.h, h.trip.mv (fun _ => Nat.one_pos) hm hz.t, h.lh, h.lt, h.ch, h.ct, h.kh, h.kt⟩
theorem IsS.chg {X : List Nat} {W W' : World} {x : StR} {D : StD} (h : IsS W x D) (hm : Chg X W W') (hz : x.All (fun b => b ∉ X)) : IsS W' x D := h.mv (Mv.of_chg (n0 := 0) hm) hz
/-- the blocks below a world's end, but those of X, are as they were -/
structure KP (X : List Nat) (w W : World) : Prop where
  size : w.heap.size ≤ W.heap.size
  block : ∀ b, b < w.heap.size → b ∉ X → W.heap[b]? = w.heap[b]?
theorem KP.refl (X : List Nat) (w : World) : KP X w w := ⟨Nat.le_refl _, fun _ _ _ => rfl⟩
theorem KP.chg {X Y : List Nat} {w W W' : World} (h : KP X w W) (hc : Chg Y W W') (hY : ∀ y ∈ Y, y ∈ X ∨ w.heap.size ≤ y) : KP X w W' :=
  ⟨Nat.le_trans h.size hc.size, fun b hb hx => (hc.block b (Nat.lt_of_lt_of_le hb h.size) (fun hy => by rcases hY b hy with h1 | h1; exact hx h1; omega)).trans (h.block b hb hx)⟩
theorem KP.mv {X Y : List Nat} {w W W' : World} {n0 : Nat} (h : KP X w W) (hc : Mv n0 Y W W') (hn : w.heap.size ≤ n0) (hY : ∀ y ∈ Y, w.heap.size ≤ y) : KP X w W' :=
  ⟨Nat.le_trans h.size hc.size, fun b hb hx => (hc.block b (Nat.lt_of_lt_of_le hb h.size) (fun hy => by have := hY b hy; omega) (Or.inl (by omega))).trans (h.block b hb hx)⟩
theorem BoxAt.isCells {w : World} {b : Nat} {v : Value} {cs : List Value} (h : BoxAt w b (.cells (v :: cs))) : ∃ o : Obj, w.heap[b]? = some o ∧ o.isCells = true := cells_of_cell (h.cell _ rfl 0 _ rfl).1
end Go.Proofs.YtnikdbglpimadaaGreat
end
section
/- Abstract walking: conversions between kinds of whole numbers, copies into own boxes. -/
namespace Go.Proofs.YtnikdbglpimadaaGreat
set_option linter.unusedVariables false
set_option linter.unusedSimpArgs false
set_option autoImplicit false
open Go.RowKit
section
variable {P : Program} {e0 : Cfg} {U : Snaps} {l : Slots} {L : Boxes} {ops : Array Oper} {Q : Exit → Act → World → Prop} {rest : List Oper} {d : Nat} {v : Value}
variable {ty : TypeId} {pos : String} {af : Array Edge} {g : Option (Nat × Bool)} {dd : Option Nat}
end
theorem Chg.mv {X Z : List Nat} {v V W : World} {n0 : Nat} (h : Chg X v V) (hm : Mv n0 Z V W) (hn : v.heap.size ≤ n0) (hz : ∀ z ∈ Z, v.heap.size ≤ z) : Chg X v W :=
  ⟨hm.os.trans h.os, hm.tape.trans h.tape, hm.output.trans h.output, Nat.le_trans h.size hm.size, fun b hb hx => (hm.block b (Nat.lt_of_lt_of_le hb h.size) (fun hz' => by have := hz b hz'; omega) (Or.inl (by omega))).trans (h.block b hb hx)⟩
section
variable {P : Program} {U : Snaps} {l : Slots} {L : Boxes}
end

end Go.Proofs.YtnikdbglpimadaaGreat
end
section
/- slices.Repeat of one drive, over this seat's translation (written by ax_ci7.py). -/
namespace Go.Proofs.YtnikdbglpimadaaGreat
set_option linter.unusedVariables false
set_option linter.unusedSimpArgs false
open Go.RowKit

end Go.Proofs.YtnikdbglpimadaaGreat
end
