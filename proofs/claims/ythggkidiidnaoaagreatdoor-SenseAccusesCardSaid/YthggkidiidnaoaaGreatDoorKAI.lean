import Derived.Test.YthggkidiidnaoaaGreatDoorKAH
import Derived.Recover
namespace Go.Proofs.YthggkidiidnaoaaGreatDoor
set_option linter.unusedVariables false
set_option linter.unusedSimpArgs false
section
set_option autoImplicit false
open Go.RowKit
section
variable {P : Program} {e0 : Cfg} {U : Snaps} {l : Slots} {L : Boxes} {ops : Array Oper} {Q : Exit → Act → World → Prop} {rest : List Oper} {d : Nat} {v : Value}
variable {ty : TypeId} {pos : String} {af : Array Edge} {g : Option (Nat × Bool)} {dd : Option Nat}
theorem BoxAt.newMap (w : World) (es : List MapEntry) (k : Nat) : BoxAt (w.alloc (.map es.toArray k)) w.heap.size (.map es k) :=
 ⟨by simp, fun ds hd => (by cases hd), fun fs m hc => (by cases hc; exact heap_alloc_new w _)⟩
theorem al_makeMap {t : TypeId} (hn : Nat.blt d e0.n = true) (hw : want ops l g = some true) (k : ∀ r, AL P ops Q e0 U ((d, .map (some r)) :: l) ((r, .map [] 0) :: L) rest) :
  AL P ops Q e0 U l L (⟨some d, .makeMap t none, ty, pos, af, g⟩ :: rest) :=
 al_run2 (K := True) hw rfl hn (fun a w hf hs => ⟨_, w.alloc (.map [].toArray 0), U, _, by simp [execOp, Instr.makeMap], hs.adopt ((Below.refl _ _).alloc (Nat.le_refl _) _) (Nat.le_refl _) (BoxAt.newMap w [] 0), k _⟩)
def plainKey : Value → Bool
 | .string _ | .int _ _ | .bool _ => true
 | _ => false
def plainKind : TypeDesc → Bool
 | .string | .int _ | .bool => true
 | _ => false
theorem run_checkKey {kt n : Nat} {kd : TypeDesc} {b : Bool} {kv : Value} (hk : P.underlying kt = some kd) (hp : plainKey kv = true) (hd : plainKind kd = true) (w : World) : (Instr.checkKey b (n + 1) kt kv).run P w = .ok () w := by
 cases kv <;> simp [plainKey] at hp <;> cases kd <;> simp [plainKind] at hd <;> simp [Instr.checkKey, run_underlying hk]
end
end
section
set_option autoImplicit false
open Go.RowKit
section
variable {P : Program} {e0 : Cfg} {U : Snaps} {l : Slots} {L : Boxes} {ops : Array Oper} {Q : Exit → Act → World → Prop} {rest : List Oper} {d : Nat} {v : Value}
variable {ty : TypeId} {pos : String} {af : Array Edge} {g : Option (Nat × Bool)} {dd : Option Nat}
theorem q_bin {bo : BinOp} {xt yt : TypeId} {ox oy : Operand} {x y : Value} (hx : E l ox = some x) (hy : E l oy = some y) (hg : ∀ w, (eqGuard bo xt ox oy x y).run P w = .ok () w) (hr : ∀ w, (binOp bo xt x y).run P w = .ok v w) : Q1 P e0 U l L ⟨dd, .binOp bo xt ox oy yt, ty, pos, af, g⟩ v := by
 intro a w hf hs
 simp [execOp, hf.ev hx, hf.ev hy, hg, hr]
theorem q_cmpS {bo : BinOp} {xt yt : TypeId} {ox oy : Operand} {xs ys : Array Value} (hx : E l ox = some (.agg xs)) (hy : E l oy = some (.agg ys)) (hm : P.eqGuardType P.depth xt = false) (hr : ∀ w, (binOp bo xt (.agg xs) (.agg ys)).run P w = .ok v w) : Q1 P e0 U l L ⟨dd, .binOp bo xt ox oy yt, ty, pos, af, g⟩ v :=
 q_bin hx hy (fun w => run_eqGuard_agg w bo xt ox oy xs ys hm) hr
end
end
section
set_option autoImplicit false
open Go.RowKit
section
variable {P : Program} {e0 : Cfg} {U : Snaps} {l : Slots} {L : Boxes} {ops : Array Oper} {Q : Exit → Act → World → Prop} {rest : List Oper} {d : Nat} {v : Value}
variable {ty : TypeId} {pos : String} {af : Array Edge} {g : Option (Nat × Bool)} {dd : Option Nat}
theorem Fr.defer {n : Nat} {D : List Deferred} {w0 : World} {bs : List Nat} {a : Act} (h : Fr ⟨n, D, w0, bs⟩ l a) (x : Deferred) (u : Value) : Fr ⟨n, x :: D, w0, bs⟩ l ({ a with defers := x :: a.defers }.put none u) :=
 ⟨h.size, by show x :: a.defers = x :: D; rw [h.defers], h.slot⟩
end
end
end Go.Proofs.YthggkidiidnaoaaGreatDoor
