import Derived.Test.YtnikdbglpimadaaGreatJAN
import Derived.Test.YtnikdbglpimadaaGreatJAS
import Derived.Test.YtnikdbglpimadaaGreatJAX
import Derived.Test.YtnikdbglpimadaaGreatJBD
import Derived.Test.YtnikdbglpimadaaGreatRows
import Derived.KernelRfl
import Derived.Laws.StructEq
section
/- Package circuit: repeat, over this seat's translation (written by ax_ci8.py). -/
namespace Go.Proofs.YtnikdbglpimadaaGreat
set_option linter.unusedVariables false
set_option linter.unusedSimpArgs false
open Go.RowKit

theorem Sta.isS {E : Cfg} {U : Snaps} {L : Boxes} {w u : World} {lo : Nat} {x : StR} {S : StD} (h : Sta E U L w) (hu : (lo, u) ∈ U) (hS : IsS u x S) (hA : x.All (fun b => lo ≤ b)) : IsS w x S :=
  ⟨⟨h.isT hu hS.cur.coils (fun b o e => Or.inl (hA.a b o e)), h.isT hu hS.cur.shells (fun b o e => Or.inl (hA.b b o e)), h.isT hu hS.cur.plasma (fun b o e => Or.inl (hA.c b o e)), hS.cur.la, hS.cur.lb, hS.cur.lc, hS.cur.ca, hS.cur.cb, hS.cur.cc, hS.cur.ka, hS.cur.kb, hS.cur.kc⟩, h.isT hu hS.heat (fun b o e => Or.inl (hA.h b o e)), h.isT hu hS.trip (fun b o e => Or.inl (hA.t b o e)), hS.lh, hS.lt, hS.ch, hS.ct, hS.kh, hS.kt⟩
end Go.Proofs.YtnikdbglpimadaaGreat
end
section
/- Package circuit: Begin, over this seat's translation (written by ax_ci9.py). -/
namespace Go.Proofs.YtnikdbglpimadaaGreat
set_option linter.unusedVariables false
set_option linter.unusedSimpArgs false
open Go.RowKit

def zeroS : Value := .agg #[.int .i64 0, .slice none 0 0, .slice none 0 0, .slice none 0 0, .slice none 0 0, .slice none 0 0]
def zeroR : StR := ⟨⟨none, none, none, 0, 0, 0, 0, 0, 0⟩, none, none, 0, 0, 0, 0⟩
/-- what a function gives that answers with a state: an error, or a valid state in new memory -/
def OutS (w : World) (k : Int) (D : StD) (e : Ending) (w' : World) : Prop :=
  ∃ (x : StR) (n : Int), e = .returned (.tuple #[x.v n, .int .i64 k]) ∧ (k = 0 → n = D.tick ∧ IsS w' x D ∧ x.All (fun b => w.heap.size ≤ b)) ∧ (k ≠ 0 → n = 0 ∧ x = zeroR) ∧ Below w.heap.size w w'
theorem OutS.ok {w : World} {D : StD} {e : Ending} {w' : World} (h : ∃ x : StR, e = .returned (.tuple #[x.v D.tick, .int .i64 0]) ∧ IsS w' x D ∧ x.All (fun b => w.heap.size ≤ b) ∧ Below w.heap.size w w') : OutS w 0 D e w' :=
  h.elim fun x h => ⟨x, D.tick, h.1, fun _ => ⟨rfl, h.2.1, h.2.2.1⟩, fun h => absurd rfl h, h.2.2.2⟩
theorem OutS.bad {w : World} {k : Int} {D : StD} {e : Ending} {w' : World} (hk : k ≠ 0) (h : Ret (.tuple #[zeroS, .int .i64 k]) w e w') : OutS w k D e w' := ⟨zeroR, 0, h.1, fun h => absurd h hk, fun _ => ⟨rfl, rfl⟩, h.2⟩
end Go.Proofs.YtnikdbglpimadaaGreat
end
section
/- Package circuit: Step, Coast, over this seat's translation (written by ax_ci9.py). -/
namespace Go.Proofs.YtnikdbglpimadaaGreat
set_option linter.unusedVariables false
set_option linter.unusedSimpArgs false
open Go.RowKit

theorem smallC {M : MachD} {R : MachR} {w : World} (hM : IsM w R M) (hc : checkC M = 0) : R.la ≤ 1000 ∧ R.lb ≤ 1000 := by
  have n1 := hM.coils.1
  have n2 := hM.shells.1
  have n5 := (sound_of hc).coils.1
  have n6 := (sound_of hc).shells.1
  omega
end Go.Proofs.YtnikdbglpimadaaGreat
end
section
/- Package circuit: Rest, Settle, over this seat's translation (written by ax_ci10.py). -/
namespace Go.Proofs.YtnikdbglpimadaaGreat
set_option linter.unusedVariables false
set_option linter.unusedSimpArgs false
open Go.RowKit

def restB (M : MachD) (S : StD) (heat : List Int) (k : Nat) : Prop := iA heat k < iA S.heat k ∧ (cA M k).cool = 0
instance (M : MachD) (S : StD) (heat : List Int) (k : Nat) : Decidable (restB M S heat k) := inferInstanceAs (Decidable (_ ∧ _))
end Go.Proofs.YtnikdbglpimadaaGreat
end
section
/- The specification of layer 2: flux, over this seat's translation (written by mk_flx.py). -/
namespace Go.Proofs.YtnikdbglpimadaaGreat
set_option linter.unusedVariables false
set_option linter.unusedSimpArgs false
open Go.RowKit Go.Shelf

end Go.Proofs.YtnikdbglpimadaaGreat
end
section
/- The specification of layer 2: field, over this seat's translation (written by mk_fie.py). -/
namespace Go.Proofs.YtnikdbglpimadaaGreat
set_option linter.unusedVariables false
set_option linter.unusedSimpArgs false
open Go.RowKit Go.Shelf

end Go.Proofs.YtnikdbglpimadaaGreat
end
