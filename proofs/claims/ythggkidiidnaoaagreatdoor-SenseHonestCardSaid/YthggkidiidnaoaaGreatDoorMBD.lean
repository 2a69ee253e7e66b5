import Derived.Test.YthggkidiidnaoaaGreatDoorMAH
import Derived.Test.YthggkidiidnaoaaGreatDoorMAL
import Derived.Test.YthggkidiidnaoaaGreatDoorMAM
import Derived.Test.YthggkidiidnaoaaGreatDoorMAT
import Derived.Test.YthggkidiidnaoaaGreatDoorMAU
import Derived.Test.YthggkidiidnaoaaGreatDoorMAW
import Derived.Test.YthggkidiidnaoaaGreatDoorMAZ
import Derived.Test.YthggkidiidnaoaaGreatDoorMBB
import Derived.Test.YthggkidiidnaoaaGreatDoorMBC
import Derived.Test.YthggkidiidnaoaaGreatDoorRows
import Derived.KernelRfl
import Derived.Laws.StructEq
namespace Go.Proofs.YthggkidiidnaoaaGreatDoor
set_option linter.unusedVariables false
set_option linter.unusedSimpArgs false
section
set_option autoImplicit false
open Go.RowKit
section
variable {P : Program} {e0 : Cfg} {U : Snaps} {l : Slots} {L : Boxes} {ops : Array Oper} {Q : Exit → Act → World → Prop} {rest : List Oper} {d : Nat}
theorem ac_toTail {b n : Nat} {cs : List Value} {L1 G L L' : Boxes} {c : Code} (hT : Tl L1 G L) (hT' : Tl L1 (gt (some (b, n, [])) cs ++ G) L') (k : AC P e0 U l L' c Q) : AC P e0 U l ((b, .cells cs) :: L) c Q := fun a w hf hs => k a w hf (hs.perm (by
  rw [hT.eq, hT'.eq]
  simp only [gt, List.append_nil, List.singleton_append]
  exact List.perm_middle.symm))
variable {ty : TypeId} {pos : String} {af : Array Edge} {g : Option (Nat × Bool)} {dd : Option Nat}
theorem IsT.from {α : Type} {z : Nat} {enc : α → List Value} {w : World} {A : Option Addr} {len cap lo : Nat} {zs : List α} (h : IsT z enc w A len zs) (hlo : lo ≤ len) (hcap : len ≤ cap) : IsT z enc w (if cap = lo then A else A.map (·.add (lo * z))) (len - lo) (zs.drop lo) := by
  by_cases h0 : 0 < len - lo
  · obtain ⟨b, o, e, hb, hg⟩ := h.2 (by omega)
    subst e
    rw [if_neg (by omega)]
    have := h.drop lo
    simpa [addr_add] using this
  · exact ⟨by rw [List.length_drop, h.1], fun h1 => absurd h1 h0⟩
end
end
section
open Go.RowKit
end
section
open Go.RowKit
end
section
open Go.RowKit
theorem Sta.isC4 {E : Cfg} {U : Snaps} {L : Boxes} {w u : World} {lo : Nat} {Q : CurR} {C : CurD} (h : Sta E U L w) (hu : (lo, u) ∈ U) (hC : IsC u Q C) (ha : ∀ b o, Q.A = some ⟨b, o, none⟩ → lo ≤ b) (hb : ∀ b o, Q.B = some ⟨b, o, none⟩ → lo ≤ b) (hc : ∀ b o, Q.C = some ⟨b, o, none⟩ → lo ≤ b) : IsC w Q C :=
  ⟨h.isT hu hC.coils (fun b o e => Or.inl (ha b o e)), h.isT hu hC.shells (fun b o e => Or.inl (hb b o e)), h.isT hu hC.plasma (fun b o e => Or.inl (hc b o e)), hC.la, hC.lb, hC.lc, hC.ca, hC.cb, hC.cc, hC.ka, hC.kb, hC.kc⟩
theorem bgL_len (M : MachD) (C : CurD) : (bgL M C).length = M.sensors.length := by simp [bgL]
end
end Go.Proofs.YthggkidiidnaoaaGreatDoor
