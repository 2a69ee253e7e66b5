import Derived.Test.YtnikdbglpimadaaGreatJAD
import Derived.Test.YtnikdbglpimadaaGreatJAK
import Derived.Test.YtnikdbglpimadaaGreatJAL
import Derived.Test.YtnikdbglpimadaaGreatJAV
import Derived.Test.YtnikdbglpimadaaGreatRows
import Derived.KernelRfl
import Derived.Laws.StructEq
import Derived.Recover
section
/- Package machine: ValidCurrents of lists of any length, over this seat's translation (written by ax_ci1.py). -/
namespace Go.Proofs.YtnikdbglpimadaaGreat
set_option linter.unusedVariables false
set_option linter.unusedSimpArgs false
open Go.RowKit

end Go.Proofs.YtnikdbglpimadaaGreat
end
section
/- Abstract walking: deferred calls that recover nothing. -/
namespace Go.Proofs.YtnikdbglpimadaaGreat
set_option linter.unusedVariables false
set_option linter.unusedSimpArgs false
set_option autoImplicit false
open Go.RowKit

section
variable {P : Program} {e0 : Cfg} {U : Snaps} {l : Slots} {L : Boxes} {ops : Array Oper} {Q : Exit → Act → World → Prop} {rest : List Oper} {d : Nat} {v : Value}
variable {ty : TypeId} {pos : String} {af : Array Edge} {g : Option (Nat × Bool)} {dd : Option Nat}

theorem Fr.defer {n : Nat} {D : List Deferred} {w0 : World} {bs : List Nat} {a : Act} (h : Fr ⟨n, D, w0, bs⟩ l a) (x : Deferred) (u : Value) : Fr ⟨n, x :: D, w0, bs⟩ l ({ a with defers := x :: a.defers }.put none u) :=
  ⟨h.size, by show x :: a.defers = x :: D; rw [h.defers], h.slot⟩
end

end Go.Proofs.YtnikdbglpimadaaGreat
end
section
/- Abstract walking: lists in own boxes as the lists that the contracts speak of. -/
namespace Go.Proofs.YtnikdbglpimadaaGreat
set_option linter.unusedVariables false
set_option linter.unusedSimpArgs false
open Go.RowKit

theorem flat_get {α : Type} {n : Nat} {enc : α → List Value} (hl : ∀ x, (enc x).length = n) : ∀ (zs : List α) (j : Nat) (x : α), zs[j]? = some x → ∀ (i : Nat) (v : Value), (enc x)[i]? = some v → (zs.flatMap enc)[j * n + i]? = some v
  | [], j, x, h, i, v, hv => by simp at h
  | z :: zs, 0, x, h, i, v, hv => by
    obtain rfl : z = x := by simpa using h
    have hi := (List.getElem?_eq_some_iff.1 hv).1
    simp only [List.flatMap_cons, Nat.zero_mul, Nat.zero_add]
    rw [List.getElem?_append_left hi]; exact hv
  | z :: zs, j + 1, x, h, i, v, hv => by
    simp only [List.flatMap_cons]
    rw [List.getElem?_append_right (by rw [hl, Nat.add_mul]; omega), hl]
    have e : (j + 1) * n + i - n = j * n + i := by rw [Nat.add_mul]; omega
    rw [e]
    exact flat_get hl zs j x (by simpa using h) i v hv
theorem isT_box {α : Type} {n : Nat} {enc : α → List Value} (hl : ∀ x, (enc x).length = n) {w : World} {b : Nat} {cs sp : List Value} {zs : List α} {len : Nat} (h : BoxAt w b (.cells (cs ++ sp))) (hz : zs.flatMap enc = cs) (hn : zs.length = len) : IsT n enc w (some ⟨b, 0, none⟩) len zs := by
  refine ⟨hn, fun _ => ⟨b, 0, rfl, h.lt, fun j x hx i v hv => ?_⟩⟩
  have hc := flat_get hl zs j x hx i v hv
  rw [hz] at hc
  have hlt := (List.getElem?_eq_some_iff.1 hc).1
  rw [Nat.zero_add]
  exact (h.cell _ rfl _ v (by rw [List.getElem?_append_left hlt]; exact hc)).1
theorem isT_box0 {α : Type} {n : Nat} {enc : α → List Value} (hl : ∀ x, (enc x).length = n) {w : World} {b : Nat} {cs : List Value} {zs : List α} {len : Nat} (h : BoxAt w b (.cells cs)) (hz : zs.flatMap enc = cs) (hn : zs.length = len) : IsT n enc w (some ⟨b, 0, none⟩) len zs :=
  isT_box (sp := []) hl (by simpa using h) hz hn
theorem Sta.at {E : Cfg} {U : Snaps} {L : Boxes} {w : World} (h : Sta E U L w) (i : Nat) {b : Nat} {c : Cont} (hi : L[i]? = some (b, c)) : BoxAt w b c := (h.box i b c hi).2
/-- a list that lay there at a snapshot -/
theorem Sta.isT {α : Type} {n : Nat} {enc : α → List Value} {E : Cfg} {U : Snaps} {L : Boxes} {w : World} (h : Sta E U L w) {lo : Nat} {u : World} (hu : (lo, u) ∈ U) {A : Option Addr} {len : Nat} {zs : List α} (hz : IsT n enc u A len zs)
    (hA : ∀ b o, A = some ⟨b, o, none⟩ → lo ≤ b ∨ b < E.w.heap.size ∧ b ∉ E.lent) : IsT n enc w A len zs :=
  ⟨hz.1, fun h0 => by
    obtain ⟨b, o, e, h1, h2⟩ := hz.2 h0
    have hk : w.heap[b]? = u.heap[b]? := h.old hu (by rcases hA b o e with g | g; exact Or.inl ⟨g, h1⟩; exact Or.inr g)
    refine ⟨b, o, e, ?_, fun j x hx i v hv => ?_⟩
    · have := (h.snap lo u hu).2.2.1; omega
    · rw [World.cell?_of_block (w := u) (w' := w) (a := ⟨b, _, none⟩) hk]; exact h2 j x hx i v hv⟩
/-- a machine's lists lie in blocks that are new since w -/
structure NewM (w : World) (R : MachR) : Prop where
  a : ∀ b o, R.A = some ⟨b, o, none⟩ → w.heap.size ≤ b
  b : ∀ b o, R.B = some ⟨b, o, none⟩ → w.heap.size ≤ b
  c : ∀ b o, R.C = some ⟨b, o, none⟩ → w.heap.size ≤ b
  d : ∀ b o, R.D = some ⟨b, o, none⟩ → w.heap.size ≤ b
theorem NewM.mono {w v : World} {R : MachR} (h : NewM v R) (hz : w.heap.size ≤ v.heap.size) : NewM w R :=
  ⟨fun b o e => Nat.le_trans hz (h.a b o e), fun b o e => Nat.le_trans hz (h.b b o e), fun b o e => Nat.le_trans hz (h.c b o e), fun b o e => Nat.le_trans hz (h.d b o e)⟩
theorem Sta.new {n : Nat} {D : List Deferred} {w0 : World} {U : Snaps} {L : Boxes} {w : World} (h : Sta ⟨n, D, w0, []⟩ U L w) (i : Nat) {b : Nat} {c : Cont} (hi : L[i]? = some (b, c)) : ∀ b' o, some (⟨b, 0, none⟩ : Addr) = some ⟨b', o, none⟩ → w0.heap.size ≤ b' := fun b' o e => by
  cases e
  rcases (h.box i b c hi).1 with g | g
  · exact g
  · cases g
theorem Sta.isM {E : Cfg} {U : Snaps} {L : Boxes} {w : World} (h : Sta E U L w) {v u : World} (hu : (v.heap.size, u) ∈ U) {R : MachR} {M : MachD} (hM : IsM u R M) (hN : NewM v R) : IsM w R M :=
  ⟨h.isT hu hM.coils fun b o e => Or.inl (hN.a b o e), h.isT hu hM.shells fun b o e => Or.inl (hN.b b o e), h.isT hu hM.limits fun b o e => Or.inl (hN.c b o e), h.isT hu hM.sensors fun b o e => Or.inl (hN.d b o e), hM.la, hM.lb, hM.lc, hM.ld, hM.ca, hM.cb, hM.cc, hM.cd, hM.ka, hM.kb, hM.kc, hM.kd⟩

end Go.Proofs.YtnikdbglpimadaaGreat
end
