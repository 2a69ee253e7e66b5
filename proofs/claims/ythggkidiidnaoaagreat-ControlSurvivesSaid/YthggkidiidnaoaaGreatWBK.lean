import Derived.Test.YthggkidiidnaoaaGreatWAA
import Derived.Test.YthggkidiidnaoaaGreatWBF
import Derived.OrdersIn
namespace Go.Proofs.YthggkidiidnaoaaGreat
set_option linter.unusedVariables false
set_option linter.unusedSimpArgs false
section
set_option autoImplicit false
open Go.RowKit
end
section
set_option autoImplicit false
open Go.RowKit
inductive Marks (w : World) : Nat → List Nat → Prop
 | nil {m : Nat} : Marks w m []
 | cons {m D : Nat} {Ds : List Nat} (hD : w.heap[D]? = some (.deferred (some []))) (hm : D < m) (h : Marks w D Ds) : Marks w m (D :: Ds)
theorem Marks.mono {w : World} {m m' : Nat} {Ds : List Nat} (h : Marks w m Ds) (hm : m ≤ m') : Marks w m' Ds := by
 cases h with
 | nil => exact .nil
 | cons hD h1 h2 => exact .cons hD om9 h2
theorem Marks.keep {w w' : World} {m : Nat} {Ds : List Nat} (h : Marks w m Ds) (hk : ∀ D, D < m → w.heap[D]? = some (.deferred (some [])) → w'.heap[D]? = w.heap[D]?) : Marks w' m Ds := by
 induction h with
 | nil => exact .nil
 | cons hD h1 h2 ih => exact .cons ((hk _ h1 hD).trans hD) h1 (ih fun D hd => hk D om9)
theorem Marks.lt {w : World} {m : Nat} {Ds : List Nat} (h : Marks w m Ds) : ∀ D ∈ Ds, D < m := by
 induction h with
 | nil => intro D hD; cases hD
 | cons hD h1 h2 ih =>
  intro d hd
  rcases List.mem_cons.1 hd with rfl | hd
  ·exact h1
  ·exact Nat.lt_trans (ih d hd) h1
theorem Sta.mv {E : Cfg} {U : Snaps} {L : Boxes} {w w' : World} {n0 : Nat} {Z : List Nat} (h : Sta E U L w) (hm : Mv n0 Z w w') (hn : E.w.heap.size ≤ n0) (hU : ∀ lo u, (lo, u) ∈ U → u.heap.size ≤ n0) (hZ : ∀ z ∈ Z, n0 ≤ z) (hc : ∀ (i b : Nat) (c : Cont), L[i]? = some (b, c) → b ∉ Z ∧ (b < n0 ∨ ∃ o : Obj, w.heap[b]? = some o ∧ o.isCells = true)) : Sta E U L w' := by
 have low : ∀ k, k < n0 → k < w.heap.size → w'.heap[k]? = w.heap[k]? := fun k hk hw => hm.block k hw (fun hz => by have := hZ k hz; omega) (Or.inl hk)
 have hs := h.chg.size
 refine ⟨⟨hm.os.trans h.chg.os, hm.tape.trans h.chg.tape, hm.output.trans h.chg.output, Nat.le_trans h.chg.size hm.size, fun k hk hl => (low k om9 om9).trans (h.chg.block k hk hl)⟩, fun i b c hi => ?_, h.apart, fun lo u hu => ?_⟩
 ·obtain ⟨h1, h2⟩ := h.box i b c hi
  obtain ⟨g1, g2⟩ := hc i b c hi
  exact ⟨h1, h2.same (hm.block b h2.lt g1 g2) hm.size⟩
 ·obtain ⟨s0, s1, s2, s3, s4, s5⟩ := h.snap lo u hu
  have := hU lo u hu
  exact ⟨s0, s1, Nat.le_trans s2 hm.size, fun k h1 h2 => (low k om9 om9).trans (s3 k h1 h2), s4, s5⟩
end
section
set_option autoImplicit false
open Go.RowKit
theorem Marks.snap {E : Cfg} {U : Snaps} {L : Boxes} {w u : World} {lo : Nat} {Ds : List Nat} (h : Sta E U L w) (hu : (lo, u) ∈ U) (hM : Marks u u.heap.size Ds) (hlo : ∀ D ∈ Ds, lo ≤ D) : Marks w u.heap.size Ds := by
 obtain ⟨-, -, s2, s3, -, -⟩ := h.snap lo u hu
 have key : ∀ (m : Nat) (Ds : List Nat), Marks u m Ds → m ≤ u.heap.size → (∀ D ∈ Ds, lo ≤ D) → Marks w m Ds := by
  intro m Ds hM
  induction hM with
  | nil => intro _ _; exact .nil
  | cons hD h1 h2 ih =>
   intro hm hl
   exact .cons ((s3 _ (hl _ (by simp)) om9).trans hD) h1 (ih om9 fun d hd => hl d (by simp [hd]))
 exact key _ _ hM (Nat.le_refl _) hlo
end
section
set_option autoImplicit false
open Go.RowKit
theorem ac_cutU {P : Program} {e0 : Cfg} {U : Snaps} {l : Slots} {L : Boxes} {Q : Exit → Act → World → Prop} {β : Type} {c1 c2 : Code} (F : β → Prop) (S : β → Slots) (M : β → Boxes → Boxes)
  (h1 : ∀ X : Act → World → Prop, (∀ y, F y → AQ e0 U (S y) (M y L) X) → AC P e0 U l L c1 (Exit.then X Q)) (h2 : ∀ y, F y → AC P e0 U (S y) (M y L) c2 Q) : AC P e0 U l L (.seq c1 c2) Q := ac_cut F S (fun _ => U) M h1 h2
end
end Go.Proofs.YthggkidiidnaoaaGreat
