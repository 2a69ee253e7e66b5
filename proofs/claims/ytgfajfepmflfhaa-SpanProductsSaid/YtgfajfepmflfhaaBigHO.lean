/- The specification's whole numbers of any length: what Floor needs, over this seat's translation. -/
import Derived.Test.YtgfajfepmflfhaaBigG
import Derived.Test.YtgfajfepmflfhaaBigK
namespace Go.Proofs.Ytgfajfepmflfhaa
set_option linter.unusedVariables false
set_option linter.unusedSimpArgs false
open Go.RowKit

/-- What Floor has made so far: the quotient's digits lie in block wc.heap.size, the quotient in the next one, the rest in the one behind it. -/
structure FQ (wc wr : World) (n : Nat) (O : List Int) (A : Option Addr) (k c : Nat) : Prop where
  hB : Below wc.heap.size wc wr
  row : RowI wr wc.heap.size O
  q0 : wr.cell? ⟨wc.heap.size + 1, 0, none⟩ = some (.bool false)
  q1 : wr.cell? ⟨wc.heap.size + 1, 1, none⟩ = some (.slice (some ⟨wc.heap.size, 0, none⟩) n n)
  fq0 : wr.frozen? ⟨wc.heap.size + 1, 0, none⟩ = false
  fq1 : wr.frozen? ⟨wc.heap.size + 1, 1, none⟩ = false
  t0 : wr.cell? ⟨wc.heap.size + 1 + 1, 0, none⟩ = some (.bool false)
  t1 : wr.cell? ⟨wc.heap.size + 1 + 1, 1, none⟩ = some (.slice A k c)
  ft0 : wr.frozen? ⟨wc.heap.size + 1 + 1, 0, none⟩ = false
  ft1 : wr.frozen? ⟨wc.heap.size + 1 + 1, 1, none⟩ = false
  hs : wc.heap.size + 1 + 1 < wr.heap.size
  tn : ∀ o, 2 ≤ o → wr.cell? ⟨wc.heap.size + 1 + 1, o, none⟩ = none
  tq : ∀ o, 2 ≤ o → wr.cell? ⟨wc.heap.size + 1, o, none⟩ = none
theorem FQ.drew {wc wr : World} {n : Nat} {O : List Int} {A : Option Addr} {k c : Nat} (h : FQ wc wr n O A k c) : FQ wc wr.drew n O A k c :=
  ⟨h.hB.drew, h.row, h.q0, h.q1, h.fq0, h.fq1, h.t0, h.t1, h.ft0, h.ft1, h.hs, h.tn, h.tq⟩
theorem FQ.call {wc wr w1 : World} {n : Nat} {O : List Int} {A : Option Addr} {k c : Nat} {B : Nat} (h : FQ wc wr n O A k c) (hb : Below B wr w1) (hB : wc.heap.size + 1 + 1 < B) : FQ wc w1 n O A k c := by
  have hs := h.hs
  have e : ∀ b o, b < B → w1.cell? ⟨b, o, none⟩ = wr.cell? ⟨b, o, none⟩ := fun b o hh => hb.cell (p := ⟨b, o, none⟩) hh
  have f : ∀ b o, b < B → w1.frozen? ⟨b, o, none⟩ = wr.frozen? ⟨b, o, none⟩ := fun b o hh => hb.frozen (p := ⟨b, o, none⟩) hh
  have hz := hb.size
  refine ⟨h.hB.trans (hb.mono (by omega)), (hb.block _ (by omega)).trans h.row, ?_, ?_, ?_, ?_, ?_, ?_, ?_, ?_, by omega, fun o ho => by rw [e _ _ (by omega)]; exact h.tn o ho, fun o ho => by rw [e _ _ (by omega)]; exact h.tq o ho⟩
  · rw [e _ _ (by omega)]; exact h.q0
  · rw [e _ _ (by omega)]; exact h.q1
  · rw [f _ _ (by omega)]; exact h.fq0
  · rw [f _ _ (by omega)]; exact h.fq1
  · rw [e _ _ (by omega)]; exact h.t0
  · rw [e _ _ (by omega)]; exact h.t1
  · rw [f _ _ (by omega)]; exact h.ft0
  · rw [f _ _ (by omega)]; exact h.ft1
theorem FQ.storeQ {wc wr : World} {n : Nat} {O : List Int} {A : Option Addr} {k c : Nat} (h : FQ wc wr n O A k c) (p : Nat) (v : Int) : FQ wc (wr.setCell ⟨wc.heap.size, p, none⟩ (.int .i64 v)) n (O.set p v) A k c := by
  have ne : ∀ b o : Nat, b ≠ wc.heap.size → (⟨wc.heap.size, p, none⟩ : Addr) ≠ ⟨b, o, none⟩ := fun b o hb e => hb (by injection e with e; exact e.symm)
  refine ⟨h.hB.setCell (Nat.le_refl _) _, h.row.store p v, ?_, ?_, ?_, ?_, ?_, ?_, ?_, ?_, by rw [World.size_setCell]; exact h.hs, fun o ho => by rw [World.cell?_setCell_other _ _ _ _ (ne _ _ (by omega))]; exact h.tn o ho, fun o ho => by rw [World.cell?_setCell_other _ _ _ _ (ne _ _ (by omega))]; exact h.tq o ho⟩
  · rw [World.cell?_setCell_other _ _ _ _ (ne _ _ (by omega))]; exact h.q0
  · rw [World.cell?_setCell_other _ _ _ _ (ne _ _ (by omega))]; exact h.q1
  · rw [World.frozen?_setCell]; exact h.fq0
  · rw [World.frozen?_setCell]; exact h.fq1
  · rw [World.cell?_setCell_other _ _ _ _ (ne _ _ (by omega))]; exact h.t0
  · rw [World.cell?_setCell_other _ _ _ _ (ne _ _ (by omega))]; exact h.t1
  · rw [World.frozen?_setCell]; exact h.ft0
  · rw [World.frozen?_setCell]; exact h.ft1
theorem set_two' {W : World} {b : Nat} {p q u v : Value} (h0 : W.cell? ⟨b, 0, none⟩ = some u) (h1 : W.cell? ⟨b, 1, none⟩ = some v) :
    ((W.setCell ⟨b, 0, none⟩ p).setCell ⟨b, 1, none⟩ q).cell? ⟨b, 0, none⟩ = some p ∧ ((W.setCell ⟨b, 0, none⟩ p).setCell ⟨b, 1, none⟩ q).cell? ⟨b, 1, none⟩ = some q := by
  have n1 : (⟨b, 1, none⟩ : Addr) ≠ ⟨b, 0, none⟩ := by simp
  refine ⟨(World.cell?_setCell_other _ _ _ _ n1).trans (World.cell?_setCell_same' _ _ _ (by rw [h0]; rfl)), World.cell?_setCell_same' _ _ _ (by rw [isSome_setCell, h1]; rfl)⟩
theorem FQ.storeT {wc wr : World} {n : Nat} {O : List Int} {A A' : Option Addr} {k c k' c' : Nat} (h : FQ wc wr n O A k c) : FQ wc ((wr.setCell ⟨wc.heap.size + 1 + 1, 0, none⟩ (.bool false)).setCell ⟨wc.heap.size + 1 + 1, 1, none⟩ (.slice A' k' c')) n O A' k' c' := by
  have ne : ∀ i b o : Nat, b ≠ wc.heap.size + 1 + 1 → (⟨wc.heap.size + 1 + 1, i, none⟩ : Addr) ≠ ⟨b, o, none⟩ := fun i b o hb e => hb (by injection e with e; exact e.symm)
  have s := set_two' (p := .bool false) (q := .slice A' k' c') h.t0 h.t1
  refine ⟨(h.hB.setCell (by first | omega | (simp; done) | (simp; omega)) _).setCell (by first | omega | (simp; done) | (simp; omega)) _, ?_, ?_, ?_, ?_, ?_, s.1, s.2, ?_, ?_, by rw [World.size_setCell, World.size_setCell]; exact h.hs, fun o ho => by rw [World.cell?_setCell_other _ _ _ _ (by first | omega | (simp; done) | (simp; omega)), World.cell?_setCell_other _ _ _ _ (by first | omega | (simp; done) | (simp; omega))]; exact h.tn o ho, fun o ho => by rw [World.cell?_setCell_other _ _ _ _ (ne _ _ _ (by omega)), World.cell?_setCell_other _ _ _ _ (ne _ _ _ (by omega))]; exact h.tq o ho⟩
  · show _ = _
    rw [Below.heap_setCell _ _ _ _ (by first | omega | (simp; done) | (simp; omega)), Below.heap_setCell _ _ _ _ (by first | omega | (simp; done) | (simp; omega))]
    exact h.row
  · rw [World.cell?_setCell_other _ _ _ _ (ne _ _ _ (by omega)), World.cell?_setCell_other _ _ _ _ (ne _ _ _ (by omega))]; exact h.q0
  · rw [World.cell?_setCell_other _ _ _ _ (ne _ _ _ (by omega)), World.cell?_setCell_other _ _ _ _ (ne _ _ _ (by omega))]; exact h.q1
  · rw [World.frozen?_setCell, World.frozen?_setCell]; exact h.fq0
  · rw [World.frozen?_setCell, World.frozen?_setCell]; exact h.fq1
  · rw [World.frozen?_setCell, World.frozen?_setCell]; exact h.ft0
  · rw [World.frozen?_setCell, World.frozen?_setCell]; exact h.ft1

/-- The rest: its digits lie from block base on. -/
def RestV (w : World) (base : Nat) (A : Option Addr) (k c : Nat) (z : Int) : Prop := ∃ R, IsI w base A k R ∧ k ≤ c ∧ k ≤ 64 ∧ Canon R ∧ val R = z
theorem RestV.below {w w1 : World} {base : Nat} {A : Option Addr} {k c : Nat} {z : Int} (h : RestV w base A k c z) (hb : Below w.heap.size w w1) : RestV w1 base A k c z := by
  obtain ⟨R, h1, h2⟩ := h
  exact ⟨R, h1.below hb, h2⟩
theorem RestV.setCell {w : World} {base : Nat} {A : Option Addr} {k c : Nat} {z : Int} (h : RestV w base A k c z) {p : Addr} (hp : p.block < base) (v : Value) : RestV (w.setCell p v) base A k c z := by
  obtain ⟨R, h1, h2⟩ := h
  exact ⟨R, h1.setCell hp v, h2⟩
theorem RestV.big {w : World} {base : Nat} {A : Option Addr} {k c : Nat} {z : Int} (h : RestV w base A k c z) (hz : 0 ≤ z) : BigV w (.agg #[.bool false, .slice A k c]) z := by
  obtain ⟨R, h1, h2, h3, h4, h5⟩ := h
  exact ⟨A, k, c, R, by rw [decide_eq_false (by omega)], h1.mono (Nat.zero_le _), h2, h3, h4, by omega⟩
theorem BigV.rest {w : World} {A : Option Addr} {k c : Nat} {z : Int} (h : BigV w (.agg #[.bool false, .slice A k c]) z) : RestV w 0 A k c z := by
  obtain ⟨A', k', c', R, e, h1, h2, h3, h4, h5⟩ := h
  injection e with e
  have e0 := congrArg (fun a : Array Value => a[0]?) e
  have e1 := congrArg (fun a : Array Value => a[1]?) e
  simp at e0 e1
  obtain ⟨rfl, rfl, rfl⟩ := e1
  exact ⟨R, h1, h2, h3, h4, by omega⟩

/-- A number whose digits lie elsewhere: it stays behind a store into the rest's place. -/
theorem RestV.far {w : World} {base : Nat} {A A0 : Option Addr} {k c k0 c0 rb : Nat} {z : Int} {x : Bool} (h : RestV w base A k c z) (h0 : w.cell? ⟨rb, 0, none⟩ = some (.bool x)) (h1 : w.cell? ⟨rb, 1, none⟩ = some (.slice A0 k0 c0))
    (hn : ∀ o, 2 ≤ o → w.cell? ⟨rb, o, none⟩ = none) (p q : Value) : RestV ((w.setCell ⟨rb, 0, none⟩ p).setCell ⟨rb, 1, none⟩ q) base A k c z := by
  obtain ⟨R, hI, hr⟩ := h
  refine ⟨R, ⟨hI.1, fun hk => ?_⟩, hr⟩
  obtain ⟨b, o, e, g0, g1, g2⟩ := hI.2 hk
  have hb : b ≠ rb := by
    rintro rfl
    have g := g2 0 hk
    rcases o with _ | _ | o
    · rw [show 0 + 0 = 0 from rfl, h0] at g; cases g
    · rw [show 0 + 1 + 0 = 1 from rfl, h1] at g; cases g
    · rw [hn _ (by omega)] at g; cases g
  refine ⟨b, o, e, g0, by rw [World.size_setCell, World.size_setCell]; exact g1, fun j hj => ?_⟩
  rw [World.cell?_setCell_other _ _ _ _ (by first | omega | (simp; done) | (simp; omega)), World.cell?_setCell_other _ _ _ _ (by first | omega | (simp; done) | (simp; omega))]
  exact g2 j hj

theorem BigB.open' {w : World} {base : Nat} {v : Value} {z : Int} (h : BigB w base v z) : ∃ (neg : Bool) (A : Option Addr) (k c : Nat), v = .agg #[.bool neg, .slice A k c] ∧ BigB w base (.agg #[.bool neg, .slice A k c]) z := by
  obtain ⟨A, k, c, P, e, i⟩ := h
  exact ⟨_, A, k, c, e, A, k, c, P, rfl, i⟩
theorem RestV.bigB {w : World} {base : Nat} {A : Option Addr} {k c : Nat} {z : Int} (h : RestV w base A k c z) (hz : 0 ≤ z) : BigB w base (.agg #[.bool false, .slice A k c]) z := by
  obtain ⟨R, h1, h2, h3, h4, h5⟩ := h
  exact ⟨A, k, c, R, by rw [decide_eq_false (by omega)], h1, h2, h3, h4, by omega⟩

/-- The same of any number. -/
theorem BigB.far {w : World} {base : Nat} {A0 : Option Addr} {k0 c0 rb : Nat} {z : Int} {x : Bool} {v : Value} (h : BigB w base v z) (h0 : w.cell? ⟨rb, 0, none⟩ = some (.bool x)) (h1 : w.cell? ⟨rb, 1, none⟩ = some (.slice A0 k0 c0))
    (hn : ∀ o, 2 ≤ o → w.cell? ⟨rb, o, none⟩ = none) (p q : Value) : BigB ((w.setCell ⟨rb, 0, none⟩ p).setCell ⟨rb, 1, none⟩ q) base v z := by
  obtain ⟨A, k, c, R, e, hI, h2, h3, h4, h5⟩ := h
  obtain ⟨R', i1, i2, i3, i4, i5⟩ := RestV.far (z := val R) ⟨R, hI, h2, h3, h4, rfl⟩ h0 h1 hn p q
  exact ⟨A, k, c, R', e, i1, i2, i3, i4, by rw [i5, h5]⟩

end Go.Proofs.Ytgfajfepmflfhaa
