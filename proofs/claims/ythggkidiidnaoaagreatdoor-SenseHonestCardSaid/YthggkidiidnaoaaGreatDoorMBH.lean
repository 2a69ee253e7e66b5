import Derived.Test.YthggkidiidnaoaaGreatDoorMBG
import Derived.Laws.AppendOwn
import Derived.Deep.AppendLies
namespace Go.Proofs.YthggkidiidnaoaaGreatDoor
set_option linter.unusedVariables false
set_option linter.unusedSimpArgs false
section
open Go.RowKit
end
section
open Go.RowKit
structure EW (w wr : World) (x y : Nat) (u0 u1 v0 v1 : Value) : Prop where
  x0 : wr.cell? ⟨x, 0, none⟩ = some u0
  x1 : wr.cell? ⟨x, 1, none⟩ = some u1
  y0 : wr.cell? ⟨y, 0, none⟩ = some v0
  y1 : wr.cell? ⟨y, 1, none⟩ = some v1
  fx0 : wr.frozen? ⟨x, 0, none⟩ = false
  fx1 : wr.frozen? ⟨x, 1, none⟩ = false
  fy0 : wr.frozen? ⟨y, 0, none⟩ = false
  fy1 : wr.frozen? ⟨y, 1, none⟩ = false
  r0 : (wr.cell? ⟨w.heap.size, 0, none⟩).isSome = true
  r1 : (wr.cell? ⟨w.heap.size, 1, none⟩).isSome = true
  r2 : (wr.cell? ⟨w.heap.size + 1, 0, none⟩).isSome = true
  r3 : (wr.cell? ⟨w.heap.size + 1, 1, none⟩).isSome = true
  f0 : wr.frozen? ⟨w.heap.size, 0, none⟩ = false
  f1 : wr.frozen? ⟨w.heap.size, 1, none⟩ = false
  f2 : wr.frozen? ⟨w.heap.size + 1, 0, none⟩ = false
  f3 : wr.frozen? ⟨w.heap.size + 1, 1, none⟩ = false
  hx : w.heap.size + 1 < x
  hy : w.heap.size + 1 < y
  hxy : x ≠ y
  lx : x < wr.heap.size
  ly : y < wr.heap.size
  hB : Below w.heap.size w wr
theorem EW.drew {w wr : World} {x y : Nat} {u0 u1 v0 v1 : Value} (h : EW w wr x y u0 u1 v0 v1) : EW w wr.drew x y u0 u1 v0 v1 :=
  ⟨h.x0, h.x1, h.y0, h.y1, h.fx0, h.fx1, h.fy0, h.fy1, h.r0, h.r1, h.r2, h.r3, h.f0, h.f1, h.f2, h.f3, h.hx, h.hy, h.hxy, h.lx, h.ly, h.hB.drew⟩
theorem EW.call {w wr w1 : World} {x y : Nat} {u0 u1 v0 v1 : Value} (h : EW w wr x y u0 u1 v0 v1) (hb : Below wr.heap.size wr w1) : EW w w1 x y u0 u1 v0 v1 := by
  have lx := h.lx
  have ly := h.ly
  have hx := h.hx
  have c : ∀ b o, b < wr.heap.size → w1.cell? ⟨b, o, none⟩ = wr.cell? ⟨b, o, none⟩ := fun b o hh => hb.cell (p := ⟨b, o, none⟩) hh
  have f : ∀ b o, b < wr.heap.size → w1.frozen? ⟨b, o, none⟩ = wr.frozen? ⟨b, o, none⟩ := fun b o hh => hb.frozen (p := ⟨b, o, none⟩) hh
  have hs := hb.size
  refine ⟨?_, ?_, ?_, ?_, ?_, ?_, ?_, ?_, ?_, ?_, ?_, ?_, ?_, ?_, ?_, ?_, h.hx, h.hy, h.hxy, by omega, by omega, h.hB.trans (hb.mono h.hB.size)⟩
  · rw [c _ _ lx]; exact h.x0
  · rw [c _ _ lx]; exact h.x1
  · rw [c _ _ ly]; exact h.y0
  · rw [c _ _ ly]; exact h.y1
  · rw [f _ _ lx]; exact h.fx0
  · rw [f _ _ lx]; exact h.fx1
  · rw [f _ _ ly]; exact h.fy0
  · rw [f _ _ ly]; exact h.fy1
  · rw [c _ _ (by omega)]; exact h.r0
  · rw [c _ _ (by omega)]; exact h.r1
  · rw [c _ _ (by omega)]; exact h.r2
  · rw [c _ _ (by omega)]; exact h.r3
  · rw [f _ _ (by omega)]; exact h.f0
  · rw [f _ _ (by omega)]; exact h.f1
  · rw [f _ _ (by omega)]; exact h.f2
  · rw [f _ _ (by omega)]; exact h.f3
end
section
open Go.RowKit
structure FQ (wc wr : World) (n : Nat) (O : List Int) (A : Option Addr) (k c : Nat) : Prop where
  hB : Below wc.heap.size wc wr
  row : RowI wr wc.heap.size O
  q0 : wr.cell? ⟨wc.heap.size + 1, 0, none⟩ = some (.bool false)
  q1 : wr.cell? ⟨wc.heap.size + 1, 1, none⟩ = some (.slice (some ⟨wc.heap.size, 0, none⟩) n n)
  fq0 : wr.frozen? ⟨wc.heap.size + 1, 0, none⟩ = false
  fq1 : wr.frozen? ⟨wc.heap.size + 1, 1, none⟩ = false
  t0 : wr.cell? ⟨wc.heap.size + 1 + 1, 0, none⟩ = some (.bool false)
  t1 : wr.cell? ⟨wc.heap.size + 1 + 1, 1, none⟩ = some (.slice A k c)
  ft0 : wr.frozen? ⟨wc.heap.size + 1 + 1, 0, none⟩ = false
  ft1 : wr.frozen? ⟨wc.heap.size + 1 + 1, 1, none⟩ = false
  hs : wc.heap.size + 1 + 1 < wr.heap.size
  tn : ∀ o, 2 ≤ o → wr.cell? ⟨wc.heap.size + 1 + 1, o, none⟩ = none
  tq : ∀ o, 2 ≤ o → wr.cell? ⟨wc.heap.size + 1, o, none⟩ = none
theorem FQ.drew {wc wr : World} {n : Nat} {O : List Int} {A : Option Addr} {k c : Nat} (h : FQ wc wr n O A k c) : FQ wc wr.drew n O A k c :=
  ⟨h.hB.drew, h.row, h.q0, h.q1, h.fq0, h.fq1, h.t0, h.t1, h.ft0, h.ft1, h.hs, h.tn, h.tq⟩
theorem FQ.call {wc wr w1 : World} {n : Nat} {O : List Int} {A : Option Addr} {k c : Nat} {B : Nat} (h : FQ wc wr n O A k c) (hb : Below B wr w1) (hB : wc.heap.size + 1 + 1 < B) : FQ wc w1 n O A k c := by
  have hs := h.hs
  have e : ∀ b o, b < B → w1.cell? ⟨b, o, none⟩ = wr.cell? ⟨b, o, none⟩ := fun b o hh => hb.cell (p := ⟨b, o, none⟩) hh
  have f : ∀ b o, b < B → w1.frozen? ⟨b, o, none⟩ = wr.frozen? ⟨b, o, none⟩ := fun b o hh => hb.frozen (p := ⟨b, o, none⟩) hh
  have hz := hb.size
  refine ⟨h.hB.trans (hb.mono (by omega)), (hb.block _ (by omega)).trans h.row, ?_, ?_, ?_, ?_, ?_, ?_, ?_, ?_, by omega, fun o ho => by rw [e _ _ (by omega)]; exact h.tn o ho, fun o ho => by rw [e _ _ (by omega)]; exact h.tq o ho⟩
  · rw [e _ _ (by omega)]; exact h.q0
  · rw [e _ _ (by omega)]; exact h.q1
  · rw [f _ _ (by omega)]; exact h.fq0
  · rw [f _ _ (by omega)]; exact h.fq1
  · rw [e _ _ (by omega)]; exact h.t0
  · rw [e _ _ (by omega)]; exact h.t1
  · rw [f _ _ (by omega)]; exact h.ft0
  · rw [f _ _ (by omega)]; exact h.ft1
def RestV (w : World) (base : Nat) (A : Option Addr) (k c : Nat) (z : Int) : Prop := ∃ R, IsI w base A k R ∧ k ≤ c ∧ k ≤ 64 ∧ Canon R ∧ val R = z
theorem RestV.below {w w1 : World} {base : Nat} {A : Option Addr} {k c : Nat} {z : Int} (h : RestV w base A k c z) (hb : Below w.heap.size w w1) : RestV w1 base A k c z := by
  obtain ⟨R, h1, h2⟩ := h
  exact ⟨R, h1.below hb, h2⟩
theorem RestV.setCell {w : World} {base : Nat} {A : Option Addr} {k c : Nat} {z : Int} (h : RestV w base A k c z) {p : Addr} (hp : p.block < base) (v : Value) : RestV (w.setCell p v) base A k c z := by
  obtain ⟨R, h1, h2⟩ := h
  exact ⟨R, h1.setCell hp v, h2⟩
theorem BigV.rest {w : World} {A : Option Addr} {k c : Nat} {z : Int} (h : BigV w (.agg #[.bool false, .slice A k c]) z) : RestV w 0 A k c z := by
  obtain ⟨A', k', c', R, e, h1, h2, h3, h4, h5⟩ := h
  injection e with e
  have e0 := congrArg (fun a : Array Value => a[0]?) e
  have e1 := congrArg (fun a : Array Value => a[1]?) e
  simp at e0 e1
  obtain ⟨rfl, rfl, rfl⟩ := e1
  exact ⟨R, h1, h2, h3, h4, by omega⟩
theorem RestV.far {w : World} {base : Nat} {A A0 : Option Addr} {k c k0 c0 rb : Nat} {z : Int} {x : Bool} (h : RestV w base A k c z) (h0 : w.cell? ⟨rb, 0, none⟩ = some (.bool x)) (h1 : w.cell? ⟨rb, 1, none⟩ = some (.slice A0 k0 c0))
    (hn : ∀ o, 2 ≤ o → w.cell? ⟨rb, o, none⟩ = none) (p q : Value) : RestV ((w.setCell ⟨rb, 0, none⟩ p).setCell ⟨rb, 1, none⟩ q) base A k c z := by
  obtain ⟨R, hI, hr⟩ := h
  refine ⟨R, ⟨hI.1, fun hk => ?_⟩, hr⟩
  obtain ⟨b, o, e, g0, g1, g2⟩ := hI.2 hk
  have hb : b ≠ rb := by
    rintro rfl
    have g := g2 0 hk
    rcases o with _ | _ | o
    · rw [show 0 + 0 = 0 from rfl, h0] at g; cases g
    · rw [show 0 + 1 + 0 = 1 from rfl, h1] at g; cases g
    · rw [hn _ (by omega)] at g; cases g
  refine ⟨b, o, e, g0, by rw [World.size_setCell, World.size_setCell]; exact g1, fun j hj => ?_⟩
  rw [World.cell?_setCell_other _ _ _ _ (by (simp; done)), World.cell?_setCell_other _ _ _ _ (by (simp; done))]
  exact g2 j hj
theorem BigB.far {w : World} {base : Nat} {A0 : Option Addr} {k0 c0 rb : Nat} {z : Int} {x : Bool} {v : Value} (h : BigB w base v z) (h0 : w.cell? ⟨rb, 0, none⟩ = some (.bool x)) (h1 : w.cell? ⟨rb, 1, none⟩ = some (.slice A0 k0 c0))
    (hn : ∀ o, 2 ≤ o → w.cell? ⟨rb, o, none⟩ = none) (p q : Value) : BigB ((w.setCell ⟨rb, 0, none⟩ p).setCell ⟨rb, 1, none⟩ q) base v z := by
  obtain ⟨A, k, c, R, e, hI, h2, h3, h4, h5⟩ := h
  obtain ⟨R', i1, i2, i3, i4, i5⟩ := RestV.far (z := val R) ⟨R, hI, h2, h3, h4, rfl⟩ h0 h1 hn p q
  exact ⟨A, k, c, R', e, i1, i2, i3, i4, by rw [i5, h5]⟩
end
end Go.Proofs.YthggkidiidnaoaaGreatDoor
