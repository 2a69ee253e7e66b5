import Derived.Test.YtogcjgjhmlifgaaGreatMAA
import Derived.Test.YtogcjgjhmlifgaaGreatMAG
import Derived.Test.YtogcjgjhmlifgaaGreatMAH
import Derived.Test.YtogcjgjhmlifgaaGreatMAM
import Derived.Test.YtogcjgjhmlifgaaGreatMAN
import Derived.Test.YtogcjgjhmlifgaaGreatRows
import Derived.KernelRfl
import Derived.Laws.StructEq
import Derived.Handy
import Derived.Shelf.Strconv.Itoa0
import Derived.Shelf.Bits.Mul64
import Derived.Ground.Names2Prog
import Derived.Shelf.Slices.Clone
import Derived.Ground.SlgnProg
import Derived.Shelf.SlicesE.Clone
import Derived.Test.YtogcjgjhmlifgaaGreatProg
import Derived.Laws.OwnMore
import Derived.Deep.OwnRows
import Derived.Laws.AppendOwn
import Derived.Laws.AppendOwnNone
import Derived.WalkKit
import Derived.Lib.Hide
section
namespace Go.Proofs.YtogcjgjhmlifgaaGreat
set_option linter.unusedVariables false
set_option linter.unusedSimpArgs false
open Go.RowKit
end Go.Proofs.YtogcjgjhmlifgaaGreat
end
section
namespace Go.Proofs.YtogcjgjhmlifgaaGreat
set_option linter.unusedVariables false
set_option linter.unusedSimpArgs false
open Go.RowKit
end Go.Proofs.YtogcjgjhmlifgaaGreat
end
section
namespace Go.Proofs.YtogcjgjhmlifgaaGreat
set_option linter.unusedVariables false
set_option linter.unusedSimpArgs false
open Go.RowKit
end Go.Proofs.YtogcjgjhmlifgaaGreat
end
section
namespace Go.Proofs
open Go.Shelf
end Go.Proofs
end
section
namespace Go.Proofs.YtogcjgjhmlifgaaGreat
set_option linter.unusedVariables false
set_option linter.unusedSimpArgs false
open Go.RowKit Go.Shelf
structure NewI (B : Nat) (w' : World) (A : Option Addr) (len cap : Nat) (zs : List Int) : Prop where
  isT : IsT 1 intCells w' A len zs
  le : len ≤ cap
  cap : cap ≤ maxLen
  new : ∀ a, A = some a → B ≤ a.block
  lt : ∀ a, A = some a → a.block < w'.heap.size
theorem NewI.below {B : Nat} {w1 w2 : World} {A : Option Addr} {len cap : Nat} {zs : List Int} (h : NewI B w1 A len cap zs) (hb : Below w1.heap.size w1 w2) : NewI B w2 A len cap zs :=
  ⟨h.isT.below hb, h.le, h.cap, h.new, fun a ha => Nat.lt_of_lt_of_le (h.lt a ha) hb.size⟩
theorem NewI.drew {B : Nat} {W : World} {A : Option Addr} {len cap : Nat} {zs : List Int} (h : NewI B W A len cap zs) : NewI B W.drew A len cap zs :=
  h.below ((Below.refl _ _).drew)
theorem NewI.alloc {B : Nat} {W : World} {A : Option Addr} {len cap : Nat} {zs : List Int} (h : NewI B W A len cap zs) (o : Obj) : NewI B (W.alloc o) A len cap zs :=
  h.below ((Below.refl _ _).alloc (Nat.le_refl _) o)
theorem NewI.setCell {B : Nat} {W : World} {A : Option Addr} {len cap : Nat} {zs : List Int} (h : NewI B W A len cap zs) {p : Addr} (hp : ∀ a, A = some a → a.block ≠ p.block) (v : Value) : NewI B (W.setCell p v) A len cap zs :=
  ⟨⟨h.isT.1, fun h0 => by
      obtain ⟨b, o, e, h1, h2⟩ := h.isT.2 h0
      refine ⟨b, o, e, by rw [World.size_setCell]; exact h1, fun j x hx i u hu => ?_⟩
      rw [World.cell?_setCell_other _ _ _ _ (fun e2 => hp _ e (by exact (congrArg Addr.block e2).symm))]
      exact h2 j x hx i u hu⟩, h.le, h.cap, h.new, fun a ha => by rw [World.size_setCell]; exact h.lt a ha⟩
theorem NewI.mono {B B' : Nat} {W : World} {A : Option Addr} {len cap : Nat} {zs : List Int} (h : NewI B W A len cap zs) (hB : B' ≤ B) : NewI B' W A len cap zs :=
  ⟨h.isT, h.le, h.cap, fun a ha => Nat.le_trans hB (h.new a ha), h.lt⟩
structure ZeroL (b n : Nat) (W : World) : Prop where
  lt : b < W.heap.size
  cell : ∀ j, j < n → W.cell? ⟨b, j, none⟩ = some (.int .i64 0)
  mark : ∀ j, j < n → W.frozen? ⟨b, j, none⟩ = false
theorem ZeroL.new (W : World) (n : Nat) (t : TypeId) (hn : n ≤ 1000000000000) : ZeroL W.heap.size n (W.alloc (.cells (madeCells #[.int .i64 0] n) t)) := by
  have hrow := World.ownsRow_lit (base := W.heap.size) (size := 1) (e := t) W (madeCells #[.int .i64 0] n) n (Nat.le_refl _) (by unfold maxLen; omega) (by rw [size_madeCells]; omega)
  refine ⟨by simp, fun j hj => ?_, fun j hj => hrow.frozenAt j⟩
  rw [hrow.cellAt j (by omega), toList_madeCells_one]
  simp [List.getElem?_replicate, hj]
theorem ZeroL.below {b n : Nat} {W W' : World} (h : ZeroL b n W) (hb : Below W.heap.size W W') : ZeroL b n W' :=
  ⟨Nat.lt_of_lt_of_le h.lt hb.size, fun j hj => (hb.cell (p := ⟨b, j, none⟩) h.lt).trans (h.cell j hj), fun j hj => (hb.frozen (p := ⟨b, j, none⟩) h.lt).trans (h.mark j hj)⟩
theorem ZeroL.drew {b n : Nat} {W : World} (h : ZeroL b n W) : ZeroL b n W.drew := h.below ((Below.refl _ _).drew)
theorem ZeroL.alloc {b n : Nat} {W : World} (h : ZeroL b n W) (o : Obj) : ZeroL b n (W.alloc o) := h.below ((Below.refl _ _).alloc (Nat.le_refl _) o)
theorem ZeroL.setCell {b n : Nat} {W : World} (h : ZeroL b n W) {p : Addr} (hp : b ≠ p.block) (v : Value) : ZeroL b n (W.setCell p v) :=
  ⟨by rw [World.size_setCell]; exact h.lt, fun j hj => by
      rw [World.cell?_setCell_other _ _ _ _ (fun e => hp (by exact (congrArg Addr.block e).symm))]; exact h.cell j hj, fun j hj => by rw [World.frozen?_setCell]; exact h.mark j hj⟩
end Go.Proofs.YtogcjgjhmlifgaaGreat
end
section
namespace Go.Proofs.YtogcjgjhmlifgaaGreat
set_option linter.unusedVariables false
set_option linter.unusedSimpArgs false
def val : List Int → Int
  | [] => 0
  | d :: r => d + 10000 * val r
def Digs (l : List Int) : Prop := ∀ d ∈ l, 0 ≤ d ∧ d < 10000
def Canon (l : List Int) : Prop := Digs l ∧ ∀ d, l.getLast? = some d → d ≠ 0
theorem Digs.tail {d : Int} {l : List Int} (h : Digs (d :: l)) : (0 ≤ d ∧ d < 10000) ∧ Digs l := ⟨h d (List.mem_cons_self ..), fun x hx => h x (List.mem_cons_of_mem _ hx)⟩
end Go.Proofs.YtogcjgjhmlifgaaGreat
end
section
namespace Go.Proofs.YtogcjgjhmlifgaaGreat
set_option linter.unusedVariables false
set_option linter.unusedSimpArgs false
open Go.RowKit
def IsI (w : World) (base : Nat) (A : Option Addr) (n : Nat) (P : List Int) : Prop :=
  P.length = n ∧ (0 < n → ∃ b o : Nat, A = some ⟨b, o, none⟩ ∧ base ≤ b ∧ b < w.heap.size ∧ ∀ j, j < n → w.cell? ⟨b, o + j, none⟩ = some (.int .i64 (P.getD j 0)))
theorem IsI.below {w w1 : World} {base n : Nat} {A : Option Addr} {P : List Int} (h : IsI w base A n P) (hb : Below w.heap.size w w1) : IsI w1 base A n P :=
  ⟨h.1, fun h0 => by
    obtain ⟨b, o, e, h1, h2, h3⟩ := h.2 h0
    exact ⟨b, o, e, h1, Nat.lt_of_lt_of_le h2 hb.size, fun j hj => (hb.cell (p := ⟨b, _, none⟩) h2).trans (h3 j hj)⟩⟩
theorem IsI.setCell {w : World} {base n : Nat} {A : Option Addr} {P : List Int} (h : IsI w base A n P) {p : Addr} (hp : p.block < base) (v : Value) : IsI (w.setCell p v) base A n P :=
  ⟨h.1, fun h0 => by
    obtain ⟨b, o, e, h1, h2, h3⟩ := h.2 h0
    refine ⟨b, o, e, h1, by rw [World.size_setCell]; exact h2, fun j hj => ?_⟩
    rw [World.cell?_setCell_other _ _ _ _ (by intro e; subst e; simp at hp; omega)]
    exact h3 j hj⟩
theorem IsI.mono {w : World} {base base' n : Nat} {A : Option Addr} {P : List Int} (h : IsI w base A n P) (hb : base' ≤ base) : IsI w base' A n P :=
  ⟨h.1, fun h0 => by
    obtain ⟨b, o, e, h1, h2, h3⟩ := h.2 h0
    exact ⟨b, o, e, Nat.le_trans hb h1, h2, h3⟩⟩
def BigV (w : World) (v : Value) (z : Int) : Prop :=
  ∃ (A : Option Addr) (n cap : Nat) (P : List Int), v = .agg #[.bool (decide (z < 0)), .slice A n cap] ∧ IsI w 0 A n P ∧ n ≤ cap ∧ n ≤ 64 ∧ Canon P ∧ val P = max z (-z)
theorem BigV.below {w w1 : World} {v : Value} {z : Int} (h : BigV w v z) (hb : Below w.heap.size w w1) : BigV w1 v z := by
  obtain ⟨A, n, cap, P, h1, h2, h3⟩ := h
  exact ⟨A, n, cap, P, h1, h2.below hb, h3⟩
def BigB (w : World) (base : Nat) (v : Value) (z : Int) : Prop :=
  ∃ (A : Option Addr) (n cap : Nat) (P : List Int), v = .agg #[.bool (decide (z < 0)), .slice A n cap] ∧ IsI w base A n P ∧ n ≤ cap ∧ n ≤ 64 ∧ Canon P ∧ val P = max z (-z)
theorem BigB.below {w w1 : World} {base : Nat} {v : Value} {z : Int} (h : BigB w base v z) (hb : Below w.heap.size w w1) : BigB w1 base v z := by
  obtain ⟨A, n, cap, P, h1, h2, h3⟩ := h
  exact ⟨A, n, cap, P, h1, h2.below hb, h3⟩
theorem BigB.mono {w : World} {base base' : Nat} {v : Value} {z : Int} (h : BigB w base v z) (hb : base' ≤ base) : BigB w base' v z := by
  obtain ⟨A, n, cap, P, h1, h2, h3⟩ := h
  exact ⟨A, n, cap, P, h1, h2.mono hb, h3⟩
theorem BigB.setCell {w : World} {base : Nat} {v : Value} {z : Int} (h : BigB w base v z) {p : Addr} (hp : p.block < base) (u : Value) : BigB (w.setCell p u) base v z := by
  obtain ⟨A, n, cap, P, h1, h2, h3⟩ := h
  exact ⟨A, n, cap, P, h1, h2.setCell hp u, h3⟩
end Go.Proofs.YtogcjgjhmlifgaaGreat
end
