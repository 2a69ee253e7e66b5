import Derived.Test.YtnplgnennmhkeaaJAA
import Derived.Test.YtnplgnennmhkeaaJAG
import Derived.Laws.OwnMore
import Derived.Deep.OwnRows
import Derived.Laws.AppendOwn
import Derived.Laws.AppendOwnNone
import Derived.WalkKit
import Derived.Lib.Hide
import Derived.Deep.RegionHeld3
import Derived.Deep.AppendLies
section
/- Lists of whole numbers in new memory: slices.Clone, over this seat's translation. -/
namespace Go.Proofs.Ytnplgnennmhkeaa
set_option linter.unusedVariables false
set_option linter.unusedSimpArgs false
open Go.RowKit Go.Shelf

/-- A list of whole numbers that lies in the blocks from B on. -/
structure NewI (B : Nat) (w' : World) (A : Option Addr) (len cap : Nat) (zs : List Int) : Prop where
  isT : IsT 1 intCells w' A len zs
  le : len ≤ cap
  cap : cap ≤ maxLen
  new : ∀ a, A = some a → B ≤ a.block
  lt : ∀ a, A = some a → a.block < w'.heap.size
theorem NewI.below {B : Nat} {w1 w2 : World} {A : Option Addr} {len cap : Nat} {zs : List Int} (h : NewI B w1 A len cap zs) (hb : Below w1.heap.size w1 w2) : NewI B w2 A len cap zs :=
  ⟨h.isT.below hb, h.le, h.cap, h.new, fun a ha => Nat.lt_of_lt_of_le (h.lt a ha) hb.size⟩

theorem NewI.drew {B : Nat} {W : World} {A : Option Addr} {len cap : Nat} {zs : List Int} (h : NewI B W A len cap zs) : NewI B W.drew A len cap zs :=
  h.below ((Below.refl _ _).drew)
theorem NewI.alloc {B : Nat} {W : World} {A : Option Addr} {len cap : Nat} {zs : List Int} (h : NewI B W A len cap zs) (o : Obj) : NewI B (W.alloc o) A len cap zs :=
  h.below ((Below.refl _ _).alloc (Nat.le_refl _) o)
theorem NewI.setCell {B : Nat} {W : World} {A : Option Addr} {len cap : Nat} {zs : List Int} (h : NewI B W A len cap zs) {p : Addr} (hp : ∀ a, A = some a → a.block ≠ p.block) (v : Value) : NewI B (W.setCell p v) A len cap zs :=
  ⟨⟨h.isT.1, fun h0 => by
      obtain ⟨b, o, e, h1, h2⟩ := h.isT.2 h0
      refine ⟨b, o, e, by rw [World.size_setCell]; exact h1, fun j x hx i u hu => ?_⟩
      rw [World.cell?_setCell_other _ _ _ _ (fun e2 => hp _ e (by first | exact congrArg Addr.block e2 | exact (congrArg Addr.block e2).symm))]
      exact h2 j x hx i u hu⟩, h.le, h.cap, h.new, fun a ha => by rw [World.size_setCell]; exact h.lt a ha⟩
theorem NewI.mono {B B' : Nat} {W : World} {A : Option Addr} {len cap : Nat} {zs : List Int} (h : NewI B W A len cap zs) (hB : B' ≤ B) : NewI B' W A len cap zs :=
  ⟨h.isT, h.le, h.cap, fun a ha => Nat.le_trans hB (h.new a ha), h.lt⟩

/-- Block b begins with n zeros, none marked. -/
structure ZeroL (b n : Nat) (W : World) : Prop where
  lt : b < W.heap.size
  cell : ∀ j, j < n → W.cell? ⟨b, j, none⟩ = some (.int .i64 0)
  mark : ∀ j, j < n → W.frozen? ⟨b, j, none⟩ = false
theorem ZeroL.new (W : World) (n : Nat) (t : TypeId) (hn : n ≤ 1000000000000) : ZeroL W.heap.size n (W.alloc (.cells (madeCells #[.int .i64 0] n) t)) := by
  have hrow := World.ownsRow_lit (base := W.heap.size) (size := 1) (e := t) W (madeCells #[.int .i64 0] n) n (Nat.le_refl _) (by unfold maxLen; omega) (by rw [size_madeCells]; omega)
  refine ⟨by simp, fun j hj => ?_, fun j hj => hrow.frozenAt j⟩
  rw [hrow.cellAt j (by omega), toList_madeCells_one]
  simp [List.getElem?_replicate, hj]
theorem ZeroL.below {b n : Nat} {W W' : World} (h : ZeroL b n W) (hb : Below W.heap.size W W') : ZeroL b n W' :=
  ⟨Nat.lt_of_lt_of_le h.lt hb.size, fun j hj => (hb.cell (p := ⟨b, j, none⟩) h.lt).trans (h.cell j hj), fun j hj => (hb.frozen (p := ⟨b, j, none⟩) h.lt).trans (h.mark j hj)⟩
theorem ZeroL.drew {b n : Nat} {W : World} (h : ZeroL b n W) : ZeroL b n W.drew := h.below ((Below.refl _ _).drew)
theorem ZeroL.alloc {b n : Nat} {W : World} (h : ZeroL b n W) (o : Obj) : ZeroL b n (W.alloc o) := h.below ((Below.refl _ _).alloc (Nat.le_refl _) o)
theorem ZeroL.setCell {b n : Nat} {W : World} (h : ZeroL b n W) {p : Addr} (hp : b ≠ p.block) (v : Value) : ZeroL b n (W.setCell p v) :=
  ⟨by rw [World.size_setCell]; exact h.lt, fun j hj => by
      rw [World.cell?_setCell_other _ _ _ _ (fun e => hp (by first | exact congrArg Addr.block e | exact (congrArg Addr.block e).symm))]; exact h.cell j hj, fun j hj => by rw [World.frozen?_setCell]; exact h.mark j hj⟩
theorem newI_of_row {B : Nat} {w' : World} {e : TypeId} {v : Value} {n : Nat} {zs : List Int} (hz : zs.length = n) (h : w'.ownsRow B e 1 v n (zs.map (Value.int .i64))) :
    ∃ (A : Option Addr) (cap : Nat), v = .slice A n cap ∧ NewI B w' A n cap zs := by
  have h2 := h.2
  rcases h2 with ⟨hv, hn⟩ | ⟨g, cap, cur, hv, hB, hg, hc, hm, hs, ht⟩
  · subst hn
    exact ⟨none, 0, hv, ⟨⟨hz, fun h0 => absurd h0 (by omega)⟩, Nat.le_refl _, Nat.zero_le _, (fun a ha => by cases ha), (fun a ha => by cases ha)⟩⟩
  · subst hv
    refine ⟨_, cap, rfl, ⟨⟨hz, fun h0 => ⟨g, 0, rfl, ?_, fun j x hx i v hv => ?_⟩⟩, hc, hm, fun a ha => ?_, fun a ha => ?_⟩⟩
    · exact (Array.getElem?_eq_some_iff.1 hg).1
    · have hj : j < n := by rw [← hz]; exact (List.getElem?_eq_some_iff.1 hx).1
      have hi : i = 0 := by
        have := (List.getElem?_eq_some_iff.1 hv).1
        simp [intCells] at this; omega
      subst hi
      have hc := h.cellAt j (by omega)
      rw [List.getElem?_map, hx] at hc
      have hv' : v = .int .i64 x := by simpa [intCells] using hv.symm
      subst hv'
      simpa using hc
    · obtain rfl := Option.some.inj ha
      exact hB
    · obtain rfl := Option.some.inj ha
      exact (Array.getElem?_eq_some_iff.1 hg).1

end Go.Proofs.Ytnplgnennmhkeaa
end
section
/- Blocks whose cells are known, carried on as long as the memory below stays, over this seat's translation (written by mk_whc.py). -/
namespace Go.Proofs.Ytnplgnennmhkeaa
set_option linter.unusedVariables false
set_option linter.unusedSimpArgs false
open Go.RowKit

/-- Block b holds the values vs from its first cell on. -/
def BoxL (b : Nat) (vs : List Value) (W : World) : Prop := b < W.heap.size ∧ ∀ (k : Nat) (v : Value), vs[k]? = some v → W.cell? ⟨b, k, none⟩ = some v
theorem BoxL.at {b : Nat} {vs : List Value} {W : World} (h : BoxL b vs W) (k : Nat) (v : Value) (hv : vs[k]? = some v) : W.cell? ⟨b, k, none⟩ = some v := h.2 k v hv
theorem BoxL.below {b : Nat} {vs : List Value} {W W' : World} (h : BoxL b vs W) (hb : Below W.heap.size W W') : BoxL b vs W' :=
  ⟨Nat.lt_of_lt_of_le h.1 hb.size, fun k v hv => (hb.cell (p := ⟨b, k, none⟩) h.1).trans (h.2 k v hv)⟩
/-- The first n cells of block b bear no mark. -/
def MarkL (b n : Nat) (W : World) : Prop := b < W.heap.size ∧ ∀ k, k < n → W.frozen? ⟨b, k, none⟩ = false
theorem MarkL.at {b n : Nat} {W : World} (h : MarkL b n W) (k : Nat) (hk : k < n) : W.frozen? ⟨b, k, none⟩ = false := h.2 k hk
theorem MarkL.below {b n : Nat} {W W' : World} (h : MarkL b n W) (hb : Below W.heap.size W W') : MarkL b n W' :=
  ⟨Nat.lt_of_lt_of_le h.1 hb.size, fun k hk => (hb.frozen (p := ⟨b, k, none⟩) h.1).trans (h.2 k hk)⟩
end Go.Proofs.Ytnplgnennmhkeaa
end
section
/- Plain arithmetic of numbers in digits of base 10,000, the lowest first. -/
namespace Go.Proofs.Ytnplgnennmhkeaa
set_option linter.unusedVariables false
set_option linter.unusedSimpArgs false

/-- The number that digits make. -/
def val : List Int → Int
  | [] => 0
  | d :: r => d + 10000 * val r
def Digs (l : List Int) : Prop := ∀ d ∈ l, 0 ≤ d ∧ d < 10000
/-- No high zeros. -/
def Canon (l : List Int) : Prop := Digs l ∧ ∀ d, l.getLast? = some d → d ≠ 0

theorem neg_tmod (m : Int) (h : 0 ≤ m) : (-m).tmod 10000 = -(m % 10000) := by rw [Int.neg_tmod, Int.tmod_eq_emod_of_nonneg h]
theorem neg_tdiv (m : Int) (h : 0 ≤ m) : (-m).tdiv 10000 = -(m / 10000) := by rw [Int.neg_tdiv, Int.tdiv_eq_ediv_of_nonneg h]

end Go.Proofs.Ytnplgnennmhkeaa
end
section
/- The specification's whole numbers of any length: how they lie in memory, and the contract of Of, over this seat's translation. -/
namespace Go.Proofs.Ytnplgnennmhkeaa
set_option linter.unusedVariables false
set_option linter.unusedSimpArgs false
open Go.RowKit

/-- A list of ints, nil or not, from block base on. -/
def IsI (w : World) (base : Nat) (A : Option Addr) (n : Nat) (P : List Int) : Prop :=
  P.length = n ∧ (0 < n → ∃ b o : Nat, A = some ⟨b, o, none⟩ ∧ base ≤ b ∧ b < w.heap.size ∧ ∀ j, j < n → w.cell? ⟨b, o + j, none⟩ = some (.int .i64 (P.getD j 0)))
theorem IsI.below {w w1 : World} {base n : Nat} {A : Option Addr} {P : List Int} (h : IsI w base A n P) (hb : Below w.heap.size w w1) : IsI w1 base A n P :=
  ⟨h.1, fun h0 => by
    obtain ⟨b, o, e, h1, h2, h3⟩ := h.2 h0
    exact ⟨b, o, e, h1, Nat.lt_of_lt_of_le h2 hb.size, fun j hj => (hb.cell (p := ⟨b, _, none⟩) h2).trans (h3 j hj)⟩⟩
theorem IsI.setCell {w : World} {base n : Nat} {A : Option Addr} {P : List Int} (h : IsI w base A n P) {p : Addr} (hp : p.block < base) (v : Value) : IsI (w.setCell p v) base A n P :=
  ⟨h.1, fun h0 => by
    obtain ⟨b, o, e, h1, h2, h3⟩ := h.2 h0
    refine ⟨b, o, e, h1, by rw [World.size_setCell]; exact h2, fun j hj => ?_⟩
    rw [World.cell?_setCell_other _ _ _ _ (by intro e; subst e; simp at hp; omega)]
    exact h3 j hj⟩
theorem IsI.mono {w : World} {base base' n : Nat} {A : Option Addr} {P : List Int} (h : IsI w base A n P) (hb : base' ≤ base) : IsI w base' A n P :=
  ⟨h.1, fun h0 => by
    obtain ⟨b, o, e, h1, h2, h3⟩ := h.2 h0
    exact ⟨b, o, e, Nat.le_trans hb h1, h2, h3⟩⟩

/-- A value that is the number z. -/
def BigV (w : World) (v : Value) (z : Int) : Prop :=
  ∃ (A : Option Addr) (n cap : Nat) (P : List Int), v = .agg #[.bool (decide (z < 0)), .slice A n cap] ∧ IsI w 0 A n P ∧ n ≤ cap ∧ n ≤ 64 ∧ Canon P ∧ val P = max z (-z)
theorem BigV.below {w w1 : World} {v : Value} {z : Int} (h : BigV w v z) (hb : Below w.heap.size w w1) : BigV w1 v z := by
  obtain ⟨A, n, cap, P, h1, h2, h3⟩ := h
  exact ⟨A, n, cap, P, h1, h2.below hb, h3⟩

/-- The same, its digits from block base on. -/
def BigB (w : World) (base : Nat) (v : Value) (z : Int) : Prop :=
  ∃ (A : Option Addr) (n cap : Nat) (P : List Int), v = .agg #[.bool (decide (z < 0)), .slice A n cap] ∧ IsI w base A n P ∧ n ≤ cap ∧ n ≤ 64 ∧ Canon P ∧ val P = max z (-z)
theorem BigB.below {w w1 : World} {base : Nat} {v : Value} {z : Int} (h : BigB w base v z) (hb : Below w.heap.size w w1) : BigB w1 base v z := by
  obtain ⟨A, n, cap, P, h1, h2, h3⟩ := h
  exact ⟨A, n, cap, P, h1, h2.below hb, h3⟩
theorem BigB.mono {w : World} {base base' : Nat} {v : Value} {z : Int} (h : BigB w base v z) (hb : base' ≤ base) : BigB w base' v z := by
  obtain ⟨A, n, cap, P, h1, h2, h3⟩ := h
  exact ⟨A, n, cap, P, h1, h2.mono hb, h3⟩
theorem BigB.setCell {w : World} {base : Nat} {v : Value} {z : Int} (h : BigB w base v z) {p : Addr} (hp : p.block < base) (u : Value) : BigB (w.setCell p u) base v z := by
  obtain ⟨A, n, cap, P, h1, h2, h3⟩ := h
  exact ⟨A, n, cap, P, h1, h2.setCell hp u, h3⟩

theorem below_grownB {B : Nat} {w0 w w1 : World} {e : TypeId} {v : Value} {n : Nat} {xs : List Value} (h : Below B w0 w) (hown : w.ownsRow B e 1 v n xs) (hg : w.grownBy w1 v.ownBlock) (hB : B ≤ w.heap.size) : Below B w0 w1 := by
  refine h.grown hg hB (fun k hk => ?_)
  rcases hown.2 with ⟨rfl, _⟩ | ⟨g, cap, cur, rfl, hb, _⟩
  · simp [Value.ownBlock] at hk
  · simp [Value.ownBlock] at hk
    omega

/-- append of one int that lies in a new block. -/
theorem append_int {ops : Array Oper} {rest : List Oper} {o : Oper} {a : Act} {Q : Exit → Act → World → Prop} {w : World} (hgd : o.guard = none) (s x : Operand)
    (ho : o.op = .call { callee := .builtin .append, args := #[s, x], argTypes := #[56, 56] })
    (base : Nat) (v : Value) (n : Nat) (xs : List Value) (hs : a.eval s = v) (hown : w.ownsRow base 3 1 v n xs)
    (k : Int) (hx : a.eval x = .slice (some ⟨w.heap.size, 0, none⟩) 1 1) (hb : n + 1 ≤ 4194304) (hbase : base ≤ w.heap.size)
    (h : ∀ (A' : Option Addr) (cap' : Nat) w', w'.ownsRow base 3 1 (.slice A' (n + 1) cap') (n + 1) (xs ++ [.int .i64 k]) → Below base w w' → wpList Try.prog ops Q rest (a.put o.dst (.slice A' (n + 1) cap')) w') : wpList Try.prog ops Q (o :: rest) a (w.alloc (.cells #[.int .i64 k] 3)) := by
  have hI0 : (Try.prog.info? 3).map (fun i => (i.zero, i.size, i.bytes)) = some (some (.int .i64 0), 1, 8) := by kernel_rfl
  obtain ⟨i0, hi, hz0, hz1, hz2⟩ := info_parts hI0
  refine wpList_append_own _ hgd s x 56 ho base 3 i0 (.int .i64 0) 1 8 Try.underlying56 hi hz0 hz1 hz2 rfl (by decide) v n xs hs (hown.alloc _) ⟨w.heap.size, 0, none⟩ 1 1 [.int .i64 k] hx rfl (fun j u hu => ?_) (fun u hu => ?_) (by unfold maxLen; omega) (by omega) (by simp; omega) (fun v' w' h5 h6 _ => by
    have hb' := below_grownB ((Below.refl _ _).alloc hbase _) (hown.alloc _) h6 (by simp; omega)
    obtain ⟨A', cap', rfl⟩ : ∃ A' cap', v' = .slice A' (n + 1) cap' := by
      rcases h5.2 with ⟨_, h0⟩ | ⟨g, cap, cur, rfl, _⟩
      · omega
      · exact ⟨_, _, rfl⟩
    exact h A' cap' w' h5 hb')
  · rcases j with _ | j
    · simp at hu
      subst hu
      simp [Addr.add, go_sem]
    · simp at hu
  · simp at hu
    subst hu
    rfl

end Go.Proofs.Ytnplgnennmhkeaa
end
section
/- The specification of layer 2: From, over this seat's translation (written by mk_from.py). -/
namespace Go.Proofs.Ytnplgnennmhkeaa
set_option linter.unusedVariables false
set_option linter.unusedSimpArgs false
open Go.RowKit Go.Shelf

end Go.Proofs.Ytnplgnennmhkeaa
end
section
/- The specification of layer 2: All, over this seat's translation (written by mk_all.py). -/
namespace Go.Proofs.Ytnplgnennmhkeaa
set_option linter.unusedVariables false
set_option linter.unusedSimpArgs false
open Go.RowKit Go.Shelf

end Go.Proofs.Ytnplgnennmhkeaa
end
section
/- Rows of cells in memory of one's own: filled cell by cell, and appended to empty literals, over this seat's translation. -/
namespace Go.Proofs.Ytnplgnennmhkeaa
set_option linter.unusedVariables false
set_option linter.unusedSimpArgs false
open Go.RowKit Go.Shelf

/-- Block b holds just the values vs, none marked. -/
structure RowL (b : Nat) (vs : List Value) (W : World) : Prop where
  lt : b < W.heap.size
  cell : ∀ (j : Nat) (v : Value), vs[j]? = some v → W.cell? ⟨b, j, none⟩ = some v
  mark : ∀ j, j < vs.length → W.frozen? ⟨b, j, none⟩ = false
theorem RowL.below {b : Nat} {vs : List Value} {W W' : World} (h : RowL b vs W) (hb : Below W.heap.size W W') : RowL b vs W' :=
  ⟨Nat.lt_of_lt_of_le h.lt hb.size, fun j v hv => (hb.cell (p := ⟨b, j, none⟩) h.lt).trans (h.cell j v hv), fun j hj => (hb.frozen (p := ⟨b, j, none⟩) h.lt).trans (h.mark j hj)⟩
theorem RowL.new (W : World) (cs : Array Value) (t : TypeId) : RowL W.heap.size cs.toList (W.alloc (.cells cs t)) := by
  refine ⟨by simp, fun j v hv => ?_, fun j hj => ?_⟩
  · rw [Array.getElem?_toList] at hv
    unfold World.cell?
    rw [heap_alloc_new]
    simpa using hv
  · unfold World.frozen?
    rw [heap_alloc_new]
    simp
theorem RowL.drew {b : Nat} {vs : List Value} {W : World} (h : RowL b vs W) : RowL b vs W.drew := h.below ((Below.refl _ _).drew)
theorem RowL.alloc {b : Nat} {vs : List Value} {W : World} (h : RowL b vs W) (o : Obj) : RowL b vs (W.alloc o) := h.below ((Below.refl _ _).alloc (Nat.le_refl _) o)
theorem RowL.far {b : Nat} {vs : List Value} {W : World} (h : RowL b vs W) {p : Addr} (hp : b ≠ p.block) (v : Value) : RowL b vs (W.setCell p v) :=
  ⟨by rw [World.size_setCell]; exact h.lt, fun j u hu => by
      rw [World.cell?_setCell_other _ _ _ _ (fun e => hp (by first | exact congrArg Addr.block e | exact (congrArg Addr.block e).symm))]; exact h.cell j u hu, fun j hj => by rw [World.frozen?_setCell]; exact h.mark j hj⟩
theorem RowL.put {b : Nat} {vs : List Value} {W : World} (h : RowL b vs W) (k : Nat) (v : Value) (hk : k < vs.length) : RowL b (vs.set k v) (W.setCell ⟨b, k, none⟩ v) :=
  ⟨by rw [World.size_setCell]; exact h.lt, fun j u hu => by
      by_cases e : j = k
      · subst e
        rw [List.getElem?_set_self hk] at hu
        obtain rfl := Option.some.inj hu
        exact World.cell?_setCell_same' _ _ _ (by rw [h.cell j _ (List.getElem?_eq_getElem hk)]; rfl)
      · rw [World.cell?_setCell_other _ _ _ _ (fun h2 => by
          have := congrArg Addr.off h2
          dsimp only at this
          omega)]
        exact h.cell j u (by rwa [List.getElem?_set_ne (Ne.symm e)] at hu), fun j hj => by rw [World.frozen?_setCell]; exact h.mark j (by simpa using hj)⟩
theorem RowL.isI {b : Nat} {zs : List Int} {W : World} (h : RowL b (zs.map (Value.int .i64)) W) {n : Nat} (hn : zs.length = n) : IsT 1 intCells W (some ⟨b, 0, none⟩) n zs := by
  refine ⟨hn, fun _ => ⟨b, 0, rfl, h.lt, fun j x hx i v hv => ?_⟩⟩
  have hi : i = 0 := by
    have := (List.getElem?_eq_some_iff.1 hv).1
    simp [intCells] at this; omega
  subst hi
  have hv' : v = .int .i64 x := by simpa [intCells] using hv.symm
  subst hv'
  rw [show (0 + j * 1 + 0 : Nat) = j by omega]
  exact h.cell j _ (by rw [List.getElem?_map, hx]; rfl)
theorem ZeroL.row {b n : Nat} {W : World} (h : ZeroL b n W) : RowL b (List.replicate n (.int .i64 0)) W :=
  ⟨h.lt, fun j v hv => by
    have hj := (List.getElem?_eq_some_iff.1 hv).1
    rw [List.length_replicate] at hj
    rw [List.getElem?_replicate, if_pos hj] at hv
    obtain rfl := Option.some.inj hv
    exact h.cell j hj, fun j hj => h.mark j (by simpa using hj)⟩
/-- The first j of a row of n are laid. -/
theorem fill_set (T : List Value) (n j : Nat) (z v : Value) (hl : T.length = n) (hv : T[j]? = some v) : (T.take j ++ List.replicate (n - j) z).set j v = T.take (j + 1) ++ List.replicate (n - (j + 1)) z := by
  obtain ⟨hj, rfl⟩ := List.getElem?_eq_some_iff.1 hv
  have h1 : (T.take j).length = j := by rw [List.length_take]; omega
  rw [List.set_append_right _ _ (by omega), h1, Nat.sub_self, show n - j = (n - (j + 1)) + 1 by omega, List.replicate_succ, List.set_cons_zero, List.take_succ_eq_append_getElem hj, List.append_assoc]; rfl

end Go.Proofs.Ytnplgnennmhkeaa
end
