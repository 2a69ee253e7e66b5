/- The specification's whole numbers of any length: how they lie in memory, and the contract of Of, over this seat's translation. -/
import Derived.Test.YtgfajfepmflfhaaBigP
import Derived.Laws.AppendOwn
import Derived.Laws.AppendOwnNone
import Derived.WalkKit
import Derived.Lib.Hide
namespace Go.Proofs.Ytgfajfepmflfhaa
set_option linter.unusedVariables false
set_option linter.unusedSimpArgs false
open Go.RowKit

theorem block_addB (a : Addr) (n : Nat) : (a.add n).block = a.block := by unfold Addr.add; split <;> rfl

/-- A list of ints, nil or not, from block base on. -/
def IsI (w : World) (base : Nat) (A : Option Addr) (n : Nat) (P : List Int) : Prop :=
  P.length = n ∧ (0 < n → ∃ b o : Nat, A = some ⟨b, o, none⟩ ∧ base ≤ b ∧ b < w.heap.size ∧ ∀ j, j < n → w.cell? ⟨b, o + j, none⟩ = some (.int .i64 (P.getD j 0)))
theorem IsI.below {w w1 : World} {base n : Nat} {A : Option Addr} {P : List Int} (h : IsI w base A n P) (hb : Below w.heap.size w w1) : IsI w1 base A n P :=
  ⟨h.1, fun h0 => by
    obtain ⟨b, o, e, h1, h2, h3⟩ := h.2 h0
    exact ⟨b, o, e, h1, Nat.lt_of_lt_of_le h2 hb.size, fun j hj => (hb.cell (p := ⟨b, _, none⟩) h2).trans (h3 j hj)⟩⟩
theorem IsI.setCell {w : World} {base n : Nat} {A : Option Addr} {P : List Int} (h : IsI w base A n P) {p : Addr} (hp : p.block < base) (v : Value) : IsI (w.setCell p v) base A n P :=
  ⟨h.1, fun h0 => by
    obtain ⟨b, o, e, h1, h2, h3⟩ := h.2 h0
    refine ⟨b, o, e, h1, by rw [World.size_setCell]; exact h2, fun j hj => ?_⟩
    rw [World.cell?_setCell_other _ _ _ _ (by intro e; subst e; simp at hp; omega)]
    exact h3 j hj⟩
theorem IsI.mono {w : World} {base base' n : Nat} {A : Option Addr} {P : List Int} (h : IsI w base A n P) (hb : base' ≤ base) : IsI w base' A n P :=
  ⟨h.1, fun h0 => by
    obtain ⟨b, o, e, h1, h2, h3⟩ := h.2 h0
    exact ⟨b, o, e, Nat.le_trans hb h1, h2, h3⟩⟩

theorem isI_of_own {w : World} {base n : Nat} {e : TypeId} {v : Value} {P : List Int} (h : w.ownsRow base e 1 v n (P.map (Value.int .i64))) : ∃ A cap, v = .slice A n cap ∧ n ≤ cap ∧ IsI w base A n P := by
  obtain ⟨hl, h⟩ := h
  have hn : P.length = n := by simpa using hl
  rcases h with ⟨rfl, rfl⟩ | ⟨g, cap, cur, rfl, hg, hh, hc, hm, hz, ht⟩
  · exact ⟨none, 0, rfl, Nat.le_refl _, hn, fun h => absurd h (by omega)⟩
  · have hlt : g < w.heap.size := by
      rcases Nat.lt_or_ge g w.heap.size with h | h
      · exact h
      · rw [Array.getElem?_eq_none h] at hh; cases hh
    refine ⟨_, cap, rfl, hc, hn, fun h0 => ⟨g, 0, rfl, hg, hlt, fun j hj => ?_⟩⟩
    rw [cell_of_row w g (0 + j) cur e (0, 0) hh, ← Array.getElem?_toList]
    have h1 : (cur.toList.take (n * 1))[j]? = (P.map (Value.int .i64))[j]? := by rw [ht]
    rw [List.getElem?_take_of_lt (by omega)] at h1
    rw [Nat.zero_add, h1, List.getElem?_map, List.getD_eq_getElem?_getD]
    have hjz : j < P.length := by omega
    simp [hjz]

/-- A value that is the number z. -/
def BigV (w : World) (v : Value) (z : Int) : Prop :=
  ∃ (A : Option Addr) (n cap : Nat) (P : List Int), v = .agg #[.bool (decide (z < 0)), .slice A n cap] ∧ IsI w 0 A n P ∧ n ≤ cap ∧ n ≤ 64 ∧ Canon P ∧ val P = max z (-z)
theorem BigV.below {w w1 : World} {v : Value} {z : Int} (h : BigV w v z) (hb : Below w.heap.size w w1) : BigV w1 v z := by
  obtain ⟨A, n, cap, P, h1, h2, h3⟩ := h
  exact ⟨A, n, cap, P, h1, h2.below hb, h3⟩

/-- The same, its digits from block base on. -/
def BigB (w : World) (base : Nat) (v : Value) (z : Int) : Prop :=
  ∃ (A : Option Addr) (n cap : Nat) (P : List Int), v = .agg #[.bool (decide (z < 0)), .slice A n cap] ∧ IsI w base A n P ∧ n ≤ cap ∧ n ≤ 64 ∧ Canon P ∧ val P = max z (-z)
theorem BigB.big {w : World} {base : Nat} {v : Value} {z : Int} (h : BigB w base v z) : BigV w v z := by
  obtain ⟨A, n, cap, P, h1, h2, h3⟩ := h
  exact ⟨A, n, cap, P, h1, h2.mono (Nat.zero_le _), h3⟩
theorem BigB.below {w w1 : World} {base : Nat} {v : Value} {z : Int} (h : BigB w base v z) (hb : Below w.heap.size w w1) : BigB w1 base v z := by
  obtain ⟨A, n, cap, P, h1, h2, h3⟩ := h
  exact ⟨A, n, cap, P, h1, h2.below hb, h3⟩
theorem BigB.mono {w : World} {base base' : Nat} {v : Value} {z : Int} (h : BigB w base v z) (hb : base' ≤ base) : BigB w base' v z := by
  obtain ⟨A, n, cap, P, h1, h2, h3⟩ := h
  exact ⟨A, n, cap, P, h1, h2.mono hb, h3⟩
theorem BigB.setCell {w : World} {base : Nat} {v : Value} {z : Int} (h : BigB w base v z) {p : Addr} (hp : p.block < base) (u : Value) : BigB (w.setCell p u) base v z := by
  obtain ⟨A, n, cap, P, h1, h2, h3⟩ := h
  exact ⟨A, n, cap, P, h1, h2.setCell hp u, h3⟩

/-- What a call that makes a number in new memory leaves. -/
def RetNew (base : Nat) (z : Int) (w : World) (e : Ending) (w' : World) : Prop := ∃ v, e = .returned v ∧ BigB w' base v z ∧ Below w.heap.size w w'

/-- What a call that makes a number leaves. -/
def RetBig (z : Int) (w : World) (e : Ending) (w' : World) : Prop := ∃ v, e = .returned v ∧ BigV w' v z ∧ Below w.heap.size w w'

theorem below_grownB {B : Nat} {w0 w w1 : World} {e : TypeId} {v : Value} {n : Nat} {xs : List Value} (h : Below B w0 w) (hown : w.ownsRow B e 1 v n xs) (hg : w.grownBy w1 v.ownBlock) (hB : B ≤ w.heap.size) : Below B w0 w1 := by
  refine h.grown hg hB (fun k hk => ?_)
  rcases hown.2 with ⟨rfl, _⟩ | ⟨g, cap, cur, rfl, hb, _⟩
  · simp [Value.ownBlock] at hk
  · simp [Value.ownBlock] at hk
    omega

/-- append of one int that lies in a new block. -/
theorem append_int {ops : Array Oper} {rest : List Oper} {o : Oper} {a : Act} {Q : Exit → Act → World → Prop} {w : World} (hgd : o.guard = none) (s x : Operand)
    (ho : o.op = .call { callee := .builtin .append, args := #[s, x], argTypes := #[39, 39] })
    (base : Nat) (v : Value) (n : Nat) (xs : List Value) (hs : a.eval s = v) (hown : w.ownsRow base 3 1 v n xs)
    (k : Int) (hx : a.eval x = .slice (some ⟨w.heap.size, 0, none⟩) 1 1) (hb : n + 1 ≤ 4194304) (hbase : base ≤ w.heap.size)
    (h : ∀ (A' : Option Addr) (cap' : Nat) w', w'.ownsRow base 3 1 (.slice A' (n + 1) cap') (n + 1) (xs ++ [.int .i64 k]) → Below base w w' → wpList Try.prog ops Q rest (a.put o.dst (.slice A' (n + 1) cap')) w') : wpList Try.prog ops Q (o :: rest) a (w.alloc (.cells #[.int .i64 k] 3)) := by
  have hI0 : (Try.prog.info? 3).map (fun i => (i.zero, i.size, i.bytes)) = some (some (.int .i64 0), 1, 8) := by kernel_rfl
  obtain ⟨i0, hi, hz0, hz1, hz2⟩ := info_parts hI0
  refine wpList_append_own _ hgd s x 39 ho base 3 i0 (.int .i64 0) 1 8 Try.underlying39 hi hz0 hz1 hz2 rfl (by decide) v n xs hs (hown.alloc _) ⟨w.heap.size, 0, none⟩ 1 1 [.int .i64 k] hx rfl (fun j u hu => ?_) (fun u hu => ?_) (by unfold maxLen; omega) (by omega) (by simp; omega) (fun v' w' h5 h6 _ => by
    have hb' := below_grownB ((Below.refl _ _).alloc hbase _) (hown.alloc _) h6 (by simp; omega)
    obtain ⟨A', cap', rfl⟩ : ∃ A' cap', v' = .slice A' (n + 1) cap' := by
      rcases h5.2 with ⟨_, h0⟩ | ⟨g, cap, cur, rfl, _⟩
      · omega
      · exact ⟨_, _, rfl⟩
    exact h A' cap' w' h5 hb')
  · rcases j with _ | j
    · simp at hu
      subst hu
      simp [Addr.add, go_sem]
    · simp at hu
  · simp at hu
    subst hu
    rfl

/-- A struct of two cells, behind its last store, as the one result. -/
theorem res2b {fn : Func} {p : Tmp} (h : fn.results = #[.cell p 41]) (tmps : Array Value) (W : World) (b : Nat) (x y : Value)
    (hp : tmps.getD p undef = .pointer (some ⟨b, 0, none⟩)) (h0 : (W.cell? ⟨b, 0, none⟩).isSome = true) (h1 : (W.cell? ⟨b, 1, none⟩).isSome = true) :
    (results fn tmps).run Try.prog ((W.setCell ⟨b, 0, none⟩ x).setCell ⟨b, 1, none⟩ y) = .ok (.agg #[x, y]) ((W.setCell ⟨b, 0, none⟩ x).setCell ⟨b, 1, none⟩ y) := by
  have n1 : (⟨b, 1, none⟩ : Addr) ≠ ⟨b, 0, none⟩ := by simp
  have n0 : (⟨b, 0, none⟩ : Addr) ≠ ⟨b, 1, none⟩ := by simp
  have e1 : ((W.setCell ⟨b, 0, none⟩ x).setCell ⟨b, 1, none⟩ y).cell? ⟨b, 0, none⟩ = some x :=
    (World.cell?_setCell_other _ _ _ _ n1).trans (World.cell?_setCell_same' _ _ _ h0)
  have e2 : ((W.setCell ⟨b, 0, none⟩ x).setCell ⟨b, 1, none⟩ y).cell? ⟨b, 1, none⟩ = some y :=
    World.cell?_setCell_same' _ _ _ (by rw [World.cell?_setCell_other _ _ _ _ n0]; exact h1)
  have hp' : tmps[p]?.getD undef = .pointer (some ⟨b, 0, none⟩) := by simpa using hp
  simp only [results, h]
  simp [Sem.run_bind, Result.andThen, go_sem, hp', e1, e2]

theorem own_setCell {w : World} {base n : Nat} {e : TypeId} {v : Value} {xs : List Value} (h : w.ownsRow base e 1 v n xs) {p : Addr} (hp : p.block < base) (u : Value) : (w.setCell p u).ownsRow base e 1 v n xs := by
  refine ⟨h.1, ?_⟩
  rcases h.2 with h0 | ⟨g, cap, cur, h1, h2, h3, h4⟩
  · exact .inl h0
  · exact .inr ⟨g, cap, cur, h1, h2, (Below.heap_setCell _ _ _ _ (by omega)).trans h3, h4⟩

end Go.Proofs.Ytgfajfepmflfhaa
